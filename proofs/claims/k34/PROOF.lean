import PyProof.Rows.All
import Wide.All
import OpenK.AllK
import Wide.FinOn
import Lean
import PyProof.EqAt
import PyProof.EqKinds
import PyProof.TupleCall
import PyProof.StrBlock2
import KE.KDictOf
import PyProof.AttrMissHeap
import KE.KRevSl
import KE.KDictSum
import PyProof.Rows.SortStr
import PySem.Challenge.RW_gapscribe_k34_kinds_are_most_general
set_option compiler.extract_closed false
set_option bootstrap.genMatcherCode false
set_option genSizeOfSpec false
set_option Elab.async false
set_option linter.all false
set_option maxRecDepth 100000
open Array renaming length_toList->R6
open Bool renaming false_ne_true->Pf,and_eq_true->Q4,false_eq_true->Sv,eq_iff_iff->Sa,or_false->Up
open Classical renaming choose_spec->R5
open False renaming elim->Q0
open Int renaming toNat_natCast->Qy,emod_lt_of_pos->Rp,emod_nonneg->Rf
open List renaming getElem?_eq_getElem->O1,getElem?_eq_some_iff->Pa,size_toArray->O4,length_append->O7,length_map->O6,mem_cons->O5,length_cons->Pb,not_mem_nil->Pd,getElem?_append_right->Px,mem_singleton->Pi,getElem?_append_left->Py,length_singleton->Pr,getElem?_map->Po,mem_append->Pm,getD_eq_getElem?_getD->Qd,mem_cons_of_mem->P4,length_take->Pt,append_nil->Pw,mem_of_getElem?->Qb,append_assoc->P5,mem_append_right->Qg,eq_nil_of_length_eq_zero->Q1,map_append->P6,length_set->P8,take_of_length_le->Qw,mem_append_left->Qq,range->Pk,drop_eq_getElem_cons->Q9,replicate->Qc,map_cons->Qa,getElem?_set_self->Rk,take_succ->Qn,take_length->Qz,flatten_cons->Q3,eq_nil_or_concat->Rl,concat_eq_append->Rm,getElem_mem->Q5,append_inj'->Q7,lookup_cons->Rc,cons_append->Re,drop_of_length_le->So,all_eq_true->Rr,getElem?_eq_none->Sq,length->Qt,take_add_one->R9,mem_map->Q8,replicate_succ->Sr,mem_cons_self->Ss,prefix_append->Sw,forIn_cons->Sb,find?_cons->Sd,getElem?_set_ne->T7,length_reverse->Ua,of_mem_zip->Sy,forIn_nil->Te,length_drop->Ud,getElem?_mapIdx->U7,any_cons->Th,dropLast_concat_getLast->V1,filterMap_cons->U8,nodup_cons->Ug,nil_append->Ui,flatMap_append->U9,flatten_append->Va,map_map->Tj,zip_cons_cons->Vg,length_mapIdx->Vh,mem_range->Um,all_cons->Uq,drop_length->Vp,mem_filter->Vr,foldl_cons->Vs,prefix_rfl->Vu,length_zip->Vv
open Nat renaming le_refl->O2,lt_of_lt_of_le->Pl,ne_of_lt->Pe,zero_le->Pp,le_trans->P7,lt_irrefl->Qj,le_add_right->Q6,ne_of_gt->Qo,not_lt_zero->Rt,sub_self->Ri,zero_add->Rj,lt_succ_of_lt->Sx,pow_le_pow_right->T9,min_eq_left->Tb,le_succ->Tk,lt_succ_self->Vn,le_of_lt->Us,succ_pos->Ux
open Ne renaming symm->P0
open Option renaming isSome_iff_exists->Q2,map_eq_some_iff->U3,map_some->Ul,isSome_map->Vm
open Option.some renaming inj->Pg
open PyProof.Rows renaming callWith_type1->Qp,slot_tuple_getitem->Ry,boot_enumerate->V2,assignInOrder_cons->Vd
open PySem renaming wpAny_bind->O0,wpAny_pure->O3,wpAny_field->Pj,wpAny_callSpecial?_slot->Qv,wpAny_setField_rec->Qx,wpAny_call_entry->Qr,wpAny_holding->Qk,wpAny_seqItems->Qs,wpAny_newObj_type->Rb,mem_of_lookup->Rn,builtinLookup_eq_fast->R3,wpAny_truthy_bool->Rq,tupleKind_room_in1->R7,wpAny_passesOwn->Rs,wpAny_getItem_str_slice->Tx,wpAny_pyIter_tuple->Su,typeLookup_type->Sc,wpAny_attempt->Se,wpAny_specialOf->Sz,wpAny_updateSeq->Ta,Params->Sf,noFill_tuple_add->Uc,wpAny_isInstance->Ue,wpAny_pyIter_revIter->U5,wpAny_updateSeq_pair->U6,wpAny_standAt->Tg,plainId_quiet->Ti,wpAny_execs_nil->Uf,post_val_or_str->Uj,codeAny_builtin->Uk,wpAny_Call_Name_kw->Ve,wpAny_mono->Si,wpAny_rule->Sj,call_meets->Sk,wpAny_pyIter_enum->Vk,Stmt->Sl,seq_tuple_add->Uo,wpAny_onRaise->Ur,wpAny_pyIter_zip->Vo,concat_meets->Ut,wpAny_typeOf->Uu,revObj->Uw,call_meetsIn->Uy,wpAny_letGo->U0
open PySem.Around renaming under_plainId->T8
open PySem.AutoSeq1 renaming wpAny_loadPart'->Tq
open PySem.Builtin.List renaming listTooLong->Rz,listLengthHint->Sm,listExtendWith->U1
open PySem.Builtin.Slice renaming slicePlaces->Tt,sliceAdjust->U2
open PySem.Builtin.SmallTypes renaming ownedTupleIsFree->Qu,nextOf->Qm,ownedTupleHandOut->Vw
open PySem.Builtin.Tuple renaming tupleExact->Tv
open PySem.Calls renaming spliced_cons->Ro,spliced_nil->R8,callWith_builtin->T1,evalArgs_plain->U4
open PySem.Challenge renaming pw_gapscribe_k34_kinds_are_most_general->Rx
open PySem.Draws renaming list->Ru
open PySem.F renaming plainAttrs_list->Pz,slot_list_append->Qe,type_list_append->Qf,slot_zip_next->Ra,slot_tuple_iterator_next->Tp,plain_extend_loop->Sn,slot_dict_get->R4,slot_enumerate_next->Ts,args_tuple_add_2->Tu,entry_tuple_add->Tw,args_zip_next_1->Tz,slot_tuple_add->T0,entry_zip_next->T2,entry_dict_get->T3,slot_list_pop->T4,type_list_pop->T6,args_tuple_iterator_next_1->Vx,entry_tuple_iterator_next->Vy,args_enumerate_next_1->Vz,entry_enumerate_next->V0
open PySem.Heap renaming get?_push_of_some->O9,lt_size->O8,get?_push_size->Pn,SameBut->Ph,size_push->Qi,get?_update_other->R0,get?_update_self->R1,ExtBut->Sg
open PySem.Obj renaming mapSeq->P9
open PySem.Paired renaming length->Tf
open PySem.PassesOwn renaming never->Pq
open PySem.SeqAt renaming EqAt->Pc,RcAt->Tl
open PySem.SeqAt.EqAt renaming int_int->Ub,same->Uh,int_str->Vb,str_int->Vc,of_refs->Vf
open PySem.SeqAt.RcAt renaming tuples->Vl
open PySem.Str renaming ofString->Ql
open PySem.Txt renaming slice_le->Uv,slice->To
open PySem.W renaming Frag->Oz,nsIn->P3,kia_one->Qh,kitOne->Rg,fnOf->Rh,keepIn->Tc,BT->Rv,methodObj->Vi,kitx_list->Vj,instObj->Vq,OpenLaw->Vt
open Sum.inl renaming inj->Uz
namespace L2
open PySem PySem.Spec PyProof.Rows
noncomputable abbrev Ap:=Sum Int Str
noncomputable def F7:Ap->Value->Bool
 | .inl k,v=>Value.isInt k v
 | .inr x,v=>Value.isStrOf x v
noncomputable def keyH (w:World):Ap->Int
 | .inl k=>hashInt k
 | .inr x=>hashStr w x
theorem Eo:∀{k:Ap}{v:Value},F7 k v=true->(∃ i t,k=Sum.inl i/\v=Value.int i t)\/(∃ x t,k=Sum.inr x/\v=Value.str x t)
 | .inl i,v,h=>by
  obtain ⟨t,e⟩:=Value.isInt_shape (k:=i) (v:=v) h
  exact .inl ⟨i,t,rfl,e⟩
 | .inr x,v,h=>by
  obtain ⟨t,e⟩:=Value.isStrOf_shape (x:=x) (v:=v) h
  exact .inr ⟨x,t,rfl,e⟩
theorem Zj2 (i:Int)(t:Tok):F7 (.inl i) (.int i t)=true:=by simp [F7,Value.isInt]
theorem Zpj (x:Str)(t:Tok):F7 (.inr x) (.str x t)=true:=by simp [F7,Value.isStrOf]
theorem Zkm (a b:Int):decide ((Sum.inl a:Ap)=Sum.inl b)=(a == b):=by
 by_cases e:a=b
 ·subst e;simp
 ·have h:¬ (Sum.inl a:Ap)=Sum.inl b:=fun q=>e (Uz q)
  rw [decide_eq_false h]
  exact (beq_eq_false_iff_ne.mpr e).symm
theorem Zo2 (a b:Str):decide ((Sum.inr a:Ap)=Sum.inr b)=decide (a=b):=by
 by_cases e:a=b
 ·subst e;simp
 ·have h:¬ (Sum.inr a:Ap)=Sum.inr b:=fun q=>e (Sum.inr.inj q)
  rw [decide_eq_false h,decide_eq_false e]
theorem Zl9 (a:Int)(b:Str):decide ((Sum.inl a:Ap)=Sum.inr b)=false:=decide_eq_false (fun q=>nomatch q)
theorem Zo3 (a:Str)(b:Int):decide ((Sum.inr a:Ap)=Sum.inl b)=false:=decide_eq_false (fun q=>nomatch q)
noncomputable def Ce (prog:Program)(w:World):PySem.KeyKind prog w Ap where
 is:=F7
 hash:=keyH w
 inj:=fun v a b ha hb=>by
  rcases Eo ha with ⟨i,t,rfl,rfl⟩ | ⟨x,t,rfl,rfl⟩
  ·rcases Eo hb with ⟨j,u,rfl,e⟩ | ⟨y,u,rfl,e⟩
   ·injection e with e1 _;rw [e1]
   ·exact nomatch e
  ·rcases Eo hb with ⟨j,u,rfl,e⟩ | ⟨y,u,rfl,e⟩
   ·exact nomatch e
   ·injection e with e1 _;rw [e1]
 byValue:=fun k v h=>by
  rcases Eo h with ⟨i,t,rfl,rfl⟩ | ⟨x,t,rfl,rfl⟩ <;> rfl
 pyHash:=fun hv h=>by
  rcases Eo hv with ⟨i,t,rfl,rfl⟩ | ⟨x,t,rfl,rfl⟩
  ·exact wpAny_pyHash_int h
  ·exact wpAny_pyHash_str h
 eqBool:=fun hu hv h=>by
  rcases Eo hu with ⟨i,t,rfl,rfl⟩ | ⟨x,t,rfl,rfl⟩
  ·rcases Eo hv with ⟨j,u,rfl,rfl⟩ | ⟨y,u,rfl,rfl⟩
   ·rw [Zkm] at h;exact wpAny_eqBool_int h
   ·rw [Zl9] at h;exact Vb i t y u _ _ _ _ h
  ·rcases Eo hv with ⟨j,u,rfl,rfl⟩ | ⟨y,u,rfl,rfl⟩
   ·rw [Zo3] at h;exact Vc x t j u _ _ _ _ h
   ·rw [Zo2] at h;exact wpAny_eqBool_str h
 «strs»:=fun k x t v h=>by
  rcases Eo h with ⟨i,u,rfl,e⟩ | ⟨y,u,rfl,e⟩
  ·exact nomatch e
  ·injection e with e1 _
   subst e1
   cases v <;> rfl
theorem Znu (prog:Program)(w:World)(i:Int)(t:Tok):(Ce prog w).is (.inl i) (.int i t)=true:=Zj2 i t
theorem Zlm (prog:Program)(w:World)(x:Str)(t:Tok):(Ce prog w).is (.inr x) (.str x t)=true:=Zpj x t
inductive V where
 | non | bl (b:Bool) | int (i:Int) | str (x:Str) | byt (b:Array UInt8) | flt (b:UInt64) | ref (a:Addr) | ty (n:String)
 deriving DecidableEq
noncomputable def RelV:V->Value->Prop
 | .non,u=>u=Value.none
 | .bl b,u=>u=Value.bool b
 | .int i,u=>∃ t,u=Value.int i t
 | .str x,u=>∃ t,u=Value.str x t
 | .byt b,u=>∃ t,u=Value.bytes b t
 | .flt b,u=>∃ t,u=Value.float b t
 | .ref a,u=>u=Value.ref a
 | .ty n,u=>u=Value.type n
noncomputable abbrev Vals:List V->List Value->Prop:=Paired RelV
theorem Vals.length {xs:List V}{us:List Value}(r:Vals xs us):xs.length=us.length:=Tf r
theorem Vals.get:∀{xs:List V}{us:List Value}{i:Nat}{x:V},Vals xs us->xs[i]?=some x->∃ u,us[i]?=some u/\RelV x u
 | _,_,_,_,.nil,e=>by simp at e
 | _,_,0,_,.cons r _,e=>by simp at e;subst e;exact ⟨_,rfl,r⟩
 | _,_,i+1,x,.cons _ t,e=>by
  obtain ⟨u,h1,h2⟩:=Vals.get (i:=i) (x:=x) t (by simpa using e)
  exact ⟨u,by simpa using h1,h2⟩
theorem Vals.set {x:V}{u:Value}(r:RelV x u):∀{xs:List V}{us:List Value}(i:Nat),Vals xs us->Vals (xs.set i x) (us.set i u)
 | _,_,_,.nil=>.nil
 | _,_,0,.cons _ t=>.cons r t
 | _,_,i+1,.cons q t=>.cons q (Vals.set r i t)
theorem Vals.append:∀{xs ys:List V}{us ws:List Value},Vals xs us->Vals ys ws->Vals (xs++ys) (us++ws)
 | _,_,_,_,.nil,s=>s
 | _,_,_,_,.cons r t,s=>.cons r (Vals.append t s)
theorem Vals.take:∀{xs:List V}{us:List Value}(n:Nat),Vals xs us->Vals (xs.take n) (us.take n)
 | _,_,0,_=>.nil
 | _,_,_+1,.nil=>.nil
 | _,_,n+1,.cons r t=>.cons r (Vals.take n t)
theorem Vals.drop:∀{xs:List V}{us:List Value}(n:Nat),Vals xs us->Vals (xs.drop n) (us.drop n)
 | _,_,0,r=>r
 | _,_,_+1,.nil=>.nil
 | _,_,n+1,.cons _ t=>Vals.drop n t
noncomputable def RelO:Option V->Option Value->Prop
 | some v,some u=>RelV v u
 | none,none=>True
 | _,_=>False
noncomputable def KV {κ:Type}:List (κ×V)->List (κ×Value)->Prop:=Paired fun (p:κ×V) (q:κ×Value)=>p.1=q.1/\RelV p.2 q.2
noncomputable def kV:Ap->V
 | .inl i=>.int i
 | .inr x=>.str x
inductive HO where
  | lst (xs:List V)
  | tup (xs:List V)
  | dK (kvs:List (Ap×V)) | dT (kvs:List (List Ap×V))
  | set (S:Int->Bool) (n:Nat)
  | ins (C dx:Addr) (fs:List (Str×V))
  | own (x:Addr)
  | xd (fs:List (Str×V))
  | met (f x:Addr)
  | rng (lo hi:Int)
  | frz (o:Obj) (u:HO)
  | tbl (ps:Array Value)
  | ext (φ:Heap->Prop)
noncomputable abbrev Hp:=Addr->Option HO
noncomputable def upd (H:Hp)(a:Addr)(o:HO):Hp:=fun b=>if b=a then some o else H b
theorem Ac {H:Hp}{a:Addr}{o:HO}:upd H a o a=some o:=by unfold upd;rw [if_pos rfl]
theorem Ag {H:Hp}{a b:Addr}{o:HO}(h:b≠a):upd H a o b=H b:=by unfold upd;rw [if_neg h]
theorem Mw {H:Hp}{a:Addr}{o u:HO}:upd (upd H a o) a u=upd H a u:=by
 funext b;unfold upd;split <;> rfl
theorem Ew {H:Hp}{a b:Addr}{o u:HO}(h:H a=some o)(h':H b=some u)(d:o≠u):a≠b:=by
 intro e;subst e;rw [h] at h';exact d (Pg h')
theorem Aw {H:Hp}{a b:Addr}{o:HO}(h:H a=some o)(h':H b=none):a≠b:=by
 intro e;subst e;rw [h] at h';cases h'
section
variable (P:Program)(w:World)
noncomputable def ObjOk (H:Hp)(h:Heap)(a:Addr):HO->Prop
 | .lst xs=>xs.length<=sizeLine/\∃(its:List Value)(n:Nat),Vals xs its/\h.get? a=some { cls:=.type "list",data:=.seq its.toArray n }
 | .tup xs=>xs.length<=sizeLine/\∃ its:List Value,Vals xs its/\IsTup h a its.toArray
 | .dK kvs=>kvs.length<=sizeLine/\(a == sysModules)=false/\∃ vs,KV kvs vs/\h.DictOf (Ce P w) a vs
 | .dT kvs=>kvs.length<=sizeLine/\(a == sysModules)=false/\∃ xs:List (List Ap×Addr×Value),
   Paired (fun (p:List Ap×V) (q:List Ap×Addr×Value)=>p.1=q.1/\H q.2.1=some (.tup (p.1.map kV))/\RelV p.2 q.2.2) kvs xs /\
   ∃ o es ep,h.get? a=some o/\o.ExactDict/\o.data=.dict es ep/\es.toList=xs.map (entryOfKey (tupleKind (Ce P w)))/\(xs.map (·.1)).Nodup
 | .set S n=>h.SetOf (intKind P w) a S n
 | .ins C dx fs=>H dx=some (.own a)/\fs.length<=1000/\dx≠a/\h.get? a=some (Vq C dx) /\
   ∃ mA,h.Ns1 dx mA/\(∀ f,RelO (fs.lookup f) (mA f))/\PySem.Within mA (fs.map (·.1))
 | .own _=>∃ o,h.get? a=some o
 | .xd fs=>∃ mA,h.Ns1 a mA/\∀ f,RelO (fs.lookup f) (mA f)
 | .rng lo hi=>∃ t u v,h.get? a=some { cls:=.type "range",data:=.fields #[.int lo t,.int hi u,.int 1 v] }
 | .frz o u=>h.get? a=some o/\ObjOk H h a u
 | .tbl ps=>h.get? a=some { cls:=.none,data:=.fields ps }
 | .met f x=>h.get? a=some (Vi (.ref f) (.ref x))
 | .ext φ=>φ h/\(∃ o,h.get? a=some o)/\∀ h1 h2:Heap,φ h1->(∀ o,h1.get? a=some o->h2.get? a=some o)->φ h2
noncomputable def HOk (H:Hp)(h:Heap):Prop:=∀ a o,H a=some o->ObjOk P w H h a o
end
section
variable {P:Program}{w:World}{H H':Hp}{h h':Heap}{a:Addr}{o:HO}
theorem ObjOk.lt (x:ObjOk P w H h a o):a < h.objs.size:=by
 cases o with
 | lst xs=>obtain ⟨_,_,_,_,e⟩:=x;exact O8 e
 | tup xs=>obtain ⟨_,_,_,p⟩:=x;exact p.lt
 | dK kvs=>obtain ⟨_,_,_,_,o,_,_,e,_⟩:=x;exact O8 e
 | dT kvs=>obtain ⟨_,_,_,_,o,_,_,e,_⟩:=x;exact O8 e
 | set S n=>obtain ⟨o,_,_,_,e,_⟩:=x;exact O8 e
 | ins C dx fs=>obtain ⟨_,_,_,e,_⟩:=x;exact O8 e
 | own y=>obtain ⟨_,e⟩:=x;exact O8 e
 | xd fs=>obtain ⟨_,⟨_,_,_,e,_⟩,_⟩:=x;exact O8 e
 | rng lo hi=>obtain ⟨_,_,_,e⟩:=x;exact O8 e
 | frz ob u=>obtain ⟨e,_⟩:=x;exact O8 e
 | tbl ps=>exact O8 (show h.get? a=some _ from x)
 | met f y=>exact O8 (show h.get? a=some _ from x)
 | ext φ=>obtain ⟨_,⟨_,e⟩,_⟩:=x;exact O8 e
theorem Paired.mapP {α β:Type}{F G:α->β->Prop}:∀{l₁:List α}{l₂:List β},Paired F l₁ l₂->(∀ a b,F a b->G a b)->Paired G l₁ l₂
 | _,_,.nil,_=>.nil
 | _,_,.cons r t,f=>.cons (f _ _ r) (Paired.mapP t f)
theorem ObjOk.stay (x:ObjOk P w H h a o)(k:∀ b u,(b=a\/H b=some (.own a))->h.get? b=some u->h'.get? b=some u)
  (ho:∀ b,H b=some (.own a)->H' b=some (.own a)) (ht:∀ b xs,H b=some (.tup xs)->H' b=some (.tup xs)):ObjOk P w H' h' a o:=by
 induction o with
 | lst xs=>obtain ⟨z,its,n,r,e⟩:=x;exact ⟨z,its,n,r,k _ _ (.inl rfl) e⟩
 | tup xs=>obtain ⟨z,its,r,ob,e,c⟩:=x;exact ⟨z,its,r,ob,k _ _ (.inl rfl) e,c⟩
 | dK kvs=>obtain ⟨z,y,vs,r,ob,es,ep,e,c⟩:=x;exact ⟨z,y,vs,r,ob,es,ep,k _ _ (.inl rfl) e,c⟩
 | dT kvs =>
  obtain ⟨z,y,xs,r,ob,es,ep,e,c⟩:=x
  exact ⟨z,y,xs,Paired.mapP r fun p q z=>⟨z.1,ht _ _ z.2.1,z.2.2⟩,ob,es,ep,k _ _ (.inl rfl) e,c⟩
 | set S n=>obtain ⟨ob,es,ep,t,e,c⟩:=x;exact ⟨ob,es,ep,t,k _ _ (.inl rfl) e,c⟩
 | ins C dx fs =>
  obtain ⟨d,z,ne,e,mA,⟨od,es,ep,e2,c⟩,r⟩:=x
  exact ⟨ho _ d,z,ne,k _ _ (.inl rfl) e,mA,⟨od,es,ep,k _ _ (.inr d) e2,c⟩,r⟩
 | own y=>obtain ⟨ob,e⟩:=x;exact ⟨ob,k _ _ (.inl rfl) e⟩
 | xd fs=>obtain ⟨mA,⟨od,es,ep,e,c⟩,r⟩:=x;exact ⟨mA,⟨od,es,ep,k _ _ (.inl rfl) e,c⟩,r⟩
 | rng lo hi=>obtain ⟨t,u,v,e⟩:=x;exact ⟨t,u,v,k _ _ (.inl rfl) e⟩
 | frz ob u ih=>obtain ⟨e,q⟩:=x;exact ⟨k _ _ (.inl rfl) e,ih q⟩
 | tbl ps =>
  have e:h.get? a=some { cls:=.none,data:=.fields ps }:=x
  show h'.get? a=some { cls:=.none,data:=.fields ps }
  exact k a _ (.inl rfl) e
 | met f y =>
  have e:h.get? a=some (Vi (.ref f) (.ref y)):=x
  show h'.get? a=some (Vi (.ref f) (.ref y))
  exact k a _ (.inl rfl) e
 | ext φ=>obtain ⟨p,⟨o,e⟩,st⟩:=x;exact ⟨st _ _ p fun o q=>k _ _ (.inl rfl) q,⟨o,k _ _ (.inl rfl) e⟩,st⟩
theorem HOk.lt (x:HOk P w H h)(e:H a=some o):a < h.objs.size:=(x a o e).lt
theorem HOk.fresh (x:HOk P w H h)(e:h.objs.size<=a):H a=none:=by
 cases q:H a with
 | none=>rfl
 | some u=>exact absurd (Pl (x.lt q) e) (Qj _)
theorem HOk.kept (x:HOk P w H h)(k:∀ b u,h.get? b=some u->h'.get? b=some u):HOk P w H h':=fun a o e =>
 (x a o e).stay (fun b u _ q=>k b u q) (fun _ q=>q) fun _ _ q=>q
theorem HOk.laid (x:HOk P w H h)(k:∀ b u,h.get? b=some u->h'.get? b=some u)(hp:h.objs.size<=a)(new:ObjOk P w (upd H a o) h' a o):HOk P w (upd H a o) h':=fun b u e=>by
 have hn:=x.fresh hp
 by_cases hb:b=a
 ·subst hb;rw [Ac] at e;cases e;exact new
 ·rw [Ag hb] at e
  exact (x b u e).stay (fun c v _ q=>k c v q) (fun c q=>by rw [Ag (Aw q hn)];exact q) fun c xs q=>by rw [Ag (Aw q hn)];exact q
end
noncomputable def Rd (H:Hp)(a:Addr)(u:HO):Prop:=H a=some u\/∃ o,H a=some (.frz o u)
theorem Rd.ok {P:Program}{w:World}{H:Hp}{h:Heap}{a:Addr}{u:HO}(r:Rd H a u)(x:HOk P w H h):ObjOk P w H h a u:=by
 rcases r with r | ⟨o,r⟩
 ·exact x a u r
 ·obtain ⟨_,q⟩:=x a _ r
  exact q
noncomputable def Mut:Option HO->Prop
 | some (.lst _)=>True
 | some (.dK _)=>True
 | some (.dT _)=>True
 | some (.set _ _)=>True
 | some (.ins _ _ _)=>True
 | some (.ext _)=>True
 | _=>False
section
variable {P:Program}{w:World}{H:Hp}{h h':Heap}{x e:Addr}{o':HO}
theorem HOk.write (ok:HOk P w H h)(mu:Mut (H x))(he:e=x\/H e=some (.own x))(k:∀ b u,b≠e->h.get? b=some u->h'.get? b=some u)(heo:∃ u,h'.get? e=some u)
  (new:ObjOk P w (upd H x o') h' x o'):HOk P w (upd H x o') h':=fun b u q=>by
 have nown:∀ c y,H c=some (.own y)->c≠x:=fun c y r z=>by subst z;rw [r] at mu;exact mu
 have ntup:∀ c xs,H c=some (.tup xs)->c≠x:=fun c xs r z=>by subst z;rw [r] at mu;exact mu
 by_cases hb:b=x
 ·subst hb;rw [Ac] at q;cases q;exact new
 ·rw [Ag hb] at q
  by_cases hbe:b=e
  ·have q':H b=some (.own x):=by
    rcases he with z | z
    ·exact absurd (hbe.trans z) hb
    ·rw [hbe];exact z
   rw [q] at q';cases q'
   obtain ⟨v,hv⟩:=heo
   exact ⟨v,by rw [hbe];exact hv⟩
  ·refine (ok b u q).stay (fun c v hc r=>k c v ?_ r) (fun c r=>by rw [Ag (nown c b r)];exact r) fun c xs r=>by rw [Ag (ntup c xs r)];exact r
   rcases hc with rfl | hc
   ·exact hbe
   ·rintro rfl
    rcases he with z | z
    ·exact nown c b hc z
    ·rw [hc] at z;cases z;exact hb rfl
end
structure Un (fs ex:List Addr)(H H':Hp)(h h':Heap):Prop where
 keep:∀ b o,h.get? b=some o->H b=none->b ∉ fs->b ∉ ex->h'.get? b=some o
 slot:∀ b o,h.get? b=some o->H b=none->b∈fs->b ∉ ex->∃ sl,h'.get? b=some { o with slots:=sl }
 free:∀ b o,h.get? b=some o->H b=none->b ∉ ex->H' b=none
 there:∀ b o,h.get? b=some o->b ∉ ex->∃ o',h'.get? b=some o'
 tups:∀ b xs,H b=some (.tup xs)->H' b=some (.tup xs)
 frzs:∀ b o u,H b=some (.frz o u)->H' b=some (.frz o u)
 tbls:∀ b ps,H b=some (.tbl ps)->∃ more,H' b=some (.tbl (ps++more))
section
variable {fs fs' ex ex':List Addr}{H H1 H2:Hp}{h h1 h2 h':Heap}{a x e:Addr}{o:HO}
theorem Un.any (u:Un fs ex H H1 h h1){b:Addr}{ob:Obj}(q:h.get? b=some ob)(n:H b=none)(hx:b ∉ ex):∃ sl,h1.get? b=some { ob with slots:=sl }:=by
 by_cases hb:b∈fs
 ·exact u.slot b ob q n hb hx
 ·exact ⟨ob.slots,u.keep b ob q n hb hx⟩
theorem Un.kept (k:∀ b u,h.get? b=some u->h'.get? b=some u):Un fs ex H H h h' :=
 ⟨fun b ob q _ _ _=>k b ob q,fun b ob q _ _ _=>⟨ob.slots,k b ob q⟩,fun _ _ _ n _=>n,fun b ob q _=>⟨ob,k b ob q⟩,fun _ _ q=>q,fun _ _ _ q=>q,fun _ ps q=>⟨#[],by rw [q];simp⟩⟩
theorem Un.refl:Un fs ex H H h h:=Un.kept fun _ _ q=>q
theorem Un.laid (k:∀ b u,h.get? b=some u->h'.get? b=some u)(hp:h.objs.size<=a)(hn:H a=none):Un fs ex H (upd H a o) h h' where
 keep:=fun b u q _ _ _=>k b u q
 slot:=fun b u q _ _ _=>⟨u.slots,k b u q⟩
 free:=fun b u q n _=>by rw [Ag (Pe (Pl (O8 q) hp))];exact n
 there:=fun b u q _=>⟨u,k b u q⟩
 tups:=fun b xs q=>by rw [Ag (Aw q hn)];exact q
 frzs:=fun b u xs q=>by rw [Ag (Aw q hn)];exact q
 tbls:=fun b ps q=>⟨#[],by rw [Ag (Aw q hn),q];simp⟩
theorem Un.write (mu:Mut (H x))(he:e=x\/H e=some (.own x))(k:∀ b u,b≠e->h.get? b=some u->h'.get? b=some u)(heo:∃ u,h'.get? e=some u):Un fs ex H (upd H x o) h h':=by
 have hx:∀ b,H b=none->b≠x:=fun b n z=>by subst z;rw [n] at mu;exact mu
 have hb:∀ b,H b=none->b≠e:=fun b n z=>by
  subst z
  rcases he with r | r
  ·exact hx b n r
  ·rw [n] at r;cases r
 have hm:∀ b u,H b=some u->¬ Mut (some u)->b≠x:=fun b u q nm z=>by subst z;rw [q] at mu;exact nm mu
 refine ⟨fun b u q n _ _=>k b u (hb b n) q,fun b u q n _ _=>⟨u.slots,k b u (hb b n) q⟩,fun b u q n _=>by rw [Ag (hx b n)];exact n,fun b u q _=>?_,
  fun b xs q=>by rw [Ag (hm b _ q fun z=>z)];exact q,fun b u xs q=>by rw [Ag (hm b _ q fun z=>z)];exact q,fun b ps q=>⟨#[],by rw [Ag (hm b _ q fun z=>z),q];simp⟩⟩
 by_cases hbe:b=e
 ·subst hbe;exact heo
 ·exact ⟨u,k b u hbe q⟩
end
noncomputable def trk (h:Heap)(H:Hp):List Addr:=(Pk h.objs.size).filter fun a=>(H a).isSome
noncomputable def E4 (h:Heap)(H:Hp):Heap:=PySem.W.hideAll h (trk h H)
theorem Zmg (h:Heap)(H:Hp):(E4 h H).objs.size=h.objs.size:=PySem.W.hideAll_size _ _
theorem Zhx {h:Heap}{H:Hp}{b:Addr}{o:Obj}(e:h.get? b=some o)(n:H b=none):(E4 h H).get? b=some o :=
 PySem.W.hideAll_get _ e fun hm=>by
  have q:(H b).isSome=true:=(Vr.mp hm).2
  rw [n] at q;simp at q
theorem Zjj {h:Heap}{H:Hp}{b:Addr}{o:Obj}(e:(E4 h H).get? b=some o):h.get? b=some o/\H b=none:=by
 have e':h.get? b=some o:=PySem.W.of_hideAll (trk h H) e
 refine ⟨e',?_⟩
 cases q:H b with
 | none=>rfl
 | some x =>
  have hm:b∈trk h H:=Vr.mpr ⟨Um.mpr (O8 e'),by simp [q]⟩
  have z:(E4 h H).get? b=none:=PySem.W.hideAll_none (trk h H) hm
  rw [z] at e;cases e
structure Mod (K:Oz)(mg:Str->Option Value)(base:Heap):Prop where
 kin:K.In base
 glob:base.Ns mainGlobals mg
 blt:∃ mb,base.Ns builtinsNs mb/\∀ x:Str,x ≠ "__name__" -> mb x=bootBuiltins x
 nolimit:base.NoLimit
structure Cx where
 prog:Program
 w:World
 K:Oz
 mg:Str->Option Value
 base:Heap
 A:Around
 N:List Str
 s₀:Shared
 H₀:Hp
 env:Env
 outer:List Env
 stack:List Env
 ex:List Addr
 fn:Str->Bool
 calm:Bool
 pn:List (Addr×Obj)
 xe:Value->Shared->Prop
noncomputable def Cu (l:List Env):List Addr:=l.filterMap (·.frame)
noncomputable abbrev Cx.fs (X:Cx):List Addr:=Cu X.outer
noncomputable def Vis (sc:Scope)(x:Str):Prop:=sc.names.lookup x=some .local\/sc.names.lookup x=some .cell\/sc.names.lookup x=some .free
noncomputable def Eh (sc:Scope)(x:Str):Prop:=sc.names.lookup x=some .local\/sc.names.lookup x=some .cell
noncomputable def Look (env:Env)(h:Heap)(m:Str->Option Value)(x:Str)(u:Value):Prop :=
 (env.kindOf x=some .local/\m x=some u)\/((env.kindOf x=some .cell\/env.kindOf x=some .free)/\∃ c,env.cells.lookup x=some c/\h.IsCell c (some u))
structure Cx.Ok (X:Cx):Prop where
 mod:Mod X.K X.mg X.base
 kind:X.env.scope.kind=.function
 glob:X.env.globals=mainGlobals
 blt:X.env.builtins=builtinsNs
 above:X.s₀.heap.objs.size<=X.env.locals
 inj:∀ x y c,X.env.cells.lookup x=some c->X.env.cells.lookup y=some c->x=y
 has:∀ x,(X.env.kindOf x=some .cell\/X.env.kindOf x=some .free)->∃ c,X.env.cells.lookup x=some c
 cab:∀ x c,X.fn x=true->X.env.cells.lookup x=some c->X.s₀.heap.objs.size<=c
 hd:X.calm=true->X.A.handled=none
 frames:X.A.frames=some X.stack
 stk:X.stack=X.outer\/(X.stack=X.env::X.outer/\X.env.frame=some X.env.locals)
 exf:∀ b∈X.ex,b≠X.env.locals/\∀ x c,X.env.cells.lookup x=some c->c≠b
 bs:∀ b o,X.base.get? b=some o->X.s₀.heap.get? b=some o/\X.H₀ b=none
 bsz:X.base.objs.size<=X.s₀.heap.objs.size
 noex:∀ b o,X.base.get? b=some o->b ∉ X.ex
 exfs:∀ b∈X.ex,b ∉ X.fs
 funs:X.s₀.heap.FunFrames X.base X.outer
 frf:∀ b∈X.fs,X.H₀ b=none
structure Inv (X:Cx)(pins:List (Addr×Obj))(σ:List (Option V))(H:Hp)(s:Shared):Prop where
 ok:X.Ok
 os:s.os=X.s₀.os
 bare:AllBare s.gens
 base:Un X.fs X.ex X.H₀ H X.s₀.heap s.heap
 loc:∃ m,s.heap.Ns X.env.locals m/\∀(i:Nat)(x:Str)(v:V),X.N[i]?=some x->σ[i]?=some (some v)->Vis X.env.scope x->∃ u,RelV v u/\Look X.env s.heap m x u
 cell:∀ x c,X.env.cells.lookup x=some c->∃ v,s.heap.IsCell c v
 free:H X.env.locals=none
 freeC:∀ x c,X.env.cells.lookup x=some c->H c=none
 pin:∀ p∈X.pn++pins,s.heap.get? p.1=some p.2/\H p.1=none/\p.1≠X.env.locals/\p.1 ∉ X.fs/\∀ v,p.2.data≠.cell v
 hok:HOk X.prog X.w H s.heap
 len:σ.length=X.N.length
section
variable {X:Cx}{pins:List (Addr×Obj)}{σ:List (Option V)}{H H':Hp}{s:Shared}{h':Heap}
theorem Cx.Ok.nofr (ok:X.Ok){b:Addr}{o:Obj}(e:X.base.get? b=some o):b ∉ X.fs:=fun hb=>by
 have:=(ok.funs.mem hb).1
 rw [e] at this;cases this
theorem Inv.bs (I:Inv X pins σ H s):∀ b o,X.base.get? b=some o->s.heap.get? b=some o/\H b=none:=fun b o e =>
 ⟨I.base.keep b o (I.ok.bs b o e).1 (I.ok.bs b o e).2 (I.ok.nofr e) (I.ok.noex b o e),I.base.free b o (I.ok.bs b o e).1 (I.ok.bs b o e).2 (I.ok.noex b o e)⟩
theorem Inv.bk (I:Inv X pins σ H s):∀ b o,X.base.get? b=some o->s.heap.get? b=some o:=fun b o e=>(I.bs b o e).1
theorem Inv.mod (I:Inv X pins σ H s):Mod X.K X.mg X.base:=I.ok.mod
theorem Inv.kIn (I:Inv X pins σ H s):X.K.In s.heap:=I.ok.mod.kin.keeps I.bk
theorem Inv.lt (I:Inv X pins σ H s):X.env.locals < s.heap.objs.size:=let ⟨_,hn,_⟩:=I.loc;hn.lt
theorem Inv.sz (I:Inv X pins σ H s):X.s₀.heap.objs.size<=s.heap.objs.size:=P7 I.ok.above (Us I.lt)
theorem Inv.nofs (I:Inv X pins σ H s){a:Addr}(h:s.heap.objs.size<=a):a ∉ X.fs:=fun hb=>by
 obtain ⟨_,o,ho,_⟩:=I.ok.funs.mem hb
 exact absurd (Pl (O8 ho) (P7 I.sz h)) (Qj _)
theorem Inv.cne (I:Inv X pins σ H s):∀ x c,X.env.cells.lookup x=some c->c≠X.env.locals:=fun x c e z=>by
 obtain ⟨v,o,ho,hd⟩:=I.cell x c e
 obtain ⟨m,⟨o',es,ep,ho',hd',_⟩,_⟩:=I.loc
 rw [z,ho'] at ho;cases ho;rw [hd'] at hd;cases hd
theorem Inv.funs (I:Inv X pins σ H s):s.heap.FunFrames X.base X.outer:=by
 have all:∀(l:List Env),(∀ b∈Cu l,b∈X.fs)->X.s₀.heap.FunFrames X.base l->s.heap.FunFrames X.base l:=by
  intro l
  induction l with
  | nil=>intro _ _;trivial
  | cons env r ih =>
   intro hs hl
   obtain ⟨hk,⟨L,o,hf,hn,ho,hd⟩,hr⟩:=hl
   have hL:L∈X.fs:=hs L (by unfold Cu;rw [U8,hf];exact Ss)
   obtain ⟨sl,e⟩:=I.base.slot L o ho (I.ok.frf L hL) hL fun z=>I.ok.exfs L z hL
   exact ⟨hk,⟨L,_,hf,hn,e,hd⟩,ih (fun b hb=>hs b (by unfold Cu;rw [U8,hf];exact P4 _ hb)) hr⟩
 exact all X.outer (fun _ hb=>hb) I.ok.funs
theorem Inv.stack (I:Inv X pins σ H s):s.heap.FunFrames X.base X.stack:=by
 rcases I.ok.stk with e | ⟨e,hf⟩
 ·rw [e];exact I.funs
 ·rw [e]
  obtain ⟨m,hn,_⟩:=I.loc
  refine .cons (by rw [I.ok.kind];decide) hf hn ?_ I.funs
  exact Heap.get?_none_of_le (P7 I.ok.bsz I.ok.above)
theorem Inv.stkSub (I:Inv X pins σ H s):∀ b∈Cu X.stack,b∈X.env.locals::X.fs:=fun b hb=>by
 rcases I.ok.stk with e | ⟨e,hf⟩
 ·rw [e] at hb;exact P4 _ hb
 ·rw [e] at hb
  unfold Cu at hb
  rw [U8,hf] at hb
  exact hb
theorem Inv.stkFree (I:Inv X pins σ H s):∀ b∈Cu X.stack,H b=none:=fun b hb=>by
 rcases O5.mp (I.stkSub b hb) with e | hb
 ·rw [e];exact I.free
 ·obtain ⟨_,o,ho,_⟩:=I.ok.funs.mem hb
  exact I.base.free b o ho (I.ok.frf b hb) fun z=>I.ok.exfs b z hb
theorem Inv.step {g':Array GenState}{t':Nat}{d':Drawn}{ch:List Addr}(I:Inv X pins σ H s)
  (hch:∀ b∈ch,(b∈X.ex\/X.s₀.heap.objs.size<=b)/\b≠X.env.locals/\(∀ x c,X.env.cells.lookup x=some c->c≠b)/\∀ p∈X.pn++pins,p.1≠b)
  (keep:∀ b o,b≠X.env.locals->b ∉ X.fs->b ∉ ch->s.heap.get? b=some o->H b=none->h'.get? b=some o)
  (slot:∀ b o,b≠X.env.locals->b∈X.fs->b ∉ ch->s.heap.get? b=some o->H b=none->∃ sl,h'.get? b=some { o with slots:=sl }) (free:∀ b o,b ∉ ch->s.heap.get? b=some o->H b=none->H' b=none)
  (there:∀ b o,b ∉ ch->s.heap.get? b=some o->∃ o',h'.get? b=some o')
  (tups:∀ b xs,H b=some (.tup xs)->H' b=some (.tup xs)) (frzs:∀ b o u,H b=some (.frz o u)->H' b=some (.frz o u)) (tbls:∀ b ps,H b=some (.tbl ps)->∃ more,H' b=some (.tbl (ps++more)))
  (ns:∀ m,s.heap.Ns X.env.locals m->h'.Ns X.env.locals m) (hok:HOk X.prog X.w H' h') (hg:AllBare g') :
  Inv X pins σ H' { s with heap:=h',gens:=g',drawn:=d',toks:=t' }:=by
 have neL:∀ b o,X.s₀.heap.get? b=some o->b≠X.env.locals:=fun b o e=>Pe (Pl (O8 e) I.ok.above)
 have neC:∀ b o,X.s₀.heap.get? b=some o->b ∉ X.ex->b ∉ ch:=fun b o e hx hb=>by
  rcases (hch b hb).1 with z | z
  ·exact hx z
  ·exact absurd (Pl (O8 e) z) (Qj _)
 have cellK:∀ x c,X.env.cells.lookup x=some c->∀ v,s.heap.IsCell c v->h'.IsCell c v:=fun x c e v ⟨o,ho,hd⟩=>by
  have nch:c ∉ ch:=fun z=>(hch c z).2.2.1 x c e rfl
  by_cases hc:c∈X.fs
  ·obtain ⟨sl,q⟩:=slot c o (I.cne x c e) hc nch ho (I.freeC x c e)
   exact ⟨_,q,hd⟩
  ·exact ⟨o,keep c o (I.cne x c e) hc nch ho (I.freeC x c e),hd⟩
 refine ⟨I.ok,I.os,hg,⟨fun b o e n hb hx=>?_,fun b o e n hb hx=>?_,fun b o e n hx=>?_,fun b o e hx=>?_,fun b xs e=>tups b xs (I.base.tups b xs e),fun b o xs e=>frzs b o xs (I.base.frzs b o xs e),fun b ps e=>?_⟩,?_,fun x c e=>?_,?_,fun x c e=>?_,fun p hp=>?_,hok,I.len⟩
 ·exact keep b o (neL b o e) hb (neC b o e hx) (I.base.keep b o e n hb hx) (I.base.free b o e n hx)
 ·obtain ⟨sl,e1⟩:=I.base.slot b o e n hb hx
  obtain ⟨sl',e2⟩:=slot b _ (neL b o e) hb (neC b o e hx) e1 (I.base.free b o e n hx)
  exact ⟨sl',e2⟩
 ·obtain ⟨o',e1⟩:=I.base.there b o e hx
  exact free b o' (neC b o e hx) e1 (I.base.free b o e n hx)
 ·obtain ⟨o',e1⟩:=I.base.there b o e hx
  exact there b o' (neC b o e hx) e1
 ·obtain ⟨m1,e1⟩:=I.base.tbls b ps e
  obtain ⟨m2,e2⟩:=tbls b _ e1
  exact ⟨m1++m2,by rw [e2,Array.append_assoc]⟩
 ·obtain ⟨m,hn,hl⟩:=I.loc
  refine ⟨m,ns m hn,fun i x v e1 e2 e3=>?_⟩
  obtain ⟨u,r,l⟩:=hl i x v e1 e2 e3
  refine ⟨u,r,?_⟩
  rcases l with l | ⟨k,c,e,z⟩
  ·exact .inl l
  ·exact .inr ⟨k,c,e,cellK x c e _ z⟩
 ·obtain ⟨v,z⟩:=I.cell x c e
  exact ⟨v,cellK x c e v z⟩
 ·obtain ⟨m,⟨o,_,_,ho,_⟩,_⟩:=I.loc
  exact free _ o (fun z=>(hch _ z).2.1 rfl) ho I.free
 ·obtain ⟨v,o,ho,hd⟩:=I.cell x c e
  exact free c o (fun z=>(hch c z).2.2.1 x c e rfl) ho (I.freeC x c e)
 ·obtain ⟨e,n,ne,nf,d⟩:=I.pin p hp
  have nch:p.1 ∉ ch:=fun z=>(hch p.1 z).2.2.2 p hp rfl
  exact ⟨keep p.1 p.2 ne nf nch e n,free p.1 p.2 nch e n,ne,nf,d⟩
theorem Inv.un {t':Nat}(I:Inv X pins σ H s)(u:Un X.fs [] H H' s.heap h')(hok:HOk X.prog X.w H' h'):Inv X pins σ H' { s with heap:=h',toks:=t' }:=by
 obtain ⟨m,⟨o,es,ep,ho,r⟩,_⟩:=id I.loc
 obtain ⟨sl,hL⟩:=u.any ho I.free (by simp)
 exact I.step (g':=s.gens) (d':=s.drawn) (ch:=[]) (fun _ z=>nomatch z) (fun b o _ hb _ e n=>u.keep b o e n hb (by simp)) (fun b o _ hb _ e n=>u.slot b o e n hb (by simp)) (fun b o _ e n=>u.free b o e n (by simp)) (fun b o _ e=>u.there b o e (by simp)) u.tups u.frzs u.tbls (fun m' hm=>by
  obtain ⟨o',es',ep',ho',r'⟩:=hm
  rw [ho] at ho';cases ho'
  exact ⟨_,es',ep',hL,r'⟩) hok I.bare
theorem Inv.call {g':Array GenState}{t':Nat}{d':Drawn}{ch:List Addr}(I:Inv X pins σ H s)(u:Un (Cu X.stack) ch H H' s.heap h')(hok:HOk X.prog X.w H' h')(hg:AllBare g')
  (hch:∀ b∈ch,(b∈X.ex\/X.s₀.heap.objs.size<=b)/\b≠X.env.locals/\(∀ x c,X.env.cells.lookup x=some c->c≠b)/\∀ p∈X.pn++pins,p.1≠b) :
  Inv X pins σ H' { s with heap:=h',gens:=g',drawn:=d',toks:=t' }:=by
 obtain ⟨m,⟨o,es,ep,ho,r⟩,_⟩:=id I.loc
 obtain ⟨sl,hL⟩:=u.any ho I.free fun z=>(hch _ z).2.1 rfl
 exact I.step (ch:=ch) hch (fun b o hL hb hc e n=>u.keep b o e n (fun z=>(O5.mp (I.stkSub b z)).elim hL hb) hc) (fun b o _ _ hc e n=>u.any e n hc) (fun b o hc e n=>u.free b o e n hc) (fun b o hc e=>u.there b o e hc) u.tups u.frzs u.tbls (fun m' hm=>by
  obtain ⟨o',es',ep',ho',r'⟩:=hm
  rw [ho] at ho';cases ho'
  exact ⟨_,es',ep',hL,r'⟩) hok hg
theorem Inv.turned {t':Nat}{it:Addr}(I:Inv X pins σ H s)(k:∀ b o,b≠it->s.heap.get? b=some o->h'.get? b=some o)(hn:H it=none)(hL:it≠X.env.locals)
  (h1:it∈X.ex\/X.s₀.heap.objs.size<=it) (h2:∀ x c,X.env.cells.lookup x=some c->c≠it) (h3:∀ p∈X.pn++pins,p.1≠it):Inv X pins σ H { s with heap:=h',toks:=t' }:=by
 have nit:∀ b u,H b=some u->b≠it:=fun b u e z=>by rw [z,hn] at e;cases e
 refine I.step (g':=s.gens) (d':=s.drawn) (ch:=[it]) (fun b hb=>?_) (fun b o _ _ hc e _=>k b o (fun z=>hc (by simp [z])) e) (fun b o _ _ hc e _=>⟨o.slots,k b o (fun z=>hc (by simp [z])) e⟩) (fun _ _ _ _ n=>n)
  (fun b o hc e=>⟨o,k b o (fun z=>hc (by simp [z])) e⟩) (fun _ _ e=>e) (fun _ _ _ e=>e) (fun b ps e=>⟨#[],by rw [e];simp⟩) (fun m hm=>?_) (fun b u e=>?_) I.bare
 ·have e:b=it:=by simpa using hb
  subst e
  exact ⟨h1,hL,h2,h3⟩
 ·obtain ⟨o,es,ep,ho,r⟩:=hm
  exact ⟨o,es,ep,k _ o (P0 hL) ho,r⟩
 ·refine (I.hok b u e).stay (fun c v hc q=>k c v ?_ q) (fun _ q=>q) fun _ _ q=>q
  rcases hc with z | z
  ·rw [z];exact nit b u e
  ·exact nit c _ z
theorem Inv.tok (I:Inv X pins σ H s)(t:Nat):Inv X pins σ H { s with toks:=t }:=I.un (h':=s.heap) (t':=t) Un.refl I.hok
theorem Inv.kept {t':Nat}(I:Inv X pins σ H s)(k:∀ b u,s.heap.get? b=some u->h'.get? b=some u):Inv X pins σ H { s with heap:=h',toks:=t' }:=I.un (Un.kept k) (I.hok.kept k)
theorem Inv.laid {a:Addr}{o:HO}{t':Nat}(I:Inv X pins σ H s)(k:∀ b u,s.heap.get? b=some u->h'.get? b=some u)(hp:s.heap.objs.size<=a)(new:ObjOk X.prog X.w (upd H a o) h' a o) :
  Inv X pins σ (upd H a o) { s with heap:=h',toks:=t' }:=I.un (Un.laid k hp (I.hok.fresh hp)) (I.hok.laid k hp new)
theorem Inv.write {x e:Addr}{o:HO}{t':Nat}(I:Inv X pins σ H s)(mu:Mut (H x))(he:e=x\/H e=some (.own x))(k:∀ b u,b≠e->s.heap.get? b=some u->h'.get? b=some u)(heo:∃ u,h'.get? e=some u)
  (new:ObjOk X.prog X.w (upd H x o) h' x o):Inv X pins σ (upd H x o) { s with heap:=h',toks:=t' }:=I.un (Un.write mu he k heo) (I.hok.write mu he k heo new)
theorem Inv.pins_of {pins':List (Addr×Obj)}(I:Inv X pins σ H s)(h:∀ p∈pins',s.heap.get? p.1=some p.2/\H p.1=none/\p.1≠X.env.locals/\p.1 ∉ X.fs/\∀ v,p.2.data≠.cell v):Inv X pins' σ H s :=
 ⟨I.ok,I.os,I.bare,I.base,I.loc,I.cell,I.free,I.freeC,fun p hp=>(Pm.mp hp).elim (fun z=>I.pin p (Qq _ z)) (h p),I.hok,I.len⟩
theorem Zb7 {N:List Str}(hN:N.Nodup){i j:Nat}{x:Str}(a:N[i]?=some x)(b:N[j]?=some x):i=j:=by
 obtain ⟨h1,e1⟩:=Pa.mp a
 obtain ⟨h2,e2⟩:=Pa.mp b
 exact (List.getElem_inj hN).mp (e1.trans e2.symm)
theorem Za3 {M:Model}{A:Around}{E:Value->Shared->Prop}{i:Nat}{x:Str}{v:V}{u:Value}{Q:Unit->Shared->Prop}(I:Inv X pins σ H s)(hN:X.N.Nodup)(hi:X.N[i]?=some x)(hx:Eh X.env.scope x)(r:RelV v u)
  (h:∀ s',Inv X pins (σ.set i (some v)) H s'->(∃ a,Ph a s.heap s'.heap/\(a=X.env.locals\/X.env.cells.lookup x=some a))->Q () s') (hf:X.fn x=true\/X.env.scope.names.lookup x=some .local:=by first | exact .inl rfl | exact .inr rfl | assumption):wpAny M A (storeName X.env x u) Q E s:=by
 obtain ⟨m,hn,hl⟩:=id I.loc
 have hcls:(X.env.scope.kind == .class || (X.env.scope.kind == .module && X.env.locals != X.env.globals))=false:=by rw [I.ok.kind];rfl
 have hiσ:i < σ.length:=by rw [I.len];exact (Pa.mp hi).1
 have cne:=I.cne
 have tracked:∀{a:Addr}{h':Heap},(∃ o,s.heap.get? a=some o/\H a=none)->Ph a s.heap h'->HOk X.prog X.w H h':=fun {a h'} ha hs b ob e=>by
  obtain ⟨_,_,hfree⟩:=ha
  refine (I.hok b ob e).stay (fun c w' hc q=>(hs.2 c ?_).trans q) (fun _ q=>q) fun _ _ q=>q
  rintro rfl
  rcases hc with rfl | hc
  ·rw [hfree] at e;cases e
  ·rw [hfree] at hc;cases hc
 rcases hx with hk | hk
 ·refine wpAny_storeName_local hk hn (fun h' hn' hs=>?_) hcls
  obtain ⟨oL,_,_,hoL,_⟩:=id hn
  refine h _ ⟨I.ok,I.os,I.bare,⟨fun b o e n hb hx=>?_,fun b o e n hb hx=>?_,I.base.free,fun b o e hx=>?_,I.base.tups,I.base.frzs,I.base.tbls⟩,⟨_,hn',fun j y v' e1 e2 e3=>?_⟩,fun y c e=>?_,I.free,I.freeC,fun p hp=>?_,tracked ⟨oL,hoL,I.free⟩ hs,by simpa using I.len⟩ ⟨_,hs,.inl rfl⟩
  ·exact (hs.2 b (Pe (Pl (O8 e) I.ok.above))).trans (I.base.keep b o e n hb hx)
  ·obtain ⟨sl,e1⟩:=I.base.slot b o e n hb hx
   exact ⟨sl,(hs.2 b (Pe (Pl (O8 e) I.ok.above))).trans e1⟩
  ·obtain ⟨o',e1⟩:=I.base.there b o e hx
   exact ⟨o',(hs.2 b (Pe (Pl (O8 e) I.ok.above))).trans e1⟩
  ·by_cases hj:j=i
   ·subst hj
    rw [hi] at e1;cases e1
    rw [Rk hiσ] at e2
    cases e2
    exact ⟨u,r,.inl ⟨hk,by simp⟩⟩
   ·rw [T7 (P0 hj)] at e2
    obtain ⟨u',r',q⟩:=hl j y v' e1 e2 e3
    refine ⟨u',r',?_⟩
    rcases q with ⟨k,e⟩ | ⟨k,c,e,z⟩
    ·refine .inl ⟨k,?_⟩
     have:y≠x:=fun e=>hj (Zb7 hN e1 (e ▸ hi))
     simp [this,e]
    ·exact .inr ⟨k,c,e,z.sameBut hs (cne y c e)⟩
  ·obtain ⟨w',z⟩:=I.cell y c e
   exact ⟨w',z.sameBut hs (cne y c e)⟩
  ·obtain ⟨e,n,ne,nf,d⟩:=I.pin p hp
   exact ⟨(hs.2 p.1 ne).trans e,n,ne,nf,d⟩
 ·have hfn:X.fn x=true:=by
   rcases hf with z | z
   ·exact z
   ·rw [z] at hk;cases hk
  obtain ⟨c,hc⟩:=I.ok.has x (.inl hk)
  obtain ⟨w',z⟩:=I.cell x c hc
  refine wpAny_storeName_cell I.ok.kind hk hc z (fun h' hc' hs=>?_)
  obtain ⟨oc,hoc,hocd⟩:=id z
  refine h { s with heap:=h' } ⟨I.ok,I.os,I.bare,⟨fun b o e n hb hx=>?_,fun b o e n hb hx=>?_,I.base.free,fun b o e hx=>?_,I.base.tups,I.base.frzs,I.base.tbls⟩,⟨m,hn.sameBut hs (P0 (cne x c hc)),fun j y v' e1 e2 e3=>?_⟩,fun y c' e=>?_,I.free,I.freeC,fun p hp=>?_,tracked ⟨oc,hoc,I.freeC x c hc⟩ hs,by simpa using I.len⟩ ⟨c,hs,.inr hc⟩
  ·exact (hs.2 b (Pe (Pl (O8 e) (I.ok.cab x c hfn hc)))).trans (I.base.keep b o e n hb hx)
  ·obtain ⟨sl,e1⟩:=I.base.slot b o e n hb hx
   exact ⟨sl,(hs.2 b (Pe (Pl (O8 e) (I.ok.cab x c hfn hc)))).trans e1⟩
  ·obtain ⟨o',e1⟩:=I.base.there b o e hx
   exact ⟨o',(hs.2 b (Pe (Pl (O8 e) (I.ok.cab x c hfn hc)))).trans e1⟩
  ·by_cases hj:j=i
   ·subst hj
    rw [hi] at e1;cases e1
    rw [Rk hiσ] at e2
    cases e2
    exact ⟨u,r,.inr ⟨.inl hk,c,hc,hc'⟩⟩
   ·rw [T7 (P0 hj)] at e2
    obtain ⟨u',r',q⟩:=hl j y v' e1 e2 e3
    refine ⟨u',r',?_⟩
    rcases q with q | ⟨k,c',e,z'⟩
    ·exact .inl q
    ·refine .inr ⟨k,c',e,z'.sameBut hs ?_⟩
     rintro rfl
     exact hj (Zb7 hN e1 (I.ok.inj _ _ _ e hc ▸ hi))
  ·by_cases hcc:c'=c
   ·subst hcc;exact ⟨_,hc'⟩
   ·obtain ⟨w2,z2⟩:=I.cell y c' e
    exact ⟨w2,z2.sameBut hs hcc⟩
  ·obtain ⟨e,n,ne,nf,d⟩:=I.pin p hp
   refine ⟨(hs.2 p.1 ?_).trans e,n,ne,nf,d⟩
   intro q
   rw [q,hoc] at e
   have q':oc=p.2:=Pg e
   exact d w' (by rw [<- q'];exact hocd)
theorem Hm {M:Model}{A:Around}{E:Value->Shared->Prop}{i:Nat}{x:Str}{v:V}{u:Value}{Q:Unit->Shared->Prop}(I:Inv X pins σ H s)(hN:X.N.Nodup)(hi:X.N[i]?=some x)(hx:Eh X.env.scope x)(r:RelV v u)
  (h:∀ s',Inv X pins (σ.set i (some v)) H s'->Q () s') (hf:X.fn x=true\/X.env.scope.names.lookup x=some .local:=by first | exact .inl rfl | exact .inr rfl | assumption):wpAny M A (storeName X.env x u) Q E s :=
 Za3 I hN hi hx r (fun s' I' _=>h s' I') hf
theorem Inv.call' {s':Shared}{ch:List Addr}(I:Inv X pins σ H s)(ho:s'.os=s.os)(u:Un (Cu X.stack) ch H H' s.heap s'.heap)(hok:HOk X.prog X.w H' s'.heap)(hg:AllBare s'.gens)
  (hch:∀ b∈ch,(b∈X.ex\/X.s₀.heap.objs.size<=b)/\b≠X.env.locals/\(∀ x c,X.env.cells.lookup x=some c->c≠b)/\∀ p∈X.pn++pins,p.1≠b):Inv X pins σ H' s':=by
 obtain ⟨h',g',d',t',o'⟩:=s'
 have e:o'=s.os:=ho
 subst e
 exact I.call (g':=g') (t':=t') (d':=d') u hok hg hch
end
noncomputable abbrev XK:=Value->Option Addr->Hp->Prop
noncomputable abbrev St:=List (Option V)
noncomputable abbrev VK:=V->Hp->Prop
noncomputable abbrev TE:=St->Hp->VK->Prop
noncomputable abbrev TT:=St->Hp->(Bool->Hp->Prop)->Prop
noncomputable abbrev TA:=St->Hp->(List V->Hp->Prop)->Prop
structure Cv where
 nx:St->Hp->Prop
 rt:VK
 bk:St->Hp->Prop:=fun _ _=>False
 ct:St->Hp->Prop:=fun _ _=>False
noncomputable abbrev TS:=Cv->St->Hp->Prop
noncomputable def EP (X:Cx)(pins:List (Addr×Obj))(σ:St)(Q:VK)(u:Value)(s':Shared):Prop:=∃ v H',Inv X pins σ H' s'/\RelV v u/\Q v H'
noncomputable def TP (X:Cx)(pins:List (Addr×Obj))(σ:St)(Q:Bool->Hp->Prop)(b:Bool)(s':Shared):Prop:=∃ H',Inv X pins σ H' s'/\Q b H'
noncomputable def AP (X:Cx)(pins:List (Addr×Obj))(σ:St)(Q:List V->Hp->Prop)(us:List Value)(s':Shared):Prop:=∃ vs H',Inv X pins σ H' s'/\Vals vs us/\Q vs H'
noncomputable def SP (X:Cx)(pins:List (Addr×Obj))(D:Cv)(f:Flow)(s':Shared):Prop :=
 match f with
 | .next=>∃ σ' H',Inv X pins σ' H' s'/\D.nx σ' H'
 | .brk=>∃ σ' H',Inv X pins σ' H' s'/\D.bk σ' H'
 | .cont=>∃ σ' H',Inv X pins σ' H' s'/\D.ct σ' H'
 | .ret u=>∃ v σ' H',Inv X pins σ' H' s'/\RelV v u/\D.rt v H'
noncomputable def PE (X:Cx)(e:Expr)(t:TE):Prop :=
 ∀(pins:List (Addr×Obj))(s:Shared)(σ:St)(H:Hp)(Q:VK),Inv X pins σ H s->t σ H Q->wpAny (model X.prog X.w) X.A (eval e X.env) (EP X pins σ Q) X.xe s
noncomputable def PT (X:Cx)(e:Expr)(t:TT):Prop :=
 ∀(pins:List (Addr×Obj))(s:Shared)(σ:St)(H:Hp)(Q:Bool->Hp->Prop),Inv X pins σ H s->t σ H Q->wpAny (model X.prog X.w) X.A (isTrue e X.env (eval e X.env)) (TP X pins σ Q) X.xe s
noncomputable def PW (X:Cx)(e:Expr)(t:TT):Prop :=
 ∀(whole:Sem Value)(pins:List (Addr×Obj))(s:Shared)(σ:St)(H:Hp)(Q:Bool->Hp->Prop),Inv X pins σ H s->t σ H Q->wpAny (model X.prog X.w) X.A (isTrue e X.env whole) (TP X pins σ Q) X.xe s
theorem PW.pt {X:Cx}{e:Expr}{t:TT}(h:PW X e t):PT X e t:=h _
noncomputable def PA (X:Cx)(es:List Expr)(t:TA):Prop :=
 ∀(pos:Pos)(pins:List (Addr×Obj))(s:Shared)(σ:St)(H:Hp)(Q:List V->Hp->Prop),Inv X pins σ H s->t σ H Q->wpAny (model X.prog X.w) X.A (spliced (backTo pos (starEach es X.env))) (AP X pins σ Q) X.xe s
noncomputable def PS (X:Cx)(st:Stmt)(t:TS):Prop :=
 ∀(pins:List (Addr×Obj))(s:Shared)(σ:St)(H:Hp)(D:Cv),Inv X pins σ H s->t D σ H->wpAny (model X.prog X.w) X.A (exec st X.env) (SP X pins D) X.xe s
noncomputable def PSs (X:Cx)(st:List Stmt)(t:TS):Prop :=
 ∀(pins:List (Addr×Obj))(s:Shared)(σ:St)(H:Hp)(D:Cv),Inv X pins σ H s->t D σ H->wpAny (model X.prog X.w) X.A (execs st X.env) (SP X pins D) X.xe s
theorem Aj {α:Type}{t:Sem α}{Q Q':α->Shared->Prop}{M:Model}{A:Around}{E:Value->Shared->Prop}{s:Shared}(h:wpAny M A t Q E s)(hQ:∀ a s,Q a s->Q' a s):wpAny M A t Q' E s:=Si h hQ fun _ _ x=>x
section
variable {X:Cx}
noncomputable def Ms (i:Nat):TE:=fun σ H Q=>∃ v,σ[i]?=some (some v)/\Q v H
noncomputable def tC (v:V):TE:=fun _ H Q=>Q v H
theorem Zgh {i:Nat}{x:Str}{pos:Pos}(hN:X.N[i]?=some x)(hv:Vis X.env.scope x)(hd:(x == ("__debug__" : Str))=false:=by decide)(hcd:(x == ("__classdict__" : Str))=false:=by decide):PE X (.Name x pos) (Ms i):=by
 intro pins s σ H Q I h
 obtain ⟨v,e,h⟩:=h
 obtain ⟨m,hn,hl⟩:=I.loc
 obtain ⟨u,r,l⟩:=hl i x v hN e hv
 have fin:EP X pins σ Q u s:=⟨v,H,I,r,h⟩
 rcases l with ⟨hk,hm⟩ | ⟨hk,c,hc,hcell⟩
 ·exact wpAny_Name (wpAny_loadName_local I.ok.kind hk hn hm fin) hd
 ·rcases hk with hk | hk
  ·exact wpAny_Name (wpAny_loadName_cell I.ok.kind hk hc hcell fin) hd
  ·exact wpAny_Name (wpAny_loadName_free I.ok.kind hk hc hcell fin hcd) hd
theorem Zcu {i j pos}:PE X (.Constant (.int i) j pos) (tC (.int i)):=fun _ _ _ H _ I h=>wpAny_Constant_int ⟨.int i,H,I.tok _,⟨_,rfl⟩,h⟩
theorem Zbn {b j pos}:PE X (.Constant (.bool b) j pos) (tC (.bl b)):=fun _ _ _ H _ I h=>Constant_bool ⟨.bl b,H,I,rfl,h⟩
theorem Ze6 {j pos}:PE X (.Constant .none j pos) (tC .non):=fun _ _ _ H _ I h=>Constant_none ⟨.non,H,I,rfl,h⟩
theorem Zbu {x j pos}:PE X (.Constant (.str x) j pos) (tC (.str x)):=fun _ _ _ H _ I h=>Calls.Constant_str ⟨.str x,H,I.tok _,⟨_,rfl⟩,h⟩
noncomputable def Gl (X:Cx)(x:Str):Prop:=X.env.kindOf x=some .globalImplicit
theorem Zeo {E:Value->Shared->Prop}{pins:List (Addr×Obj)}{s:Shared}{σ:St}{H:Hp}{x:Str}{u:Value}{pos:Pos}{Q:Value->Shared->Prop}(I:Inv X pins σ H s)(hg:Gl X x)(hm:X.mg x=some u)(h:Q u s)
  (hd:(x == ("__debug__" : Str))=false:=by decide):wpAny (model X.prog X.w) X.A (eval (.Name x pos) X.env) Q E s :=
 Calls.Name_function_global I.ok.kind hg (Calls.loadGlobal_global (by rw [I.ok.glob];exact I.mod.glob.keeps I.bk) hm h) hd
theorem Dm {E:Value->Shared->Prop}{pins:List (Addr×Obj)}{s:Shared}{σ:St}{H:Hp}{x:Str}{u:Value}{pos:Pos}{Q:Value->Shared->Prop}(I:Inv X pins σ H s)(hg:Gl X x)(hm:X.mg x=none)(hv:bootBuiltins x=some u)(h:Q u s)
  (hn:x ≠ "__name__" := by decide) (hd:(x == ("__debug__" : Str))=false:=by decide):wpAny (model X.prog X.w) X.A (eval (.Name x pos) X.env) Q E s:=by
 obtain ⟨mb,h1,h2⟩:=I.mod.blt
 exact Calls.Name_function_global I.ok.kind hg (Calls.loadGlobal_builtin (by rw [I.ok.glob];exact I.mod.glob.keeps I.bk) hm (by rw [I.ok.blt];exact h1.keeps I.bk) ((h2 x hn).trans hv) h) hd
theorem Zmi {x:Str}{v:V}{u:Value}{pos:Pos}(hg:Gl X x)(hm:X.mg x=some u)(r:RelV v u)(hd:(x == ("__debug__" : Str))=false:=by decide):PE X (.Name x pos) (tC v) :=
 fun _ _ _ H _ I h=>Zeo I hg hm ⟨v,H,I,r,h⟩ hd
theorem Zox {x:Str}{v:V}{u:Value}{pos:Pos}(hg:Gl X x)(hm:X.mg x=none)(hv:bootBuiltins x=some u)(r:RelV v u)(hn:x ≠ "__name__" := by decide)(hd:(x == ("__debug__" : Str))=false:=by decide):PE X (.Name x pos) (tC v) :=
 fun _ _ _ H _ I h=>Dm I hg hm hv ⟨v,H,I,r,h⟩ hn hd
variable {a b:Expr}{ta tb:TE}{pos:Pos}
noncomputable def PC (X:Cx)(op:CmpOp)(a b:Expr)(t:TE):Prop :=
 ∀(pins:List (Addr×Obj))(s:Shared)(σ:St)(H:Hp)(Q:VK),Inv X pins σ H s->t σ H Q ->
  wpAny (model X.prog X.w) X.A (eval a X.env) (fun v s₁=>wpAny (model X.prog X.w) X.A (eval b X.env) (fun u s₂=>wpAny (model X.prog X.w) X.A (compareOp op v u) (EP X pins σ Q) X.xe s₂) X.xe s₁) X.xe s
theorem Kp (b:Expr){op:CmpOp}(h:op≠.In)(h2:op≠.NotIn):behindInMarks op b=false:=by
 have e1:(op == CmpOp.In)=false:=by cases op <;> first | rfl | exact absurd rfl h
 have e2:(op == CmpOp.NotIn)=false:=by cases op <;> first | rfl | exact absurd rfl h2
 cases b <;> simp [behindInMarks,e1,e2]
noncomputable def My (ta:TE):TE:=fun σ H Q=>ta σ H fun x H1=>Q (.bl (decide (x=.non))) H1
noncomputable def Ov (ta:TE):TE:=fun σ H Q=>ta σ H fun x H1=>Q (.bl (!decide (x=.non))) H1
theorem RelV.none_iff {x:V}{v:Value}(r:RelV x v):(v == Value.none)=decide (x=.non):=by
 cases x with
 | non=>cases r;rfl
 | bl _=>cases r;rfl
 | int _=>obtain ⟨t,rfl⟩:=r;rfl
 | str _=>obtain ⟨t,rfl⟩:=r;rfl
 | byt _=>obtain ⟨t,rfl⟩:=r;rfl
 | flt _=>obtain ⟨t,rfl⟩:=r;rfl
 | ref _=>cases r;rfl
 | ty _=>cases r;rfl
theorem Zp3 {j pos'}(ha:PE X a ta):PC X .Is a (.Constant .none j pos') (My ta):=by
 intro pins s σ H Q I h
 refine Aj (ha pins s σ H _ I h) fun v s1 zq=>?_
 obtain ⟨x,H1,I1,r1,q1⟩:=zq
 exact Constant_none (is_none_gen ⟨.bl _,H1,I1,by rw [r1.none_iff];rfl,q1⟩)
theorem Zn9 {j pos'}(ha:PE X a ta):PC X .IsNot a (.Constant .none j pos') (Ov ta):=by
 intro pins s σ H Q I h
 refine Aj (ha pins s σ H _ I h) fun v s1 zq=>?_
 obtain ⟨x,H1,I1,r1,q1⟩:=zq
 exact Constant_none (isnot_none_gen ⟨.bl _,H1,I1,by rw [r1.none_iff];rfl,q1⟩)
noncomputable def tB (t:TE):TT:=fun σ H Q=>t σ H fun x H1=>∃ c,x=.bl c/\Q c H1
theorem Zgq {op:CmpOp}{t:TE}(h:PC X op a b t)(h1:behindInMarks op b=false:=by first | exact Kp _ (by decide) (by decide) | rfl):PE X (.Compare a [op] [b] pos) t:=fun pins s σ H Q I hw=>wpAny_Compare1 (h pins s σ H Q I hw) h1
theorem Zmh {op:CmpOp}{t:TE}(h:PC X op a b t)(h1:behindInMarks op b=false:=by first | exact Kp _ (by decide) (by decide) | rfl):PT X (.Compare a [op] [b] pos) (tB t):=by
 intro pins s σ H Q I hw
 refine wpAny_isTrue_Compare1 (Aj (h pins s σ H _ I hw) fun v s1 h1=>Aj h1 fun u s2 h2=>Aj h2 fun c s3 zq=>?_) h1
 obtain ⟨x,H1,I1,r1,q1⟩:=zq
 obtain ⟨d,rfl,q⟩:=q1
 cases r1
 exact Rq ⟨H1,I1,q⟩
theorem Zim {e:Expr}{t:TE}(h:PE X e t)(he:∀ whole,isTrue e X.env whole=(do let v <- whole;standAt e.pos;holding [v] (truthy v)):=by intro _;rfl):PT X e (tB t):=by
 intro pins s σ H Q I hw
 refine isTrue_plain (Aj (h pins s σ H _ I hw) fun v s1 zq=>?_) (he _)
 obtain ⟨x,H1,I1,r1,q1⟩:=zq
 obtain ⟨d,rfl,q⟩:=q1
 cases r1
 exact Rq ⟨H1,I1,q⟩
variable {tA tB':TT}{rest:List Expr}
noncomputable def Lq (t u:TT):TT:=fun σ H Q=>t σ H fun c H1=>if c=true then u σ H1 Q else Q false H1
noncomputable def tOr (t u:TT):TT:=fun σ H Q=>t σ H fun c H1=>if c=true then Q true H1 else u σ H1 Q
noncomputable def Ox (t:TT):TT:=fun σ H Q=>t σ H fun c H1=>Q (!c) H1
theorem pw_and1 (ha:PT X a tA):PW X (.BoolOp .And [a] pos) tA:=by
 intro wh pins s σ H Q I h
 refine isTrue_and (Aj (ha pins s σ H Q I h) fun c s1 e=>?_)
 cases c with
 | true=>exact isTrue_and_nil e
 | false=>exact e
theorem pw_or1 (ha:PT X a tA):PW X (.BoolOp .Or [a] pos) tA:=by
 intro wh pins s σ H Q I h
 refine isTrue_or (Aj (ha pins s σ H Q I h) fun c s1 e=>?_)
 cases c with
 | false=>exact isTrue_or_nil e
 | true=>exact e
theorem pw_and (ha:PT X a tA)(hb:PW X (.BoolOp .And (b::rest) pos) tB'):PW X (.BoolOp .And (a::b::rest) pos) (Lq tA tB'):=by
 intro wh pins s σ H Q I h
 refine isTrue_and (Aj (ha pins s σ H _ I h) fun c s1 zq=>?_)
 obtain ⟨H1,I1,q1⟩:=zq
 cases c with
 | true=>exact hb wh pins s1 σ H1 Q I1 q1
 | false=>exact ⟨H1,I1,q1⟩
theorem pw_or (ha:PT X a tA)(hb:PW X (.BoolOp .Or (b::rest) pos) tB'):PW X (.BoolOp .Or (a::b::rest) pos) (tOr tA tB'):=by
 intro wh pins s σ H Q I h
 refine isTrue_or (Aj (ha pins s σ H _ I h) fun c s1 zq=>?_)
 obtain ⟨H1,I1,q1⟩:=zq
 cases c with
 | true=>exact ⟨H1,I1,q1⟩
 | false=>exact hb wh pins s1 σ H1 Q I1 q1
theorem Znv (ha:PT X a tA):PT X (.UnaryOp .Not a pos) (Ox tA):=by
 intro pins s σ H Q I h
 exact isTrue_not (ha pins s σ H (fun c H1=>Q (!c) H1) I h)
noncomputable def Ng (ta tb:TE):TE:=fun σ H Q=>ta σ H fun x H1=>∃ c,x=.bl c/\if c=true then tb σ H1 Q else Q (.bl false) H1
noncomputable def N2 (ta:TE):TE:=fun σ H Q=>ta σ H fun x H1=>∃ c,x=.bl c/\Q (.bl (!c)) H1
theorem Zgk {op}{t:TE}(h:PE X a t):PE X (.BoolOp op [a] pos) t:=fun pins s σ H Q I hw=>BoolOp_one (h pins s σ H Q I hw)
theorem Zl0 (ha:PE X a ta)(hb:PE X (.BoolOp .And (b::rest) pos) tb):PE X (.BoolOp .And (a::b::rest) pos) (Ng ta tb):=by
 intro pins s σ H Q I h
 refine BoolOp_and (Aj (ha pins s σ H _ I h) fun v s1 zq=>?_)
 obtain ⟨x,H1,I1,r1,q1⟩:=zq
 obtain ⟨c,rfl,q1⟩:=q1
 cases r1
 refine Rq ?_
 cases c with
 | true=>exact hb pins s1 σ H1 Q I1 q1
 | false=>exact ⟨.bl false,H1,I1,rfl,q1⟩
theorem Zmv (ha:PE X a ta):PE X (.UnaryOp .Not a pos) (N2 ta):=by
 intro pins s σ H Q I h
 refine UnaryOp_ (Aj (ha pins s σ H _ I h) fun v s1 zq=>?_)
 obtain ⟨x,H1,I1,r1,q1⟩:=zq
 obtain ⟨c,rfl,q1⟩:=q1
 cases r1
 exact not_of (Rq ⟨.bl (!c),H1,I1,rfl,q1⟩)
noncomputable def tIf (t:TT)(ta tb:TE):TE:=fun σ H Q=>t σ H fun c H1=>if c=true then ta σ H1 Q else tb σ H1 Q
theorem Znn {c:Expr}(hc:PT X c tA)(ha:PE X a ta)(hb:PE X b tb):PE X (.IfExp c a b pos) (tIf tA ta tb):=by
 intro pins s σ H Q I h
 refine wpAny_IfExp (Aj (hc pins s σ H _ I h) fun d s1 zq=>?_)
 obtain ⟨H1,I1,q1⟩:=zq
 cases d with
 | true=>exact ha pins s1 σ H1 Q I1 q1
 | false=>exact hb pins s1 σ H1 Q I1 q1
end
noncomputable def SqL (K:Oz)(H:Hp)(a:Addr)(xs:List V):Prop :=
 Rd H a (.lst xs) \/
  ∃(o:Obj)(its:Array Value)(n:Nat),K.lookup a=some o/\o.cls=.type "list" /\ o.dict=none/\o.data=.seq its n/\its.size<=sizeLine/\Vals xs its.toList
noncomputable def SqT (K:Oz)(H:Hp)(a:Addr)(xs:List V):Prop :=
 Rd H a (.tup xs) \/
  ∃(o:Obj)(its:Array Value)(n:Nat),K.lookup a=some o/\o.cls=.type "tuple" /\ o.data=.seq its n/\its.size<=sizeLine/\Vals xs its.toList
noncomputable def K2:Value->Option V
 | .none=>some .non
 | .bool b=>some (.bl b)
 | .int i _=>some (.int i)
 | .str x _=>some (.str x)
 | .bytes b _=>some (.byt b)
 | .float b _=>some (.flt b)
 | .ref a=>some (.ref a)
 | .type n=>some (.ty n)
 | _=>none
theorem RelV.abs {x:V}{u:Value}(r:RelV x u):K2 u=some x:=by
 cases x with
 | non=>cases r;rfl
 | bl _=>cases r;rfl
 | int _=>obtain ⟨t,rfl⟩:=r;rfl
 | str _=>obtain ⟨t,rfl⟩:=r;rfl
 | byt _=>obtain ⟨t,rfl⟩:=r;rfl
 | flt _=>obtain ⟨t,rfl⟩:=r;rfl
 | ref _=>cases r;rfl
 | ty _=>cases r;rfl
theorem RelV.inj {x y:V}{u:Value}(r:RelV x u)(q:RelV y u):x=y:=Pg (r.abs.symm.trans q.abs)
theorem Vals.inj:∀{xs ys:List V}{us:List Value},Vals xs us->Vals ys us->xs=ys
 | _,_,_,.nil,.nil=>rfl
 | _,_,_,.cons r t,.cons r' t'=>by rw [r.inj r',Vals.inj t t']
section
variable {X:Cx}{pins:List (Addr×Obj)}{σ:St}{H:Hp}{s:Shared}{a:Addr}{xs ys:List V}
theorem SqL.of {K:Oz}(h:H a=some (.lst xs)):SqL K H a xs:=.inl (.inl h)
theorem SqT.of {K:Oz}(h:H a=some (.tup xs)):SqT K H a xs:=.inl (.inl h)
theorem Inv.list (I:Inv X pins σ H s)(h:SqL X.K H a xs):∃ its:List Value,Vals xs its/\PlainL s.heap a its.toArray/\xs.length<=sizeLine:=by
 rcases h with h | ⟨o,its,n,hk,hc,hd,hs,hz,r⟩
 ·obtain ⟨z,its,n,r,e⟩:=h.ok I.hok
  exact ⟨its,r,⟨_,n,e,rfl,rfl,rfl⟩,z⟩
 ·refine ⟨its.toList,r,⟨o,n,I.kIn a o hk,hc,hd,by simpa using hs⟩,?_⟩
  have e:=r.length
  simp only [R6] at e
  omega
theorem Inv.tuple (I:Inv X pins σ H s)(h:SqT X.K H a xs):∃ its:List Value,Vals xs its/\IsTup s.heap a its.toArray/\xs.length<=sizeLine:=by
 rcases h with h | ⟨o,its,n,hk,hc,hs,hz,r⟩
 ·obtain ⟨z,its,r,p⟩:=h.ok I.hok
  exact ⟨its,r,p,z⟩
 ·refine ⟨its.toList,r,⟨o,I.kIn a o hk,hc,n,by simpa using hs⟩,?_⟩
  have e:=r.length
  simp only [R6] at e
  omega
theorem Inv.list_inj (I:Inv X pins σ H s)(h:SqL X.K H a xs)(h':SqL X.K H a ys):xs=ys:=by
 obtain ⟨its,r,⟨o,n,e,_,_,d⟩,_⟩:=I.list h
 obtain ⟨its',r',⟨o',n',e',_,_,d'⟩,_⟩:=I.list h'
 rw [e] at e';cases e'
 rw [d] at d'
 injection d' with d1 _
 have:its=its':=by simpa using congrArg Array.toList d1
 subst this
 exact r.inj r'
theorem Inv.tuple_inj (I:Inv X pins σ H s)(h:SqT X.K H a xs)(h':SqT X.K H a ys):xs=ys:=by
 obtain ⟨its,r,⟨o,e,_,n,d⟩,_⟩:=I.tuple h
 obtain ⟨its',r',⟨o',e',_,n',d'⟩,_⟩:=I.tuple h'
 rw [e] at e';cases e'
 rw [d] at d'
 injection d' with d1 _
 have:its=its':=by simpa using congrArg Array.toList d1
 subst this
 exact r.inj r'
end
noncomputable abbrev Cx.wish (X:Cx)(E:Value->Shared->Prop):Cx:={ X with xe:=E }
noncomputable abbrev Cx.nox (X:Cx):Cx:=X.wish fun _ _=>False
theorem Cx.Ok.wish {X:Cx}(ok:X.Ok)(E:Value->Shared->Prop):(X.wish E).Ok :=
 ⟨ok.mod,ok.kind,ok.glob,ok.blt,ok.above,ok.inj,ok.has,ok.cab,ok.hd,ok.frames,ok.stk,ok.exf,ok.bs,ok.bsz,ok.noex,ok.exfs,ok.funs,ok.frf⟩
theorem Cx.Ok.unwish {X:Cx}{E:Value->Shared->Prop}(ok:(X.wish E).Ok):X.Ok :=
 ⟨ok.mod,ok.kind,ok.glob,ok.blt,ok.above,ok.inj,ok.has,ok.cab,ok.hd,ok.frames,ok.stk,ok.exf,ok.bs,ok.bsz,ok.noex,ok.exfs,ok.funs,ok.frf⟩
section
variable {X:Cx}{pins:List (Addr×Obj)}{σ:St}{H:Hp}{s:Shared}{E:Value->Shared->Prop}
theorem Inv.wish (I:Inv X pins σ H s)(E:Value->Shared->Prop):Inv (X.wish E) pins σ H s:=⟨I.ok.wish E,I.os,I.bare,I.base,I.loc,I.cell,I.free,I.freeC,I.pin,I.hok,I.len⟩
theorem Inv.unwish (I:Inv (X.wish E) pins σ H s):Inv X pins σ H s:=⟨I.ok.unwish,I.os,I.bare,I.base,I.loc,I.cell,I.free,I.freeC,I.pin,I.hok,I.len⟩
theorem SP.unwish {D:Cv}{f:Flow}{s':Shared}(h:SP (X.wish E) pins D f s'):SP X pins D f s':=by
 cases f with
 | next=>obtain ⟨σ',H',I,q⟩:=h;exact ⟨σ',H',I.unwish,q⟩
 | brk=>obtain ⟨σ',H',I,q⟩:=h;exact ⟨σ',H',I.unwish,q⟩
 | cont=>obtain ⟨σ',H',I,q⟩:=h;exact ⟨σ',H',I.unwish,q⟩
 | ret u=>obtain ⟨v,σ',H',I,r,q⟩:=h;exact ⟨v,σ',H',I.unwish,r,q⟩
theorem PSs.nox {st:List Stmt}{t:TS}(h:PSs X.nox st t):PSs X st t:=fun pins s σ H D I hw =>
 Si (h pins s σ H D (I.wish _) hw) (fun _ _ q=>q.unwish) fun _ _ z=>Q0 z
end
section
variable {X:Cx}{st:Stmt}{rest:List Stmt}{t u:TS}{e:Expr}{te:TE}{pos:Pos}
noncomputable def Nm:TS:=fun D σ H=>D.nx σ H
noncomputable def Mh (t u:TS):TS:=fun D σ H=>t { D with nx:=u D } σ H
theorem Zjf:PSs X [] Nm:=fun _ _ σ H _ I h=>Uf ⟨σ,H,I,h⟩
theorem Zpx (h1:PS X st t)(h2:PSs X rest u):PSs X (st::rest) (Mh t u):=by
 intro pins s σ H D I h
 refine wpAny_execs_cons (Aj (h1 pins s σ H { D with nx:=u D } I h) fun f s1 q=>?_)
 cases f with
 | next =>
  obtain ⟨σ',H',I',q⟩:=q
  exact h2 pins s1 σ' H' D I' q
 | ret v=>exact q
 | brk=>exact q
 | cont=>exact q
theorem Zoy (h1:PS X st t):PSs X [st] t:=by
 intro pins s σ H D I h
 refine wpAny_execs_cons (Aj (h1 pins s σ H D I h) fun f s1 q=>?_)
 cases f with
 | next=>exact Uf q
 | ret v=>exact q
 | brk=>exact q
 | cont=>exact q
noncomputable def Zfm:TS:=fun D σ H=>D.ct σ H
theorem Zqb:PS X (.Continue pos) Zfm:=fun _ _ σ H _ I h=>wpAny_Continue ⟨σ,H,I,h⟩
theorem Inv.quiet {pins:List (Addr×Obj)}{σ:St}{H:Hp}{s:Shared}(I:Inv X pins σ H s):interactive X.env=false:=by simp [interactive,I.ok.kind]
noncomputable def Mj (te:TE):TS:=fun D σ H=>te σ H fun _ H1=>D.nx σ H1
theorem Zp9 (he:PE X e te)(hs:swapsWith e none pos.line X.env=pure false:=by rfl):PS X (.Expr e pos) (Mj te):=by
 intro pins s σ H D I h
 exact wpAny_Expr_any (Aj (he pins s σ H _ I h) fun v s1 ⟨x,H1,I1,r1,q1⟩=>⟨σ,H1,I1,q1⟩) I.quiet hs
noncomputable def Md (te:TE):TS:=fun D σ H=>te σ H D.rt
theorem Zjm (he:PE X e te):PS X (.Return (some e) pos) (Md te):=by
 intro pins s σ H D I h
 exact wpAny_Return_some (Aj (he pins s σ H _ I h) fun v s1 ⟨x,H1,I1,r1,q1⟩=>⟨x,σ,H1,I1,r1,q1⟩)
noncomputable def G3 (c:TT)(t u:TS):TS:=fun D σ H=>c σ H fun b H1=>if b=true then t D σ H1 else u D σ H1
theorem Zga {c:Expr}{a b:List Stmt}{tc:TT}(hc:PT X c tc)(ha:PSs X a t)(hb:PSs X b u):PS X (.If c a b pos) (G3 tc t u):=by
 intro pins s σ H D I h
 refine wpAny_If (Aj (hc pins s σ H _ I h) fun d s1 zq=>?_)
 obtain ⟨H1,I1,q1⟩:=zq
 cases d with
 | true=>exact ha pins s1 σ H1 D I1 q1
 | false=>exact hb pins s1 σ H1 D I1 q1
end
noncomputable abbrev TG:=V->St->Hp->(St->Hp->Prop)->Prop
noncomputable abbrev Dw:=List V->St->Hp->(St->Hp->Prop)->Prop
noncomputable def PG (X:Cx)(target:Expr)(t:TG):Prop :=
 ∀(pins:List (Addr×Obj))(s:Shared)(σ:St)(H:Hp)(v:V)(u:Value)(Q:St->Hp->Prop),Inv X pins σ H s->RelV v u->t v σ H Q ->
  wpAny (model X.prog X.w) X.A (assign target X.env u) (fun _ s'=>∃ σ' H',Inv X pins σ' H' s'/\Q σ' H') X.xe s
noncomputable def PGs (X:Cx)(ts:List Expr)(t:Dw):Prop :=
 ∀(pins:List (Addr×Obj))(s:Shared)(σ:St)(H:Hp)(vs:List V)(us:List Value)(Q:St->Hp->Prop),Inv X pins σ H s->Vals vs us->t vs σ H Q ->
  wpAny (model X.prog X.w) X.A (assignInOrder ((assignEach ts X.env).map (·.2)) us) (fun _ s'=>∃ σ' H',Inv X pins σ' H' s'/\Q σ' H') X.xe s
noncomputable abbrev Hh:=V->V->V->Hp->(Hp->Prop)->Prop
noncomputable def N4 (X:Cx)(t:Hh):Prop :=
 ∀(pins:List (Addr×Obj))(s:Shared)(σ:St)(H:Hp)(o i v:V)(ov iv u:Value)(Q:Hp->Prop),Inv X pins σ H s->RelV o ov->RelV i iv->RelV v u->t o i v H Q ->
  wpAny (model X.prog X.w) X.A (setItem ov iv u) (fun _ s'=>∃ H',Inv X pins σ H' s'/\Q H') X.xe s
noncomputable abbrev Gx:=V->V->Hp->VK->Prop
noncomputable def PIp (X:Cx)(op:Operator)(t:Gx):Prop :=
 ∀(pins:List (Addr×Obj))(s:Shared)(σ:St)(H:Hp)(x y:V)(v u:Value)(Q:VK),Inv X pins σ H s->RelV x v->RelV y u->t x y H Q ->
  wpAny (model X.prog X.w) X.A (inplaceOp op v u) (EP X pins σ Q) X.xe s
section
variable {X:Cx}{pos:Pos}
noncomputable def Fj (i:Nat):TG:=fun v σ H Q=>Q (σ.set i (some v)) H
theorem Zll {i:Nat}{x:Str}(hN:X.N.Nodup)(hi:X.N[i]?=some x)(hx:Eh X.env.scope x)(hf:X.fn x=true\/X.env.scope.names.lookup x=some .local:=by first | exact .inl rfl | exact .inr rfl | assumption):PG X (.Name x pos) (Fj i):=by
 intro pins s σ H v u Q I r h
 exact wpAny_assign_Name (Hm I hN hi hx r (fun s' I'=>⟨_,H,I',h⟩) hf)
noncomputable def Nv:Dw:=fun vs σ H Q=>vs=[]/\Q σ H
noncomputable def N0 (t:TG)(u:Dw):Dw:=fun vs σ H Q=>∃ v r,vs=v::r/\t v σ H fun σ' H'=>u r σ' H' Q
theorem Zoe:PGs X [] Nv:=by
 intro pins s σ H vs us Q I r h
 obtain ⟨e,h⟩:=h
 subst e
 cases r
 exact assignInOrder_nil ⟨σ,H,I,h⟩
theorem Zpq {e:Expr}{es:List Expr}{t:TG}{u:Dw}(h1:PG X e t)(h2:PGs X es u)
  (hs:(assignEach (e::es) X.env).map (·.2)=assign e X.env::(assignEach es X.env).map (·.2):=by rfl):PGs X (e::es) (N0 t u):=by
 intro pins s σ H vs us Q I r h
 obtain ⟨v,vr,e1,h⟩:=h
 subst e1
 cases r with
 | cons r rr =>
  rw [hs]
  refine Vd (Aj (h1 pins s σ H _ _ _ I r h) fun _ s1 zq=>?_)
  obtain ⟨σ1,H1,I1,q1⟩:=zq
  exact h2 pins s1 σ1 H1 _ _ Q I1 rr q1
noncomputable def Kr (K:Oz)(n:Nat)(t:Dw):TG:=fun v σ H Q=>∃ a xs,v=.ref a/\SqT K H a xs/\xs.length=n/\t xs σ H Q
theorem Zhi {es:List Expr}{k:Nat}{t:Dw}{n:Nat}(hc:X.calm=true)(h:PGs X es t)
  (hn:(assignEach es X.env).length=n:=by rfl) (hst:(assignEach es X.env).findIdx? (·.1)=none:=by rfl):PG X (.Tuple es k pos) (Kr X.K n t):=by
 intro pins s σ H v u Q I r hw
 obtain ⟨a,xs,e1,hq,hl,hw⟩:=hw
 subst e1
 cases r
 obtain ⟨its,rv,ht,hz⟩:=I.tuple hq
 refine assign_Tuple_tuple (I.ok.hd hc) ht (by simp [hn,<- hl,rv.length]) hst fun h' hx=>?_
 have I1:Inv X pins σ H { s with heap:=h' }:=I.kept (t':=s.toks) fun b o e=>hx b o (Pe (O8 e)) e
 exact h pins _ σ H xs _ Q I1 (by simpa using rv) hw
noncomputable def M7 (to ti:TE)(t:Hh):TG:=fun v σ H Q=>to σ H fun o H1=>ti σ H1 fun i H2=>t o i v H2 fun H3=>Q σ H3
theorem Zkf {o i:Expr}{to ti:TE}{t:Hh}(ho:PE X o to)(hi:PE X i ti)(hs:N4 X t)
  (ha:∀ v,assign (.Subscript o i pos) X.env v=(do
   let ov <- holding [v] (eval o X.env)
   let iv <- holding [v,ov] (eval i X.env)
   standAt pos
   holding [v,ov,iv] (setItem ov iv v)
   release [v,ov,iv] []):=by intro _;rfl):PG X (.Subscript o i pos) (M7 to ti t):=by
 intro pins s σ H v u Q I r h
 rw [ha]
 refine O0 (Qk (Aj (ho pins s σ H _ I h) fun ov s1 zq=>?_))
 obtain ⟨x,H1,I1,r1,q1⟩:=zq
 refine O0 (Qk (Aj (hi pins s1 σ H1 _ I1 q1) fun iv s2 zq=>?_))
 obtain ⟨y,H2,I2,r2,q2⟩:=zq
 refine O0 (Tg (O0 (Qk (Aj (hs pins s2 σ H2 x y v ov iv u _ I2 r1 r2 r q2) fun _ s3 zq=>?_))))
 obtain ⟨H3,I3,q3⟩:=zq
 exact wpAny_release ⟨σ,H3,I3,q3⟩
noncomputable def Fg (te:TE)(g:TG):TS:=fun D σ H=>te σ H fun x H1=>g x σ H1 D.nx
theorem Zkh {tg e:Expr}{te:TE}{g:TG}(he:PE X e te)(hg:PG X tg g)(hs:swapsWithSole [tg] e pos.line X.env=pure false:=by rfl)(hw:swappedStores [tg] e X.env=pure none:=by rfl)
  (h1:(assignEach [tg] X.env).map (·.2)=[assign tg X.env]:=by rfl):PS X (.Assign [tg] e pos) (Fg te g):=by
 intro pins s σ H D I h
 refine wpAny_Assign_stores (Aj (he pins s σ H _ I h) fun v s1 zq=>?_) hs hw
 obtain ⟨x,H1,I1,r1,q1⟩:=zq
 rw [h1]
 exact Aj (hg pins s1 σ H1 x v _ I1 r1 q1) fun _ s2 q=>q
theorem Znq {i:Nat}{x:Str}{e:Expr}{te:TE}{pos':Pos}(hN:X.N.Nodup)(hi:X.N[i]?=some x)(hx:Eh X.env.scope x)(he:PE X e te)(hs:swapsWith e (some (.Name x pos')) pos.line X.env=pure false:=by rfl)(hf:X.fn x=true\/X.env.scope.names.lookup x=some .local:=by first | exact .inl rfl | exact .inr rfl | assumption) :
  PS X (.Assign [.Name x pos'] e pos) (Fg te (Fj i)):=by
 intro pins s σ H D I h
 refine wpAny_Assign_Name (Aj (he pins s σ H _ I h) fun v s1 zq=>?_) hs
 obtain ⟨y,H1,I1,r1,q1⟩:=zq
 exact Hm I1 hN hi hx r1 (fun s2 I2=>⟨_,H1,I2,q1⟩) hf
noncomputable def N1 (i j:Nat)(ta:TA):TS:=fun D σ H=>ta σ H fun vs H1=>∃ v w,vs=[v,w]/\D.nx ((σ.set i (some v)).set j (some w)) H1
theorem Zhp {i j:Nat}{x y:Str}{a b:Expr}{ta:TA}{px py pt:Pos}{kt k2 pt2}(hc:X.calm=true)(hN:X.N.Nodup)(hi:X.N[i]?=some x)(hj:X.N[j]?=some y)(hij:i≠j)
  (hx:X.env.scope.names.lookup x=some .local) (hy:X.env.scope.names.lookup y=some .local) (ha:PA X [a,b] ta)
  (hw:swappedStores [.Tuple [.Name x px,.Name y py] kt pt] (.Tuple [a,b] k2 pt2) X.env=pure (some [x,y]))
  (hs:swapsWithSole [.Tuple [.Name x px,.Name y py] kt pt] (.Tuple [a,b] k2 pt2) pos.line X.env=pure false:=by rfl) :
  PS X (.Assign [.Tuple [.Name x px,.Name y py] kt pt] (.Tuple [a,b] k2 pt2) pos) (N1 i j ta):=by
 intro pins s σ H D I h
 rw [exec_Assign_arm]
 refine O0 (Tg ?_)
 rw [hs]
 refine O0 (O3 ?_)
 rw [if_neg (by decide)]
 refine O0 (Tuple_ (Aj (ha _ pins s σ H _ I h) fun us s1 zq=>?_))
 obtain ⟨vs,H1,I1,r1,q1⟩:=zq
 obtain ⟨v,w,e1,q1⟩:=q1
 subst e1
 obtain ⟨u1,u2,rfl,rv,rw'⟩:∃ u1 u2,us=[u1,u2]/\RelV v u1/\RelV w u2:=by
  cases r1 with
  | cons p q =>
   cases q with
   | cons p' q' =>
    cases q'
    exact ⟨_,_,rfl,p,p'⟩
 refine Rb ?_ (by show 2<=sizeLine;decide)
 have I2:Inv X pins σ H1 { s1 with heap:=s1.heap.push { cls:=.type "tuple",data:=.seq [u1,u2].toArray } }:=I1.kept (t':=s1.toks) fun b o e=>O9 _ e
 rw [hw]
 refine O0 (O3 ?_)
 show wpAny (model X.prog X.w) X.A (do rule "assign.swapped-stores";let items <- unpackItems (.ref s1.heap.objs.size) 2 none;assignInOrder [fun v=>bindName X.env y v,fun v=>bindName X.env x v] items.reverse;pure Flow.next) _ _ _
 refine O0 (Sj (O0 (unpackItems_tuple (items:=#[u1,u2]) (I.ok.hd hc) (IsTup.new s1.heap _) fun h' hx'=>?_)))
 have I3:=I2.kept (h':=h') (t':=s1.toks) fun b o e=>hx' b o (Pe (O8 e)) e
 show wpAny _ _ (assignInOrder [fun v=>bindName X.env y v,fun v=>bindName X.env x v] [u2,u1] >>= fun _=>pure Flow.next) _ _ _
 refine O0 (Vd (wpAny_bindName (Hm I3 hN hj (.inl hy) rw' (fun s2 I4=>?_) (.inr hy))))
 refine Vd (wpAny_bindName (Hm I4 hN hi (.inl hx) rv (fun s3 I5=>assignInOrder_nil (O3 ?_)) (.inr hx)))
 rw [List.set_comm _ _ (P0 hij)] at I5
 exact ⟨_,H1,I5,q1⟩
noncomputable def M6 (i:Nat)(te:TE)(ti:Gx):TS:=fun D σ H=>∃ x,σ[i]?=some (some x)/\te σ H fun y H1=>ti x y H1 fun z H2=>D.nx (σ.set i (some z)) H2
theorem Zh6 {i:Nat}{x:Str}{e:Expr}{te:TE}{op:Operator}{ti:Gx}{pos':Pos}(hN:X.N.Nodup)(hi:X.N[i]?=some x)(hx:Eh X.env.scope x)(he:PE X e te)(ho:PIp X op ti)(hf:X.fn x=true\/X.env.scope.names.lookup x=some .local:=by first | exact .inl rfl | exact .inr rfl | assumption) :
  PS X (.AugAssign (.Name x pos') op e pos) (M6 i te ti):=by
 intro pins s σ H D I h
 obtain ⟨v,e1,h⟩:=h
 obtain ⟨m,hn,hl⟩:=I.loc
 have vis:Vis X.env.scope x:=by rcases hx with k | k;exact .inl k;exact .inr (.inl k)
 obtain ⟨u,r,l⟩:=hl i x v hi e1 vis
 refine wpAny_AugAssign_Name ?_
 have go:wpAny (model X.prog X.w) X.A (eval e X.env) (fun w s₂=>wpAny (model X.prog X.w) X.A (inplaceOp op u w) (fun r s₃=>wpAny (model X.prog X.w) X.A (storeName X.env x r) (fun _=>SP X pins D .next) X.xe s₃) X.xe s₂) X.xe s:=by
  refine Aj (he pins s σ H _ I h) fun w s1 zq=>?_
  obtain ⟨y,H1,I1,r1,q1⟩:=zq
  refine Aj (ho pins s1 σ H1 v y u w _ I1 r r1 q1) fun z s2 zq=>?_
  obtain ⟨zv,H2,I2,r2,q2⟩:=zq
  exact Hm I2 hN hi hx r2 (fun s3 I3=>⟨_,H2,I3,q2⟩) hf
 rcases l with ⟨hk,hm⟩ | ⟨hk,c,hc,hcell⟩
 ·exact wpAny_loadName_local I.ok.kind hk hn hm go
 ·rcases hk with hk | hk
  ·exact wpAny_loadName_cell I.ok.kind hk hc hcell go
  ·rcases hx with k | k
   ·have:X.env.scope.names.lookup x=some .free:=hk
    rw [k] at this;cases this
   ·have:X.env.scope.names.lookup x=some .free:=hk
    rw [k] at this;cases this
noncomputable def ipI (f:Int->Int->Int):Gx:=fun x y H Q=>∃ i j,x=.int i/\y=.int j/\Q (.int (f i j)) H
theorem Zl4:PIp X .Add (ipI fun i j=>i+j):=by
 intro pins s σ H x y v u Q I r1 r2 h
 obtain ⟨i,j,e1,e2,q⟩:=h
 subst e1;subst e2
 obtain ⟨t,rfl⟩:=r1
 obtain ⟨t',rfl⟩:=r2
 exact iadd_int ⟨.int _,H,I.tok _,⟨_,rfl⟩,q⟩
end
section
variable {X:Cx}{pos:Pos}
noncomputable def Zdm (c:TT)(tb:TS):TS:=fun D σ H=>∃ W:Nat->St->Hp->Prop,(∃ m,W m σ H)/\∀ m σ H,W m σ H ->
 c σ H fun b H1=>if b=true then ∃ N:St->Hp->Prop,(∀ σ' H',N σ' H'->∃ m',m' < m/\W m' σ' H')/\tb { D with nx:=N,ct:=N,bk:=D.nx } σ H1 else D.nx σ H1
theorem Zm5 {c:Expr}{body:List Stmt}{tc:TT}{tb:TS}(hp:PassesOwn (model X.prog X.w) X.A X.env X.xe)(hc:PT X c tc)(hb:PSs X body tb):PS X (.While c body [] pos) (Zdm tc tb):=by
 intro pins s σ H D I h
 obtain ⟨W,⟨m0,w0⟩,turn⟩:=h
 refine wpAny_While (codeAny_whileLoop (fun n s'=>∃ σ' H',Inv X pins σ' H' s'/\W n σ' H') ?_ m0 ⟨σ,H,I,w0⟩)
 rintro n s1 ⟨σ1,H1,I1,w1⟩
 refine Rs hp (Aj (hc pins s1 σ1 H1 _ I1 (turn n σ1 H1 w1)) fun b s2 zq=>?_)
 obtain ⟨H2,I2,q2⟩:=zq
 cases b with
 | true =>
  obtain ⟨N,hN,q2⟩:=q2
  rw [if_pos rfl]
  refine Rs hp (Aj (hb pins s2 σ1 H2 _ I2 q2) fun f s3 q3=>?_)
  cases f with
  | next =>
   obtain ⟨σ3,H3,I3,n3⟩:=q3
   obtain ⟨m',hm,w3⟩:=hN σ3 H3 n3
   exact ⟨m',hm,σ3,H3,I3,w3⟩
  | cont =>
   obtain ⟨σ3,H3,I3,n3⟩:=q3
   obtain ⟨m',hm,w3⟩:=hN σ3 H3 n3
   exact ⟨m',hm,σ3,H3,I3,w3⟩
  | brk=>exact q3
  | ret v=>exact q3
 | false =>
  rw [if_neg Pf]
  exact Uf ⟨σ1,H2,I2,q2⟩
end
structure It where
 go:Nat->Hp->Prop
 yld:Nat->Hp->V->Hp->Prop
 stop:Nat->Hp->Prop
noncomputable def FpOk (X:Cx)(pins:List (Addr×Obj))(H:Hp)(b:Addr):Prop :=
 H b=none/\b≠X.env.locals/\b ∉ X.fs/\(b∈X.ex\/X.s₀.heap.objs.size<=b)/\(∀ x c,X.env.cells.lookup x=some c->c≠b)/\∀ p∈X.pn++pins,p.1≠b
theorem Inv.fpOk {X:Cx}{pins:List (Addr×Obj)}{σ:St}{H H':Hp}{s:Shared}{b:Addr}(I:Inv X pins σ H s)(hb:s.heap.objs.size<=b)(hn:H' b=none):FpOk X pins H' b:=by
 refine ⟨hn,Qo (Pl I.lt hb),I.nofs hb,.inr (P7 I.sz hb),fun x c e z=>?_,fun p hp z=>?_⟩
 ·obtain ⟨v,q⟩:=I.cell x c e
  exact absurd (Pl q.lt (by rw [z];exact hb)) (Qj _)
 ·exact absurd (Pl (O8 (I.pin p hp).1) (by rw [z];exact hb)) (Qj _)
structure Ey (P:Program)(w:World)(K:Oz)(tg:Expr)(J:It)(fp:List Addr)(it:Addr)(tn:Nat->Heap->Prop):Prop where
 mem:it∈fp
 obj:∀ i h,tn i h->∀ b∈fp,∃ o,h.get? b=some o/\∀ v,o.data≠.cell v
 keep:∀ i h h',tn i h->(∀ b∈fp,∀ o,h.get? b=some o->h'.get? b=some o)->tn i h'
 item:∀(X:Cx),X.prog=P->X.w=w->X.K=K->X.calm=true->∀(i:Nat)(pins:List (Addr×Obj))(s:Shared)(σ:St)(H:Hp)(E:Value->Shared->Prop),Inv X pins σ H s->(∀ b∈fp,FpOk X pins H b)->tn i s.heap->J.go i H ->
  wpAny (model P w) X.A (pyNext (.ref it)) (fun r s1=>∃ u,r=some u /\
   wpAny (model P w) X.A (letOwnedTupleGo tg (.ref it) u) (fun _ s2=>∃ x H',Inv X pins σ H' s2/\RelV x u/\J.yld i H x H'/\tn (i+1) s2.heap/\∀ b∈fp,H' b=none) E s1) E s
 done:∀(X:Cx),X.prog=P->X.w=w->X.K=K->X.calm=true->∀(i:Nat)(pins:List (Addr×Obj))(s:Shared)(σ:St)(H:Hp)(E:Value->Shared->Prop),Inv X pins σ H s->(∀ b∈fp,FpOk X pins H b)->tn i s.heap->J.stop i H ->
  wpAny (model P w) X.A (pyNext (.ref it)) (fun r s1=>r=none/\Inv X pins σ H s1) E s
 self:∀(A:Around)(i:Nat)(s:Shared)(Q:Value->Shared->Prop)(E:Value->Shared->Prop),tn i s.heap->Q (.ref it) s->wpAny (model P w) A (pyIter (.ref it)) Q E s
noncomputable abbrev TI:=St->Hp->(It->Hp->Prop)->Prop
noncomputable def PIE (X:Cx)(pins:List (Addr×Obj))(σ:St)(tg:Expr)(R:It->Hp->Prop)(itv:Value)(s2:Shared):Prop :=
 ∃(it:Addr)(fp:List Addr)(tn:Nat->Heap->Prop)(J:It)(H':Hp),itv=.ref it/\Inv X pins σ H' s2/\Ey X.prog X.w X.K tg J fp it tn/\tn 0 s2.heap/\(∀ b∈fp,FpOk X pins H' b)/\R J H'
noncomputable def PI (X:Cx)(tg iter:Expr)(wi:TI):Prop :=
 ∀(pins:List (Addr×Obj))(s:Shared)(σ:St)(H:Hp)(R:It->Hp->Prop),Inv X pins σ H s->wi σ H R ->
  wpAny (model X.prog X.w) X.A (eval iter X.env) (fun v s1=>wpAny (model X.prog X.w) X.A (pyIter v) (PIE X pins σ tg R) X.xe s1) X.xe s
theorem Iv {M:Model}{A:Around}{E:Value->Shared->Prop}{s:Shared}{tg:Expr}{it:Addr}{u:Value}{o:Obj}{n:String}{vs:Array Value}{Q:Unit->Shared->Prop}(ho:s.heap.get? it=some o)(hc:o.cls=.type n)(hd:o.data=.fields vs)
  (hn:["enumerate", "zip", "dict_itemiterator", "dict_reverseitemiterator", "odict_iterator", "itertools.zip_longest", "itertools.pairwise"].contains n=false) (hQ:Q () s):wpAny M A (letOwnedTupleGo tg (.ref it) u) Q E s:=by
 unfold letOwnedTupleGo
 cases tg <;> first
  | exact O3 hQ
  | (cases u <;> first
    | exact O3 hQ
    | (refine O0 (wpAny_load ho ?_)
       rw [hc,hd]
       show wpAny M A (if (["enumerate", "zip", "dict_itemiterator", "dict_reverseitemiterator", "odict_iterator", "itertools.zip_longest", "itertools.pairwise"].contains n && vs[0]? == some (rawInt _))=true then _ else _) Q E s
       rw [if_neg (by intro h;rw [hn,Bool.false_and] at h;cases h)]
       exact O3 hQ))
noncomputable def Gb (K:Oz)(a:Addr):It :=
 ⟨fun i H=>∃ xs x,SqL K H a xs/\xs[i]?=some x,fun i H x H'=>H'=H/\∀ xs,SqL K H a xs->xs[i]?=some x,fun i H=>∃ xs,SqL K H a xs/\xs.length<=i⟩
noncomputable def Gk (K:Oz)(a:Addr):It :=
 ⟨fun i H=>∃ xs x,SqT K H a xs/\xs[i]?=some x,fun i H x H'=>H'=H/\∀ xs,SqT K H a xs->xs[i]?=some x,fun i H=>∃ xs,SqT K H a xs/\xs.length<=i⟩
noncomputable def Fe (lo:Int)(n:Nat):It:=⟨fun i _=>i < n,fun i H x H'=>H'=H/\x=.int (lo+i),fun i _=>n<=i⟩
theorem Zke {P:Program}{w:World}{K:Oz}{tg:Expr}(a it:Addr):Ey P w K tg (Gb K a) [it] it (fun i h=>h.IsListIter it a i) where
 mem:=by simp
 obj:=fun i h st b hb=>by
  have e:b=it:=by simpa using hb
  subst e
  obtain ⟨o,e,c,d⟩:=st
  exact ⟨o,e,fun v z=>by rw [d] at z;cases z⟩
 keep:=fun i h h' st k=>st.at fun o e=>k it (by simp) o e
 item:=by
  intro X hP hw hK hc i pins s σ H E I hf st hg
  subst hP hw hK
  obtain ⟨xs,x,hq,hx⟩:=hg
  obtain ⟨its,rv,p,hz⟩:=I.list hq
  obtain ⟨u,hu,ru⟩:=rv.get hx
  obtain ⟨f0,f1,f2,f3,f4,f5⟩:=hf it (by simp)
  refine wpAny_pyNext_list_item st p.isList (x:=u) (by simpa using hu) fun h' st' sb=>?_
  have I1:Inv X pins σ H { s with heap:=h' }:=I.turned (t':=s.toks) (fun b o hb e=>(sb.2 b hb).trans e) f0 f1 f3 f4 f5
  obtain ⟨o,e,c,d⟩:=id st'
  exact ⟨u,rfl,Iv (s:={ s with heap:=h' }) e c d (by decide) ⟨x,H,I1,ru,⟨rfl,fun ys hy=>by rw [I.list_inj hy hq];exact hx⟩,st',fun b hb=>(hf b hb).1⟩⟩
 done:=by
  intro X hP hw hK hc i pins s σ H E I hf st hg
  subst hP hw hK
  obtain ⟨xs,hq,hx⟩:=hg
  obtain ⟨its,rv,p,hz⟩:=I.list hq
  obtain ⟨f0,f1,f2,f3,f4,f5⟩:=hf it (by simp)
  have hl:=rv.length
  exact wpAny_pyNext_list_end (I.ok.hd hc) st p.isList (by simp;omega) fun h' eb=>⟨rfl,I.turned (t':=s.toks) (fun b o hb e=>eb b o hb e) f0 f1 f3 f4 f5⟩
 self:=fun _ _ _ _ _ st h=>wpAny_pyIter_listiter st h
theorem Zp5 {P:Program}{w:World}{K:Oz}{tg:Expr}(a it:Addr):Ey P w K tg (Gk K a) [it] it (fun i h=>h.IsTupleIter it a i) where
 mem:=by simp
 obj:=fun i h st b hb=>by
  have e:b=it:=by simpa using hb
  subst e
  obtain ⟨o,e,c,d⟩:=st
  exact ⟨o,e,fun v z=>by rw [d] at z;cases z⟩
 keep:=fun i h h' st k=>st.at fun o e=>k it (by simp) o e
 item:=by
  intro X hP hw hK hc i pins s σ H E I hf st hg
  subst hP hw hK
  obtain ⟨xs,x,hq,hx⟩:=hg
  obtain ⟨its,rv,p,hz⟩:=I.tuple hq
  obtain ⟨u,hu,ru⟩:=rv.get hx
  obtain ⟨f0,f1,f2,f3,f4,f5⟩:=hf it (by simp)
  refine wpAny_pyNext_tuple_item st (show s.heap.IsTuple a its.toArray from p) (x:=u) (by simpa using hu) fun h' st' sb=>?_
  have I1:Inv X pins σ H { s with heap:=h' }:=I.turned (t':=s.toks) (fun b o hb e=>(sb.2 b hb).trans e) f0 f1 f3 f4 f5
  obtain ⟨o,e,c,d⟩:=id st'
  exact ⟨u,rfl,Iv (s:={ s with heap:=h' }) e c d (by decide) ⟨x,H,I1,ru,⟨rfl,fun ys hy=>by rw [I.tuple_inj hy hq];exact hx⟩,st',fun b hb=>(hf b hb).1⟩⟩
 done:=by
  intro X hP hw hK hc i pins s σ H E I hf st hg
  subst hP hw hK
  obtain ⟨xs,hq,hx⟩:=hg
  obtain ⟨its,rv,p,hz⟩:=I.tuple hq
  obtain ⟨f0,f1,f2,f3,f4,f5⟩:=hf it (by simp)
  have hl:=rv.length
  exact wpAny_pyNext_tuple_end (I.ok.hd hc) st (show s.heap.IsTuple a its.toArray from p) (by simp;omega) fun h' eb=>⟨rfl,I.turned (t':=s.toks) (fun b o hb e=>eb b o hb e) f0 f1 f3 f4 f5⟩
 self:=fun _ _ _ _ _ st h=>wpAny_pyIter_tupleiter st h
theorem Zhr {P:Program}{w:World}{K:Oz}{tg:Expr}(it:Addr)(lo:Int)(n:Nat):Ey P w K tg (Fe lo n) [it] it (fun i h=>IsRangeIter h it (lo+(i:Nat) * 1) ((n:Int) - (i:Nat)) 1) where
 mem:=by simp
 obj:=fun i h st b hb=>by
  have e:b=it:=by simpa using hb
  subst e
  exact ⟨_,st,fun v z=>by
   have z':Data.fields _=Data.cell v:=z
   cases z'⟩
 keep:=fun i h h' st k=>k it (by simp) _ st
 item:=by
  intro X hP hw hK hc i pins s σ H E I hf st hg
  subst hP hw hK
  obtain ⟨f0,f1,f2,f3,f4,f5⟩:=hf it (by simp)
  have W:=Walks.range (prog:=X.prog) (w:=X.w) (I.ok.hd hc) it lo 1 n
  refine W.item i s _ _ hg st fun v h' tk hv st' kk=>?_
  obtain ⟨t,rfl⟩:=hv
  have I1:Inv X pins σ H { s with heap:=h',toks:=tk }:=I.turned (fun b o hb e=>kk b o (by simpa using hb) e) f0 f1 f3 f4 f5
  refine ⟨_,rfl,Iv (s:={ s with heap:=h',toks:=tk }) (n := "range_iterator") st' rfl rfl (by decide) ⟨.int (lo+i),H,I1,⟨t,?_⟩,⟨rfl,rfl⟩,st',fun b hb=>(hf b hb).1⟩⟩
  rw [Int.mul_one]
 done:=by
  intro X hP hw hK hc i pins s σ H E I hf st hg
  subst hP hw hK
  obtain ⟨f0,f1,f2,f3,f4,f5⟩:=hf it (by simp)
  exact wpAny_pyNext_range_end (I.ok.hd hc) st (by have:n<=i:=hg;omega) fun h' eb=>⟨rfl,I.turned (t':=s.toks) (fun b o hb e=>eb b o hb e) f0 f1 f3 f4 f5⟩
 self:=fun _ _ _ _ _ st h=>wpAny_pyIter_rangeiter st h
section
variable {X:Cx}{tg:Expr}
theorem Zkg {pins:List (Addr×Obj)}{σ:St}{H:Hp}{s:Shared}{R:It->Hp->Prop}{E:Value->Shared->Prop}{lo hi:Int}{t u v:Tok}{tk:Nat}(I:Inv X pins σ H s)(h1:-(2 ^ 62)<=lo)(h2:lo < 2 ^ 62)(h3:-(2 ^ 62)<=hi)(h4:hi < 2 ^ 62)
  (q:R (Fe lo (hi - lo).toNat) H):wpAny (model X.prog X.w) X.A (pyIter (.ref s.heap.objs.size)) (PIE X pins σ tg R) E { s with heap:=s.heap.push { cls:=.type "range",data:=.fields #[.int lo t,.int hi u,.int 1 v] },toks:=tk }:=by
 refine wpAny_pyIter_range (IsRange.new ..) (small_one h1 h2 h3 h4) ?_
 have I1:Inv X pins σ H { s with heap:=s.heap.push { cls:=.type "range",data:=.fields #[.int lo t,.int hi u,.int 1 v] },toks:=tk }:=I.kept fun b o e=>O9 _ e
 refine ⟨(s.heap.push { cls:=.type "range",data:=.fields #[.int lo t,.int hi u,.int 1 v] }).objs.size,[(s.heap.push { cls:=.type "range",data:=.fields #[.int lo t,.int hi u,.int 1 v] }).objs.size],_,_,H,rfl,
  I1.kept (t':=tk) fun b o e=>O9 _ e,Zhr _ lo (hi - lo).toNat,?_,fun b hb=>?_,q⟩
 ·have e1:lo+((0:Nat):Int) * 1=lo:=by simp
  have e2:(((hi - lo).toNat:Nat):Int) - ((0:Nat):Int)=Builtin.Range.rangeSize lo hi 1:=by rw [rangeSize_one];split <;> omega
  show IsRangeIter _ _ (lo+((0:Nat):Int) * 1) ((((hi - lo).toNat:Nat):Int) - ((0:Nat):Int)) 1
  rw [e1,e2]
  exact Pn _ rfl
 ·have e:b=(s.heap.push { cls:=.type "range",data:=.fields #[.int lo t,.int hi u,.int 1 v] }).objs.size:=by simpa using hb
  subst e
  exact I1.fpOk (O2 _) (I1.hok.fresh (O2 _))
noncomputable def Zab (ta:TA):TI:=fun σ H R=>ta σ H fun vs H1=>∃ j:Int,vs=[.int j]/\-(2 ^ 62)<=j/\j < 2 ^ 62/\R (Fe 0 j.toNat) H1
theorem Zig {a:Expr}{ta:TA}{p pos:Pos}(hg:Gl X "range")(hm:X.mg "range" = none)(ha:PA X [a] ta)(hs:starEach [a] X.env=[(false,eval a X.env)]:=by rfl):PI X tg (.Call (.Name "range" p) [a] [] pos) (Zab ta):=by
 intro pins s σ H R I h
 refine Call_ (Dm I hg hm boot_range (Qp (Aj (ha pos pins s σ H _ I h) fun us s1 zq=>?_) hs rfl))
 obtain ⟨vs,H1,I1,r1,q1⟩:=zq
 obtain ⟨j,e,q1,q2,q⟩:=q1
 subst e
 cases r1 with
 | cons r rr =>
  cases rr
  obtain ⟨t,rfl⟩:=r
  exact call_range_1 (Zkg I1 (by omega) (by omega) q1 q2 (by simpa using q))
noncomputable def M3 (wi:TI)(g:TG)(tb:TS):TS:=fun D σ H=>wi σ H fun J H1=>∃ W:Nat->Nat->St->Hp->Prop,(∃ m,W 0 m σ H1)/\∀ i m σ H,W i m σ H ->
 (J.stop i H/\D.nx σ H)\/(J.go i H/\∃ N:St->Hp->Prop,(∀ σ' H',N σ' H'->∃ m',m' < m/\W (i+1) m' σ' H')/\∀ x H',J.yld i H x H'->g x σ H' fun σ2 H2=>tb { D with nx:=N,ct:=N,bk:=D.nx } σ2 H2)
noncomputable def Hq (fp:List Addr)(h:Heap):List (Addr×Obj):=fp.filterMap fun b=>(h.get? b).map fun o=>(b,o)
theorem Ky {fp:List Addr}{h:Heap}{b:Addr}{o:Obj}(hb:b∈fp)(e:h.get? b=some o):(b,o)∈Hq fp h:=List.mem_filterMap.mpr ⟨b,hb,by rw [e];rfl⟩
theorem Zhe {fp:List Addr}{h:Heap}{p:Addr×Obj}(hp:p∈Hq fp h):p.1∈fp/\h.get? p.1=some p.2:=by
 obtain ⟨b,hb,e⟩:=List.mem_filterMap.mp hp
 cases q:h.get? b with
 | none=>rw [q] at e;cases e
 | some o =>
  rw [q] at e
  have e':(b,o)=p:=Pg e
  subst e'
  exact ⟨hb,q⟩
theorem Inv.pinned {pins:List (Addr×Obj)}{σ:St}{H:Hp}{s:Shared}{fp:List Addr}(I:Inv X pins σ H s)(hf:∀ b∈fp,FpOk X pins H b)(ho:∀ b∈fp,∃ o,s.heap.get? b=some o/\∀ v,o.data≠.cell v):Inv X (pins++Hq fp s.heap) σ H s :=
 I.pins_of fun p hp=>(Pm.mp hp).elim (fun z=>I.pin p (Qg _ z)) fun z=>by
  obtain ⟨hb,e⟩:=Zhe z
  obtain ⟨f0,f1,f2,_⟩:=hf p.1 hb
  obtain ⟨o,e',d⟩:=ho p.1 hb
  rw [e] at e';cases e'
  exact ⟨e,f0,f1,f2,d⟩
theorem Inv.unpinned {pins pl:List (Addr×Obj)}{σ:St}{H:Hp}{s:Shared}(I:Inv X (pins++pl) σ H s):Inv X pins σ H s:=I.pins_of fun p hp=>I.pin p (Qg _ (Qq _ hp))
theorem Zgg {iter:Expr}{body:List Stmt}{wi:TI}{g:TG}{tb:TS}{pos:Pos}(hp:PassesOwn (model X.prog X.w) X.A X.env X.xe)(hc:X.calm=true)(hi:PI X tg iter wi)(hg:PG X tg g)(hb:PSs X body tb)
  (hs:∀ x,foldedSetIterable iter X.env x=pure x:=by intro _;rfl):PS X (.For tg iter body [] pos) (M3 wi g tb):=by
 intro pins s σ H D I h
 refine wpAny_For (Aj (hi pins s σ H _ I h) fun v s1 h1=>Aj h1 fun itv s2 h2=>?_) hs
 obtain ⟨it,fp,tn,J,H2,e,I2,T,st2,f2,W,⟨m0,w0⟩,turn⟩:=h2
 subst e
 have stat:∀{H':Hp},(∀ b∈fp,H' b=none)->∀ b∈fp,FpOk X pins H' b:=fun hn b hb=>⟨hn b hb,(f2 b hb).2⟩
 refine codeAny_forLoop_any (fun n s'=>∃ i σ' H',Inv X pins σ' H' s'/\tn i s'.heap/\(∀ b∈fp,H' b=none)/\W i n σ' H') ?_ m0 ⟨0,σ,H2,I2,st2,fun b hb=>(f2 b hb).1,w0⟩
 rintro n s3 ⟨i,σ3,H3,I3,st3,fr3,w3⟩
 rcases turn i n σ3 H3 w3 with ⟨stop,qn⟩ | ⟨go,N,hN,step⟩
 ·refine Rs hp (Aj (T.done X rfl rfl rfl hc i pins s3 σ3 H3 X.xe I3 (stat fr3) st3 stop) fun r s4 zq=>?_)
  obtain ⟨hr,I4⟩:=zq
  subst hr
  exact Uf ⟨σ3,H3,I4,qn⟩
 ·refine Rs hp (Aj (T.item X rfl rfl rfl hc i pins s3 σ3 H3 X.xe I3 (stat fr3) st3 go) fun r s4 zq=>?_)
  obtain ⟨u,hr,h4⟩:=zq
  subst hr
  refine Rs hp (Aj h4 fun _ s5 zq=>?_)
  obtain ⟨x,H5,I5,r5,y5,st5,fr5⟩:=zq
  have I5':=I5.pinned (stat fr5) (T.obj _ _ st5)
  refine Rs hp (Aj (hg _ s5 σ3 H5 x u _ I5' r5 (step x H5 y5)) fun _ s6 zq=>?_)
  obtain ⟨σ6,H6,I6,q6⟩:=zq
  refine Rs hp (Aj (hb _ s6 σ6 H6 _ I6 q6) fun f s7 q7=>?_)
  have again:∀{σ7:St}{H7:Hp},Inv X (pins++Hq fp s5.heap) σ7 H7 s7->N σ7 H7->∃ m,m < n/\∃ i σ' H',Inv X pins σ' H' s7/\tn i s7.heap/\(∀ b∈fp,H' b=none)/\W i m σ' H':=fun {σ7 H7} I7 n7=>by
   obtain ⟨m',hm,w7⟩:=hN σ7 H7 n7
   refine ⟨m',hm,i+1,σ7,H7,I7.unpinned,T.keep _ _ _ st5 fun b hb o e=>(I7.pin (b,o) (Qg _ (Qg _ (Ky hb e)))).1,fun b hb=>?_,w7⟩
   obtain ⟨o,e,d⟩:=T.obj _ _ st5 b hb
   exact (I7.pin (b,o) (Qg _ (Qg _ (Ky hb e)))).2.1
  cases f with
  | next=>obtain ⟨σ7,H7,I7,n7⟩:=q7;exact again I7 n7
  | cont=>obtain ⟨σ7,H7,I7,n7⟩:=q7;exact again I7 n7
  | brk=>obtain ⟨σ7,H7,I7,q7⟩:=q7;exact ⟨σ7,H7,I7.unpinned,q7⟩
  | ret v=>obtain ⟨x7,σ7,H7,I7,r7,q7⟩:=q7;exact ⟨x7,σ7,H7,I7.unpinned,r7,q7⟩
end
theorem Ik {K:Oz}{a:Addr}{xs:List V}{g:TG}{tb:TS}{D:Cv}{σ:St}{H:Hp}(Pv:Nat->St->Hp->Prop)(h0:Pv 0 σ H)(hl:∀ i σ H,i<=xs.length->Pv i σ H->SqL K H a xs)
  (hs:∀ i x σ H,xs[i]?=some x->Pv i σ H->g x σ H fun σ2 H2=>tb { D with nx:=Pv (i+1),ct:=Pv (i+1),bk:=D.nx } σ2 H2) (hd:∀ σ H,Pv xs.length σ H->D.nx σ H) :
  ∃ W:Nat->Nat->St->Hp->Prop,(∃ m,W 0 m σ H)/\∀ i m σ H,W i m σ H ->
   ((Gb K a).stop i H/\D.nx σ H)\/((Gb K a).go i H/\∃ N:St->Hp->Prop,(∀ σ' H',N σ' H'->∃ m',m' < m/\W (i+1) m' σ' H')/\∀ x H',(Gb K a).yld i H x H'->g x σ H' fun σ2 H2=>tb { D with nx:=N,ct:=N,bk:=D.nx } σ2 H2):=by
 refine ⟨fun i m σ H=>m=xs.length - i/\i<=xs.length/\Pv i σ H,⟨xs.length,by simp,Pp _,h0⟩,?_⟩
 rintro i m σ H ⟨rfl,hi,p⟩
 have q:=hl i σ H hi p
 by_cases hlt:i < xs.length
 ·refine .inr ⟨⟨xs,xs[i],q,by simp [hlt]⟩,Pv (i+1),fun σ' H' p'=>⟨xs.length - (i+1),by omega,rfl,hlt,p'⟩,fun x H' y=>?_⟩
  obtain ⟨e,y⟩:=y
  subst e
  exact hs i x σ _ (y xs q) p
 ·have e:i=xs.length:=by omega
  subst e
  exact .inl ⟨⟨xs,q,O2 _⟩,hd σ H p⟩
theorem Zeu {K:Oz}{a:Addr}{xs:List V}{g:TG}{tb:TS}{D:Cv}{σ:St}{H:Hp}(Pv:Nat->St->Hp->Prop)(h0:Pv 0 σ H)(hl:∀ i σ H,i<=xs.length->Pv i σ H->SqT K H a xs)
  (hs:∀ i x σ H,xs[i]?=some x->Pv i σ H->g x σ H fun σ2 H2=>tb { D with nx:=Pv (i+1),ct:=Pv (i+1),bk:=D.nx } σ2 H2) (hd:∀ σ H,Pv xs.length σ H->D.nx σ H) :
  ∃ W:Nat->Nat->St->Hp->Prop,(∃ m,W 0 m σ H)/\∀ i m σ H,W i m σ H ->
   ((Gk K a).stop i H/\D.nx σ H)\/((Gk K a).go i H/\∃ N:St->Hp->Prop,(∀ σ' H',N σ' H'->∃ m',m' < m/\W (i+1) m' σ' H')/\∀ x H',(Gk K a).yld i H x H'->g x σ H' fun σ2 H2=>tb { D with nx:=N,ct:=N,bk:=D.nx } σ2 H2):=by
 refine ⟨fun i m σ H=>m=xs.length - i/\i<=xs.length/\Pv i σ H,⟨xs.length,by simp,Pp _,h0⟩,?_⟩
 rintro i m σ H ⟨rfl,hi,p⟩
 have q:=hl i σ H hi p
 by_cases hlt:i < xs.length
 ·refine .inr ⟨⟨xs,xs[i],q,by simp [hlt]⟩,Pv (i+1),fun σ' H' p'=>⟨xs.length - (i+1),by omega,rfl,hlt,p'⟩,fun x H' y=>?_⟩
  obtain ⟨e,y⟩:=y
  subst e
  exact hs i x σ _ (y xs q) p
 ·have e:i=xs.length:=by omega
  subst e
  exact .inl ⟨⟨xs,q,O2 _⟩,hd σ H p⟩
theorem Jt {lo:Int}{n:Nat}{g:TG}{tb:TS}{D:Cv}{σ:St}{H:Hp}(Pv:Nat->St->Hp->Prop)(h0:Pv 0 σ H)
  (hs:∀ i σ H,i < n->Pv i σ H->g (.int (lo+i)) σ H fun σ2 H2=>tb { D with nx:=Pv (i+1),ct:=Pv (i+1),bk:=D.nx } σ2 H2) (hd:∀ σ H,Pv n σ H->D.nx σ H) :
  ∃ W:Nat->Nat->St->Hp->Prop,(∃ m,W 0 m σ H)/\∀ i m σ H,W i m σ H ->
   ((Fe lo n).stop i H/\D.nx σ H)\/((Fe lo n).go i H/\∃ N:St->Hp->Prop,(∀ σ' H',N σ' H'->∃ m',m' < m/\W (i+1) m' σ' H')/\∀ x H',(Fe lo n).yld i H x H'->g x σ H' fun σ2 H2=>tb { D with nx:=N,ct:=N,bk:=D.nx } σ2 H2):=by
 refine ⟨fun i m σ H=>m=n - i/\i<=n/\Pv i σ H,⟨n,by simp,Pp _,h0⟩,?_⟩
 rintro i m σ H ⟨rfl,hi,p⟩
 by_cases hlt:i < n
 ·refine .inr ⟨hlt,Pv (i+1),fun σ' H' p'=>⟨n - (i+1),by omega,rfl,hlt,p'⟩,fun x H' y=>?_⟩
  obtain ⟨e,y⟩:=y
  subst e y
  exact hs i σ _ hlt p
 ·have e:i=n:=by omega
  subst e
  exact .inl ⟨O2 _,hd σ H p⟩
noncomputable abbrev R2:=V->V->Hp->VK->Prop
noncomputable def OpR (X:Cx)(f:Value->Value->Sem Value)(r:R2):Prop :=
 ∀(pins:List (Addr×Obj))(s:Shared)(σ:St)(H:Hp)(x y:V)(v u:Value)(Q:VK),Inv X pins σ H s->RelV x v->RelV y u->r x y H Q ->
  wpAny (model X.prog X.w) X.A (f v u) (EP X pins σ Q) X.xe s
noncomputable def UnR (X:Cx)(f:Value->Sem Value)(r:V->Hp->VK->Prop):Prop :=
 ∀(pins:List (Addr×Obj))(s:Shared)(σ:St)(H:Hp)(x:V)(v:Value)(Q:VK),Inv X pins σ H s->RelV x v->r x H Q ->
  wpAny (model X.prog X.w) X.A (f v) (EP X pins σ Q) X.xe s
noncomputable def B9 (X:Cx)(f:Value)(r:List V->Hp->VK->Prop):Prop :=
 ∀(pins:List (Addr×Obj))(s:Shared)(σ:St)(H:Hp)(xs:List V)(us:List Value)(Q:VK),Inv X pins σ H s->Vals xs us->r xs H Q ->
  wpAny (model X.prog X.w) X.A (call f us) (EP X pins σ Q) X.xe s
noncomputable def TruR (X:Cx)(r:V->Hp->(Bool->Hp->Prop)->Prop):Prop :=
 ∀(pins:List (Addr×Obj))(s:Shared)(σ:St)(H:Hp)(x:V)(v:Value)(Q:Bool->Hp->Prop),Inv X pins σ H s->RelV x v->r x H Q ->
  wpAny (model X.prog X.w) X.A (truthy v) (TP X pins σ Q) X.xe s
noncomputable def Eu (r:R2)(ta tb:TE):TE:=fun σ H Q=>ta σ H fun x H1=>tb σ H1 fun y H2=>r x y H2 Q
noncomputable def tUn (r:V->Hp->VK->Prop)(ta:TE):TE:=fun σ H Q=>ta σ H fun x H1=>r x H1 Q
noncomputable def rI (C:Int->Int->Prop)(g:Int->Int->V):R2:=fun x y H Q=>∃ i j,x=.int i/\y=.int j/\C i j/\Q (g i j) H
noncomputable def Ec (g:Int->Int->V):R2:=fun x y H Q=>∃ i j,x=.int i/\y=.int j/\Q (g i j) H
noncomputable def rU (g:Int->V):V->Hp->VK->Prop:=fun x H Q=>∃ i,x=.int i/\Q (g i) H
section
variable {X:Cx}{a b c:Expr}{ta tb tc:TE}{pos:Pos}
theorem M0 (ha:PE X a ta)(hb:PE X b tb){pins:List (Addr×Obj)}{s:Shared}{σ:St}{H:Hp}{R:V->V->Hp->Prop}(I:Inv X pins σ H s)
  (h:ta σ H fun x H1=>tb σ H1 fun y H2=>R x y H2) {Q:Value->Shared->Prop} {f:Value->Value->Sem Value}
  (hf:∀ v u s2 x y H2,Inv X pins σ H2 s2->RelV x v->RelV y u->R x y H2->wpAny (model X.prog X.w) X.A (f v u) Q X.xe s2) :
  wpAny (model X.prog X.w) X.A (eval a X.env) (fun v s₁=>wpAny (model X.prog X.w) X.A (eval b X.env) (fun u s₂=>wpAny (model X.prog X.w) X.A (f v u) Q X.xe s₂) X.xe s₁) X.xe s:=by
 refine Aj (ha pins s σ H _ I h) fun v s1 zq=>?_
 obtain ⟨x,H1,I1,r1,q1⟩:=zq
 refine Aj (hb pins s1 σ H1 _ I1 q1) fun u s2 zq=>?_
 obtain ⟨y,H2,I2,r2,q2⟩:=zq
 exact hf v u s2 x y H2 I2 r1 r2 q2
theorem Zju {op:Operator}{r:R2}(ho:OpR X (binaryOp op) r)(ha:PE X a ta)(hb:PE X b tb):PE X (.BinOp a op b pos) (Eu r ta tb):=by
 intro pins s σ H Q I h
 exact wpAny_BinOp (M0 ha hb I h fun v u s2 x y H2 I2 rx ry q=>ho pins s2 σ H2 x y v u Q I2 rx ry q)
theorem Zj5 {op:UnaryOp}{r:V->Hp->VK->Prop}(ho:UnR X (unaryOp op) r)(ha:PE X a ta):PE X (.UnaryOp op a pos) (tUn r ta):=by
 intro pins s σ H Q I h
 exact UnaryOp_ (Aj (ha pins s σ H _ I h) fun v s1 ⟨x,H1,I1,r1,q1⟩=>ho pins s1 σ H1 x v Q I1 r1 q1)
theorem opI {f:Value->Value->Sem Value}{C:Int->Int->Prop}{g:Int->Int->Int}
  (rule:∀(i j:Int)(t u:Tok)(s:Shared)(Q:Value->Shared->Prop)(E:Value->Shared->Prop),C i j->Q (.int (g i j) s.toks) { s with toks:=s.toks+1 }->wpAny (model X.prog X.w) X.A (f (.int i t) (.int j u)) Q E s) :
  OpR X f (rI C fun i j=>.int (g i j)):=by
 intro pins s σ H x y v u Q I rx ry h
 obtain ⟨i,j,rfl,rfl,hc,q⟩:=h
 obtain ⟨t,rfl⟩:=rx
 obtain ⟨t',rfl⟩:=ry
 exact rule i j t t' s _ _ hc ⟨.int (g i j),H,I.tok _,⟨_,rfl⟩,q⟩
theorem opI0 {f:Value->Value->Sem Value}{g:Int->Int->Int}
  (rule:∀(i j:Int)(t u:Tok)(s:Shared)(Q:Value->Shared->Prop)(E:Value->Shared->Prop),Q (.int (g i j) s.toks) { s with toks:=s.toks+1 }->wpAny (model X.prog X.w) X.A (f (.int i t) (.int j u)) Q E s) :
  OpR X f (Ec fun i j=>.int (g i j)):=by
 intro pins s σ H x y v u Q I rx ry h
 obtain ⟨i,j,rfl,rfl,q⟩:=h
 obtain ⟨t,rfl⟩:=rx
 obtain ⟨t',rfl⟩:=ry
 exact rule i j t t' s _ _ ⟨.int (g i j),H,I.tok _,⟨_,rfl⟩,q⟩
theorem L6 {f:Value->Value->Sem Value}{g:Int->Int->Bool}
  (rule:∀(i j:Int)(t u:Tok)(s:Shared)(Q:Value->Shared->Prop)(E:Value->Shared->Prop),Q (.bool (g i j)) s->wpAny (model X.prog X.w) X.A (f (.int i t) (.int j u)) Q E s) :
  OpR X f (Ec fun i j=>.bl (g i j)):=by
 intro pins s σ H x y v u Q I rx ry h
 obtain ⟨i,j,rfl,rfl,q⟩:=h
 obtain ⟨t,rfl⟩:=rx
 obtain ⟨t',rfl⟩:=ry
 exact rule i j t t' s _ _ ⟨.bl (g i j),H,I,rfl,q⟩
noncomputable def CDiv (i j:Int):Prop:=0 < j/\j < 1073741824
noncomputable def CPow (i j:Int):Prop:=0<=j/\j<=1000000/\i.natAbs < 2 ^ 64
noncomputable def CMul (i j:Int):Prop:=(-(2 ^ 64) < i/\i < 2 ^ 64)\/(-(2 ^ 64) < j/\j < 2 ^ 64)
theorem CMul.ok {i j:Int}(h:CMul i j):IntMulOk i j:=by
 rcases h with ⟨h1,h2⟩ | ⟨h1,h2⟩
 ·exact .of_left (intBits_le_64 h1 h2)
 ·exact .of_right (intBits_le_64 h1 h2)
theorem op_add:OpR X (binaryOp .Add) (Ec fun i j=>.int (i+j)):=opI0 fun _ _ _ _ _ _ _ q=>add_int q
theorem Zhz:OpR X (binaryOp .Sub) (Ec fun i j=>.int (i - j)):=opI0 fun _ _ _ _ _ _ _ q=>sub_int q
theorem op_mul:OpR X (binaryOp .Mult) (rI CMul fun i j=>.int (i * j)):=opI fun _ _ _ _ _ _ _ hc q=>mul_int q hc.ok
theorem Ej:OpR X (binaryOp .FloorDiv) (rI CDiv fun i j=>.int (i / j)):=opI fun i j _ _ _ _ _ hc q=>by
 have h1:(0:Int) < j:=hc.1
 have h2:j < 1073741824:=hc.2
 exact floordiv_int (by omega) (by rw [Int.fdiv_eq_ediv_of_nonneg i (by omega)];exact q) (.inl (PyProof.noPylong_small (by omega)))
theorem Cb:OpR X (binaryOp .Mod) (rI (fun _ j=>0 < j) fun i j=>.int (i % j)):=opI fun i j _ _ _ _ _ hc q=>by
 have h1:(0:Int) < j:=hc
 exact mod_int' (by omega) (by rw [Int.fmod_eq_emod_of_nonneg i (by omega)];exact q)
theorem Zjs:OpR X (binaryOp .Pow) (rI CPow fun i j=>.int (i ^ j.toNat)):=opI fun _ _ _ _ _ _ _ hc q=>pow_int_small hc.1 hc.2.1 hc.2.2 q
theorem unI {f:Value->Sem Value}{g:Int->Int}
  (rule:∀(i:Int)(t:Tok)(s:Shared)(Q:Value->Shared->Prop)(E:Value->Shared->Prop),Q (.int (g i) s.toks) { s with toks:=s.toks+1 }->wpAny (model X.prog X.w) X.A (f (.int i t)) Q E s) :
  UnR X f (rU fun i=>.int (g i)):=by
 intro pins s σ H x v Q I rx h
 obtain ⟨i,rfl,q⟩:=h
 obtain ⟨t,rfl⟩:=rx
 exact rule i t s _ _ ⟨.int (g i),H,I.tok _,⟨_,rfl⟩,q⟩
theorem Iy:UnR X (unaryOp .USub) (rU fun i=>.int (-i)):=unI fun _ _ _ _ _ q=>neg_int q
end
noncomputable def Ge:V->V->Bool
 | .non,.non=>true | .non,.int _=>true | .int _,.non=>true | .non,.bl _=>true | .bl _,.non=>true | .non,.str _=>true | .str _,.non=>true
 | .int _,.int _=>true | .bl _,.bl _=>true | .str _,.str _=>true | .byt _,.byt _=>true
 | .int _,.str _=>true | .str _,.int _=>true | .bl _,.str _=>true | .str _,.bl _=>true
 | _,_=>false
noncomputable def rEq:R2:=fun x y H Q=>Ge x y=true/\Q (.bl (decide (x=y))) H
noncomputable def rNe:R2:=fun x y H Q=>Ge x y=true/\Q (.bl (!decide (x=y))) H
theorem Zam {i j:Int}:decide (V.int i=V.int j)=(i == j):=by
 rw [Sa]
 simp
theorem Za4 {i j:Bool}:decide (V.bl i=V.bl j)=(i == j):=by
 rw [Sa]
 simp
theorem Gh {i j:Str}:decide (V.str i=V.str j)=(i == j):=by
 rw [Sa]
 simp
theorem Zb4 {i j:Array UInt8}:decide (V.byt i=V.byt j)=(i.toList == j.toList):=by
 rw [Sa]
 cases i
 cases j
 simp
section
variable {X:Cx}{a b c:Expr}{ta tb tc:TE}{pos:Pos}
theorem Bq {pins:List (Addr×Obj)}{σ:St}{H:Hp}{s:Shared}{Q:VK}{k k':Bool}(I:Inv X pins σ H s)(q:Q (.bl k) H)(e:k=k'):EP X pins σ Q (.bool k') s:=by
 subst e
 exact ⟨.bl k,H,I,rfl,q⟩
theorem op_eq:OpR X (compareOp .Eq) rEq:=by
 intro pins s σ H x y v u Q I rx ry h
 obtain ⟨hs,q⟩:=h
 cases x with
 | non =>
  cases rx
  cases y with
  | non=>cases ry;exact PySem.EqNone.eq_none_none (Bq I q (by simp))
  | bl j=>cases ry;exact PySem.EqNone.eq_none_bool (Bq I q (by simp))
  | int j=>obtain ⟨t',rfl⟩:=ry;exact PySem.EqNone.eq_none_int (Bq I q (by simp))
  | str j=>obtain ⟨t',rfl⟩:=ry;exact PySem.EqNone.eq_none_str (Bq I q (by simp))
  | _=>exact absurd (show false=true from hs) Pf
 | bl i =>
  cases rx
  cases y with
  | non=>cases ry;exact PySem.EqNone.eq_bool_none (Bq I q (by simp))
  | bl j=>cases ry;exact eq_bool (Bq I q Za4)
  | str j=>obtain ⟨t',rfl⟩:=ry;exact PySem.EqMixed.eq_bool_str (Bq I q (by simp))
  | _=>exact absurd (show false=true from hs) Pf
 | int i =>
  obtain ⟨t,rfl⟩:=rx
  cases y with
  | non=>cases ry;exact PySem.EqNone.eq_int_none (Bq I q (by simp))
  | int j=>obtain ⟨t',rfl⟩:=ry;exact eq_int (Bq I q Zam)
  | str j=>obtain ⟨t',rfl⟩:=ry;exact PySem.EqMixed.eq_int_str (Bq I q (by simp))
  | _=>exact absurd (show false=true from hs) Pf
 | str i =>
  obtain ⟨t,rfl⟩:=rx
  cases y with
  | non=>cases ry;exact PySem.EqNone.eq_str_none (Bq I q (by simp))
  | bl j=>cases ry;exact PySem.EqMixed.eq_str_bool (Bq I q (by simp))
  | int j=>obtain ⟨t',rfl⟩:=ry;exact PySem.EqMixed.eq_str_int (Bq I q (by simp))
  | str j=>obtain ⟨t',rfl⟩:=ry;exact eq_str (Bq I q Gh)
  | _=>exact absurd (show false=true from hs) Pf
 | byt i =>
  obtain ⟨t,rfl⟩:=rx
  cases y with
  | byt j=>obtain ⟨t',rfl⟩:=ry;exact PySem.W.eq_bytes (Bq I q Zb4)
  | _=>exact absurd (show false=true from hs) Pf
 | _=>cases y <;> exact absurd (show false=true from hs) Pf
theorem op_ne:OpR X (compareOp .NotEq) rNe:=by
 intro pins s σ H x y v u Q I rx ry h
 obtain ⟨hs,q⟩:=h
 cases x with
 | non =>
  cases rx
  cases y with
  | non=>cases ry;exact PySem.EqNone.ne_none_none (Bq I q (by simp))
  | bl j=>cases ry;exact PySem.EqNone.ne_none_bool (Bq I q (by simp))
  | int j=>obtain ⟨t',rfl⟩:=ry;exact PySem.EqNone.ne_none_int (Bq I q (by simp))
  | str j=>obtain ⟨t',rfl⟩:=ry;exact PySem.EqNone.ne_none_str (Bq I q (by simp))
  | _=>exact absurd (show false=true from hs) Pf
 | bl i =>
  cases rx
  cases y with
  | non=>cases ry;exact PySem.EqNone.ne_bool_none (Bq I q (by simp))
  | bl j=>cases ry;exact ne_bool (Bq I q (congrArg not Za4))
  | str j=>obtain ⟨t',rfl⟩:=ry;exact PySem.EqMixed.ne_bool_str (Bq I q (by simp))
  | _=>exact absurd (show false=true from hs) Pf
 | int i =>
  obtain ⟨t,rfl⟩:=rx
  cases y with
  | non=>cases ry;exact PySem.EqNone.ne_int_none (Bq I q (by simp))
  | int j=>obtain ⟨t',rfl⟩:=ry;exact ne_int (Bq I q (congrArg not Zam))
  | str j=>obtain ⟨t',rfl⟩:=ry;exact PySem.EqMixed.ne_int_str (Bq I q (by simp))
  | _=>exact absurd (show false=true from hs) Pf
 | str i =>
  obtain ⟨t,rfl⟩:=rx
  cases y with
  | non=>cases ry;exact PySem.EqNone.ne_str_none (Bq I q (by simp))
  | bl j=>cases ry;exact PySem.EqMixed.ne_str_bool (Bq I q (by simp))
  | int j=>obtain ⟨t',rfl⟩:=ry;exact PySem.EqMixed.ne_str_int (Bq I q (by simp))
  | str j=>obtain ⟨t',rfl⟩:=ry;exact ne_str (Bq I q (congrArg not Gh))
  | _=>exact absurd (show false=true from hs) Pf
 | byt i =>
  obtain ⟨t,rfl⟩:=rx
  cases y with
  | byt j=>obtain ⟨t',rfl⟩:=ry;exact PySem.W.ne_bytes (Bq I q (congrArg not Zb4))
  | _=>exact absurd (show false=true from hs) Pf
 | _=>cases y <;> exact absurd (show false=true from hs) Pf
theorem op_lt:OpR X (compareOp .Lt) (Ec fun i j=>.bl (decide (i < j))):=L6 fun _ _ _ _ _ _ _ q=>lt_int q
theorem op_le:OpR X (compareOp .LtE) (Ec fun i j=>.bl (decide (i<=j))):=L6 fun _ _ _ _ _ _ _ q=>le_int q
theorem Kk:OpR X (compareOp .Gt) (Ec fun i j=>.bl (decide (j < i))):=L6 fun _ _ _ _ _ _ _ q=>gt_int q
theorem Ziq:OpR X (compareOp .Lt) (fun x y H Q=>∃ i j,x=.str i/\y=.str j/\Q (.bl (decide (i.cps.toList < j.cps.toList))) H):=by
 intro pins s σ H x y v u Q I rx ry h
 obtain ⟨i,j,rfl,rfl,q⟩:=h
 obtain ⟨t,rfl⟩:=rx
 obtain ⟨t',rfl⟩:=ry
 exact lt_str (Bq I q rfl)
theorem Zit:OpR X (compareOp .In) (fun x y H Q=>∃ i j,x=.str i/\y=.str j/\Q (.bl (!(Builtin.Str.occurrences j i 0 j.length 1).isEmpty)) H):=by
 intro pins s σ H x y v u Q I rx ry h
 obtain ⟨i,j,rfl,rfl,q⟩:=h
 obtain ⟨t,rfl⟩:=rx
 obtain ⟨t',rfl⟩:=ry
 exact in_str (Bq I q rfl)
theorem OpR.or {f:Value->Value->Sem Value}{r r':R2}(h:OpR X f r)(h':OpR X f r'):OpR X f (fun x y H Q=>r x y H Q\/r' x y H Q):=by
 intro pins s σ H x y v u Q I rx ry q
 rcases q with q | q
 ·exact h pins s σ H x y v u Q I rx ry q
 ·exact h' pins s σ H x y v u Q I rx ry q
theorem Ay (b:Expr){op:CmpOp}(h:op≠.In:=by decide)(h2:op≠.NotIn:=by decide):behindInMarks op b=false:=by
 have e1:(op == CmpOp.In)=false:=by cases op <;> first | rfl | exact absurd rfl h
 have e2:(op == CmpOp.NotIn)=false:=by cases op <;> first | rfl | exact absurd rfl h2
 cases b <;> simp [behindInMarks,e1,e2]
theorem Zp0 {op:CmpOp}{r:R2}(ho:OpR X (compareOp op) r)(ha:PE X a ta)(hb:PE X b tb)(hm:behindInMarks op b=false):PE X (.Compare a [op] [b] pos) (Eu r ta tb):=by
 intro pins s σ H Q I h
 exact wpAny_Compare1 (M0 ha hb I h fun v u s2 x y H2 I2 rx ry q=>ho pins s2 σ H2 x y v u Q I2 rx ry q) hm
noncomputable def Na (t:TE):TT:=fun σ H Q=>t σ H fun x H'=>∃ k,x=.bl k/\Q k H'
theorem Zop {op:CmpOp}{r:R2}(ho:OpR X (compareOp op) r)(ha:PE X a ta)(hb:PE X b tb)(hm:behindInMarks op b=false):PT X (.Compare a [op] [b] pos) (Na (Eu r ta tb)):=by
 intro pins s σ H Q I h
 refine wpAny_isTrue_Compare1 (Aj (ha pins s σ H _ I h) fun v s1 ⟨x,H1,I1,r1,q1⟩=>Aj (hb pins s1 σ H1 _ I1 q1) fun u s2 ⟨y,H2,I2,r2,q2⟩ =>
  Aj (ho pins s2 σ H2 x y v u _ I2 r1 r2 q2) fun c s3 ⟨z,H3,I3,r3,k,e,q3⟩=>?_) hm
 subst e
 cases r3
 exact Rq ⟨H3,I3,q3⟩
noncomputable def L4 (r r':R2)(ta tb tc:TE):TE:=fun σ H Q=>ta σ H fun x H1=>tb σ H1 fun y H2=>r x y H2 fun z H3=>∃ k,z=.bl k /\
 (if k=true then tc σ H3 fun w' H4=>r' y w' H4 Q else Q (.bl false) H3)
theorem Zf5 {op op':CmpOp}{r r':R2}(ho:OpR X (compareOp op) r)(ho':OpR X (compareOp op') r')(ha:PE X a ta)(hb:PE X b tb)(hc:PE X c tc)
  (hm:lastMarks [op,op'] [b,c]=false:=by with_unfolding_all rfl):PE X (.Compare a [op,op'] [b,c] pos) (L4 r r' ta tb tc):=by
 intro pins s σ H Q I h
 refine Compare_chain (Aj (ha pins s σ H _ I h) fun v s1 ⟨x,H1,I1,r1,q1⟩=>chain_link (Aj (hb pins s1 σ H1 _ I1 q1) fun u s2 ⟨y,H2,I2,r2,q2⟩ =>
  Aj (ho pins s2 σ H2 x y v u _ I2 r1 r2 q2) fun d s3 ⟨z,H3,I3,r3,k,e,q3⟩=>?_)) hm
 subst e
 cases r3
 refine Rq ?_
 cases k with
 | false=>exact ite_ff ⟨.bl false,H3,I3,rfl,q3⟩
 | true=>exact ite_tt (chain_last (Aj (hc pins s3 σ H3 _ I3 q3) fun w' s4 ⟨z',H4,I4,r4,q4⟩=>ho' pins s4 σ H4 y z' u w' Q I4 r2 r4 q4))
noncomputable def Im (K:Oz)(x:V)(H:Hp)(k:Bool):Prop :=
 match x with
 | .non=>k=false
 | .bl b=>k=b
 | .int i=>k=(i != 0)
 | .str y=>y.length<=sizeLine/\k=((y.length:Int) != 0)
 | .byt y=>y.size<=sizeLine/\k=((y.size:Int) != 0)
 | .ref p=>(∃ xs,SqL K H p xs/\k=!xs.isEmpty)\/(∃ xs,SqT K H p xs/\k=!xs.isEmpty)\/∃ kvs,H p=some (.dK kvs)/\k=!kvs.isEmpty
 | _=>False
theorem Zjp {κ:Type}{kvs:List (κ×V)}{vs:List (κ×Value)}(r:KV kvs vs):(!vs.isEmpty)=!kvs.isEmpty:=by
 cases r <;> rfl
theorem Zb1 {xs:List V}{its:List Value}(r:Vals xs its):(!its.toArray.isEmpty)=!xs.isEmpty:=by
 cases r <;> simp
theorem G4:(sizeLine:Nat) < 2 ^ 63:=by rw [sizeLine_eq];decide
theorem Zkd:TruR X (fun x H Q=>∃ k,Im X.K x H k/\Q k H):=by
 intro pins s σ H x v Q I rx h
 obtain ⟨k,e,q⟩:=h
 have hl:=G4
 have hs:sizeLine=16777216:=sizeLine_eq
 cases x with
 | non =>
  cases rx
  have e':k=false:=e
  subst e'
  exact truthy_none ⟨H,I,q⟩
 | bl b =>
  cases rx
  have e':k=b:=e
  subst e'
  exact Rq ⟨H,I,q⟩
 | int i =>
  obtain ⟨t,rfl⟩:=rx
  have e':k=(i != 0):=e
  subst e'
  exact PySem.P.truthy_int ⟨H,I,q⟩
 | str y =>
  obtain ⟨t,rfl⟩:=rx
  obtain ⟨hy,e'⟩:y.length<=sizeLine/\k=((y.length:Int) != 0):=e
  subst e'
  exact PySem.P.truthy_str (by omega) ⟨H,I.tok _,q⟩
 | byt y =>
  obtain ⟨t,rfl⟩:=rx
  obtain ⟨hy,e'⟩:y.size<=sizeLine/\k=((y.size:Int) != 0):=e
  subst e'
  exact PySem.W.truthy_bytes (by omega) ⟨H,I.tok _,q⟩
 | ref p =>
  cases rx
  have e':(∃ xs,SqL X.K H p xs/\k=!xs.isEmpty)\/(∃ xs,SqT X.K H p xs/\k=!xs.isEmpty)\/∃ kvs,H p=some (.dK kvs)/\k=!kvs.isEmpty:=e
  rcases e' with ⟨xs,hx,e'⟩ | ⟨xs,hx,e'⟩ | ⟨kvs,hx,e'⟩
  ·subst e'
   obtain ⟨its,r,pl,hz⟩:=I.list hx
   have hlen:=r.length
   exact wpAny_truthy_list pl.isList (by simp only [O4];omega) ⟨H,I.tok _,by rw [Zb1 r];exact q⟩
  ·subst e'
   obtain ⟨its,r,pl,hz⟩:=I.tuple hx
   have hlen:=r.length
   exact truthy_tuple pl (by simp only [O4];omega) ⟨H,I.tok _,by rw [Zb1 r];exact q⟩
  ·subst e'
   obtain ⟨hz,hS,vs,r,m⟩:kvs.length<=sizeLine/\(p == sysModules)=false/\∃ vs,KV kvs vs/\s.heap.DictOf (Ce X.prog X.w) p vs:=I.hok p _ hx
   have hlen:kvs.length=vs.length:=Tf r
   exact wpAny_truthy_dict hS m (by omega) ⟨H,I.tok _,by rw [Zjp r];exact q⟩
 | _=>exact (show False from e).elim
theorem Zhd (ha:PE X a ta)(he:∀ whole,isTrue a X.env whole=(do let v <- whole;standAt a.pos;holding [v] (truthy v))) :
  PT X a (fun σ H Q=>ta σ H fun x H'=>∃ k,Im X.K x H' k/\Q k H'):=by
 intro pins s σ H Q I h
 exact isTrue_plain (Aj (ha pins s σ H _ I h) fun v s1 ⟨x,H1,I1,r1,q1⟩=>Zkd pins s1 σ H1 x v Q I1 r1 q1) (he _)
theorem op_add_str:OpR X (binaryOp .Add) (fun x y H Q=>∃ i j,x=.str i/\y=.str j/\i.length+j.length<=sizeLine/\Q (.str (i++j)) H):=by
 intro pins s σ H x y v u Q I rx ry h
 obtain ⟨i,j,rfl,rfl,hz,q⟩:=h
 obtain ⟨t,rfl⟩:=rx
 obtain ⟨t',rfl⟩:=ry
 exact add_str (fun t' tk=>⟨.str (i++j),H,I.tok _,⟨_,rfl⟩,q⟩) hz
theorem Jc {x:V}{us:List Value}(r:Vals [x] us):∃ u,us=[u]/\RelV x u:=by
 cases r with
 | cons r1 r2=>cases r2;exact ⟨_,rfl,r1⟩
theorem Zhn:B9 X (.type "int") (fun xs H Q=>(∃ i,xs=[.int i]/\Q (.int i) H)\/∃ k,xs=[.bl k]/\Q (.int (if k then 1 else 0)) H):=by
 intro pins s σ H xs us Q I r h
 rcases h with ⟨i,rfl,q⟩ | ⟨k,rfl,q⟩
 ·obtain ⟨u,rfl,t,rfl⟩:=Jc r
  exact call_int_int ⟨.int i,H,I,⟨_,rfl⟩,q⟩
 ·obtain ⟨u,rfl,r1⟩:=Jc r
  cases r1
  exact call_int_bool ⟨.int (if k then 1 else 0),H,I.tok _,⟨_,rfl⟩,q⟩
noncomputable def LenV (K:Oz)(x:V)(H:Hp)(n:Nat):Prop :=
 match x with
 | .str y=>y.length<=sizeLine/\n=y.length
 | .byt y=>y.size<=sizeLine/\n=y.size
 | .ref p=>(∃ xs,SqL K H p xs/\n=xs.length)\/∃ xs,SqT K H p xs/\n=xs.length
 | _=>False
theorem Zlw:B9 X (.builtin "len") (fun xs H Q=>∃ x n,xs=[x]/\LenV X.K x H n/\Q (.int n) H):=by
 intro pins s σ H xs us Q I r h
 obtain ⟨x,n,rfl,e,q⟩:=h
 obtain ⟨u,rfl,rx⟩:=Jc r
 have hl:=G4
 have hs:sizeLine=16777216:=sizeLine_eq
 cases x with
 | str y =>
  obtain ⟨t,rfl⟩:=rx
  obtain ⟨hy,e'⟩:y.length<=sizeLine/\n=y.length:=e
  subst e'
  exact len_str (by omega) ⟨.int _,H,I.tok _,⟨_,rfl⟩,q⟩
 | byt y =>
  obtain ⟨t,rfl⟩:=rx
  obtain ⟨hy,e'⟩:y.size<=sizeLine/\n=y.size:=e
  subst e'
  exact PySem.W.len_bytes (by omega) ⟨.int _,H,I.tok _,⟨_,rfl⟩,q⟩
 | ref p =>
  cases rx
  have e':(∃ xs,SqL X.K H p xs/\n=xs.length)\/∃ xs,SqT X.K H p xs/\n=xs.length:=e
  rcases e' with ⟨xs,hx,e'⟩ | ⟨xs,hx,e'⟩
  ·subst e'
   obtain ⟨its,r',pl,hz⟩:=I.list hx
   have hlen:=r'.length
   exact Calls.call_len_list pl.isList (by simp only [O4];omega) ⟨.int xs.length,H,I.tok _,⟨_,by simp only [O4];rw [hlen]⟩,q⟩
  ·subst e'
   obtain ⟨its,r',pl,hz⟩:=I.tuple hx
   have hlen:=r'.length
   exact len_tuple pl (by simp only [O4];omega) ⟨.int xs.length,H,I.tok _,⟨_,by simp only [O4];rw [hlen]⟩,q⟩
 | _=>exact (show False from e).elim
end
structure ObjM (h:Heap)(x dx C:Addr)(mA:Str->Option Value):Prop where
 obj:h.get? x=some (Vq C dx)
 ns:h.Ns1 dx mA
 ne:dx≠x
theorem Zpv {h:Heap}{dx:Addr}{mA:Str->Option Value}(n:h.Ns1 dx mA):∃ od,h.get? dx=some od/\∀ name,PySem.W.lookIn name od=some (mA name):=by
 obtain ⟨o,es,ep,ho,hd,hk,_,hm⟩:=n
 refine ⟨o,ho,fun name=>?_⟩
 have e:=hm name
 unfold nsFind findBy at e
 rw [<- Array.find?_toList] at e
 unfold PySem.W.lookIn
 rw [hd]
 dsimp only
 split
 ·rename_i y q
  rw [q] at e
  exact congrArg some e
 ·rename_i q
  rw [q] at e
  have a:es.toList.any (·.refKey)=false:=by
   rw [List.any_eq_false]
   intro y hy
   obtain ⟨z,t,hkey⟩:=hk y (Array.mem_toList_iff.mp hy)
   simp [DictEntry.refKey,hkey]
  have a':¬ es.toList.any (·.refKey)=true:=by rw [a];exact Pf
  rw [if_neg a']
  exact congrArg some e
theorem ObjM.look {h:Heap}{x dx C:Addr}{mA:Str->Option Value}(I:ObjM h x dx C mA):∃ od,PySem.W.InstAt h x (Vq C dx) C (some od)/\∀ name,PySem.W.lookIn name od=some (mA name) :=
 let ⟨od,ho,hl⟩:=Zpv I.ns
 ⟨od,⟨I.obj,rfl,rfl,ho⟩,hl⟩
section
variable {prog:Program}{w:World}{A:Around}{E:Value->Shared->Prop}{s:Shared}{K:Oz}{x dx C f:Addr}{mA:Str->Option Value}{name:Str}{v:Value}
end
theorem RelO.some_of {v:V}{o:Option Value}(r:RelO (some v) o):∃ u,o=some u/\RelV v u:=by
 cases o with
 | none=>exact (show False from r).elim
 | some u=>exact ⟨u,rfl,r⟩
section
variable {P:Program}{w:World}{H H':Hp}{h h':Heap}{a C dx:Addr}{fs fs':List (Str×V)}
theorem Zgu (hok:HOk P w H h)(e:H a=some (.ins C dx fs)):∃ mA,ObjM h a dx C mA/\(∀ f,RelO (fs.lookup f) (mA f))/\PySem.Within mA (fs.map (·.1))/\fs.length<=1000/\H dx=some (.own a):=by
 obtain ⟨d,z,ne,ob,mA,n,r,q⟩:=(show ObjOk P w H h a (.ins C dx fs) from hok a _ e)
 exact ⟨mA,⟨ob,n,ne⟩,r,q,z,d⟩
end
structure Cls (K:Oz)(C:Addr):Prop where
 pg:PySem.W.plainGet K C Str.empty=true
 hd:PySem.W.hasDictIn K C=true
 po:PySem.W.plainOver K C=true
 sa:PySem.W.findIn K (.ref C) "__setattr__" = some (some (.builtin "object.__setattr__"))
theorem Cls.get {K:Oz}{C:Addr}(c:Cls K C)(f:Str):PySem.W.plainGet K C f=true:=c.pg
section
variable {X:Cx}{pins:List (Addr×Obj)}{σ:St}{H:Hp}{s:Shared}{a C dx:Addr}{fs:List (Str×V)}{f:Str}{v:V}{A:Around}{E:Value->Shared->Prop}
end
section
variable {X:Cx}{o e value:Expr}{f:Str}{pos pos' tpos:Pos}{ta tv:TE}
end
section
variable {X:Cx}{pins:List (Addr×Obj)}{σ:St}{H:Hp}{s:Shared}{A:Around}{E:Value->Shared->Prop}{Q:Value->Shared->Prop}{c:Value}{b:Bool}
inductive C6 (K:Oz)(H:Hp):V->Value->Prop where
 | non:C6 K H .non (.type "NoneType")
 | bl (x:Bool):C6 K H (.bl x) (.type "bool")
 | int (i:Int):C6 K H (.int i) (.type "int")
 | str (x:Str):C6 K H (.str x) (.type "str")
 | flt (x:UInt64):C6 K H (.flt x) (.type "float")
 | lst {a:Addr} {xs:List V} (e:H a=some (.lst xs)):C6 K H (.ref a) (.type "list")
 | frz {a:Addr} {o:Obj} {xs:List V} (e:H a=some (.frz o (.lst xs))):C6 K H (.ref a) (.type "list")
 | tup {a:Addr} {xs:List V} (e:H a=some (.tup xs)):C6 K H (.ref a) (.type "tuple")
 | dK {a:Addr} {kvs:List (Ap×V)} (e:H a=some (.dK kvs)):C6 K H (.ref a) (.type "dict")
 | dT {a:Addr} {kvs:List (List Ap×V)} (e:H a=some (.dT kvs)):C6 K H (.ref a) (.type "dict")
 | ins {a C dx:Addr} {fs:List (Str×V)} (e:H a=some (.ins C dx fs)) (cl:Cls K C) (ha:PySem.W.findIn K (.ref C) "__class__" = some (some (.builtin "object.__class__")))
   (hn:PySem.W.specialIn K (.builtin "object.__class__") "__get__" = some (some (.builtin "getset_descriptor.__get__"))) (htk:PySem.W.takesIn K (.builtin "object.__class__")=some true)
   (hm:PySem.W.mroIn K C (.type "object")=some true):C6 K H (.ref a) (.ref C)
theorem Zki {x:V}{u t:Value}(I:Inv X pins σ H s)(rx:RelV x u)(ty:C6 X.K H x t)(e:Rg X.K t c=some b)(h:∀ tk,Q (.bool b) { s with toks:=tk }) :
  wpAny (model X.prog X.w) A (call (.builtin "isinstance") [u,c]) Q E s:=by
 cases ty with
 | non=>cases (show u=Value.none from rx);exact Qh PySem.W.kitx_none I.kIn True.intro e (fun z=>nomatch z) h
 | bl y=>cases (show u=Value.bool y from rx);exact Qh PySem.W.kitx_bool I.kIn True.intro e (fun z=>nomatch z) h
 | int i=>obtain ⟨t,q⟩:=(show ∃ t,u=Value.int i t from rx);cases q;exact Qh PySem.W.kitx_int I.kIn True.intro e (fun z=>nomatch z) h
 | str y=>obtain ⟨t,q⟩:=(show ∃ t,u=Value.str y t from rx);cases q;exact Qh PySem.W.kitx_str I.kIn True.intro e (fun z=>nomatch z) h
 | flt y=>obtain ⟨t,q⟩:=(show ∃ t,u=Value.float y t from rx);cases q;exact Qh PySem.W.kitx_float I.kIn True.intro e (fun z=>nomatch z) h
 | @lst a xs ea =>
  cases (show u=Value.ref a from rx)
  obtain ⟨_,_,n,_,h1⟩:=(show ObjOk X.prog X.w H s.heap a (.lst xs) from I.hok a _ ea)
  exact Qh Vj I.kIn ⟨_,h1,rfl⟩ e (fun z=>nomatch z) h
 | @frz a ob xs ea =>
  cases (show u=Value.ref a from rx)
  obtain ⟨_,_,_,n,_,h1⟩:=(show ObjOk X.prog X.w H s.heap a (.frz ob (.lst xs)) from I.hok a _ ea)
  exact Qh Vj I.kIn ⟨_,h1,rfl⟩ e (fun z=>nomatch z) h
 | @tup a xs ea =>
  cases (show u=Value.ref a from rx)
  obtain ⟨_,_,_,p⟩:=(show ObjOk X.prog X.w H s.heap a (.tup xs) from I.hok a _ ea)
  obtain ⟨o,h1,h2,_⟩:=p
  exact Qh PySem.W.kitx_tuple I.kIn ⟨o,h1,h2⟩ e (fun z=>nomatch z) h
 | @dK a kvs ea =>
  cases (show u=Value.ref a from rx)
  obtain ⟨_,_,vs,_,p⟩:=(show ObjOk X.prog X.w H s.heap a (.dK kvs) from I.hok a _ ea)
  obtain ⟨o,es,ep,h1,h2,_⟩:=p
  exact Qh PySem.W.kitx_dict I.kIn ⟨o,h1,h2.1⟩ e (fun z=>nomatch z) h
 | @dT a kvs ea =>
  cases (show u=Value.ref a from rx)
  obtain ⟨_,_,xs,_,o,es,ep,h1,h2,_⟩:=(show ObjOk X.prog X.w H s.heap a (.dT kvs) from I.hok a _ ea)
  exact Qh PySem.W.kitx_dict I.kIn ⟨o,h1,h2.1⟩ e (fun z=>nomatch z) h
 | @ins a C dx fs ea cl ha hn htk hm =>
  cases (show u=Value.ref a from rx)
  obtain ⟨mA,O,_⟩:=Zgu I.hok ea
  obtain ⟨od,J,_⟩:=O.look
  exact Qh (PySem.W.kitx_own (cl.get _) cl.hd ha hn htk hm) I.kIn J e (fun z=>nomatch z) h
end
structure Room (k:Nat)(A:Around):Prop where
 hd:A.handled=none
 dp:A.depth+3 * k+5 < recursionLimit
 un:A.units+16 * k+200 < cLine
theorem Room.mono {j k:Nat}{A:Around}(r:Room k A)(h:j<=k):Room j A:=⟨r.hd,by have:=r.dp;omega,by have:=r.un;omega⟩
theorem Room.deeper {k:Nat}{A:Around}(r:Room (k+1) A)(env:Env):Room k (A.deeper env) :=
 ⟨r.hd,by have:=r.dp;show A.depth+1+3 * k+5 < _;omega,by have:=r.un;show A.units+3+16 * k+200 < _;omega⟩
theorem Room.depth {k:Nat}{A:Around}(r:Room k A):A.depth < recursionLimit:=by have:=r.dp;omega
noncomputable def Om:TA:=fun _ H Q=>Q [] H
noncomputable def Zaa (ta:TE)(tr:TA):TA:=fun σ H Q=>ta σ H fun x H1=>tr σ H1 fun xs H2=>Q (x::xs) H2
section
variable {X:Cx}{e:Expr}{es:List Expr}{te:TE}{t:TA}{pos:Pos}
theorem Zbw:PA X [] Om:=fun _ _ _ _ H Q I h=>R8 ⟨[],H,I,.nil,h⟩
theorem Zd7 (ha:PE X e te)(hr:PA X es t)(hs:starEach (e::es) X.env=(false,eval e X.env)::starEach es X.env:=by rfl):PA X (e::es) (Zaa te t):=by
 intro pos pins s σ H Q I h
 rw [hs]
 show wpAny _ _ (spliced ((false,eval e X.env)::backTo pos (starEach es X.env))) _ _ s
 refine Ro (Aj (ha pins s σ H _ I h) fun u s1 zq=>?_)
 obtain ⟨x,H1,I1,r1,q1⟩:=zq
 exact Aj (hr pos pins s1 σ H1 _ I1 q1) fun us s2 ⟨xs,H2,I2,r2,q2⟩=>⟨x::xs,H2,I2,.cons r1 r2,q2⟩
noncomputable def Ot (t:TA):TE:=fun σ H Q=>t σ H fun xs H1=>xs.length<=sizeLine/\∀ p,H1 p=none->Q (.ref p) (upd H1 p (.tup xs))
noncomputable def Zaj (t:TA):TE:=fun σ H Q=>t σ H fun xs H1=>xs.length<=sizeLine/\∀ p,H1 p=none->Q (.ref p) (upd H1 p (.lst xs))
theorem Zpn {x1}(h:PA X es t):PE X (.Tuple es x1 pos) (Ot t):=by
 intro pins s σ H Q I hq
 refine wpAny_Tuple_spliced (Aj (h pos pins s σ H _ I hq) fun us s1 ⟨xs,H1,I1,r,z,q⟩=>⟨by rw [<- r.length];exact z,?_⟩)
 have hf:H1 s1.heap.objs.size=none:=I1.hok.fresh (O2 _)
 refine ⟨.ref s1.heap.objs.size,upd H1 s1.heap.objs.size (.tup xs),I1.laid (t':=s1.toks) (fun b u e=>O9 _ e) (O2 _) ?_,rfl,q _ hf⟩
 exact ⟨z,us,r,⟨_,Pn _ rfl,rfl,_,rfl⟩⟩
theorem Zm2 (h:PA X es t):PE X (.List es pos) (Zaj t):=by
 intro pins s σ H Q I hq
 refine wpAny_List_spliced (Aj (h pos pins s σ H _ I hq) fun us s1 ⟨xs,H1,I1,r,z,q⟩=>⟨by rw [<- r.length];exact z,?_⟩)
 have hf:H1 s1.heap.objs.size=none:=I1.hok.fresh (O2 _)
 refine ⟨.ref s1.heap.objs.size,upd H1 s1.heap.objs.size (.lst xs),I1.laid (t':=s1.toks) (fun b u e=>O9 _ e) (O2 _) ?_,rfl,q _ hf⟩
 exact ⟨z,us,0,r,Pn _ rfl⟩
end
noncomputable abbrev Sp:=List V->Hp->VK->XK->Prop
noncomputable abbrev Dd:=List Env->Hp->Shared->XK->Value->Shared->Prop
structure Kz (P:Program)(w:World)(K:Oz)(mg:Str->Option Value)(base:Heap)(A:Around)(outer:List Env)(s:Shared)(H:Hp):Prop where
 frames:A.frames=some outer
 mod:Mod K mg base
 bs:∀ b o,base.get? b=some o->s.heap.get? b=some o/\H b=none
 bsz:base.objs.size<=s.heap.objs.size
 funs:s.heap.FunFrames base outer
 frf:∀ b∈Cu outer,H b=none
 hok:HOk P w H s.heap
 bare:AllBare s.gens
noncomputable def CE (outer:List Env)(P:Program)(w:World)(H:Hp)(s:Shared)(Q:VK)(u:Value)(s':Shared):Prop :=
 ∃ v H',s'.os=s.os/\AllBare s'.gens/\Un (Cu outer) [] H H' s.heap s'.heap/\HOk P w H' s'.heap/\RelV v u/\Q v H'
noncomputable def CR (CX:Dd)(outer:List Env)(P:Program)(w:World)(H:Hp)(s:Shared)(Q:VK)(E:XK)(r:Result)(s':Shared):Prop :=
 match r with
 | .ok (.ret u)=>CE outer P w H s Q u s'
 | .ok _=>False
 | .error e=>CX outer H s E e s'
structure Bc (P:Program)(w:World)(K:Oz)(mg:Str->Option Value)(base:Heap)(CX:Dd)(k:Nat)(f:Addr)(fd:FuncData)(ps:List Str)(sp:Sp):Prop where
 len:∀ vs H Q E,sp vs H Q E->vs.length=ps.length
 run:∀(A:Around)(outer:List Env)(s:Shared)(H:Hp)(args:Args)(us:List Value)(vs:List V)(Q:VK)(E:XK),Room k A->Kz P w K mg base A outer s H->BindsTo s fd args (ps.zip us)->Vals vs us->sp vs H Q E ->
  codeAny (model P w) A (.call (.ref f) args) (CR CX outer P w H s Q E) s
section
variable {X:Cx}{pins:List (Addr×Obj)}{σ:St}{H:Hp}{s s':Shared}
theorem Inv.env0 (I:Inv X pins σ H s):Kz X.prog X.w X.K X.mg X.base X.A X.stack s H :=
 ⟨I.ok.frames,I.ok.mod,I.bs,P7 I.ok.bsz I.sz,I.stack,I.stkFree,I.hok,I.bare⟩
theorem Inv.after {Q:VK}{u:Value}(I:Inv X pins σ H s)(h:CE X.stack X.prog X.w H s Q u s'):EP X pins σ Q u s':=by
 obtain ⟨v,H',os,bare,un,hok,r,q⟩:=h
 obtain ⟨hh,g,d,t,os'⟩:=s'
 obtain rfl:os'=s.os:=os
 exact ⟨v,H',I.call (h':=hh) (g':=g) (d':=d) (t':=t) (ch:=[]) un hok bare (fun b z=>absurd z (by simp)),r,q⟩
end
noncomputable def Ld (sp:Sp)(dvs:List V)(E:XK)(t:TA):TE:=fun σ H Q=>t σ H fun vs H1=>sp (vs++dvs) H1 Q E
noncomputable def Binds (K:Oz)(fd:FuncData)(ps:List Str)(ds:List Value):Prop :=
 ∀(s:Shared)(us:List Value),K.In s.heap->(us++ds).length=ps.length->BindsTo s fd ⟨us,[]⟩ (ps.zip (us++ds))
theorem Binds.all {K:Oz}{fd:FuncData}{ps:List Str}(h:∀ us:List Value,us.length=ps.length->bindArgs fd ⟨us,[]⟩=pure (ps.zip us)):Binds K fd ps []:=fun s us _ hl=>by
 rw [Pw] at hl ⊢
 exact .of_eq (h us hl)
noncomputable def Np (CX:Dd)(X:Cx)(E:XK):Prop:=∀(pins:List (Addr×Obj))(σ:St)(H:Hp)(s:Shared)(e:Value)(s':Shared),Inv X pins σ H s->CX X.stack H s E e s'->X.xe e s'
section
variable {X:Cx}{CX:Dd}{k:Nat}{f C:Addr}{fd:FuncData}{ps:List Str}{sp:Sp}{dvs:List V}{ds:List Value}{E:XK}{x m:Str}{p pos apos:Pos}{e o:Expr}{es:List Expr}{ta:TE}{t:TA}
theorem Zi9 {pins:List (Addr×Obj)}{σ:St}{H:Hp}{s:Shared}{Q:VK}{us:List Value}{vs:List V}(F:Bc X.prog X.w X.K X.mg X.base CX k f fd ps sp)(hr:Room k X.A)(hb:Binds X.K fd ps ds)(hd:Vals dvs ds)(hx:Np CX X E)
  (I:Inv X pins σ H s) (r:Vals vs us) (h:sp (vs++dvs) H Q E):wpAny (model X.prog X.w) X.A (call (.ref f) us) (EP X pins σ Q) X.xe s:=by
 have r2:Vals (vs++dvs) (us++ds):=r.append hd
 have hl:(us++ds).length=ps.length:=by rw [<- r2.length];exact F.len _ _ _ _ h
 refine wpAny_call (codeAny_mono (F.run X.A X.stack s H ⟨us,[]⟩ (us++ds) (vs++dvs) Q E hr I.env0 (hb s us I.kIn hl) r2 h) fun r s' hq=>?_)
 cases r with
 | error e=>exact hx pins σ H s e s' I hq
 | ok fl =>
  cases fl with
  | ret u=>exact I.after hq
  | next=>exact Q0 hq
  | brk=>exact Q0 hq
  | cont=>exact Q0 hq
theorem Zh5 (F:Bc X.prog X.w X.K X.mg X.base CX k f fd ps sp)(hr:Room k X.A)(hg:Gl X x)(hm:X.mg x=some (.ref f))(hk:Tc X.K (.ref f)=true)(hb:Binds X.K fd ps ds)(hd:Vals dvs ds)(hx:Np CX X E)
  (ha:PA X (e::es) t) (hdb:(x == ("__debug__" : Str))=false:=by decide) (he:starEach (e::es) X.env=(false,eval e X.env)::starEach es X.env:=by rfl) (hpl:(backTo pos (starEach es X.env)).any (·.1)=false:=by rfl) :
  PE X (.Call (.Name x p) (e::es) [] pos) (Ld sp dvs E t):=by
 intro pins s σ H Q I h
 refine Ve (Zeo I hg hm ?_ hdb)
 refine PySem.W.callWith_K (h₀:=X.base) I.ok.mod.kin hk (Aj (ha pos pins s σ H _ I h) fun us s1 zq=>?_) he hpl
 obtain ⟨vs,H1,I1,r,q⟩:=zq
 refine ⟨I1.kIn,?_⟩
 exact Zi9 F hr hb hd hx I1 r q
end
section
variable {X:Cx}{CX:Dd}{k:Nat}{f C:Addr}{fd:FuncData}{ps ks:List Str}{sp:Sp}{E:XK}{x m:Str}{p pos apos kpos:Pos}{e o:Expr}{es:List Expr}{kws:List Keyword}{te ta:TE}{t tk:TA}{nm:Option Str}
variable {g:List Value->List Value->List Value}{gV:List V->List V->List V}
end
structure Bo (N P:List Str)(sc:Scope):Prop where
 kind:sc.kind=.function
 co:sc.isCoroutine=false
 gen:sc.isGenerator=false
 nd:N.Nodup
 pre:N.take P.length=P
 par:∀ x∈P,sc.names.lookup x=some .local\/sc.names.lookup x=some .cell
 nofree:∀ y∈sc.names,y.2≠.free
theorem Zck {kindOf:Str->Option NameKind}{x:Str}:∀{binds:List (Str×Value)}{m:Str->Option Value},(∀ v,(x,v) ∉ binds)->bindL kindOf binds m x=m x
 | [],_,_=>rfl
 | (n,v)::r,m,h=>by
  unfold bindL
  rw [Zck fun w hw=>h w (P4 _ hw)]
  split
  ·have:x≠n:=by rintro rfl;exact h v Ss
   simp [this]
  ·rfl
theorem Zfr {kindOf:Str->Option NameKind}{x:Str}:∀{binds:List (Str×Value)}{m:Str->Option Value},(∀ v,(x,v) ∉ binds)->bindC kindOf binds m x=m x
 | [],_,_=>rfl
 | (n,v)::r,m,h=>by
  unfold bindC
  rw [Zfr fun w hw=>h w (P4 _ hw)]
  split
  ·rfl
  ·have:x≠n:=by rintro rfl;exact h v Ss
   simp [this]
theorem Zdq {kindOf:Str->Option NameKind}{x:Str}{v:Value}:∀{P:List Str}{vs:List Value}{i:Nat}{m:Str->Option Value},P.Nodup->P[i]?=some x->vs[i]?=some v->kindOf x=some .local ->
  bindL kindOf (P.zip vs) m x=some v
 | [],_,_,_,_,h,_,_=>by simp at h
 | _::_,[],_,_,_,_,h,_=>by simp at h
 | p::P,w::vs,0,m,nd,h1,h2,hk=>by
  simp at h1 h2;subst h1;subst h2
  show bindL kindOf ((p,w)::P.zip vs) m p=_
  unfold bindL
  rw [Zck fun v hv=>(Ug.mp nd).1 (Sy hv).1,if_pos hk]
  simp
 | p::P,w::vs,i+1,m,nd,h1,h2,hk=>by
  show bindL kindOf ((p,w)::P.zip vs) m x=_
  unfold bindL
  exact Zdq (i:=i) (Ug.mp nd).2 (by simpa using h1) (by simpa using h2) hk
theorem Zco {kindOf:Str->Option NameKind}{x:Str}{v:Value}:∀{P:List Str}{vs:List Value}{i:Nat}{m:Str->Option Value},P.Nodup->P[i]?=some x->vs[i]?=some v->kindOf x≠some .local ->
  bindC kindOf (P.zip vs) m x=some v
 | [],_,_,_,_,h,_,_=>by simp at h
 | _::_,[],_,_,_,_,h,_=>by simp at h
 | p::P,w::vs,0,m,nd,h1,h2,hk=>by
  simp at h1 h2;subst h1;subst h2
  show bindC kindOf ((p,w)::P.zip vs) m p=_
  unfold bindC
  rw [Zfr fun v hv=>(Ug.mp nd).1 (Sy hv).1,if_neg hk]
  simp
 | p::P,w::vs,i+1,m,nd,h1,h2,hk=>by
  show bindC kindOf ((p,w)::P.zip vs) m x=_
  unfold bindC
  exact Zco (i:=i) (Ug.mp nd).2 (by simpa using h1) (by simpa using h2) hk
noncomputable def start (N:List Str)(vs:List V):St:=vs.map some++Qc (N.length - vs.length) none
noncomputable def Fw (CX:Dd)(P:Program)(w:World)(K:Oz)(mg:Str->Option Value)(base:Heap)(N:List Str)(qual:Str)(scope:Scope)(f:Addr)(cd:Value)(A:Around)(outer:List Env)(s:Shared)(H:Hp)(E:XK):Cx where
 prog:=P
 w:=w
 K:=K
 mg:=mg
 base:=base
 A:=A.deeper (envOfC qual scope s.heap.objs.size f cd)
 N:=N
 s₀:=s
 H₀:=H
 env:=envOfC qual scope s.heap.objs.size f cd
 outer:=outer
 stack:=envOfC qual scope s.heap.objs.size f cd::outer
 ex:=[]
 calm:=true
 fn:=fun _=>true
 pn:=[]
 xe:=fun e s'=>wpAny (model P w) (A.deeper (envOfC qual scope s.heap.objs.size f cd)) (leaving (envOfC qual scope s.heap.objs.size f cd) e) (fun _ s''=>CX outer H s E e s'') (fun e' s''=>CX outer H s E e' s'') s'
theorem Ni {sc:Scope}{n:Nat}{x:Str}(h:sc.names.lookup x=some .cell):∃ c,(cellsFrom n sc.names []).lookup x=some c:=by
 have q:=PySem.W.cellsFrom_some sc.names n [] (.inl h)
 exact Q2.mp q
theorem Zma {CX:Dd}{P:Program}{w:World}{K:Oz}{mg:Str->Option Value}{base:Heap}{N ps:List Str}{qual:Str}{scope:Scope}{f:Addr}{cd:Value}{A:Around}{outer:List Env}{s s1:Shared}{H:Hp}{E:XK}{us:List Value}{vs:List V}
  (S:Bo N ps scope) (hd:A.handled=none) (e0:Kz P w K mg base A outer s H) (hl:vs.length=ps.length) (r:Vals vs us)
  (x:InCallC s s.heap.objs.size (bindL (envOfC qual scope s.heap.objs.size f cd).kindOf (ps.zip us) fun _=>none) (cellsFrom (s.heap.objs.size+1) scope.names []) (bindC (envOfC qual scope s.heap.objs.size f cd).kindOf (ps.zip us) fun _=>none) s1) :
  Inv (Fw CX P w K mg base N qual scope f cd A outer s H E) [] (start N vs) H s1:=by
 have hpl:ps.length<=N.length:=by have:=congrArg Qt S.pre;rw [Pt] at this;omega
 obtain ⟨h1,tk,rfl,hk⟩:=x.done
 have noA:∀ b:Addr,b ∉ (Fw CX P w K mg base N qual scope f cd A outer s H E).ex:=fun b z=>absurd (show b∈([]:List Addr) from z) (by simp)
 refine ⟨⟨e0.mod,S.kind,rfl,rfl,O2 _,fun y z c h1 h2=>?_,fun y hy=>?_,fun y c _ h=>?_,fun _=>hd,Around.frames_deeper e0.frames,.inr ⟨rfl,rfl⟩,fun b z=>absurd z (noA b),e0.bs,e0.bsz,fun b _ _=>noA b,fun b z=>absurd z (noA b),e0.funs,e0.frf⟩,
  rfl,e0.bare,Un.kept hk,⟨_,x.toInCall.ns,fun i y v h1 h2 h3=>?_⟩,fun y c h=>⟨_,x.cell y c h⟩,e0.hok.fresh (O2 _),fun y c h=>?_,fun p hp=>absurd (show p∈([]:List (Addr×Obj)) from hp) (by simp),e0.hok.kept hk,?_⟩
 ·exact name_of_addr x.apart (Rn h1) (Rn h2)
 ·have hy:scope.names.lookup y=some .cell\/scope.names.lookup y=some .free:=hy
  rcases hy with hy | hy
  ·exact Ni hy
  ·exact absurd rfl (S.nofree _ (Rn hy))
 ·exact Us (x.above y c (Rn h))
 ·have hi:i < vs.length:=by
   unfold start at h2
   by_cases hi:i < vs.length
   ·exact hi
   ·rw [Px (by simpa using hi)] at h2
    rw [List.getElem?_replicate] at h2
    split at h2 <;> cases h2
  have ha:vs[i]?=some v:=by
   unfold start at h2
   rw [Py (by simpa using hi),Po] at h2
   cases e:vs[i]? with
   | none=>rw [e] at h2;cases h2
   | some a=>rw [e] at h2;cases h2;rfl
  obtain ⟨u,hu,rv⟩:=r.get ha
  have hp:ps[i]?=some y:=by
   rw [<- S.pre,List.getElem?_take_of_lt (by omega)];exact h1
  have ndP:ps.Nodup:=by rw [<- S.pre];exact S.nd.sublist (List.take_sublist _ _)
  refine ⟨u,rv,?_⟩
  rcases S.par y (Qb hp) with k | k
  ·exact .inl ⟨k,Zdq ndP hp hu k⟩
  ·obtain ⟨c,e⟩:=Ni (n:=s.heap.objs.size+1) k
   refine .inr ⟨.inl k,c,e,?_⟩
   have q:=x.cell y c e
   rw [Zco ndP hp hu (by show scope.names.lookup y≠_;rw [k];decide)] at q
   exact q
 ·exact e0.hok.fresh (Us (x.above y c (Rn h)))
 ·unfold start
  show _=N.length
  rw [O7,O6,List.length_replicate]
  omega
theorem Zhu {CX:Dd}{P:Program}{w:World}{K:Oz}{mg:Str->Option Value}{base:Heap}{k:Nat}{f:Addr}{name qual:Str}{params:Arguments}{body:List Stmt}{scope:Scope}{dV kV doc pm cdv ct oc:Value}{an od:Option Addr}
  {osl:Array (Option Value)} {N ps:List Str} {sp:Sp} (lk:K.lookup f=some ⟨oc,od,.func (Rh name qual params body scope dV kV doc pm an cdv ct),osl⟩) (hcd:PySem.W.codeIn K cdv qual=true) (S:Bo N ps scope)
  (len:∀ vs H Q E,sp vs H Q E->vs.length=ps.length)
  (hbody:∀(A:Around)(outer:List Env)(s:Shared)(H:Hp)(vs:List V)(Q:VK)(E:XK),Room k (A.deeper (envOfC qual scope s.heap.objs.size f cdv))->sp vs H Q E ->
   ∃ t,PSs (Fw CX P w K mg base N qual scope f cdv A outer s H E) body t/\t { nx:=fun _ H'=>Q .non H',rt:=Q } (start N vs) H) :
  Bc P w K mg base CX (k+1) f (Rh name qual params body scope dV kV doc pm an cdv ct) ps sp:=by
 refine ⟨len,fun A outer s H args us vs Q E hr e0 hb r hsp=>?_⟩
 have hl:=len _ _ _ _ hsp
 have KX:K.In s.heap:=e0.mod.kin.keeps fun b o e=>(e0.bs b o e).1
 have lim:s.heap.NoLimit:=e0.mod.nolimit.keeps fun b o e=>(e0.bs b o e).1
 have hkind:∀ y∈ps.zip us,scope.names.lookup y.1=some .local\/(scope.names.lookup y.1=some .cell/\((cellsFrom (s.heap.objs.size+1) scope.names []).lookup y.1).isSome=true):=fun ⟨n,v⟩ hy=>by
  rcases S.par n (Sy hy).1 with q | q
  ·exact .inl q
  ·exact .inr ⟨q,PySem.W.cellsFrom_some _ _ _ (.inl q)⟩
 refine codeAny_call_function hr.depth (KX _ _ lk) rfl S.co S.gen rfl (PySem.W.codeRec_of KX hcd) (hb _ _ _ _ ?_)
 refine wpAny_newFunctionEnv_cells S.kind hkind fun env he s1 x=>?_
 subst he
 refine ⟨lim.keeps x.toInCall.keep,codeAny_func ?_⟩
 obtain ⟨t,ht,hq⟩:=hbody A outer s H vs Q E (hr.deeper _) hsp
 have I:Inv (Fw CX P w K mg base N qual scope f cdv A outer s H E) [] (start N vs) H s1:=Zma S hr.hd e0 hl r x
 refine Si (ht [] s1 (start N vs) H _ I hq) (fun fl s' hs=>?_) fun e s' hs=>hs
 have fin:∀{σ':St}{H':Hp}{v:V}{u:Value},Inv (Fw CX P w K mg base N qual scope f cdv A outer s H E) [] σ' H' s'->RelV v u->Q v H'->CE outer P w H s Q u s' :=
  fun {σ' H' v u} J rv q=>⟨v,H',J.os,J.bare,J.base,J.hok,rv,q⟩
 cases fl with
 | ret u =>
  obtain ⟨v,σ',H',J,rv,q⟩:=hs
  exact fin J rv q
 | next =>
  obtain ⟨σ',H',J,q⟩:=hs
  exact fin (v:=V.non) (u:=Value.none) J rfl q
 | brk =>
  obtain ⟨_,_,_,q⟩:=hs
  exact Q0 q
 | cont =>
  obtain ⟨_,_,_,q⟩:=hs
  exact Q0 q
section
variable {X:Cx}{x:Str}{p pos:Pos}{e:Expr}{es:List Expr}{t:TA}{id T:String}{r:List V->Hp->VK->Prop}
noncomputable def tCB (r:List V->Hp->VK->Prop)(t:TA):TE:=fun σ H Q=>t σ H fun vs H1=>r vs H1 Q
theorem Ziz (hc:B9 X (.builtin id) r)(hg:Gl X x)(hm:X.mg x=none)(hv:bootBuiltins x=some (.builtin id))(ha:PA X (e::es) t)(hn:x ≠ "__name__" := by decide)(hdb:(x == ("__debug__" : Str))=false:=by decide)
  (he:starEach (e::es) X.env=(false,eval e X.env)::starEach es X.env:=by rfl) (hpl:(backTo pos (starEach es X.env)).any (·.1)=false:=by rfl):PE X (.Call (.Name x p) (e::es) [] pos) (tCB r t):=by
 intro pins s σ H Q I h
 refine Ve (Dm I hg hm hv ?_ hn hdb)
 exact PyProof.Rows.callWith_builtin1 (Aj (ha pos pins s σ H _ I h) fun us s1 ⟨vs,H1,I1,r1,q1⟩=>hc pins s1 σ H1 vs us Q I1 r1 q1) he hpl
theorem Zf3 (hc:B9 X (.type T) r)(hg:Gl X x)(hm:X.mg x=none)(hv:bootBuiltins x=some (.type T))(ha:PA X (e::es) t)(hn:x ≠ "__name__" := by decide)(hdb:(x == ("__debug__" : Str))=false:=by decide)
  (he:starEach (e::es) X.env=(false,eval e X.env)::starEach es X.env:=by rfl) (hpl:(backTo pos (starEach es X.env)).any (·.1)=false:=by rfl):PE X (.Call (.Name x p) (e::es) [] pos) (tCB r t):=by
 intro pins s σ H Q I h
 refine Ve (Dm I hg hm hv ?_ hn hdb)
 exact Qp (Aj (ha pos pins s σ H _ I h) fun us s1 ⟨vs,H1,I1,r1,q1⟩=>hc pins s1 σ H1 vs us Q I1 r1 q1) he hpl
end
end L2
namespace HT
open PySem PyProof.Rows
section
open PySem.SeqAt
open PySem.AutoSeq1 (wpAny_loadPart')
open PySem.MeetsSeq PySem.MeetsSeq2 PySem.MeetsSeq3
end
section
variable {prog:Program}{w:World}{A:Around}{E:Value->Shared->Prop}{s:Shared}
theorem cat_tup {t b:Addr}{vs ws:List Value}{Q:Value->Shared->Prop}(ht:IsTup s.heap t vs.toArray)(hb:IsTup s.heap b ws.toArray)(hv:vs≠[])
  (h1:ws=[]->Q (.ref t) s) (h2:ws≠[]->Q (.ref s.heap.objs.size) { s with heap:=s.heap.push { cls:=.type "tuple",data:=.seq (vs++ws).toArray } })
  (hsz:vs.length+ws.length<=sizeLine):wpAny (model prog w) A (binaryOp .Add (.ref t) (.ref b)) Q E s:=by
 obtain ⟨⟨cls,dd,data,sl⟩,ho,hc,n,hd⟩:=id ht
 obtain ⟨⟨cls2,dd2,data2,sl2⟩,ho2,hc2,n2,hd2⟩:=id hb
 simp only at hc hd hc2 hd2
 subst hc hd hc2 hd2
 have e:vs.toArray++ws.toArray=(vs++ws).toArray:=by simp
 by_cases hw:ws=[]
 ·exact Ut ⟨_,ho,rfl⟩ ⟨_,ho2,rfl⟩ Uc Uo T0 Tw (Tu _ _)
   (tuple_addW1 t b vs.toArray ws.toArray n n2 dd dd2 sl sl2 (by simpa using hv) (by simp [hw])) ⟨ho,ho2,h1 hw⟩
 ·refine Ut ⟨_,ho,rfl⟩ ⟨_,ho2,rfl⟩ Uc Uo T0 Tw (Tu _ _)
   (tuple_addW2 t b vs.toArray ws.toArray n n2 dd dd2 sl sl2 (by simpa using hv) (by simpa using hw) (by rw [O4,O4];exact hsz)) ⟨ho,ho2,?_⟩
  rw [e]
  exact h2 hw
noncomputable def sIx (n d:Nat):Option Int->Nat
 | none=>d
 | some v=>if v < 0 then (v+(n:Int)).toNat else min v.toNat n
theorem sIx_none (n d:Nat):sIx n d none=d:=rfl
theorem sIx_nat (n d k:Nat):sIx n d (some (k:Int))=min k n:=by
 show (if (k:Int) < 0 then ((k:Int)+(n:Int)).toNat else min (k:Int).toNat n)=min k n
 rw [if_neg (by omega),Qy]
theorem Zpi (n d:Nat)(hd:d<=n)(o:Option Int):sIx n d o<=n:=by
 cases o with
 | none=>exact hd
 | some v =>
  show (if v < 0 then (v+(n:Int)).toNat else min v.toNat n)<=n
  by_cases hv:v < 0
  ·rw [if_pos hv];omega
  ·rw [if_neg hv];exact Nat.min_le_right _ _
theorem Zc2 (v:Int)(n d:Nat):(if v < 0 then max (v+(n:Int)) 0 else min v (n:Int))=((sIx n d (some v):Nat):Int):=by
 show (if v < 0 then max (v+(n:Int)) 0 else min v (n:Int))=(((if v < 0 then (v+(n:Int)).toNat else min v.toNat n):Nat):Int)
 by_cases hv:v < 0
 ·simp only [if_pos hv];omega
 ·simp only [if_neg hv];omega
theorem Zmt (lo hi:Option Int)(n:Nat):U2 lo hi 1 (n:Int)=(((sIx n 0 lo:Nat):Int),((sIx n n hi:Nat):Int)):=by
 have h1:¬ ((1:Int) < 0):=by omega
 unfold U2
 simp only [h1,if_false]
 refine Prod.ext ?_ ?_
 ·cases lo with
  | none=>rfl
  | some v=>exact Zc2 v n 0
 ·cases hi with
  | none=>rfl
  | some v=>exact Zc2 v n n
theorem Zpd (i j:Nat):Tt (i:Int) (j:Int) 1=j - i:=by
 unfold Tt
 have h1:(1:Int) > 0:=by omega
 simp only [h1,if_true,Int.ediv_one]
 split <;> omega
theorem Za8 {v:Value}{o:Option Int}{Q:Option Int->Shared->Prop}(p:IsPart v o)(h:Q o s):wpAny (model prog w) A (Builtin.Slice.slicePartIndex v) Q E s:=by
 cases p with
 | none=>exact slicePart_none h
 | int i t=>exact slicePart_int h
theorem sliceApplied_gen {sl:Addr}{vl vu:Value}{lo hi:Option Int}{n:Nat}{Q:Int×Int×Nat->Shared->Prop}(hs:s.heap.IsSliceOf sl vl vu .none)(pl:IsPart vl lo)(pu:IsPart vu hi)
  (h:Q (((sIx n 0 lo:Nat):Int),1,sIx n n hi - sIx n 0 lo) s):wpAny (model prog w) A (Builtin.Slice.sliceApplied (.ref sl) (pure (n:Int))) Q E s:=by
 obtain ⟨os,hos,hcs,hds⟩:=id hs
 unfold Builtin.Slice.sliceApplied Builtin.Slice.sliceFields
 refine O0 (O0 (Pj hos hds (x:=vl) rfl (O0 (Pj hos hds (x:=vu) rfl (O0 (Pj hos hds (x:=.none) rfl (O3 ?_)))))))
 refine O0 (slicePart_none ?_)
 show wpAny _ _ (if ((1:Int) == 0)=true then _ else _) _ _ s
 rw [if_neg (by decide)]
 refine O0 (Za8 pl (O0 (Za8 pu (O0 (O3 ?_)))))
 show wpAny _ _ (match U2 lo hi 1 (n:Int) with | (lo,hi)=>pure (lo,(1:Int),Tt lo hi 1)) _ _ s
 rw [Zmt lo hi n]
 show wpAny _ _ (pure (((sIx n 0 lo:Nat):Int),(1:Int),Tt ((sIx n 0 lo:Nat):Int) ((sIx n n hi:Nat):Int) 1)) _ _ s
 rw [Zpd]
 exact O3 h
theorem Zjb (xs:Array Value)(i k:Nat):((Pk k).filterMap fun (m:Nat)=>xs[((i:Int)+(m:Int) * 1).toNat]?).toArray=((xs.toList.drop i).take k).toArray:=by
 have e:(fun (m:Nat)=>xs[((i:Int)+(m:Int) * 1).toNat]?)=fun m=>xs[i+m]?:=by
  funext m
  have:((i:Int)+(m:Int) * 1).toNat=i+m:=by omega
  rw [this]
 rw [e]
 have:=pick_run xs i k
 rw [List.filterMap_map] at this
 have e2:((fun x=>xs[x]?) ∘ fun x=>i+x)=fun m=>xs[i+m]?:=rfl
 rw [e2] at this
 rw [this]
theorem getItem_tuple_cut {t sl:Addr}{items:Array Value}{vl vu:Value}{lo hi:Option Int}{Q:Value->Shared->Prop}(ht:IsTup s.heap t items)(hs:s.heap.IsSliceOf sl vl vu .none)(pl:IsPart vl lo)(pu:IsPart vu hi)
  (hw:¬ (sIx items.size 0 lo=0/\sIx items.size items.size hi=items.size))
  (h:Q (.ref s.heap.objs.size) { s with heap:=s.heap.push { cls:=.type "tuple",data:=.seq ((items.toList.drop (sIx items.size 0 lo)).take (sIx items.size items.size hi - sIx items.size 0 lo)).toArray } })
  (hsz:items.size<=sizeLine):wpAny (model prog w) A (getItem (.ref t) (.ref sl)) Q E s:=by
 have htake:sizeOk (.seq ((items.toList.drop (sIx items.size 0 lo)).take (sIx items.size items.size hi - sIx items.size 0 lo)).toArray):=by
  show ((items.toList.drop (sIx items.size 0 lo)).take (sIx items.size items.size hi - sIx items.size 0 lo)).toArray.size<=sizeLine
  rw [O4,Pt,Ud,R6]
  omega
 have hj:sIx items.size items.size hi<=items.size:=Zpi _ _ (O2 _) hi
 obtain ⟨os,hos,hcs,hds⟩:=id hs
 have hTs:s.TypeIs (.ref sl) "slice" := ⟨os,hos,hcs⟩
 unfold getItem
 try with_reducible refine Qk ?_
 first | refine O0 (O3 ?_) | skip
 refine O0 (wpAny_sequenceKey ht.typeIs (by decide) ?_)
 refine O0 (Qv (name:=Ql "__getitem__") ht.typeIs Ry
  (Qr Ry ht.typeIs entry_tuple_getitem ?_ (args_tuple_getitem _ _)))
 show wpAny _ _ (Builtin.Tuple.tupleItemsOf (.ref t) >>= _) _ _ s
 refine O0 (tupleItemsOf_ ht ?_)
 refine O0 (Uu hTs ?_)
 rw [if_pos (by decide)]
 refine O0 (sliceApplied_gen hs pl pu ?_)
 have hno:¬ ((((sIx items.size 0 lo:Nat):Int) == 0 && (1:Int) == 1 && (sIx items.size items.size hi - sIx items.size 0 lo) == items.size)=true):=by
  intro q
  rw [Q4,Q4] at q
  have q1:((sIx items.size 0 lo:Nat):Int)=0:=eq_of_beq q.1.1
  have q2:sIx items.size items.size hi - sIx items.size 0 lo=items.size:=eq_of_beq q.2
  exact hw ⟨by omega,by omega⟩
 show wpAny _ _ (if (((sIx items.size 0 lo:Nat):Int) == 0 && (1:Int) == 1 && (sIx items.size items.size hi - sIx items.size 0 lo) == items.size)=true then _ else _) _ _ s
 rw [if_neg hno,Zjb]
 first
  | exact O0 (m:=Tv _) (Rb (O3 ⟨_,rfl,O3 h⟩) htake)
  | exact O0 (m:=Tv _) (Rb (O0 (O3 (O3 ⟨_,rfl,O3 h⟩))) htake)
  | exact O0 (O0 (m:=Tv _) (Rb (O3 (O3 ⟨_,rfl,O3 h⟩)) htake))
  | exact O0 (O0 (m:=Tv _) (Rb (O3 ⟨_,rfl,O3 h⟩) htake))
end
end HT
namespace L2
open PySem PySem.Spec PyProof.Rows
noncomputable abbrev TO:=St->Hp->(Option Int->Hp->Prop)->Prop
noncomputable def PO (X:Cx)(e:Option Expr)(t:TO):Prop :=
 ∀(pins:List (Addr×Obj))(s:Shared)(σ:St)(H:Hp)(Q:Option Int->Hp->Prop),Inv X pins σ H s->t σ H Q ->
  wpAny (model X.prog X.w) X.A (evalPart e X.env) (fun u s'=>∃ o H',Inv X pins σ H' s'/\IsPart u o/\Q o H') X.xe s
noncomputable def Ny:TO:=fun _ H Q=>Q none H
noncomputable def Mp (t:TE):TO:=fun σ H Q=>t σ H fun x H1=>∃ i,x=.int i/\Q (some i) H1
section
variable {X:Cx}{e:Expr}{te:TE}{lo hi:Option Expr}{tl th:TO}{pos p2:Pos}
theorem Zgo:PO X none Ny:=by
 intro pins s σ H Q I h
 rw [evalPart_none]
 exact O3 ⟨none,H,I,.none,h⟩
theorem Zko (h:PE X e te):PO X (some e) (Mp te):=by
 intro pins s σ H Q I hw
 rw [evalPart_some]
 refine Aj (h pins s σ H _ I hw) fun u s1 zq=>?_
 obtain ⟨x,H1,I1,r1,q1⟩:=zq
 obtain ⟨i,rfl,q⟩:=q1
 obtain ⟨t,rfl⟩:=r1
 exact ⟨some i,H1,I1,.int i t,q⟩
noncomputable def SlR (X:Cx)(r:V->Option Int->Option Int->Hp->VK->Prop):Prop :=
 ∀(pins:List (Addr×Obj))(s:Shared)(σ:St)(H:Hp)(x:V)(v vl vu:Value)(lo hi:Option Int)(sl:Addr)(Q:VK),Inv X pins σ H s->RelV x v->s.heap.IsSliceOf sl vl vu .none->IsPart vl lo->IsPart vu hi->r x lo hi H Q ->
  ∃ T id,typeLookup (.type T) "__getitem__" = pure (some (.builtin id))/\s.TypeIs v T/\wpAny (model X.prog X.w) X.A (getItem v (.ref sl)) (EP X pins σ Q) X.xe s
theorem SlR.or {r r':V->Option Int->Option Int->Hp->VK->Prop}(h:SlR X r)(h':SlR X r'):SlR X (fun x lo hi H Q=>r x lo hi H Q\/r' x lo hi H Q):=by
 intro pins s σ H x v vl vu lo hi sl Q I rx hs pl pu q
 rcases q with q | q
 ·exact h pins s σ H x v vl vu lo hi sl Q I rx hs pl pu q
 ·exact h' pins s σ H x v vl vu lo hi sl Q I rx hs pl pu q
noncomputable def tSl (r:V->Option Int->Option Int->Hp->VK->Prop)(te:TE)(tl th:TO):TE:=fun σ H Q=>te σ H fun x H1=>tl σ H1 fun l H2=>th σ H2 fun u H3=>r x l u H3 Q
theorem Zix {r:V->Option Int->Option Int->Hp->VK->Prop}(hr:SlR X r)(he:PE X e te)(hl:PO X lo tl)(hu:PO X hi th):PE X (.Subscript e (.Slice lo hi none p2) pos) (tSl r te tl th):=by
 intro pins s σ H Q I h
 refine Subscript_ (Aj (he pins s σ H _ I h) fun v s1 zq=>?_)
 obtain ⟨x,H1,I1,r1,q1⟩:=zq
 refine wpAny_Slice (Aj (hl pins s1 σ H1 _ I1 q1) fun vl s2 zq=>?_)
 obtain ⟨l,H2,I2,pl,q2⟩:=zq
 refine Aj (hu pins s2 σ H2 _ I2 q2) fun vu s3 zq=>?_
 obtain ⟨u,H3,I3,pu,q3⟩:=zq
 rw [evalPart_none]
 refine O3 ?_
 have I4:Inv X pins σ H3 { s3 with heap:=s3.heap.push { cls:=.type "slice",data:=.fields #[vl,vu,.none] } }:=I3.kept (t':=s3.toks) fun b ob q=>O9 _ q
 obtain ⟨T,id,hT,ht,hg⟩:=hr pins { s3 with heap:=s3.heap.push { cls:=.type "slice",data:=.fields #[vl,vu,.none] } } σ H3 x v vl vu l u s3.heap.objs.size Q I4 r1 (Heap.IsSliceOf.new ..) pl pu q3
 show wpAny (model X.prog X.w) X.A (subscriptTail e (.Slice lo hi none p2) v (.ref s3.heap.objs.size)) (EP X pins σ Q) X.xe { s3 with heap:=s3.heap.push { cls:=.type "slice",data:=.fields #[vl,vu,.none] } }
 exact tail_any (ops:=[.ref s3.heap.objs.size,v]) ht hT hg (by with_unfolding_all rfl)
noncomputable def Bz (xs:List V)(lo hi:Option Int):List V:=(xs.drop (HT.sIx xs.length 0 lo)).take (HT.sIx xs.length xs.length hi - HT.sIx xs.length 0 lo)
theorem Zc5 (xs:List V)(lo hi:Option Int):(Bz xs lo hi).length<=xs.length:=by
 unfold Bz
 rw [Pt,Ud]
 omega
noncomputable def rSlT (K:Oz):V->Option Int->Option Int->Hp->VK->Prop:=fun x lo hi H Q=>∃ a xs,x=.ref a/\SqT K H a xs /\
 ¬ (HT.sIx xs.length 0 lo=0/\HT.sIx xs.length xs.length hi=xs.length)/\∀ p,H p=none->Q (.ref p) (upd H p (.tup (Bz xs lo hi)))
theorem Zb9:SlR X (rSlT X.K):=by
 intro pins s σ H x v vl vu lo hi sl Q I rx hs pl pu h
 obtain ⟨a,xs,rfl,hx,hw,q⟩:=h
 cases rx
 obtain ⟨its,r,ht,hz⟩:=I.tuple hx
 have hlen:its.toArray.size=xs.length:=by rw [O4];exact r.length.symm
 refine ⟨"tuple",_,Ry.lookup,ht.typeIs,?_⟩
 refine HT.getItem_tuple_cut ht hs pl pu (by rw [hlen];exact hw) ?_ (by rw [hlen];exact hz)
 rw [hlen]
 refine ⟨.ref s.heap.objs.size,_,I.laid (t':=s.toks) (o:=.tup (Bz xs lo hi)) (fun b ob q=>O9 _ q) (O2 _) ?_,rfl,q _ (I.hok.fresh (O2 _))⟩
 exact ⟨P7 (Zc5 xs lo hi) hz,_,(r.drop (HT.sIx xs.length 0 lo)).take (HT.sIx xs.length xs.length hi - HT.sIx xs.length 0 lo),IsTup.new _ _⟩
noncomputable def Zhl (K:Oz):R2:=fun x y H Q=>∃ a b xs ys,x=.ref a/\y=.ref b/\SqT K H a xs/\SqT K H b ys/\xs≠[]/\xs.length+ys.length<=sizeLine /\
 (ys=[]->Q (.ref a) H)/\(ys≠[]->∀ p,H p=none->Q (.ref p) (upd H p (.tup (xs++ys))))
theorem Vals.nil_iff {xs:List V}{us:List Value}(r:Vals xs us):us=[]↔xs=[]:=by
 cases r with
 | nil=>simp
 | cons _ _=>simp
theorem Zca:OpR X (binaryOp .Add) (Zhl X.K):=by
 intro pins s σ H x y v u Q I rx ry h
 obtain ⟨a,b,xs,ys,rfl,rfl,ha,hb,hx,hz,q1,q2⟩:=h
 cases rx
 cases ry
 obtain ⟨its,r1,p1,_⟩:=I.tuple ha
 obtain ⟨its2,r2,p2,_⟩:=I.tuple hb
 refine HT.cat_tup p1 p2 (fun z=>hx (r1.nil_iff.mp z)) (fun z=>⟨.ref a,H,I,rfl,q1 (r2.nil_iff.mp z)⟩) (fun z=>?_) (by rw [<- r1.length,<- r2.length];exact hz)
 refine ⟨.ref s.heap.objs.size,_,I.laid (t':=s.toks) (o:=.tup (xs++ys)) (fun b ob q=>O9 _ q) (O2 _) ?_,rfl,q2 (fun w=>z (r2.nil_iff.mpr w)) _ (I.hok.fresh (O2 _))⟩
 exact ⟨by rw [O7];exact hz,_,r1.append r2,IsTup.new _ _⟩
end
noncomputable def C7 (n:Nat)(i:Int):Option Nat:=if 0<=i then (if i < n then some i.toNat else none) else if -(n:Int)<=i then some (i+n).toNat else none
noncomputable def B2 {α:Type}(xs:List α)(i:Int):Option α:=(C7 xs.length i).bind fun j=>xs[j]?
theorem Zd0 {n:Nat}{i:Int}{j:Nat}(h:C7 n i=some j):seqIndex? i n=some j/\j < n/\-(n:Int)<=i/\i < n:=by
 unfold C7 at h
 by_cases h0:0<=i
 ·rw [if_pos h0] at h
  by_cases h1:i < n
  ·rw [if_pos h1] at h
   have e:i.toNat=j:=Pg h
   exact ⟨by rw [seqIndex_of h0 h1,e],by omega,by omega,h1⟩
  ·rw [if_neg h1] at h;cases h
 ·rw [if_neg h0] at h
  by_cases h1:-(n:Int)<=i
  ·rw [if_pos h1] at h
   have e:(i+n).toNat=j:=Pg h
   exact ⟨by rw [seqIndex_neg (by omega) h1,e],by omega,h1,by omega⟩
  ·rw [if_neg h1] at h;cases h
theorem On {α:Type}{xs:List α}{i:Int}{v:α}(h:B2 xs i=some v):∃ j,seqIndex? i xs.length=some j/\xs[j]?=some v/\j < xs.length/\-(xs.length:Int)<=i/\i < xs.length:=by
 unfold B2 at h
 cases e:C7 xs.length i with
 | none=>rw [e] at h;cases h
 | some j =>
  rw [e] at h
  obtain ⟨h1,h2,h3,h4⟩:=Zd0 e
  exact ⟨j,h1,h,h2,h3,h4⟩
theorem Dp {α:Type}{xs:List α}{j:Nat}{v:α}(h:xs[j]?=some v):B2 xs (j:Int)=some v:=by
 have hj:j < xs.length:=(Pa.mp h).1
 have e:C7 xs.length (j:Int)=some j:=by
  unfold C7
  rw [if_pos (by omega),if_pos (by omega)];simp
 unfold B2;rw [e];exact h
theorem Ht {α:Type}(xs:List α)(v:α):B2 (xs++[v]) (-1)=some v:=by
 have hl:(xs++[v]).length=xs.length+1:=by simp
 have e:C7 (xs++[v]).length (-1)=some xs.length:=by
  unfold C7
  rw [hl,if_neg (by decide),if_pos (by omega)]
  congr 1
  omega
 unfold B2
 rw [e]
 show (xs++[v])[xs.length]?=some v
 simp
noncomputable def Mk (b:Expr):Prop:=∀ o i,subscripted b false o i=operate [o,i] (getItem o i)
noncomputable def IxR (X:Cx)(r:R2):Prop :=
 ∀(value slice:Expr)(pins:List (Addr×Obj))(s:Shared)(σ:St)(H:Hp)(x y:V)(v u:Value)(Q:VK),Inv X pins σ H s->RelV x v->RelV y u->r x y H Q ->
  subscripted slice false v u=operate [v,u] (getItem v u)->wpAny (model X.prog X.w) X.A (subscriptTail value slice v u) (EP X pins σ Q) X.xe s
noncomputable def Gp (X:Cx)(id:String)(r:V->List V->Hp->VK->Prop):Prop :=
 ∀(pins:List (Addr×Obj))(s:Shared)(σ:St)(H:Hp)(x:V)(xs:List V)(v:Value)(us:List Value)(Q:VK),Inv X pins σ H s->RelV x v->Vals xs us->r x xs H Q ->
  wpAny (model X.prog X.w) X.A (call (.builtin id) (v::us)) (EP X pins σ Q) X.xe s
section
variable {X:Cx}{a b:Expr}{ta tb:TE}{pos:Pos}
theorem IxR.or {r r':R2}(h:IxR X r)(h':IxR X r'):IxR X (fun x y H Q=>r x y H Q\/r' x y H Q):=by
 intro value slice pins s σ H x y v u Q I rx ry q hs
 rcases q with q | q
 ·exact h value slice pins s σ H x y v u Q I rx ry q hs
 ·exact h' value slice pins s σ H x y v u Q I rx ry q hs
theorem Znk {r:R2}(hr:IxR X r)(ha:PE X a ta)(hb:PE X b tb)(hs:Mk b):PE X (.Subscript a b pos) (Eu r ta tb):=by
 intro pins s σ H Q I h
 exact Subscript_ (M0 ha hb I h fun v u s2 x y H2 I2 rx ry q=>hr a b pins s2 σ H2 x y v u Q I2 rx ry q (hs _ _))
noncomputable def rIxL (K:Oz):R2:=fun x y H Q=>∃ p xs i v,x=.ref p/\y=.int i/\SqL K H p xs/\B2 xs i=some v/\Q v H
noncomputable def rIxT (K:Oz):R2:=fun x y H Q=>∃ p xs i v,x=.ref p/\y=.int i/\SqT K H p xs/\B2 xs i=some v/\Q v H
noncomputable def rIxS:R2:=fun x y H Q=>∃ z i c,x=.str z/\y=.int i/\z.length<=sizeLine/\B2 z.cps.toList i=some c/\Q (.str ⟨#[c]⟩) H
theorem ix_list:IxR X (rIxL X.K):=by
 intro value slice pins s σ H x y v u Q I rx ry h hs
 obtain ⟨p,xs,i,z,rfl,rfl,hq,he,q⟩:=h
 cases rx
 obtain ⟨t,rfl⟩:=ry
 obtain ⟨its,r,pl,hz⟩:=I.list hq
 obtain ⟨j,h1,h2,h3,h4,h5⟩:=On he
 obtain ⟨w,ew,rw'⟩:=r.get h2
 have hl:=r.length
 have hn:=G4
 have fin:EP X pins σ Q w s:=⟨z,H,I,rw',q⟩
 by_cases h0:0<=i
 ·have hj:i.toNat=j:=by
   rw [seqIndex_of h0 h5] at h1
   exact Pg h1
  exact item_listR pl.isList h0 (by omega) (by rw [hj];simpa using ew) fin hs
 ·have hj:(i+(its.toArray.size:Int)).toNat=j:=by
   rw [seqIndex_neg (by omega) h4] at h1
   rw [O4,<- hl]
   exact Pg h1
  exact subscriptTail_builtinR (x:=w) pl.isList.typeIs slot_list_getitem.lookup
   (wpAny_getItem_list_neg (Q:=fun r s'=>r=w/\EP X pins σ Q r s') pl.isList (by omega) (by rw [O4] <;> omega) (by omega) (by rw [hj];simpa using ew) ⟨rfl,fin⟩) hs
theorem ix_tup:IxR X (rIxT X.K):=by
 intro value slice pins s σ H x y v u Q I rx ry h hs
 obtain ⟨p,xs,i,z,rfl,rfl,hq,he,q⟩:=h
 cases rx
 obtain ⟨t,rfl⟩:=ry
 obtain ⟨its,r,pl,hz⟩:=I.tuple hq
 obtain ⟨j,h1,h2,h3,h4,h5⟩:=On he
 obtain ⟨w,ew,rw'⟩:=r.get h2
 have hl:=r.length
 have hn:=G4
 have fin:EP X pins σ Q w s:=⟨z,H,I,rw',q⟩
 exact subscriptTail_builtinR (x:=w) pl.typeIs slot_tuple_getitem.lookup
  (getItem_tuple (j:=j) (Q:=fun r s'=>r=w/\EP X pins σ Q r s') pl (by omega) (by omega) (by rw [O4,<- hl];exact h1) (by simpa using ew) ⟨rfl,fin⟩) hs
theorem Zlj:IxR X rIxS:=by
 intro value slice pins s σ H x y v u Q I rx ry h hs
 obtain ⟨z,i,c,rfl,rfl,hz,he,q⟩:=h
 obtain ⟨t,rfl⟩:=rx
 obtain ⟨t',rfl⟩:=ry
 obtain ⟨j,h1,h2,h3,h4,h5⟩:=On he
 have hl:z.cps.toList.length=z.length:=by simp [Str.length]
 rw [hl] at h1 h4 h5
 have hn:=G4
 exact tail_any (typeIs_str s z t) slot_str_getitem.lookup (getItem_str (c:=c) (by
  have e1:decide (i < -(2 ^ 63:Int))=false:=decide_eq_false (by omega)
  have e2:decide (i ≥ 2 ^ 63)=false:=decide_eq_false (by omega)
  rw [e1,e2,Up]) (by rw [h1];simpa using h2) ⟨.str ⟨#[c]⟩,H,I.tok _,⟨_,rfl⟩,q⟩) hs
noncomputable def Fk (K:Oz):R2:=fun x y H Q=>rIxL K x y H Q\/rIxT K x y H Q\/rIxS x y H Q
theorem Zjh:IxR X (Fk X.K):=ix_list.or (ix_tup.or Zlj)
theorem Zi3 (its:List Value)(n j:Nat)(u:Value):P9 (·.setIfInBounds j u) { cls:=.type "list",data:=.seq its.toArray n }={ cls:=.type "list",data:=.seq (its.set j u).toArray n }:=by
 simp [P9]
theorem Inv.lst {pins:List (Addr×Obj)}{σ:St}{H:Hp}{s:Shared}{p:Addr}{xs:List V}(I:Inv X pins σ H s)(h:H p=some (.lst xs)) :
  ∃(its:List Value)(n:Nat),Vals xs its/\s.heap.get? p=some { cls:=.type "list",data:=.seq its.toArray n }/\xs.length<=sizeLine:=by
 obtain ⟨z,its,n,r,e⟩:=I.hok p _ h
 exact ⟨its,n,r,e,z⟩
theorem Inv.lstUpd {pins:List (Addr×Obj)}{σ:St}{H:Hp}{s:Shared}{p:Addr}{xs ys:List V}{its its':List Value}{n n':Nat}{f:Obj->Obj}(I:Inv X pins σ H s)(h:H p=some (.lst xs))
  (ho:s.heap.get? p=some { cls:=.type "list",data:=.seq its.toArray n }) (hf:f { cls:=.type "list",data:=.seq its.toArray n }={ cls:=.type "list",data:=.seq its'.toArray n' }) (r:Vals ys its') (hz:ys.length<=sizeLine) (t:Nat) :
  Inv X pins σ (upd H p (.lst ys)) { s with heap:=s.heap.update p f,toks:=t }:=by
 have e:(s.heap.update p f).get? p=some { cls:=.type "list",data:=.seq its'.toArray n' }:=by
  rw [R1 f ho (by rw [hf] <;> rfl),hf]
 refine I.write (x:=p) (e:=p) (by rw [h];trivial) (.inl rfl) (fun b u hb q=>(R0 _ _ (P0 hb)).trans q) ⟨_,e⟩ ?_
 exact ⟨hz,its',n',r,e⟩
noncomputable def Zc0:V->V->V->Hp->(Hp->Prop)->Prop:=fun o i v H Q=>∃ p xs k j,o=.ref p/\i=.int k/\H p=some (.lst xs)/\C7 xs.length k=some j/\Q (upd H p (.lst (xs.set j v)))
theorem Zij:N4 X Zc0:=by
 intro pins s σ H o i v ov iv u Q I ro ri rv h
 obtain ⟨p,xs,k,j,rfl,rfl,hp,hj,q⟩:=h
 cases ro
 obtain ⟨t,rfl⟩:=ri
 obtain ⟨its,n,r,ho,hz⟩:=I.lst hp
 obtain ⟨h1,h2,h3,h4⟩:=Zd0 hj
 have hl:=r.length
 have hn:=G4
 have I':Inv X pins σ (upd H p (.lst (xs.set j v))) { s with heap:=s.heap.update p (P9 (·.setIfInBounds j u)) } :=
  I.lstUpd hp ho (Zi3 its n j u) (r.set rv j) (by rw [P8];exact hz) s.toks
 by_cases h0:0<=k
 ·have hk:k.toNat=j:=by
   rw [seqIndex_of h0 h4] at h1
   exact Pg h1
  exact PySem.W.ki_setAt ho h0 (by omega) (by rw [O4,<- hl];exact h4) (by rw [hk];exact ⟨_,I',q⟩)
 ·have hk:(k+(its.toArray.size:Int)).toNat=j:=by
   rw [seqIndex_neg (by omega) h3] at h1
   rw [O4,<- hl]
   exact Pg h1
  exact PySem.W.ki_setBack ho (by omega) (by rw [O4,<- hl];exact h3) (by omega) (by rw [hk];exact ⟨_,I',q⟩)
theorem Zk9 (lo hi:Option Int)(n:Nat):(sliceBounds lo hi none n).1=((HT.sIx n 0 lo:Nat):Int)/\(sliceBounds lo hi none n).2.1=((HT.sIx n n hi:Nat):Int)/\(sliceBounds lo hi none n).2.2=1:=by
 refine ⟨?_,?_,rfl⟩
 ·cases lo with
  | none=>simp [sliceBounds,HT.sIx]
  | some i =>
   simp only [sliceBounds,HT.sIx,Option.getD_none,show (1:Int) > 0 by decide,if_true]
   by_cases h:i < 0
   ·simp only [h,if_true] <;> omega
   ·simp only [h,if_false] <;> omega
 ·cases hi with
  | none=>simp [sliceBounds,HT.sIx]
  | some i =>
   simp only [sliceBounds,HT.sIx,Option.getD_none,show (1:Int) > 0 by decide,if_true]
   by_cases h:i < 0
   ·simp only [h,if_true] <;> omega
   ·simp only [h,if_false] <;> omega
theorem Zg4 (its:List Value)(lo hi:Option Int):slicePick its.toArray lo hi none=((its.drop (HT.sIx its.length 0 lo)).take (HT.sIx its.length its.length hi - HT.sIx its.length 0 lo)).toArray:=by
 obtain ⟨h1,h2,h3⟩:=Zk9 lo hi its.toArray.size
 unfold slicePick
 rw [h1,h2,h3]
 simp only [sliceRange_one,pick_run,O4] <;> rfl
noncomputable def Og (K:Oz):V->Option Int->Option Int->Hp->VK->Prop:=fun x lo hi H Q=>∃ a xs,x=.ref a/\SqL K H a xs/\∀ p,H p=none->Q (.ref p) (upd H p (.lst (Bz xs lo hi)))
theorem sl_list:SlR X (Og X.K):=by
 intro pins s σ H x v vl vu lo hi sl Q I rx hs pl pu h
 obtain ⟨a,xs,rfl,hx,q⟩:=h
 cases rx
 obtain ⟨its,r,ht,hz⟩:=I.list hx
 have hlen:=r.length
 refine ⟨"list",_,slot_list_getitem.lookup,ht.isList.typeIs,?_⟩
 refine wpAny_getItem_list_slice ht.isList hs pl pu .none (by simp) ?_ (by rw [O4] <;> omega)
 rw [Zg4,<- hlen]
 refine ⟨.ref s.heap.objs.size,_,I.laid (t':=s.toks) (o:=.lst (Bz xs lo hi)) (fun b ob q=>O9 _ q) (O2 _) ?_,rfl,q _ (I.hok.fresh (O2 _))⟩
 exact ⟨P7 (Zc5 xs lo hi) hz,_,0,(r.drop (HT.sIx xs.length 0 lo)).take (HT.sIx xs.length xs.length hi - HT.sIx xs.length 0 lo),Pn _ rfl⟩
noncomputable def Cz:V->Bool
 | .non=>true
 | .bl _=>true
 | .int _=>true
 | .str _=>true
 | _=>false
noncomputable def D6:V->V->Bool
 | .non,.non=>true
 | .bl a,.bl b=>a == b
 | .bl a,.int b=>(if a then 1 else 0) == b
 | .int a,.bl b=>a == (if b then 1 else 0)
 | .int a,.int b=>a == b
 | .str a,.str b=>a == b
 | _,_=>false
theorem Nd {A:Around}{s:Shared}{y x:V}{u v:Value}(ry:RelV y u)(rx:RelV x v)(fy:Cz y=true)(fx:Cz x=true):Pc A s u v (D6 y x):=by
 cases y with
 | non =>
  cases ry
  cases x with
  | non=>cases rx;exact Uh _
  | bl b=>cases rx;exact Pc.none_bool b
  | int b=>obtain ⟨t,rfl⟩:=rx;exact Pc.none_int b t
  | str b=>obtain ⟨t,rfl⟩:=rx;exact Pc.none_str b t
  | _=>exact absurd (show false=true from fx) Pf
 | bl a =>
  cases ry
  cases x with
  | non=>cases rx;exact Pc.bool_none a
  | bl b=>cases rx;exact Pc.bool_bool a b
  | int b=>obtain ⟨t,rfl⟩:=rx;exact Pc.bool_int a b t
  | str b=>obtain ⟨t,rfl⟩:=rx;exact Pc.bool_str a b t
  | _=>exact absurd (show false=true from fx) Pf
 | int a =>
  obtain ⟨t',rfl⟩:=ry
  cases x with
  | non=>cases rx;exact Pc.int_none a t'
  | bl b=>cases rx;exact Pc.int_bool a t' b
  | int b=>obtain ⟨t,rfl⟩:=rx;exact Ub a t' b t
  | str b=>obtain ⟨t,rfl⟩:=rx;exact Vb a t' b t
  | _=>exact absurd (show false=true from fx) Pf
 | str a =>
  obtain ⟨t',rfl⟩:=ry
  cases x with
  | non=>cases rx;exact Pc.str_none a t'
  | bl b=>cases rx;exact Pc.str_bool a t' b
  | int b=>obtain ⟨t,rfl⟩:=rx;exact Vc a t' b t
  | str b=>obtain ⟨t,rfl⟩:=rx;exact Pc.str_str a t' b t
  | _=>exact absurd (show false=true from fx) Pf
 | _=>exact absurd (show false=true from fy) Pf
noncomputable def E2 (x:V)(u:Value):Bool:=match u with
 | .none=>D6 .non x
 | .bool b=>D6 (.bl b) x
 | .int i _=>D6 (.int i) x
 | .str z _=>D6 (.str z) x
 | _=>false
theorem Zb6 {x y:V}{u:Value}(r:RelV y u)(f:Cz y=true):E2 x u=D6 y x:=by
 cases y with
 | non=>cases r;rfl
 | bl b=>cases r;rfl
 | int i=>obtain ⟨t,rfl⟩:=r;rfl
 | str z=>obtain ⟨t,rfl⟩:=r;rfl
 | _=>exact absurd (show false=true from f) Pf
theorem Ob {x:V}:∀{xs:List V}{us:List Value},Vals xs us->xs.all Cz=true->us.any (E2 x)=xs.any fun y=>D6 y x
 | _,_,.nil,_=>rfl
 | y::xs,u::us,.cons r t,f=>by
  rw [Uq,Q4] at f
  rw [Th,Th,Zb6 r f.1,Ob t f.2]
theorem Ln {A:Around}{s:Shared}{x:V}{v:Value}(rx:RelV x v)(fx:Cz x=true):∀{xs:List V}{us:List Value},Vals xs us->xs.all Cz=true->∀ u∈us,Pc A s u v (E2 x u)
 | _,_,.nil,_=>fun u hu=>by cases hu
 | y::xs,u::us,.cons r t,f=>fun u' hu=>by
  rw [Uq,Q4] at f
  rcases O5.mp hu with rfl | hu
  ·rw [Zb6 r f.1];exact Nd r rx f.1 fx
  ·exact Ln rx fx t f.2 u' hu
noncomputable def B1 (x:V)(xs:List V):Bool:=xs.any fun y=>D6 y x
noncomputable def rIn (K:Oz)(neg:Bool):R2:=fun x y H Q=>∃ p xs,y=.ref p/\(SqL K H p xs\/SqT K H p xs)/\Cz x=true/\xs.all Cz=true/\Q (.bl (if neg then !B1 x xs else B1 x xs)) H
theorem op_in_seq:OpR X (compareOp .In) (rIn X.K false):=by
 intro pins s σ H x y v u Q I rx ry h
 obtain ⟨p,xs,rfl,hq,fx,fs,q⟩:=h
 cases ry
 rcases hq with hq | hq
 ·obtain ⟨its,r,pl,hz⟩:=I.list hq
  refine SeqAt.in_listAt (E2 x) pl.isList (fun w hw=>Ln rx fx r fs w (by simpa using hw)) ⟨.bl _,H,I,rfl,?_⟩
  rw [show its.toArray.any (E2 x)=its.any (E2 x) by simp,Ob r fs]
  exact q
 ·obtain ⟨its,r,pl,hz⟩:=I.tuple hq
  refine SeqAt.in_tupleAt (E2 x) pl (fun w hw=>Ln rx fx r fs w (by simpa using hw)) ⟨.bl _,H,I,rfl,?_⟩
  rw [show its.toArray.any (E2 x)=its.any (E2 x) by simp,Ob r fs]
  exact q
theorem Zl5:B9 X (.type "list") (fun xs H Q=>∃ p ys,xs=[.ref p]/\(SqL X.K H p ys\/SqT X.K H p ys)/\∀ l,H l=none->Q (.ref l) (upd H l (.lst ys))):=by
 intro pins s σ H xs us Q I r h
 obtain ⟨p,ys,rfl,hq,q⟩:=h
 obtain ⟨u,rfl,rx⟩:=Jc r
 cases rx
 have fin:∀(its:List Value),Vals ys its->ys.length<=sizeLine->∀(h':Heap)(c':Nat),(∀ b o',s.heap.get? b=some o'->h'.get? b=some o') ->
   h'.get? s.heap.objs.size=some { cls:=.type "list",dict:=none,data:=.seq its.toArray c',slots:=#[] }->EP X pins σ Q (.ref s.heap.objs.size) { s with heap:=h' }:=fun its r' hz h' c' kp e =>
  ⟨.ref s.heap.objs.size,_,I.laid (t':=s.toks) kp (O2 _) (show ObjOk X.prog X.w _ h' _ (.lst ys) from ⟨hz,its,c',r',e⟩),rfl,q _ (I.hok.fresh (O2 _))⟩
 rcases hq with hq | hq
 ·obtain ⟨its,r',pl,hz⟩:=I.list hq
  have hlen:=r'.length
  obtain ⟨o,ho,hc,n,hd⟩:=pl.isList
  exact call_list_seq p (.inl rfl) ho hc hd (fun h' c' kp e=>fin its r' hz h' c' kp e) (by simp only [O4] <;> omega)
 ·obtain ⟨its,r',pl,hz⟩:=I.tuple hq
  have hlen:=r'.length
  obtain ⟨o,ho,hc,n,hd⟩:=pl
  exact call_list_seq p (.inr rfl) ho hc hd (fun h' c' kp e=>fin its r' hz h' c' kp e) (by simp only [O4] <;> omega)
theorem Zm4:B9 X (.type "tuple") (fun xs H Q=>∃ p ys,xs=[.ref p]/\((SqL X.K H p ys/\∀ l,H l=none->Q (.ref l) (upd H l (.tup ys)))\/(SqT X.K H p ys/\Q (.ref p) H))):=by
 intro pins s σ H xs us Q I r h
 obtain ⟨p,ys,rfl,h⟩:=h
 obtain ⟨u,rfl,rx⟩:=Jc r
 cases rx
 rcases h with ⟨hq,q⟩ | ⟨hq,q⟩
 ·obtain ⟨its,r',pl,hz⟩:=I.list hq
  have hlen:=r'.length
  refine call_tuple_list pl.isList (fun h' kp=>?_) (by simp only [O4] <;> omega)
  have I1:Inv X pins σ H { s with heap:=h' }:=I.kept (t':=s.toks) kp
  have I2:Inv X pins σ (upd H h'.objs.size (.tup ys)) { s with heap:=h'.push { cls:=.type "tuple",data:=.seq its.toArray } } :=
   I1.laid (t':=s.toks) (fun b o e=>O9 _ e) (O2 _) (show ObjOk X.prog X.w _ _ _ (.tup ys) from ⟨hz,its,r',IsTup.new _ _⟩)
  exact ⟨.ref h'.objs.size,_,I2,rfl,q _ (I1.hok.fresh (O2 _))⟩
 ·obtain ⟨its,r',pl,hz⟩:=I.tuple hq
  exact call_tuple_same pl ⟨.ref p,H,I,rfl,q⟩
noncomputable def G7 (K:Oz)(T:String)(x:V)(H:Hp):Prop:=match x with
 | .str _=>T = "str"
 | .int _=>T = "int"
 | .ref p=>(T = "list" /\ ∃ xs,SqL K H p xs)\/(T = "tuple" /\ ∃ o,K.lookup p=some o/\o.cls=.type "tuple" /\ o.dict=none) \/
   (T = "dict" /\ ((∃ kvs,H p=some (.dK kvs))\/∃ kvs,H p=some (.dT kvs)))\/(T = "set" /\ ∃ S n,H p=some (.set S n))
 | _=>False
theorem Zdp {pins:List (Addr×Obj)}{σ:St}{H:Hp}{s:Shared}{T:String}{x:V}{v:Value}(I:Inv X pins σ H s)(r:RelV x v)(ty:G7 X.K T x H) :
  s.TypeIs v T/\∀ a,v=.ref a->∃ ob,s.heap.get? a=some ob/\ob.dict=none:=by
 cases x with
 | str z =>
  obtain ⟨t,rfl⟩:=r
  cases (show T = "str" from ty)
  exact ⟨typeIs_str s z t,fun _ e=>nomatch e⟩
 | int i =>
  obtain ⟨t,rfl⟩:=r
  cases (show T = "int" from ty)
  exact ⟨typeIs_int s i t,fun _ e=>nomatch e⟩
 | ref p =>
  cases r
  rcases ty with ⟨rfl,xs,hq⟩ | ⟨rfl,o,hk,hc,hd⟩ | ⟨rfl,hk⟩ | ⟨rfl,S,n,hk⟩
  ·obtain ⟨its,_,pl,_⟩:=I.list hq
   refine ⟨pl.isList.typeIs,fun a e=>?_⟩
   cases e
   obtain ⟨o,n,e,c,hd,_⟩:=pl
   exact ⟨o,e,hd⟩
  ·refine ⟨⟨o,I.kIn p o hk,hc⟩,fun a e=>?_⟩
   cases e
   exact ⟨o,I.kIn _ o hk,hd⟩
  ·have z:∃ o,s.heap.get? p=some o/\o.ExactDict:=by
    rcases hk with ⟨kvs,hk⟩ | ⟨kvs,hk⟩
    ·obtain ⟨_,_,_,_,o,_,_,e,ex,_⟩:=I.hok p _ hk
     exact ⟨o,e,ex⟩
    ·obtain ⟨_,_,_,_,o,_,_,e,ex,_⟩:=I.hok p _ hk
     exact ⟨o,e,ex⟩
   obtain ⟨o,e,ex⟩:=z
   refine ⟨⟨o,e,ex.1⟩,fun a e2=>?_⟩
   cases e2
   exact ⟨o,e,ex.2.1⟩
  ·obtain ⟨o,_,_,_,e,ex,_⟩:=I.hok p _ hk
   refine ⟨⟨o,e,ex.1⟩,fun a e2=>?_⟩
   cases e2
   exact ⟨o,e,ex.2.1⟩
 | _=>exact Q0 ty
noncomputable def Jx (K:Oz)(T:String)(r:V->List V->Hp->VK->Prop)(to:TE):TE:=fun σ H Q=>to σ H fun x H1=>G7 K T x H1/\r x [] H1 Q
noncomputable def tBM (K:Oz)(T:String)(r:V->List V->Hp->VK->Prop)(to:TE)(t:TA):TE:=fun σ H Q=>to σ H fun x H1=>G7 K T x H1/\t σ H1 fun xs H2=>r x xs H2 Q
variable {o e:Expr}{es:List Expr}{to:TE}{t:TA}{name:Str}{apos cpos:Pos}{T id:String}{r:V->List V->Hp->VK->Prop}
theorem Zk0 (pa:PlainAttrs T)(slot:Slot T name id)(hty:typeOf (.builtin id)=pure (.type "method_descriptor"))(hm:Gp X id r)(ho:PE X o to)
  (hbase:attributeBase o name X.env (eval o X.env)=eval o X.env:=by rfl) (hline:(apos.endLine == cpos.line)=true:=by rfl):PE X (.Call (.Attribute o name apos) [] [] cpos) (Jx X.K T r to):=by
 intro pins s σ H Q I h
 refine wpAny_Call_method0_late hbase hline (Aj (ho pins s σ H _ I h) fun v s1 zq=>?_)
 obtain ⟨x,H1,I1,r1,ty,q1⟩:=zq
 obtain ⟨h1,h2⟩:=Zdp I1 r1 ty
 exact ⟨T,id,pa,slot,hty,h1,h2,T1 rfl (PySem.evalArgs_none (hm pins s1 σ H1 x [] v [] Q I1 r1 .nil q1))⟩
theorem Zo1 (pa:PlainAttrs T)(slot:Slot T name id)(hty:typeOf (.builtin id)=pure (.type "method_descriptor"))(hm:Gp X id r)(ho:PE X o to)(ha:PA X (e::es) t)
  (hbase:attributeBase o name X.env (eval o X.env)=eval o X.env:=by rfl)
  (hfew:((backTo cpos (starEach (e::es) X.env)).all (fun x=>!x.1) && (backToKw cpos (keywordEach [] X.env)).all (fun x=>x.1.isSome)
   && decide ((e::es).length+([]:List Keyword).length+(if ([]:List Keyword).isEmpty then 0 else 1) < 30))=true:=by rfl)
  (hline:(apos.endLine == cpos.line)=true:=by rfl) (hs:starEach (e::es) X.env=(false,eval e X.env)::starEach es X.env:=by rfl) (hplain:(backTo cpos (starEach es X.env)).any (·.1)=false:=by rfl) :
  PE X (.Call (.Attribute o name apos) (e::es) [] cpos) (tBM X.K T r to t):=by
 intro pins s σ H Q I h
 refine wpAny_Call_method_late hbase hfew hline rfl (Aj (ho pins s σ H _ I h) fun v s1 zq=>?_)
 obtain ⟨x,H1,I1,r1,ty,q1⟩:=zq
 obtain ⟨h1,h2⟩:=Zdp I1 r1 ty
 refine ⟨T,id,pa,slot,hty,h1,h2,?_⟩
 have hA:=ha cpos pins s1 σ H1 _ I1 q1
 rw [hs] at hA ⊢
 refine T1 (by show (false || (backTo cpos (starEach es X.env)).any (·.1))=false;rw [hplain] <;> rfl) (U4 ?_)
 exact Aj hA fun us s2 ⟨vs,H2,I2,r2,q2⟩=>hm pins s2 σ H2 x vs v us Q I2 r1 r2 q2
end
noncomputable def MtM (X:Cx)(id:String)(r:V->List V->Hp->VK->Prop):Prop :=
 ∀(pins:List (Addr×Obj))(s:Shared)(σ:St)(H:Hp)(x:V)(xs:List V)(v:Value)(us:List Value)(Q:VK),Inv X pins σ H s->RelV x v->Vals xs us->r x xs H Q ->
  wpAny (model X.prog X.w) X.A (call (.builtin id) (v::us)) (EP X pins σ Q) X.xe s
theorem Vals.one:∀{x:V}{us:List Value},Vals [x] us->∃ u,us=[u]/\RelV x u
 := fun h=>by
 cases h with
 | cons r t =>
 cases t
 exact ⟨_,rfl,r⟩
theorem Vals.two:∀{x y:V}{us:List Value},Vals [x,y] us->∃ u v,us=[u,v]/\RelV x u/\RelV y v
 := fun h=>by
 cases h with
 | cons r t =>
 cases t with
 | cons q z =>
 cases z
 exact ⟨_,_,rfl,r,q⟩
theorem Vals.zero:∀{us:List Value},Vals [] us->us=[]
 | _,.nil=>rfl
theorem Vals.dropLast {xs:List V}{us:List Value}(h:Vals xs us):Vals xs.dropLast us.dropLast:=by
 induction h with
 | nil=>exact .nil
 | cons r t ih =>
  cases t with
  | nil=>exact .nil
  | cons q t'=>exact .cons r ih
theorem Vals.rep {xs:List V}{us:List Value}(h:Vals xs us):∀ k:Nat,Vals (Qc k xs).flatten (Qc k us).flatten
 | 0=>.nil
 | k+1=>by
  rw [Sr,Sr,Q3,Q3]
  exact Vals.append h (Vals.rep h k)
theorem Zgz {α:Type}(l:List α):l.eraseIdx (l.length - 1)=l.dropLast:=by
 induction l with
 | nil=>rfl
 | cons a r ih =>
  cases r with
  | nil=>rfl
  | cons b r =>
   have e:(a::b::r).length - 1=((b::r).length - 1)+1:=by
    have h1:(a::b::r).length=r.length+2:=rfl
    have h2:(b::r).length=r.length+1:=rfl
    omega
   rw [e,List.eraseIdx_cons_succ,ih]
   all_goals rfl
theorem Zcp (its:List Value):∀(k:Nat)(acc:List Value),
  List.foldl (fun x1 x2=>x1++x2) acc.toArray (Qc k its.toArray)=(acc++(Qc k its).flatten).toArray
 | 0,acc=>by simp
 | k+1,acc=>by
  have e:acc.toArray++its.toArray=(acc++its).toArray:=by simp
  have e2:(acc++its)++(Qc k its).flatten=acc++(Qc (k+1) its).flatten:=by
   rw [Sr,Q3,P5]
  rw [<- e2,<- Zcp its k (acc++its),<- e,Sr,Vs]
section
variable {X:Cx}{pins:List (Addr×Obj)}{σ:St}{H:Hp}{s:Shared}{l b:Addr}{xs ys zs:List V}
theorem Inv.lset {its its':List Value}{n:Nat}{f:Array Value->Array Value}{t':Nat}(I:Inv X pins σ H s)(hH:H l=some (.lst xs))
  (e:s.heap.get? l=some { cls:=.type "list",data:=.seq its.toArray n }) (hf:f its.toArray=its'.toArray) (hv:Vals ys its') (hz:ys.length<=sizeLine) :
  Inv X pins σ (upd H l (.lst ys)) { s with heap:=s.heap.update l (P9 f),toks:=t' }:=by
 have q:=PySem.IsL.update e f
 rw [hf] at q
 refine I.write (x:=l) (e:=l) (by rw [hH];exact trivial) (.inl rfl) (fun b' u hb hu=>(R0 s.heap (P9 f) (P0 hb)).trans hu) ⟨_,q⟩ ?_
 exact ⟨hz,its',_,hv,q⟩
theorem Inv.lnew {its:List Value}{t':Nat}(I:Inv X pins σ H s)(hv:Vals ys its)(hz:ys.length<=sizeLine) :
  Inv X pins σ (upd H s.heap.objs.size (.lst ys)) { s with heap:=s.heap.push { cls:=.type "list",data:=.seq its.toArray },toks:=t' } :=
 I.laid (fun _ _ q=>O9 _ q) (O2 _) ⟨hz,its,0,hv,Pn _ rfl⟩
theorem Inv.fresh (I:Inv X pins σ H s):H s.heap.objs.size=none:=I.hok.fresh (O2 _)
theorem Inv.lstM (I:Inv X pins σ H s)(hH:H l=some (.lst xs)):xs.length<=sizeLine/\∃(its:List Value)(n:Nat),Vals xs its/\xs.length=its.length/\s.heap.get? l=some { cls:=.type "list",data:=.seq its.toArray n }:=by
 obtain ⟨z,its,n,r,e⟩:=I.hok l _ hH
 exact ⟨z,its,n,r,r.length,e⟩
theorem Lp {n:Nat}(h:n<=sizeLine):Rz n=false:=by
 unfold Rz
 exact decide_eq_false (by omega)
end
section
variable {X:Cx}
noncomputable def Zbb:V->List V->Hp->VK->Prop:=fun x vs H Q=>∃ l xs y,x=.ref l/\vs=[y]/\H l=some (.lst xs)/\xs.length < sizeLine/\Q .non (upd H l (.lst (xs++[y])))
theorem De:MtM X "list.append" Zbb:=by
 intro pins s σ H x vs v us Q I rx rv h
 obtain ⟨l,xs,y,rfl,rfl,hH,hz,q⟩:=h
 cases rx
 obtain ⟨u,rfl,ru⟩:=rv.one
 obtain ⟨z,its,n,r,hl,e⟩:=I.lstM hH
 refine Sk F.slot_list_append ⟨_,e,rfl⟩ F.entry_list_append (F.args_list_append_2 _ _) (PySem.list_append l its.toArray n u (by rw [O4];omega)) ⟨e,?_⟩
 refine ⟨.non,_,I.lset (its':=its++[u]) hH e (by simp) (r.append (.cons ru .nil)) ?_,rfl,q⟩
 rw [O7,Pr]
 omega
noncomputable def Zci:V->List V->Hp->VK->Prop:=fun x vs H Q=>∃ l b xs zs,x=.ref l/\vs=[.ref b]/\H l=some (.lst xs)/\H b=some (.lst zs)/\xs.length+zs.length<=sizeLine/\Q .non (upd H l (.lst (xs++zs)))
theorem Zqa:MtM X "list.extend" Zci:=by
 intro pins s σ H x vs v us Q I rx rv h
 obtain ⟨l,b,xs,zs,rfl,rfl,hH,hB,hz,q⟩:=h
 cases rx
 obtain ⟨u,rfl,ru⟩:=rv.one
 cases ru
 obtain ⟨z,its,n,r,hl,e⟩:=I.lstM hH
 obtain ⟨z2,its2,n2,r2,hl2,e2⟩:=I.lstM hB
 have hsz:its.toArray.size+its2.toArray.size<=sizeLine:=by rw [O4,O4];omega
 have hlong:¬ (!its.toArray.isEmpty && Rz (its.toArray.size+its2.toArray.size))=true:=by
  rw [Lp hsz,Bool.and_false]
  exact Pf
 refine Sk F.slot_list_extend ⟨_,e,rfl⟩ F.entry_list_extend (F.args_list_extend_2 _ _)
  (AutoSeq1.list_extend_list_list_0 l its.toArray n b its2.toArray n2 hlong (by rw [O4];omega) (by omega)) ⟨e,e2,?_⟩
 refine ⟨.non,_,I.lset (its':=its++its2) hH e (by simp) (r.append r2) ?_,rfl,q⟩
 rw [O7]
 omega
noncomputable def rPop:V->List V->Hp->VK->Prop:=fun x vs H Q=>∃ l xs y,x=.ref l/\vs=[]/\H l=some (.lst xs)/\xs[xs.length - 1]?=some y/\Q y (upd H l (.lst xs.dropLast))
theorem Lc:MtM X "list.pop" rPop:=by
 intro pins s σ H x vs v us Q I rx rv h
 obtain ⟨l,xs,y,rfl,rfl,hH,hy,q⟩:=h
 cases rx
 have hus:=rv.zero
 subst hus
 obtain ⟨z,its,n,r,hl,e⟩:=I.lstM hH
 obtain ⟨u,hu,ru⟩:=r.get hy
 have hy':its.toArray[its.toArray.size - 1]?=some u:=by
  show its.toArray[its.length - 1]?=some u
  rw [<- Array.getElem?_toList,<- hl]
  exact hu
 refine Sk F.slot_list_pop ⟨_,e,rfl⟩ F.entry_list_pop (F.args_list_pop_1 _) (MeetsSeq.list_pop_last l its.toArray n u hy' (by rw [O4];omega)) ⟨e,?_⟩
 refine ⟨y,_,I.lset (its':=its.dropLast) hH e ?_ r.dropLast ?_,ru,q⟩
 ·show its.toArray.eraseIdxIfInBounds (its.toArray.size - 1)=its.dropLast.toArray
  rw [O4,List.eraseIdxIfInBounds_toArray,Zgz]
 ·rw [List.length_dropLast]
  omega
noncomputable def rCat:R2:=fun x y H Q=>∃ l b xs zs,x=.ref l/\y=.ref b/\H l=some (.lst xs)/\H b=some (.lst zs)/\xs.length+zs.length<=sizeLine/\∀ p,H p=none->Q (.ref p) (upd H p (.lst (xs++zs)))
theorem op_cat:OpR X (binaryOp .Add) rCat:=by
 intro pins s σ H x y v u Q I rx ry h
 obtain ⟨l,b,xs,zs,rfl,rfl,hH,hB,hz,q⟩:=h
 cases rx
 cases ry
 obtain ⟨z,its,n,r,hl,e⟩:=I.lstM hH
 obtain ⟨z2,its2,n2,r2,hl2,e2⟩:=I.lstM hB
 refine PySem.P.add_list e e2 ?_ (by rw [O4,O4];omega)
 have ea:its.toArray++its2.toArray=(its++its2).toArray:=by simp
 rw [ea]
 exact ⟨.ref _,_,I.lnew (t':=s.toks) (r.append r2) (by rw [O7];omega),rfl,q _ I.fresh⟩
noncomputable def rRep:R2:=fun x y H Q=>∃ l k xs,x=.ref l/\y=.int k/\H l=some (.lst xs)/\-(2 ^ 63)<=k/\k < 2 ^ 63/\xs.length * k.toNat<=sizeLine /\
 ∀ p,H p=none->Q (.ref p) (upd H p (.lst (Qc k.toNat xs).flatten))
theorem Zly {α:Type}(xs:List α)(k:Nat):(Qc k xs).flatten.length=k * xs.length:=by
 induction k with
 | zero=>simp
 | succ k ih=>rw [Sr,Q3,O7,ih,Nat.succ_mul,Nat.add_comm]
theorem Zf9:OpR X (binaryOp .Mult) rRep:=by
 intro pins s σ H x y v u Q I rx ry h
 obtain ⟨l,k,xs,rfl,rfl,hH,h1,h2,hz,q⟩:=h
 cases rx
 obtain ⟨t,rfl⟩:=ry
 obtain ⟨z,its,n,r,hl,e⟩:=I.lstM hH
 have hlen:its.toArray.size * k.toNat<=sizeLine:=by rw [O4,<- hl];exact hz
 have hcap:¬ its.toArray.size * k.toNat > (2 ^ 63 - 1) / 8:=by
  have:(sizeLine:Nat)<=(2 ^ 63 - 1) / 8:=by decide
  omega
 have hfit:¬ (!Builtin.List.listFitsIndex k)=true:=by
  rw [fitsIndex_both h1 h2]
  exact Pf
 have hlong:¬ Rz (its.toArray.size * k.toNat)=true:=by
  rw [Lp hlen]
  exact Pf
 have hnew:List.foldl (fun x1 x2=>x1++x2) #[] (Qc (if its.toArray.isEmpty=true then 0 else k.toNat) its.toArray)=(Qc k.toNat its).flatten.toArray:=by
  have f0:∀ m:Nat,List.foldl (fun x1 x2=>x1++x2) #[] (Qc m its.toArray)=(Qc m its).flatten.toArray:=fun m=>by
   have:=Zcp its m []
   rw [Ui] at this
   exact this
  rw [f0]
  cases its with
  | nil=>simp
  | cons a r'=>rw [if_neg (by simp)]
 refine wpAny_binaryOp_repeat_ref (T := "list") (U := "int") (by decide) ⟨_,e,rfl⟩ (fun s'=>typeIs_int s' k t) noFill_list_mul F.fills_int_mul F.slot_int_rmul repeat_list F.slot_int_index.lookup
  (Sk F.slot_int_rmul (typeIs_int s k t) F.entry_int_rmul (F.args_int_rmul_2 _ _) (int___rmul___int_list k t l its.toArray n)
   ⟨e,rfl,⟨_,e,rfl⟩,Sk F.slot_list_mul ⟨_,e,rfl⟩ F.entry_list_mul (F.args_list_mul_2 _ _) (AutoListH.list___mul___list_int_3 l its.toArray n k t hfit hcap hlong) ⟨e,?_⟩⟩)
 rw [hnew]
 exact ⟨.ref _,_,I.lnew (t':=s.toks) (r.rep k.toNat) (by rw [Zly,Nat.mul_comm];exact hz),rfl,q _ I.fresh⟩
end
section
variable {prog:Program}{w:World}{A:Around}{E:Value->Shared->Prop}{s:Shared}
end
section
variable {X:Cx}
end
end L2
namespace Att
open PySem PySem.W PySem.Calls PyProof.Rows
theorem Zo9 {P:Params}{h:Heap}:∀(ns:List Int)(vs:List Value),WellAll P h vs (ns.map WData.int)->IntsAre vs ns:=by
 intro ns
 induction ns with
 | nil =>
  intro vs w
  rw [List.map_nil] at w
  cases w
  exact .nil
 | cons n ns ih =>
  intro vs w
  rw [Qa] at w
  cases w with
  | cons a b =>
   cases a
   exact .cons _ _ (ih _ b)
theorem Zho {l:OpenLaw}{n:Nat}(hn:l.most=some n){P:Params}{h:Heap}{args:List WData}{vals:List Value}
  (hpre:l.row.toRowW.claim.pre args=true) (hwl:WellAll P h vals args) :
  ∃ a vs ns,vals=[Value.ref a]/\args=[WData.list (ns.map WData.int)]/\h.get? a=some { cls:=.type "list",data:=.seq vs.toArray }/\IntsAre vs ns/\ns.length<=n:=by
 have hsh:WShape.hasAll [] args [.list .int]=true:=(pre_splitW hpre).1
 have hc:l.pre.holds [] { args:=args }=true:=(pre_splitW hpre).2
 obtain ⟨d,r,rfl,h1,h2⟩:=hasAllW_cons hsh
 obtain rfl:=hasAllW_nil h2
 obtain ⟨xs,rfl,h3⟩:=hasW_list h1
 obtain ⟨ns,rfl⟩:=items_int h3
 have hlen:ns.length<=n:=by
  unfold OpenLaw.pre at hc
  have h4:(WTm.not (.lt (.lit (.int (n:Int))) (.len (.arg 0)))).holds [] { args:=[.list (ns.map .int)] }=true:=by
   have h4:=(holds_andW hc).1
   rw [hn] at h4
   exact h4
  have h5:=condW_of h4 (w_not (w_lt w_lit (w_len_list (w_arg rfl))))
  rw [O6] at h5
  refine Nat.le_of_not_lt fun q=>?_
  have q':(n:Int) < ((ns.length:Nat):Int):=by omega
  first
   | (rw [decide_eq_true q'] at h5;exact absurd h5 (by decide))
   | (simp at h5;omega)
 cases hwl with
 | cons w1 w2 =>
  cases w2
  cases w1 with
  | list ho hall=>exact ⟨_,_,ns,rfl,rfl,ho,Zo9 ns _ hall,hlen⟩
theorem Zo8 (l:OpenLaw)(args:List WData):l.row.toRowW.claim.post args (.bool true) args=true :=
 postW_of (r:=l.row.toRowW) (X:=(true == true))
  (show WShape.has [] (.bool true) .bool=true by first | rfl | decide | simp [WShape.has,WShape.arms,WShape.armsAll])
  (show (WTm.eq .res (.lit (.bool true))).value [] { args:=args,res:=some (.bool true),after:=args }=some (.bool (true == true)) from w_eq_bool (w_res rfl) w_lit) rfl
theorem attach_call {l:OpenLaw}{n:Nat}{q:Program}{loose:List Str}{XP:(Str->Option Value)->Heap->Prop}{YP:World->Heap->Prop}{d:DefRec}
  (hn:l.most=some n) (hdf:d.params.defaults=[])
  (call:∀(w:World)(s₀ s₁:Shared)(mg mb:Str->Option Value)(fa:Addr)(o:Obj)(pm cd doc:Value)(a:Addr)(vs:List Value)(ns:List Int),
   Ground q loose [] XP w s₀ mg mb s₁.heap->YP w s₁.heap ->
   s₁.heap.get? fa=some o->o.data=.func (docDef d.name d.params d.body d.scope pm cd doc)->s₁.heap.CodeRec cd d.name->mg d.name=some (.ref fa) ->
   s₁.heap.get? a=some { cls:=.type "list",data:=.seq vs.toArray }->IntsAre vs ns->ns.length<=n->s₁.gens=#[] ->
   codeAny (model l.prog w) callerA (.call (.ref fa) ⟨[.ref a],[]⟩) (fun r s'=>r=.ok (.ret (.bool true))/\OldK s₁.heap s'.heap/\s'.os=s₁.os/\AllBare s'.gens) s₁) :
  WalkO q loose XP YP l.row.toRowW d [] (fun f vs=>PySem.call f vs):=by
 intro w s₀ s₁ mg mb G Y fa o pm cd doc dV kV ho hd hcd hD hmg hg args vals as hpre hlay hrd hwl hlo
 obtain rfl:dV=.none:=Dflts.none hD hdf
 obtain rfl:kV=.none:=Dflts.noKw hD
 obtain ⟨a,vs,ns,rfl,rfl,hobj,hints,hlen⟩:=Zho hn hpre hwl
 refine enter_call (codeAny_mono (call w s₀ s₁ mg mb fa o pm cd doc a vs ns G Y ho (fd_plain hd) hcd hmg hobj hints hlen hg) fun r s' hq=>?_)
 obtain ⟨rfl,h2,h3,h4⟩:=hq
 exact ⟨.inl ⟨.bool true,.bool true,[],rfl,fun _=>rfl,.bool true,Zo8 l _,fun _=>⟨List.Pairwise.nil,fun _ hm=>(nomatch hm)⟩⟩,h2,h3,h4⟩
section
variable {prog:Program}{w:World}{A:Around}{E:Value->Shared->Prop}{s:Shared}{K:Frag}
end
end Att
namespace L2
open PySem PySem.Spec PyProof.Rows
theorem Zc3:∀{vs:List Value}{ns:List Int},IntsAre vs ns->Vals (ns.map V.int) vs
 | _,_,.nil=>.nil
 | _,_,.cons n t h=>.cons ⟨t,rfl⟩ (Zc3 h)
noncomputable def L8 (H:Hp):Prop:=∀ b,H b=none\/∃ o xs,H b=some (.frz o (.lst xs))
theorem Zml {P:Program}{w:World}{K:Oz}{mg mb:Str->Option Value}{CX:Dd}{k:Nat}{fa a:Addr}{fd:FuncData}{x:Str}{sp:Sp}{s₁:Shared}{vs:List Value}{ns:List Int}
  (KX:K.In s₁.heap) (hns:s₁.heap.Ns mainGlobals mg) (hb:s₁.heap.Ns builtinsNs mb) (hbb:∀ x:Str,x ≠ "__name__" -> mb x=bootBuiltins x) (hlim:s₁.heap.NoLimit) (hg:s₁.gens=#[])
  (ha:s₁.heap.get? a=some { cls:=.type "list",data:=.seq vs.toArray }) (hi:IntsAre vs ns) (hl:ns.length<=sizeLine) (hr:Room k callerA)
  (F:∀ base:Heap,K.In base->base.Ns mainGlobals mg->Bc P w K mg base CX k fa fd [x] sp) (hbind:∀(s:Shared)(u:Value),BindsTo s fd ⟨[u],[]⟩ [(x,u)])
  (hsp:∀ H:Hp,L8 H->SqL K H a (ns.map V.int)->sp [.ref a] H (fun v _=>v=.bl true) fun _ _ _=>False)
  (hCX:∀ H e s',CX [] H s₁ (fun _ _ _=>False) e s'->False) :
  codeAny (model P w) callerA (.call (.ref fa) ⟨[.ref a],[]⟩) (fun r s'=>r=.ok (.ret (.bool true))/\OldK s₁.heap s'.heap/\s'.os=s₁.os/\AllBare s'.gens) s₁:=by
 have rv:=Zc3 hi
 have lenV:=hi.length
 have core:∀ H:Hp,L8 H->SqL K H a (ns.map V.int)->HOk P w H s₁.heap->(∀ b,H b≠none->b=a)->(H a≠none->K.lookup a=none) ->
   codeAny (model P w) callerA (.call (.ref fa) ⟨[.ref a],[]⟩) (fun r s'=>r=.ok (.ret (.bool true))/\OldK s₁.heap s'.heap/\s'.os=s₁.os/\AllBare s'.gens) s₁:=by
  intro H hO hS hok hA hK
  have base_of:∀{b:Addr}{o:Obj},s₁.heap.get? b=some o->H b=none->(E4 s₁.heap H).get? b=some o:=fun e n=>Zhx e n
  have noA:∀{b:Addr}{o:Obj}{es:Array DictEntry}{ep:Nat},s₁.heap.get? b=some o->o.data=.dict es ep->H b=none:=fun {b o es ep} e d=>by
   cases q:H b with
   | none=>rfl
   | some u =>
    have e':b=a:=hA b (by rw [q];simp)
    subst e'
    rw [ha] at e;cases e
    have d':Data.seq vs.toArray _=Data.dict es ep:=d
    cases d'
  have nsK:∀{b:Addr}{m:Str->Option Value},s₁.heap.Ns b m->(E4 s₁.heap H).Ns b m:=fun {b m} ⟨o,es,ep,e,d,r⟩=>⟨o,es,ep,base_of e (noA e d),d,r⟩
  have hKb:K.In (E4 s₁.heap H):=fun b o e=>base_of (KX b o e) (by
   cases q:H b with
   | none=>rfl
   | some u =>
    have e':b=a:=hA b (by rw [q];simp)
    subst e'
    rw [hK (by rw [q];simp)] at e;cases e)
  have hM:Mod K mg (E4 s₁.heap H):=⟨hKb,nsK hns,⟨mb,nsK hb,hbb⟩,let ⟨mc,h1,h2⟩:=hlim;⟨mc,nsK h1,h2⟩⟩
  have e0:Kz P w K mg (E4 s₁.heap H) callerA [] s₁ H:=⟨rfl,hM,fun b o e=>Zjj e,Nat.le_of_eq (Zmg _ _),trivial,fun b hb=>absurd (show b∈([]:List Addr) from hb) (by simp),hok,.of_eq hg⟩
  refine codeAny_mono ((F _ hKb (nsK hns)).run callerA [] s₁ H ⟨[.ref a],[]⟩ [.ref a] [.ref a] _ _ hr e0 (hbind s₁ (.ref a)) (.cons rfl .nil) (hsp H hO hS)) fun r s' h=>?_
  cases r with
  | error e=>exact (hCX H e s' h).elim
  | ok fl =>
   cases fl with
   | next=>exact Q0 h
   | brk=>exact Q0 h
   | cont=>exact Q0 h
   | ret u =>
    obtain ⟨v,H',os,bare,un,hok',r',q⟩:=h
    have q':v=.bl true:=q
    subst q'
    obtain rfl:u=Value.bool true:=r'
    refine ⟨rfl,OldK.of_keep fun b o e=>?_,os,bare⟩
    cases q:H b with
    | none=>exact un.keep b o e q (by intro z;exact absurd (show b∈([]:List Addr) from z) (by simp)) (by simp)
    | some u =>
     rcases hO b with z | ⟨ob,xs,z⟩
     ·rw [q] at z;cases z
     ·have z2:=un.frzs b ob _ z
      obtain ⟨e1,_⟩:=hok b _ z
      obtain ⟨e2,_⟩:=hok' b _ z2
      rw [e] at e1;cases e1
      exact e2
 cases hk:K.lookup a with
 | some o =>
  have e:=KX a o hk
  rw [ha] at e
  cases e
  refine core (fun _=>none) (fun _=>.inl rfl) (.inr ⟨_,vs.toArray,_,hk,rfl,rfl,rfl,by rw [O4,lenV];exact hl,by simpa using rv⟩) (fun b u z=>by have z':(none:Option HO)=some u:=z;cases z') (fun b z=>absurd rfl z) fun z=>absurd rfl z
 | none =>
  refine core (fun b=>if b=a then some (.frz { cls:=.type "list",data:=.seq vs.toArray } (.lst (ns.map V.int))) else none) (fun b=>?_) (.inl (.inr ⟨{ cls:=.type "list",data:=.seq vs.toArray },if_pos rfl⟩)) (fun b u z=>?_) (fun b z=>?_) fun _=>hk
  ·by_cases hb:b=a
   ·exact .inr ⟨_,_,if_pos hb⟩
   ·exact .inl (if_neg hb)
  ·by_cases hb:b=a
   ·have z':=(if_pos hb).symm.trans z
    cases z'
    subst hb
    exact ⟨ha,by rw [O6];exact hl,vs,_,rv,ha⟩
   ·have z':=(if_neg hb).symm.trans z
    cases z'
  ·by_cases hb:b=a
   ·exact hb
   ·exact absurd (if_neg hb) z
theorem walk_of {l:Vt}{n k:Nat}{q:Program}{loose:List Str}{XP:(Str->Option Value)->Heap->Prop}{YP:World->Heap->Prop}{d:DefRec}{K:Params->Oz}{CX:World->Dd}{sp:World->Sp}{x:Str}
  (hn:l.most=some n) (hn2:n<=sizeLine) (hdf:d.params.defaults=[]) (hr:Room k callerA)
  (hY:∀(w:World)(h:Heap),YP w h->(K w.params).In h)
  (F:∀(w:World)(mg:Str->Option Value)(fa:Addr)(h:Heap),(K w.params).In h->h.Ns mainGlobals mg->mg d.name=some (.ref fa) ->
   ∃ fd:FuncData,(∀(s:Shared)(u:Value),BindsTo s fd ⟨[u],[]⟩ [(x,u)]) /\
    ∀ base:Heap,(K w.params).In base->base.Ns mainGlobals mg->Bc l.prog w (K w.params) mg base (CX w) k fa fd [x] (sp w))
  (hsp:∀(w:World)(H:Hp)(a:Addr)(ns:List Int),ns.length<=n->L8 H->SqL (K w.params) H a (ns.map V.int)->sp w [.ref a] H (fun v _=>v=.bl true) fun _ _ _=>False)
  (hCX:∀(w:World)(H:Hp)(s:Shared)(e:Value)(s':Shared),CX w [] H s (fun _ _ _=>False) e s'->False) :
  PySem.W.WalkO q loose XP YP l.row.toRowW d [] (fun f vs=>PySem.call f vs):=by
 refine Att.attach_call hn hdf fun w s₀ s₁ mg mb fa o pm cd doc a vs ns G Y ho hd hcd hmg hobj hints hlen hg=>?_
 have KX:=hY w _ Y
 obtain ⟨fd,hb,hF⟩:=F w mg fa _ KX G.T.g hmg
 exact Zml KX G.T.g G.T.b G.T.builtins G.T.nolimit hg hobj hints (P7 hlen hn2) hr hF hb (fun H hO hS=>hsp w H a ns hlen hO hS) fun H e s'=>hCX w H s₁ e s'
noncomputable def Fz (s:Stmt):Arguments:=match s with
 | .FunctionDef _ a _ _ _ _ _ _ _ _=>a
 | _=>{ posonlyargs:=[],args:=[],vararg:=none,kwonlyargs:=[],kw_defaults:=[],kwarg:=none,defaults:=[] }
noncomputable def Ez (s:Stmt):List Stmt:=match s with
 | .FunctionDef _ _ b _ _ _ _ _ _ _=>b
 | _=>[]
noncomputable def Bg (s:Stmt):Scope:=match s with
 | .FunctionDef _ _ _ _ _ _ sc _ _ _=>sc
 | _=>{ kind:=.function,names:=[],isGenerator:=false,isCoroutine:=false }
noncomputable abbrev Be:Dd:=fun _ _ _ _ _ _=>False
noncomputable abbrev E0:XK:=fun _ _ _=>False
theorem Zg3 {X:Cx}:Np Be X E0:=fun _ _ _ _ _ _ _ h=>h.elim
structure Fun (K:Oz)(x qual:Str)(st:Stmt)(f:Addr)(fd:FuncData):Prop where
 ex:∃(oc:Value)(od:Option Addr)(kV doc pm:Value)(an:Option Addr)(cdv ct:Value)(osl:Array (Option Value)),
  fd=Rh x qual (Fz st) (Ez st) (Bg st) .none kV doc pm an cdv ct/\K.lookup f=some ⟨oc,od,.func fd,osl⟩/\PySem.W.codeIn K cdv qual=true
 kp:Tc K (.ref f)=true
section
variable {P:Program}{w:World}{K:Oz}{mg:Str->Option Value}{base:Heap}
theorem Fun.ok {x qual:Str}{st:Stmt}{f:Addr}{fd:FuncData}{N ps:List Str}{k:Nat}{sp:Sp}(F:Fun K x qual st f fd)(S:Bo N ps (Bg st))(len:∀ vs H Q E,sp vs H Q E->vs.length=ps.length)
  (hbody:∀(cdv:Value)(A:Around)(outer:List Env)(s:Shared)(H:Hp)(vs:List V)(Q:VK)(E:XK),Room k (A.deeper (envOfC qual (Bg st) s.heap.objs.size f cdv))->sp vs H Q E ->
   ∃ t,PSs (Fw Be P w K mg base N qual (Bg st) f cdv A outer s H E).nox (Ez st) t/\t { nx:=fun _ H'=>Q .non H',rt:=Q } (start N vs) H):Bc P w K mg base Be (k+1) f fd ps sp:=by
 obtain ⟨oc,od,kV,doc,pm,an,cdv,ct,osl,rfl,lk,hcd⟩:=F.ex
 refine Zhu lk hcd S len fun A outer s H vs Q E hr hsp=>?_
 obtain ⟨t,h,q⟩:=hbody cdv A outer s H vs Q E hr hsp
 exact ⟨t,h.nox,q⟩
theorem Fun.binds {x qual:Str}{st:Stmt}{f:Addr}{fd:FuncData}{ps:List Str}(F:Fun K x qual st f fd)
  (h:∀(kV doc pm:Value)(an:Option Addr)(cdv ct:Value)(us:List Value),us.length=ps.length->bindArgs (Rh x qual (Fz st) (Ez st) (Bg st) .none kV doc pm an cdv ct) ⟨us,[]⟩=pure (ps.zip us)):Binds K fd ps []:=by
 obtain ⟨oc,od,kV,doc,pm,an,cdv,ct,osl,rfl,lk,hcd⟩:=F.ex
 exact .all (h kV doc pm an cdv ct)
theorem fun_mk {x qual:Str}{st:Stmt}{f:Addr}{oc:Value}{od an:Option Addr}{osl:Array (Option Value)}{kV doc pm cdv ct:Value}(l:K.lookup f=some ⟨oc,od,.func (Rh x qual (Fz st) (Ez st) (Bg st) .none kV doc pm an cdv ct),osl⟩)
  (c:PySem.W.codeIn K cdv qual=true) (k:Tc K (.ref f)=true):Fun K x qual st f (Rh x qual (Fz st) (Ez st) (Bg st) .none kV doc pm an cdv ct):=⟨⟨oc,od,kV,doc,pm,an,cdv,ct,osl,rfl,l,c⟩,k⟩
end
section
variable {X:Cx}
end
theorem iteF {A B:Prop}(h:B):if false=true then A else B:=by
 rw [if_neg Pf]
 exact h
theorem iteT {A B:Prop}(h:A):if true=true then A else B:=by
 rw [if_pos rfl]
 exact h
theorem Bv {c A B:Prop}[Decidable c](h1:c->A)(h2:¬ c->B):if c then A else B:=by
 by_cases h:c
 ·rw [if_pos h]
  exact h1 h
 ·rw [if_neg h]
  exact h2 h
noncomputable def Same (H H':Hp):Prop:=∀ b o,H b=some o->H' b=some o
theorem Same.refl (H:Hp):Same H H:=fun _ _ h=>h
theorem Same.trans {H H1 H2:Hp}(a:Same H H1)(b:Same H1 H2):Same H H2:=fun c o h=>b c o (a c o h)
theorem Same.free {H H':Hp}(e:Same H H'){l:Addr}(h:H' l=Option.none):H l=Option.none:=by
 cases q:H l with
 | none=>rfl
 | some o =>
  rw [e l o q] at h
  cases h
theorem Same.seq {K:Oz}{H H':Hp}{a:Addr}{xs:List V}(e:Same H H')(h:SqL K H a xs):SqL K H' a xs:=by
 rcases h with (h | ⟨o,h⟩) | h
 ·exact .inl (.inl (e _ _ h))
 ·exact .inl (.inr ⟨o,e _ _ h⟩)
 ·exact .inr h
end L2
set_option maxHeartbeats 8000000
namespace L2
open PySem PySem.Spec PyProof.Rows
noncomputable def Dj (env:Env):List (Str×NameKind)->List (Str×Addr)->List (Str×Addr)
 | [],acc=>acc
 | (n,k)::r,acc=>Dj env r (if k == .free then (match env.cells.lookup n with | some a=>(n,a)::acc | none=>acc) else acc)
theorem Zac {env:Env}:∀{ns:List (Str×NameKind)}{acc:List (Str×Addr)}{x:Str}{c:Addr},(∀ x c,acc.lookup x=some c->env.cells.lookup x=some c)->(Dj env ns acc).lookup x=some c->env.cells.lookup x=some c
 | [],acc,x,c,h,e=>h x c e
 | (n,k)::r,acc,x,c,h,e=>by
  refine Zac (ns:=r) ?_ e
  intro y d
  split
  ·split
   ·rename_i a ha
    intro q
    rw [Rc] at q
    split at q
    ·rename_i hy
     have hy':y=n:=by simpa using hy
     subst hy'
     rw [ha];exact q
    ·exact h y d q
   ·exact h y d
  ·exact h y d
theorem Zbe {env:Env}:∀{ns:List (Str×NameKind)}{acc:List (Str×Addr)}{x:Str},(acc.lookup x).isSome=true->((Dj env ns acc).lookup x).isSome=true
 | [],acc,x,h=>h
 | (n,k)::r,acc,x,h=>by
  refine Zbe (ns:=r) ?_
  split
  ·split
   ·rw [Rc]
    split
    ·rfl
    ·exact h
   ·exact h
  ·exact h
theorem Zdr {env:Env}:∀{ns:List (Str×NameKind)}{acc:List (Str×Addr)}{x:Str},(x,NameKind.free)∈ns->(env.cells.lookup x).isSome=true->((Dj env ns acc).lookup x).isSome=true
 | [],acc,x,h,_=>by cases h
 | (n,k)::r,acc,x,h,hc=>by
  rcases O5.mp h with e | e
  ·cases e
   refine Zbe (ns:=r) ?_
   obtain ⟨a,ha⟩:=Q2.mp hc
   rw [if_pos (by rfl),ha]
   show (List.lookup n ((n,a)::acc)).isSome=true
   rw [Rc]
   simp
  ·exact Zdr (ns:=r) e hc
theorem Zbd {scope:Scope}{env:Env}(h:∀ x∈scope.names,x.2=.free->(env.cells.lookup x.1).isSome=true):closureFor scope env=pure (Dj env scope.names []):=by
 have all:∀(ns:List (Str×NameKind))(acc:List (Str×Addr)),(∀ x∈ns,x.2=.free->(env.cells.lookup x.1).isSome=true) ->
   (forIn ns acc fun (x:Str×NameKind) (cs:List (Str×Addr))=>(if (x.2 == NameKind.free)=true then do let a <- cellOf env x.1;pure (ForInStep.yield ((x.1,a)::cs)) else pure (ForInStep.yield cs):Sem (ForInStep (List (Str×Addr)))))=pure (Dj env ns acc):=by
  intro ns
  induction ns with
  | nil=>intro acc _;rfl
  | cons x r ih =>
   intro acc hx
   obtain ⟨n,k⟩:=x
   rw [Sb]
   by_cases hk:(k == NameKind.free)=true
   ·obtain ⟨a,ha⟩:=Q2.mp (hx (n,k) Ss (by simpa using hk))
    have ha:env.cells.lookup n=some a:=ha
    have hcell:cellOf env n=pure a:=by unfold cellOf;rw [ha]
    simp only [hk,if_true,hcell]
    refine Eq.trans (ih ((n,a)::acc) fun y hy=>hx y (P4 _ hy)) ?_
    conv=>rhs;unfold Dj
    simp only [hk,if_true,ha]
   ·simp only [hk]
    refine Eq.trans (ih acc fun y hy=>hx y (P4 _ hy)) ?_
    conv=>rhs;unfold Dj
    simp only [hk]
    rfl
 unfold closureFor
 exact (by
  have:=all scope.names [] h
  first | exact this | (simp only [bind_pure] ;exact this) | simpa using this)
noncomputable def Cf (X:Cx)(scope:Scope)(C:Addr)(N:List Str)(s₀:Shared)(H₀:Hp)(ex:List Addr):Cx where
 prog:=X.prog
 w:=X.w
 K:=X.K
 mg:=X.mg
 base:=X.base
 A:=X.A
 N:=N
 s₀:=s₀
 H₀:=H₀
 env:=compEnvC scope (Dj X.env scope.names []) C X.env
 outer:=X.stack
 stack:=X.stack
 ex:=ex
 fn:=fun _=>false
 calm:=X.calm
 pn:=[]
 xe:=fun _ _=>False
structure Gi (sc:Scope)(env:Env):Prop where
 kind:sc.kind=.function
 nocell:∀ y∈sc.names,y.2≠.cell
 loc:∀ y∈sc.names,y.2=.local->sc.names.lookup y.1=some .local
 free:∀ x∈sc.names,x.2=.free->(env.cells.lookup x.1).isSome=true
theorem Jr {env:Env}:∀{names:List (Str×NameKind)}{x:Str}{k:NameKind},((names.map fun (n,k)=>if (k == NameKind.free && env.scope.kind == .function && env.kindOf n == some .cell) then (n,NameKind.cell) else (n,k)).lookup x=some k) ->
  ∃ k',names.lookup x=some k'/\(k'=k\/(k'=.free/\k=.cell))
 | [],x,k,h=>by simp at h
 | (n,q)::r,x,k,h=>by
  have ih:=@Jr env r x k
  have h:List.lookup x ((if (q == NameKind.free && env.scope.kind == .function && env.kindOf n == some .cell)=true then (n,NameKind.cell) else (n,q))::_)=some k:=h
  rw [Rc]
  cases hx:x == n with
  | true =>
   by_cases hc:(q == NameKind.free && env.scope.kind == .function && env.kindOf n == some .cell)=true
   ·rw [if_pos hc] at h
    simp only [Rc,hx] at h
    refine ⟨q,rfl,.inr ⟨?_,(Pg h).symm⟩⟩
    simp only [Q4] at hc
    simpa using hc.1.1
   ·rw [if_neg hc] at h
    simp only [Rc,hx] at h
    exact ⟨q,rfl,.inl (Pg h)⟩
  | false =>
   by_cases hc:(q == NameKind.free && env.scope.kind == .function && env.kindOf n == some .cell)=true
   ·rw [if_pos hc] at h
    simp only [Rc,hx] at h
    exact ih h
   ·rw [if_neg hc] at h
    simp only [Rc,hx] at h
    exact ih h
noncomputable def Fi (X:Cx)(scope:Scope)(N:List Str)(σ σ0:St):Prop :=
 σ0.length=N.length/\∀(i:Nat)(x:Str)(v:V),N[i]?=some x->σ0[i]?=some (some v)->∃ j:Nat,X.N[j]?=some x/\σ[j]?=some (some v)/\scope.names.lookup x=some .free/\(X.env.kindOf x=some .cell\/X.env.kindOf x=some .free)
section
variable {X:Cx}
theorem Zld {scope:Scope}{N:List Str}{pins:List (Addr×Obj)}{σ σ0:St}{H:Hp}{s:Shared}{h':Heap}{tk:Nat}{fp:List Addr}(I:Inv X pins σ H s)(S:Gi scope X.env)(hf:∀ b∈fp,FpOk X pins H b)(hlt:∀ b∈fp,b < s.heap.objs.size)
  (T:Fi X scope N σ σ0) (hn:h'.Ns s.heap.objs.size (fun _=>none)) (hk:∀ b o,s.heap.get? b=some o->h'.get? b=some o) :
  Inv (Cf X scope s.heap.objs.size N s H fp) [] σ0 H { s with heap:=h',toks:=tk }:=by
 have subC:∀ x c,(Dj X.env scope.names []).lookup x=some c->X.env.cells.lookup x=some c:=fun x c e=>Zac (ns:=scope.names) (acc:=[]) (fun y d z=>by simp at z) e
 have hasC:∀ x,scope.names.lookup x=some .free->∃ c,(Dj X.env scope.names []).lookup x=some c:=fun x e=>by
  have m:=Rn e
  exact Q2.mp (Zdr m (S.free _ m rfl))
 have fsN:∀ b∈fp,b ∉ Cu X.stack:=fun b hb z=>by
  obtain ⟨_,f1,f2,_⟩:=hf b hb
  rcases O5.mp (I.stkSub b z) with e | e
  ·exact f1 e
  ·exact f2 e
 have kinds:∀ x,((relabel scope X.env).names.lookup x=some .cell\/(relabel scope X.env).names.lookup x=some .free)->scope.names.lookup x=some .free:=fun x hx=>by
  rcases hx with hx | hx
  ·obtain ⟨k',e,q⟩:=Jr hx
   rcases q with q | ⟨q,_⟩
   ·subst q
    exact absurd rfl (S.nocell _ (Rn e))
   ·rw [e,q]
  ·obtain ⟨k',e,q⟩:=Jr hx
   rcases q with q | ⟨_,q⟩
   ·rw [e,q]
   ·cases q
 have noex:∀ b o,X.base.get? b=some o->b ∉ fp:=fun b o e hb=>by
  obtain ⟨_,_,_,f3,_⟩:=hf b hb
  rcases f3 with z | z
  ·exact I.ok.noex b o e z
  ·exact absurd (Pl (O8 e) (P7 I.ok.bsz z)) (Qj _)
 refine ⟨⟨I.ok.mod,S.kind,I.ok.glob,I.ok.blt,O2 _,fun x y c e1 e2=>I.ok.inj x y c (subC x c e1) (subC y c e2),fun x hx=>hasC x (kinds x hx),fun x c z=>absurd (show false=true from z) Pf,I.ok.hd,I.ok.frames,.inl rfl,
   fun b hb=>⟨Pe (hlt b hb),fun x c e=>(hf b hb).2.2.2.2.1 x c (subC x c e)⟩,I.bs,P7 I.ok.bsz I.sz,noex,fsN,I.stack,I.stkFree⟩,
  rfl,I.bare,Un.kept hk,⟨_,hn,fun i x v e1 e2 e3=>?_⟩,fun x c e=>?_,I.hok.fresh (O2 _),fun x c e=>I.freeC x c (subC x c e),fun p hp=>absurd (show p∈([]:List (Addr×Obj)) from hp) (by simp),I.hok.kept hk,T.1⟩
 ·obtain ⟨j,hj,hs,hfr,hkd⟩:=T.2 i x v e1 e2
  obtain ⟨m,_,hl⟩:=I.loc
  obtain ⟨u,r,l⟩:=hl j x v hj hs (hkd.elim (fun z=>Or.inr (Or.inl z)) fun z=>Or.inr (Or.inr z))
  refine ⟨u,r,.inr ⟨?_,?_⟩⟩
  ·show (relabel scope X.env).names.lookup x=some .cell\/(relabel scope X.env).names.lookup x=some .free
   rcases e3 with z | z | z
   ·obtain ⟨k',e,q⟩:=Jr (show (relabel scope X.env).names.lookup x=some .local from z)
    rw [hfr] at e
    cases e
    rcases q with q | ⟨_,q⟩ <;> cases q
   ·exact .inl z
   ·exact .inr z
  ·obtain ⟨c,hc⟩:=hasC x hfr
   refine ⟨c,hc,?_⟩
   rcases l with ⟨k,_⟩ | ⟨_,c',e,z⟩
   ·rcases hkd with hkd | hkd <;> (rw [hkd] at k;cases k)
   ·have e':=subC x c hc
    rw [e] at e'
    cases e'
    obtain ⟨o,ho,hd⟩:=z
    exact ⟨o,hk _ o ho,hd⟩
 ·obtain ⟨v,o,ho,hd⟩:=I.cell x c (subC x c e)
  exact ⟨v,o,hk _ o ho,hd⟩
theorem Znh {scope:Scope}{N:List Str}{pins pins':List (Addr×Obj)}{σ σ':St}{H H':Hp}{s s':Shared}{h':Heap}{fp:List Addr}(I:Inv X pins σ H s)(hf:∀ b∈fp,FpOk X pins H b)
  (I':Inv (Cf X scope s.heap.objs.size N s H fp) pins' σ' H' s') (hs:Ph s.heap.objs.size s'.heap h'):Inv X pins σ H' { s' with heap:=h' }:=by
 have hC:H' s.heap.objs.size=none:=I'.free
 have ne:∀ b o,s.heap.get? b=some o->b≠s.heap.objs.size:=fun b o e=>Pe (O8 e)
 have B:Un (Cu X.stack) fp H H' s.heap s'.heap:=I'.base
 refine I.call' (s':={ s' with heap:=h' }) (ch:=fp) I'.os ⟨fun b o e n hb hx=>?_,fun b o e n hb hx=>?_,B.free,fun b o e hx=>?_,B.tups,B.frzs,B.tbls⟩ (fun b o e=>?_) I'.bare (fun b hb=>?_)
 ·exact (hs.2 b (ne b o e)).trans (B.keep b o e n hb hx)
 ·obtain ⟨sl,q⟩:=B.slot b o e n hb hx
  exact ⟨sl,(hs.2 b (ne b o e)).trans q⟩
 ·obtain ⟨o',q⟩:=B.there b o e hx
  exact ⟨o',(hs.2 b (ne b o e)).trans q⟩
 ·refine (I'.hok b o e).stay (fun c w' hc q=>(hs.2 c ?_).trans q) (fun _ q=>q) fun _ _ q=>q
  rintro rfl
  rcases hc with rfl | hc
  ·rw [hC] at e;cases e
  ·rw [hC] at hc;cases hc
 ·obtain ⟨_,f1,_,f3,f4,f5⟩:=hf b hb
  exact ⟨f3,f1,f4,f5⟩
end
section
variable {prog:Program}{w:World}{A:Around}{R:Result->Shared->Prop}{s:Shared}
theorem Zor {elt target iter:Expr}{ifs:List Expr}{scope:Scope}{pos:Pos}{it acc:Value}{env:Env}(I:Nat->Shared->Prop)
  (turn:∀ n s,I n s->wpAny (model prog w) A (pyNext it) (fun r s₁=>match r with
   | none=>R (.ok .next) s₁
   | some v=>wpAny (model prog w) A (letOwnedTupleGo target it v) (fun _ s₁'=>wpAny (model prog w) A (assign target env v) (fun _ s₂ =>
     wpAny (model prog w) A (forIn ifs true fun c r=>if r=true then do let ok <- isTrue c env (eval c env);pure (ForInStep.yield ok) else pure (ForInStep.yield r)) (fun ok s₃ =>
      if ok=true then wpAny (model prog w) A (eval elt env) (fun x s₄ =>
       wpAny (model prog w) A (call (.builtin "list.append") [acc,x]) (fun _ s₅=>∃ m,m < n/\I m s₅) (fun _ _=>False) s₄) (fun _ _=>False) s₃
      else ∃ m,m < n/\I m s₃) (fun _ _=>False) s₂) (fun _ _=>False) s₁') (fun _ _=>False) s₁) (fun _ _=>False) s)
  (n:Nat) (h:I n s):codeAny (model prog w) A (.compLoop (.ListComp elt [⟨target,iter,ifs,0⟩] scope pos) 0 it acc env) R s:=by
 refine codeAny_loop rfl I (fun n s hI=>?_) n h
 show wpAny _ A ((compTurn (.ListComp elt [⟨target,iter,ifs,0⟩] scope pos) 0 it acc env).onRaise (fun x=>do noteFrame x env;theTreesLotGoes x)) _ _ s
 refine wpAny_noted ?_
 rw [compTurn_list]
 have up:∀{α:Type}{t:Sem α}{Q:α->Shared->Prop}{s:Shared}{E:Value->Shared->Prop},wpAny (model prog w) A t Q (fun _ _=>False) s->wpAny (model prog w) A t Q E s:=fun h=>wpAny_noRaise h
 refine O0 (Tg (O0 (up (Aj (turn n s hI) fun r s₁ h₁=>?_))))
 cases r with
 | none=>exact O3 h₁
 | some v =>
  refine O0 (up (Aj h₁ fun _ s₁' h₁'=>?_))
  refine O0 (up (Aj h₁' fun _ s₂ h₂=>O0 (up (Aj h₂ fun ok s₃ h₃=>?_))))
  cases ok with
  | false=>exact O3 ⟨rfl,h₃⟩
  | true =>
   exact O0 (O0 (up (Aj h₃ fun x s₄ h₄=>O0 (up (Aj h₄ fun _ s₅ h₅=>O3 (O3 ⟨rfl,h₅⟩))))))
end
noncomputable def Hn (J:It)(g:TG)(tt:TT)(te:TE)(σ0:St)(H1:Hp)(D:Addr)(Q:VK):Prop :=
 ∃ W:Nat->Nat->St->Hp->Prop,(∃ m,W 0 m σ0 (upd H1 D (.lst [])))/\∀ i m σ' H',W i m σ' H' ->
  (J.stop i H'/\Q (.ref D) H')\/(J.go i H'/\∃ N:St->Hp->Prop,(∀ σ2 H2,N σ2 H2->∃ m',m' < m/\W (i+1) m' σ2 H2)/\∀ x H2,J.yld i H' x H2->g x σ' H2 fun σ2 H3=>tt σ2 H3 fun b H4 =>
   if b=true then te σ2 H4 fun y H5=>∃ ys,H5 D=some (.lst ys)/\ys.length < sizeLine/\N σ2 (upd H5 D (.lst (ys++[y]))) else N σ2 H4)
noncomputable def Ja (wi:TI)(σ0:St->St)(g:TG)(tt:TT)(te:TE):TE:=fun σ H Q=>wi σ H fun J H1=>∀ D,H1 D=none->Hn J g tt te (σ0 σ) H1 D Q
noncomputable def Gm (X:Cx)(ifs:List Expr)(t:TT):Prop :=
 ∀(pins:List (Addr×Obj))(s:Shared)(σ:St)(H:Hp)(Q:Bool->Hp->Prop),Inv X pins σ H s->t σ H Q ->
  wpAny (model X.prog X.w) X.A (forIn ifs true fun c r=>if r=true then do let ok <- isTrue c X.env (eval c X.env);pure (ForInStep.yield ok) else pure (ForInStep.yield r)) (TP X pins σ Q) X.xe s
noncomputable def Zah:TT:=fun _ H Q=>Q true H
theorem Zi6 {X:Cx}:Gm X [] Zah:=fun _ _ _ H _ I h=>wpAny_tests_nil ⟨H,I,h⟩
theorem Zkz {X:Cx}{c:Expr}{t:TT}(h:PT X c t):Gm X [c] t:=fun pins s σ H Q I hw=>wpAny_tests_one (h pins s σ H Q I hw)
section
variable {X:Cx}{elt target iter:Expr}{ifs:List Expr}{scope:Scope}{pos:Pos}{N:List Str}{wi:TI}{σ0:St->St}{g:TG}{tt:TT}{te:TE}
theorem Ze5 {pins:List (Addr×Obj)}{σ:St}{H:Hp}{s:Shared}{it:Addr}{fp:List Addr}{tn:Nat->Heap->Prop}{J:It}{Q:Addr->Hp->Prop}{RR:Value->Addr->Result->Shared->Prop}{E:Value->Shared->Prop}
  (hc:X.calm=true) (S:Gi scope X.env) (T:Fi X scope N σ (σ0 σ)) (I:Inv X pins σ H s) (Tn:Ey X.prog X.w X.K target J fp it tn) (st:tn 0 s.heap) (hf:∀ b∈fp,FpOk X pins H b)
  (hg:∀ C s H fp,PG (Cf X scope C N s H fp) target g) (ht:∀ C s H fp,Gm (Cf X scope C N s H fp) ifs tt) (he:∀ C s H fp,PE (Cf X scope C N s H fp) elt te)
  (hw:∀ D,H D=none->∃ W:Nat->Nat->St->Hp->Prop,(∃ m,W 0 m (σ0 σ) (upd H D (.lst [])))/\∀ i m σ' H',W i m σ' H' ->
   (J.stop i H'/\Q D H')\/(J.go i H'/\∃ N:St->Hp->Prop,(∀ σ2 H2,N σ2 H2->∃ m',m' < m/\W (i+1) m' σ2 H2)/\∀ x H2,J.yld i H' x H2->g x σ' H2 fun σ2 H3=>tt σ2 H3 fun b H4 =>
    if b=true then te σ2 H4 fun y H5=>∃ ys,H5 D=some (.lst ys)/\ys.length < sizeLine/\N σ2 (upd H5 D (.lst (ys++[y]))) else N σ2 H4))
  (hR:∀(D C:Addr)(H':Hp)(s':Shared)(m:Str->Option Value),s.heap.objs.size<=C->H' C=none->s'.heap.Ns C m->(∀ h',Ph C s'.heap h'->Inv X pins σ H' { s' with heap:=h' })->Q D H'->RR (.ref D) C (.ok .next) s') :
  wpAny (model X.prog X.w) X.A (newList []) (fun acc s₃=>wpAny (model X.prog X.w) X.A (newFunctionEnv scope X.env.globals (Dj X.env scope.names []) [] X.env.qual none .none (some X.env)) (fun cenv s₄ =>
   codeAny (model X.prog X.w) X.A (.compStart (.ListComp elt [⟨target,iter,ifs,0⟩] scope pos) 0 (.ref it) acc { cenv with scope:=relabel scope X.env }) (RR acc cenv.locals) s₄) E s₃) E s:=by
 refine Rb (wpAny_newFunctionEnv S.nocell (by intro y hy;simp at hy) (fun h₁ hns₁ hsb₁=>?_) S.kind)
 have hD:H s.heap.objs.size=none:=I.hok.fresh (O2 _)
 have I3:Inv X pins σ (upd H s.heap.objs.size (.lst [])) { s with heap:=s.heap.push { cls:=.type "list",dict:=none,data:=.seq ([]:List Value).toArray } }:=I.lnew (ys:=[]) (its:=[]) (t':=s.toks) .nil (by simp)
 have hlt:∀ b∈fp,b < s.heap.objs.size:=fun b hb=>by obtain ⟨o,e,_⟩:=Tn.obj _ _ st b hb;exact O8 e
 have hf3:∀ b∈fp,FpOk X pins (upd H s.heap.objs.size (.lst [])) b:=fun b hb=>⟨by rw [Ag (Pe (hlt b hb))];exact (hf b hb).1,(hf b hb).2⟩
 have hlt3:∀ b∈fp,b < ({ s with heap:=s.heap.push { cls:=.type "list",dict:=none,data:=.seq ([]:List Value).toArray } }:Shared).heap.objs.size:=fun b hb=>by
  show b < (s.heap.push _).objs.size
  rw [Qi]
  exact Sx (hlt b hb)
 have hk1:∀ b o,({ s with heap:=s.heap.push { cls:=.type "list",dict:=none,data:=.seq ([]:List Value).toArray } }:Shared).heap.get? b=some o->h₁.get? b=some o:=fun b o e =>
  hsb₁.extBut b o (Pe (O8 e)) (O9 _ e)
 have I4:=Zld (N:=N) (tk:=s.toks+([]:List (Str×Value)).length) I3 S hf3 hlt3 T hns₁ hk1
 have st4:tn 0 h₁:=Tn.keep _ _ _ st fun b hb o e=>hk1 b o (O9 _ e)
 obtain ⟨W,⟨m0,w0⟩,turn⟩:=hw _ hD
 generalize hX:Cf X scope ({ s with heap:=s.heap.push { cls:=.type "list",dict:=none,data:=.seq ([]:List Value).toArray } }:Shared).heap.objs.size N { s with heap:=s.heap.push { cls:=.type "list",dict:=none,data:=.seq ([]:List Value).toArray } } (upd H s.heap.objs.size (.lst [])) fp=X' at I4
 have eP:X'.prog=X.prog:=by rw [<- hX];rfl
 have eW:X'.w=X.w:=by rw [<- hX];rfl
 have eK:X'.K=X.K:=by rw [<- hX];rfl
 have eA:X'.A=X.A:=by rw [<- hX];rfl
 have eC:X'.calm=true:=by rw [<- hX];exact hc
 have eX:X'.xe=fun _ _=>False:=by rw [<- hX];rfl
 have eEx:X'.ex=fp:=by rw [<- hX];rfl
 have hg':PG X' target g:=by rw [<- hX];exact hg _ _ _ _
 have ht':Gm X' ifs tt:=by rw [<- hX];exact ht _ _ _ _
 have he':PE X' elt te:=by rw [<- hX];exact he _ _ _ _
 have eE:X'.env=compEnvC scope (Dj X.env scope.names []) ({ s with heap:=s.heap.push { cls:=.type "list",dict:=none,data:=.seq ([]:List Value).toArray } }:Shared).heap.objs.size X.env:=by rw [<- hX];rfl
 have fpIn:∀{H':Hp},(∀ b∈fp,H' b=none)->∀ b∈fp,FpOk X' [] H' b:=fun {H'} hn b hb=>by
  obtain ⟨f0,f1,f2,f3,f4,f5⟩:=hf3 b hb
  rw [<- hX]
  refine ⟨hn b hb,Pe (hlt3 b hb),fun z=>?_,.inl hb,fun x c e=>f4 x c (Zac (ns:=scope.names) (acc:=[]) (fun y d z=>by simp at z) e),fun p hp=>absurd (show p∈([]:List (Addr×Obj)) from hp) (by simp)⟩
  rcases O5.mp (I3.stkSub b z) with e | e
  ·exact f1 e
  ·exact f2 e
 have fr0:∀ b∈fp,upd H s.heap.objs.size (.lst []) b=none:=fun b hb=>(hf3 b hb).1
 have loop:codeAny (model X.prog X.w) X.A (.compLoop (.ListComp elt [⟨target,iter,ifs,0⟩] scope pos) 0 (.ref it) (.ref s.heap.objs.size) X'.env)
   (RR (.ref s.heap.objs.size) ({ s with heap:=s.heap.push { cls:=.type "list",dict:=none,data:=.seq ([]:List Value).toArray } }:Shared).heap.objs.size)
   { s with heap:=h₁,toks:=s.toks+([]:List (Str×Value)).length }:=by
  refine Zor (fun n s'=>∃ i σ' H',Inv X' [] σ' H' s'/\tn i s'.heap/\(∀ b∈fp,H' b=none)/\W i n σ' H') ?_ m0 ⟨0,σ0 σ,_,I4,st4,fr0,w0⟩
  rintro n s5 ⟨i,σ5,H5,I5,st5,fr5,w5⟩
  rcases turn i n σ5 H5 w5 with ⟨stop,qn⟩ | ⟨go,Nx,hN,step⟩
  ·have q:=Tn.done X' eP eW eK eC i [] s5 σ5 H5 (fun _ _=>False) I5 (fpIn fr5) st5 stop
   rw [eA] at q
   refine Aj q fun r s6 zq=>?_
   obtain ⟨hr,I6⟩:=zq
   subst hr
   obtain ⟨mm,hns6,_⟩:=I6.loc
   rw [eE] at hns6
   have fr6:=I6.free
   rw [eE] at fr6
   refine hR _ _ H5 s6 mm ?_ fr6 hns6 (fun h' hs=>?_) qn
   ·show s.heap.objs.size<=(s.heap.push _).objs.size
    rw [Qi]
    exact Tk _
   ·rw [<- hX] at I6
    exact Znh I3 hf3 I6 hs
  ·have q:=Tn.item X' eP eW eK eC i [] s5 σ5 H5 (fun _ _=>False) I5 (fpIn fr5) st5 go
   rw [eA] at q
   refine Aj q fun r s6 zq=>?_
   obtain ⟨u,hr,h6⟩:=zq
   subst hr
   refine Aj h6 fun _ s7 zq=>?_
   obtain ⟨x,H7,I7,r7,y7,st7,fr7⟩:=zq
   have I7':=I7.pinned (fpIn fr7) (Tn.obj _ _ st7)
   have q8:=hg' _ s7 σ5 H7 x u _ I7' r7 (step x H7 y7)
   rw [eP,eW,eA,eX] at q8
   refine Aj q8 fun _ s8 zq=>?_
   obtain ⟨σ8,H8,I8,q8⟩:=zq
   have q9:=ht' _ s8 σ8 H8 _ I8 q8
   rw [eP,eW,eA,eX] at q9
   refine Aj q9 fun ok s9 zq=>?_
   obtain ⟨H9,I9,q9⟩:=zq
   have again:∀{σ10:St}{H10:Hp}{s10:Shared},Inv X' ([]++Hq fp s7.heap) σ10 H10 s10->Nx σ10 H10->∃ m,m < n/\∃ i σ' H',Inv X' [] σ' H' s10/\tn i s10.heap/\(∀ b∈fp,H' b=none)/\W i m σ' H':=fun {σ10 H10 s10} J10 n10=>by
    obtain ⟨m',hm,D7⟩:=hN σ10 H10 n10
    refine ⟨m',hm,i+1,σ10,H10,J10.unpinned,Tn.keep _ _ _ st7 fun b hb o e=>(J10.pin (b,o) (Qg _ (Qg _ (Ky hb e)))).1,fun b hb=>?_,D7⟩
    obtain ⟨o,e,d⟩:=Tn.obj _ _ st7 b hb
    exact (J10.pin (b,o) (Qg _ (Qg _ (Ky hb e)))).2.1
   cases ok with
   | false =>
    have q9':Nx σ8 H9:=q9
    exact again I9 q9'
   | true =>
    have q9':te σ8 H9 _:=q9
    have q10:=he' _ s9 σ8 H9 _ I9 q9'
    rw [eP,eW,eA,eX] at q10
    refine Aj q10 fun y s10 zq=>?_
    obtain ⟨yv,H10,I10,r10,ys,hys,hz,n10⟩:=zq
    have q11:=(De (X:=X')) _ s10 σ8 H10 (.ref s.heap.objs.size) [yv] (.ref s.heap.objs.size) [y] (fun _ H11=>Nx σ8 H11) I10 rfl (.cons r10 .nil) ⟨_,ys,yv,rfl,rfl,hys,hz,n10⟩
    rw [eP,eW,eA,eX] at q11
    exact Aj q11 fun _ s11 ⟨_,H11,I11,_,n11⟩=>again I11 n11
 rw [eE] at loop
 exact codeAny_compStart_list loop (Tn.self _ 0 _ _ _ st4 loop)
theorem Zf6 (hc:X.calm=true)(S:Gi scope X.env)(hi:PI X target iter wi)(T:∀ σ,σ.length=X.N.length->Fi X scope N σ (σ0 σ))
  (hg:∀ C s H fp,PG (Cf X scope C N s H fp) target g) (ht:∀ C s H fp,Gm (Cf X scope C N s H fp) ifs tt) (he:∀ C s H fp,PE (Cf X scope C N s H fp) elt te)
  (hs:∀ x,foldedSetIterable iter X.env x=pure x:=by intro _;rfl):PE X (.ListComp elt [⟨target,iter,ifs,0⟩] scope pos) (Ja wi σ0 g tt te):=by
 intro pins s σ H Q I h
 rw [eval_ListComp]
 refine wpAny_comprehension_free (use:=none) rfl hs (Zbd S.free) S.kind S.loc (Aj (hi pins s σ H _ I h) fun xv s₁ h₁=>Aj h₁ fun itv s₂ h₂=>?_)
 obtain ⟨it,fp,tn,J,H2,rfl,I2,Tn,st2,f2,hw⟩:=h₂
 refine Ze5 (Q:=fun D H'=>Q (.ref D) H') (RR:=fun acc C=>compPost (model X.prog X.w) X.A X.xe none (EP X pins σ Q) acc C) hc S (T σ I.len) I2 Tn st2 f2 hg ht he hw ?_
 intro D C H' s' m hC _ hn hI hq
 exact ⟨m,hn,fun h' hs'=>⟨.ref D,H',hI h' hs',rfl,hq⟩⟩
theorem Zom {i:Nat}{y:Str}{py spos:Pos}(hc:X.calm=true)(S:Gi scope X.env)(hi:PI X target iter wi)(T:∀ σ,σ.length=X.N.length->Fi X scope N σ (σ0 σ))
  (hg:∀ C s H fp,PG (Cf X scope C N s H fp) target g) (ht:∀ C s H fp,Gm (Cf X scope C N s H fp) ifs tt) (he:∀ C s H fp,PE (Cf X scope C N s H fp) elt te)
  (hN:X.N.Nodup) (hy:X.N[i]?=some y) (hx:Eh X.env.scope y)
  (hsw:swapsWith (.ListComp elt [⟨target,iter,ifs,0⟩] scope pos) (some (.Name y py)) spos.line X.env=pure true:=by rfl)
  (hf:X.fn y=true\/X.env.scope.names.lookup y=some .local:=by first | exact .inl rfl | exact .inr rfl | assumption)
  (hs:∀ x,foldedSetIterable iter X.env x=pure x:=by intro _;rfl):PS X (.Assign [.Name y py] (.ListComp elt [⟨target,iter,ifs,0⟩] scope pos) spos) (Fg (Ja wi σ0 g tt te) (Fj i)):=by
 intro pins s σ H D I h
 rw [exec_Assign_Name_used _ _ _ _ hsw]
 refine O0 (Tg (O0 ?_))
 show wpAny _ X.A (do let _ <- comprehension (.ListComp elt [⟨target,iter,ifs,0⟩] scope pos) scope X.env _ (newList []) false (eval iter X.env) (some (assign (.Name y py) X.env))) _ _ s
 refine O0 (Aj (wpAny_comprehension_free (use:=some (assign (.Name y py) X.env)) (Q:=fun _ s'=>SP X pins D .next s') rfl hs (Zbd S.free) S.kind S.loc
  (Aj (hi pins s σ H _ I h) fun xv s₁ h₁=>Aj h₁ fun itv s₂ h₂=>?_)) fun _ s' hq=>O3 (O3 hq))
 obtain ⟨it,fp,tn,J,H2,rfl,I2,Tn,st2,f2,hw⟩:=h₂
 refine Ze5 (Q:=fun L H'=>D.nx (σ.set i (some (.ref L))) H') (RR:=fun acc C=>compPost (model X.prog X.w) X.A X.xe (some (assign (.Name y py) X.env)) (fun _ s'=>SP X pins D .next s') acc C) hc S (T σ I.len) I2 Tn st2 f2 hg ht he hw ?_
 intro L C H' s' m hC hfree hn hI hq
 have I3:Inv X pins σ H' s':=hI s'.heap (.refl ..)
 refine wpAny_assign_Name (Za3 I3 hN hy hx (v:=.ref L) rfl (fun s4 I4 hch=>?_) hf)
 obtain ⟨a,hsb,ha⟩:=hch
 have haC:C≠a:=by
  rintro rfl
  rcases ha with e | e
  ·have:=I2.lt
   rw [<- e] at this
   exact absurd (Pl this hC) (Qj _)
  ·obtain ⟨v,z⟩:=I2.cell y _ e
   exact absurd (Pl z.lt hC) (Qj _)
 refine ⟨m,hn.sameBut hsb haC,fun h' hs'=>⟨_,H',?_,hq⟩⟩
 have e4:({ s4 with heap:=h' }:Shared)={ s4 with heap:=h',toks:=s4.toks }:=rfl
 rw [e4]
 refine I4.turned (it:=C) (fun b o hb e=>(hs'.2 b hb).trans e) hfree ?_ (.inr (P7 I2.sz hC)) ?_ ?_
 ·exact Qo (Pl I2.lt hC)
 ·rintro x c e rfl
  obtain ⟨v,z⟩:=I2.cell x _ e
  exact absurd (Pl z.lt hC) (Qj _)
 ·rintro p hp e
  exact absurd (Pl (O8 (I2.pin p hp).1) (by rw [e];exact hC)) (Qj _)
end
section
variable {X:Cx}
theorem Zp4 {K:Oz}{T:String}:Rg K (.type T) (.type T)=some true:=by
 unfold Rg
 rw [if_pos (by simp)]
theorem Zfx {K:Oz}{T U:String}{b:Bool}{l:List Value}(hm:PySem.W.kitMeta U=true)(hn:¬ T=U)(hl:fastBuiltinMro T=some l)(hb:l.contains (.type U)=b):Rg K (.type T) (.type U)=some b:=by
 unfold Rg
 rw [if_neg (by simp [hn])]
 show (if PySem.W.kitMeta U=true then PySem.W.subIn K (.type T) (.type U) else none)=some b
 rw [if_pos hm]
 show (fastBuiltinMro T).map (·.contains (.type U))=some b
 rw [hl,<- hb]
 rfl
theorem Zoi:OpR X (compareOp .LtE) (fun x y H Q=>∃ i j,x=.str i/\y=.str j/\Q (.bl (!(decide (j.cps.toList < i.cps.toList)))) H):=by
 intro pins s σ H x y v u Q I rx ry h
 obtain ⟨i,j,rfl,rfl,q⟩:=h
 obtain ⟨t,rfl⟩:=rx
 obtain ⟨t',rfl⟩:=ry
 exact PySem.P.le_str (Bq I q rfl)
theorem Zkc:OpR X (compareOp .In) (fun x y H Q=>∃(c:Nat)(j:Str),x=.str ⟨#[c]⟩/\y=.str j/\Q (.bl (decide (c∈j.cps.toList))) H):=by
 intro pins s σ H x y v u Q I rx ry h
 obtain ⟨c,j,rfl,rfl,q⟩:=h
 exact Zit pins s σ H _ _ v u Q I rx ry ⟨_,_,rfl,rfl,by rw [StrLaws.found_one];exact q⟩
noncomputable def L7:V->Option Int->Option Int->Hp->VK->Prop:=fun x lo hi H Q=>∃ z,x=.str z/\z.length<=sizeLine/\Q (.str (To z lo hi)) H
theorem sl_str:SlR X L7:=by
 intro pins s σ H x v vl vu lo hi sl Q I rx hs pl pu h
 obtain ⟨z,rfl,hz,q⟩:=h
 obtain ⟨t,rfl⟩:=rx
 obtain ⟨o,ho,hc,hd⟩:=hs
 refine ⟨"str",_,slot_str_getitem.lookup,typeIs_str _ _ _,?_⟩
 cases pl with
 | none =>
  cases pu with
  | none=>exact Tx (l:=none) (u:=none) (st:=none) ⟨_,ho,hc,hd⟩ rfl (Uj ⟨P7 (Uv z _ _) hz,fun t' k=>⟨.str (To z _ _),H,I.tok k,⟨t',rfl⟩,q⟩⟩)
  | int j u=>exact Tx (l:=none) (u:=some (j,u)) (st:=none) ⟨_,ho,hc,hd⟩ rfl (Uj ⟨P7 (Uv z _ _) hz,fun t' k=>⟨.str (To z _ _),H,I.tok k,⟨t',rfl⟩,q⟩⟩)
 | int i ti =>
  cases pu with
  | none=>exact Tx (l:=some (i,ti)) (u:=none) (st:=none) ⟨_,ho,hc,hd⟩ rfl (Uj ⟨P7 (Uv z _ _) hz,fun t' k=>⟨.str (To z _ _),H,I.tok k,⟨t',rfl⟩,q⟩⟩)
  | int j u=>exact Tx (l:=some (i,ti)) (u:=some (j,u)) (st:=none) ⟨_,ho,hc,hd⟩ rfl (Uj ⟨P7 (Uv z _ _) hz,fun t' k=>⟨.str (To z _ _),H,I.tok k,⟨t',rfl⟩,q⟩⟩)
end
noncomputable def Its (z:Str):It:=⟨fun i _=>i < z.cps.size,fun i H x H'=>H'=H/\∃ c,z.cps.toList[i]?=some c/\x=.str ⟨#[c]⟩,fun i _=>i=z.cps.size⟩
theorem Znc (z:Str):["enumerate", "zip", "dict_itemiterator", "dict_reverseitemiterator", "odict_iterator", "itertools.zip_longest", "itertools.pairwise"].contains (strIterType z)=false:=by
 unfold strIterType
 cases z.cps.all (· < 128) <;> decide
theorem Zer {P:Program}{w:World}{A:Around}(hh:A.handled=none)(it:Addr)(z:Str)(t:Tok):Walks P w A it [it] [it] z.cps.size (SignAt z) (fun i h=>h.IsStrIter it (strIterType z) z t i):=by
 unfold strIterType
 cases z.cps.all (· < 128)
 ·exact Walks.strWide hh it z t
 ·exact Walks.strAscii hh it z t
theorem Zf1 {P:Program}{w:World}{K:Oz}{tg:Expr}(it:Addr)(z:Str)(t:Tok):Ey P w K tg (Its z) [it] it (fun i h=>h.IsStrIter it (strIterType z) z t i) where
 mem:=by simp
 obj:=fun i h st b hb=>by
  have e:b=it:=by simpa using hb
  subst e
  obtain ⟨o,e,c,d⟩:=st
  exact ⟨o,e,fun v z=>by rw [d] at z;cases z⟩
 keep:=fun i h h' st k=>let ⟨o,e,r⟩:=st;⟨o,k it (by simp) o e,r⟩
 item:=by
  intro X hP hw hK hc i pins s σ H E I hf st hg
  subst hP hw hK
  obtain ⟨f0,f1,f2,f3,f4,f5⟩:=hf it (by simp)
  refine (Zer (P:=X.prog) (w:=X.w) (I.ok.hd hc) it z t).item i s _ _ hg st fun v h' tk hv st' kk=>?_
  obtain ⟨c,u,hcu,rfl⟩:=hv
  have I1:Inv X pins σ H { s with heap:=h',toks:=tk }:=I.turned (fun b o hb e=>kk b o (by simpa using hb) e) f0 f1 f3 f4 f5
  obtain ⟨o,e,cc,d⟩:=id st'
  exact ⟨_,rfl,Iv (s:={ s with heap:=h',toks:=tk }) e cc d (Znc z) ⟨.str ⟨#[c]⟩,H,I1,⟨u,rfl⟩,⟨rfl,c,by simpa using hcu,rfl⟩,st',fun b hb=>(hf b hb).1⟩⟩
 done:=by
  intro X hP hw hK hc i pins s σ H E I hf st hg
  subst hP hw hK
  obtain ⟨f0,f1,f2,f3,f4,f5⟩:=hf it (by simp)
  have hg:i=z.cps.size:=hg
  subst hg
  exact (Zer (P:=X.prog) (w:=X.w) (I.ok.hd hc) it z t).done s _ _ st fun h' tk kk=>⟨rfl,I.turned (fun b o hb e=>kk b o (by simpa using hb) e) f0 f1 f3 f4 f5⟩
 self:=fun A i s Q E st h=>by
  obtain ⟨o,e,c,d⟩:=st
  unfold strIterType at c
  cases ha:z.cps.all (· < 128)
  ·rw [ha] at c;exact wpAny_pyIter_striter_wide ⟨o,e,c,d⟩ h
  ·rw [ha] at c;exact wpAny_pyIter_striter_ascii ⟨o,e,c,d⟩ h
section
variable {X:Cx}{tg:Expr}
end
section
variable {g:TG}{tt:TT}{te:TE}{σ0:St}{H1:Hp}{D:Addr}{Q:VK}
noncomputable def Jw (g:TG)(tt:TT)(te:TE)(D:Addr)(Nx:List V->St->Hp->Prop)(x:V)(σ:St)(H:Hp):Prop :=
 g x σ H fun σ2 H3=>tt σ2 H3 fun b H4=>if b=true then te σ2 H4 fun y H5=>∃ ys,H5 D=some (.lst ys)/\ys.length < sizeLine/\(∃ zs,upd H5 D (.lst (ys++[y])) D=some (.lst zs)/\Nx zs σ2 (upd H5 D (.lst (ys++[y])))) else ∃ zs,H4 D=some (.lst zs)/\Nx zs σ2 H4
theorem Ls {lo:Int}{n:Nat}(Pv:Nat->List V->St->Hp->Prop)(h0:Pv 0 [] σ0 (upd H1 D (.lst [])))
  (hs:∀ i ys σ H,i < n->H D=some (.lst ys)->Pv i ys σ H->Jw g tt te D (Pv (i+1)) (.int (lo+i)) σ H)
  (hd:∀ ys σ H,H D=some (.lst ys)->Pv n ys σ H->Q (.ref D) H):Hn (Fe lo n) g tt te σ0 H1 D Q:=by
 refine ⟨fun i m σ H=>m=n - i/\i<=n/\∃ ys,H D=some (.lst ys)/\Pv i ys σ H,⟨n,by simp,Pp _,[],Ac,h0⟩,?_⟩
 rintro i m σ H ⟨rfl,hi,ys,hD,p⟩
 by_cases hlt:i < n
 ·refine .inr ⟨hlt,fun σ2 H2=>∃ zs,H2 D=some (.lst zs)/\Pv (i+1) zs σ2 H2,fun σ' H' p'=>⟨n - (i+1),by omega,rfl,hlt,p'⟩,fun x H' y=>?_⟩
  obtain ⟨e,y⟩:=y
  subst e y
  exact hs i ys σ _ hlt hD p
 ·have e:i=n:=by omega
  subst e
  exact .inl ⟨O2 _,hd ys σ H hD p⟩
theorem G6 {K:Oz}{a:Addr}{xs:List V}(Pv:Nat->List V->St->Hp->Prop)(h0:Pv 0 [] σ0 (upd H1 D (.lst [])))(hl:∀ i ys σ H,i<=xs.length->Pv i ys σ H->SqL K H a xs)
  (hs:∀ i x ys σ H,xs[i]?=some x->H D=some (.lst ys)->Pv i ys σ H->Jw g tt te D (Pv (i+1)) x σ H)
  (hd:∀ ys σ H,H D=some (.lst ys)->Pv xs.length ys σ H->Q (.ref D) H):Hn (Gb K a) g tt te σ0 H1 D Q:=by
 refine ⟨fun i m σ H=>m=xs.length - i/\i<=xs.length/\∃ ys,H D=some (.lst ys)/\Pv i ys σ H,⟨xs.length,by simp,Pp _,[],Ac,h0⟩,?_⟩
 rintro i m σ H ⟨rfl,hi,ys,hD,p⟩
 have q:=hl i ys σ H hi p
 by_cases hlt:i < xs.length
 ·refine .inr ⟨⟨xs,xs[i],q,by simp [hlt]⟩,fun σ2 H2=>∃ zs,H2 D=some (.lst zs)/\Pv (i+1) zs σ2 H2,fun σ' H' p'=>⟨xs.length - (i+1),by omega,rfl,hlt,p'⟩,fun x H' y=>?_⟩
  obtain ⟨e,y⟩:=y
  subst e
  exact hs i x ys σ _ (y xs q) hD p
 ·have e:i=xs.length:=by omega
  subst e
  exact .inl ⟨⟨xs,q,O2 _⟩,hd ys σ H hD p⟩
end
section
variable {X:Cx}
end
theorem Same.upd {H:Hp}{p:Addr}{o:HO}(h:H p=none):Same H (upd H p o):=fun b u e=>by rw [Ag (Aw e h)];exact e
theorem Io {H:Hp}{a:Addr}(h:H a=none)(o:HO):∃ H1,Same H H1/\H1 a=some o/\upd H a o=H1:=⟨_,Same.upd h,Ac,rfl⟩
theorem Same.put {H0 H:Hp}{p:Addr}{o:HO}(s:Same H0 H)(h:H p=none):Same H0 (L2.upd H p o):=s.trans (Same.upd h)
theorem Same.over {H0 H:Hp}{p:Addr}{o:HO}(s:Same H0 H)(h:H0 p=none):Same H0 (L2.upd H p o):=fun b u e=>by rw [Ag (Aw e h)];exact s b u e
theorem Same.tup {K:Oz}{H H':Hp}{a:Addr}{xs:List V}(e:Same H H')(h:SqT K H a xs):SqT K H' a xs:=by
 rcases h with (h | ⟨o,h⟩) | h
 ·exact .inl (.inl (e _ _ h))
 ·exact .inl (.inr ⟨o,e _ _ h⟩)
 ·exact .inr h
theorem Er {sc out:Scope}{qual:Str}{n:Nat}{f:Addr}{cd:Value}(hk:sc.kind=.function)(hc:(sc.names.all fun y=>y.2 != .cell)=true)
  (hl:(sc.names.all fun y=>y.2 != .local || sc.names.lookup y.1 == some .local)=true) (hf:(sc.names.all fun y=>y.2 != .free || out.names.lookup y.1 == some .cell)=true):Gi sc (envOfC qual out n f cd) where
 kind:=hk
 nocell:=fun y hy e=>by have:=Rr.mp hc y hy;rw [e] at this;cases this
 loc:=fun y hy e=>by
  have:=Rr.mp hl y hy
  rw [e] at this
  simpa using this
 free:=fun y hy e=>by
  have h:=Rr.mp hf y hy
  rw [e] at h
  have h:out.names.lookup y.1=some .cell:=by simpa using h
  obtain ⟨c,hc⟩:=Ni (n:=n+1) h
  show ((cellsFrom (n+1) out.names []).lookup y.1).isSome=true
  rw [hc]
  rfl
noncomputable def Dc (k:Nat)(cap:List Nat)(σ:St):St:=Qc k none++cap.map fun j=>(σ[j]?).join
theorem Zmm {X:Cx}{scope:Scope}{N:List Str}{k:Nat}{cap:List Nat}{σ:St}(hl:k+cap.length=N.length)
  (h:∀(i j:Nat)(x:Str),cap[i]?=some j->N[k+i]?=some x->X.N[j]?=some x/\scope.names.lookup x=some .free/\(X.env.kindOf x=some .cell\/X.env.kindOf x=some .free)):Fi X scope N σ (Dc k cap σ):=by
 refine ⟨by unfold Dc;simp [hl],fun i x v hx hv=>?_⟩
 unfold Dc at hv
 by_cases hi:i < k
 ·rw [Py (by simpa using hi),List.getElem?_replicate,if_pos hi] at hv
  cases hv
 ·rw [Px (by simpa using hi),List.length_replicate,Po] at hv
  cases hj:cap[i - k]? with
  | none=>rw [hj] at hv;cases hv
  | some j =>
   rw [hj] at hv
   have hv:(σ[j]?).join=some v:=Pg hv
   obtain ⟨h1,h2,h3⟩:=h (i - k) j x hj (by rw [show k+(i - k)=i by omega];exact hx)
   refine ⟨j,h1,?_,h2,h3⟩
   cases e:σ[j]? with
   | none=>rw [e] at hv;cases hv
   | some o=>rw [e] at hv;exact congrArg some hv
theorem Es {X:Cx}{scope:Scope}{N:List Str}{k:Nat}{cap:List Nat}(hl:k+cap.length=N.length)
  (h:((cap.zip (N.drop k)).all fun p=>X.N[p.1]? == some p.2 && scope.names.lookup p.2 == some .free && (X.env.kindOf p.2 == some .cell || X.env.kindOf p.2 == some .free))=true):∀ σ,σ.length=X.N.length->Fi X scope N σ (Dc k cap σ):=fun σ _ =>
 Zmm hl fun i j x hj hx=>by
  have m:(j,x)∈cap.zip (N.drop k):=by
   refine Qb (i:=i) ?_
   rw [List.getElem?_zip_eq_some]
   exact ⟨hj,by rw [List.getElem?_drop];exact hx⟩
  have:=Rr.mp h _ m
  simp only [Q4,Bool.or_eq_true,beq_iff_eq] at this
  exact ⟨this.1.1,this.1.2,this.2⟩
theorem E5 {α:Type}{xs:List α}{i:Int}(h0:0<=i)(h1:i < xs.length):∃ v,B2 xs i=some v/\v∈xs:=by
 have hj:i.toNat < xs.length:=by omega
 refine ⟨xs[i.toNat],?_,Q5 hj⟩
 have:=Dp (xs:=xs) (j:=i.toNat) (v:=xs[i.toNat]) (by simp [hj])
 rwa [Int.toNat_of_nonneg h0] at this
noncomputable def Nn:Expr->Option V
 | .Constant (.str x) _ _=>some (.str x)
 | .Constant (.int i) _ _=>some (.int i)
 | .Constant (.bool b) _ _=>some (.bl b)
 | .Constant .none _ _=>some .non
 | _=>none
noncomputable def Ju:List Expr->Option (List V)
 | []=>some []
 | e::es=>match Nn e,Ju es with
  | some v,some vs=>some (v::vs)
  | _,_=>none
noncomputable def Mv (xs:List V):TA:=fun _ H Q=>Q xs H
theorem Zon {X:Cx}{e:Expr}{v:V}(h:Nn e=some v):PE X e (tC v)/\∀ es,starEach (e::es) X.env=(false,eval e X.env)::starEach es X.env:=by
 unfold Nn at h
 split at h
 ·cases h;exact ⟨Zbu,fun _=>rfl⟩
 ·cases h;exact ⟨Zcu,fun _=>rfl⟩
 ·cases h;exact ⟨Zbn,fun _=>rfl⟩
 ·cases h;exact ⟨Ze6,fun _=>rfl⟩
 ·cases h
theorem Zbp {X:Cx}:∀{es:List Expr}{xs:List V},Ju es=some xs->PA X es (Mv xs)
 | [],xs,h=>by
  have h:some []=some xs:=h
  cases h
  exact Zbw
 | e::es,xs,h=>by
  unfold Ju at h
  split at h
  ·rename_i v vs h1 h2
   cases h
   obtain ⟨p,hs⟩:=Zon (X:=X) h1
   exact Zd7 p (Zbp h2) (hs es)
  ·cases h
structure A9 (P:Program)(w:World)(K:Oz)(mg:Str->Option Value)(base:Heap)(k:Nat)(x:Str)(ps:List Str)(sp:Sp):Prop where
 ex:∃(f:Addr)(fd:FuncData),Bc P w K mg base Be k f fd ps sp/\mg x=some (.ref f)/\Tc K (.ref f)=true/\Binds K fd ps []
section
variable {X:Cx}{k:Nat}{x:Str}{ps:List Str}{sp:Sp}{p pos:Pos}{e:Expr}{es:List Expr}{t:TA}
theorem Znm (C:A9 X.prog X.w X.K X.mg X.base k x ps sp)(hr:Room k X.A)(ha:PA X (e::es) t)(hg:Gl X x:=by rfl)(hdb:(x == ("__debug__" : Str))=false:=by decide)
  (he:starEach (e::es) X.env=(false,eval e X.env)::starEach es X.env:=by rfl) (hpl:(backTo pos (starEach es X.env)).any (·.1)=false:=by rfl):PE X (.Call (.Name x p) (e::es) [] pos) (Ld sp [] E0 t):=by
 obtain ⟨f,fd,F,hm,hk,hb⟩:=C.ex
 exact Zh5 F hr hg hm hk hb .nil Zg3 ha hdb he hpl
end
end L2
namespace L2
open PySem
theorem Zl3 {x:V}{u:Value}(h:K2 u=some x):RelV x u:=by
 cases u <;> simp only [K2] at h <;> first | (cases h;first | rfl | exact ⟨_,rfl⟩) | cases h
noncomputable def G8:List Value->Option (List V)
 | []=>some []
 | u::r=>match K2 u,G8 r with
  | some x,some xs=>some (x::xs)
  | _,_=>none
theorem Zdh:∀{us:List Value}{xs:List V},G8 us=some xs->Vals xs us
 | [],xs,h=>by
  have h:some []=some xs:=h
  cases h
  exact .nil
 | u::r,xs,h=>by
  unfold G8 at h
  split at h
  ·rename_i x ys h1 h2
   cases h
   exact .cons (Zl3 h1) (Zdh h2)
  ·cases h
theorem Zfq {K:Oz}{a:Addr}{od:Option Addr}{its:Array Value}{n:Nat}{sl:Array (Option Value)}{xs:List V}(l:K.lookup a=some ⟨.type "tuple",od,.seq its n,sl⟩)(h:G8 its.toList=some xs)(hz:xs.length<=1000):∀ H,SqT K H a xs:=fun H=>by
 have v:=Zdh h
 refine .inr ⟨_,its,n,l,rfl,rfl,?_,v⟩
 have e:=v.length
 have b:1000<=sizeLine:=by decide
 have e2:its.toList.length=its.size:=R6
 omega
theorem Lr {P:Program}{w:World}{K:Oz}{mg:Str->Option Value}{base:Heap}{k:Nat}{x:Str}{ps:List Str}{sp:Sp}{f:Addr}{fd:FuncData}(F:Bc P w K mg base Be k f fd ps sp)(m:mg x=some (.ref f))(kp:Tc K (.ref f)=true)(b:Binds K fd ps []):A9 P w K mg base k x ps sp:=⟨f,fd,F,m,kp,b⟩
section
variable {P:Program}{w:World}{K:Oz}{mg:Str->Option Value}{base:Heap}
end
end L2
set_option autoImplicit true
namespace L2
open PySem PySem.Spec PyProof.Rows
structure QE (X:Cx)(e:Expr)(t:TE):Prop where
 run:PE X e t
structure QT (X:Cx)(e:Expr)(t:TT):Prop where
 run:PT X e t
structure QW (X:Cx)(e:Expr)(t:TT):Prop where
 run:PW X e t
structure QA (X:Cx)(es:List Expr)(t:TA):Prop where
 run:PA X es t
structure QS (X:Cx)(st:Stmt)(t:TS):Prop where
 run:PS X st t
structure Ex (X:Cx)(sts:List Stmt)(t:TS):Prop where
 run:PSs X sts t
structure QG (X:Cx)(e:Expr)(g:TG):Prop where
 run:PG X e g
structure QGs (X:Cx)(es:List Expr)(g:Dw):Prop where
 run:PGs X es g
structure QI (X:Cx)(tg iter:Expr)(wi:TI):Prop where
 run:PI X tg iter wi
structure QC (X:Cx)(op:CmpOp)(a b:Expr)(t:TE):Prop where
 run:PC X op a b t
structure QO (X:Cx)(e:Option Expr)(t:TO):Prop where
 run:PO X e t
structure QTs (X:Cx)(ifs:List Expr)(t:TT):Prop where
 run:Gm X ifs t
theorem Ah {i j pos}:QE X (.Constant (.int i) j pos) (tC (.int i)):=⟨Zcu⟩
theorem Ed {b j pos}:QE X (.Constant (.bool b) j pos) (tC (.bl b)):=⟨Zbn⟩
theorem Fo {j pos}:QE X (.Constant .none j pos) (tC .non):=⟨Ze6⟩
theorem Aq {x j pos}:QE X (.Constant (.str x) j pos) (tC (.str x)):=⟨Zbu⟩
theorem Zeb {x:Str}{v:V}{u:Value}{pos:Pos}(hg:Gl X x)(hm:X.mg x=none)(hv:bootBuiltins x=some u)(r:RelV v u)(hn:x ≠ "__name__" := by decide)(hd:(x == ("__debug__" : Str))=false:=by decide):QE X (.Name x pos) (tC v):=⟨Zox hg hm hv r hn hd⟩
theorem A6 {op:Operator}{r:R2}(ho:OpR X (binaryOp op) r)(ha:QE X a ta)(hb:QE X b tb):QE X (.BinOp a op b pos) (Eu r ta tb):=⟨Zju ho ha.run hb.run⟩
theorem Il {op:UnaryOp}{r:V->Hp->VK->Prop}(ho:UnR X (unaryOp op) r)(ha:QE X a ta):QE X (.UnaryOp op a pos) (tUn r ta):=⟨Zj5 ho ha.run⟩
theorem Zk2 {op:CmpOp}{t:TE}(h:QC X op a b t)(h1:behindInMarks op b=false:=by first | exact Kp _ (by decide) (by decide) | rfl):QE X (.Compare a [op] [b] pos) t:=⟨Zgq h.run h1⟩
theorem Hd {op:CmpOp}{t:TE}(h:QC X op a b t)(h1:behindInMarks op b=false:=by first | exact Kp _ (by decide) (by decide) | rfl):QT X (.Compare a [op] [b] pos) (tB t):=⟨Zmh h.run h1⟩
theorem Jo {op:CmpOp}{r:R2}(ho:OpR X (compareOp op) r)(ha:QE X a ta)(hb:QE X b tb)(hm:behindInMarks op b=false):QE X (.Compare a [op] [b] pos) (Eu r ta tb):=⟨Zp0 ho ha.run hb.run hm⟩
theorem Az {op:CmpOp}{r:R2}(ho:OpR X (compareOp op) r)(ha:QE X a ta)(hb:QE X b tb)(hm:behindInMarks op b=false):QT X (.Compare a [op] [b] pos) (Na (Eu r ta tb)):=⟨Zop ho ha.run hb.run hm⟩
theorem Zmy {op op':CmpOp}{r r':R2}(ho:OpR X (compareOp op) r)(ho':OpR X (compareOp op') r')(ha:QE X a ta)(hb:QE X b tb)(hc:QE X c tc)(hm:lastMarks [op,op'] [b,c]=false:=by with_unfolding_all rfl):QE X (.Compare a [op,op'] [b,c] pos) (L4 r r' ta tb tc):=⟨Zf5 ho ho' ha.run hb.run hc.run hm⟩
theorem Ki {e:Expr}{t:TE}(h:QE X e t)(he:∀ whole,isTrue e X.env whole=(do let v <- whole;standAt e.pos;holding [v] (truthy v)):=by intro _;rfl):QT X e (tB t):=⟨Zim h.run he⟩
theorem F2 (ha:QT X a tA):QW X (.BoolOp .And [a] pos) tA:=⟨pw_and1 ha.run⟩
theorem Zdf (ha:QT X a tA):QW X (.BoolOp .Or [a] pos) tA:=⟨pw_or1 ha.run⟩
theorem F6 {rest:List Expr}(ha:QT X a tA)(hb:QW X (.BoolOp .And (b::rest) pos) tB'):QW X (.BoolOp .And (a::b::rest) pos) (Lq tA tB'):=⟨pw_and ha.run hb.run⟩
theorem Zbf {rest:List Expr}(ha:QT X a tA)(hb:QW X (.BoolOp .Or (b::rest) pos) tB'):QW X (.BoolOp .Or (a::b::rest) pos) (tOr tA tB'):=⟨pw_or ha.run hb.run⟩
theorem Li (ha:QT X a tA):QT X (.UnaryOp .Not a pos) (Ox tA):=⟨Znv ha.run⟩
theorem Oq {op}{t:TE}(h:QE X a t):QE X (.BoolOp op [a] pos) t:=⟨Zgk h.run⟩
theorem L9 {rest:List Expr}(ha:QE X a ta)(hb:QE X (.BoolOp .And (b::rest) pos) tb):QE X (.BoolOp .And (a::b::rest) pos) (Ng ta tb):=⟨Zl0 ha.run hb.run⟩
theorem Zla (ha:QE X a ta):QE X (.UnaryOp .Not a pos) (N2 ta):=⟨Zmv ha.run⟩
theorem K6 {c:Expr}(hc:QT X c tA)(ha:QE X a ta)(hb:QE X b tb):QE X (.IfExp c a b pos) (tIf tA ta tb):=⟨Znn hc.run ha.run hb.run⟩
theorem A8  : Ex X [] Nm:=⟨Zjf⟩
theorem Af {st:Stmt}{rest:List Stmt}{t u:TS}(h1:QS X st t)(h2:Ex X rest u):Ex X (st::rest) (Mh t u):=⟨Zpx h1.run h2.run⟩
theorem Ai {st:Stmt}{t:TS}(h1:QS X st t):Ex X [st] t:=⟨Zoy h1.run⟩
theorem Zda  : QS X (.Continue pos) Zfm:=⟨Zqb⟩
theorem Cp {e:Expr}{te:TE}(he:QE X e te)(hs:swapsWith e none pos.line X.env=pure false:=by rfl):QS X (.Expr e pos) (Mj te):=⟨Zp9 he.run hs⟩
theorem Ar {e:Expr}{te:TE}(he:QE X e te):QS X (.Return (some e) pos) (Md te):=⟨Zjm he.run⟩
theorem A7 {t u:TS}{c:Expr}{a b:List Stmt}{tc:TT}(hc:QT X c tc)(ha:Ex X a t)(hb:Ex X b u):QS X (.If c a b pos) (G3 tc t u):=⟨Zga hc.run ha.run hb.run⟩
theorem Ct  : QGs X [] Nv:=⟨Zoe⟩
theorem Bm {e:Expr}{es:List Expr}{t:TG}{u:Dw}(h1:QG X e t)(h2:QGs X es u)(hs:(assignEach (e::es) X.env).map (·.2)=assign e X.env::(assignEach es X.env).map (·.2):=by rfl):QGs X (e::es) (N0 t u):=⟨Zpq h1.run h2.run hs⟩
theorem A4 {i:Nat}{x:Str}(hN:X.N.Nodup)(hi:X.N[i]?=some x)(hx:Eh X.env.scope x)(hf:X.fn x=true\/X.env.scope.names.lookup x=some .local:=by first | exact .inl rfl | exact .inr rfl | assumption):QG X (.Name x pos) (Fj i):=⟨Zll hN hi hx hf⟩
theorem Zgf {es:List Expr}{k:Nat}{t:Dw}{n:Nat}(hc:X.calm=true)(h:QGs X es t)(hn:(assignEach es X.env).length=n:=by rfl)(hst:(assignEach es X.env).findIdx? (·.1)=none:=by rfl):QG X (.Tuple es k pos) (Kr X.K n t):=⟨Zhi hc h.run hn hst⟩
theorem Zps {o i:Expr}{to ti:TE}{t:Hh}(ho:QE X o to)(hi:QE X i ti)(hs:N4 X t)(ha:∀ v,assign (.Subscript o i pos) X.env v=(do
   let ov <- holding [v] (eval o X.env)
   let iv <- holding [v,ov] (eval i X.env)
   standAt pos
   holding [v,ov,iv] (setItem ov iv v)
   release [v,ov,iv] []):=by intro _;rfl):QG X (.Subscript o i pos) (M7 to ti t):=⟨Zkf ho.run hi.run hs ha⟩
theorem Ga {tg e:Expr}{te:TE}{g:TG}(he:QE X e te)(hg:QG X tg g)(hs:swapsWithSole [tg] e pos.line X.env=pure false:=by rfl)(hw:swappedStores [tg] e X.env=pure none:=by rfl)(h1:(assignEach [tg] X.env).map (·.2)=[assign tg X.env]:=by rfl):QS X (.Assign [tg] e pos) (Fg te g):=⟨Zkh he.run hg.run hs hw h1⟩
theorem G0 {i:Nat}{x:Str}{e:Expr}{te:TE}{pos':Pos}(hN:X.N.Nodup)(hi:X.N[i]?=some x)(hx:Eh X.env.scope x)(he:QE X e te)(hs:swapsWith e (some (.Name x pos')) pos.line X.env=pure false:=by rfl)(hf:X.fn x=true\/X.env.scope.names.lookup x=some .local:=by first | exact .inl rfl | exact .inr rfl | assumption):QS X (.Assign [.Name x pos'] e pos) (Fg te (Fj i)):=⟨Znq hN hi hx he.run hs hf⟩
theorem Zid {i:Nat}{x:Str}{e:Expr}{te:TE}{op:Operator}{ti:Gx}{pos':Pos}(hN:X.N.Nodup)(hi:X.N[i]?=some x)(hx:Eh X.env.scope x)(he:QE X e te)(ho:PIp X op ti)(hf:X.fn x=true\/X.env.scope.names.lookup x=some .local:=by first | exact .inl rfl | exact .inr rfl | assumption):QS X (.AugAssign (.Name x pos') op e pos) (M6 i te ti):=⟨Zh6 hN hi hx he.run ho hf⟩
theorem Hw {c:Expr}{body:List Stmt}{tc:TT}{tb:TS}(hp:PassesOwn (model X.prog X.w) X.A X.env X.xe)(hc:QT X c tc)(hb:Ex X body tb):QS X (.While c body [] pos) (Zdm tc tb):=⟨Zm5 hp hc.run hb.run⟩
theorem Gj {a:Expr}{ta:TA}{p pos:Pos}(hg:Gl X "range")(hm:X.mg "range" = none)(ha:QA X [a] ta)(hs:starEach [a] X.env=[(false,eval a X.env)]:=by rfl):QI X tg (.Call (.Name "range" p) [a] [] pos) (Zab ta):=⟨Zig hg hm ha.run hs⟩
theorem Co {iter:Expr}{body:List Stmt}{wi:TI}{g:TG}{tb:TS}{pos:Pos}(hp:PassesOwn (model X.prog X.w) X.A X.env X.xe)(hc:X.calm=true)(hi:QI X tg iter wi)(hg:QG X tg g)(hb:Ex X body tb)(hs:∀ x,foldedSetIterable iter X.env x=pure x:=by intro _;rfl):QS X (.For tg iter body [] pos) (M3 wi g tb):=⟨Zgg hp hc hi.run hg.run hb.run hs⟩
theorem Ab  : QA X [] Om:=⟨Zbw⟩
theorem Aa (ha:QE X e te)(hr:QA X es t)(hs:starEach (e::es) X.env=(false,eval e X.env)::starEach es X.env:=by rfl):QA X (e::es) (Zaa te t):=⟨Zd7 ha.run hr.run hs⟩
theorem Ao {x1}(h:QA X es t):QE X (.Tuple es x1 pos) (Ot t):=⟨Zpn h.run⟩
theorem Ax (h:QA X es t):QE X (.List es pos) (Zaj t):=⟨Zm2 h.run⟩
theorem Ba (C:A9 X.prog X.w X.K X.mg X.base k x ps sp)(hr:Room k X.A)(ha:QA X (e::es) t)(hg:Gl X x:=by rfl)(hdb:(x == ("__debug__" : Str))=false:=by decide)(he:starEach (e::es) X.env=(false,eval e X.env)::starEach es X.env:=by rfl)(hpl:(backTo pos (starEach es X.env)).any (·.1)=false:=by rfl):QE X (.Call (.Name x p) (e::es) [] pos) (Ld sp [] E0 t):=⟨Znm C hr ha.run hg hdb he hpl⟩
theorem Cs {id:String}(hc:B9 X (.builtin id) r)(hg:Gl X x)(hm:X.mg x=none)(hv:bootBuiltins x=some (.builtin id))(ha:QA X (e::es) t)(hn:x ≠ "__name__" := by decide)(hdb:(x == ("__debug__" : Str))=false:=by decide)(he:starEach (e::es) X.env=(false,eval e X.env)::starEach es X.env:=by rfl)(hpl:(backTo pos (starEach es X.env)).any (·.1)=false:=by rfl):QE X (.Call (.Name x p) (e::es) [] pos) (tCB r t):=⟨Ziz hc hg hm hv ha.run hn hdb he hpl⟩
theorem F4 {T:String}(hc:B9 X (.type T) r)(hg:Gl X x)(hm:X.mg x=none)(hv:bootBuiltins x=some (.type T))(ha:QA X (e::es) t)(hn:x ≠ "__name__" := by decide)(hdb:(x == ("__debug__" : Str))=false:=by decide)(he:starEach (e::es) X.env=(false,eval e X.env)::starEach es X.env:=by rfl)(hpl:(backTo pos (starEach es X.env)).any (·.1)=false:=by rfl):QE X (.Call (.Name x p) (e::es) [] pos) (tCB r t):=⟨Zf3 hc hg hm hv ha.run hn hdb he hpl⟩
theorem Fx  : QO X none Ny:=⟨Zgo⟩
theorem Eb (h:QE X e te):QO X (some e) (Mp te):=⟨Zko h.run⟩
theorem Fb {lo hi:Option Expr}{r:V->Option Int->Option Int->Hp->VK->Prop}(hr:SlR X r)(he:QE X e te)(hl:QO X lo tl)(hu:QO X hi th):QE X (.Subscript e (.Slice lo hi none p2) pos) (tSl r te tl th):=⟨Zix hr he.run hl.run hu.run⟩
theorem Zpe {r:R2}(hr:IxR X r)(ha:QE X a ta)(hb:QE X b tb)(hs:Mk b):QE X (.Subscript a b pos) (Eu r ta tb):=⟨Znk hr ha.run hb.run hs⟩
theorem Zk5 {T id:String}(pa:PlainAttrs T)(slot:Slot T name id)(hty:typeOf (.builtin id)=pure (.type "method_descriptor"))(hm:Gp X id r)(ho:QE X o to)(ha:QA X (e::es) t)(hbase:attributeBase o name X.env (eval o X.env)=eval o X.env:=by rfl)(hfew:((backTo cpos (starEach (e::es) X.env)).all (fun x=>!x.1) && (backToKw cpos (keywordEach [] X.env)).all (fun x=>x.1.isSome)
   && decide ((e::es).length+([]:List Keyword).length+(if ([]:List Keyword).isEmpty then 0 else 1) < 30))=true:=by rfl) (hline:(apos.endLine == cpos.line)=true:=by rfl) (hs:starEach (e::es) X.env=(false,eval e X.env)::starEach es X.env:=by rfl) (hplain:(backTo cpos (starEach es X.env)).any (·.1)=false:=by rfl):QE X (.Call (.Attribute o name apos) (e::es) [] cpos) (tBM X.K T r to t):=⟨Zo1 pa slot hty hm ho.run ha.run hbase hfew hline hs hplain⟩
theorem Zis {T id:String}(pa:PlainAttrs T)(slot:Slot T name id)(hty:typeOf (.builtin id)=pure (.type "method_descriptor"))(hm:Gp X id r)(ho:QE X o to)(hbase:attributeBase o name X.env (eval o X.env)=eval o X.env:=by rfl)(hline:(apos.endLine == cpos.line)=true:=by rfl):QE X (.Call (.Attribute o name apos) [] [] cpos) (Jx X.K T r to):=⟨Zk0 pa slot hty hm ho.run hbase hline⟩
theorem Gc (hc:X.calm=true)(S:Gi scope X.env)(hi:QI X target iter wi)(T:∀ σ,σ.length=X.N.length->Fi X scope N σ (σ0 σ))(hg:∀ C s H fp,QG (Cf X scope C N s H fp) target g)(ht:∀ C s H fp,QTs (Cf X scope C N s H fp) ifs tt)(he:∀ C s H fp,QE (Cf X scope C N s H fp) elt te)(hs:∀ x,foldedSetIterable iter X.env x=pure x:=by intro _;rfl):QE X (.ListComp elt [⟨target,iter,ifs,0⟩] scope pos) (Ja wi σ0 g tt te):=⟨Zf6 hc S hi.run T (fun C s H fp=>(hg C s H fp).run) (fun C s H fp=>(ht C s H fp).run) (fun C s H fp=>(he C s H fp).run) hs⟩
theorem Lu {i:Nat}{y:Str}{py spos:Pos}(hc:X.calm=true)(S:Gi scope X.env)(hi:QI X target iter wi)(T:∀ σ,σ.length=X.N.length->Fi X scope N σ (σ0 σ))(hg:∀ C s H fp,QG (Cf X scope C N s H fp) target g)(ht:∀ C s H fp,QTs (Cf X scope C N s H fp) ifs tt)(he:∀ C s H fp,QE (Cf X scope C N s H fp) elt te)(hN:X.N.Nodup)(hy:X.N[i]?=some y)(hx:Eh X.env.scope y)(hsw:swapsWith (.ListComp elt [⟨target,iter,ifs,0⟩] scope pos) (some (.Name y py)) spos.line X.env=pure true:=by rfl)(hf:X.fn y=true\/X.env.scope.names.lookup y=some .local:=by first | exact .inl rfl | exact .inr rfl | assumption)(hs:∀ x,foldedSetIterable iter X.env x=pure x:=by intro _;rfl):QS X (.Assign [.Name y py] (.ListComp elt [⟨target,iter,ifs,0⟩] scope pos) spos) (Fg (Ja wi σ0 g tt te) (Fj i)):=⟨Zom hc S hi.run T (fun C s H fp=>(hg C s H fp).run) (fun C s H fp=>(ht C s H fp).run) (fun C s H fp=>(he C s H fp).run) hN hy hx hsw hf hs⟩
theorem Gf {X:Cx}:QTs X [] Zah:=⟨Zi6⟩
theorem Zad {X:Cx}{c:Expr}{t:TT}(h:QT X c t):QTs X [c] t:=⟨Zkz h.run⟩
theorem Zeq {j pos'}(ha:QE X a ta):QC X .Is a (.Constant .none j pos') (My ta):=⟨Zp3 ha.run⟩
theorem Zkb {j pos'}(ha:QE X a ta):QC X .IsNot a (.Constant .none j pos') (Ov ta):=⟨Zn9 ha.run⟩
theorem Js {X:Cx}{es:List Expr}{xs:List V}(h:Ju es=some xs):QA X es (Mv xs):=⟨Zbp h⟩
theorem qv {X:Cx}(i:Nat){x:Str}{pos:Pos}(hN:X.N[i]?=some x:=by rfl)(hv:Vis X.env.scope x:=by first | exact Or.inl rfl | exact Or.inr (Or.inl rfl) | exact Or.inr (Or.inr rfl))(hd:(x == ("__debug__" : Str))=false:=by decide)
  (hcd:(x == ("__classdict__" : Str))=false:=by decide):QE X (.Name x pos) (Ms i):=⟨Zgh hN hv hd hcd⟩
theorem QW.qt {X:Cx}{e:Expr}{t:TT}(h:QW X e t):QT X e t:=⟨h.run.pt⟩
section
variable {P:Program}{w:World}{K:Oz}{mg:Str->Option Value}{base:Heap}
theorem Fun.okq {x qual:Str}{st:Stmt}{f:Addr}{fd:FuncData}{N ps:List Str}{k:Nat}{sp:Sp}(F:Fun K x qual st f fd)(S:Bo N ps (Bg st))(len:∀ vs H Q E,sp vs H Q E->vs.length=ps.length)
  (hbody:∀(cdv:Value)(A:Around)(outer:List Env)(s:Shared)(H:Hp)(vs:List V)(Q:VK)(E:XK),Room k (A.deeper (envOfC qual (Bg st) s.heap.objs.size f cdv))->sp vs H Q E ->
   ∃ t,Ex (Fw Be P w K mg base N qual (Bg st) f cdv A outer s H E).nox (Ez st) t/\t { nx:=fun _ H'=>Q .non H',rt:=Q } (start N vs) H):Bc P w K mg base Be (k+1) f fd ps sp :=
 F.ok S len fun cdv A outer s H vs Q E hr h=>by
  obtain ⟨t,q,r⟩:=hbody cdv A outer s H vs Q E hr h
  exact ⟨t,q.run,r⟩
end
section
variable {X:Cx}
noncomputable def Zir:R2:=fun x y H Q=>∃ i j,x=.str i/\y=.str j/\i.length+j.length<=sizeLine/\Q (.str (i++j)) H
noncomputable def Zal (K:Oz):R2:=fun x y H Q=>∃ a b xs ys,x=.ref a/\y=.ref b/\SqT K H a xs/\SqT K H b ys/\xs.length+ys.length<=sizeLine /\
 ∀ r H',Same H H'->SqT K H' r (xs++ys)->Q (.ref r) H'
theorem Zm0:OpR X (binaryOp .Add) (Zal X.K):=by
 intro pins s σ H x y v u Q I rx ry h
 obtain ⟨a,b,xs,ys,rfl,rfl,ha,hb,hz,q⟩:=h
 by_cases hx:xs=[]
 ·subst hx
  cases rx
  cases ry
  obtain ⟨its,r1,p1,_⟩:=I.tuple ha
  obtain ⟨its2,r2,p2,_⟩:=I.tuple hb
  cases r1
  obtain ⟨⟨cls,dd,data,sl⟩,ho,hc,n,hd⟩:=id p1
  obtain ⟨⟨cls2,dd2,data2,sl2⟩,ho2,hc2,n2,hd2⟩:=id p2
  simp only at hc hd hc2 hd2
  subst hc hd hc2 hd2
  exact Ut ⟨_,ho,rfl⟩ ⟨_,ho2,rfl⟩ Uc Uo T0 Tw (Tu _ _)
   (tuple_addW0 a b _ _ n n2 dd dd2 sl sl2 (by simp)) ⟨ho,ho2,⟨.ref b,H,I,rfl,q b H (Same.refl H) hb⟩⟩
 ·refine Zca pins s σ H _ _ v u Q I rx ry ⟨a,b,xs,ys,rfl,rfl,ha,hb,hx,hz,fun e=>?_,fun _ p hp=>q p _ (fun c o e=>by rw [Ag (Aw e hp)];exact e) (.inl (.inl Ac))⟩
  subst e
  exact q a H (Same.refl H) (by rw [Pw];exact ha)
noncomputable def F9 (K:Oz):R2:=fun x y H Q=>Ec (fun i j=>.int (i+j)) x y H Q\/Zir x y H Q\/rCat x y H Q\/Zal K x y H Q
theorem op_addA:OpR X (binaryOp .Add) (F9 X.K):=op_add.or (op_add_str.or (op_cat.or Zm0))
theorem s_add_int {K:Oz}{i j:Int}{H:Hp}{Q:VK}(h:Q (.int (i+j)) H):F9 K (.int i) (.int j) H Q:=.inl ⟨i,j,rfl,rfl,h⟩
theorem Zct {K:Oz}{i j:Str}{H:Hp}{Q:VK}(hl:i.length+j.length<=sizeLine)(h:Q (.str (i++j)) H):F9 K (.str i) (.str j) H Q:=.inr (.inl ⟨i,j,rfl,rfl,hl,h⟩)
theorem Kj {K:Oz}{a b:Addr}{xs ys:List V}{H:Hp}{Q:VK}(ha:H a=some (.lst xs))(hb:H b=some (.lst ys))(hz:xs.length+ys.length<=sizeLine)(h:∀ p,H p=none->Q (.ref p) (upd H p (.lst (xs++ys)))):F9 K (.ref a) (.ref b) H Q:=.inr (.inr (.inl ⟨a,b,xs,ys,rfl,rfl,ha,hb,hz,h⟩))
theorem Zgr {K:Oz}{a b:Addr}{xs ys:List V}{H:Hp}{Q:VK}(ha:SqT K H a xs)(hb:SqT K H b ys)(hz:xs.length+ys.length<=sizeLine)(h:∀ r H',Same H H'->SqT K H' r (xs++ys)->Q (.ref r) H'):F9 K (.ref a) (.ref b) H Q:=.inr (.inr (.inr ⟨a,b,xs,ys,rfl,rfl,ha,hb,hz,h⟩))
noncomputable def Of:R2:=fun x y H Q=>rI CMul (fun i j=>.int (i * j)) x y H Q\/rRep x y H Q
theorem Ha:OpR X (binaryOp .Mult) Of:=op_mul.or Zf9
theorem s_mul_l {i j:Int}{H:Hp}{Q:VK}(h1:-(2 ^ 64) < i)(h2:i < 2 ^ 64)(h:Q (.int (i * j)) H):Of (.int i) (.int j) H Q:=.inl ⟨i,j,rfl,rfl,.inl ⟨h1,h2⟩,h⟩
theorem s_mul_r {i j:Int}{H:Hp}{Q:VK}(h1:-(2 ^ 64) < j)(h2:j < 2 ^ 64)(h:Q (.int (i * j)) H):Of (.int i) (.int j) H Q:=.inl ⟨i,j,rfl,rfl,.inr ⟨h1,h2⟩,h⟩
theorem s_rI {C:Int->Int->Prop}{g:Int->Int->V}{i j:Int}{H:Hp}{Q:VK}(hc:C i j)(h:Q (g i j) H):rI C g (.int i) (.int j) H Q:=⟨i,j,rfl,rfl,hc,h⟩
theorem s_rI0 {g:Int->Int->V}{i j:Int}{H:Hp}{Q:VK}(h:Q (g i j) H):Ec g (.int i) (.int j) H Q:=⟨i,j,rfl,rfl,h⟩
theorem s_rU {g:Int->V}{i:Int}{H:Hp}{Q:VK}(h:Q (g i) H):rU g (.int i) H Q:=⟨i,rfl,h⟩
noncomputable def rLtA:R2:=fun x y H Q=>Ec (fun i j=>.bl (decide (i < j))) x y H Q\/∃ i j,x=.str i/\y=.str j/\Q (.bl (decide (i.cps.toList < j.cps.toList))) H
theorem Jd:OpR X (compareOp .Lt) rLtA:=op_lt.or Ziq
noncomputable def rLeA:R2:=fun x y H Q=>Ec (fun i j=>.bl (decide (i<=j))) x y H Q\/∃ i j,x=.str i/\y=.str j/\Q (.bl (!(decide (j.cps.toList < i.cps.toList)))) H
theorem Zhy:OpR X (compareOp .LtE) rLeA:=op_le.or Zoi
theorem s_lt {i j:Int}{H:Hp}{Q:VK}(h:Q (.bl (decide (i < j))) H):rLtA (.int i) (.int j) H Q:=.inl ⟨i,j,rfl,rfl,h⟩
theorem s_le {i j:Int}{H:Hp}{Q:VK}(h:Q (.bl (decide (i<=j))) H):rLeA (.int i) (.int j) H Q:=.inl ⟨i,j,rfl,rfl,h⟩
noncomputable def rInS (neg:Bool):R2:=fun x y H Q=>∃(c:Nat)(j:Str),x=.str ⟨#[c]⟩/\y=.str j/\Q (.bl (if neg then !decide (c∈j.cps.toList) else decide (c∈j.cps.toList))) H
theorem Zn5:OpR X (compareOp .In) (rInS false):=Zkc
noncomputable def M4 (K:Oz)(neg:Bool):R2:=fun x y H Q=>rIn K neg x y H Q\/rInS neg x y H Q
theorem Zkw:OpR X (compareOp .In) (M4 X.K false):=op_in_seq.or Zn5
theorem Em {K:Oz}{neg:Bool}{x:V}{p:Addr}{xs:List V}{H:Hp}{Q:VK}(hq:SqL K H p xs\/SqT K H p xs)(hx:Cz x=true)(hxs:xs.all Cz=true)(h:Q (.bl (if neg then !B1 x xs else B1 x xs)) H):M4 K neg x (.ref p) H Q:=.inl ⟨p,xs,rfl,hq,hx,hxs,h⟩
noncomputable def Mu (K:Oz):V->Option Int->Option Int->Hp->VK->Prop:=fun x lo hi H Q=>Og K x lo hi H Q\/L7 x lo hi H Q\/rSlT K x lo hi H Q
theorem Zoo:SlR X (Mu X.K):=sl_list.or (sl_str.or Zb9)
theorem Nl {K:Oz}{a:Addr}{xs:List V}{lo hi:Option Int}{H:Hp}{Q:VK}(ha:SqL K H a xs)(h:∀ p,H p=none->Q (.ref p) (upd H p (.lst (Bz xs lo hi)))):Mu K (.ref a) lo hi H Q:=.inl ⟨a,xs,rfl,ha,h⟩
theorem Bj {K:Oz}{a:Addr}{xs:List V}{i:Int}{v:V}{H:Hp}{Q:VK}(ha:SqL K H a xs)(hv:B2 xs i=some v)(h:Q v H):Fk K (.ref a) (.int i) H Q:=.inl ⟨a,xs,i,v,rfl,rfl,ha,hv,h⟩
theorem Au {K:Oz}{a:Addr}{xs:List V}{i:Int}{v:V}{H:Hp}{Q:VK}(ha:SqT K H a xs)(hv:B2 xs i=some v)(h:Q v H):Fk K (.ref a) (.int i) H Q:=.inr (.inl ⟨a,xs,i,v,rfl,rfl,ha,hv,h⟩)
theorem Zlt {K:Oz}{z:Str}{i:Int}{c:Nat}{H:Hp}{Q:VK}(hl:z.length<=sizeLine)(hv:B2 z.cps.toList i=some c)(h:Q (.str ⟨#[c]⟩) H):Fk K (.str z) (.int i) H Q:=.inr (.inr ⟨z,i,c,rfl,rfl,hl,hv,h⟩)
noncomputable def Ko (K:Oz):List V->Hp->VK->Prop:=fun xs H Q=>∃ x n,xs=[x]/\LenV K x H n/\Q (.int n) H
theorem Zlq:B9 X (.builtin "len") (Ko X.K):=Zlw
theorem Dx {K:Oz}{a:Addr}{xs:List V}{H:Hp}{Q:VK}(ha:SqL K H a xs)(h:Q (.int xs.length) H):Ko K [.ref a] H Q:=⟨_,_,rfl,.inl ⟨xs,ha,rfl⟩,h⟩
theorem Zmf {K:Oz}{a:Addr}{xs:List V}{H:Hp}{Q:VK}(ha:SqT K H a xs)(h:Q (.int xs.length) H):Ko K [.ref a] H Q:=⟨_,_,rfl,.inr ⟨xs,ha,rfl⟩,h⟩
structure Fc (mg:Str->Option Value)(x:Str)(v:V):Prop where
 ex:∃ u,mg x=some u/\RelV v u
theorem D8 {x:Str}{v:V}{pos:Pos}(G:Fc X.mg x v)(hg:Gl X x:=by rfl)(hd:(x == ("__debug__" : Str))=false:=by decide):QE X (.Name x pos) (tC v):=by
 obtain ⟨u,h,r⟩:=G.ex
 exact ⟨Zmi hg h r hd⟩
noncomputable def M5 (K:Oz)(tl:TE):TI:=fun σ H R=>tl σ H fun x H1=>(∃ a,x=.ref a/\(∃ xs,SqL K H1 a xs)/\R (Gb K a) H1)\/(∃ a,x=.ref a/\(∃ xs,SqT K H1 a xs)/\R (Gk K a) H1)\/∃ z,x=.str z/\R (Its z) H1
theorem Zpy {tg l:Expr}{tl:TE}(hl:QE X l tl):QI X tg l (M5 X.K tl):=by
 refine ⟨fun pins s σ H R I h=>?_⟩
 refine Aj (hl.run pins s σ H _ I h) fun v s1 zq=>?_
 obtain ⟨x,H1,I1,r1,q1⟩:=zq
 have one:∀(l:Expr)(t:TE),PE X l t->True:=fun _ _ _=>trivial
 rcases q1 with ⟨a,e,⟨xs,hq⟩,q⟩ | ⟨a,e,⟨xs,hq⟩,q⟩ | ⟨z,e,q⟩
 ·subst e
  cases r1
  obtain ⟨its,rv,p,hz⟩:=I1.list hq
  refine wpAny_pyIter_list p.isList ?_
  refine ⟨s1.heap.objs.size,[s1.heap.objs.size],_,_,H1,rfl,I1.kept (t':=s1.toks) fun b o e=>O9 _ e,Zke a _,⟨_,Pn _ rfl,rfl,rfl⟩,fun b hb=>?_,q⟩
  have e:b=s1.heap.objs.size:=by simpa using hb
  subst e
  exact I1.fpOk (O2 _) (I1.hok.fresh (O2 _))
 ·subst e
  cases r1
  obtain ⟨its,rv,p,hz⟩:=I1.tuple hq
  refine Su (show s1.heap.IsTuple a its.toArray from p) ?_
  refine ⟨s1.heap.objs.size,[s1.heap.objs.size],_,_,H1,rfl,I1.kept (t':=s1.toks) fun b o e=>O9 _ e,Zp5 a _,⟨_,Pn _ rfl,rfl,rfl⟩,fun b hb=>?_,q⟩
  have e:b=s1.heap.objs.size:=by simpa using hb
  subst e
  exact I1.fpOk (O2 _) (I1.hok.fresh (O2 _))
 ·subst e
  obtain ⟨t,rfl⟩:=r1
  refine wpAny_pyIter_strU ?_
  refine ⟨s1.heap.objs.size,[s1.heap.objs.size],_,_,H1,rfl,I1.kept (t':=s1.toks) fun b o e=>O9 _ e,Zf1 _ z t,⟨_,Pn _ rfl,rfl,rfl⟩,fun b hb=>?_,q⟩
  have e:b=s1.heap.objs.size:=by simpa using hb
  subst e
  exact I1.fpOk (O2 _) (I1.hok.fresh (O2 _))
end
section
variable {X:Cx}{tg:Expr}
end
noncomputable def Gz (K:Oz)(a:Addr)(n:Nat):It :=
 ⟨fun i H=>∃ xs,SqL K H a xs/\xs.length=n/\i < n,fun i H x H'=>H'=H/\∀ xs,SqL K H a xs->xs[n - 1 - i]?=some x,fun i _=>i=n⟩
theorem Zmu {P:Program}{w:World}{K:Oz}{tg:Expr}(a it:Addr)(n:Nat):Ey P w K tg (Gz K a n) [it] it (fun i h=>i<=n/\h.IsRevIter it a ((n:Int) - 1 - (i:Int))) where
 mem:=by simp
 obj:=fun i h st b hb=>by
  have e:b=it:=by simpa using hb
  subst e
  obtain ⟨o,e,c,d⟩:=st.2
  exact ⟨o,e,fun v z=>by rw [d] at z;cases z⟩
 keep:=fun i h h' st k=>⟨st.1,st.2.at fun o e=>k it (by simp) o e⟩
 item:=by
  intro X hP hw hK hc i pins s σ H E I hf st hg
  subst hP hw hK
  obtain ⟨xs,hq,hl,hi⟩:=hg
  obtain ⟨its,rv,p,hz⟩:=I.list hq
  have hx:xs[n - 1 - i]?=some (xs[n - 1 - i]'(by omega)):=O1 (by omega)
  obtain ⟨u,hu,ru⟩:=rv.get hx
  obtain ⟨f0,f1,f2,f3,f4,f5⟩:=hf it (by simp)
  have e:(n:Int) - 1 - (i:Int)=((n - 1 - i:Nat):Int):=by omega
  have hit:=st.2
  rw [e] at hit
  refine wpAny_pyNext_rev_item hit p.isList (x:=u) (by simpa using hu) fun h' st' sb=>?_
  have I1:Inv X pins σ H { s with heap:=h' }:=I.turned (t':=s.toks) (fun b o hb e=>(sb.2 b hb).trans e) f0 f1 f3 f4 f5
  have e2:((n - 1 - i:Nat):Int) - 1=(n:Int) - 1 - ((i+1:Nat):Int):=by omega
  rw [e2] at st'
  obtain ⟨o,eo,c,d⟩:=id st'
  exact ⟨u,rfl,Iv (s:={ s with heap:=h' }) eo c d (by decide) ⟨_,H,I1,ru,⟨rfl,fun ys hy=>by rw [I.list_inj hy hq];exact hx⟩,⟨hi,st'⟩,fun b hb=>(hf b hb).1⟩⟩
 done:=by
  intro X hP hw hK hc i pins s σ H E I hf st hg
  subst hP hw hK
  have hg:i=n:=hg
  subst hg
  obtain ⟨f0,f1,f2,f3,f4,f5⟩:=hf it (by simp)
  have e:(i:Int) - 1 - (i:Int)=-1:=by omega
  have hit:=st.2
  rw [e] at hit
  exact wpAny_pyNext_rev_end (I.ok.hd hc) hit fun h' eb=>⟨rfl,I.turned (t':=s.toks) (fun b o hb e=>eb b o hb e) f0 f1 f3 f4 f5⟩
 self:=fun _ _ _ _ _ st h=>U5 st.2 h
theorem Zcy:bootBuiltins "reversed" = some (.type "reversed"):=by decide +kernel
section
variable {X:Cx}{tg:Expr}
noncomputable def Mc (K:Oz)(ta:TA):TI:=fun σ H R=>ta σ H fun vs H1=>∃ a xs,vs=[.ref a]/\SqL K H1 a xs/\R (Gz K a xs.length) H1
theorem Zj4 {a:Expr}{ta:TA}{p pos:Pos}(hg:Gl X "reversed")(hm:X.mg "reversed" = none)(ha:QA X [a] ta)(hs:starEach [a] X.env=[(false,eval a X.env)]:=by rfl):QI X tg (.Call (.Name "reversed" p) [a] [] pos) (Mc X.K ta):=by
 refine ⟨fun pins s σ H R I h=>?_⟩
 refine Call_ (Dm I hg hm Zcy (Qp (Aj (ha.run pos pins s σ H _ I h) fun us s1 zq=>?_) hs rfl))
 obtain ⟨vs,H1,I1,r1,q1⟩:=zq
 obtain ⟨l,xs,e,hq,q⟩:=q1
 subst e
 cases r1 with
 | cons r rr =>
  cases rr
  cases r
  obtain ⟨its,rv,pl,hz⟩:=I1.list hq
  refine call_reversed_list pl.isList ?_
  have hl:=rv.length
  have st0:(s1.heap.push (Uw l (((its.toArray).size:Int) - 1))).IsRevIter s1.heap.objs.size l ((xs.length:Int) - 1 - ((0:Nat):Int)):=by
   refine ⟨_,Pn _ rfl,rfl,?_⟩
   have e:((its.toArray).size:Int) - 1=(xs.length:Int) - 1 - ((0:Nat):Int):=by simp [hl]
   rw [<- e]
   rfl
  refine U5 (it:=s1.heap.objs.size) (l:=l) (i:=(xs.length:Int) - 1 - ((0:Nat):Int)) st0 ?_
  refine ⟨s1.heap.objs.size,[s1.heap.objs.size],_,_,H1,rfl,I1.kept (t':=s1.toks) fun b o e=>O9 _ e,Zmu l _ xs.length,⟨Pp _,st0⟩,fun b hb=>?_,q⟩
  have e:b=s1.heap.objs.size:=by simpa using hb
  subst e
  exact I1.fpOk (O2 _) (I1.hok.fresh (O2 _))
theorem Zjn {K:Oz}{a:Addr}{xs:List V}{g:TG}{tb:TS}{D:Cv}{σ:St}{H:Hp}(Pv:Nat->St->Hp->Prop)(h0:Pv 0 σ H)(hl:∀ i σ H,i<=xs.length->Pv i σ H->SqL K H a xs)
  (hs:∀ i x σ H,i < xs.length->xs[xs.length - 1 - i]?=some x->Pv i σ H->g x σ H fun σ2 H2=>tb { D with nx:=Pv (i+1),ct:=Pv (i+1),bk:=D.nx } σ2 H2) (hd:∀ σ H,Pv xs.length σ H->D.nx σ H) :
  ∃ W:Nat->Nat->St->Hp->Prop,(∃ m,W 0 m σ H)/\∀ i m σ H,W i m σ H ->
   ((Gz K a xs.length).stop i H/\D.nx σ H)\/((Gz K a xs.length).go i H/\∃ N:St->Hp->Prop,(∀ σ' H',N σ' H'->∃ m',m' < m/\W (i+1) m' σ' H')/\∀ x H',(Gz K a xs.length).yld i H x H'->g x σ H' fun σ2 H2=>tb { D with nx:=N,ct:=N,bk:=D.nx } σ2 H2):=by
 refine ⟨fun i m σ H=>m=xs.length - i/\i<=xs.length/\Pv i σ H,⟨xs.length,by simp,Pp _,h0⟩,?_⟩
 rintro i m σ H ⟨rfl,hi,p⟩
 have q:=hl i σ H hi p
 by_cases hlt:i < xs.length
 ·refine .inr ⟨⟨xs,q,rfl,hlt⟩,Pv (i+1),fun σ' H' p'=>⟨xs.length - (i+1),by omega,rfl,hlt,p'⟩,fun x H' y=>?_⟩
  obtain ⟨e,y⟩:=y
  subst e
  exact hs i x σ _ hlt (y xs q) p
 ·have e:i=xs.length:=by omega
  subst e
  exact .inl ⟨rfl,hd σ H p⟩
end
section
variable {prog:Program}{w:World}{A:Around}{E:Value->Shared->Prop}{s:Shared}
theorem Zfw {it t:Addr}{i:Nat}{items:Array Value}{x:Value}{Q:Value->Shared->Prop}(hit:s.heap.IsTupleIter it t i)(ht:s.heap.IsTuple t items)(hx:items[i]?=some x)
  (hQ:∀ h',h'.IsTupleIter it t (i+1)->Ph it s.heap h'->Q x { s with heap:=h' }):wpAny (model prog w) A (Qm (.ref it)) Q E s:=by
 obtain ⟨o,ho,hc,hd⟩:=id hit
 obtain ⟨ol,hol,_,nl,hdl⟩:=ht
 unfold Qm
 refine O0 (Qv (name:=Ql "__next__") hit.typeIs Tp
  (Qr Tp hit.typeIs Vy ?_ (Vx _)))
 show wpAny _ _ (field (.ref it) 0 >>= _) _ _ s
 refine O0 (Pj ho hd (x:=.ref t) rfl ?_)
 show wpAny _ _ (if (Value.ref t == Value.none)=true then _ else _) _ _ s
 rw [if_neg (show ¬ ((Value.ref t == Value.none)=true) from Pf)]
 show wpAny _ _ (field (.ref it) 1 >>= _) _ _ s
 refine O0 (Pj ho hd (x:=.int i 0) rfl ?_)
 show wpAny _ _ (seqItems? (.ref t) >>= _) _ _ s
 refine O0 (Qs hol hdl ?_)
 simp only [Qy,hx]
 refine O0 (wpAny_setField ho hd (by simp) (O3 ⟨x,rfl,O3 (hQ _ ?_ (Ph.update ..))⟩))
 exact ⟨_,R1 _ ho (Obj.isFreed_of_fields (Obj.data_mapFields hd _)),(Obj.cls_mapFields ..).trans hc,by
  rw [Obj.data_mapFields hd];simp [rawInt]⟩
theorem Zl8 {it t:Addr}{i:Nat}{items:Array Value}{Q:Value->Shared->Prop}(hh:A.handled=none)(hit:s.heap.IsTupleIter it t i)(ht:s.heap.IsTuple t items)(hx:items[i]?=none)
  (hE:∀ h' e,Sg it s.heap h'->(∃ o,h'.get? e=some o/\o.cls=.type "StopIteration")->E (.ref e) { s with heap:=h' }):wpAny (model prog w) A (Qm (.ref it)) Q E s:=by
 obtain ⟨o,ho,hc,hd⟩:=id hit
 obtain ⟨ol,hol,_,nl,hdl⟩:=ht
 unfold Qm
 refine O0 (Qv (name:=Ql "__next__") hit.typeIs Tp
  (Qr Tp hit.typeIs Vy ?_ (Vx _)))
 show wpAny _ _ (field (.ref it) 0 >>= _) _ _ s
 refine O0 (Pj ho hd (x:=.ref t) rfl ?_)
 show wpAny _ _ (if (Value.ref t == Value.none)=true then _ else _) _ _ s
 rw [if_neg (show ¬ ((Value.ref t == Value.none)=true) from Pf)]
 show wpAny _ _ (field (.ref it) 1 >>= _) _ _ s
 refine O0 (Pj ho hd (x:=.int i 0) rfl ?_)
 show wpAny _ _ (seqItems? (.ref t) >>= _) _ _ s
 refine O0 (Qs hol hdl ?_)
 simp only [Qy,hx]
 refine O0 (Sj (O0 (wpAny_setField ho hd (by simp) ?_)))
 show wpAny _ _ (newExc (.type "StopIteration") [] >>= _) _ _ _
 refine O0 ?_
 simp only [newExc,newTuple]
 refine O0 (Rb ?_ (by size_fits))
 refine O0 (m:=firstArgMember _ _) (wpAny_of_eq (a:=Value.none) (by first | rfl | (simp only [firstArgMember];rfl)) ?_)
 refine Rb ?_ (by size_fits)
 simp only [raiseNew]
 refine O0 (wpAny_handled ?_)
 first | rw [show A.in1.handled=none from hh] | rw [hh]
 refine O0 (O3 (wpAny_throw ?_))
 exact hE _ _ (((Ph.update ..).extBut.push _).push _) ⟨_,Pn _ rfl,rfl⟩
end
theorem N6 {prog:Program}{w:World}{A:Around}(hh:A.handled=none)(it l:Addr)(hne:l≠it)(items:Array Value) :
  Draws prog w A it [it,l] items.size (fun i v=>items[i]?=some v) (fun i h=>h.IsTupleIter it l i/\h.IsTuple l items) where
 live:=fun _ _ st=>let ⟨o,ho,_⟩:=st.1;⟨o,ho⟩
 frame:=fun _ _ _ st hk=>⟨st.1.at fun o e=>hk it (by simp) o e,let ⟨o,e,r⟩:=st.2;⟨o,hk l (by simp) o e,r⟩⟩
 item:=fun i s Q E hi st hQ=>by
  refine Zfw st.1 st.2 (x:=items[i]) (by simp [hi]) fun h' hit' hs'=>?_
  exact hQ _ h' s.toks (by simp [hi]) ⟨hit',st.2.extBut hs'.extBut hne⟩ hs'
 done:=fun s Q E st hE=>Zl8 hh st.1 st.2 (by simp) hE
theorem Zh7 (l:Addr)(items:Array Value)(n:Nat)(dct:Option Addr)(sl:Array (Option Value)) :
  Meets (Builtin.«enumerate.__new__» ⟨[.type "enumerate",.ref l],[]⟩) (fun _ R s=>s.heap.get? l=some { cls:=.type "tuple",dict:=dct,data:=.seq items n,slots:=sl } /\
   R (.ok (.ret (.ref (s.heap.push { cls:=.type "tuple_iterator",data:=.fields #[.ref l,.int 0 0] }).objs.size)))
    { s with heap:=(s.heap.push { cls:=.type "tuple_iterator",data:=.fields #[.ref l,.int 0 0] }).push { cls:=.type "enumerate",data:=.fields #[.none,.bool false,.ref s.heap.objs.size,rawInt 0,.none,.none] } }) :=
 .of_wp fun prog w A R s h=>by
  obtain ⟨hp,g,d,tk,os⟩:=s;obtain ⟨hl,h⟩:=h
  have hsub:=sub_enumerate
  have hL:Heap.IsTuple (Shared.heap ⟨hp,g,d,tk,os⟩) l items:=⟨_,hl,rfl,n,rfl⟩
  wp_walk using Tq hl
  refine wpAny_stack_any fun st=>O3 ?_
  split
  ·rename_i c _ _ _ _ _
   cases (c == Value.type "enumerate")
   ·wp_walk using Tq hl,Su hL
    exact ⟨_,rfl,h⟩
   ·wp_walk using Tq hl,Su hL
    exact ⟨_,rfl,h⟩
  ·wp_walk using Tq hl,Su hL
   exact ⟨_,rfl,h⟩
section
variable {prog:Program}{w:World}{A:Around}{E:Value->Shared->Prop}{s:Shared}
theorem Zhw {l:Addr}{items:Array Value}{Q:Value->Shared->Prop}(hL:s.heap.IsTuple l items)
  (h:∀ h',IsEnum h' (s.heap.objs.size+1) s.heap.objs.size 0 .none->h'.IsTupleIter s.heap.objs.size l 0->h'.objs.size=s.heap.objs.size+2 ->
   (∀ b o,s.heap.get? b=some o->h'.get? b=some o)->Q (.ref (s.heap.objs.size+1)) { s with heap:=h' }) :
  wpAny (model prog w) A (call (.type "enumerate") [.ref l]) Q E s:=by
 obtain ⟨⟨c,dct,dt,sl⟩,hl,hc,n,hd⟩:=hL
 replace hc:c=.type "tuple" := hc
 replace hd:dt=.seq items n:=hd
 subst hc hd
 refine callType_new PySem.F.called_enumerate (by decide) (PySem.F.typeCall_enumerate_1 _) (PySem.F.newCall_enumerate_1 _) (fun obj=>PySem.F.args_object_init_2 obj _) PySem.F.entry_enumerate_new
  (Zh7 l items n dct sl) ⟨hl,?_⟩
 have hz:(s.heap.push { cls:=.type "tuple_iterator",data:=.fields #[.ref l,.int 0 0] }).objs.size=s.heap.objs.size+1:=Qi ..
 show _/\_
 rw [hz]
 have he:IsEnum ((s.heap.push { cls:=.type "tuple_iterator",data:=.fields #[.ref l,.int 0 0] }).push
   { cls:=.type "enumerate",data:=.fields #[.none,.bool false,.ref s.heap.objs.size,rawInt 0,.none,.none] }) (s.heap.objs.size+1) s.heap.objs.size 0 .none:=by
  unfold IsEnum
  rw [<- hz]
  exact Pn _ rfl
 refine ⟨⟨_,he,rfl⟩,h _ he ⟨_,O9 _ (Pn _ rfl),rfl,rfl⟩ (by rw [Qi,hz]) fun b o e=>O9 _ (O9 _ e)⟩
noncomputable def Lb (h:Heap)(e it:Addr)(i:Int):Prop:=∃(a:Addr)(oa:Obj)(f1 old:Value),h.get? e=some { cls:=.type "enumerate",dict:=none,data:=.fields #[rawInt a,f1,.ref it,rawInt i,.none,old],slots:=#[] }/\h.get? a=some oa/\a≠e/\a≠it
theorem Zbv {a:Addr}{Q:Option Obj->Shared->Prop}(h:Q (s.heap.get? a) s):wpAny (model prog w) A (loadIfAlive a) Q E s:=by
 intro Γ p hΓ
 show Sem.wp _ Γ (.loadIfAlive a .pure) _ _ p s
 rw [Sem.wp_loadIfAlive]
 exact h
theorem Zno {e it:Addr}{fp:List Addr}{n i:Nat}{P:Nat->Value->Prop}{St:Nat->Heap->Prop}{Q:Value->Shared->Prop}
  (D:Draws prog w A it fp n P St) (he0:Lb s.heap e it i) (hst:St i s.heap) (hlt:i < n) (hne:e≠it) (hef:e ∉ fp)
  (hQ:∀ x h' tk,P i x->Lb h' e it ((i:Int)+1)->St (i+1) h' ->
   h'.get? s.heap.objs.size=some { cls:=.type "tuple",data:=.seq #[.int i tk,x] }->h'.objs.size=s.heap.objs.size+1 ->
   (∀ b o,b≠e->b≠it->s.heap.get? b=some o->h'.get? b=some o)->Q (.ref s.heap.objs.size) { s with heap:=h',toks:=tk+1 }) :
  wpAny (model prog w) A (Builtin.«enumerate.__next__» ⟨[.ref e],[]⟩) (fun fin s'=>∃ v,fin=.done (.ret v)/\Q v s') E s:=by
 obtain ⟨a,oa,f1,old,he,hoa,hae,hai⟩:=he0
 obtain ⟨hp,g,d,tk₀,os⟩:=s
 show wpAny _ _ (field (.ref e) 2 >>= _) _ _ _
 refine O0 (Pj he rfl (x:=.ref it) rfl ?_)
 refine O0 (D.item i _ _ _ hlt hst fun x h₁ tk hPx hit₁ hs₁=>?_)
 replace hs₁:Ph it hp h₁:=hs₁
 have he₁:=(hs₁.2 e hne).trans he
 have ha₁:=hs₁.extBut a oa hai hoa
 show wpAny _ _ (field (.ref e) 3 >>= _) _ _ ⟨h₁,g,d,tk,os⟩
 refine O0 (Pj he₁ rfl (x:=rawInt i) rfl ?_)
 show wpAny _ _ (field (.ref e) 4 >>= _) _ _ ⟨h₁,g,d,tk,os⟩
 refine O0 (Pj he₁ rfl (x:=.none) rfl ?_)
 show wpAny _ _ (mkInt i >>= _) _ _ ⟨h₁,g,d,tk,os⟩
 refine O0 (wpAny_mkInt ?_)
 show wpAny _ _ (setField (.ref e) 3 (rawInt ((i:Int)+1)) >>= _) _ _ ⟨h₁,g,d,tk+1,os⟩
 refine O0 (Qx he₁ (by simp) fun h₂ he₂ hs₂=>?_)
 replace hs₂:Ph e h₁ h₂:=hs₂
 have ha₂:=hs₂.extBut a oa hae ha₁
 replace he₂:h₂.get? e=some { cls:=.type "enumerate",dict:=none,data:=.fields #[rawInt a,f1,.ref it,rawInt ((i:Int)+1),.none,old],slots:=#[] }:=he₂
 show wpAny _ _ (setField (.ref e) 4 .none >>= _) _ _ ⟨h₂,g,d,tk+1,os⟩
 refine O0 (Qx he₂ (by simp) fun h₃ he₃ hs₃=>?_)
 replace hs₃:Ph e h₂ h₃:=hs₃
 have ha₃:=hs₃.extBut a oa hae ha₂
 replace he₃:h₃.get? e=some { cls:=.type "enumerate",dict:=none,data:=.fields #[rawInt a,f1,.ref it,rawInt ((i:Int)+1),.none,old],slots:=#[] }:=he₃
 show wpAny _ _ (newTuple [.int i tk,x] >>= _) _ _ ⟨h₃,g,d,tk+1,os⟩
 refine O0 (wpAny_newTuple ?_)
 have he₄:(h₃.push { cls:=.type "tuple",data:=.seq #[.int i tk,x] }).get? e=some { cls:=.type "enumerate",dict:=none,data:=.fields #[rawInt a,f1,.ref it,rawInt ((i:Int)+1),.none,old],slots:=#[] }:=O9 _ he₃
 have ha₄:(h₃.push { cls:=.type "tuple",data:=.seq #[.int i tk,x] }).get? a=some oa:=O9 _ ha₃
 generalize hh₄:h₃.push { cls:=.type "tuple",data:=.seq #[.int i tk,x] }=h₄ at he₄ ha₄
 have hsz:h₃.objs.size=hp.objs.size:=by rw [hs₃.1,hs₂.1,hs₁.1]
 have hel:e < hp.objs.size:=O8 he
 have ht₄:h₄.get? hp.objs.size=some { cls:=.type "tuple",data:=.seq #[.int i tk,x] }:=by rw [<- hh₄,<- hsz];exact Pn _ rfl
 have hz₄:h₄.objs.size=hp.objs.size+1:=by rw [<- hh₄,Qi,hsz]
 have hk₄:∀ b o,b≠e->b≠it->hp.get? b=some o->h₄.get? b=some o:=fun b o hbe hbi hb=>by
  rw [<- hh₄];exact O9 _ (hs₃.extBut b o hbe (hs₂.extBut b o hbe (hs₁.extBut b o hbi hb)))
 have hit₄:St (i+1) h₄:=D.frame _ _ _ hit₁ fun b hb o y=>by
  have hbe:b≠e:=fun q=>hef (q ▸ hb)
  rw [<- hh₄];exact O9 _ (hs₃.extBut b o hbe (hs₂.extBut b o hbe y))
 show wpAny _ _ (Qu (.ref e) >>= _) _ _ ⟨h₄,g,d,tk+1,os⟩
 rw [hsz]
 clear hh₄ ha₃ ha₂ ha₁ he₃ hs₃ he₂ hs₂ he₁ hs₁ hit₁ hsz h₃ h₂ h₁
 refine O0 ?_
 unfold Qu
 refine O0 (Pj he₄ rfl (x:=rawInt a) rfl ?_)
 show wpAny _ _ (loadIfAlive ((a:Int).toNat) >>= _) _ _ ⟨h₄,g,d,tk+1,os⟩
 refine O0 (Zbv ?_)
 rw [Qy]
 show wpAny _ _ (if (h₄.get? a).isNone=true then _ else _) _ _ ⟨h₄,g,d,tk+1,os⟩
 rw [ha₄]
 rw [if_neg (by simp)]
 refine O0 (Pj he₄ rfl (x:=f1) rfl ?_)
 have fin:∀ h₅,Lb h₅ e it ((i:Int)+1)->Ph e h₄ h₅->Q (.ref hp.objs.size) ⟨h₅,g,d,tk+1,os⟩:=fun h₅ hl hs₅ =>
  hQ x h₅ tk hPx hl (D.frame _ _ _ hit₄ fun b hb o y=>hs₅.extBut b o (fun q=>hef (q ▸ hb)) y) (hs₅.extBut _ _ (Qo hel) ht₄) (by rw [hs₅.1,hz₄]) fun b o hbe hbi hb=>hs₅.extBut b o hbe (hk₄ b o hbe hbi hb)
 by_cases hf:(f1 != Value.bool true)=true
 ·simp only [hf,if_true]
  refine O0 (Qx he₄ (by simp) fun h₅ he₅ hs₅=>?_)
  replace hs₅:Ph e h₄ h₅:=hs₅
  refine O3 ?_
  simp only [Sv,if_false]
  refine O3 ⟨_,rfl,fin h₅ ⟨a,oa,.bool true,old,he₅,hs₅.extBut a oa hae ha₄,hae,hai⟩ hs₅⟩
 ·simp only [hf]
  refine O3 ?_
  simp only [Sv,if_false]
  exact O3 ⟨_,rfl,fin h₄ ⟨a,oa,f1,old,he₄,ha₄,hae,hai⟩ (Ph.refl ..)⟩
noncomputable def EnSt (h:Heap)(e it:Addr)(i:Nat):Prop:=(i=0/\∃ old,IsEnum h e it 0 old)\/(0 < i/\Lb h e it i)
theorem EnSt.obj {h:Heap}{e it:Addr}{i:Nat}(x:EnSt h e it i):∃ vs,h.get? e=some { cls:=.type "enumerate",dict:=none,data:=.fields vs,slots:=#[] }:=by
 rcases x with ⟨_,old,x⟩ | ⟨_,_,_,_,_,x,_⟩
 ·exact ⟨_,x⟩
 ·exact ⟨_,x⟩
theorem Zge {e it:Addr}{fp:List Addr}{n i:Nat}{P:Nat->Value->Prop}{St:Nat->Heap->Prop}{Q:Option Value->Shared->Prop}
  (D:Draws prog w A.in1 it fp n P St) (he:EnSt s.heap e it i) (hst:St i s.heap) (hlt:i < n) (hne:e≠it) (hef:e ∉ fp)
  (hQ:∀ x h' tk,P i x->EnSt h' e it (i+1)->St (i+1) h' ->
   h'.get? s.heap.objs.size=some { cls:=.type "tuple",data:=.seq #[.int i tk,x] }->h'.objs.size=s.heap.objs.size+1 ->
   (∀ b o,b≠e->b≠it->s.heap.get? b=some o->h'.get? b=some o)->Q (some (.ref s.heap.objs.size)) { s with heap:=h',toks:=tk+1 }) :
  wpAny (model prog w) A (pyNext (.ref e)) Q E s:=by
 obtain ⟨vs,ho⟩:=he.obj
 have hT:s.TypeIs (.ref e) "enumerate" := ⟨_,ho,rfl⟩
 have hel:e < s.heap.objs.size:=O8 ho
 have hil:it < s.heap.objs.size:=by obtain ⟨_,y⟩:=D.live _ _ hst;exact O8 y
 rcases he with ⟨rfl,old,he⟩ | ⟨_,he⟩
 ·refine wpAny_pyNext_enum_itemD D he hst hlt hne hef fun x h' tk a b c z k q=>?_
  exact hQ x h' tk a (.inr ⟨Ux _,_,_,_,_,b,z,Qo hel,Qo hil⟩) c z k q
 ·unfold pyNext
  exact O0 (Se (Qv (name:=Ql "__next__") hT Ts
   (Qr Ts hT V0
    (Zno D he hst hlt hne hef fun x h' tk a b c z k q=>O3 (hQ x h' tk a (.inr ⟨Ux _,b⟩) c z k q)) (Vz _))))
theorem Zpt {e it:Addr}{fp:List Addr}{n:Nat}{P:Nat->Value->Prop}{St:Nat->Heap->Prop}{Q:Option Value->Shared->Prop}
  (D:Draws prog w A.in1 it fp n P St) (he:EnSt s.heap e it n) (hst:St n s.heap)
  (hQ:∀ h',Sg it s.heap h'->Q none { s with heap:=h' }):wpAny (model prog w) A (pyNext (.ref e)) Q E s:=by
 obtain ⟨vs,ho⟩:=he.obj
 have hT:s.TypeIs (.ref e) "enumerate" := ⟨_,ho,rfl⟩
 have h2:vs[2]?=some (.ref it):=by
  rcases he with ⟨rfl,old,he⟩ | ⟨_,a,oa,f1,old,he,_⟩
  ·unfold IsEnum at he
   rw [ho] at he
   injection he with he
   injection he with _ _ he _
   injection he with he
   rw [he];rfl
  ·rw [ho] at he
   injection he with he
   injection he with _ _ he _
   injection he with he
   rw [he];rfl
 unfold pyNext
 refine O0 (Se (Qv (name:=Ql "__next__") hT Ts
  (Qr Ts hT V0 ?_ (Vz _))))
 show wpAny _ _ (field (.ref e) 2 >>= _) _ _ _
 refine O0 (Pj ho rfl (x:=.ref it) h2 ?_)
 refine O0 (D.done _ _ _ hst fun h' x he' hx'=>?_)
 obtain ⟨o,ho',hc⟩:=hx'
 refine O0 (Ue (T := "StopIteration") (b:=true) ⟨o,ho',hc⟩ isSubtype_stop ?_)
 exact O3 (hQ _ he')
end
theorem Zbs {prog:Program}{w:World}{A:Around}{E:Value->Shared->Prop}{s:Shared}{it:Addr}{T:String}{Q:Bool->Shared->Prop}(hT:s.TypeIs (.ref it) T)(n1:typeLookup (.type T) "__len__" = pure none)(n2:typeLookup (.type T) "__length_hint__" = pure none)(h:Q true s):wpAny (model prog w) A (Sm (.ref it)) Q E s:=by
 unfold Sm
 refine O0 (Sz hT n1 ?_)
 show wpAny _ A (specialOf (Value.ref it) (Ql "__length_hint__") >>= _) _ _ _
 refine O0 (Sz hT n2 ?_)
 exact O3 h
structure Src (X:Cx)(pins:List (Addr×Obj))(σ:St)(it:Addr)(T:String)(n:Nat)(H0:Hp)(J:Nat->List V->Hp->Heap->Prop):Prop where
 ty:∀ i ys H h,J i ys H h->∃ o,h.get? it=some o/\o.cls=.type T
 nl:(Value.type T == Value.type "list")=false/\(Value.type T == Value.type "tuple")=false
 hint:∃ mr:Bool,∀(A:Around)(s:Shared)(Q:Bool->Shared->Prop)(E:Value->Shared->Prop),s.TypeIs (.ref it) T->Q mr s->wpAny (model X.prog X.w) A (Sm (.ref it)) Q E s
 self:∀(A:Around)(s:Shared)(ys:List V)(H:Hp)(Q:Value->Shared->Prop)(E:Value->Shared->Prop),J 0 ys H s.heap->Q (.ref it) s->wpAny (model X.prog X.w) A (pyIter (.ref it)) Q E s
 keep:∀ i ys H h h' S zs zs',H0 S=none->H S=some (.lst zs)->J i ys H h->(∀ b o,b≠S->h.get? b=some o->h'.get? b=some o)->(∃ o,h'.get? S=some o)->J i ys (upd H S (.lst zs')) h'
 fresh:∀ i ys H h,J i ys H h->H it=none
 item:∀(A:Around)(i:Nat)(s:Shared)(H:Hp)(ys:List V)(E:Value->Shared->Prop),A.handled=none->i < n->Inv X pins σ H s->J i ys H s.heap ->
  wpAny (model X.prog X.w) A (pyNext (.ref it)) (fun r s'=>∃ u x H',r=some u/\RelV x u/\Inv X pins σ H' s'/\J (i+1) (ys++[x]) H' s'.heap/\∀ S zs,H S=some (.lst zs)->H' S=some (.lst zs)) E s
 done:∀(A:Around)(s:Shared)(H:Hp)(ys:List V)(E:Value->Shared->Prop),A.handled=none->Inv X pins σ H s->J n ys H s.heap ->
  wpAny (model X.prog X.w) A (pyNext (.ref it)) (fun r s'=>r=none/\Inv X pins σ H s') E s
section
variable {X:Cx}{pins:List (Addr×Obj)}{σ:St}{it:Addr}{T:String}{n:Nat}{H0:Hp}{J:Nat->List V->Hp->Heap->Prop}
theorem Zdx (C:Src X pins σ it T n H0 J)(hn:n<=sizeLine){A:Around}(hh:A.handled=none){R:Result->Shared->Prop}(S:Addr)(hS0:H0 S=none)(res:Value)
  (fin:∀ s' H' ys',Inv X pins σ H' s'->H' S=some (.lst ys')->ys'.length=n->(∃ h,J n ys' H' h)->R (.ok (.ret res)) s') :
  ∀(k i:Nat)(s:Shared)(H:Hp)(ys:List V),n - i=k->i<=n->Inv X pins σ H s->J i ys H s.heap->H S=some (.lst ys)->ys.length=i ->
  codeAny (model X.prog X.w) A (.builtin "list.extend.loop" ⟨[.ref S,.ref it,res],[]⟩) R s:=by
 intro k
 induction k with
 | zero =>
  intro i s H ys hk hi I j hS hl
  have hin:i=n:=by omega
  subst hin
  refine Uk PySem.F.entry_extend_loop ?_
  rw [T8 Sn _]
  show wpAny _ A.in1 (pyNext (.ref it) >>= _) _ _ s
  refine O0 (Aj (C.done A.in1 s H ys _ hh I j) fun r s' zq=>?_)
  obtain ⟨hr,I'⟩:=zq
  subst hr
  exact O3 (fin s' H ys I' hS hl ⟨_,j⟩)
 | succ k ih =>
  intro i s H ys hk hi I j hS hl
  have hlt:i < n:=by omega
  refine Uk PySem.F.entry_extend_loop ?_
  rw [T8 Sn _]
  show wpAny _ A.in1 (pyNext (.ref it) >>= _) _ _ s
  refine O0 (Aj (C.item A.in1 i s H ys _ hh hlt I j) fun r s' zq=>?_)
  obtain ⟨u,x,H',hr,rx,I',j',kS⟩:=zq
  subst hr
  have hS':=kS S ys hS
  obtain ⟨z,its,m,rv,hl',e⟩:=I'.lstM hS'
  show wpAny _ A.in1 (updateSeq S (·.push u) >>= _) _ _ _
  refine O0 ?_
  have hu:(its.toArray.push u)=(its++[u]).toArray:=by simp
  have I2:=I'.lset (f:=(·.push u)) (its':=its++[u]) (ys:=ys++[x]) (t':=s'.toks) hS' e hu (rv.append (.cons rx .nil)) (by rw [O7,Pr];omega)
  refine Ta e rfl (O3 ⟨Ti Sn _,ih (i+1) _ _ (ys++[x]) (by omega) hlt I2 ?_ Ac (by simp [hl])⟩)
   (by rw [O4];omega) (by show (its.toArray.push u).size<=sizeLine+1;rw [Array.size_push,O4];omega)
  exact C.keep _ _ _ _ _ S ys (ys++[x]) hS0 hS' j' (fun b o hb eb=>(R0 _ _ (P0 hb)).trans eb) ⟨_,R1 _ e rfl⟩
theorem M8 {H:Hp}(C:Src X pins σ it T n H J)(hn:n<=sizeLine){A:Around}(hh:A.handled=none){s:Shared}{Q:VK}{E:Value->Shared->Prop}(I:Inv X pins σ H s)(j:J 0 [] H s.heap)
  (jn:∀ S,s.heap.objs.size<=S->H S=none->∀ h',(∀ b o,s.heap.get? b=some o->h'.get? b=some o)->J 0 [] (upd H S (.lst [])) h')
  (q:∀ S H' ys,H S=none->H' S=some (.lst ys)->ys.length=n->(∃ h,J n ys H' h)->Q (.ref S) H') :
  wpAny (model X.prog X.w) A (call (.type "list") [.ref it]) (EP X pins σ Q) E s:=by
 have hf:H s.heap.objs.size=none:=I.hok.fresh (O2 _)
 have hne:s.heap.objs.size≠it:=by
  obtain ⟨o,e,_⟩:=C.ty _ _ _ _ j
  exact Qo (O8 e)
 refine callType_codes (Q₁:=fun obj s₁=>obj=.ref s.heap.objs.size/\s₁={ s with heap:=s.heap.push { cls:=.type "list",data:=.seq #[] } }) PySem.F.called_list (PySem.F.typeCall_list_1 _) PySem.F.entry_list_init
  (code_list_new _ ⟨rfl,rfl⟩) fun obj s₁ h₁=>?_
 obtain ⟨rfl,rfl⟩:=h₁
 have hS:(s.heap.push { cls:=.type "list",data:=.seq #[] }).get? s.heap.objs.size=some { cls:=.type "list",data:=.seq #[] }:=Pn _ rfl
 have I1:Inv X pins σ (upd H s.heap.objs.size (.lst [])) { s with heap:=s.heap.push { cls:=.type "list",data:=.seq ([]:List Value).toArray } }:=I.lnew (ys:=[]) (its:=[]) (t':=s.toks) .nil (by simp)
 have j1:J 0 [] (upd H s.heap.objs.size (.lst [])) (s.heap.push { cls:=.type "list",data:=.seq ([]:List Value).toArray })   := jn _ (O2 _) hf _ fun b o e=>O9 _ e
 refine ⟨⟨_,hS,rfl⟩,PySem.F.args_list_init_2 _ _,?_⟩
 generalize hs1:({ s with heap:=s.heap.push { cls:=.type "list",data:=.seq ([]:List Value).toArray } }:Shared)=s1 at I1
 have hS1:s1.heap.get? s.heap.objs.size=some { cls:=.type "list",data:=.seq ([]:List Value).toArray }:=by rw [<- hs1];exact hS
 replace j1:J 0 [] (upd H s.heap.objs.size (.lst [])) s1.heap:=by rw [<- hs1];exact j1
 have hs1':({ s with heap:=s.heap.push { cls:=.type "list",data:=.seq #[] } }:Shared)=s1:=hs1
 first | rw [hs1'] | skip
 show wpAny _ A.in1.in1 (do let old <- Builtin.List.listItems (.ref s.heap.objs.size);Builtin.List.listUpdate (.ref s.heap.objs.size) (fun _=>#[]);letGo old.toList.reverse;U1 (.ref s.heap.objs.size) (.ref it) .none) _ _ s1
 generalize s.heap.objs.size=S at *
 refine O0 ?_
 unfold Builtin.List.listItems
 refine O0 (Qs hS1 rfl (O3 ?_))
 show wpAny _ A.in1.in1 (updateSeq S (fun _=>#[]) >>= fun _=>letGo (#[]:Array Value).toList.reverse >>= fun _=>U1 (.ref S) (.ref it) .none) _ _ s1
 refine O0 (Ta hS1 rfl ?_)
 have I2:=I1.lset (f:=fun _=>#[]) (its':=[]) (ys:=[]) (t':=s1.toks) Ac hS1 rfl .nil (by simp)
 have hS2:=R1 (P9 (fun _=>(#[]:Array Value))) hS1 rfl
 have j2:=C.keep _ _ _ _ (s1.heap.update S (P9 fun _=>#[])) S [] [] hf Ac j1 (fun b o hb eb=>(R0 _ _ (P0 hb)).trans eb) ⟨_,hS2⟩
 rw [Mw] at I2 j2
 generalize hs2:({ s1 with heap:=s1.heap.update S (P9 fun _=>#[]),toks:=s1.toks }:Shared)=s2 at I2
 replace j2:J 0 [] (upd H S (.lst [])) s2.heap:=by rw [<- hs2];exact j2
 have hs2':({ s1 with heap:=s1.heap.update S (P9 fun _=>#[]) }:Shared)=s2:=hs2
 first | rw [hs2'] | skip
 refine O0 (U0 ?_)
 obtain ⟨oi,ei,ci⟩:=C.ty _ _ _ _ j2
 have hT:s2.TypeIs (.ref it) T:=⟨oi,ei,ci⟩
 unfold U1
 refine O0 (Uu hT ?_)
 have h1:Builtin.List.listSameRef (.ref S) (.ref it)=false:=by simp [Builtin.List.listSameRef,hne]
 have h2:=C.nl.1
 have h3:=C.nl.2
 simp only [h1,h2,h3,Up,Sv,if_false]
 refine O0 (C.self _ s2 _ _ _ _ j2 ?_)
 refine O0 (Qk ?_)
 obtain ⟨mr,hmr⟩:=C.hint
 refine hmr _ _ _ _ hT ?_
 split
 ·show wpAny _ A.in1.in1 (rule "list.extend.makes-room" >>= fun _=>Builtin.List.listTouch (.ref S) >>= fun _ =>
   again (.builtin "list.extend.loop" ⟨[.ref S,.ref it,.none],[]⟩)) _ _ _
  refine O0 (Sj ?_)
  refine O0 ?_
  show wpAny _ A.in1.in1 (updateSeq S (·.push .none) >>= fun _=>updateSeq S (·.pop)) _ _ _
  obtain ⟨_,its2,m2,rv2,_,e2⟩:=I2.lstM Ac
  cases rv2
  refine O0 (Ta e2 rfl ?_)
  have I3:=I2.lset (f:=(·.push Value.none)) (its':=[.none]) (ys:=[.non]) (t':=s2.toks) Ac e2 (by simp) (.cons rfl .nil) (by show 1<=sizeLine;decide)
  have hS3:=R1 (P9 (·.push Value.none)) e2 rfl
  have j3:=C.keep _ _ _ _ (s2.heap.update S (P9 (·.push Value.none))) S [] [.non] hf Ac j2 (fun b o hb eb=>(R0 _ _ (P0 hb)).trans eb) ⟨_,hS3⟩
  rw [Mw] at I3 j3
  generalize hs3:({ s2 with heap:=s2.heap.update S (P9 (·.push Value.none)),toks:=s2.toks }:Shared)=s3 at I3
  replace j3:J 0 [] (upd H S (.lst [.non])) s3.heap:=by rw [<- hs3];exact j3
  have hs3':({ s2 with heap:=s2.heap.update S (P9 (·.push Value.none)) }:Shared)=s3:=hs3
  first | rw [hs3'] | skip
  obtain ⟨_,its3,m3,rv3,hl3,e3⟩:=I3.lstM Ac
  have hl3':its3.length=1:=hl3.symm
  refine Ta e3 rfl ?_ (by rw [O4,hl3'];decide) (by show its3.toArray.pop.size<=sizeLine+1;rw [Array.size_pop,O4,hl3'];decide)
  have I4:=I3.lset (f:=(·.pop)) (its':=[]) (ys:=[]) (t':=s3.toks) Ac e3 (by
   cases its3 with
   | nil=>simp at hl3'
   | cons a r=>cases r with
    | nil=>simp
    | cons b r'=>simp at hl3') .nil (by simp)
  have hS4:=R1 (P9 (·.pop)) e3 rfl
  have j4:=C.keep _ _ _ _ (s3.heap.update S (P9 (·.pop))) S [.non] [] hf Ac j3 (fun b o hb eb=>(R0 _ _ (P0 hb)).trans eb) ⟨_,hS4⟩
  rw [Mw] at I4 j4
  refine O3 ⟨Ti Sn _,Zdx C hn (A:=A.in1) hh S hf .none ?_ n 0 _ _ [] rfl (Pp _) I4 j4 Ac rfl⟩
  intro s' H' ys' I' hS' hl' hj'
  exact ⟨rfl,.ref S,H',I',rfl,q S H' ys' hf hS' hl' hj'⟩
 ·refine O3 ⟨Ti Sn _,Zdx C hn (A:=A.in1) hh S hf .none ?_ n 0 _ _ [] rfl (Pp _) I2 j2 Ac rfl⟩
  intro s' H' ys' I' hS' hl' hj'
  exact ⟨rfl,.ref S,H',I',rfl,q S H' ys' hf hS' hl' hj'⟩
end
section
variable {X:Cx}{pins:List (Addr×Obj)}{σ:St}{H:Hp}{s:Shared}{h':Heap}
theorem Inv.turned2 {t':Nat}{i1 i2:Addr}(I:Inv X pins σ H s)(k:∀ b o,b≠i1->b≠i2->s.heap.get? b=some o->h'.get? b=some o)(f1:FpOk X pins H i1)(f2:FpOk X pins H i2):Inv X pins σ H { s with heap:=h',toks:=t' }:=by
 obtain ⟨n1,l1,_,e1,c1,p1⟩:=f1
 obtain ⟨n2,l2,_,e2,c2,p2⟩:=f2
 have nit:∀ b u,H b=some u->b≠i1/\b≠i2:=fun b u e=>⟨(fun z=>by rw [z,n1] at e;exact nomatch e),(fun z=>by rw [z,n2] at e;exact nomatch e)⟩
 refine I.step (g':=s.gens) (d':=s.drawn) (ch:=[i1,i2]) (fun b hb=>?_) (fun b o _ _ hc e _=>k b o (fun z=>hc (by simp [z])) (fun z=>hc (by simp [z])) e) (fun b o _ _ hc e _=>⟨o.slots,k b o (fun z=>hc (by simp [z])) (fun z=>hc (by simp [z])) e⟩) (fun _ _ _ _ n=>n)
  (fun b o hc e=>⟨o,k b o (fun z=>hc (by simp [z])) (fun z=>hc (by simp [z])) e⟩) (fun _ _ e=>e) (fun _ _ _ e=>e) (fun b ps e=>⟨#[],by rw [e];simp⟩) (fun m hm=>?_) (fun b u e=>?_) I.bare
 ·rcases O5.mp hb with rfl | hb
  ·exact ⟨e1,l1,c1,p1⟩
  ·rw [Pi.mp hb]
   exact ⟨e2,l2,c2,p2⟩
 ·obtain ⟨o,es,ep,ho,r⟩:=hm
  exact ⟨o,es,ep,k _ o (P0 l1) (P0 l2) ho,r⟩
 ·refine (I.hok b u e).stay (fun c v hc q=>k c v ?_ ?_ q) (fun _ q=>q) fun _ _ q=>q
  ·rcases hc with z | z
   ·rw [z];exact (nit b u e).1
   ·exact (nit c _ z).1
  ·rcases hc with z | z
   ·rw [z];exact (nit b u e).2
   ·exact (nit c _ z).2
end
theorem FpOk.of {X:Cx}{pins:List (Addr×Obj)}{H H':Hp}{b:Addr}(f:FpOk X pins H b)(h:H' b=none):FpOk X pins H' b:=⟨h,f.2⟩
theorem SqT.kept {K:Oz}{H:Hp}{S a:Addr}{zs zs' xs:List V}(hS:H S=some (.lst zs))(h:SqT K H a xs):SqT K (upd H S (.lst zs')) a xs:=by
 rcases h with (h | ⟨o,h⟩) | h
 ·exact .inl (.inl (by rw [Ag (Ew h hS (by intro z;cases z))];exact h))
 ·exact .inl (.inr ⟨o,by rw [Ag (Ew h hS (by intro z;cases z))];exact h⟩)
 ·exact .inr h
theorem SqT.same {K:Oz}{H H':Hp}{a:Addr}{xs:List V}(h:SqT K H a xs)(e:Same H H'):SqT K H' a xs:=e.tup h
noncomputable def Mb (H:Hp)(xs:List V)(ys:List V):Prop:=∀(j:Nat)(y:V),ys[j]?=some y->∃(t:Addr)(x:V),y=V.ref t/\xs[j]?=some x/\H t=some (.tup [.int j,x])
noncomputable def JEn (K:Oz)(H0:Hp)(en it a:Addr)(xs:List V):Nat->List V->Hp->Heap->Prop:=fun i ys H h =>
 EnSt h en it i/\h.IsTupleIter it a i/\(H en=none/\H it=none)/\SqT K H a xs/\ys.length=i/\Mb H xs ys/\Same H0 H
theorem Zh2:typeLookup (.type "enumerate") "__len__" = pure none:=by rw [Sc,R3];kernel_rfl
theorem Zk8:typeLookup (.type "enumerate") "__length_hint__" = pure none:=by rw [Sc,R3];kernel_rfl
theorem Zmj {X:Cx}{pins:List (Addr×Obj)}{σ:St}{H0:Hp}{en it a:Addr}{xs:List V}(fe:FpOk X pins H0 en)(fi:FpOk X pins H0 it)(hne:en≠it)(hae:a≠en)(hai:a≠it):Src X pins σ en "enumerate" xs.length H0 (JEn X.K H0 en it a xs) where
 ty:=fun i ys H h j=>by
  obtain ⟨vs,e⟩:=j.1.obj
  exact ⟨_,e,rfl⟩
 nl:=by decide
 hint:=⟨_,fun A s Q E hT h=>Zbs hT Zh2 Zk8 h⟩
 self:=fun A s ys H Q E j q=>by
  rcases j.1 with ⟨_,old,e⟩ | ⟨z,_⟩
  ·exact Vk e q
  ·exact absurd z (Qj _)
 keep:=fun i ys H h h' S zs zs' h0 hS j k al=>by
  obtain ⟨j1,j2,⟨j3,j4⟩,j5,j6,j7,j8⟩:=j
  have ne1:en≠S:=fun z=>by rw [z,hS] at j3;cases j3
  have ne2:it≠S:=fun z=>by rw [z,hS] at j4;cases j4
  refine ⟨?_,?_,⟨by rw [Ag ne1];exact j3,by rw [Ag ne2];exact j4⟩,j5.kept hS,j6,fun m y hy=>?_,fun b o e=>?_⟩
  ·rcases j1 with ⟨z,old,e⟩ | ⟨z,a0,oa,f1,old,e,ea,x1,x2⟩
   ·exact .inl ⟨z,old,k _ _ ne1 e⟩
   ·by_cases hs:a0=S
    ·subst hs
     obtain ⟨o,eo⟩:=al
     exact .inr ⟨z,a0,o,f1,old,k _ _ ne1 e,eo,x1,x2⟩
    ·exact .inr ⟨z,a0,oa,f1,old,k _ _ ne1 e,k _ _ hs ea,x1,x2⟩
  ·exact j2.at fun o e=>k _ _ ne2 e
  ·obtain ⟨t,x,e1,e2,e3⟩:=j7 m y hy
   exact ⟨t,x,e1,e2,by rw [Ag (Ew e3 hS (by intro z;cases z))];exact e3⟩
  ·have:b≠S:=fun z=>by rw [z,h0] at e;cases e
   rw [Ag this]
   exact j8 b o e
 fresh:=fun i ys H h j=>j.2.2.1.1
 item:=fun A i s H ys E hh hi I j=>by
  obtain ⟨j1,j2,⟨j3,j4⟩,j5,j6,j7,j8⟩:=j
  obtain ⟨its,rv,p,hz⟩:=I.tuple j5
  have hl:=rv.length
  have D:=N6 (prog:=X.prog) (w:=X.w) (A:=A.in1) hh it a hai its.toArray
  refine Zge D j1 ⟨j2,p⟩ (by rw [O4];omega) hne (by simp [hne,P0 hae]) fun x h' tk hx st' it' ht hsz kk=>?_
  have I1:Inv X pins σ H { s with heap:=h',toks:=tk+1 }:=I.turned2 (fun b o h1 h2 e=>kk b o h1 h2 e) (fe.of j3) (fi.of j4)
  have hx':its[i]?=some x:=by simpa using hx
  have hxs:i < xs.length:=hi
  obtain ⟨u,hu,ru⟩:=rv.get (O1 hxs)
  rw [hx'] at hu
  cases hu
  have hf:H s.heap.objs.size=none:=I.hok.fresh (O2 _)
  have I2:Inv X pins σ (upd H s.heap.objs.size (.tup [.int i,xs[i]])) { s with heap:=h',toks:=tk+1 }:=by
   have hokN:HOk X.prog X.w (upd H s.heap.objs.size (.tup [.int i,xs[i]])) h':=fun b o e=>by
    by_cases hb:b=s.heap.objs.size
    ·subst hb
     rw [Ac] at e
     cases e
     exact ⟨by show 2<=sizeLine;decide,[.int i tk,x],.cons ⟨tk,rfl⟩ (.cons ru .nil),⟨_,ht,rfl,_,rfl⟩⟩
    ·rw [Ag hb] at e
     refine (I1.hok b o e).stay (fun c v _ q=>q) (fun c q=>?_) fun c zs q=>?_
     ·rw [Ag (Aw q hf)];exact q
     ·rw [Ag (Aw q hf)];exact q
   have u:Un (Cu X.stack) [en,it] H (upd H s.heap.objs.size (.tup [.int i,xs[i]])) s.heap h':={
    keep:=fun b o e n _ hx=>kk b o (fun z=>hx (by simp [z])) (fun z=>hx (by simp [z])) e
    slot:=fun b o e n _ hx=>⟨o.slots,kk b o (fun z=>hx (by simp [z])) (fun z=>hx (by simp [z])) e⟩
    free:=fun b o e n _=>by rw [Ag (Pe (O8 e))];exact n
    there:=fun b o e hx=>⟨o,kk b o (fun z=>hx (by simp [z])) (fun z=>hx (by simp [z])) e⟩
    tups:=fun b zs e=>by rw [Ag (Aw e hf)];exact e
    frzs:=fun b o u e=>by rw [Ag (Aw e hf)];exact e
    tbls:=fun b ps e=>⟨#[],by rw [Ag (Aw e hf),e];simp⟩ }
   refine I.call (g':=s.gens) (d':=s.drawn) (t':=tk+1) u hokN I.bare fun b hb=>?_
   rcases O5.mp hb with rfl | hb
   ·exact ⟨fe.2.2.2.1,fe.2.1,fe.2.2.2.2.1,fe.2.2.2.2.2⟩
   ·rw [Pi.mp hb]
    exact ⟨fi.2.2.2.1,fi.2.1,fi.2.2.2.2.1,fi.2.2.2.2.2⟩
  have sm:Same H (upd H s.heap.objs.size (.tup [.int i,xs[i]])):=Same.upd hf
  have ne1:en≠s.heap.objs.size:=by obtain ⟨_,e⟩:=j1.obj;exact Pe (O8 e)
  have ne2:it≠s.heap.objs.size:=by obtain ⟨_,e,_⟩:=j2;exact Pe (O8 e)
  refine ⟨_,.ref s.heap.objs.size,_,rfl,rfl,I2,⟨st',it'.1,⟨by rw [Ag ne1];exact j3,by rw [Ag ne2];exact j4⟩,j5.same sm,by simp [j6],fun m y hy=>?_,j8.trans sm⟩,fun S zs e=>sm S _ e⟩
  by_cases hm:m < i
  ·rw [Py (by omega)] at hy
   obtain ⟨t,z,e1,e2,e3⟩:=j7 m y hy
   exact ⟨t,z,e1,e2,sm _ _ e3⟩
  ·have hlen:=(Pa.mp hy).1
   rw [O7,Pr] at hlen
   have:m=i:=by omega
   subst this
   rw [Px (by omega),j6,Ri] at hy
   have hy:V.ref s.heap.objs.size=y:=by simpa using hy
   exact ⟨_,xs[m],hy.symm,O1 hxs,Ac⟩
 done:=fun A s H ys E hh I j=>by
  obtain ⟨j1,j2,⟨j3,j4⟩,j5,j6,j7,j8⟩:=j
  obtain ⟨its,rv,p,hz⟩:=I.tuple j5
  have hl:=rv.length
  have D:=N6 (prog:=X.prog) (w:=X.w) (A:=A.in1) hh it a hai its.toArray
  have e:xs.length=its.toArray.size:=by rw [O4];omega
  rw [e] at j1 j2
  refine Zpt D j1 ⟨j2,p⟩ fun h' eb=>⟨rfl,?_⟩
  obtain ⟨g0,g1,g2,g3,g4,g5⟩:=fi.of j4
  exact I.turned (t':=s.toks) (fun b o hb e=>eb b o hb e) g0 g1 g3 g4 g5
section
variable {X:Cx}
theorem L5:bootBuiltins "list" = some (.type "list"):=by decide +kernel
noncomputable def Oa (K:Oz)(ta:TA):TE:=fun σ H Q=>ta σ H fun vs H1=>∃ a xs,vs=[.ref a]/\SqT K H1 a xs /\
 ∀(S:Addr)(ys:List V)(H2:Hp),H1 S=none->Same H1 H2->ys.length=xs.length->Mb H2 xs ys->H2 S=some (.lst ys)->Q (.ref S) H2
theorem Zhg {e:Expr}{ta:TA}{p p2 pos pos2:Pos}(hg:Gl X "list")(hm:X.mg "list" = none)(hg2:Gl X "enumerate")(hm2:X.mg "enumerate" = none)(ha:QA X [e] ta)(hc:X.calm=true:=by rfl)
  (hs:starEach [.Call (.Name "enumerate" p2) [e] [] pos2] X.env=[(false,eval (.Call (.Name "enumerate" p2) [e] [] pos2) X.env)]:=by rfl) (hs2:starEach [e] X.env=[(false,eval e X.env)]:=by rfl) :
  QE X (.Call (.Name "list" p) [.Call (.Name "enumerate" p2) [e] [] pos2] [] pos) (Oa X.K ta):=by
 refine ⟨fun pins s σ H Q I h=>?_⟩
 refine Call_ (Dm I hg hm L5 (Qp ?_ hs rfl))
 rw [hs]
 show wpAny _ _ (spliced ((false,eval (.Call (.Name "enumerate" p2) [e] [] pos2) X.env)::[])) _ _ s
 refine Ro ?_
 refine Call_ (Dm I hg2 hm2 V2 (Qp (Aj (ha.run pos2 pins s σ H _ I h) fun us s1 zq=>?_) hs2 rfl))
 obtain ⟨vs,H1,I1,r1,q1⟩:=zq
 obtain ⟨a,xs,e1,hq,q⟩:=q1
 subst e1
 cases r1 with
 | cons r rr =>
  cases rr
  cases r
  obtain ⟨its,rv,pt,hz⟩:=I1.tuple hq
  have hlt:a < s1.heap.objs.size:=by obtain ⟨o,e,_⟩:=id pt;exact O8 e
  refine Zhw (show s1.heap.IsTuple a its.toArray from pt) fun h' hen hit hsz hk=>?_
  refine R8 ?_
  have I2:Inv X pins σ H1 { s1 with heap:=h' }:=I1.kept (t':=s1.toks) hk
  have fe:=I1.fpOk (b:=s1.heap.objs.size+1) (Tk _) (I1.hok.fresh (Tk _))
  have fi:=I1.fpOk (b:=s1.heap.objs.size) (O2 _) (I1.hok.fresh (O2 _))
  have C:=Zmj (X:=X) (pins:=pins) (σ:=σ) (H0:=H1) (en:=s1.heap.objs.size+1) (it:=s1.heap.objs.size) (a:=a) (xs:=xs) fe fi (Nat.succ_ne_self _) (Pe (Sx hlt)) (Pe hlt)
  refine M8 C (by omega) (I1.ok.hd hc) I2 ⟨.inl ⟨rfl,_,hen⟩,hit,⟨fe.1,fi.1⟩,hq,rfl,fun j y hy=>by simp at hy,Same.refl _⟩ (fun S hge hS h2 k2=>?_) fun S H' ys hS hS' hl' hj=>?_
  ·have sm:Same H1 (upd H1 S (.lst [])):=Same.upd hS
   refine ⟨.inl ⟨rfl,_,k2 _ _ hen⟩,hit.at fun o e=>k2 _ _ e,⟨?_,?_⟩,hq.same sm,rfl,fun j y hy=>by simp at hy,sm⟩
   ·rw [Ag (show s1.heap.objs.size+1≠S from fun z=>?_)]
    ·exact fe.1
    ·have hge:h'.objs.size<=S:=hge
     omega
   ·rw [Ag (show s1.heap.objs.size≠S from fun z=>?_)]
    ·exact fi.1
    ·have hge:h'.objs.size<=S:=hge
     omega
  ·obtain ⟨h,j⟩:=hj
   exact q S ys H' hS j.2.2.2.2.2.2 hl' j.2.2.2.2.2.1 hS'
end
noncomputable def Go (K:Oz)(a:Addr)(n:Nat):It :=
 ⟨fun i H=>∃ xs,SqL K H a xs/\xs.length=n/\i < n,fun i H x H'=>∃(t:Addr)(y:V),H t=none/\(∀ xs,SqL K H a xs->xs[i]?=some y)/\x=.ref t/\H'=upd H t (.tup [.int i,y]),fun i H=>i=n/\∃ xs,SqL K H a xs/\xs.length=n⟩
theorem Inv.pair {X:Cx}{pins:List (Addr×Obj)}{σ:St}{H:Hp}{s:Shared}{h':Heap}{tk:Nat}{i1 i2 T:Addr}{xs:List V}{its:List Value}(I:Inv X pins σ H s)(f1:FpOk X pins H i1)(f2:FpOk X pins H i2)
  (kk:∀ b o,b≠i1->b≠i2->s.heap.get? b=some o->h'.get? b=some o) (hT:s.heap.objs.size<=T) (rv:Vals xs its) (hz:xs.length<=sizeLine) (ht:h'.IsTuple T its.toArray):Inv X pins σ (upd H T (.tup xs)) { s with heap:=h',toks:=tk }:=by
 have hf:H T=none:=I.hok.fresh hT
 have I1:Inv X pins σ H { s with heap:=h',toks:=tk }:=I.turned2 kk f1 f2
 have hokN:HOk X.prog X.w (upd H T (.tup xs)) h':=fun b o e=>by
  by_cases hb:b=T
  ·subst hb
   rw [Ac] at e
   cases e
   exact ⟨hz,its,rv,ht⟩
  ·rw [Ag hb] at e
   refine (I1.hok b o e).stay (fun c v _ q=>q) (fun c q=>?_) fun c zs q=>?_
   ·rw [Ag (Aw q hf)];exact q
   ·rw [Ag (Aw q hf)];exact q
 have u:Un (Cu X.stack) [i1,i2] H (upd H T (.tup xs)) s.heap h':={
  keep:=fun b o e n _ hx=>kk b o (fun z=>hx (by simp [z])) (fun z=>hx (by simp [z])) e
  slot:=fun b o e n _ hx=>⟨o.slots,kk b o (fun z=>hx (by simp [z])) (fun z=>hx (by simp [z])) e⟩
  free:=fun b o e n _=>by rw [Ag (Pe (Pl (O8 e) hT))];exact n
  there:=fun b o e hx=>⟨o,kk b o (fun z=>hx (by simp [z])) (fun z=>hx (by simp [z])) e⟩
  tups:=fun b zs e=>by rw [Ag (Aw e hf)];exact e
  frzs:=fun b o u e=>by rw [Ag (Aw e hf)];exact e
  tbls:=fun b ps e=>⟨#[],by rw [Ag (Aw e hf),e];simp⟩ }
 refine I.call (g':=s.gens) (d':=s.drawn) (t':=tk) u hokN I.bare fun b hb=>?_
 rcases O5.mp hb with rfl | hb
 ·exact ⟨f1.2.2.2.1,f1.2.1,f1.2.2.2.2.1,f1.2.2.2.2.2⟩
 ·rw [Pi.mp hb]
  exact ⟨f2.2.2.2.1,f2.2.1,f2.2.2.2.2.1,f2.2.2.2.2.2⟩
theorem Zo7 {P:Program}{w:World}{K:Oz}{elts:List Expr}{kt:Nat}{pt:Pos}(a en it:Addr)(n:Nat)(hne:en≠it)(hae:a≠en)(hai:a≠it):Ey P w K (.Tuple elts kt pt) (Go K a n) [en,it] en (fun i h=>(∃ old,IsEnum h en it i old)/\h.IsListIter it a i) where
 mem:=by simp
 obj:=fun i h st b hb=>by
  rcases O5.mp hb with rfl | hb
  ·obtain ⟨old,e⟩:=st.1
   exact ⟨_,e,fun v z=>by
    have z':Data.fields _=Data.cell v:=z
    cases z'⟩
  ·rw [Pi.mp hb]
   obtain ⟨o,e,c,d⟩:=st.2
   exact ⟨o,e,fun v z=>by rw [d] at z;cases z⟩
 keep:=fun i h h' st k=>⟨let ⟨old,e⟩:=st.1;⟨old,k en (by simp) _ e⟩,st.2.at fun o e=>k it (by simp) o e⟩
 item:=by
  intro X hP hw hK hc i pins s σ H E I hf st hg
  subst hP hw hK
  obtain ⟨xs,hq,hl,hi⟩:=hg
  obtain ⟨its,rv,p,hz⟩:=I.list hq
  have hlen:=rv.length
  have fe:=hf en (by simp)
  have fi:=hf it (by simp)
  have W:=WalksT.enumerateD (prog:=X.prog) (w:=X.w) (A:=X.A) (Ru (A:=X.A.in1) (I.ok.hd hc) it a hai its.toArray) en hne (by simp [hne,P0 hae]) (by simp)
  refine W.item i s _ _ (by rw [O4];omega) ⟨st.1,st.2,p.isList⟩ fun T vals h1 tk hP hT ht mid k1=>?_
  obtain ⟨t,x,hx,rfl⟩:=hP
  refine ⟨_,rfl,W.go elts kt pt i T _ _ _ mid fun h2 st2 k2=>?_⟩
  have hx':its[i]?=some x:=by simpa using hx
  have hxs:i < xs.length:=by omega
  obtain ⟨u,hu,ru⟩:=rv.get (O1 hxs)
  rw [hx'] at hu
  cases hu
  have hTw:T ∉ [en,it]:=W.apart i T _ mid
  have ht2:h2.IsTuple T ([.int i t,x]:List Value).toArray:=by
   obtain ⟨o,eo,r⟩:=ht
   exact ⟨o,k2 T o hTw eo,r⟩
  have kk:∀ b o,b≠en->b≠it->s.heap.get? b=some o->h2.get? b=some o:=fun b o h1 h3 e=>k2 b o (by simp [h1,h3]) (k1 b o (by simp [h1,h3]) e)
  have I2:=I.pair (tk:=tk) (T:=T) (xs:=[.int i,xs[i]]) fe fi kk hT (.cons ⟨t,rfl⟩ (.cons ru .nil)) (by show 2<=sizeLine;decide) ht2
  refine ⟨.ref T,_,I2,rfl,⟨T,xs[i],I.hok.fresh hT,fun ys hy=>by rw [I.list_inj hy hq];exact O1 hxs,rfl,rfl⟩,⟨st2.1,st2.2.1⟩,fun b hb=>?_⟩
  have hb':b≠T:=fun z=>hTw (z ▸ hb)
  rw [Ag hb']
  exact (hf b hb).1
 done:=by
  intro X hP hw hK hc i pins s σ H E I hf st hg
  subst hP hw hK
  obtain ⟨rfl,xs,hq,hl⟩:=hg
  obtain ⟨its,rv,p,hz⟩:=I.list hq
  have hlen:=rv.length
  have fe:=hf en (by simp)
  have fi:=hf it (by simp)
  have W:=WalksT.enumerateD (prog:=X.prog) (w:=X.w) (A:=X.A) (Ru (A:=X.A.in1) (I.ok.hd hc) it a hai its.toArray) en hne (by simp [hne,P0 hae]) (by simp)
  have e:i=its.toArray.size:=by rw [O4];omega
  rw [e] at st
  exact W.done s _ _ ⟨st.1,st.2,p.isList⟩ fun h' tk kk=>⟨rfl,I.turned2 (fun b o h1 h2 e=>kk b o (by simp [h1,h2]) e) fe fi⟩
 self:=fun A i s Q E st h=>by
  obtain ⟨old,e⟩:=st.1
  exact Vk e h
section
variable {X:Cx}
noncomputable def Mx (K:Oz)(ta:TA):TI:=fun σ H R=>ta σ H fun vs H1=>∃ a xs,vs=[.ref a]/\SqL K H1 a xs/\R (Go K a xs.length) H1
theorem Zog {elts:List Expr}{kt:Nat}{pt:Pos}{e:Expr}{ta:TA}{p pos:Pos}(hg:Gl X "enumerate")(hm:X.mg "enumerate" = none)(ha:QA X [e] ta)(hs:starEach [e] X.env=[(false,eval e X.env)]:=by rfl):QI X (.Tuple elts kt pt) (.Call (.Name "enumerate" p) [e] [] pos) (Mx X.K ta):=by
 refine ⟨fun pins s σ H R I h=>?_⟩
 refine Call_ (Dm I hg hm V2 (Qp (Aj (ha.run pos pins s σ H _ I h) fun us s1 zq=>?_) hs rfl))
 obtain ⟨vs,H1,I1,r1,q1⟩:=zq
 obtain ⟨l,xs,e1,hq,q⟩:=q1
 subst e1
 cases r1 with
 | cons r rr =>
  cases rr
  cases r
  obtain ⟨its,rv,pl,hz⟩:=I1.list hq
  have hlt:l < s1.heap.objs.size:=by obtain ⟨o,e,_⟩:=pl.isList;exact O8 e
  refine call_enumerate_list pl.isList fun h' hen hit hsz hk=>?_
  refine Vk hen ?_
  have fe:=I1.fpOk (b:=s1.heap.objs.size+1) (Tk _) (I1.hok.fresh (Tk _))
  have fi:=I1.fpOk (b:=s1.heap.objs.size) (O2 _) (I1.hok.fresh (O2 _))
  refine ⟨s1.heap.objs.size+1,[s1.heap.objs.size+1,s1.heap.objs.size],_,_,H1,rfl,I1.kept (t':=s1.toks) hk,Zo7 l _ _ xs.length (Nat.succ_ne_self _) (Pe (Sx hlt)) (Pe hlt),⟨⟨_,hen⟩,hit⟩,fun b hb=>?_,q⟩
  rcases O5.mp hb with rfl | hb
  ·exact fe
  ·rw [Pi.mp hb]
   exact fi
theorem Jv {K:Oz}{a:Addr}{xs:List V}{g:TG}{tb:TS}{D:Cv}{σ:St}{H:Hp}(Pv:Nat->St->Hp->Prop)(h0:Pv 0 σ H)(hl:∀ i σ H,i<=xs.length->Pv i σ H->SqL K H a xs)
  (hs:∀ i x t σ H,xs[i]?=some x->H t=none->Pv i σ H->g (.ref t) σ (upd H t (.tup [.int i,x])) fun σ2 H2=>tb { D with nx:=Pv (i+1),ct:=Pv (i+1),bk:=D.nx } σ2 H2) (hd:∀ σ H,Pv xs.length σ H->D.nx σ H) :
  ∃ W:Nat->Nat->St->Hp->Prop,(∃ m,W 0 m σ H)/\∀ i m σ H,W i m σ H ->
   ((Go K a xs.length).stop i H/\D.nx σ H)\/((Go K a xs.length).go i H/\∃ N:St->Hp->Prop,(∀ σ' H',N σ' H'->∃ m',m' < m/\W (i+1) m' σ' H')/\∀ x H',(Go K a xs.length).yld i H x H'->g x σ H' fun σ2 H2=>tb { D with nx:=N,ct:=N,bk:=D.nx } σ2 H2):=by
 refine ⟨fun i m σ H=>m=xs.length - i/\i<=xs.length/\Pv i σ H,⟨xs.length,by simp,Pp _,h0⟩,?_⟩
 rintro i m σ H ⟨rfl,hi,p⟩
 have q:=hl i σ H hi p
 by_cases hlt:i < xs.length
 ·refine .inr ⟨⟨xs,q,rfl,hlt⟩,Pv (i+1),fun σ' H' p'=>⟨xs.length - (i+1),by omega,rfl,hlt,p'⟩,fun x H' y=>?_⟩
  obtain ⟨t,y,ht,hy,rfl,rfl⟩:=y
  exact hs i y t σ _ (hy xs q) ht p
 ·have e:i=xs.length:=by omega
  subst e
  exact .inl ⟨⟨rfl,xs,q,rfl⟩,hd σ H p⟩
end
end L2
namespace L2
open PySem PySem.SeqAt
open PySem.AutoSeq1 (wpAny_loadPart')
open PySem.MeetsSeq PySem.MeetsSeq2 PySem.MeetsSeq3 PySem.SeqRoads2
theorem Zof (l b:Addr)(items items2:Array Value)(n n2:Nat)(dd dd2:Option Addr)(sl sl2:Array (Option Value))(hsz:items.size=items2.size)(e:Nat->Bool)(k:Nat) :
  ∀ i:Nat,items.size - i=k->Meets (Builtin.«list.__eq__.loop» ⟨[.ref l,.ref b,rawInt i,rawInt 3],[]⟩)
   (fun A R s=>s.heap.get? l=some { cls:=.type "list",dict:=dd,data:=.seq items n,slots:=sl }/\s.heap.get? b=some { cls:=.type "list",dict:=dd2,data:=.seq items2 n2,slots:=sl2 } /\
    (∀ j (h1:j < items.size) (h2:j < items2.size),EqAt A.in1 s items[j] items2[j] (e j)) /\
    R (.ok (.ret (.bool (!((Pk items.size).drop i).all e)))) s):=by
 induction k with
 | zero =>
  intro i hk prog w A R s h
  obtain ⟨hp,g,d,tk,os⟩:=s;obtain ⟨hl,hb,he,h⟩:=h
  wp_walk using wpAny_loadPart' hl,wpAny_loadPart' hb
  have hi1:items[((i:Nat):Int).toNat]?=none:=by simp;omega
  have hi2:items2[((i:Nat):Int).toNat]?=none:=by simp;omega
  have hd:(Pk items.size).drop i=[]:=by simp;omega
  rw [hd] at h
  rw [hi1,hi2]
  wp_walk using wpAny_loadPart' hl,wpAny_loadPart' hb
  show R (.ok (.ret (.bool (items.size != items2.size)))) _
  rw [hsz]
  simpa using h
 | succ k ih =>
  intro i hk prog w A R s h
  obtain ⟨hp,g,d,tk,os⟩:=s;obtain ⟨hl,hb,he,h⟩:=h
  wp_walk using wpAny_loadPart' hl,wpAny_loadPart' hb
  have hlt:i < items.size:=by omega
  have hlt2:i < items2.size:=by omega
  have hi1:items[((i:Nat):Int).toNat]?=some items[i]:=by simp [hlt]
  have hi2:items2[((i:Nat):Int).toNat]?=some items2[i]:=by simp [hlt2]
  have hd:(Pk items.size).drop i=i::(Pk items.size).drop (i+1):=by simp [Q9,hlt]
  have hc:((i:Int)+1)=((i+1:Nat):Int):=by push_cast;rfl
  rw [hd,Uq] at h
  rw [hi1,hi2]
  refine O0 (he i hlt hlt2 prog w _ _ ?_)
  cases hb':e i with
  | true =>
   rw [hb'] at h
   wp_walk
   rw [hc]
   exact ⟨Ti plain_eq_loop _,Uk entry_eq_loop (by
    rw [T8 plain_eq_loop _]
    exact ih (i+1) (by omega) prog w A R _ ⟨hl,hb,he,by simpa using h⟩)⟩
  | false =>
   rw [hb'] at h
   wp_walk using wpAny_loadPart' hl,wpAny_loadPart' hb
   rw [hi1,hi2]
   wp_walk
   simpa using h
theorem Zmb (l b:Addr)(items items2:Array Value)(n n2:Nat)(dd dd2:Option Addr)(sl sl2:Array (Option Value))(hsz:items.size=items2.size)(e:Nat->Bool) :
  Meets (Builtin.«list.__ne__» ⟨[.ref l,.ref b],[]⟩)
   (fun A R s=>s.heap.get? l=some { cls:=.type "list",dict:=dd,data:=.seq items n,slots:=sl }/\s.heap.get? b=some { cls:=.type "list",dict:=dd2,data:=.seq items2 n2,slots:=sl2 } /\
    (∀ j (h1:j < items.size) (h2:j < items2.size),EqAt A.in1 s items[j] items2[j] (e j)) /\
    R (.ok (.ret (.bool (!(Pk items.size).all e)))) s):=by
 intro prog w A R s h
 obtain ⟨hp,g,d,tk,os⟩:=s;obtain ⟨hl,hb,he,h⟩:=h
 have f3:=PySem.AutoSeq1.sub_list_list
 have hne:¬ (items.size != items2.size)=true:=by simp [hsz]
 wp_walk using wpAny_loadPart' hl,wpAny_loadPart' hb
 exact ⟨Ti plain_eq_loop _,Uk entry_eq_loop (by
  rw [T8 plain_eq_loop _]
  exact Zof l b items items2 n n2 dd dd2 sl sl2 hsz e _ 0 rfl prog w A R _ ⟨hl,hb,he,by simpa using h⟩)⟩
theorem Zgy (l b:Addr)(items items2:Array Value)(n n2:Nat)(dd dd2:Option Addr)(sl sl2:Array (Option Value))(e:Nat->Bool) :
  Meets (Builtin.«tuple.__ne__» ⟨[.ref l,.ref b],[]⟩)
   (fun A R s=>s.heap.get? l=some { cls:=.type "tuple",dict:=dd,data:=.seq items n,slots:=sl }/\s.heap.get? b=some { cls:=.type "tuple",dict:=dd2,data:=.seq items2 n2,slots:=sl2 } /\
    (∀ j (h1:j < items.size) (h2:j < items2.size),EqAt A.in1 s items[j] items2[j] (e j)) /\
    R (.ok (.ret (.bool (!((Pk (min items.size items2.size)).all e && items.size == items2.size))))) s) :=
 .of_wp fun prog w A R s h=>by
  obtain ⟨hp,g,d,tk,os⟩:=s;obtain ⟨hl,hb,he,h⟩:=h
  have f2:=PySem.AutoSeq1.sub_tuple_tuple
  have hZ:(items.toList.zip items2.toList).length=min items.size items2.size:=by simp
  wp_walk using wpAny_loadPart' hl,wpAny_loadPart' hb,wpAny_forIn_list _ (fun rest b s'=>b.1=none/\s'=⟨hp,g,d,tk,os⟩/\∃ i,rest=(items.toList.zip items2.toList).drop i /\
   R (.ok (.ret (.bool (!(((Pk (min items.size items2.size)).drop i).all e && items.size == items2.size))))) ⟨hp,g,d,tk,os⟩) _
  case turn =>
   rintro ⟨y,x⟩ rest b s' ⟨hb',rfl,i,hz,hR⟩
   have hlt:i < (items.toList.zip items2.toList).length:=by
    rcases Nat.lt_or_ge i (items.toList.zip items2.toList).length with h' | h'
    ·exact h'
    ·rw [So h'] at hz;cases hz
   have hm:i < min items.size items2.size:=hZ ▸ hlt
   have h1:i < items.size:=Pl hm (Nat.min_le_left _ _)
   have h2:i < items2.size:=Pl hm (Nat.min_le_right _ _)
   rw [Q9 hlt] at hz
   injection hz with hyx hrest
   have hy:y=items[i]:=by have:=congrArg Prod.fst hyx;simpa using this
   have hx:x=items2[i]:=by have:=congrArg Prod.snd hyx;simpa using this
   subst hy hx
   have hd:(Pk (min items.size items2.size)).drop i=i::(Pk (min items.size items2.size)).drop (i+1):=by simp [Q9,hm]
   rw [hd,Uq] at hR
   refine O0 (he i h1 h2 prog w _ _ ?_)
   cases hy:e i with
   | true =>
    rw [hy] at hR
    wp_walk
    exact ⟨rfl,rfl,i+1,hrest,by simpa using hR⟩
   | false =>
    rw [hy] at hR
    wp_walk
    exact ⟨_,rfl,by simpa using hR⟩
  case fin =>
   rintro ⟨b1,b2⟩ s' ⟨hb',rfl,i,hz,hR⟩
   simp only at hb'
   subst hb'
   have hge:min items.size items2.size<=i:=by
    rcases Nat.lt_or_ge i (items.toList.zip items2.toList).length with h' | h'
    ·rw [Q9 h'] at hz;cases hz
    ·exact hZ ▸ h'
   rw [So (by simpa using hge)] at hR
   wp_walk
   exact ⟨_,rfl,by simpa [Builtin.Tuple.tupleCompareSizes,bne] using hR⟩
  case h =>
   exact ⟨rfl,rfl,0,rfl,by simpa using h⟩
section
variable {prog:Program}{w:World}{A:Around}{E:Value->Shared->Prop}{s:Shared}
theorem Zhq {l b:Addr}{items items2:Array Value}{e:Nat->Bool}{Q:Value->Shared->Prop}(hl:s.heap.IsList l items)(hb:s.heap.IsList b items2)(hsz:items.size=items2.size)(hu:A.units < cLine)
  (he:∀ j (h1:j < items.size) (h2:j < items2.size),EqAt A.in1 s items[j] items2[j] (e j)) (h:Q (.bool (!(Pk items.size).all e)) s):wpAny (model prog w) A (compareOp .NotEq (.ref l) (.ref b)) Q E s:=by
 obtain ⟨⟨cls,dd,data,sl⟩,ho,hc,n,hd⟩:=id hl
 obtain ⟨⟨cls2,dd2,data2,sl2⟩,ho2,hc2,n2,hd2⟩:=id hb
 simp only at hc hd hc2 hd2
 subst hc hd hc2 hd2
 exact richCompare_meets_room (op:=.NotEq) ⟨_,ho,rfl⟩ ⟨_,ho2,rfl⟩ F.slot_list_ne F.entry_list_ne (F.args_list_ne_2 _ _) (Zmb l b items items2 n n2 dd dd2 sl sl2 hsz e)
  ⟨ho,ho2,he,show Value.bool (!(Pk items.size).all e)≠Value.notImplemented/\Q (.bool (!(Pk items.size).all e)) s from ⟨(fun x=>nomatch x),h⟩⟩ hu
theorem Zcd {l b:Addr}{items items2:Array Value}{e:Nat->Bool}{Q:Value->Shared->Prop}(hl:s.heap.IsTuple l items)(hb:s.heap.IsTuple b items2)(hu:A.units < cLine)
  (he:∀ j (h1:j < items.size) (h2:j < items2.size),EqAt A.in1 s items[j] items2[j] (e j)) (h:Q (.bool (!((Pk (min items.size items2.size)).all e && items.size == items2.size))) s):wpAny (model prog w) A (compareOp .NotEq (.ref l) (.ref b)) Q E s:=by
 obtain ⟨⟨cls,dd,data,sl⟩,ho,hc,n,hd⟩:=id hl
 obtain ⟨⟨cls2,dd2,data2,sl2⟩,ho2,hc2,n2,hd2⟩:=id hb
 simp only at hc hd hc2 hd2
 subst hc hd hc2 hd2
 exact richCompare_meets_room (op:=.NotEq) ⟨_,ho,rfl⟩ ⟨_,ho2,rfl⟩ F.slot_tuple_ne F.entry_tuple_ne (F.args_tuple_ne_2 _ _) (Zgy l b items items2 n n2 dd dd2 sl sl2 e)
  ⟨ho,ho2,he,show Value.bool (!((Pk (min items.size items2.size)).all e && items.size == items2.size))≠Value.notImplemented/\Q (.bool (!((Pk (min items.size items2.size)).all e && items.size == items2.size))) s from ⟨(fun x=>nomatch x),h⟩⟩ hu
end
end L2
namespace L2
open PySem PySem.Spec PyProof.Rows
inductive Dt where
 | flat (v:V)
 | tup (ds:List Dt)
 | lst (ds:List Dt)
inductive IsD (K:Oz)(H:Hp):Nat->V->Dt->Prop where
 | flat {n:Nat} {v:V} (h:Cz v=true):IsD K H n v (.flat v)
 | tup {n:Nat} {a:Addr} {vs:List V} {ds:List Dt} (q:SqT K H a vs) (l:vs.length=ds.length) (h:∀(j:Nat)(v:V)(d:Dt),vs[j]?=some v->ds[j]?=some d->IsD K H n v d):IsD K H (n+1) (.ref a) (.tup ds)
 | lst {n:Nat} {a:Addr} {vs:List V} {ds:List Dt} (q:SqL K H a vs) (l:vs.length=ds.length) (h:∀(j:Nat)(v:V)(d:Dt),vs[j]?=some v->ds[j]?=some d->IsD K H n v d):IsD K H (n+1) (.ref a) (.lst ds)
theorem IsD.up {K:Oz}{H:Hp}{n m:Nat}{v:V}{d:Dt}(h:IsD K H n v d)(hm:n<=m):IsD K H m v d:=by
 induction h generalizing m with
 | flat h=>exact .flat h
 | tup q l _ ih =>
  obtain ⟨k,rfl⟩:∃ k,m=k+1:=⟨m - 1,by omega⟩
  exact .tup q l fun j v d e1 e2=>ih j v d e1 e2 (by omega)
 | lst q l _ ih =>
  obtain ⟨k,rfl⟩:∃ k,m=k+1:=⟨m - 1,by omega⟩
  exact .lst q l fun j v d e1 e2=>ih j v d e1 e2 (by omega)
theorem Zez {v:V}(h:Cz v=true):D6 v v=true:=by
 cases v with
 | non=>rfl
 | bl b=>simp [D6]
 | int i=>simp [D6]
 | str x=>simp [D6]
 | byt _=>cases h
 | flt _=>cases h
 | ref _=>cases h
 | ty _=>cases h
section
variable {X:Cx}{pins:List (Addr×Obj)}{σ:St}{H:Hp}{s:Shared}
theorem Zjw (I:Inv X pins σ H s):∀{n:Nat}{x y:V}{d:Dt},IsD X.K H n x d->IsD X.K H n y d->∀{A:Around}{u v:Value},RelV x u->RelV y v->A.units+n < cLine->Pc A s u v true:=by
 intro n
 induction n with
 | zero =>
  intro x y d hx hy A u v rx ry hu
  cases hx with
  | flat fx =>
   cases hy with
   | flat fy =>
    have:=Nd (A:=A) (s:=s) rx ry fx fy
    rw [Zez fx] at this
    exact this
 | succ n ih =>
  intro x y d hx hy A u v rx ry hu
  cases hx with
  | flat fx =>
   cases hy with
   | flat fy =>
    have:=Nd (A:=A) (s:=s) rx ry fx fy
    rw [Zez fx] at this
    exact this
  | @tup _ a vs ds q l h =>
   cases hy with
   | @tup _ b ws _ q' l' h' =>
    cases rx
    cases ry
    by_cases hab:a=b
    ·subst hab
     exact Uh _
    obtain ⟨its,r1,p1,_⟩:=I.tuple q
    obtain ⟨its2,r2,p2,_⟩:=I.tuple q'
    have l1:=r1.length
    have l2:=r2.length
    have:=Vl (A:=A) (e:=fun _=>true) (show s.heap.IsTuple a its.toArray from p1) (show s.heap.IsTuple b its2.toArray from p2) (by omega) fun j h1 h2=>by
     have h1':j < vs.length:=by simp only [O4] at h1;omega
     have h2':j < ws.length:=by simp only [O4] at h2;omega
     obtain ⟨u1,g1,k1⟩:=r1.get (O1 h1')
     obtain ⟨u2,g2,k2⟩:=r2.get (O1 h2')
     have e1:its.toArray[j]=u1:=by
      have:its[j]?=some its[j]:=by simp
      rw [this] at g1
      simpa using g1
     have e2:its2.toArray[j]=u2:=by
      have:its2[j]?=some its2[j]:=by simp
      rw [this] at g2
      simpa using g2
     rw [e1,e2]
     have hd:j < ds.length:=by omega
     exact ih (h j _ _ (O1 h1') (O1 hd)) (h' j _ _ (O1 h2') (O1 hd)) k1 k2 (by show A.units+1+n < cLine;omega)
    have e:((Pk (min its.toArray.size its2.toArray.size)).all (fun _=>true) && its.toArray.size == its2.toArray.size)=true:=by
     have:its.toArray.size=its2.toArray.size:=by simp only [O4];omega
     rw [this]
     simp
    rw [e] at this
    exact Vf hab this
  | @lst _ a vs ds q l h =>
   cases hy with
   | @lst _ b ws _ q' l' h' =>
    cases rx
    cases ry
    by_cases hab:a=b
    ·subst hab
     exact Uh _
    obtain ⟨its,r1,p1,_⟩:=I.list q
    obtain ⟨its2,r2,p2,_⟩:=I.list q'
    have l1:=r1.length
    have l2:=r2.length
    have:=Tl.lists (A:=A) (e:=fun _=>true) p1.isList p2.isList (by simp only [O4];omega) (by omega) fun j h1 h2=>by
     have h1':j < vs.length:=by simp only [O4] at h1;omega
     have h2':j < ws.length:=by simp only [O4] at h2;omega
     obtain ⟨u1,g1,k1⟩:=r1.get (O1 h1')
     obtain ⟨u2,g2,k2⟩:=r2.get (O1 h2')
     have e1:its.toArray[j]=u1:=by
      have:its[j]?=some its[j]:=by simp
      rw [this] at g1
      simpa using g1
     have e2:its2.toArray[j]=u2:=by
      have:its2[j]?=some its2[j]:=by simp
      rw [this] at g2
      simpa using g2
     rw [e1,e2]
     have hd:j < ds.length:=by omega
     exact ih (h j _ _ (O1 h1') (O1 hd)) (h' j _ _ (O1 h2') (O1 hd)) k1 k2 (by show A.units+1+n < cLine;omega)
    have e:(Pk its.toArray.size).all (fun _=>true)=true:=by simp
    rw [e] at this
    exact Vf hab this
theorem Kf (I:Inv X pins σ H s){n:Nat}{A:Around}{vs ws:List V}{its its2:List Value}{ds:List Dt}(r1:Vals vs its)(r2:Vals ws its2)(l:vs.length=ds.length)(l':ws.length=ds.length)
  (h:∀(j:Nat)(v:V)(d:Dt),vs[j]?=some v->ds[j]?=some d->IsD X.K H n v d) (h':∀(j:Nat)(v:V)(d:Dt),ws[j]?=some v->ds[j]?=some d->IsD X.K H n v d) (hu:A.units+n < cLine) :
  ∀ j (h1:j < its.toArray.size) (h2:j < its2.toArray.size),Pc A s its.toArray[j] its2.toArray[j] ((fun _=>true) j):=fun j h1 h2=>by
 have l1:=r1.length
 have l2:=r2.length
 have h1':j < vs.length:=by simp only [O4] at h1;omega
 have h2':j < ws.length:=by simp only [O4] at h2;omega
 obtain ⟨u1,g1,k1⟩:=r1.get (O1 h1')
 obtain ⟨u2,g2,k2⟩:=r2.get (O1 h2')
 have e1:its.toArray[j]=u1:=by
  have:its[j]?=some its[j]:=by simp
  rw [this] at g1
  simpa using g1
 have e2:its2.toArray[j]=u2:=by
  have:its2[j]?=some its2[j]:=by simp
  rw [this] at g2
  simpa using g2
 rw [e1,e2]
 have hd:j < ds.length:=by omega
 exact Zjw I (h j _ _ (O1 h1') (O1 hd)) (h' j _ _ (O1 h2') (O1 hd)) k1 k2 hu
end
section
variable {X:Cx}
noncomputable def K4 (K:Oz)(b:Bool):R2:=fun x y H Q=>∃(a c:Addr)(n:Nat)(d:Dt),x=.ref a/\y=.ref c/\n<=190/\IsD K H n x d/\IsD K H n y d/\Q (.bl b) H
theorem Zl6 (hu:X.A.units+200 < cLine):OpR X (compareOp .Eq) (K4 X.K true):=by
 intro pins s σ H x y v u Q I rx ry h
 obtain ⟨a,c,n,d,rfl,rfl,hn,hx,hy,q⟩:=h
 cases rx
 cases ry
 cases hx with
 | flat fx=>cases fx
 | @tup n _ vs ds qx l hd =>
  cases hy with
  | @tup _ _ ws _ qy l' hd' =>
   obtain ⟨its,r1,p1,_⟩:=I.tuple qx
   obtain ⟨its2,r2,p2,_⟩:=I.tuple qy
   have l1:=r1.length
   have l2:=r2.length
   refine SeqAt.eq_tupleAt (e:=fun _=>true) (show s.heap.IsTuple a its.toArray from p1) (show s.heap.IsTuple c its2.toArray from p2) (by omega) (Kf I r1 r2 l l' hd hd' (by show X.A.units+1+n < cLine;omega)) ?_
   have e:((Pk (min its.toArray.size its2.toArray.size)).all (fun _=>true) && its.toArray.size == its2.toArray.size)=true:=by
    have:its.toArray.size=its2.toArray.size:=by simp only [O4];omega
    rw [this]
    simp
   rw [e]
   exact ⟨.bl true,H,I,rfl,q⟩
 | @lst n _ vs ds qx l hd =>
  cases hy with
  | @lst _ _ ws _ qy l' hd' =>
   obtain ⟨its,r1,p1,_⟩:=I.list qx
   obtain ⟨its2,r2,p2,_⟩:=I.list qy
   have l1:=r1.length
   have l2:=r2.length
   refine SeqAt.eq_listAt (e:=fun _=>true) p1.isList p2.isList (by simp only [O4];omega) (by omega) (Kf I r1 r2 l l' hd hd' (by show X.A.units+1+n < cLine;omega)) ?_
   have e:(Pk its.toArray.size).all (fun _=>true)=true:=by simp
   rw [e]
   exact ⟨.bl true,H,I,rfl,q⟩
theorem Zp8 (hu:X.A.units+200 < cLine):OpR X (compareOp .NotEq) (K4 X.K false):=by
 intro pins s σ H x y v u Q I rx ry h
 obtain ⟨a,c,n,d,rfl,rfl,hn,hx,hy,q⟩:=h
 cases rx
 cases ry
 cases hx with
 | flat fx=>cases fx
 | @tup n _ vs ds qx l hd =>
  cases hy with
  | @tup _ _ ws _ qy l' hd' =>
   obtain ⟨its,r1,p1,_⟩:=I.tuple qx
   obtain ⟨its2,r2,p2,_⟩:=I.tuple qy
   have l1:=r1.length
   have l2:=r2.length
   refine Zcd (e:=fun _=>true) (show s.heap.IsTuple a its.toArray from p1) (show s.heap.IsTuple c its2.toArray from p2) (by omega) (Kf I r1 r2 l l' hd hd' (by show X.A.units+1+n < cLine;omega)) ?_
   have e:(!((Pk (min its.toArray.size its2.toArray.size)).all (fun _=>true) && its.toArray.size == its2.toArray.size))=false:=by
    have:its.toArray.size=its2.toArray.size:=by simp only [O4];omega
    rw [this]
    simp
   rw [e]
   exact ⟨.bl false,H,I,rfl,q⟩
 | @lst n _ vs ds qx l hd =>
  cases hy with
  | @lst _ _ ws _ qy l' hd' =>
   obtain ⟨its,r1,p1,_⟩:=I.list qx
   obtain ⟨its2,r2,p2,_⟩:=I.list qy
   have l1:=r1.length
   have l2:=r2.length
   refine Zhq (e:=fun _=>true) p1.isList p2.isList (by simp only [O4];omega) (by omega) (Kf I r1 r2 l l' hd hd' (by show X.A.units+1+n < cLine;omega)) ?_
   have e:(!(Pk its.toArray.size).all (fun _=>true))=false:=by simp
   rw [e]
   exact ⟨.bl false,H,I,rfl,q⟩
noncomputable def Le (K:Oz):R2:=fun x y H Q=>rEq x y H Q\/K4 K true x y H Q
noncomputable def Hj (K:Oz):R2:=fun x y H Q=>rNe x y H Q\/K4 K false x y H Q
theorem Zb2 (hu:X.A.units+200 < cLine):OpR X (compareOp .Eq) (Le X.K):=op_eq.or (Zl6 hu)
theorem Zdg (hu:X.A.units+200 < cLine):OpR X (compareOp .NotEq) (Hj X.K):=op_ne.or (Zp8 hu)
theorem s_eq {K:Oz}{x y:V}{H:Hp}{Q:VK}(hs:Ge x y=true)(h:Q (.bl (decide (x=y))) H):Le K x y H Q:=.inl ⟨hs,h⟩
theorem s_ne {K:Oz}{x y:V}{H:Hp}{Q:VK}(hs:Ge x y=true)(h:Q (.bl (!decide (x=y))) H):Hj K x y H Q:=.inl ⟨hs,h⟩
theorem Zle {K:Oz}{a c:Addr}{H:Hp}{Q:VK}{n:Nat}{d:Dt}(hn:n<=190)(hx:IsD K H n (.ref a) d)(hy:IsD K H n (.ref c) d)(h:Q (.bl false) H):Hj K (.ref a) (.ref c) H Q:=.inr ⟨a,c,n,d,rfl,rfl,hn,hx,hy,h⟩
theorem Room.u200 {k:Nat}{A:Around}(r:Room k A):A.units+200 < cLine:=by have:=r.un;omega
end
section
variable {t u:TS}{c d:TT}{te ta tb tc:TE}{g:TG}{gs:Dw}{ts:TA}{D:Cv}{σ:St}{H:Hp}{Q:VK}{QB:Bool->Hp->Prop}{QA':List V->Hp->Prop}
theorem s_seq (h:t { D with nx:=u D } σ H):Mh t u D σ H:=h
theorem s_asg (h:te σ H fun x H1=>g x σ H1 D.nx):Fg te g D σ H:=h
theorem s_ret (h:te σ H D.rt):Md te D σ H:=h
theorem s_drop (h:te σ H fun _ H1=>D.nx σ H1):Mj te D σ H:=h
theorem s_next (h:D.nx σ H):Nm D σ H:=h
theorem s_ifS (h:c σ H fun b H1=>if b=true then t D σ H1 else u D σ H1):G3 c t u D σ H:=h
theorem s_var {i:Nat}{v:V}(e:σ[i]?=some (some v))(h:Q v H):Ms i σ H Q:=⟨v,e,h⟩
theorem s_c {v:V}(h:Q v H):tC v σ H Q:=h
theorem s_op {r:R2}(h:ta σ H fun x H1=>tb σ H1 fun y H2=>r x y H2 Q):Eu r ta tb σ H Q:=h
theorem s_un {r:V->Hp->VK->Prop}(h:ta σ H fun x H1=>r x H1 Q):tUn r ta σ H Q:=h
theorem s_test (h:te σ H fun x H'=>∃ k,x=.bl k/\QB k H'):Na te σ H QB:=h
theorem s_tB (h:te σ H fun x H'=>∃ k,x=.bl k/\QB k H'):tB te σ H QB:=h
theorem s_ex {b:Bool}{P:Bool->Prop}(h:P b):∃ k,V.bl b=V.bl k/\P k:=⟨b,rfl,h⟩
theorem s_exi {i:Int}{P:Int->Prop}(h:P i):∃ k,V.int i=V.int k/\P k:=⟨i,rfl,h⟩
theorem s_not (h:c σ H fun b H1=>QB (!b) H1):Ox c σ H QB:=h
theorem s_and (h:c σ H fun b H1=>if b=true then d σ H1 QB else QB false H1):Lq c d σ H QB:=h
theorem s_or (h:c σ H fun b H1=>if b=true then QB true H1 else d σ H1 QB):tOr c d σ H QB:=h
theorem s_andV (h:ta σ H fun x H1=>∃ k,x=.bl k/\if k=true then tb σ H1 Q else Q (.bl false) H1):Ng ta tb σ H Q:=h
theorem s_notV (h:ta σ H fun x H1=>∃ k,x=.bl k/\Q (.bl (!k)) H1):N2 ta σ H Q:=h
theorem s_nil (h:QA' [] H):Om σ H QA':=h
theorem s_cons (h:te σ H fun x H1=>ts σ H1 fun xs H2=>QA' (x::xs) H2):Zaa te ts σ H QA':=h
theorem s_vals {xs:List V}(h:QA' xs H):Mv xs σ H QA':=h
theorem s_tup (h:ts σ H fun xs H1=>xs.length<=sizeLine/\∀ p,H1 p=none->Q (.ref p) (upd H1 p (.tup xs))):Ot ts σ H Q:=h
theorem s_lst (h:ts σ H fun xs H1=>xs.length<=sizeLine/\∀ p,H1 p=none->Q (.ref p) (upd H1 p (.lst xs))):Zaj ts σ H Q:=h
theorem s_call {sp:Sp}{dvs:List V}{E:XK}(h:ts σ H fun vs H1=>sp (vs++dvs) H1 Q E):Ld sp dvs E ts σ H Q:=h
theorem s_cb {r:List V->Hp->VK->Prop}(h:ts σ H fun vs H1=>r vs H1 Q):tCB r ts σ H Q:=h
theorem s_bm {K:Oz}{T:String}{r:V->List V->Hp->VK->Prop}(h:te σ H fun x H1=>G7 K T x H1/\ts σ H1 fun xs H2=>r x xs H2 Q):tBM K T r te ts σ H Q:=h
theorem s_bm0 {K:Oz}{T:String}{r:V->List V->Hp->VK->Prop}(h:te σ H fun x H1=>G7 K T x H1/\r x [] H1 Q):Jx K T r te σ H Q:=h
theorem s_sl {r:V->Option Int->Option Int->Hp->VK->Prop}{tl th:TO}(h:te σ H fun x H1=>tl σ H1 fun l H2=>th σ H2 fun u H3=>r x l u H3 Q):tSl r te tl th σ H Q:=h
theorem s_po {QO':Option Int->Hp->Prop}(h:te σ H fun x H1=>∃ i,x=.int i/\QO' (some i) H1):Mp te σ H QO':=h
theorem s_po0 {QO':Option Int->Hp->Prop}(h:QO' none H):Ny σ H QO':=h
theorem s_gname {i:Nat}{v:V}{QS':St->Hp->Prop}(h:QS' (σ.set i (some v)) H):Fj i v σ H QS':=h
theorem Cm {K:Oz}{n:Nat}{a:Addr}{xs:List V}{QS':St->Hp->Prop}(q:SqT K H a xs)(l:xs.length=n)(h:gs xs σ H QS'):Kr K n gs (.ref a) σ H QS':=⟨a,xs,rfl,q,l,h⟩
theorem s_gcons {v:V}{r:List V}{QS':St->Hp->Prop}(h:g v σ H fun σ' H'=>gs r σ' H' QS'):N0 g gs (v::r) σ H QS':=⟨v,r,rfl,h⟩
theorem s_gnil {QS':St->Hp->Prop}(h:QS' σ H):Nv [] σ H QS':=⟨rfl,h⟩
theorem s_gsub {to ti:TE}{tt:Hh}{v:V}{QS':St->Hp->Prop}(h:to σ H fun o H1=>ti σ H1 fun i H2=>tt o i v H2 fun H3=>QS' σ H3):M7 to ti tt v σ H QS':=h
theorem s_isN (h:ta σ H fun x H1=>Q (.bl (decide (x=.non))) H1):My ta σ H Q:=h
theorem s_notN (h:ta σ H fun x H1=>Q (.bl (!decide (x=.non))) H1):Ov ta σ H Q:=h
end
section
variable {wi:TI}{σ0:St->St}{g:TG}{tt:TT}{te:TE}{ta:TA}{tb:TS}{D:Cv}{σ:St}{H:Hp}{Q:VK}{R:It->Hp->Prop}{K:Oz}
theorem s_comp (h:wi σ H fun J H1=>∀ L,H1 L=none->Hn J g tt te (σ0 σ) H1 L Q):Ja wi σ0 g tt te σ H Q:=h
theorem s_for (h:wi σ H fun J H1=>∃ W:Nat->Nat->St->Hp->Prop,(∃ m,W 0 m σ H1)/\∀ i m σ H,W i m σ H ->
 (J.stop i H/\D.nx σ H)\/(J.go i H/\∃ N:St->Hp->Prop,(∀ σ' H',N σ' H'->∃ m',m' < m/\W (i+1) m' σ' H')/\∀ x H',J.yld i H x H'->g x σ H' fun σ2 H2=>tb { D with nx:=N,ct:=N,bk:=D.nx } σ2 H2)):M3 wi g tb D σ H:=h
theorem s_rng1 (h:ta σ H fun vs H1=>∃ j:Int,vs=[.int j]/\-(2 ^ 62)<=j/\j < 2 ^ 62/\R (Fe 0 j.toNat) H1):Zab ta σ H R:=h
theorem s_exr {i:Int}{P:Int->Prop}(h:P i):∃ j,([V.int i]:List V)=[.int j]/\P j:=⟨i,rfl,h⟩
theorem s_iany (h:te σ H fun x H1=>(∃ a,x=.ref a/\(∃ xs,SqL K H1 a xs)/\R (Gb K a) H1)\/(∃ a,x=.ref a/\(∃ xs,SqT K H1 a xs)/\R (Gk K a) H1)\/∃ z,x=.str z/\R (Its z) H1):M5 K te σ H R:=h
theorem s_irev (h:ta σ H fun vs H1=>∃ a xs,vs=[.ref a]/\SqL K H1 a xs/\R (Gz K a xs.length) H1):Mc K ta σ H R:=h
theorem s_ienum (h:ta σ H fun vs H1=>∃ a xs,vs=[.ref a]/\SqL K H1 a xs/\R (Go K a xs.length) H1):Mx K ta σ H R:=h
theorem s_listen (h:ta σ H fun vs H1=>∃ a xs,vs=[.ref a]/\SqT K H1 a xs/\∀(S:Addr)(ys:List V)(H2:Hp),H1 S=none->Same H1 H2->ys.length=xs.length->Mb H2 xs ys->H2 S=some (.lst ys)->Q (.ref S) H2):Oa K ta σ H Q:=h
theorem s_yes {QB:Bool->Hp->Prop}(h:QB true H):Zah σ H QB:=h
theorem s_turn {L:Addr}{Nx:List V->St->Hp->Prop}{x:V}(h:g x σ H fun σ2 H3=>tt σ2 H3 fun b H4=>if b=true then te σ2 H4 fun y H5=>∃ ys,H5 L=some (.lst ys)/\ys.length < sizeLine/\(∃ zs,upd H5 L (.lst (ys++[y])) L=some (.lst zs)/\Nx zs σ2 (upd H5 L (.lst (ys++[y])))) else ∃ zs,H4 L=some (.lst zs)/\Nx zs σ2 H4):Jw g tt te L Nx x σ H:=h
theorem C3 {l:Addr}{xs:List V}{y:V}(e:H l=some (.lst xs))(z:xs.length < sizeLine)(h:Q .non (upd H l (.lst (xs++[y])))):Zbb (.ref l) [y] H Q:=⟨l,xs,y,rfl,rfl,e,z,h⟩
theorem Lh {l:Addr}{xs:List V}{y:V}(e:H l=some (.lst (xs++[y])))(h:Q y (upd H l (.lst xs))):rPop (.ref l) [] H Q:=⟨l,xs++[y],y,rfl,rfl,e,by simp,by simpa using h⟩
theorem Zfs {p:Addr}{xs:List V}{k:Int}{j:Nat}{v:V}{QH:Hp->Prop}(e:H p=some (.lst xs))(hj:C7 xs.length k=some j)(h:QH (upd H p (.lst (xs.set j v)))):Zc0 (.ref p) (.int k) v H QH:=⟨p,xs,k,j,rfl,rfl,e,hj,h⟩
end
section
variable {X:Cx}(K:Oz)
theorem Ei (hK:X.K=K:=by rfl):OpR X (binaryOp .Add) (F9 K):=by subst hK;exact op_addA
theorem B3 (hu:X.A.units+200 < cLine)(hK:X.K=K:=by rfl):OpR X (compareOp .Eq) (Le K):=by subst hK;exact Zb2 hu
theorem Od (hu:X.A.units+200 < cLine)(hK:X.K=K:=by rfl):OpR X (compareOp .NotEq) (Hj K):=by subst hK;exact Zdg hu
theorem Lk (hK:X.K=K:=by rfl):OpR X (compareOp .In) (M4 K false):=by subst hK;exact Zkw
theorem k_ix (hK:X.K=K:=by rfl):IxR X (Fk K):=by subst hK;exact Zjh
theorem Fv (hK:X.K=K:=by rfl):SlR X (Mu K):=by subst hK;exact Zoo
theorem Dl (hK:X.K=K:=by rfl):B9 X (.builtin "len") (Ko K):=by subst hK;exact Zlq
inductive TyQ (K:Oz)(H:Hp):V->Value->Prop where
 | ty {x:V} {t:Value} (h:C6 K H x t):TyQ K H x t
 | tup {a:Addr} {xs:List V} (q:SqT K H a xs):TyQ K H (.ref a) (.type "tuple")
 | lst {a:Addr} {xs:List V} (q:SqL K H a xs):TyQ K H (.ref a) (.type "list")
noncomputable def Nu (K:Oz)(T:String):List V->Hp->VK->Prop:=fun xs H Q=>∃ x t b,xs=[x,.ty T]/\TyQ K H x t/\Rg K t (.type T)=some b/\Q (.bl b) H
theorem Zod {T:String}:B9 X (.builtin "isinstance") (Nu X.K T):=by
 intro pins s σ H xs us Q I r h
 obtain ⟨x,t,b,rfl,ty,e,q⟩:=h
 obtain ⟨u,v,rfl,ru,rv⟩:=r.two
 obtain rfl:v=Value.type T:=rv
 cases ty with
 | ty ty=>exact Zki I ru ty e fun tk=>⟨.bl b,H,I.tok tk,rfl,q⟩
 | tup hq =>
  cases ru
  obtain ⟨its,_,p,_⟩:=I.tuple hq
  obtain ⟨o,h1,h2,_⟩:=p
  exact Qh PySem.W.kitx_tuple I.kIn ⟨o,h1,h2⟩ e (fun z=>nomatch z) fun tk=>⟨.bl b,H,I.tok tk,rfl,q⟩
 | lst hq =>
  cases ru
  obtain ⟨its,_,p,_⟩:=I.list hq
  obtain ⟨o,n,h1,h2,_⟩:=p
  exact Qh Vj I.kIn ⟨o,h1,h2⟩ e (fun z=>nomatch z) fun tk=>⟨.bl b,H,I.tok tk,rfl,q⟩
theorem Zan (T:String)(hK:X.K=K:=by rfl):B9 X (.builtin "isinstance") (Nu K T):=by subst hK;exact Zod
noncomputable def Znf (K:Oz):List V->Hp->VK->Prop:=fun xs H Q=>∃ p ys,xs=[.ref p]/\(SqL K H p ys\/SqT K H p ys)/\∀ l,H l=none->Q (.ref l) (upd H l (.lst ys))
theorem Oo (hK:X.K=K:=by rfl):B9 X (.type "list") (Znf K):=by subst hK;exact Zl5
noncomputable def Zcj (K:Oz):List V->Hp->VK->Prop:=fun xs H Q=>∃ p ys,xs=[.ref p]/\((SqL K H p ys/\∀ l,H l=none->Q (.ref l) (upd H l (.tup ys)))\/(SqT K H p ys/\Q (.ref p) H))
theorem Ze0 (hK:X.K=K:=by rfl):B9 X (.type "tuple") (Zcj K):=by subst hK;exact Zm4
noncomputable def rInt:List V->Hp->VK->Prop:=fun xs H Q=>(∃ i,xs=[.int i]/\Q (.int i) H)\/∃ k,xs=[.bl k]/\Q (.int (if k then 1 else 0)) H
theorem Zlu:B9 X (.type "int") rInt:=Zhn
theorem s_intb {k:Bool}{H:Hp}{Q:VK}(h:Q (.int (if k=true then 1 else 0)) H):rInt [.bl k] H Q:=.inr ⟨k,rfl,h⟩
theorem C9 {tg l:Expr}{tl:TE}(hl:QE X l tl)(hK:X.K=K:=by rfl):QI X tg l (M5 K tl):=by subst hK;exact Zpy hl
theorem Zlr {tg a:Expr}{ta:TA}{p pos:Pos}(hg:Gl X "reversed")(hm:X.mg "reversed" = none)(ha:QA X [a] ta)(hK:X.K=K:=by rfl)(hs:starEach [a] X.env=[(false,eval a X.env)]:=by rfl):QI X tg (.Call (.Name "reversed" p) [a] [] pos) (Mc K ta):=by subst hK;exact Zj4 hg hm ha hs
theorem Kt {elts:List Expr}{kt:Nat}{pt:Pos}{e:Expr}{ta:TA}{p pos:Pos}(hg:Gl X "enumerate")(hm:X.mg "enumerate" = none)(ha:QA X [e] ta)(hK:X.K=K:=by rfl)(hs:starEach [e] X.env=[(false,eval e X.env)]:=by rfl):QI X (.Tuple elts kt pt) (.Call (.Name "enumerate" p) [e] [] pos) (Mx K ta):=by subst hK;exact Zog hg hm ha hs
theorem Zf4 {e:Expr}{ta:TA}{p p2 pos pos2:Pos}(hg:Gl X "list")(hm:X.mg "list" = none)(hg2:Gl X "enumerate")(hm2:X.mg "enumerate" = none)(ha:QA X [e] ta)(hK:X.K=K:=by rfl)(hc:X.calm=true:=by rfl)
  (hs:starEach [.Call (.Name "enumerate" p2) [e] [] pos2] X.env=[(false,eval (.Call (.Name "enumerate" p2) [e] [] pos2) X.env)]:=by rfl) (hs2:starEach [e] X.env=[(false,eval e X.env)]:=by rfl) :
  QE X (.Call (.Name "list" p) [.Call (.Name "enumerate" p2) [e] [] pos2] [] pos) (Oa K ta):=by subst hK;exact Zhg hg hm hg2 hm2 ha hc hs hs2
theorem Cr {es:List Expr}{k:Nat}{pos:Pos}{t:Dw}{n:Nat}(hc:X.calm=true)(h:QGs X es t)(hK:X.K=K:=by rfl)(hn:(assignEach es X.env).length=n:=by rfl)(hst:(assignEach es X.env).findIdx? (·.1)=none:=by rfl):QG X (.Tuple es k pos) (Kr K n t):=by subst hK;exact Zgf hc h hn hst
noncomputable def Zdk (K:Oz)(ta:TE):TT:=fun σ H Q=>ta σ H fun x H'=>∃ k,Im K x H' k/\Q k H'
theorem F1 {a:Expr}{ta:TE}(ha:QE X a ta)(he:∀ whole,isTrue a X.env whole=(do let v <- whole;standAt a.pos;holding [v] (truthy v)))(hK:X.K=K:=by rfl):QT X a (Zdk K ta):=by subst hK;exact ⟨Zhd ha.run he⟩
theorem C0 {o e:Expr}{es:List Expr}{to:TE}{t:TA}{name:Str}{apos cpos:Pos}{T id:String}{r:V->List V->Hp->VK->Prop}(pa:PlainAttrs T)(slot:Slot T name id)(hty:typeOf (.builtin id)=pure (.type "method_descriptor"))(hm:Gp X id r)(ho:QE X o to)(ha:QA X (e::es) t)(hK:X.K=K:=by rfl)
  (hbase:attributeBase o name X.env (eval o X.env)=eval o X.env:=by rfl) (hfew:((backTo cpos (starEach (e::es) X.env)).all (fun x=>!x.1) && (backToKw cpos (keywordEach [] X.env)).all (fun x=>x.1.isSome)
   && decide ((e::es).length+([]:List Keyword).length+(if ([]:List Keyword).isEmpty then 0 else 1) < 30))=true:=by rfl) (hline:(apos.endLine == cpos.line)=true:=by rfl) (hs:starEach (e::es) X.env=(false,eval e X.env)::starEach es X.env:=by rfl) (hplain:(backTo cpos (starEach es X.env)).any (·.1)=false:=by rfl):QE X (.Call (.Attribute o name apos) (e::es) [] cpos) (tBM K T r to t):=by subst hK;exact Zk5 pa slot hty hm ho ha hbase hfew hline hs hplain
theorem Kv {o:Expr}{to:TE}{name:Str}{apos cpos:Pos}{T id:String}{r:V->List V->Hp->VK->Prop}(pa:PlainAttrs T)(slot:Slot T name id)(hty:typeOf (.builtin id)=pure (.type "method_descriptor"))(hm:Gp X id r)(ho:QE X o to)(hK:X.K=K:=by rfl)(hbase:attributeBase o name X.env (eval o X.env)=eval o X.env:=by rfl)(hline:(apos.endLine == cpos.line)=true:=by rfl):QE X (.Call (.Attribute o name apos) [] [] cpos) (Jx K T r to):=by subst hK;exact Zis pa slot hty hm ho hbase hline
end
section
variable {K:Oz}{σ:St}{H:Hp}{Q:VK}{QB:Bool->Hp->Prop}{ta:TE}
theorem s_truth (h:ta σ H fun x H'=>∃ k,Im K x H' k/\QB k H'):Zdk K ta σ H QB:=h
theorem Fy {a:Addr}{xs:List V}{P:Bool->Prop}(q:SqL K H a xs)(h:P (!xs.isEmpty)):∃ k,Im K (.ref a) H k/\P k:=⟨_,.inl ⟨xs,q,rfl⟩,h⟩
theorem Zbg {T:String}{x:V}{t:Value}{b:Bool}(ty:C6 K H x t)(e:Rg K t (.type T)=some b)(h:Q (.bl b) H):Nu K T [x,.ty T] H Q:=⟨x,t,b,rfl,.ty ty,e,h⟩
theorem Zlh {K:Oz}:Rg K (.type "int") (.type "bool")=some false:=Zfx (l:=(fastBuiltinMro "int").get (by decide +kernel)) (by decide +kernel) (by decide) (by simp) (by decide +kernel)
theorem Zen {p:Addr}{ys:List V}(q:SqL K H p ys)(h:∀ l,H l=none->Q (.ref l) (upd H l (.tup ys))):Zcj K [.ref p] H Q:=⟨p,ys,rfl,.inl ⟨q,h⟩⟩
theorem B5 {a:Addr}{xs:List V}{P:Prop}(q:SqL K H a xs)(h:P):G7 K "list" (.ref a) H/\P:=⟨.inl ⟨rfl,_,q⟩,h⟩
end
theorem s_nt {A B:Prop}(h:B):if (!true)=true then A else B:=by simpa using h
theorem s_nf {A B:Prop}(h:A):if (!false)=true then A else B:=by simpa using h
end L2
namespace L2
open PySem
inductive Tr where
 | mk (wd:Str) (note:Dt) (ps:List Tr)
noncomputable def Tr.wd:Tr->Str
 | .mk w _ _=>w
noncomputable def Tr.ps:Tr->List Tr
 | .mk _ _ ps=>ps
mutual
noncomputable def Tr.size:Tr->Nat
 | .mk _ _ ps=>1+Bs ps
noncomputable def Bs:List Tr->Nat
 | []=>0
 | t::r=>t.size+Bs r
end
theorem Tr.size_eq (t:Tr):t.size=1+Bs t.ps:=by
 cases t with
 | mk w n ps=>rw [Tr.size];rfl
theorem Zbr (a b:List Tr):Bs (a++b)=Bs a+Bs b:=by
 induction a with
 | nil=>simp [Bs]
 | cons t r ih=>rw [Re,Bs,Bs,ih];omega
noncomputable def SameT (H H':Hp):Prop:=∀ b,(∀ xs,H b=some (.tup xs)->H' b=some (.tup xs))/\∀ o u,H b=some (.frz o u)->H' b=some (.frz o u)
theorem Same.t {H H':Hp}(e:Same H H'):SameT H H':=fun b=>⟨fun xs h=>e b _ h,fun o u h=>e b _ h⟩
theorem SameT.refl (H:Hp):SameT H H:=fun _=>⟨fun _ h=>h,fun _ _ h=>h⟩
theorem SameT.trans {H H1 H2:Hp}(a:SameT H H1)(b:SameT H1 H2):SameT H H2:=fun c=>⟨fun xs h=>(b c).1 xs ((a c).1 xs h),fun o u h=>(b c).2 o u ((a c).2 o u h)⟩
theorem SameT.set {H:Hp}{S:Addr}{zs:List V}{o:HO}(h:H S=some (.lst zs)):SameT H (upd H S o):=fun b =>
 ⟨fun xs e=>by rw [Ag (Ew e h (by intro z;cases z))];exact e,fun o' u e=>by rw [Ag (Ew e h (by intro z;cases z))];exact e⟩
theorem SameT.new {H:Hp}{S:Addr}{o:HO}(h:H S=none):SameT H (upd H S o):=(Same.upd h).t
theorem SameT.tup {K:Oz}{H H':Hp}{a:Addr}{xs:List V}(e:SameT H H')(h:SqT K H a xs):SqT K H' a xs:=by
 rcases h with (h | ⟨o,h⟩) | h
 ·exact .inl (.inl ((e a).1 _ h))
 ·exact .inl (.inr ⟨o,(e a).2 _ _ h⟩)
 ·exact .inr h
noncomputable def IsN (K:Oz)(H:Hp)(v:V)(n:Dt):Prop:=(Cz v=true/\n=.flat v)\/∃(a:Addr)(vs:List V),v=.ref a/\SqT K H a vs/\vs.all Cz=true/\n=.tup (vs.map .flat)
theorem IsN.same {K:Oz}{H H':Hp}{v:V}{n:Dt}(h:IsN K H v n)(e:SameT H H'):IsN K H' v n:=by
 rcases h with h | ⟨a,vs,h1,h2,h3⟩
 ·exact .inl h
 ·exact .inr ⟨a,vs,h1,e.tup h2,h3⟩
inductive TrAt (K:Oz)(H:Hp):V->Tr->Prop where
 | mk {a p:Addr} {wd:Str} {nv:V} {n:Dt} {vs:List V} {ts:List Tr} (q:SqT K H a [.str wd,nv,.ref p]) (hn:IsN K H nv n) (qp:SqT K H p vs) (l:vs.length=ts.length)
   (h:∀(j:Nat)(v:V)(t:Tr),vs[j]?=some v->ts[j]?=some t->TrAt K H v t):TrAt K H (.ref a) (.mk wd n ts)
theorem TrAt.sameT {K:Oz}{H H':Hp}{v:V}{t:Tr}(h:TrAt K H v t)(e:SameT H H'):TrAt K H' v t:=by
 induction h with
 | mk q hn qp l _ ih=>exact .mk (e.tup q) (hn.same e) (e.tup qp) l ih
theorem TrAt.same {K:Oz}{H H':Hp}{v:V}{t:Tr}(h:TrAt K H v t)(e:Same H H'):TrAt K H' v t:=h.sameT e.t
noncomputable def Al {α:Type}(R:V->α->Prop)(vs:List V)(xs:List α):Prop:=vs.length=xs.length/\∀(j:Nat)(v:V)(x:α),vs[j]?=some v->xs[j]?=some x->R v x
section
variable {α:Type}{R R':V->α->Prop}{vs:List V}{xs:List α}{v:V}{x:α}
theorem Al.mono (h:Al R vs xs)(f:∀ v x,R v x->R' v x):Al R' vs xs:=⟨h.1,fun j v x a b=>f v x (h.2 j v x a b)⟩
theorem Al.nil:Al R [] []:=⟨rfl,fun j v x a _=>by simp at a⟩
theorem Al.snoc (h:Al R vs xs)(a:R v x):Al R (vs++[v]) (xs++[x]):=by
 refine ⟨by simp [h.1],fun j y z e1 e2=>?_⟩
 by_cases hj:j < vs.length
 ·rw [Py hj] at e1
  rw [Py (by have:=h.1;omega)] at e2
  exact h.2 j y z e1 e2
 ·have hl:=(Pa.mp e1).1
  rw [O7,Pr] at hl
  have hj':j=vs.length:=by omega
  subst hj'
  rw [Px (O2 _),Ri] at e1
  rw [h.1,Px (O2 _),Ri] at e2
  have e1:v=y:=by simpa using e1
  have e2:x=z:=by simpa using e2
  rw [<- e1,<- e2]
  exact a
theorem Al.split (h:Al R (vs++[v]) xs):∃ ys x,xs=ys++[x]/\Al R vs ys/\R v x:=by
 have hl:xs.length=vs.length+1:=by have:=h.1;simp at this;omega
 have hne:xs≠[]:=fun z=>by rw [z] at hl;simp at hl
 refine ⟨xs.dropLast,xs.getLast hne,(V1 hne).symm,⟨by simp [hl],fun j y z e1 e2=>?_⟩,?_⟩
 ·have hj:=(Pa.mp e1).1
  refine h.2 j y z (by rw [Py hj];exact e1) ?_
  rw [List.getElem?_dropLast] at e2
  split at e2
  ·exact e2
  ·cases e2
 ·refine h.2 vs.length v _ (by simp) ?_
  rw [List.getLast_eq_getElem,O1 (by omega)]
  congr 1
  simp [hl]
theorem Al.last (h:Al R vs xs)(hn:vs≠[]):∃ vs' v xs' x,vs=vs'++[v]/\xs=xs'++[x]/\Al R vs' xs'/\R v x:=by
 have e:=(V1 hn).symm
 rw [e] at h
 obtain ⟨ys,x,e2,a,r⟩:=h.split
 exact ⟨_,_,ys,x,e,e2,a,r⟩
theorem Al.get {j:Nat}(h:Al R vs xs)(e:vs[j]?=some v):∃ x,xs[j]?=some x/\R v x:=by
 have hj:=(Pa.mp e).1
 have hx:j < xs.length:=by have:=h.1;omega
 exact ⟨xs[j],O1 hx,h.2 j v _ e (O1 hx)⟩
theorem Al.get' {j:Nat}(h:Al R vs xs)(e:xs[j]?=some x):∃ v,vs[j]?=some v/\R v x:=by
 have hj:=(Pa.mp e).1
 have hv:j < vs.length:=by have:=h.1;omega
 exact ⟨vs[j],O1 hv,h.2 j _ x (O1 hv) e⟩
end
mutual
noncomputable def walk:List Nat->Tr->List (List Nat×Tr)
 | pl,.mk w n ps=>(pl,.mk w n ps)::Bf pl 0 ps
noncomputable def Bf:List Nat->Nat->List Tr->List (List Nat×Tr)
 | _,_,[]=>[]
 | pl,i,t::r=>walk (pl++[i]) t++Bf pl (i+1) r
end
theorem Zii (pl:List Nat)(t:Tr):walk pl t=(pl,t)::Bf pl 0 t.ps:=by
 cases t with
 | mk w n ps=>rw [walk];rfl
mutual
theorem Dr:∀(pl:List Nat)(t:Tr),(walk pl t).length=t.size
 | pl,.mk w n ps=>by rw [walk,Tr.size,Pb,Zfo pl 0 ps];omega
theorem Zfo:∀(pl:List Nat)(i:Nat)(ts:List Tr),(Bf pl i ts).length=Bs ts
 | _,_,[]=>by rw [Bf,Bs];rfl
 | pl,i,t::r=>by rw [Bf,Bs,O7,Dr,Zfo]
end
mutual
theorem Kh:∀(pl:List Nat)(t:Tr)(x:List Nat×Tr),x∈walk pl t->x.1.length+1<=pl.length+t.size
 | pl,.mk w n ps,x,h=>by
  rw [walk] at h
  rw [Tr.size]
  rcases O5.mp h with h | h
  ·subst h;show pl.length+1<=_;omega
  ·have:=Zff pl 0 ps x h;omega
theorem Zff:∀(pl:List Nat)(i:Nat)(ts:List Tr)(x:List Nat×Tr),x∈Bf pl i ts->x.1.length<=pl.length+Bs ts
 | _,_,[],x,h=>by rw [Bf] at h;cases h
 | pl,i,t::r,x,h=>by
  rw [Bf] at h
  rw [Bs]
  rcases Pm.mp h with h | h
  ·have:=Kh (pl++[i]) t x h
   rw [O7,Pr] at this
   omega
  ·have:=Zff pl (i+1) r x h;omega
end
noncomputable def Bk (pl:List Nat):List V:=pl.map fun i=>V.int ((i:Nat):Int)
noncomputable def B4:List Nat->Nat->List Tr->List (List Nat×Tr)
 | _,_,[]=>[]
 | pl,i,t::r=>(pl++[i],t)::B4 pl (i+1) r
theorem Zeg (pl:List Nat):∀(i:Nat)(ts:List Tr),(B4 pl i ts).length=ts.length
 | _,[]=>rfl
 | i,t::r=>by rw [B4,Pb,Pb,Zeg pl (i+1) r]
theorem Zei (pl:List Nat):∀(i j:Nat)(ts:List Tr),(B4 pl i ts)[j]?=(ts[j]?).map fun t=>(pl++[i+j],t)
 | _,_,[]=>by simp [B4]
 | i,0,t::r=>by simp [B4]
 | i,j+1,t::r=>by
  rw [B4,List.getElem?_cons_succ,List.getElem?_cons_succ,Zei pl (i+1) j r]
  congr 1
  funext t
  rw [show i+1+j=i+(j+1) by omega]
theorem Zb0 (pl:List Nat):∀(i:Nat)(ts:List Tr),(B4 pl i ts).flatMap (fun x=>walk x.1 x.2)=Bf pl i ts
 | _,[]=>by simp [B4,Bf]
 | i,t::r=>by rw [B4,List.flatMap_cons,Bf,Zb0 pl (i+1) r]
noncomputable def Fh (st:List (List Nat×Tr)):List (List Nat×Tr):=st.reverse.flatMap fun x=>walk x.1 x.2
theorem Zni:Fh []=[]:=rfl
theorem Nh (st:List (List Nat×Tr))(x:List Nat×Tr):Fh (st++[x])=x::Fh (st++(B4 x.1 0 x.2.ps).reverse):=by
 unfold Fh
 rw [List.reverse_append,List.reverse_append,List.reverse_reverse,U9,U9,Zb0]
 rw [List.reverse_singleton,List.flatMap_singleton,Zii]
 rfl
noncomputable def En (st:List (List Nat×Tr)):Nat:=(Fh st).length
theorem Zkr (st:List (List Nat×Tr))(x:List Nat×Tr):En (st++(B4 x.1 0 x.2.ps).reverse) < En (st++[x]):=by
 unfold En
 rw [Nh]
 exact Vn _
theorem Zpb (st:List (List Nat×Tr)):st.length<=En st:=by
 unfold En Fh
 have:∀ l:List (List Nat×Tr),l.length<=(l.flatMap fun x=>walk x.1 x.2).length:=fun l=>by
  induction l with
  | nil=>simp
  | cons x r ih =>
   rw [List.flatMap_cons,O7,Dr,Pb]
   have:=x.2.size_eq
   omega
 have:=this st.reverse
 rw [Ua] at this
 exact this
theorem Zkj {α:Type}{l:List α}{n i:Nat}{x:α}(hl:l.length=n)(hi:i < n)(hx:l[n - 1 - i]?=some x):(l.drop (n - (i+1))).reverse=(l.drop (n - i)).reverse++[x]:=by
 have hk:n - 1 - i < l.length:=by omega
 have e:l.drop (n - (i+1))=x::l.drop (n - i):=by
  have h1:n - (i+1)=n - 1 - i:=by omega
  rw [h1,Q9 hk,show n - 1 - i+1=n - i by omega]
  rw [O1 hk] at hx
  rw [Pg hx]
 rw [e,List.reverse_cons]
mutual
theorem M9:∀(pl:List Nat)(t:Tr),walk pl t=(walk [] t).map fun x=>(pl++x.1,x.2)
 | pl,.mk w n ps=>by
  have e:=Zdo pl [] 0 ps
  rw [Pw] at e
  rw [walk,walk,Qa,e]
  simp
theorem Zdo:∀(pl q:List Nat)(i:Nat)(ts:List Tr),Bf (pl++q) i ts=(Bf q i ts).map fun x=>(pl++x.1,x.2)
 | _,_,_,[]=>by rw [Bf,Bf];rfl
 | pl,q,i,t::r=>by
  rw [Bf,Bf,P6,<- Zdo pl q (i+1) r,M9 (pl++q++[i]) t,M9 (q++[i]) t]
  simp
end
theorem Al.append {α:Type}{R:V->α->Prop}{vs ws:List V}{xs ys:List α}(h:Al R vs xs)(h':Al R ws ys):Al R (vs++ws) (xs++ys):=by
 refine ⟨by simp [h.1,h'.1],fun j v x e1 e2=>?_⟩
 by_cases hj:j < vs.length
 ·rw [Py hj] at e1
  rw [Py (by have:=h.1;omega)] at e2
  exact h.2 j v x e1 e2
 ·rw [Px (by omega)] at e1
  rw [Px (by have:=h.1;omega),<- h.1] at e2
  exact h'.2 _ v x e1 e2
end L2
namespace L2
open PySem PySem.Spec PyProof.Rows
section
open PySem.AutoSeq1
theorem Zj8 (l:Addr)(items:Array Value)(n:Nat)(b:Addr)(items2:Array Value)(n2:Nat)(od:Option Addr)(sl:Array (Option Value))(hs0:¬(!items.isEmpty && Rz (items.size+items2.size))=true)(hs1:items.size<=sizeLine)(hs2:items.size+items2.size<=sizeLine+1) :
  Meets (Builtin.«list.extend» ⟨[.ref l,.ref b],[]⟩) (fun _ R s=>s.heap.get? l=some { cls:=.type "list",dict:=none,data:=.seq items n,slots:=#[] }/\s.heap.get? b=some { cls:=.type "tuple",dict:=od,data:=.seq items2 n2,slots:=sl }/\R (.ok (.ret Value.none)) { s with heap:=s.heap.update l (P9 fun x=>x++items2),toks:=s.toks }) :=
 .of_wp fun prog w A R s h=>by
  obtain ⟨hp,g,d,tk,os⟩:=s;obtain ⟨hl,hb,h⟩:=h;have f1:=AutoSeq1.idx_int;have f2:=AutoSeq1.sub_tuple_tuple;have f3:=AutoSeq1.sub_list_list;have f4:=AutoSeq1.sub_tuple_list;have f5:=AutoSeq1.sub_list_tuple;
  have hz':(items++items2).size<=sizeLine+1:=by rw [Array.size_append];exact hs2
  wp_walk using (Ta hl rfl (hz:=hs1) (_hz':=hz')),AutoSeq1.wpAny_loadPart' hl,AutoSeq1.wpAny_loadPart' hb;exact ⟨_,rfl,h⟩
end
noncomputable def Zft (K:Oz):V->List V->Hp->VK->Prop:=fun x vs H Q=>∃ l b xs zs,x=.ref l/\vs=[.ref b]/\H l=some (.lst xs)/\SqT K H b zs/\xs.length+zs.length<=sizeLine/\Q .non (upd H l (.lst (xs++zs)))
section
variable {X:Cx}
theorem Zoa:MtM X "list.extend" (Zft X.K):=by
 intro pins s σ H x vs v us Q I rx rv h
 obtain ⟨l,b,xs,zs,rfl,rfl,hH,hB,hz,q⟩:=h
 cases rx
 obtain ⟨u,rfl,ru⟩:=rv.one
 cases ru
 obtain ⟨z,its,n,r,hl,e⟩:=I.lstM hH
 obtain ⟨its2,r2,⟨o2,e2,hc2,n2,hd2⟩,hz2⟩:=I.tuple hB
 obtain ⟨oc,od,odata,sl⟩:=o2
 simp only at hc2 hd2
 subst hc2 hd2
 have hl2:=r2.length
 have hsz:its.toArray.size+its2.toArray.size<=sizeLine:=by rw [O4,O4];omega
 have hlong:¬ (!its.toArray.isEmpty && Rz (its.toArray.size+its2.toArray.size))=true:=by
  rw [Lp hsz,Bool.and_false]
  exact Pf
 refine Sk F.slot_list_extend ⟨_,e,rfl⟩ F.entry_list_extend (F.args_list_extend_2 _ _)
  (Zj8 l its.toArray n b its2.toArray n2 od sl hlong (by rw [O4];omega) (by omega)) ⟨e,e2,?_⟩
 refine ⟨.non,_,I.lset (its':=its++its2) hH e (by simp) (r.append r2) ?_,rfl,q⟩
 rw [O7]
 omega
noncomputable def rIsB:R2:=fun x y H Q=>∃ b,y=.bl b/\Q (.bl (decide (x=.bl b))) H
theorem Zka:OpR X (compareOp .Is) rIsB:=by
 intro pins s σ H x y v u Q I rx ry h
 obtain ⟨b,rfl,q⟩:=h
 cases ry
 refine wpAny_is_plain ?_ (Bq I q ?_)
 ·cases x <;> first | (cases rx;rfl) | (obtain ⟨t,rfl⟩:=rx;rfl)
 ·cases x <;> first
   | (cases rx;rfl)
   | (obtain ⟨t,rfl⟩:=rx;rfl)
   | (rename_i c;cases rx;cases c <;> cases b <;> rfl)
end
section
variable {X:Cx}(P:Program)(w:World)(K:Oz)
theorem Zh9 (hK:X.K=K:=by rfl):MtM X "list.extend" (Zft K):=by subst hK;exact Zoa
end
theorem s_chain {r r':R2}{ta tb tc:TE}{σ:St}{H:Hp}{Q:VK}(h:ta σ H fun x H1=>tb σ H1 fun y H2=>r x y H2 fun z H3=>∃ k,z=.bl k/\(if k=true then tc σ H3 fun w' H4=>r' y w' H4 Q else Q (.bl false) H3)):L4 r r' ta tb tc σ H Q:=h
theorem Zmk:typeLookup (.type "list_reverseiterator") "__len__" = pure none:=by rw [Sc,R3];kernel_rfl
theorem Zme:typeLookup (.type "list_reverseiterator") "__length_hint__" = pure (some (.builtin "list_reverseiterator.__length_hint__")):=by rw [Sc,R3];kernel_rfl
theorem Zp1 {prog:Program}{w:World}{A:Around}{E:Value->Shared->Prop}{s:Shared}{it:Addr}{Q:Bool->Shared->Prop}(hT:s.TypeIs (.ref it) "list_reverseiterator")(h:Q false s):wpAny (model prog w) A (Sm (.ref it)) Q E s:=by
 unfold Sm
 refine O0 (Sz hT Zmk ?_)
 show wpAny _ _ (specialOf (Value.ref it) (Ql "__length_hint__") >>= _) _ _ _
 refine O0 (Sz hT Zme ?_)
 (generalize hid:("list_reverseiterator.__length_hint__" : String)=id0;(fail_if_success (clear hid id0));wp_delta;rw [show splitId id0=some ("list_reverseiterator", "__length_hint__") from by subst hid;decide +kernel];subst hid)
 refine O0 (Ue (b:=true) hT (by rw [isSubtype_type];kernel_rfl) ?_)
 exact O3 h
noncomputable def JRev (H0:Hp)(it a:Addr)(xs:List V):Nat->List V->Hp->Heap->Prop:=fun i ys H h =>
 i<=xs.length/\h.IsRevIter it a ((xs.length:Int) - 1 - (i:Int))/\H it=none/\ys=xs.reverse.take i/\Same H0 H
theorem Zhc {X:Cx}{pins:List (Addr×Obj)}{σ:St}{H0:Hp}{it a:Addr}{xs:List V}(fi:FpOk X pins H0 it)(hq:SqL X.K H0 a xs):Src X pins σ it "list_reverseiterator" xs.length H0 (JRev H0 it a xs) where
 ty:=fun i ys H h j=>by
  obtain ⟨o,e,c,_⟩:=j.2.1
  exact ⟨o,e,c⟩
 nl:=by decide
 hint:=⟨_,fun A s Q E hT h=>Zp1 hT h⟩
 self:=fun A s ys H Q E j q=>U5 j.2.1 q
 keep:=fun i ys H h h' S zs zs' h0 hS j k al=>by
  obtain ⟨j1,j2,j3,j4,j5⟩:=j
  have ne1:it≠S:=fun z=>by rw [z,hS] at j3;cases j3
  exact ⟨j1,j2.at fun o e=>k it o ne1 e,by rw [Ag ne1];exact j3,j4,j5.over h0⟩
 fresh:=fun i ys H h j=>j.2.2.1
 item:=fun A i s H ys E hh hi I j=>by
  obtain ⟨j1,j2,j3,j4,j5⟩:=j
  have hqH:=j5.seq hq
  obtain ⟨its,rv,p,hz⟩:=I.list hqH
  have hx:xs[xs.length - 1 - i]?=some (xs[xs.length - 1 - i]'(by omega)):=O1 (by omega)
  obtain ⟨u,hu,ru⟩:=rv.get hx
  obtain ⟨f0,f1,f2,f3,f4,f5⟩:=fi.of j3
  have e:(xs.length:Int) - 1 - (i:Int)=((xs.length - 1 - i:Nat):Int):=by omega
  have hit:=j2
  rw [e] at hit
  refine wpAny_pyNext_rev_item hit p.isList (x:=u) (by simpa using hu) fun h' st' sb=>?_
  have I1:Inv X pins σ H { s with heap:=h' }:=I.turned (t':=s.toks) (fun b o hb e=>(sb.2 b hb).trans e) f0 f1 f3 f4 f5
  have e2:((xs.length - 1 - i:Nat):Int) - 1=(xs.length:Int) - 1 - ((i+1:Nat):Int):=by omega
  rw [e2] at st'
  refine ⟨u,_,H,rfl,ru,I1,⟨hi,st',j3,?_,j5⟩,fun S zs e=>e⟩
  rw [j4,R9]
  congr 1
  rw [List.getElem?_reverse (by simpa using hi),hx]
  rfl
 done:=fun A s H ys E hh I j=>by
  obtain ⟨j1,j2,j3,j4,j5⟩:=j
  obtain ⟨f0,f1,f2,f3,f4,f5⟩:=fi.of j3
  have e:(xs.length:Int) - 1 - (xs.length:Int)=-1:=by omega
  have hit:=j2
  rw [e] at hit
  exact wpAny_pyNext_rev_end hh hit fun h' eb=>⟨rfl,I.turned (t':=s.toks) (fun b o hb e=>eb b o hb e) f0 f1 f3 f4 f5⟩
section
variable {X:Cx}
noncomputable def Mi (K:Oz)(ta:TA):TE:=fun σ H Q=>ta σ H fun vs H1=>∃ a xs,vs=[.ref a]/\SqL K H1 a xs /\
 ∀(S:Addr)(H2:Hp),H1 S=none->Same H1 H2->H2 S=some (.lst xs.reverse)->Q (.ref S) H2
theorem Zi7 {e:Expr}{ta:TA}{p p2 pos pos2:Pos}(hg:Gl X "list")(hm:X.mg "list" = none)(hg2:Gl X "reversed")(hm2:X.mg "reversed" = none)(ha:QA X [e] ta)(hc:X.calm=true:=by rfl)
  (hs:starEach [.Call (.Name "reversed" p2) [e] [] pos2] X.env=[(false,eval (.Call (.Name "reversed" p2) [e] [] pos2) X.env)]:=by rfl) (hs2:starEach [e] X.env=[(false,eval e X.env)]:=by rfl) :
  QE X (.Call (.Name "list" p) [.Call (.Name "reversed" p2) [e] [] pos2] [] pos) (Mi X.K ta):=by
 refine ⟨fun pins s σ H Q I h=>?_⟩
 refine Call_ (Dm I hg hm L5 (Qp ?_ hs rfl))
 rw [hs]
 show wpAny _ _ (spliced ((false,eval (.Call (.Name "reversed" p2) [e] [] pos2) X.env)::[])) _ _ s
 refine Ro ?_
 refine Call_ (Dm I hg2 hm2 Zcy (Qp (Aj (ha.run pos2 pins s σ H _ I h) fun us s1 zq=>?_) hs2 rfl))
 obtain ⟨vs,H1,I1,r1,q1⟩:=zq
 obtain ⟨a,xs,e1,hq,q⟩:=q1
 subst e1
 cases r1 with
 | cons r rr =>
  cases rr
  cases r
  obtain ⟨its,rv,pl,hz⟩:=I1.list hq
  have hl:=rv.length
  refine call_reversed_list pl.isList ?_
  refine R8 ?_
  have st0:(s1.heap.push (Uw a (((its.toArray).size:Int) - 1))).IsRevIter s1.heap.objs.size a ((xs.length:Int) - 1 - ((0:Nat):Int)):=by
   refine ⟨_,Pn _ rfl,rfl,?_⟩
   have e:((its.toArray).size:Int) - 1=(xs.length:Int) - 1 - ((0:Nat):Int):=by simp [hl]
   rw [<- e]
   rfl
  have I2:Inv X pins σ H1 { s1 with heap:=s1.heap.push (Uw a (((its.toArray).size:Int) - 1)) }:=I1.kept (t':=s1.toks) fun b o e=>O9 _ e
  have fi:=I1.fpOk (b:=s1.heap.objs.size) (O2 _) (I1.hok.fresh (O2 _))
  have C:=Zhc (X:=X) (pins:=pins) (σ:=σ) (H0:=H1) (it:=s1.heap.objs.size) (a:=a) (xs:=xs) fi hq
  refine M8 C (by omega) (I1.ok.hd hc) I2 ⟨Pp _,st0,fi.1,rfl,Same.refl _⟩ (fun S hge hS h2 k2=>?_) fun S H' ys hS hS' hl' hj=>?_
  ·refine ⟨Pp _,st0.at fun o e=>k2 _ _ e,?_,rfl,Same.upd hS⟩
   rw [Ag (show s1.heap.objs.size≠S from fun z=>?_)]
   ·exact fi.1
   ·have hge:(s1.heap.push (Uw a (((its.toArray).size:Int) - 1))).objs.size<=S:=hge
    rw [Qi] at hge
    omega
  ·obtain ⟨h,j⟩:=hj
   obtain ⟨_,_,_,j4,j5⟩:=j
   rw [Qw (by simp)] at j4
   subst j4
   exact q S H' hS j5 hS'
theorem Zl2 (K:Oz){e:Expr}{ta:TA}{p p2 pos pos2:Pos}(hg:Gl X "list")(hm:X.mg "list" = none)(hg2:Gl X "reversed")(hm2:X.mg "reversed" = none)(ha:QA X [e] ta)(hK:X.K=K:=by rfl)(hc:X.calm=true:=by rfl)
  (hs:starEach [.Call (.Name "reversed" p2) [e] [] pos2] X.env=[(false,eval (.Call (.Name "reversed" p2) [e] [] pos2) X.env)]:=by rfl) (hs2:starEach [e] X.env=[(false,eval e X.env)]:=by rfl) :
  QE X (.Call (.Name "list" p) [.Call (.Name "reversed" p2) [e] [] pos2] [] pos) (Mi K ta):=by subst hK;exact Zi7 hg hm hg2 hm2 ha hc hs hs2
theorem s_listrev {K:Oz}{ta:TA}{σ:St}{H:Hp}{Q:VK}(h:ta σ H fun vs H1=>∃ a xs,vs=[.ref a]/\SqL K H1 a xs/\∀(S:Addr)(H2:Hp),H1 S=none->Same H1 H2->H2 S=some (.lst xs.reverse)->Q (.ref S) H2):Mi K ta σ H Q:=h
theorem Zoj {l b:Addr}{xs zs:List V}{H:Hp}{Q:VK}(e:H l=some (.lst xs))(e2:H b=some (.lst zs))(hz:xs.length+zs.length<=sizeLine)(h:Q .non (upd H l (.lst (xs++zs)))):Zci (.ref l) [.ref b] H Q:=⟨l,b,xs,zs,rfl,rfl,e,e2,hz,h⟩
noncomputable def Nq (K:Oz):List V->Hp->VK->Prop:=fun xs H Q=>∃(p:Addr)(ns:List Int),xs=[.ref p]/\SqL K H p (ns.map V.int)/\Q (.int ns.sum) H
theorem Gv:∀{ns:List Int}{us:List Value},Vals (ns.map V.int) us->∃ xs:List (Int×Tok),us=xs.map (fun p=>Value.int p.1 p.2)/\xs.map (·.1)=ns
 | [],_,.nil=>⟨[],rfl,rfl⟩
 | n::ns,_,.cons r t=>by
  obtain ⟨u,rfl⟩:=r
  obtain ⟨xs,e1,e2⟩:=Gv t
  exact ⟨(n,u)::xs,by rw [e1];rfl,by simp [e2]⟩
theorem Zji (hc:X.calm=true):B9 X (.builtin "sum") (Nq X.K):=by
 intro pins s σ H xs us Q I r h
 obtain ⟨p,ns,rfl,hq,q⟩:=h
 obtain ⟨u,rfl,ru⟩:=r.one
 cases ru
 obtain ⟨its,rv,pl,hz⟩:=I.list hq
 obtain ⟨zs,rfl,hn⟩:=Gv rv
 have hl:s.heap.IsList p (intItems zs.toArray):=by
  have e:intItems zs.toArray=(zs.map (fun p=>Value.int p.1 p.2)).toArray:=by unfold intItems;simp
  rw [e]
  exact pl.isList
 refine sum_intListG (I.ok.hd hc) hl fun h' tk t' hk=>?_
 have e:preSum (numAt zs.toArray) zs.toArray.size=ns.sum:=by
  rw [preSum_eq,Qw (by simp)]
  simp [hn]
 rw [e]
 exact ⟨.int ns.sum,H,I.kept hk,⟨t',rfl⟩,q⟩
theorem Zgl (K:Oz)(hc:X.calm=true)(hK:X.K=K:=by rfl):B9 X (.builtin "sum") (Nq K):=by subst hK;exact Zji hc
theorem Znd {K:Oz}{p:Addr}{ns:List Int}{H:Hp}{Q:VK}(q:SqL K H p (ns.map V.int))(h:Q (.int ns.sum) H):Nq K [.ref p] H Q:=⟨p,ns,rfl,q,h⟩
end
structure ZA (z TI TO i1 i2:Addr)(fp1 fp2:List Addr):Prop where
 TIz:TI≠z
 TOz:TO≠z
 TITO:TI≠TO
 z1:z ∉ fp1
 z2:z ∉ fp2
 TI1:TI≠i1
 TI2:TI≠i2
 TO1:TO ∉ fp1
 TO2:TO ∉ fp2
 m1:i1∈fp1
 m2:i2∈fp2
 n1:i1 ∉ fp2
 n2:i2 ∉ fp1
theorem ZA.i1z {z TI TO i1 i2:Addr}{fp1 fp2:List Addr}(D:ZA z TI TO i1 i2 fp1 fp2):i1≠z:=fun e=>D.z1 (e ▸ D.m1)
theorem ZA.i2z {z TI TO i1 i2:Addr}{fp1 fp2:List Addr}(D:ZA z TI TO i1 i2 fp1 fp2):i2≠z:=fun e=>D.z2 (e ▸ D.m2)
theorem ZA.TOi1 {z TI TO i1 i2:Addr}{fp1 fp2:List Addr}(D:ZA z TI TO i1 i2 fp1 fp2):TO≠i1:=fun e=>D.TO1 (e ▸ D.m1)
theorem ZA.TOi2 {z TI TO i1 i2:Addr}{fp1 fp2:List Addr}(D:ZA z TI TO i1 i2 fp1 fp2):TO≠i2:=fun e=>D.TO2 (e ▸ D.m2)
theorem B8 {prog:Program}{w:World}{A:Around}{it c:Addr}{fp:List Addr}{n i:Nat}{P:Nat->Value->Prop}{St:Nat->Heap->Prop}(D:Draws prog w A it fp n P St){h h':Heap}(st:St i h)(e:Ph c h h')(hc:c ∉ fp):St i h' :=
 D.frame i h h' st fun b hb o eo=>e.extBut b o (fun z=>hc (z ▸ hb)) eo
section
variable {prog:Program}{w:World}{A:Around}{E:Value->Shared->Prop}{s:Shared}{z TI TO i1 i2:Addr}{fp1 fp2:List Addr}{n1 n2 i:Nat}{P1 P2:Nat->Value->Prop}{St1 St2:Nat->Heap->Prop}{a b:Value}
theorem Zne {Q:Value->Shared->Prop}(D1:Draws prog w A i1 fp1 n1 P1 St1)(D2:Draws prog w A i2 fp2 n2 P2 St2)(D:ZA z TI TO i1 i2 fp1 fp2)(hz:IsZip s.heap z TI TO .none)(hTI:IsPair s.heap TI (.ref i1) (.ref i2))(hTO:IsPair s.heap TO a b)
  (st1:St1 i s.heap) (st2:St2 i s.heap) (l1:i < n1) (l2:i < n2)
  (hQ:∀ x y h' tk,P1 i x->P2 i y->IsZip h' z TI TO (rawInt s.heap.objs.size)->IsPair h' TO x y->St1 (i+1) h'->St2 (i+1) h'->IsPair h' s.heap.objs.size x y->h'.objs.size=s.heap.objs.size+1 ->
   (∀ c o,c≠z->c≠TO->c≠i1->c≠i2->s.heap.get? c=some o->h'.get? c=some o)->Q (.ref s.heap.objs.size) { s with heap:=h',toks:=tk }) :
  wpAny (model prog w) A (Builtin.«zip.__next__» ⟨[.ref z],[]⟩) (fun fin s'=>∃ v,fin=.done (.ret v)/\Q v s') E s:=by
 show wpAny _ _ (field (.ref z) 2 >>= _) _ _ s
 refine O0 (Pj hz rfl (x:=Value.bool false) rfl ?_)
 show wpAny _ _ (field (.ref z) 3 >>= _) _ _ s
 refine O0 (Pj hz rfl (x:=Value.ref TI) rfl (O0 (Qs hTI rfl ?_)))
 show wpAny _ _ (Qu (.ref z) >>= _) _ _ s
 refine O0 ?_
 unfold Qu
 refine O0 (Pj hz rfl (x:=Value.none) rfl (O3 ?_))
 simp only [if_true]
 refine O0 (Sj (O0 (Pj hz rfl (x:=Value.ref TO) rfl ?_)))
 refine O0 (Qx hz (by simp) fun h₁ hz₁ e1=>?_)
 replace hz₁:IsZip h₁ z TI TO Value.ellipsis:=hz₁
 refine O0 ?_
 simp only [List.zipIdx_cons,List.zipIdx_nil,Sb,Te]
 refine O0 (O0 (Ur ?_))
 show wpAny _ _ (Qm (.ref i1) >>= _) _ _ _
 refine O0 (D1.item i _ _ _ l1 (B8 D1 st1 e1 D.z1) fun x h₂ tk₂ px s12 e2=>O3 ?_)
 replace e2:Ph i1 h₁ h₂:=e2
 have p2:IsPair h₂ TO a b:=e2.extBut _ _ D.TOi1 (e1.extBut _ _ D.TOz hTO)
 refine O0 (Qs p2 rfl (O0 (U6 p2 fun h₃ p3 e3=>?_)))
 replace p3:IsPair h₃ TO x b:=p3
 replace e3:Ph TO h₂ h₃:=e3
 refine O0 (U0 (O3 (O0 (O0 (Ur ?_)))))
 show wpAny _ _ (Qm (.ref i2) >>= _) _ _ _
 have s22:St2 i h₃:=B8 D2 (B8 D2 (B8 D2 st2 e1 D.z2) e2 D.n1) e3 D.TO2
 refine O0 (D2.item i _ _ _ l2 s22 fun y h₄ tk₄ py s24 e4=>O3 ?_)
 replace e4:Ph i2 h₃ h₄:=e4
 have p4:IsPair h₄ TO x b:=e4.extBut _ _ D.TOi2 p3
 refine O0 (Qs p4 rfl (O0 (U6 p4 fun h₅ p5 e5=>?_)))
 replace p5:IsPair h₅ TO x y:=p5
 replace e5:Ph TO h₄ h₅:=e5
 refine O0 (U0 (O3 (O3 (O0 (Qs p5 rfl (O0 (wpAny_newTuple ?_)))))))
 have sz:h₅.objs.size=s.heap.objs.size:=by rw [e5.1,e4.1,e3.1,e2.1,e1.1]
 have z5:IsZip h₅ z TI TO Value.ellipsis:=e5.extBut _ _ D.TOz.symm (e4.extBut _ _ D.i2z.symm (e3.extBut _ _ D.TOz.symm (e2.extBut _ _ D.i1z.symm hz₁)))
 have k5:∀ c o,c≠z->c≠TO->c≠i1->c≠i2->s.heap.get? c=some o->h₅.get? c=some o:=fun c o c1 c2 c3 c4 e=>e5.extBut _ _ c2 (e4.extBut _ _ c4 (e3.extBut _ _ c2 (e2.extBut _ _ c3 (e1.extBut _ _ c1 e))))
 have t1:St1 (i+1) h₅:=B8 D1 (B8 D1 (B8 D1 s12 e3 D.TO1) e4 D.n2) e5 D.TO1
 have t2:St2 (i+1) h₅:=B8 D2 s24 e5 D.TO2
 have zlt:z < h₅.objs.size:=O8 z5
 show wpAny _ _ (Vw (.ref z) (.ref h₅.objs.size) >>= _) _ _ _
 refine O0 ?_
 unfold Vw
 have z6:IsZip (h₅.push { cls:=.type "tuple",data:=.seq #[x,y] }) z TI TO Value.ellipsis:=O9 _ z5
 refine O0 (Qx z6 (by simp) fun h₇ z7 e7=>?_)
 replace z7:IsZip h₇ z TI TO (rawInt h₅.objs.size):=z7
 refine Qx z7 (by simp) fun h₈ z8 e8=>?_
 replace z8:IsZip h₈ z TI TO (rawInt h₅.objs.size):=z8
 have up:∀ c o,c≠z->h₅.get? c=some o->h₈.get? c=some o:=fun c o c1 e=>e8.extBut _ _ c1 (e7.extBut _ _ c1 (O9 _ e))
 have t8:IsPair h₈ h₅.objs.size x y:=e8.extBut _ _ (Qo zlt) (e7.extBut _ _ (Qo zlt) (Pn _ rfl))
 have sz8:h₈.objs.size=h₅.objs.size+1:=by rw [e8.1,e7.1,Qi]
 rw [sz] at z8 t8 sz8
 refine O3 ⟨_,rfl,?_⟩
 show Q (.ref h₅.objs.size) _
 rw [sz]
 exact hQ x y h₈ tk₄ px py z8 (up _ _ D.TOz p5) (D1.frame _ _ _ t1 fun c hc o e=>up c o (fun q=>D.z1 (q ▸ hc)) e) (D2.frame _ _ _ t2 fun c hc o e=>up c o (fun q=>D.z2 (q ▸ hc)) e) t8 sz8 fun c o c1 c2 c3 c4 e=>up c o c1 (k5 c o c1 c2 c3 c4 e)
theorem Zgv {Q:Fin->Shared->Prop}(D1:Draws prog w A i1 fp1 n1 P1 St1)(D2:Draws prog w A i2 fp2 n2 P2 St2)(D:ZA z TI TO i1 i2 fp1 fp2)(hz:IsZip s.heap z TI TO .none)(hTI:IsPair s.heap TI (.ref i1) (.ref i2))(hTO:IsPair s.heap TO a b)
  (st1:St1 i s.heap) (st2:St2 i s.heap) (hend:i=n1\/(i < n1/\i=n2))
  (hE:∀ h' e tk,(∀ c o,c≠z->c≠TO->c≠i1->c≠i2->s.heap.get? c=some o->h'.get? c=some o)->(∃ o,h'.get? e=some o/\o.cls=.type "StopIteration")->E (.ref e) { s with heap:=h',toks:=tk }) :
  wpAny (model prog w) A (Builtin.«zip.__next__» ⟨[.ref z],[]⟩) Q E s:=by
 show wpAny _ _ (field (.ref z) 2 >>= _) _ _ s
 refine O0 (Pj hz rfl (x:=Value.bool false) rfl ?_)
 show wpAny _ _ (field (.ref z) 3 >>= _) _ _ s
 refine O0 (Pj hz rfl (x:=Value.ref TI) rfl (O0 (Qs hTI rfl ?_)))
 show wpAny _ _ (Qu (.ref z) >>= _) _ _ s
 refine O0 ?_
 unfold Qu
 refine O0 (Pj hz rfl (x:=Value.none) rfl (O3 ?_))
 simp only [if_true]
 refine O0 (Sj (O0 (Pj hz rfl (x:=Value.ref TO) rfl ?_)))
 refine O0 (Qx hz (by simp) fun h₁ hz₁ e1=>?_)
 replace hz₁:IsZip h₁ z TI TO Value.ellipsis:=hz₁
 refine O0 ?_
 simp only [List.zipIdx_cons,List.zipIdx_nil,Sb,Te]
 refine O0 (O0 (Ur ?_))
 show wpAny _ _ (Qm (.ref i1) >>= _) _ _ _
 rcases hend with rfl | ⟨l1,rfl⟩
 ·refine O0 (D1.done _ _ _ (B8 D1 st1 e1 D.z1) fun h₂ e e2 he=>?_)
  obtain ⟨oe,hoe,hce⟩:=he
  replace e2:Sg i1 h₁ h₂:=e2
  have z2:IsZip h₂ z TI TO Value.ellipsis:=e2 _ _ D.i1z.symm hz₁
  have hez:e≠z:=fun x=>by subst x;rw [z2] at hoe;cases hoe;simp at hce
  refine Qx z2 (by simp) fun h₃ _ e3=>hE h₃ e s.toks (fun c o c1 _ c3 _ x=>e3.extBut _ _ c1 (e2 _ _ c3 (e1.extBut _ _ c1 x))) ⟨oe,e3.extBut _ _ hez hoe,hce⟩
 ·refine O0 (D1.item i _ _ _ l1 (B8 D1 st1 e1 D.z1) fun x h₂ tk₂ px s12 e2=>O3 ?_)
  replace e2:Ph i1 h₁ h₂:=e2
  have p2:IsPair h₂ TO a b:=e2.extBut _ _ D.TOi1 (e1.extBut _ _ D.TOz hTO)
  refine O0 (Qs p2 rfl (O0 (U6 p2 fun h₃ p3 e3=>?_)))
  replace e3:Ph TO h₂ h₃:=e3
  refine O0 (U0 (O3 (O0 (O0 (Ur ?_)))))
  show wpAny _ _ (Qm (.ref i2) >>= _) _ _ _
  have s22:St2 i h₃:=B8 D2 (B8 D2 (B8 D2 st2 e1 D.z2) e2 D.n1) e3 D.TO2
  refine O0 (D2.done _ _ _ s22 fun h₄ e e4 he=>?_)
  obtain ⟨oe,hoe,hce⟩:=he
  replace e4:Sg i2 h₃ h₄:=e4
  have z4:IsZip h₄ z TI TO Value.ellipsis:=e4 _ _ D.i2z.symm (e3.extBut _ _ D.TOz.symm (e2.extBut _ _ D.i1z.symm hz₁))
  have hez:e≠z:=fun x=>by subst x;rw [z4] at hoe;cases hoe;simp at hce
  refine Qx z4 (by simp) fun h₅ _ e5=>hE h₅ e tk₂ (fun c o c1 c2 c3 c4 x=>e5.extBut _ _ c1 (e4 _ _ c4 (e3.extBut _ _ c2 (e2.extBut _ _ c3 (e1.extBut _ _ c1 x))))) ⟨oe,e5.extBut _ _ hez hoe,hce⟩
theorem Zcg {Q:Option Value->Shared->Prop}(D1:Draws prog w A.in1 i1 fp1 n1 P1 St1)(D2:Draws prog w A.in1 i2 fp2 n2 P2 St2)(D:ZA z TI TO i1 i2 fp1 fp2)(hz:IsZip s.heap z TI TO .none)(hTI:IsPair s.heap TI (.ref i1) (.ref i2))(hTO:IsPair s.heap TO a b)
  (st1:St1 i s.heap) (st2:St2 i s.heap) (l1:i < n1) (l2:i < n2)
  (hQ:∀ x y h' tk,P1 i x->P2 i y->IsZip h' z TI TO (rawInt s.heap.objs.size)->IsPair h' TO x y->St1 (i+1) h'->St2 (i+1) h'->IsPair h' s.heap.objs.size x y->h'.objs.size=s.heap.objs.size+1 ->
   (∀ c o,c≠z->c≠TO->c≠i1->c≠i2->s.heap.get? c=some o->h'.get? c=some o)->Q (some (.ref s.heap.objs.size)) { s with heap:=h',toks:=tk }) :
  wpAny (model prog w) A (pyNext (.ref z)) Q E s:=by
 have hT:s.TypeIs (.ref z) "zip" := ⟨_,hz,rfl⟩
 unfold pyNext
 exact O0 (Se (Qv (name:=Ql "__next__") hT Ra
  (Qr Ra hT T2 (Zne D1 D2 D hz hTI hTO st1 st2 l1 l2 fun x y h' tk a1 a2 a3 a4 a5 a6 a7 a8 a9=>O3 (hQ x y h' tk a1 a2 a3 a4 a5 a6 a7 a8 a9)) (Tz _))))
theorem Zex {Q:Option Value->Shared->Prop}(D1:Draws prog w A.in1 i1 fp1 n1 P1 St1)(D2:Draws prog w A.in1 i2 fp2 n2 P2 St2)(D:ZA z TI TO i1 i2 fp1 fp2)(hz:IsZip s.heap z TI TO .none)(hTI:IsPair s.heap TI (.ref i1) (.ref i2))(hTO:IsPair s.heap TO a b)
  (st1:St1 i s.heap) (st2:St2 i s.heap) (hend:i=n1\/(i < n1/\i=n2))
  (hQ:∀ h' tk,(∀ c o,c≠z->c≠TO->c≠i1->c≠i2->s.heap.get? c=some o->h'.get? c=some o)->Q none { s with heap:=h',toks:=tk }):wpAny (model prog w) A (pyNext (.ref z)) Q E s:=by
 have hT:s.TypeIs (.ref z) "zip" := ⟨_,hz,rfl⟩
 unfold pyNext
 refine O0 (Se (Qv (name:=Ql "__next__") hT Ra
  (Qr Ra hT T2 (Zgv D1 D2 D hz hTI hTO st1 st2 hend fun h' e tk hk he=>?_) (Tz _))))
 obtain ⟨o,ho,hc⟩:=he
 exact O0 (Ue (T := "StopIteration") (b:=true) ⟨o,ho,hc⟩ isSubtype_stop (O3 (hQ _ _ hk)))
end
section
variable {prog:Program}{w:World}{A:Around}{E:Value->Shared->Prop}{s:Shared}
end
section
variable {X:Cx}{pins:List (Addr×Obj)}{σ:St}{H:Hp}{s:Shared}{h':Heap}
theorem Inv.turnedL {t':Nat}{fp:List Addr}(I:Inv X pins σ H s)(k:∀ b o,b ∉ fp->s.heap.get? b=some o->h'.get? b=some o)(f:∀ b∈fp,FpOk X pins H b):Inv X pins σ H { s with heap:=h',toks:=t' }:=by
 have nit:∀ b u,H b=some u->b ∉ fp:=fun b u e hb=>by rw [(f b hb).1] at e;exact nomatch e
 refine I.step (g':=s.gens) (d':=s.drawn) (ch:=fp) (fun b hb=>?_) (fun b o _ _ hc e _=>k b o hc e) (fun b o _ _ hc e _=>⟨o.slots,k b o hc e⟩) (fun _ _ _ _ n=>n)
  (fun b o hc e=>⟨o,k b o hc e⟩) (fun _ _ e=>e) (fun _ _ _ e=>e) (fun b ps e=>⟨#[],by rw [e];simp⟩) (fun m hm=>?_) (fun b u e=>?_) I.bare
 ·obtain ⟨n1,l1,_,e1,c1,p1⟩:=f b hb
  exact ⟨e1,l1,c1,p1⟩
 ·obtain ⟨o,es,ep,ho,r⟩:=hm
  exact ⟨o,es,ep,k _ o (fun hb=>(f _ hb).2.1 rfl) ho,r⟩
 ·refine (I.hok b u e).stay (fun c v hc q=>k c v ?_ q) (fun _ q=>q) fun _ _ q=>q
  rcases hc with z | z
  ·rw [z];exact nit b u e
  ·exact nit c _ z
theorem Inv.pairL {tk:Nat}{fp:List Addr}{T:Addr}{xs:List V}{its:List Value}(I:Inv X pins σ H s)(f:∀ b∈fp,FpOk X pins H b)
  (kk:∀ b o,b ∉ fp->s.heap.get? b=some o->h'.get? b=some o) (hT:s.heap.objs.size<=T) (rv:Vals xs its) (hz:xs.length<=sizeLine) (ht:h'.IsTuple T its.toArray):Inv X pins σ (upd H T (.tup xs)) { s with heap:=h',toks:=tk }:=by
 have hf:H T=none:=I.hok.fresh hT
 have I1:Inv X pins σ H { s with heap:=h',toks:=tk }:=I.turnedL kk f
 have hokN:HOk X.prog X.w (upd H T (.tup xs)) h':=fun b o e=>by
  by_cases hb:b=T
  ·subst hb
   rw [Ac] at e
   cases e
   exact ⟨hz,its,rv,ht⟩
  ·rw [Ag hb] at e
   refine (I1.hok b o e).stay (fun c v _ q=>q) (fun c q=>?_) fun c zs q=>?_
   ·rw [Ag (Aw q hf)];exact q
   ·rw [Ag (Aw q hf)];exact q
 have u:Un (Cu X.stack) fp H (upd H T (.tup xs)) s.heap h':={
  keep:=fun b o e n _ hx=>kk b o hx e
  slot:=fun b o e n _ hx=>⟨o.slots,kk b o hx e⟩
  free:=fun b o e n _=>by rw [Ag (Pe (Pl (O8 e) hT))];exact n
  there:=fun b o e hx=>⟨o,kk b o hx e⟩
  tups:=fun b zs e=>by rw [Ag (Aw e hf)];exact e
  frzs:=fun b o u e=>by rw [Ag (Aw e hf)];exact e
  tbls:=fun b ps e=>⟨#[],by rw [Ag (Aw e hf),e];simp⟩ }
 refine I.call (g':=s.gens) (d':=s.drawn) (t':=tk) u hokN I.bare fun b hb=>?_
 obtain ⟨n1,l1,_,e1,c1,p1⟩:=f b hb
 exact ⟨e1,l1,c1,p1⟩
end
structure ZB (z TI TO i1 i2 a b:Addr):Prop where
 TIz:TI≠z
 TOz:TO≠z
 TITO:TI≠TO
 i1z:i1≠z
 i2z:i2≠z
 TI1:TI≠i1
 TI2:TI≠i2
 TO1:TO≠i1
 TO2:TO≠i2
 i12:i1≠i2
 az:a≠z
 aTO:a≠TO
 a1:a≠i1
 a2:a≠i2
 bz:b≠z
 bTO:b≠TO
 b1:b≠i1
 b2:b≠i2
theorem ZB.za {z TI TO i1 i2 a b:Addr}(D:ZB z TI TO i1 i2 a b):ZA z TI TO i1 i2 [i1,a] [i2,b] where
 TIz:=D.TIz
 TOz:=D.TOz
 TITO:=D.TITO
 z1:=by simp [D.i1z.symm,D.az.symm]
 z2:=by simp [D.i2z.symm,D.bz.symm]
 TI1:=D.TI1
 TI2:=D.TI2
 TO1:=by simp [D.TO1,D.aTO.symm]
 TO2:=by simp [D.TO2,D.bTO.symm]
 m1:=by simp
 m2:=by simp
 n1:=by simp [D.i12,D.b1.symm]
 n2:=by simp [D.i12.symm,D.a2.symm]
theorem Zfk {n a b:Nat}(h1:a < n)(h2:b < n):ZB (n+4) (n+2) (n+3) n (n+1) a b:=by
 have f:∀ i j:Nat,i≠j->n+i≠n+j:=fun i j h e=>h (Nat.add_left_cancel e)
 have g:∀ i:Nat,a≠n+i:=fun i e=>absurd h1 (by rw [e];exact Nat.not_lt.mpr (Q6 _ _))
 have g':∀ i:Nat,b≠n+i:=fun i e=>absurd h2 (by rw [e];exact Nat.not_lt.mpr (Q6 _ _))
 exact ⟨f 2 4 (by decide),f 3 4 (by decide),f 2 3 (by decide),f 0 4 (by decide),f 1 4 (by decide),f 2 0 (by decide),f 2 1 (by decide),f 3 0 (by decide),f 3 1 (by decide),f 0 1 (by decide),g 4,g 3,g 0,g 1,g' 4,g' 3,g' 0,g' 1⟩
section
variable {X:Cx}
end
theorem Zgs {prog:Program}{w:World}{A:Around}{E:Value->Shared->Prop}{s:Shared}{t sl:Addr}{items:Array Value}{vl vu:Value}{lo hi:Option Int}{Q:Value->Shared->Prop}(ht:IsTup s.heap t items)(hs:s.heap.IsSliceOf sl vl vu .none)(pl:IsPart vl lo)(pu:IsPart vu hi)
  (hw:HT.sIx items.size 0 lo=0/\HT.sIx items.size items.size hi=items.size) (h:Q (.ref t) s):wpAny (model prog w) A (getItem (.ref t) (.ref sl)) Q E s:=by
 obtain ⟨os,hos,hcs,hds⟩:=id hs
 have hTs:s.TypeIs (.ref sl) "slice" := ⟨os,hos,hcs⟩
 unfold getItem
 try with_reducible refine Qk ?_
 first | refine O0 (O3 ?_) | skip
 refine O0 (wpAny_sequenceKey ht.typeIs (by decide) ?_)
 refine O0 (Qv (name:=Ql "__getitem__") ht.typeIs Ry
  (Qr Ry ht.typeIs PyProof.Rows.entry_tuple_getitem ?_ (PyProof.Rows.args_tuple_getitem _ _)))
 show wpAny _ _ (Builtin.Tuple.tupleItemsOf (.ref t) >>= _) _ _ s
 refine O0 (PyProof.Rows.tupleItemsOf_ ht ?_)
 refine O0 (Uu hTs ?_)
 rw [if_pos (by decide)]
 refine O0 (HT.sliceApplied_gen hs pl pu ?_)
 have hyes:(((HT.sIx items.size 0 lo:Nat):Int) == 0 && (1:Int) == 1 && (HT.sIx items.size items.size hi - HT.sIx items.size 0 lo) == items.size)=true:=by
  rw [hw.1,hw.2]
  simp
 show wpAny _ _ (if (((HT.sIx items.size 0 lo:Nat):Int) == 0 && (1:Int) == 1 && (HT.sIx items.size items.size hi - HT.sIx items.size 0 lo) == items.size)=true then _ else _) _ _ s
 rw [if_pos hyes]
 refine O0 (m:=Builtin.Tuple.tupleIsExact (.ref t)) ?_
 unfold Builtin.Tuple.tupleIsExact
 refine O0 (Uu ht.typeIs (O3 ?_))
 rw [if_pos (by decide)]
 refine O0 (Sj ?_)
 exact O3 ⟨_,rfl,O3 h⟩
noncomputable def rSlU (K:Oz):V->Option Int->Option Int->Hp->VK->Prop:=fun x lo hi H Q=>∃ a xs,x=.ref a/\SqT K H a xs/\∀ r H',Same H H'->SqT K H' r (Bz xs lo hi)->Q (.ref r) H'
theorem Zmw {X:Cx}:SlR X (rSlU X.K):=by
 intro pins s σ H x v vl vu lo hi sl Q I rx hs pl pu h
 obtain ⟨a,xs,rfl,hx,q⟩:=h
 by_cases hw:HT.sIx xs.length 0 lo=0/\HT.sIx xs.length xs.length hi=xs.length
 ·cases rx
  obtain ⟨its,r,ht,hz⟩:=I.tuple hx
  have hlen:its.toArray.size=xs.length:=by rw [O4];exact r.length.symm
  refine ⟨"tuple",_,Ry.lookup,ht.typeIs,?_⟩
  refine Zgs ht hs pl pu (by rw [hlen];exact hw) ⟨.ref a,H,I,rfl,q a H (Same.refl H) ?_⟩
  have e:Bz xs lo hi=xs:=by unfold Bz;rw [hw.1,hw.2];simp
  rw [e]
  exact hx
 ·exact Zb9 pins s σ H _ v vl vu lo hi sl Q I rx hs pl pu ⟨a,xs,rfl,hx,hw,fun p hp=>q p _ (Same.upd hp) (.of Ac)⟩
noncomputable def Oc (K:Oz):V->Option Int->Option Int->Hp->VK->Prop:=fun x lo hi H Q=>Og K x lo hi H Q\/L7 x lo hi H Q\/rSlU K x lo hi H Q
theorem Zds {X:Cx}(K:Oz)(hK:X.K=K:=by rfl):SlR X (Oc K):=by subst hK;exact sl_list.or (sl_str.or Zmw)
theorem Zkx {K:Oz}{a:Addr}{xs:List V}{lo hi:Option Int}{H:Hp}{Q:VK}(ha:SqL K H a xs)(h:∀ p,H p=none->Q (.ref p) (upd H p (.lst (Bz xs lo hi)))):Oc K (.ref a) lo hi H Q:=.inl ⟨a,xs,rfl,ha,h⟩
theorem Zlk {K:Oz}{a:Addr}{xs:List V}{lo hi:Option Int}{H:Hp}{Q:VK}(ha:SqT K H a xs)(h:∀ r H',Same H H'->SqT K H' r (Bz xs lo hi)->Q (.ref r) H'):Oc K (.ref a) lo hi H Q:=.inr (.inr ⟨a,xs,rfl,ha,h⟩)
theorem s_aug {i:Nat}{te:TE}{ti:Gx}{D:Cv}{σ:St}{H:Hp}{x:V}(e:σ[i]?=some (some x))(h:te σ H fun y H1=>ti x y H1 fun z H2=>D.nx (σ.set i (some z)) H2):M6 i te ti D σ H:=⟨x,e,h⟩
theorem s_ipI {g:Int->Int->Int}{i j:Int}{H:Hp}{Q:VK}(h:Q (.int (g i j)) H):ipI g (.int i) (.int j) H Q:=⟨i,j,rfl,rfl,h⟩
theorem Zgt (xs:List V)(k:Nat):Bz xs none (some (k:Int))=xs.take k:=by
 unfold Bz
 rw [HT.sIx_none,HT.sIx_nat,Nat.sub_zero,List.drop_zero]
 by_cases h:k<=xs.length
 ·rw [Tb h]
 ·rw [Nat.min_eq_right (by omega),Qw (O2 _),Qw (by omega)]
theorem Zn6 (xs:List V)(k:Nat):Bz xs (some (k:Int)) none=xs.drop k:=by
 unfold Bz
 rw [HT.sIx_none,HT.sIx_nat]
 by_cases h:k<=xs.length
 ·rw [Tb h,Qw (by simp)]
 ·rw [Nat.min_eq_right (by omega),So (O2 _),So (by omega)]
  simp
theorem Zpz (xs:List V):Bz xs none (some (-1))=xs.take (xs.length - 1):=by
 unfold Bz
 rw [HT.sIx_none,List.drop_zero]
 show xs.take ((if (-1:Int) < 0 then ((-1:Int)+(xs.length:Int)).toNat else min (-1:Int).toNat xs.length) - 0)=_
 rw [if_pos (by decide)]
 congr 1
 omega
section
variable {M:Model}{A:Around}{E:Value->Shared->Prop}{s:Shared}
end
theorem Zby {X:Cx}{st:Stmt}:QS X st (fun _ _ _=>False):=⟨fun _ _ _ _ _ _ h=>h.elim⟩
noncomputable def G2 (h:Heap)(z TI TO i1 i2:Addr):Prop:=∃(a:Addr)(oa:Obj)(f1:Value),h.get? z=some { cls:=.type "zip",dict:=none,data:=.fields #[rawInt a,f1,.bool false,.ref TI,.ref TO],slots:=#[] }/\h.get? a=some oa/\a≠z/\a≠i1/\a≠i2
section
variable {prog:Program}{w:World}{A:Around}{E:Value->Shared->Prop}{s:Shared}{z TI TO i1 i2:Addr}{fp1 fp2:List Addr}{n1 n2 i:Nat}{P1 P2:Nat->Value->Prop}{St1 St2:Nat->Heap->Prop}{a b:Value}
theorem Zc8 {Q:Bool->Shared->Prop}(hz:G2 s.heap z TI TO i1 i2)(h:∀ h',G2 h' z TI TO i1 i2->Ph z s.heap h'->Q false { s with heap:=h' }):wpAny (model prog w) A (Qu (.ref z)) Q E s:=by
 obtain ⟨a,oa,f1,e,ea,n0,n1,n2⟩:=hz
 unfold Qu
 refine O0 (Pj e rfl (x:=rawInt a) rfl ?_)
 show wpAny _ _ (loadIfAlive ((a:Int).toNat) >>= _) _ _ s
 refine O0 (Zbv ?_)
 rw [Qy,ea]
 rw [if_neg (by simp)]
 refine O0 (Pj e rfl (x:=f1) rfl ?_)
 by_cases hf:(f1 != Value.bool true)=true
 ·simp only [hf,if_true]
  refine O0 (Qx e (by simp) fun h₅ e5 s5=>?_)
  replace s5:Ph z s.heap h₅:=s5
  exact O3 (h h₅ ⟨a,oa,.bool true,e5,s5.extBut a oa n0 ea,n0,n1,n2⟩ s5)
 ·simp only [hf]
  exact O3 (h s.heap ⟨a,oa,f1,e,ea,n0,n1,n2⟩ (Ph.refl ..))
theorem Zmr {Q:Value->Shared->Prop}(D1:Draws prog w A i1 fp1 n1 P1 St1)(D2:Draws prog w A i2 fp2 n2 P2 St2)(D:ZA z TI TO i1 i2 fp1 fp2)(hz:G2 s.heap z TI TO i1 i2)(hTI:IsPair s.heap TI (.ref i1) (.ref i2))
  (st1:St1 i s.heap) (st2:St2 i s.heap) (l1:i < n1) (l2:i < n2)
  (hQ:∀ x y h' tk,P1 i x->P2 i y->G2 h' z TI TO i1 i2->St1 (i+1) h'->St2 (i+1) h'->IsPair h' s.heap.objs.size x y->h'.objs.size=s.heap.objs.size+1 ->
   (∀ c o,c≠z->c≠i1->c≠i2->s.heap.get? c=some o->h'.get? c=some o)->Q (.ref s.heap.objs.size) { s with heap:=h',toks:=tk }) :
  wpAny (model prog w) A (Builtin.«zip.__next__» ⟨[.ref z],[]⟩) (fun fin s'=>∃ v,fin=.done (.ret v)/\Q v s') E s:=by
 obtain ⟨a0,oa0,f10,e0,_⟩:=id hz
 show wpAny _ _ (field (.ref z) 2 >>= _) _ _ s
 refine O0 (Pj e0 rfl (x:=Value.bool false) rfl ?_)
 show wpAny _ _ (field (.ref z) 3 >>= _) _ _ s
 refine O0 (Pj e0 rfl (x:=Value.ref TI) rfl (O0 (Qs hTI rfl ?_)))
 show wpAny _ _ (Qu (.ref z) >>= _) _ _ s
 refine O0 (Zc8 hz fun h₁ hz₁ e1=>?_)
 simp only [Sv,if_false]
 refine O0 ?_
 simp only [List.forIn_toArray,Sb,Te]
 refine O0 (O0 (Qk ?_))
 show wpAny _ _ (Qm (.ref i1) >>= _) _ _ _
 refine O0 (D1.item i _ _ _ l1 (B8 D1 st1 e1 D.z1) fun x h₂ tk₂ px s12 e2=>O3 (O3 ?_))
 replace e2:Ph i1 h₁ h₂:=e2
 refine O0 (O0 (Qk ?_))
 show wpAny _ _ (Qm (.ref i2) >>= _) _ _ _
 have s22:St2 i h₂:=B8 D2 (B8 D2 st2 e1 D.z2) e2 D.n1
 refine O0 (D2.item i _ _ _ l2 s22 fun y h₄ tk₄ py s24 e4=>O3 (O3 (O3 ?_)))
 replace e4:Ph i2 h₂ h₄:=e4
 show wpAny _ _ (newTuple [x,y] >>= _) _ _ _
 refine O0 (wpAny_newTuple (O3 ⟨_,rfl,?_⟩))
 have sz:h₄.objs.size=s.heap.objs.size:=by rw [e4.1,e2.1,e1.1]
 show Q (.ref h₄.objs.size) { s with heap:=h₄.push { cls:=.type "tuple",data:=.seq #[x,y] },toks:=tk₄ }
 have up:∀ c o,h₄.get? c=some o->(h₄.push { cls:=.type "tuple",data:=.seq #[x,y] }).get? c=some o:=fun c o e=>O9 _ e
 have k4:∀ c o,c≠z->c≠i1->c≠i2->s.heap.get? c=some o->h₄.get? c=some o:=fun c o c1 c3 c4 e=>e4.extBut _ _ c4 (e2.extBut _ _ c3 (e1.extBut _ _ c1 e))
 have t8:IsPair (h₄.push { cls:=.type "tuple",data:=.seq #[x,y] }) h₄.objs.size x y:=Pn _ rfl
 rw [sz] at t8
 rw [sz]
 obtain ⟨a1,oa1,f1,g1,g2,g3,g4,g5⟩:=hz₁
 refine hQ x y _ tk₄ px py ⟨a1,oa1,f1,up _ _ (e4.extBut _ _ D.i2z.symm (e2.extBut _ _ D.i1z.symm g1)),up _ _ (e4.extBut _ _ g5 (e2.extBut _ _ g4 g2)),g3,g4,g5⟩ ?_ ?_ t8 (by rw [Qi,sz]) fun c o c1 c3 c4 e=>up c o (k4 c o c1 c3 c4 e)
 ·exact D1.frame _ _ _ (B8 D1 s12 e4 D.n2) fun c _ o e=>up c o e
 ·exact D2.frame _ _ _ s24 fun c _ o e=>up c o e
theorem Zio {Q:Fin->Shared->Prop}(D1:Draws prog w A i1 fp1 n1 P1 St1)(D2:Draws prog w A i2 fp2 n2 P2 St2)(D:ZA z TI TO i1 i2 fp1 fp2)(hz:G2 s.heap z TI TO i1 i2)(hTI:IsPair s.heap TI (.ref i1) (.ref i2))
  (st1:St1 i s.heap) (st2:St2 i s.heap) (hend:i=n1\/(i < n1/\i=n2))
  (hE:∀ h' e tk,(∀ c o,c≠z->c≠i1->c≠i2->s.heap.get? c=some o->h'.get? c=some o)->(∃ o,h'.get? e=some o/\o.cls=.type "StopIteration")->E (.ref e) { s with heap:=h',toks:=tk }) :
  wpAny (model prog w) A (Builtin.«zip.__next__» ⟨[.ref z],[]⟩) Q E s:=by
 obtain ⟨a0,oa0,f10,e0,_⟩:=id hz
 show wpAny _ _ (field (.ref z) 2 >>= _) _ _ s
 refine O0 (Pj e0 rfl (x:=Value.bool false) rfl ?_)
 show wpAny _ _ (field (.ref z) 3 >>= _) _ _ s
 refine O0 (Pj e0 rfl (x:=Value.ref TI) rfl (O0 (Qs hTI rfl ?_)))
 show wpAny _ _ (Qu (.ref z) >>= _) _ _ s
 refine O0 (Zc8 hz fun h₁ hz₁ e1=>?_)
 simp only [Sv,if_false]
 refine O0 ?_
 simp only [List.forIn_toArray,Sb,Te]
 refine O0 (O0 (Qk ?_))
 show wpAny _ _ (Qm (.ref i1) >>= _) _ _ _
 rcases hend with rfl | ⟨l1,rfl⟩
 ·refine O0 (D1.done _ _ _ (B8 D1 st1 e1 D.z1) fun h₂ e e2 he=>?_)
  replace e2:Sg i1 h₁ h₂:=e2
  exact hE h₂ e s.toks (fun c o c1 c3 _ x=>e2 _ _ c3 (e1.extBut _ _ c1 x)) he
 ·refine O0 (D1.item i _ _ _ l1 (B8 D1 st1 e1 D.z1) fun x h₂ tk₂ px s12 e2=>O3 (O3 ?_))
  replace e2:Ph i1 h₁ h₂:=e2
  refine O0 (O0 (Qk ?_))
  show wpAny _ _ (Qm (.ref i2) >>= _) _ _ _
  have s22:St2 i h₂:=B8 D2 (B8 D2 st2 e1 D.z2) e2 D.n1
  refine O0 (D2.done _ _ _ s22 fun h₄ e e4 he=>?_)
  replace e4:Sg i2 h₂ h₄:=e4
  exact hE h₄ e tk₂ (fun c o c1 c3 c4 x=>e4 _ _ c4 (e2.extBut _ _ c3 (e1.extBut _ _ c1 x))) he
noncomputable def ZpSt (h:Heap)(z TI TO i1 i2:Addr)(i:Nat):Prop:=(i=0/\IsZip h z TI TO .none/\∃ u v,IsPair h TO u v)\/(0 < i/\G2 h z TI TO i1 i2)
theorem ZpSt.obj {h:Heap}{z TI TO i1 i2:Addr}{i:Nat}(x:ZpSt h z TI TO i1 i2 i):∃ vs,h.get? z=some { cls:=.type "zip",dict:=none,data:=.fields vs,slots:=#[] }:=by
 rcases x with ⟨_,x,_⟩ | ⟨_,_,_,_,x,_⟩
 ·exact ⟨_,x⟩
 ·exact ⟨_,x⟩
theorem Zjz {Q:Option Value->Shared->Prop}(D1:Draws prog w A.in1 i1 fp1 n1 P1 St1)(D2:Draws prog w A.in1 i2 fp2 n2 P2 St2)(D:ZA z TI TO i1 i2 fp1 fp2)(hz:ZpSt s.heap z TI TO i1 i2 i)(hTI:IsPair s.heap TI (.ref i1) (.ref i2))(eTO:∃ o,s.heap.get? TO=some o)
  (st1:St1 i s.heap) (st2:St2 i s.heap) (l1:i < n1) (l2:i < n2)
  (hQ:∀ x y h' tk,P1 i x->P2 i y->ZpSt h' z TI TO i1 i2 (i+1)->(∃ o,h'.get? TO=some o)->St1 (i+1) h'->St2 (i+1) h'->IsPair h' s.heap.objs.size x y->h'.objs.size=s.heap.objs.size+1 ->
   (∀ c o,c≠z->c≠TO->c≠i1->c≠i2->s.heap.get? c=some o->h'.get? c=some o)->Q (some (.ref s.heap.objs.size)) { s with heap:=h',toks:=tk }) :
  wpAny (model prog w) A (pyNext (.ref z)) Q E s:=by
 obtain ⟨vs,ho⟩:=hz.obj
 have hT:s.TypeIs (.ref z) "zip" := ⟨_,ho,rfl⟩
 have zl:z < s.heap.objs.size:=O8 ho
 have l1':i1 < s.heap.objs.size:=by obtain ⟨_,y⟩:=D1.live _ _ st1;exact O8 y
 have l2':i2 < s.heap.objs.size:=by obtain ⟨_,y⟩:=D2.live _ _ st2;exact O8 y
 rcases hz with ⟨rfl,hz,u,v,hTO⟩ | ⟨hi,hz⟩
 ·exact Zcg D1 D2 D hz hTI hTO st1 st2 l1 l2 fun x y h' tk a1 a2 a3 a4 a5 a6 a7 a8 a9=>hQ x y h' tk a1 a2 (.inr ⟨Ux _,_,_,_,a3,a7,Qo zl,Qo l1',Qo l2'⟩) ⟨_,a4⟩ a5 a6 a7 a8 a9
 ·unfold pyNext
  exact O0 (Se (Qv (name:=Ql "__next__") hT Ra
   (Qr Ra hT T2 (Zmr D1 D2 D hz hTI st1 st2 l1 l2 fun x y h' tk a1 a2 a3 a4 a5 a6 a7 a8=>O3 (hQ x y h' tk a1 a2 (.inr ⟨Ux _,a3⟩) (let ⟨o,e⟩:=eTO;⟨o,a8 _ o D.TOz D.TOi1 D.TOi2 e⟩) a4 a5 a6 a7 fun c o c1 _ c3 c4 e=>a8 c o c1 c3 c4 e)) (Tz _))))
theorem Zpk {Q:Option Value->Shared->Prop}(D1:Draws prog w A.in1 i1 fp1 n1 P1 St1)(D2:Draws prog w A.in1 i2 fp2 n2 P2 St2)(D:ZA z TI TO i1 i2 fp1 fp2)(hz:ZpSt s.heap z TI TO i1 i2 i)(hTI:IsPair s.heap TI (.ref i1) (.ref i2))
  (st1:St1 i s.heap) (st2:St2 i s.heap) (hend:i=n1\/(i < n1/\i=n2))
  (hQ:∀ h' tk,(∀ c o,c≠z->c≠TO->c≠i1->c≠i2->s.heap.get? c=some o->h'.get? c=some o)->Q none { s with heap:=h',toks:=tk }):wpAny (model prog w) A (pyNext (.ref z)) Q E s:=by
 obtain ⟨vs,ho⟩:=hz.obj
 have hT:s.TypeIs (.ref z) "zip" := ⟨_,ho,rfl⟩
 rcases hz with ⟨rfl,hz,u,v,hTO⟩ | ⟨hi,hz⟩
 ·exact Zex D1 D2 D hz hTI hTO st1 st2 hend hQ
 ·unfold pyNext
  refine O0 (Se (Qv (name:=Ql "__next__") hT Ra
   (Qr Ra hT T2 (Zio D1 D2 D hz hTI st1 st2 hend fun h' e tk hk he=>?_) (Tz _))))
  obtain ⟨o,ho,hc⟩:=he
  exact O0 (Ue (T := "StopIteration") (b:=true) ⟨o,ho,hc⟩ isSubtype_stop (O3 (hQ _ _ fun c o c1 _ c3 c4 e=>hk c o c1 c3 c4 e)))
end
noncomputable abbrev itZ (b:Bool)(l:Addr):Obj:={ cls:=.type (cond b "tuple_iterator" "list_iterator"),data:=.fields #[.ref l,.int 0 0] }
noncomputable def ZIt (b:Bool)(h:Heap)(a l:Addr)(i:Nat):Prop:=∃ o,h.get? a=some o/\o.cls=.type (cond b "tuple_iterator" "list_iterator")/\o.data=.fields #[.ref l,.int i 0]
theorem ZIt.at {b:Bool}{h h':Heap}{a l:Addr}{i:Nat}(x:ZIt b h a l i)(k:∀ o,h.get? a=some o->h'.get? a=some o):ZIt b h' a l i:=let ⟨o,e,r⟩:=x;⟨o,k o e,r⟩
noncomputable def ZIn (b:Bool)(h:Heap)(a:Addr)(xs:Array Value):Prop:=cond b (h.IsTuple a xs) (h.IsList a xs)
noncomputable def Fa (b:Bool)(K:Oz)(H:Hp)(a:Addr)(xs:List V):Prop:=cond b (SqT K H a xs) (SqL K H a xs)
theorem ZIn.lt {b:Bool}{h:Heap}{a:Addr}{xs:Array Value}(x:ZIn b h a xs):a < h.objs.size:=by
 cases b <;> exact let ⟨_,e,_⟩:=id x;O8 e
theorem ZIn.push {b:Bool}{h:Heap}{a:Addr}{xs:Array Value}(x:ZIn b h a xs)(o:Obj):ZIn b (h.push o) a xs:=by
 cases b
 ·exact Heap.IsList.push x _
 ·obtain ⟨o,e,r⟩:=id x
  exact ⟨o,O9 _ e,r⟩
theorem Same.sqZ {b:Bool}{K:Oz}{H H':Hp}{a:Addr}{xs:List V}(m:Same H H')(x:Fa b K H a xs):Fa b K H' a xs:=by
 cases b
 ·exact m.seq x
 ·exact m.tup x
theorem Inv.zin {X:Cx}{pins:List (Addr×Obj)}{σ:St}{H:Hp}{s:Shared}{b:Bool}{a:Addr}{xs:List V}(I:Inv X pins σ H s)(x:Fa b X.K H a xs):∃ its,Vals xs its/\ZIn b s.heap a its.toArray:=by
 cases b
 ·obtain ⟨its,rv,pl,hz⟩:=I.list x
  exact ⟨its,rv,pl.isList⟩
 ·obtain ⟨its,rv,pl,hz⟩:=I.tuple x
  exact ⟨its,rv,pl⟩
theorem Inv.zsz {X:Cx}{pins:List (Addr×Obj)}{σ:St}{H:Hp}{s:Shared}{b:Bool}{a:Addr}{xs:List V}(I:Inv X pins σ H s)(x:Fa b X.K H a xs):xs.length<=sizeLine:=by
 cases b
 ·obtain ⟨its,rv,pl,hz⟩:=I.list x
  have:=rv.length
  omega
 ·obtain ⟨its,rv,pl,hz⟩:=I.tuple x
  have:=rv.length
  omega
theorem Lj {prog:Program}{w:World}{A:Around}(b:Bool)(hh:A.handled=none)(it l:Addr)(hne:l≠it)(items:Array Value) :
  Draws prog w A it [it,l] items.size (fun i v=>items[i]?=some v) (fun i h=>ZIt b h it l i/\ZIn b h l items):=by
 cases b
 ·exact Ru hh it l hne items
 ·exact N6 hh it l hne items
theorem Zd5 {prog:Program}{w:World}{A:Around}{E:Value->Shared->Prop}{s:Shared}{b:Bool}{a:Addr}{xs:Array Value}{Q:Value->Shared->Prop}(q:ZIn b s.heap a xs)
  (h:Q (.ref s.heap.objs.size) { s with heap:=s.heap.push (itZ b a) }):wpAny (model prog w) A (pyIter (.ref a)) Q E s:=by
 cases b
 ·exact wpAny_pyIter_list q h
 ·exact Su q h
noncomputable abbrev zl1 (b:Bool)(h:Heap)(l1:Addr):Heap:=h.push (itZ b l1)
noncomputable abbrev zl2 (b gg:Bool)(h:Heap)(l1 l2:Addr):Heap:=(zl1 b h l1).push (itZ gg l2)
noncomputable abbrev zl3 (b gg:Bool)(h:Heap)(l1 l2:Addr):Heap:=(zl2 b gg h l1 l2).push { cls:=.type "tuple",data:=.seq #[.ref h.objs.size,.ref (zl1 b h l1).objs.size] }
noncomputable abbrev zl4 (b gg:Bool)(h:Heap)(l1 l2:Addr):Heap:=(zl3 b gg h l1 l2).push { cls:=.type "tuple",data:=.seq #[.none,.none] }
noncomputable abbrev F8 (b gg:Bool)(h:Heap)(l1 l2:Addr):Heap:=(zl4 b gg h l1 l2).push { cls:=.type "zip",data:=.fields #[.none,.bool false,.bool false,.ref (zl2 b gg h l1 l2).objs.size,.ref (zl3 b gg h l1 l2).objs.size] }
theorem Zjt (b gg:Bool)(l1 l2:Addr)(xs ys:Array Value) :
  Meets (Builtin.«zip.__new__» ⟨[.type "zip",.ref l1,.ref l2],[]⟩) (fun _ R s=>ZIn b s.heap l1 xs/\ZIn gg s.heap l2 ys/\R (.ok (.ret (.ref (zl4 b gg s.heap l1 l2).objs.size))) { s with heap:=F8 b gg s.heap l1 l2 }) :=
 .of_wp fun prog w A R s h=>by
  obtain ⟨hp,g,d,tk,os⟩:=s;obtain ⟨hl1,hl2,h⟩:=h
  have hsub:=sub_zip
  have q1:ZIn b (Shared.heap ⟨hp,g,d,tk,os⟩) l1 xs:=hl1
  have q2:ZIn gg (Shared.heap ⟨hp.push (itZ b l1),g,d,tk,os⟩) l2 ys:=hl2.push _
  wp_walk using Zd5 q1,Zd5 q2
  exact ⟨_,rfl,h⟩
theorem Zcr {b gg:Bool}{prog:Program}{w:World}{A:Around}{E:Value->Shared->Prop}{s:Shared}{l1 l2:Addr}{xs ys:Array Value}{Q:Value->Shared->Prop}(hl1:ZIn b s.heap l1 xs)(hl2:ZIn gg s.heap l2 ys)
  (h:∀ h',IsZip h' (s.heap.objs.size+4) (s.heap.objs.size+2) (s.heap.objs.size+3) .none->IsPair h' (s.heap.objs.size+2) (.ref s.heap.objs.size) (.ref (s.heap.objs.size+1)) ->
   IsPair h' (s.heap.objs.size+3) .none .none->ZIt b h' s.heap.objs.size l1 0->ZIt gg h' (s.heap.objs.size+1) l2 0->h'.objs.size=s.heap.objs.size+5 ->
   (∀ c o,s.heap.get? c=some o->h'.get? c=some o)->Q (.ref (s.heap.objs.size+4)) { s with heap:=h' }) :
  wpAny (model prog w) A (call (.type "zip") [.ref l1,.ref l2]) Q E s:=by
 refine callType_new PySem.F.called_zip (by decide) (PySem.F.typeCall_zip_2 _ _) (PySem.F.newCall_zip_2 _ _) (fun obj=>PySem.F.args_object_init_3 obj _ _) PySem.F.entry_zip_new (Zjt b gg l1 l2 xs ys) ⟨hl1,hl2,?_⟩
 have y1:(zl1 b s.heap l1).objs.size=s.heap.objs.size+1:=Qi ..
 have y2:(zl2 b gg s.heap l1 l2).objs.size=s.heap.objs.size+2:=by rw [Qi,y1]
 have y3:(zl3 b gg s.heap l1 l2).objs.size=s.heap.objs.size+3:=by rw [Qi,y2]
 have y4:(zl4 b gg s.heap l1 l2).objs.size=s.heap.objs.size+4:=by rw [Qi,y3]
 have y5:(F8 b gg s.heap l1 l2).objs.size=s.heap.objs.size+5:=by rw [Qi,y4]
 have u5:(F8 b gg s.heap l1 l2).get? (zl4 b gg s.heap l1 l2).objs.size=some _:=Pn _ rfl
 have u4:(F8 b gg s.heap l1 l2).get? (zl3 b gg s.heap l1 l2).objs.size=some _:=O9 _ (Pn _ rfl)
 have u3:(F8 b gg s.heap l1 l2).get? (zl2 b gg s.heap l1 l2).objs.size=some _:=O9 _ (O9 _ (Pn _ rfl))
 have u2:(F8 b gg s.heap l1 l2).get? (zl1 b s.heap l1).objs.size=some _:=O9 _ (O9 _ (O9 _ (Pn _ rfl)))
 have u1:(F8 b gg s.heap l1 l2).get? s.heap.objs.size=some _:=O9 _ (O9 _ (O9 _ (O9 _ (Pn _ rfl))))
 show _/\_
 rw [y2,y3,y4] at u5
 rw [y1,y2] at u3
 rw [y3] at u4
 rw [y1] at u2
 rw [y4]
 exact ⟨⟨_,u5,rfl⟩,h _ u5 u3 u4 ⟨_,u1,rfl,rfl⟩ ⟨_,u2,rfl,rfl⟩ y5 fun c o x=>O9 _ (O9 _ (O9 _ (O9 _ (O9 _ x))))⟩
noncomputable def Mr (H:Hp)(xs ys zs:List V):Prop:=∀(j:Nat)(z:V),zs[j]?=some z->∃(t:Addr)(x y:V),z=V.ref t/\xs[j]?=some x/\ys[j]?=some y/\H t=some (.tup [x,y])
noncomputable def JZp (f gg:Bool)(K:Oz)(H0:Hp)(z TI TO i1 i2 a b:Addr)(xs ys:List V):Nat->List V->Hp->Heap->Prop:=fun i zs H h =>
 ZpSt h z TI TO i1 i2 i/\(IsPair h TI (.ref i1) (.ref i2)/\∃ o,h.get? TO=some o)/\ZIt f h i1 a i/\ZIt gg h i2 b i/\(∀ c∈[z,TI,TO,i1,i2],H c=none)/\zs.length=i/\Mr H xs ys zs/\Same H0 H
theorem Znl:typeLookup (.type "zip") "__len__" = pure none:=by rw [Sc,R3];kernel_rfl
theorem Zja:typeLookup (.type "zip") "__length_hint__" = pure none:=by rw [Sc,R3];kernel_rfl
theorem Zi1 {f gg:Bool}{X:Cx}{pins:List (Addr×Obj)}{σ:St}{H0:Hp}{z TI TO i1 i2 a b:Addr}{xs ys:List V}(fp:∀ c∈[z,TI,TO,i1,i2],FpOk X pins H0 c)(D:ZB z TI TO i1 i2 a b)(ha:Fa f X.K H0 a xs)(hb:Fa gg X.K H0 b ys) :
  Src X pins σ z "zip" (min xs.length ys.length) H0 (JZp f gg X.K H0 z TI TO i1 i2 a b xs ys) where
 ty:=fun i zs H h j=>by
  obtain ⟨vs,e⟩:=j.1.obj
  exact ⟨_,e,rfl⟩
 nl:=by decide
 hint:=⟨_,fun A s Q E hT h=>Zbs hT Znl Zja h⟩
 self:=fun A s zs H Q E j q=>by
  rcases j.1 with ⟨_,e,_⟩ | ⟨z,_⟩
  ·exact Vo e q
  ·exact absurd z (Qj _)
 keep:=fun i zs H h h' S us us' h0 hS j k al=>by
  obtain ⟨j1,⟨j2,jT⟩,j3,j4,j5,j6,j7,j8⟩:=j
  have ne:∀ c∈[z,TI,TO,i1,i2],c≠S:=fun c hc e=>by
   have:=j5 c hc
   rw [e,hS] at this
   cases this
  refine ⟨?_,⟨k _ _ (ne TI (by simp)) j2,let ⟨o,e⟩:=jT;⟨o,k _ _ (ne TO (by simp)) e⟩⟩,j3.at fun o e=>k _ _ (ne i1 (by simp)) e,j4.at fun o e=>k _ _ (ne i2 (by simp)) e,fun c hc=>by rw [Ag (ne c hc)];exact j5 c hc,j6,fun m y hy=>?_,j8.over h0⟩
  ·rcases j1 with ⟨z0,e,u,v,e2⟩ | ⟨z0,a0,oa,f1,e,ea,x1,x2,x3⟩
   ·exact .inl ⟨z0,k _ _ (ne z (by simp)) e,u,v,k _ _ (ne TO (by simp)) e2⟩
   ·by_cases hs:a0=S
    ·subst hs
     obtain ⟨o,eo⟩:=al
     exact .inr ⟨z0,a0,o,f1,k _ _ (ne z (by simp)) e,eo,x1,x2,x3⟩
    ·exact .inr ⟨z0,a0,oa,f1,k _ _ (ne z (by simp)) e,k _ _ hs ea,x1,x2,x3⟩
  ·obtain ⟨t,x,y',e1,e2,e3,e4⟩:=j7 m y hy
   exact ⟨t,x,y',e1,e2,e3,by rw [Ag (Ew e4 hS (by intro z;cases z))];exact e4⟩
 fresh:=fun i zs H h j=>j.2.2.2.2.1 z (by simp)
 item:=fun A i s H zs E hh hi I j=>by
  obtain ⟨j1,⟨j2,jT⟩,j3,j4,j5,j6,j7,j8⟩:=j
  obtain ⟨its,rv,p⟩:=I.zin (j8.sqZ ha)
  obtain ⟨its2,rv2,p2⟩:=I.zin (j8.sqZ hb)
  have g1:=rv.length
  have g2:=rv2.length
  have l1:i < xs.length:=by omega
  have l2:i < ys.length:=by omega
  have D1:=Lj (prog:=X.prog) (w:=X.w) (A:=A.in1) f hh i1 a D.a1 its.toArray
  have D2:=Lj (prog:=X.prog) (w:=X.w) (A:=A.in1) gg hh i2 b D.b2 its2.toArray
  refine Zjz D1 D2 D.za j1 j2 jT ⟨j3,p⟩ ⟨j4,p2⟩ (by rw [O4];omega) (by rw [O4];omega) fun x y h' tk px py a1 aT a2 a3 a4 a5 a6=>?_
  have hx':its[i]?=some x:=by simpa using px
  have hy':its2[i]?=some y:=by simpa using py
  obtain ⟨u1,hu1,ru1⟩:=rv.get (O1 l1)
  obtain ⟨u2,hu2,ru2⟩:=rv2.get (O1 l2)
  rw [hx'] at hu1
  cases hu1
  rw [hy'] at hu2
  cases hu2
  have hf:H s.heap.objs.size=none:=I.hok.fresh (O2 _)
  have fpH:∀ c∈[z,TI,TO,i1,i2],FpOk X pins H c:=fun c hc=>(fp c hc).of (j5 c hc)
  have kk:∀ c o,c ∉ [z,TI,TO,i1,i2]->s.heap.get? c=some o->h'.get? c=some o:=fun c o hc e=>by
   simp only [O5,Pd,or_false,not_or] at hc
   exact a6 c o hc.1 hc.2.2.1 hc.2.2.2.1 hc.2.2.2.2 e
  have I2:=I.pairL (tk:=tk) (T:=s.heap.objs.size) (xs:=[xs[i],ys[i]]) (its:=[x,y]) fpH kk (O2 _) (.cons ru1 (.cons ru2 .nil)) (by show 2<=sizeLine;decide) ⟨_,a4,rfl,_,rfl⟩
  have sm:Same H (upd H s.heap.objs.size (.tup [xs[i],ys[i]])):=Same.upd hf
  have lt:∀{c o},s.heap.get? c=some o->c≠s.heap.objs.size:=fun e=>Pe (O8 e)
  have nw:∀ c∈[z,TI,TO,i1,i2],c≠s.heap.objs.size:=fun c hc=>by
   simp only [O5,Pd,or_false] at hc
   rcases hc with rfl | rfl | rfl | rfl | rfl
   ·obtain ⟨_,e⟩:=j1.obj;exact lt e
   ·exact lt j2
   ·obtain ⟨_,e⟩:=jT;exact lt e
   ·obtain ⟨_,e,_⟩:=j3;exact lt e
   ·obtain ⟨_,e,_⟩:=j4;exact lt e
  refine ⟨_,.ref s.heap.objs.size,_,rfl,rfl,I2,⟨a1,⟨a6 _ _ D.TIz D.TITO D.TI1 D.TI2 j2,aT⟩,a2.1,a3.1,fun c hc=>by rw [Ag (nw c hc)];exact j5 c hc,by simp [j6],fun m y hy=>?_,j8.trans sm⟩,fun S us e=>sm S _ e⟩
  by_cases hm:m < i
  ·rw [Py (by omega)] at hy
   obtain ⟨t,x,y',e1,e2,e3,e4⟩:=j7 m y hy
   exact ⟨t,x,y',e1,e2,e3,sm _ _ e4⟩
  ·have hlen:=(Pa.mp hy).1
   rw [O7,Pr] at hlen
   have:m=i:=by omega
   subst this
   rw [Px (by omega),j6,Ri] at hy
   have hy:V.ref s.heap.objs.size=y:=by simpa using hy
   exact ⟨_,xs[m],ys[m],hy.symm,O1 l1,O1 l2,Ac⟩
 done:=fun A s H zs E hh I j=>by
  obtain ⟨j1,⟨j2,jT⟩,j3,j4,j5,j6,j7,j8⟩:=j
  obtain ⟨its,rv,p⟩:=I.zin (j8.sqZ ha)
  obtain ⟨its2,rv2,p2⟩:=I.zin (j8.sqZ hb)
  have g1:=rv.length
  have g2:=rv2.length
  have D1:=Lj (prog:=X.prog) (w:=X.w) (A:=A.in1) f hh i1 a D.a1 its.toArray
  have D2:=Lj (prog:=X.prog) (w:=X.w) (A:=A.in1) gg hh i2 b D.b2 its2.toArray
  have fpH:∀ c∈[z,TI,TO,i1,i2],FpOk X pins H c:=fun c hc=>(fp c hc).of (j5 c hc)
  refine Zpk D1 D2 D.za j1 j2 ⟨j3,p⟩ ⟨j4,p2⟩ (by simp only [O4];omega) fun h' tk kk=>⟨rfl,I.turnedL (fun c o hc e=>?_) fpH⟩
  simp only [O5,Pd,or_false,not_or] at hc
  exact kk c o hc.1 hc.2.2.1 hc.2.2.2.1 hc.2.2.2.2 e
section
variable {X:Cx}
noncomputable def Zd1 (f gg:Bool)(K:Oz)(ta:TA):TE:=fun σ H Q=>ta σ H fun vs H1=>∃ a b xs ys,vs=[.ref a,.ref b]/\Fa f K H1 a xs/\Fa gg K H1 b ys /\
 ∀(S:Addr)(zs:List V)(H2:Hp),H1 S=none->Same H1 H2->zs.length=min xs.length ys.length->Mr H2 xs ys zs->H2 S=some (.lst zs)->Q (.ref S) H2
theorem Zlx (f gg:Bool)(K:Oz){e e2:Expr}{ta:TA}{p p2 pos pos2:Pos}(hg:Gl X "list")(hm:X.mg "list" = none)(hg2:Gl X "zip")(hm2:X.mg "zip" = none)(ha:QA X [e,e2] ta)(hK:X.K=K:=by rfl)(hc:X.calm=true:=by rfl)
  (hs:starEach [.Call (.Name "zip" p2) [e,e2] [] pos2] X.env=[(false,eval (.Call (.Name "zip" p2) [e,e2] [] pos2) X.env)]:=by rfl) (hs2:starEach [e,e2] X.env=[(false,eval e X.env),(false,eval e2 X.env)]:=by rfl) (hs3:starEach [e2] X.env=[(false,eval e2 X.env)]:=by rfl) :
  QE X (.Call (.Name "list" p) [.Call (.Name "zip" p2) [e,e2] [] pos2] [] pos) (Zd1 f gg K ta):=by
 subst hK
 refine ⟨fun pins s σ H Q I h=>?_⟩
 refine Call_ (Dm I hg hm L5 (Qp ?_ hs rfl))
 rw [hs]
 show wpAny _ _ (spliced ((false,eval (.Call (.Name "zip" p2) [e,e2] [] pos2) X.env)::[])) _ _ s
 refine Ro ?_
 refine Call_ (Dm I hg2 hm2 PyProof.Rows.boot_zip (Qp (Aj (ha.run pos2 pins s σ H _ I h) fun us s1 ⟨vs,H1,I1,r1,q1⟩=>?_) (by rw [hs2,hs3]) (by rw [hs3];rfl)))
 obtain ⟨a,b,xs,ys,e1,hq,hq2,q⟩:=q1
 subst e1
 obtain ⟨u,v,rfl,ru,rv⟩:=r1.two
 cases ru
 cases rv
 obtain ⟨its,rv,pl⟩:=I1.zin hq
 obtain ⟨its2,rv2,pl2⟩:=I1.zin hq2
 have hz2:=I1.zsz hq2
 have lt1:a < s1.heap.objs.size:=pl.lt
 have lt2:b < s1.heap.objs.size:=pl2.lt
 refine Zcr pl pl2 fun h' a1 a2 a3 a4 a5 a6 hk=>?_
 refine R8 ?_
 have fr:∀ k,FpOk X pins H1 (s1.heap.objs.size+k):=fun k=>I1.fpOk (Q6 _ _) (I1.hok.fresh (Q6 _ _))
 have fp:∀ c∈[s1.heap.objs.size+4,s1.heap.objs.size+2,s1.heap.objs.size+3,s1.heap.objs.size,s1.heap.objs.size+1],FpOk X pins H1 c:=fun c hc=>by
  simp only [O5,Pd,or_false] at hc
  rcases hc with rfl | rfl | rfl | rfl | rfl
  ·exact fr 4
  ·exact fr 2
  ·exact fr 3
  ·exact fr 0
  ·exact fr 1
 have C:=Zi1 (X:=X) (pins:=pins) (σ:=σ) (H0:=H1) fp (Zfk lt1 lt2) hq hq2
 have I2:Inv X pins σ H1 { s1 with heap:=h' }:=I1.kept (t':=s1.toks) hk
 refine M8 C (by omega) (I1.ok.hd hc) I2 ⟨.inl ⟨rfl,a1,_,_,a3⟩,⟨a2,_,a3⟩,a4,a5,fun c hc=>(fp c hc).1,rfl,fun j y hy=>by simp at hy,Same.refl _⟩ (fun S hge hS h2 k2=>?_) fun S H' zs hS hS' hl' hj=>?_
 ·have sm:Same H1 (upd H1 S (.lst [])):=Same.upd hS
  refine ⟨.inl ⟨rfl,k2 _ _ a1,_,_,k2 _ _ a3⟩,⟨k2 _ _ a2,_,k2 _ _ a3⟩,a4.at fun o e=>k2 _ _ e,a5.at fun o e=>k2 _ _ e,fun c hc=>?_,rfl,fun j y hy=>by simp at hy,sm⟩
  have hge:h'.objs.size<=S:=hge
  rw [Ag (show c≠S from fun z=>?_)]
  ·exact (fp c hc).1
  ·simp only [O5,Pd,or_false] at hc
   rcases hc with rfl | rfl | rfl | rfl | rfl <;> exact absurd z (Pe (Pl (by omega) hge))
 ·obtain ⟨h,j⟩:=hj
  exact q S zs H' hS j.2.2.2.2.2.2.2 hl' j.2.2.2.2.2.2.1 hS'
end
theorem Zbi:∀(xs ys:List Int),((Pk (min xs.length ys.length)).all (fun j=>xs.getD j 0 == ys.getD j 0) && xs.length == ys.length)=decide (xs=ys):=by
 intro xs ys
 rw [Sa,Q4,Rr,beq_iff_eq,decide_eq_true_iff]
 constructor
 ·rintro ⟨h1,h2⟩
  apply List.ext_getElem h2
  intro i g1 g2
  have:=h1 i (Um.mpr (by omega))
  rw [beq_iff_eq,Qd,Qd,O1 g1,O1 g2] at this
  exact this
 ·rintro rfl
  exact ⟨fun j _=>by simp,rfl⟩
section
variable {X:Cx}
noncomputable def rNeI (K:Oz):R2:=fun x y H Q=>∃(a c:Addr)(xs ys:List Int),x=.ref a/\y=.ref c/\SqT K H a (xs.map V.int)/\SqT K H c (ys.map V.int)/\Q (.bl (!decide (xs=ys))) H
theorem Zhs (hu:X.A.units+200 < cLine):OpR X (compareOp .NotEq) (rNeI X.K):=by
 intro pins s σ H x y v u Q I rx ry h
 obtain ⟨a,c,xs,ys,rfl,rfl,hx,hy,q⟩:=h
 cases rx
 cases ry
 obtain ⟨its,r1,p1,_⟩:=I.tuple hx
 obtain ⟨its2,r2,p2,_⟩:=I.tuple hy
 obtain ⟨us,e1,f1⟩:=Gv r1
 obtain ⟨vs,e2,f2⟩:=Gv r2
 have l1:us.length=xs.length:=by rw [<- f1,O6]
 have l2:vs.length=ys.length:=by rw [<- f2,O6]
 refine Zcd (e:=fun j=>xs.getD j 0 == ys.getD j 0) (show s.heap.IsTuple a its.toArray from p1) (show s.heap.IsTuple c its2.toArray from p2) (by omega) (fun j h1 h2=>?_) ?_
 ·subst e1 e2
  simp only [O4,O6] at h1 h2
  have g1:xs.getD j 0=us[j].1:=by rw [<- f1,Qd,Po,O1 h1];rfl
  have g2:ys.getD j 0=vs[j].1:=by rw [<- f2,Qd,Po,O1 h2];rfl
  rw [g1,g2]
  simp only [List.getElem_toArray,List.getElem_map]
  exact Ub _ _ _ _
 ·have e:(!((Pk (min its.toArray.size its2.toArray.size)).all (fun j=>xs.getD j 0 == ys.getD j 0) && its.toArray.size == its2.toArray.size))=!decide (xs=ys):=by
   have z1:its.toArray.size=xs.length:=by rw [O4,e1,O6,l1]
   have z2:its2.toArray.size=ys.length:=by rw [O4,e2,O6,l2]
   rw [z1,z2,Zbi]
  rw [e]
  exact ⟨.bl _,H,I,rfl,q⟩
noncomputable def K0 (K:Oz):R2:=fun x y H Q=>Hj K x y H Q\/rNeI K x y H Q
theorem Jn (K:Oz)(hu:X.A.units+200 < cLine)(hK:X.K=K:=by rfl):OpR X (compareOp .NotEq) (K0 K):=by subst hK;exact (Zdg hu).or (Zhs hu)
theorem s_neb {K:Oz}{x y:V}{H:Hp}{Q:VK}(hs:Ge x y=true)(h:Q (.bl (!decide (x=y))) H):K0 K x y H Q:=.inl (.inl ⟨hs,h⟩)
theorem Zk4 {K:Oz}{a c:Addr}{H:Hp}{Q:VK}{n:Nat}{d:Dt}(hn:n<=190)(hx:IsD K H n (.ref a) d)(hy:IsD K H n (.ref c) d)(h:Q (.bl false) H):K0 K (.ref a) (.ref c) H Q:=.inl (Zle hn hx hy h)
theorem Zek {K:Oz}{a c:Addr}{xs ys:List Int}{H:Hp}{Q:VK}(hx:SqT K H a (xs.map V.int))(hy:SqT K H c (ys.map V.int))(h:Q (.bl (!decide (xs=ys))) H):K0 K (.ref a) (.ref c) H Q:=.inr ⟨a,c,xs,ys,rfl,rfl,hx,hy,h⟩
end
section
variable {X:Cx}
end
section
variable {X:Cx}{pins:List (Addr×Obj)}{σ:St}{H:Hp}{s:Shared}
end
section
variable {P:Program}{w:World}{K:Oz}{mg:Str->Option Value}{base:Heap}{N:List Str}{qual:Str}{scope:Scope}{f:Addr}{cd:Value}{A:Around}{outer:List Env}{s0:Shared}{H0:Hp}{E:XK}
end
section
variable {P:Program}{w:World}{K:Oz}{mg:Str->Option Value}{base:Heap}
end
section
variable {X:Cx}{k:Nat}{x:Str}{ps:List Str}{sp:Sp}{p pos np cpos:Pos}{e:Expr}{es:List Expr}{t:TA}{E:XK}
end
section
variable {X:Cx}{pins:List (Addr×Obj)}{σ:St}{H:Hp}{s:Shared}
end
section
variable {X:Cx}{k:Nat}{x:Str}{ps:List Str}{sp:Sp}{p pos np cpos:Pos}{e:Expr}{es:List Expr}{t:TA}
end
section
variable {X:Cx}{pins:List (Addr×Obj)}{σ:St}{H:Hp}{s:Shared}
end
section
variable {X:Cx}{c n:Str}{np hpos pos:Pos}{body hbody:List Stmt}{b₀:Stmt}{tb:TXS}{th:TS}{i:Nat}{C:Addr}
end
section
open PySem.W PySem.Builtin PySem.Builtin.ObjectAttr
variable {prog:Program}{w:World}{A:Around}{E:Value->Shared->Prop}{s:Shared}{K:Frag}{x C:Addr}{ox:Obj}{od:Option Obj}{name:Str}{R:Result->Shared->Prop}
end
section
variable {X:Cx}{pins:List (Addr×Obj)}{σ:St}{H:Hp}{s:Shared}
end
section
variable {X:Cx}{pins:List (Addr×Obj)}{σ:St}{H:Hp}{s:Shared}{a C:Addr}{f:Str}{A:Around}{E:Value->Shared->Prop}
open PySem.W PySem.Builtin PySem.Builtin.ObjectAttr
end
section
variable {X:Cx}{o e value:Expr}{f:Str}{pos pos':Pos}{ta tv:TE}
end
section
open PySem.W
end
section
variable {prog:Program}{w:World}{A:Around}{E:Value->Shared->Prop}{h:Heap}{g:Array GenState}{d:Drawn}{t:Nat}{os:OsState}
variable {nm q:Str}{C N:Addr}{bs bm bmB:List Value}{hdct:Bool}{sn:List Str}{sub:List Value}{ab:Bool}{col:Option Bool}{dd:Option Addr}{k0 k1 k2 k3 k5:Option Value}{B Bn newId nid initId inN:String}{bmN:List Value}
end
section
variable {X:Cx}{k:Nat}{x:Str}{sp:Sp}{ps:List Str}{C f:Addr}{fd:FuncData}{np cpos pos:Pos}{a:Expr}{t:TA}{E:XK}
end
section
variable {P:Program}{w:World}{K:Oz}{mg:Str->Option Value}{base:Heap}
end
section
variable {X:Cx}{k:Nat}{x:Str}{ps:List Str}{sp:Sp}{p pos:Pos}{e:Expr}{es:List Expr}{t:TA}
end
section
open PySem.W PySem.Builtin PySem.Builtin.ObjectAttr
variable {prog:Program}{w:World}{A:Around}{E:Value->Shared->Prop}{s:Shared}{K:Frag}{x D:Addr}{ox:Obj}{od:Option Obj}
end
section
variable {X:Cx}{pins:List (Addr×Obj)}{σ:St}{H:Hp}{s:Shared}{a C':Addr}{od:Option Addr}
end
section
variable {X:Cx}
noncomputable def rEqI (K:Oz):R2:=fun x y H Q=>∃(a c:Addr)(xs ys:List Int),x=.ref a/\y=.ref c/\SqT K H a (xs.map V.int)/\SqT K H c (ys.map V.int)/\Q (.bl (decide (xs=ys))) H
theorem Zkn (hu:X.A.units+200 < cLine):OpR X (compareOp .Eq) (rEqI X.K):=by
 intro pins s σ H x y v u Q I rx ry h
 obtain ⟨a,c,xs,ys,rfl,rfl,hx,hy,q⟩:=h
 cases rx
 cases ry
 obtain ⟨its,r1,p1,_⟩:=I.tuple hx
 obtain ⟨its2,r2,p2,_⟩:=I.tuple hy
 obtain ⟨us,e1,f1⟩:=Gv r1
 obtain ⟨vs,e2,f2⟩:=Gv r2
 have l1:us.length=xs.length:=by rw [<- f1,O6]
 have l2:vs.length=ys.length:=by rw [<- f2,O6]
 refine SeqAt.eq_tupleAt (e:=fun j=>xs.getD j 0 == ys.getD j 0) (show s.heap.IsTuple a its.toArray from p1) (show s.heap.IsTuple c its2.toArray from p2) (by omega) (fun j h1 h2=>?_) ?_
 ·subst e1 e2
  simp only [O4,O6] at h1 h2
  have g1:xs.getD j 0=us[j].1:=by rw [<- f1,Qd,Po,O1 h1];rfl
  have g2:ys.getD j 0=vs[j].1:=by rw [<- f2,Qd,Po,O1 h2];rfl
  rw [g1,g2]
  simp only [List.getElem_toArray,List.getElem_map]
  exact Ub _ _ _ _
 ·have e:((Pk (min its.toArray.size its2.toArray.size)).all (fun j=>xs.getD j 0 == ys.getD j 0) && its.toArray.size == its2.toArray.size)=decide (xs=ys):=by
   have z1:its.toArray.size=xs.length:=by rw [O4,e1,O6,l1]
   have z2:its2.toArray.size=ys.length:=by rw [O4,e2,O6,l2]
   rw [z1,z2,Zbi]
  rw [e]
  exact ⟨.bl _,H,I,rfl,q⟩
noncomputable def rEqB (K:Oz):R2:=fun x y H Q=>Le K x y H Q\/rEqI K x y H Q
theorem Zoz (K:Oz)(hu:X.A.units+200 < cLine)(hK:X.K=K:=by rfl):OpR X (compareOp .Eq) (rEqB K):=by subst hK;exact (Zb2 hu).or (Zkn hu)
theorem Zmo {K:Oz}{a c:Addr}{xs ys:List Int}{H:Hp}{Q:VK}(hx:SqT K H a (xs.map V.int))(hy:SqT K H c (ys.map V.int))(h:Q (.bl (decide (xs=ys))) H):rEqB K (.ref a) (.ref c) H Q:=.inr ⟨a,c,xs,ys,rfl,rfl,hx,hy,h⟩
end
end L2
namespace L2
open PySem
section
variable {g:TG}{tt:TT}{te:TE}{σ0:St}{H1:Hp}{D:Addr}{Q:VK}
end
end L2
namespace L2
open PySem PySem.Spec PyProof.Rows
section
variable {X:Cx}
end
section
variable {prog:Program}{w:World}{A:Around}{E:Value->Shared->Prop}{s:Shared}
end
section
variable {X:Cx}
end
section
variable {g:TG}{tt:TT}{te:TE}{σ0:St}{H1:Hp}{D:Addr}{Q:VK}
end
section
variable {X:Cx}
open PySem.Builtin PySem.Builtin.Str in
end
section
variable {prog:Program}{w:World}{A:Around}{E:Value->Shared->Prop}{s:Shared}
end
section
variable {X:Cx}
end
section
variable {X:Cx}{k:Nat}{x:Str}{ps:List Str}{sp:Sp}{p pos:Pos}
end
section
variable {X:Cx}{k:Nat}{x m:Str}{ps:List Str}{sp:Sp}{E:XK}{C:Addr}{p pos apos:Pos}{e o:Expr}{es:List Expr}{ta:TE}{t:TA}{CX:Dd}{P:Program}{w:World}{mg:Str->Option Value}{base:Heap}
end
section
variable {X:Cx}{e o value:Expr}{f:Str}{pos pos':Pos}{ta tv:TE}{pins:List (Addr×Obj)}{σ:St}{H:Hp}{s:Shared}
end
section
variable {X:Cx}{pins:List (Addr×Obj)}{σ:St}{H:Hp}{s:Shared}
end
section
variable {P:Program}{w:World}{K:Oz}{mg:Str->Option Value}{base:Heap}
end
section
variable {X:Cx}{k:Nat}{x:Str}{ps ks:List Str}{gV:List V->List V->List V}{sp:Sp}{E:XK}{C:Addr}{p pos kpos:Pos}{e:Expr}{es:List Expr}{kws:List Keyword}{te:TE}{t tk:TA}{CX:Dd}{nm:Option Str}{f:Addr}{fd:FuncData}{g:List Value->List Value->List Value}
end
section
variable {X:Cx}{pins:List (Addr×Obj)}{σ:St}{H:Hp}{s:Shared}
end
section
variable {κ:Type}[DecidableEq κ]
noncomputable def Bl (kvs:List (κ×V))(k:κ):Option V:=(kvs.find? fun kv=>decide (kv.1=k)).map (·.2)
noncomputable def Bb (kvs:List (κ×V))(k:κ)(v:V):List (κ×V) :=
 if (kvs.any fun kv=>decide (kv.1=k))=true then kvs.map (fun kv=>if kv.1=k then (kv.1,v) else kv) else kvs++[(k,v)]
theorem Ef {p:κ×V}{r:List (κ×V)}{k:κ}(e:p.1=k):Bl (p::r) k=some p.2:=by simp [Bl,Sd,e]
theorem Ee {p:κ×V}{r:List (κ×V)}{k:κ}(e:¬ p.1=k):Bl (p::r) k=Bl r k:=by simp [Bl,Sd,e]
theorem K1 (k:κ):∀ kvs:List (κ×V),(kvs.any fun kv=>decide (kv.1=k))=(Bl kvs k).isSome
 | []=>rfl
 | p::r=>by
  rw [Th]
  by_cases e:p.1=k
  ·simp only [Ef e,decide_eq_true e,Bool.true_or,Option.isSome_some]
  ·rw [Ee e,decide_eq_false e,Bool.false_or];exact K1 k r
theorem Zcb (k j:κ)(y:V):∀ kvs:List (κ×V),Bl (kvs.map fun kv=>if kv.1=k then (kv.1,y) else kv) j=(Bl kvs j).map fun x=>if j=k then y else x
 | []=>rfl
 | p::r=>by
  have ih:=Zcb k j y r
  rw [Qa]
  by_cases h:p.1=k
  ·rw [if_pos h]
   by_cases e:p.1=j
   ·rw [Ef (p:=(p.1,y)) e,Ef e,Ul,if_pos (e.symm.trans h)]
   ·rw [Ee (p:=(p.1,y)) e,Ee e,ih]
  ·rw [if_neg h]
   by_cases e:p.1=j
   ·rw [Ef (p:=p) e,Ef e,Ul,if_neg (fun z=>h (e.trans z))]
   ·rw [Ee (p:=p) e,Ee e,ih]
theorem Zcm (k j:κ)(y:V):∀ kvs:List (κ×V),Bl kvs k=none->Bl (kvs++[(k,y)]) j=if j=k then some y else Bl kvs j
 | [],_=>by
  by_cases e:k=j
  ·rw [if_pos e.symm];exact Ef (p:=(k,y)) e
  ·rw [if_neg (fun z=>e z.symm)];exact Ee (p:=(k,y)) e
 | p::r,hn=>by
  rw [Re]
  have hk:¬ p.1=k:=fun z=>by rw [Ef z] at hn;cases hn
  rw [Ee hk] at hn
  have ih:=Zcm k j y r hn
  by_cases e:p.1=j
  ·rw [Ef e,Ef e,if_neg (fun z=>hk (e.trans z))]
  ·rw [Ee e,Ee e,ih]
theorem F0 (kvs:List (κ×V))(k j:κ)(y:V):Bl (Bb kvs k y) j=if j=k then some y else Bl kvs j:=by
 unfold Bb
 by_cases a:(kvs.any fun kv=>decide (kv.1=k))=true
 ·rw [if_pos a,Zcb]
  rw [K1] at a
  by_cases e:j=k
  ·obtain ⟨x,hx⟩:=Q2.mp a
   rw [if_pos e,e,hx,Ul,if_pos rfl]
  ·rw [if_neg e]
   cases Bl kvs j with
   | none=>rfl
   | some x=>rw [Ul,if_neg e]
 ·rw [if_neg a]
  refine Zcm k j y kvs ?_
  rw [K1] at a
  cases q:Bl kvs k with
  | none=>rfl
  | some x=>rw [q] at a;exact (a rfl).elim
theorem Dq (kvs:List (κ×V))(k:κ)(v:V):(Bb kvs k v).length<=kvs.length+1:=by
 unfold Bb
 split
 ·rw [O6];omega
 ·rw [O7,Pb,List.length_nil];omega
theorem RelO.isSome_eq {o:Option V}{u:Option Value}(r:RelO o u):o.isSome=u.isSome:=by
 cases o with
 | none=>cases u with
  | none=>rfl
  | some _=>exact (show False from r).elim
 | some _=>cases u with
  | none=>exact (show False from r).elim
  | some _=>rfl
theorem RelO.getD {o:Option V}{u:Option Value}{d:V}{d':Value}(r:RelO o u)(rd:RelV d d'):RelV (o.getD d) (u.getD d'):=by
 cases o with
 | none=>cases u with
  | none=>exact rd
  | some _=>exact (show False from r).elim
 | some _=>cases u with
  | none=>exact (show False from r).elim
  | some _=>exact r
theorem KV.val {kvs:List (κ×V)}{vs:List (κ×Value)}(r:KV kvs vs)(k:κ):RelO (Bl kvs k) (valueAt vs k):=by
 unfold KV at r
 induction r with
 | nil=>exact True.intro
 | @cons p q ps qs h t ih =>
  obtain ⟨h1,h2⟩:=h
  by_cases e:p.1=k
  ·have e':q.1=k:=h1.symm.trans e
   have b:valueAt (q::qs) k=some q.2:=by simp [valueAt,Sd,e']
   rw [Ef e,b];exact h2
  ·have e':¬ q.1=k:=fun z=>e (h1.trans z)
   have b:valueAt (q::qs) k=valueAt qs k:=by simp [valueAt,Sd,e']
   rw [Ee e,b];exact ih
theorem KV.any {kvs:List (κ×V)}{vs:List (κ×Value)}(r:KV kvs vs)(k:κ):(kvs.any fun kv=>decide (kv.1=k))=vs.any fun kv=>decide (kv.1=k):=by
 unfold KV at r
 induction r with
 | nil=>rfl
 | cons h t ih=>rw [Th,Th,ih,h.1]
theorem KV.repl {kvs:List (κ×V)}{vs:List (κ×Value)}(r:KV kvs vs)(k:κ){y:V}{u:Value}(ry:RelV y u) :
  KV (kvs.map fun kv=>if kv.1=k then (kv.1,y) else kv) (vs.map fun kv=>if kv.1=k then (kv.1,u) else kv):=by
 unfold KV at r ⊢
 induction r with
 | nil=>exact .nil
 | @cons p q ps qs h t ih =>
  rw [Qa,Qa]
  refine .cons ?_ ih
  obtain ⟨h1,h2⟩:=h
  by_cases e:p.1=k
  ·rw [if_pos e,if_pos (h1.symm.trans e)];exact ⟨h1,ry⟩
  ·rw [if_neg e,if_neg (fun z=>e (h1.trans z))];exact ⟨h1,h2⟩
theorem KV.put {kvs:List (κ×V)}{vs:List (κ×Value)}(r:KV kvs vs)(k:κ){y:V}{u:Value}(ry:RelV y u):KV (Bb kvs k y) (stored vs k u):=by
 unfold Bb stored
 rw [r.any k]
 by_cases e:(vs.any fun kv=>decide (kv.1=k))=true
 ·rw [if_pos e,if_pos e];exact r.repl k ry
 ·rw [if_neg e,if_neg e];exact Paired.snoc r ⟨rfl,ry⟩
theorem KV.keys {kvs:List (κ×V)}{vs:List (κ×Value)}(r:KV kvs vs):kvs.map (·.1)=vs.map (·.1):=by
 unfold KV at r
 induction r with
 | nil=>rfl
 | cons h t ih=>rw [Qa,Qa,ih,h.1]
theorem KV.length {kvs:List (κ×V)}{vs:List (κ×Value)}(r:KV kvs vs):kvs.length=vs.length:=Tf r
end
theorem Ff {P:Program}{w:World}{k:Ap}{u:Value}(r:RelV (kV k) u):(Ce P w).is k u=true:=by
 cases k with
 | inl i=>obtain ⟨t,e⟩:=(show ∃ t,u=Value.int i t from r);subst e;exact Znu P w i t
 | inr x=>obtain ⟨t,e⟩:=(show ∃ t,u=Value.str x t from r);subst e;exact Zlm P w x t
theorem Zd2 {P:Program}{w:World}:∀{ks:List Ap}{us:List Value},Vals (ks.map kV) us->ItemsAre (Ce P w) ks us
 | [],_,r=>by rw [List.map_nil] at r;cases r;exact .nil
 | k::ks,_,r=>by
  rw [Qa] at r
  cases r with
  | cons h t=>exact .cons (Ff h) (Zd2 t)
noncomputable abbrev KT (H:Hp):List (List Ap×V)->List (List Ap×Addr×Value)->Prop:=Paired fun p q=>p.1=q.1/\H q.2.1=some (.tup (p.1.map kV))/\RelV p.2 q.2.2
theorem KT.val {H:Hp}{kvs:List (List Ap×V)}{xs:List (List Ap×Addr×Value)}(r:KT H kvs xs)(k:List Ap):RelO (Bl kvs k) ((atKey xs k).map (·.2)):=by
 induction r with
 | nil=>exact True.intro
 | @cons p q ps qs h t ih =>
  obtain ⟨h1,_,h2⟩:=h
  by_cases e:p.1=k
  ·have e':q.1=k:=h1.symm.trans e
   have b:atKey (q::qs) k=some q.2:=by simp [atKey,Sd,e']
   rw [Ef e,b];exact h2
  ·have e':¬ q.1=k:=fun z=>e (h1.trans z)
   have b:atKey (q::qs) k=atKey qs k:=by simp [atKey,Sd,e']
   rw [Ee e,b];exact ih
theorem KT.repl {H:Hp}{kvs:List (List Ap×V)}{xs:List (List Ap×Addr×Value)}(r:KT H kvs xs)(k:List Ap){y:V}{u:Value}(ry:RelV y u) :
  KT H (kvs.map fun kv=>if kv.1=k then (kv.1,y) else kv) (xs.map (putAt k u)):=by
 induction r with
 | nil=>exact .nil
 | @cons p q ps qs h t ih =>
  rw [Qa,Qa]
  refine .cons ?_ ih
  obtain ⟨h1,h2,h3⟩:=h
  unfold putAt
  by_cases e:p.1=k
  ·rw [if_pos e,if_pos (h1.symm.trans e)];exact ⟨h1,h2,ry⟩
  ·rw [if_neg e,if_neg (fun z=>e (h1.trans z))];exact ⟨h1,h2,h3⟩
theorem KT.put {H:Hp}{kvs:List (List Ap×V)}{xs:List (List Ap×Addr×Value)}(r:KT H kvs xs)(k:List Ap){b:Addr}{y:V}{u:Value}(hb:H b=some (.tup (k.map kV)))(ry:RelV y u) :
  KT H (Bb kvs k y) (storedH xs k b u):=by
 have e:(kvs.any fun kv=>decide (kv.1=k))=(atKey xs k).isSome:=by
  rw [K1,(r.val k).isSome_eq,Vm]
 unfold Bb storedH
 rw [e]
 by_cases q:(atKey xs k).isSome=true
 ·rw [if_pos q,if_pos q];exact r.repl k ry
 ·rw [if_neg q,if_neg q];exact Paired.snoc r ⟨rfl,hb,ry⟩
theorem KT.keeps {H H':Hp}{kvs:List (List Ap×V)}{xs:List (List Ap×Addr×Value)}(r:KT H kvs xs)(ht:∀ b ys,H b=some (.tup ys)->H' b=some (.tup ys)):KT H' kvs xs :=
 Paired.mapP r fun _ _ z=>⟨z.1,ht _ _ z.2.1,z.2.2⟩
section
variable {P:Program}{w:World}{H:Hp}{h:Heap}{a:Addr}
theorem Zdy {u:HO}(ok:HOk P w H h)(e:Rd H a u):ObjOk P w H h a u:=e.ok ok
theorem E6 {kvs:List (Ap×V)}(ok:HOk P w H h)(e:Rd H a (.dK kvs)):kvs.length<=sizeLine/\(a == sysModules)=false/\∃ vs,KV kvs vs/\h.DictOf (Ce P w) a vs :=
 show ObjOk P w H h a (.dK kvs) from Zdy ok e
theorem N7 {kvs:List (Ap×V)}(ok:HOk P w H h)(e:H a=some (.dK kvs)):kvs.length<=sizeLine/\(a == sysModules)=false/\∃ vs,KV kvs vs/\h.DictOf (Ce P w) a vs:=E6 ok (.inl e)
theorem Fq {ks:List Ap}(ok:HOk P w H h)(e:H a=some (.tup (ks.map kV))):(tupleKind (Ce P w)).is h ks a:=by
 obtain ⟨_,its,r,o,h1,h2,n,h3⟩:=(show ObjOk P w H h a (.tup (ks.map kV)) from ok a _ e)
 exact ⟨o,its.toArray,n,h1,h2,h3,by simpa using Zd2 r⟩
theorem Fs {kvs:List (List Ap×V)}(ok:HOk P w H h)(e:Rd H a (.dT kvs)):kvs.length<=sizeLine/\(a == sysModules)=false /\
  ∃ xs,KT H kvs xs/\h.DictOfH (tupleKind (Ce P w)) a xs:=by
 obtain ⟨z,y,xs,r,o,es,ep,h1,h2,h3,h4,h5⟩:=(show ObjOk P w H h a (.dT kvs) from Zdy ok e)
 refine ⟨z,y,xs,r,o,es,ep,h1,h2,h3,h4,fun x hx=>?_,h5⟩
 have all:∀{l:List (List Ap×V)}{m:List (List Ap×Addr×Value)},KT H l m->∀ x∈m,(tupleKind (Ce P w)).is h x.1 x.2.1:=by
  intro l m q
  induction q with
  | nil=>intro x hx;exact nomatch hx
  | @cons p q ps qs hq t ih =>
   intro x hx
   rcases O5.mp hx with e | hx
   ·subst e
    exact Fq ok (by rw [<- hq.1];exact hq.2.1)
   ·exact ih x hx
 exact all r x hx
theorem Za7 {kvs:List (List Ap×V)}(ok:HOk P w H h)(e:H a=some (.dT kvs)):kvs.length<=sizeLine/\(a == sysModules)=false /\
  ∃ xs,KT H kvs xs/\h.DictOfH (tupleKind (Ce P w)) a xs:=Fs ok (.inl e)
end
noncomputable def DGet (H:Hp)(a:Addr)(y:V)(r:Option V):Prop :=
 (∃ kvs k,Rd H a (.dK kvs)/\y=kV k/\r=Bl kvs k)\/∃ kvs k b,Rd H a (.dT kvs)/\y=.ref b/\H b=some (.tup (k.map kV))/\r=Bl kvs k
noncomputable def DPut (H:Hp)(a:Addr)(y v:V)(H':Hp):Prop :=
 (∃ kvs k,H a=some (.dK kvs)/\y=kV k/\kvs.length < sizeLine/\H'=upd H a (.dK (Bb kvs k v))) \/
 ∃ kvs k b,H a=some (.dT kvs)/\y=.ref b/\H b=some (.tup (k.map kV))/\kvs.length < sizeLine/\H'=upd H a (.dT (Bb kvs k v))
theorem DGet.k {H:Hp}{a:Addr}{kvs:List (Ap×V)}{k:Ap}(e:H a=some (.dK kvs)):DGet H a (kV k) (Bl kvs k):=.inl ⟨kvs,k,.inl e,rfl,rfl⟩
theorem DGet.t {H:Hp}{a b:Addr}{kvs:List (List Ap×V)}{k:List Ap}(e:H a=some (.dT kvs))(eb:H b=some (.tup (k.map kV))):DGet H a (.ref b) (Bl kvs k):=.inr ⟨kvs,k,b,.inl e,rfl,eb,rfl⟩
theorem DPut.k {H:Hp}{a:Addr}{kvs:List (Ap×V)}{k:Ap}{v:V}(e:H a=some (.dK kvs))(hl:kvs.length < sizeLine):DPut H a (kV k) v (upd H a (.dK (Bb kvs k v))):=.inl ⟨kvs,k,e,rfl,hl,rfl⟩
theorem DPut.t {H:Hp}{a b:Addr}{kvs:List (List Ap×V)}{k:List Ap}{v:V}(e:H a=some (.dT kvs))(eb:H b=some (.tup (k.map kV)))(hl:kvs.length < sizeLine) :
  DPut H a (.ref b) v (upd H a (.dT (Bb kvs k v))):=.inr ⟨kvs,k,b,e,rfl,eb,hl,rfl⟩
section
variable {X:Cx}{pins:List (Addr×Obj)}{σ:St}{H:Hp}{s:Shared}{a:Addr}{y v:V}{u r:Value}{o:Option V}{A:Around}{E:Value->Shared->Prop}
theorem Inv.big (I:Inv X pins σ H s):sysModules < s.heap.objs.size:=by
 have h:mainGlobals < s.heap.objs.size:=(I.mod.glob.keeps I.bk).lt
 exact Nat.lt_trans (by decide) h
theorem Ziu {Q:Value->Shared->Prop}(hu:A.units+1 < cLine)(I:Inv X pins σ H s)(g:DGet H a y (some v))(ry:RelV y u)(h:∀ w' s',Inv X pins σ H s'->RelV v w'->Q w' s') :
  wpAny (model X.prog X.w) A (getItem (.ref a) u) Q E s:=by
 rcases g with ⟨kvs,k,e,ey,l⟩ | ⟨kvs,k,b,e,ey,eb,l⟩
 ·subst ey
  obtain ⟨z,hd,vs,rel,dd⟩:=E6 I.hok e
  obtain ⟨w',hw,rw'⟩:=RelO.some_of (v:=v) (o:=valueAt vs k) (by rw [l];exact rel.val k)
  exact wpAny_getItem_of (Ff ry) dd.mapOf hw (h w' _ (I.tok _) rw')
 ·subst ey
  cases (show u=Value.ref b from ry)
  obtain ⟨z,hd,xs,rel,dd⟩:=Fs I.hok e
  obtain ⟨w',hw,rw'⟩:=RelO.some_of (v:=v) (o:=(atKey xs k).map (·.2)) (by rw [l];exact rel.val k)
  obtain ⟨p,hp,hp2⟩:=U3.mp hw
  refine wpAny_getItem_heap (R7 hu) (Fq I.hok eb) dd hp ?_
  rw [hp2]
  exact h w' _ (I.tok _) rw'
theorem d_in {Q:Value->Shared->Prop}(hu:A.units+1 < cLine)(I:Inv X pins σ H s)(g:DGet H a y o)(ry:RelV y u)(h:∀ s',Inv X pins σ H s'->Q (.bool o.isSome) s') :
  wpAny (model X.prog X.w) A (compareOp .In u (.ref a)) Q E s:=by
 rcases g with ⟨kvs,k,e,ey,l⟩ | ⟨kvs,k,b,e,ey,eb,l⟩
 ·subst ey
  obtain ⟨z,hd,vs,rel,dd⟩:=E6 I.hok e
  refine wpAny_in_of (Ff ry) hd dd.mapOf ?_
  rw [<- (rel.val k).isSome_eq,<- l]
  exact h _ (I.tok _)
 ·subst ey
  cases (show u=Value.ref b from ry)
  obtain ⟨z,hd,xs,rel,dd⟩:=Fs I.hok e
  refine wpAny_in_heap (R7 hu) (Fq I.hok eb) hd dd ?_
  have q:=(rel.val k).isSome_eq
  rw [Vm] at q
  rw [<- q,<- l]
  exact h _ (I.tok _)
theorem Zmn {Q:Value->Shared->Prop}(hu:A.units+1 < cLine)(I:Inv X pins σ H s)(g:DGet H a y o)(ry:RelV y u)(h:∀ s',Inv X pins σ H s'->Q (.bool (!o.isSome)) s') :
  wpAny (model X.prog X.w) A (compareOp .NotIn u (.ref a)) Q E s:=by
 rcases g with ⟨kvs,k,e,ey,l⟩ | ⟨kvs,k,b,e,ey,eb,l⟩
 ·subst ey
  obtain ⟨z,hd,vs,rel,dd⟩:=E6 I.hok e
  refine wpAny_notIn_of (Ff ry) hd dd.mapOf ?_
  rw [<- (rel.val k).isSome_eq,<- l]
  exact h _ (I.tok _)
 ·subst ey
  cases (show u=Value.ref b from ry)
  obtain ⟨z,hd,xs,rel,dd⟩:=Fs I.hok e
  refine wpAny_notIn_heap (R7 hu) (Fq I.hok eb) hd dd ?_
  have q:=(rel.val k).isSome_eq
  rw [Vm] at q
  rw [<- q,<- l]
  exact h _ (I.tok _)
theorem K5 {h':Heap}{t':Nat}{ob:HO}(I:Inv X pins σ H s)(mu:Mut (H a))(hs:Ph a s.heap h')(he:∃ q,h'.get? a=some q)(new:ObjOk X.prog X.w (upd H a ob) h' a ob) :
  Inv X pins σ (upd H a ob) { s with heap:=h',toks:=t' } :=
 I.write (x:=a) (e:=a) mu (.inl rfl) (fun b q hb z=>(hs.2 b hb).trans z) he new
theorem Oi {P:Program}{w:World}{H':Hp}{h':Heap}{kvs:List (Ap×V)}{vs:List (Ap×Value)}(z:kvs.length<=sizeLine)(hd:(a == sysModules)=false)(rel:KV kvs vs)(dd:h'.DictOf (Ce P w) a vs) :
  ObjOk P w H' h' a (.dK kvs):=⟨z,hd,vs,rel,dd⟩
theorem Zku {H':Hp}{Q:Unit->Shared->Prop}(hu:A.units+1 < cLine)(I:Inv X pins σ H s)(g:DPut H a y v H')(ry:RelV y u)(rv:RelV v r)(h:∀ s',Inv X pins σ H' s'->Q () s') :
  wpAny (model X.prog X.w) A (setItem (.ref a) u r) Q E s:=by
 rcases g with ⟨kvs,k,e,ey,l,eH⟩ | ⟨kvs,k,b,e,ey,eb,l,eH⟩
 ·subst ey eH
  obtain ⟨z,hd,vs,rel,dd⟩:=N7 I.hok e
  have hz:vs.length<=sizeLine:=by rw [<- rel.length];exact z
  have hl:(Bb kvs k v).length<=sizeLine:=by have:=Dq kvs k v;omega
  refine wpAny_setItem_pairs (hsz:=hz) (Ff ry) dd fun h' dd' hs=>h _ ?_
  have he:∃ q,h'.get? a=some q:=let ⟨q,_,_,hq,_⟩:=dd';⟨q,hq⟩
  exact K5 I (by rw [e];exact True.intro) hs he (Oi hl hd (rel.put k rv) dd')
 ·subst ey eH
  cases (show u=Value.ref b from ry)
  obtain ⟨z,hd,xs,rel,dd⟩:=Za7 I.hok e
  have hz:xs.length<=sizeLine:=by rw [<- Tf rel];exact z
  have hl:(Bb kvs k v).length<=sizeLine:=by have:=Dq kvs k v;omega
  refine wpAny_setItem_heap (hsz:=hz) (R7 hu) (Fq I.hok eb) dd fun h' dd' hs=>h _ ?_
  obtain ⟨q,es,ep,hq,h2,h3,h4,_,h5⟩:=dd'
  refine K5 I (by rw [e];exact True.intro) hs ⟨q,hq⟩ ⟨hl,hd,_,(rel.put k eb rv).keeps fun c ys ec=>?_,q,es,ep,hq,h2,h3,h4,h5⟩
  rw [Ag (Ew ec e (fun z=>nomatch z))]
  exact ec
end
section
variable {X:Cx}{pins:List (Addr×Obj)}{σ:St}{H:Hp}{s:Shared}{a:Addr}{kvs:List (Ap×V)}{k:Ap}{u:Value}{A:Around}{E:Value->Shared->Prop}
end
noncomputable def Ow (i:Expr):Prop:=∀ ov iv,subscripted i false ov iv=operate [ov,iv] (getItem ov iv)
theorem Zj0 {prog:Program}{w:World}{A:Around}{E:Value->Shared->Prop}{s:Shared}{env:Env}{value slice:Expr}{pos:Pos}{T id:String}{Q:Value->Shared->Prop}
  (hl:typeLookup (.type T) "__getitem__" = pure (some (.builtin id))) (hs:Ow slice)
  (h:wpAny (model prog w) A (eval value env) (fun o s₁=>wpAny (model prog w) A (eval slice env) (fun i s₂=>s₂.TypeIs o T/\wpAny (model prog w) A (getItem o i) Q E s₂) E s₁) E s) :
  wpAny (model prog w) A (eval (.Subscript value slice pos) env) Q E s:=by
 refine Subscript_ (Si h (fun o s₁ h₁=>Si h₁ (fun i s₂ h₂=>?_) fun _ _ x=>x) fun _ _ x=>x)
 obtain ⟨hT,h₂⟩:=h₂
 unfold subscriptTail
 refine O0 ?_
 rw [getitemInPython_of_ne hT.not_modules]
 refine O0 (Sz hT hl ?_)
 have fin:wpAny (model prog w) A (subscripted slice false o i) (fun r s₃=>wpAny (model prog w) A (letTemporaryGo value o r >>= fun _=>pure r) Q E s₃) E s₂:=by
  rw [hs o i]
  exact wpAny_operating (Si h₂ (fun r s₃ h₃=>O0 (wpAny_letTemporaryGo (O3 h₃))) fun _ _ x=>x)
 first
  | exact O3 (O0 fin)
  | exact O0 (O3 (O0 fin))
  | exact O0 fin
theorem Zn7 {X:Cx}{pins:List (Addr×Obj)}{σ:St}{H:Hp}{s:Shared}{a:Addr}{y:V}{o:Option V}(I:Inv X pins σ H s)(g:DGet H a y o):s.TypeIs (.ref a) "dict" := by
 rcases g with ⟨kvs,k,e,_,_⟩ | ⟨kvs,k,b,e,_,_,_⟩
 ·obtain ⟨_,_,vs,_,dd⟩:=E6 I.hok e
  exact dd.typeIs
 ·obtain ⟨_,_,xs,_,dd⟩:=Fs I.hok e
  exact dd.typeIs
noncomputable def Zak (td ty:TE):TE:=fun σ H Q=>td σ H fun x H1=>ty σ H1 fun y H2=>∃ a v,x=.ref a/\DGet H2 a y (some v)/\Q v H2
noncomputable def Mt (ty td:TE):TE:=fun σ H Q=>ty σ H fun y H1=>td σ H1 fun x H2=>∃ a o,x=.ref a/\DGet H2 a y o/\Q (.bl o.isSome) H2
noncomputable def Ou (ty td:TE):TE:=fun σ H Q=>ty σ H fun y H1=>td σ H1 fun x H2=>∃ a o,x=.ref a/\DGet H2 a y o/\Q (.bl (!o.isSome)) H2
noncomputable def Ly (td ty tv:TE):TS:=fun D σ H=>tv σ H fun v H1=>td σ H1 fun x H2=>ty σ H2 fun y H3=>∃ a H4,x=.ref a/\DPut H3 a y v H4/\D.nx σ H4
section
variable {X:Cx}{o i e value:Expr}{pos pos' tpos:Pos}{td ty tv:TE}
theorem Zjr (hu:X.A.units+1 < cLine)(ho:PE X o td)(hi:PE X i ty)(hs:Ow i):PE X (.Subscript o i pos) (Zak td ty):=by
 intro pins s σ H Q I h
 refine Zj0 PySem.F.slot_dict_getitem.lookup hs (Aj (ho pins s σ H _ I h) fun u s1 zq=>?_)
 obtain ⟨x,H1,I1,rx,q1⟩:=zq
 refine Aj (hi pins s1 σ H1 _ I1 q1) fun iv s2 zq=>?_
 obtain ⟨y,H2,I2,ry,a,v,ex,g,q2⟩:=zq
 subst ex
 obtain rfl:u=Value.ref a:=rx
 exact ⟨Zn7 I2 g,Ziu hu I2 g ry fun w' s3 I3 rw'=>⟨v,H2,I3,rw',q2⟩⟩
theorem Zhf (hu:X.A.units+1 < cLine)(hi:PE X i ty)(ho:PE X o td):PC X .In i o (Mt ty td):=by
 intro pins s σ H Q I h
 refine Aj (hi pins s σ H _ I h) fun iv s1 zq=>?_
 obtain ⟨y,H1,I1,ry,q1⟩:=zq
 refine Aj (ho pins s1 σ H1 _ I1 q1) fun u s2 zq=>?_
 obtain ⟨x,H2,I2,rx,a,ov,ex,g,q2⟩:=zq
 subst ex
 obtain rfl:u=Value.ref a:=rx
 exact d_in hu I2 g ry fun s3 I3=>⟨.bl ov.isSome,H2,I3,rfl,q2⟩
theorem Zgp (hu:X.A.units+1 < cLine)(hi:PE X i ty)(ho:PE X o td):PC X .NotIn i o (Ou ty td):=by
 intro pins s σ H Q I h
 refine Aj (hi pins s σ H _ I h) fun iv s1 zq=>?_
 obtain ⟨y,H1,I1,ry,q1⟩:=zq
 refine Aj (ho pins s1 σ H1 _ I1 q1) fun u s2 zq=>?_
 obtain ⟨x,H2,I2,rx,a,ov,ex,g,q2⟩:=zq
 subst ex
 obtain rfl:u=Value.ref a:=rx
 exact Zmn hu I2 g ry fun s3 I3=>⟨.bl (!ov.isSome),H2,I3,rfl,q2⟩
theorem Zie (hu:X.A.units+1 < cLine)(ho:PE X o td)(hi:PE X i ty)(hv:PE X value tv)(hs:swapsWith value (some (.Subscript o i pos')) pos.line X.env=pure false) :
  PS X (.Assign [.Subscript o i pos'] value pos) (Ly td ty tv):=by
 intro pins s σ H D I h
 refine wpAny_Assign_Subscript (Aj (hv pins s σ H _ I h) fun r s1 zq=>?_) hs
 obtain ⟨v,H1,I1,rv,q1⟩:=zq
 refine Aj (ho pins s1 σ H1 _ I1 q1) fun u s2 zq=>?_
 obtain ⟨x,H2,I2,rx,q2⟩:=zq
 refine Aj (hi pins s2 σ H2 _ I2 q2) fun iv s3 zq=>?_
 obtain ⟨y,H3,I3,ry,a,H4,ex,g,q3⟩:=zq
 subst ex
 obtain rfl:u=Value.ref a:=rx
 exact Zku hu I3 g ry rv fun s4 I4=>⟨σ,H4,I4,q3⟩
end
theorem Zlo {P:Program}{w:World}{H:Hp}(h:Heap)(hb:sysModules < h.objs.size):ObjOk P w H (h.push { cls:=.type "dict",data:=.dict #[] }) h.objs.size (.dK []) :=
 ⟨Pp _,beq_eq_false_iff_ne.mpr (P0 (Pe hb)),[],.nil,Heap.DictOf.new h⟩
theorem Zbh {P:Program}{w:World}{H:Hp}(h:Heap)(hb:sysModules < h.objs.size):ObjOk P w H (h.push { cls:=.type "dict",data:=.dict #[] }) h.objs.size (.dT []) :=
 ⟨Pp _,beq_eq_false_iff_ne.mpr (P0 (Pe hb)),[],.nil,_,#[],0,Pn _ rfl,⟨rfl,rfl,rfl⟩,rfl,rfl,List.nodup_nil⟩
noncomputable def Zfp:TE:=fun _ H Q=>∀ p,H p=none->Q (.ref p) (upd H p (.dK []))
noncomputable def Zdu:TE:=fun _ H Q=>∀ p,H p=none->Q (.ref p) (upd H p (.dT []))
section
variable {X:Cx}{pos:Pos}
theorem Zp6:PE X (.Dict [] [] pos) Zfp:=fun pins s σ H Q I h =>
 wpAny_Dict_empty ⟨.ref s.heap.objs.size,_,I.laid (a:=s.heap.objs.size) (o:=.dK []) (t':=s.toks) (fun _ _ q=>O9 _ q) (O2 _) (Zlo s.heap I.big),rfl,h _ (I.hok.fresh (O2 _))⟩
theorem Zg5:PE X (.Dict [] [] pos) Zdu:=fun pins s σ H Q I h =>
 wpAny_Dict_empty ⟨.ref s.heap.objs.size,_,I.laid (a:=s.heap.objs.size) (o:=.dT []) (t':=s.toks) (fun _ _ q=>O9 _ q) (O2 _) (Zbh s.heap I.big),rfl,h _ (I.hok.fresh (O2 _))⟩
end
structure M1 (X:Cx)(o:Expr)(m:Str)(apos:Pos)(e:Expr)(cpos:Pos):Prop where
 base:attributeBase o m X.env (eval o X.env)=eval o X.env
 few:((backTo cpos (starEach [e] X.env)).all (fun x=>!x.1) && (backToKw cpos (keywordEach [] X.env)).all (fun x=>x.1.isSome)
  && decide (([e]:List Expr).length+([]:List Keyword).length+(if ([]:List Keyword).isEmpty then 0 else 1) < 30))=true
 line:(apos.endLine == cpos.line)=true
 trees:backTo cpos (starEach [e] X.env)=[(false,eval e X.env)]
structure M2 (X:Cx)(o:Expr)(m:Str)(apos:Pos)(e f:Expr)(cpos:Pos):Prop where
 base:attributeBase o m X.env (eval o X.env)=eval o X.env
 few:((backTo cpos (starEach [e,f] X.env)).all (fun x=>!x.1) && (backToKw cpos (keywordEach [] X.env)).all (fun x=>x.1.isSome)
  && decide (([e,f]:List Expr).length+([]:List Keyword).length+(if ([]:List Keyword).isEmpty then 0 else 1) < 30))=true
 line:(apos.endLine == cpos.line)=true
 trees:backTo cpos (starEach [e,f] X.env)=[(false,eval e X.env),(false,eval f X.env)]
noncomputable def DcD (H:Hp)(a:Addr):Prop:=(∃ kvs,Rd H a (.dK kvs))\/∃ kvs,Rd H a (.dT kvs)
theorem Zdn {X:Cx}{pins:List (Addr×Obj)}{σ:St}{H:Hp}{s:Shared}{a:Addr}(I:Inv X pins σ H s)(d:DcD H a) :
  s.TypeIs (.ref a) "dict" /\ (∀ b,Value.ref a=.ref b->∃ ob,s.heap.get? b=some ob/\ob.dict=none)/\(a == sysModules)=false:=by
 rcases d with ⟨kvs,e⟩ | ⟨kvs,e⟩
 ·obtain ⟨_,hd,vs,_,dd⟩:=E6 I.hok e
  refine ⟨dd.typeIs,fun b q=>?_,hd⟩
  cases q
  obtain ⟨ob,_,_,h1,h2,_⟩:=dd
  exact ⟨ob,h1,h2.2.1⟩
 ·obtain ⟨_,hd,xs,_,dd⟩:=Fs I.hok e
  refine ⟨dd.typeIs,fun b q=>?_,hd⟩
  cases q
  obtain ⟨ob,_,_,h1,h2,_⟩:=dd
  exact ⟨ob,h1,h2.2.1⟩
section
variable {X:Cx}{pins:List (Addr×Obj)}{σ:St}{H:Hp}{s:Shared}{a:Addr}{y d:V}{u r:Value}{o:Option V}{A:Around}{E:Value->Shared->Prop}
theorem Zic {Q:Value->Shared->Prop}(hu:A.units+1 < cLine)(I:Inv X pins σ H s)(g:DGet H a y o)(ry:RelV y u)(h:∀ w' s',Inv X pins σ H s'->RelV (o.getD .non) w'->Q w' s') :
  wpAny (model X.prog X.w) A (call (.builtin "dict.get") [.ref a,u]) Q E s:=by
 rcases g with ⟨kvs,k,e,ey,l⟩ | ⟨kvs,k,b,e,ey,eb,l⟩
 ·subst ey
  obtain ⟨z,hd,vs,rel,dd⟩:=E6 I.hok e
  refine Uy R4 dd.typeIs T3 (PySem.F.args_dict_get_2 _ _) (meets_dict_get (Ce X.prog X.w) a (Ff ry) hd) ⟨_,dd.mapOf,h _ _ (I.tok _) ?_⟩
  rw [l]
  exact (rel.val k).getD rfl
 ·subst ey
  cases (show u=Value.ref b from ry)
  obtain ⟨z,hd,xs,rel,dd⟩:=Fs I.hok e
  refine Uy R4 dd.typeIs T3 (PySem.F.args_dict_get_2 _ _) (meetsH_dict_get (tupleKind (Ce X.prog X.w)) a b hd) ⟨R7 hu,k,xs,Fq I.hok eb,dd,h _ _ (I.tok _) ?_⟩
  rw [l]
  exact (rel.val k).getD rfl
theorem Zpu {Q:Value->Shared->Prop}(hu:A.units+1 < cLine)(I:Inv X pins σ H s)(g:DGet H a y o)(ry:RelV y u)(rd:RelV d r)(h:∀ w' s',Inv X pins σ H s'->RelV (o.getD d) w'->Q w' s') :
  wpAny (model X.prog X.w) A (call (.builtin "dict.get") [.ref a,u,r]) Q E s:=by
 rcases g with ⟨kvs,k,e,ey,l⟩ | ⟨kvs,k,b,e,ey,eb,l⟩
 ·subst ey
  obtain ⟨z,hd,vs,rel,dd⟩:=E6 I.hok e
  refine Uy R4 dd.typeIs T3 (PySem.F.args_dict_get_3 _ _ _) (meets_dict_get_default (Ce X.prog X.w) a (Ff ry) hd r) ⟨_,dd.mapOf,h _ _ (I.tok _) ?_⟩
  rw [l]
  exact (rel.val k).getD rd
 ·subst ey
  cases (show u=Value.ref b from ry)
  obtain ⟨z,hd,xs,rel,dd⟩:=Fs I.hok e
  refine Uy R4 dd.typeIs T3 (PySem.F.args_dict_get_3 _ _ _) (meetsH_dict_get_default (tupleKind (Ce X.prog X.w)) a b hd r) ⟨R7 hu,k,xs,Fq I.hok eb,dd,h _ _ (I.tok _) ?_⟩
  rw [l]
  exact (rel.val k).getD rd
end
noncomputable def Nt (td ty:TE):TE:=fun σ H Q=>td σ H fun x H1=>∃ a,x=.ref a/\DcD H1 a/\ty σ H1 fun y H2=>∃ o,DGet H2 a y o/\Q (o.getD .non) H2
noncomputable def Zaf (td ty tx:TE):TE:=fun σ H Q=>td σ H fun x H1=>∃ a,x=.ref a/\DcD H1 a/\ty σ H1 fun y H2=>tx σ H2 fun z H3=>∃ o,DGet H3 a y o/\Q (o.getD z) H3
section
variable {X:Cx}{o e f:Expr}{apos cpos:Pos}{td ty tx:TE}
theorem Zhk (hu:X.A.units+1 < cLine)(ho:PE X o td)(he:PE X e ty)(m:M1 X o "get" apos e cpos):PE X (.Call (.Attribute o "get" apos) [e] [] cpos) (Nt td ty):=by
 intro pins s σ H Q I h
 refine wpAny_Call_method m.base m.few m.line PySem.F.plainAttrs_dict R4 PySem.F.type_dict_get (Aj (ho pins s σ H _ I h) fun u s1 zq=>?_)
 obtain ⟨x,H1,I1,rx,a,ex,d,q1⟩:=zq
 subst ex
 obtain rfl:u=Value.ref a:=rx
 obtain ⟨t1,t2,_⟩:=Zdn I1 d
 refine ⟨t1,t2,?_⟩
 rw [m.trees]
 refine T1 rfl (U4 (Ro (Aj (he pins s1 σ H1 _ I1 q1) fun iv s2 zq=>?_)))
 obtain ⟨y,H2,I2,ry,ov,g,q2⟩:=zq
 refine R8 ?_
 exact Zic hu I2 g ry fun w' s3 I3 rw'=>⟨_,H2,I3,rw',q2⟩
theorem Zlp (hu:X.A.units+1 < cLine)(ho:PE X o td)(he:PE X e ty)(hf:PE X f tx)(m:M2 X o "get" apos e f cpos):PE X (.Call (.Attribute o "get" apos) [e,f] [] cpos) (Zaf td ty tx):=by
 intro pins s σ H Q I h
 refine wpAny_Call_method m.base m.few m.line PySem.F.plainAttrs_dict R4 PySem.F.type_dict_get (Aj (ho pins s σ H _ I h) fun u s1 zq=>?_)
 obtain ⟨x,H1,I1,rx,a,ex,d,q1⟩:=zq
 subst ex
 obtain rfl:u=Value.ref a:=rx
 obtain ⟨t1,t2,_⟩:=Zdn I1 d
 refine ⟨t1,t2,?_⟩
 rw [m.trees]
 refine T1 rfl (U4 (Ro (Aj (he pins s1 σ H1 _ I1 q1) fun iv s2 ⟨y,H2,I2,ry,q2⟩ =>
  Ro (Aj (hf pins s2 σ H2 _ I2 q2) fun fv s3 ⟨z,H3,I3,rz,ov,g,q3⟩=>R8 ?_))))
 exact Zpu hu I3 g ry rz fun w' s4 I4 rw'=>⟨_,H3,I4,rw',q3⟩
end
section
variable {X:Cx}{pins:List (Addr×Obj)}{σ:St}{H:Hp}{s:Shared}{a:Addr}{kvs:List (Ap×V)}{A:Around}{E:Value->Shared->Prop}
theorem Zpl {Q:Value->Shared->Prop}(I:Inv X pins σ H s)(e:Rd H a (.dK kvs))(h:∀ p s',H p=none->Inv X pins σ (upd H p (.dK kvs)) s'->Q (.ref p) s'):wpAny (model X.prog X.w) A (call (.type "dict") [.ref a]) Q E s:=by
 obtain ⟨z,hd,vs,rel,dd⟩:=E6 I.hok e
 refine kt_call_dict hd dd (by rw [<- rel.length];exact z) fun h' dd' hs=>?_
 refine h _ _ (I.hok.fresh (O2 _)) (I.laid (a:=s.heap.objs.size) (o:=.dK kvs) (t':=s.toks) (fun b q hq=>?_) (O2 _) (Oi z (beq_eq_false_iff_ne.mpr (P0 (Pe I.big))) rel dd'))
 exact (hs.2 b (Pe (O8 hq))).trans (O9 _ hq)
end
section
variable {X:Cx}{pins:List (Addr×Obj)}{σ:St}{H:Hp}{s:Shared}{a:Addr}{y:V}{u:Value}{A:Around}{E:Value->Shared->Prop}
end
end L2
namespace PySem
namespace F
end F
end PySem
namespace L2
open PySem PySem.Spec PyProof.Rows
section
variable {X:Cx}{pins:List (Addr×Obj)}{σ:St}{H:Hp}{s:Shared}{a:Addr}{y v:V}{u r:Value}{A:Around}{E:Value->Shared->Prop}
theorem Zos {H':Hp}{Q:Unit->Shared->Prop}(hu:A.units < cLine)(I:Inv X pins σ H s)(g:DPut H a y v H')(ry:RelV y u)(rv:RelV v r)(h:∀ s',Inv X pins σ H' s'->Ph a s.heap s'.heap->Q () s') :
  wpAny (model X.prog X.w) A (dictSet a u r) Q E s:=by
 rcases g with ⟨kvs,k,e,ey,l,eH⟩ | ⟨kvs,k,b,e,ey,eb,l,eH⟩
 ·subst ey eH
  obtain ⟨z,hd,vs,rel,dd⟩:=N7 I.hok e
  have hz:vs.length<=sizeLine:=by rw [<- rel.length];exact z
  have hl:(Bb kvs k v).length<=sizeLine:=by have:=Dq kvs k v;omega
  refine wpAny_dictSet_pairs (hsz:=hz) (Ff ry) dd fun h' dd' hs=>h _ ?_ hs
  have he:∃ q,h'.get? a=some q:=let ⟨q,_,_,hq,_⟩:=dd';⟨q,hq⟩
  exact K5 I (by rw [e];exact True.intro) hs he (Oi hl hd (rel.put k rv) dd')
 ·subst ey eH
  cases (show u=Value.ref b from ry)
  obtain ⟨z,hd,xs,rel,dd⟩:=Za7 I.hok e
  have hz:xs.length<=sizeLine:=by rw [<- Tf rel];exact z
  have hl:(Bb kvs k v).length<=sizeLine:=by have:=Dq kvs k v;omega
  refine wpAny_dictSet_heap (hsz:=hz) hu (Fq I.hok eb) dd fun h' dd' hs=>h _ ?_ hs
  obtain ⟨q,es,ep,hq,h2,h3,h4,_,h5⟩:=dd'
  refine K5 I (by rw [e];exact True.intro) hs ⟨q,hq⟩ ⟨hl,hd,_,(rel.put k eb rv).keeps fun c ys ec=>?_,q,es,ep,hq,h2,h3,h4,h5⟩
  rw [Ag (Ew ec e (fun z=>nomatch z))]
  exact ec
end
theorem Room.u1 {k:Nat}{A:Around}(r:Room k A):A.units+1 < cLine:=by have:=r.u200;omega
section
variable {X:Cx}{k:Nat}{x m f:Str}{ps:List Str}{sp:Sp}{E:XK}{C:Addr}{p pos pos' tpos apos:Pos}{e o i value:Expr}{es:List Expr}{ta tv td ty:TE}{t:TA}{CX:Dd}{P:Program}{w:World}{mg:Str->Option Value}{base:Heap}{K:Oz}
theorem Gn (hu:X.A.units+1 < cLine)(ho:QE X o td)(hi:QE X i ty)(hs:Ow i):QE X (.Subscript o i pos) (Zak td ty):=⟨Zjr hu ho.run hi.run hs⟩
theorem Zfg (hu:X.A.units+1 < cLine)(hi:QE X i ty)(ho:QE X o td):QC X .In i o (Mt ty td):=⟨Zhf hu hi.run ho.run⟩
noncomputable def Nz (K:Oz):R2:=fun x y H Q=>F9 K x y H Q\/∃(a b:Addr)(xs ys:List V),x=.ref a/\y=.ref b/\H a=some (.tup xs)/\H b=some (.tup ys)/\xs.length+ys.length<=sizeLine/\∀ p H',Same H H'->H' p=some (.tup (xs++ys))->Q (.ref p) H'
theorem Zik:OpR X (binaryOp .Add) (Nz X.K):=by
 refine op_addA.or ?_
 intro pins s σ H x y v u Q I rx ry h
 obtain ⟨a,b,xs,ys,rfl,rfl,ha,hb,hz,q⟩:=h
 have ha':SqT X.K H a xs:=SqT.of ha
 have hb':SqT X.K H b ys:=SqT.of hb
 by_cases hx:xs=[]
 ·subst hx
  cases rx
  cases ry
  obtain ⟨its,r1,p1,_⟩:=I.tuple ha'
  obtain ⟨its2,r2,p2,_⟩:=I.tuple hb'
  cases r1
  obtain ⟨⟨cls,dd,data,sl⟩,ho,hc,n,hd⟩:=id p1
  obtain ⟨⟨cls2,dd2,data2,sl2⟩,ho2,hc2,n2,hd2⟩:=id p2
  simp only at hc hd hc2 hd2
  subst hc hd hc2 hd2
  exact Ut ⟨_,ho,rfl⟩ ⟨_,ho2,rfl⟩ Uc Uo T0 Tw (Tu _ _)
   (tuple_addW0 a b _ _ n n2 dd dd2 sl sl2 (by simp)) ⟨ho,ho2,⟨.ref b,H,I,rfl,q b H (Same.refl H) hb⟩⟩
 ·refine Zca pins s σ H _ _ v u Q I rx ry ⟨a,b,xs,ys,rfl,rfl,ha',hb',hx,hz,fun e=>?_,fun _ p hp=>q p _ (fun c o e=>by rw [Ag (Aw e hp)];exact e) Ac⟩
  subst e
  exact q a H (Same.refl H) (by rw [Pw];exact ha)
theorem Lw (K:Oz)(hK:X.K=K:=by rfl):OpR X (binaryOp .Add) (Nz K):=by subst hK;exact Zik
theorem Zks {a b:Addr}{xs ys:List V}{H:Hp}{Q:VK}(ha:H a=some (.tup xs))(hb:H b=some (.tup ys))(hz:xs.length+ys.length<=sizeLine)(h:∀ p H',Same H H'->H' p=some (.tup (xs++ys))->Q (.ref p) H'):Nz K (.ref a) (.ref b) H Q:=.inr ⟨a,b,xs,ys,rfl,rfl,ha,hb,hz,h⟩
theorem s_dget {td ty:TE}{σ:St}{H:Hp}{Q:VK}(h:td σ H fun x H1=>ty σ H1 fun y H2=>∃ a v,x=.ref a/\DGet H2 a y (some v)/\Q v H2):Zak td ty σ H Q:=h
theorem s_din {td ty:TE}{σ:St}{H:Hp}{Q:VK}(h:ty σ H fun y H1=>td σ H1 fun x H2=>∃ a o,x=.ref a/\DGet H2 a y o/\Q (.bl o.isSome) H2):Mt ty td σ H Q:=h
end
end L2
namespace L2
open PySem
noncomputable def RowT (K:Oz)(H:Hp)(v:V)(x:List Nat×Tr):Prop:=∃(a p:Addr)(u:V),v=.ref a/\SqT K H a [.ref p,u]/\H p=some (.tup (Bk x.1))/\TrAt K H u x.2
theorem RowT.same {K:Oz}{H H':Hp}(e:SameT H H')(v:V)(x:List Nat×Tr)(h:RowT K H v x):RowT K H' v x:=by
 obtain ⟨a,p,u,r,q,qp,t⟩:=h
 exact ⟨a,p,u,r,e.tup q,(e p).1 _ qp,t.sameT e⟩
noncomputable def Bu (pl:List Nat):List Ap:=pl.map fun i:Nat=>Sum.inl ((i:Nat):Int)
theorem Me (pl:List Nat):(Bu pl).map kV=Bk pl:=by unfold Bu Bk;rw [Tj];rfl
section
variable {K:Oz}{HB H H':Hp}{C:Addr}{kvs:List (List Ap×V)}{L:Ml}{S:MS}
end
section
variable {g:TG}{tt:TT}{te:TE}{σ0:St}{H1:Hp}{D:Addr}{Q:VK}
theorem Zh3 {K:Oz}{a:Addr}{xs:List V}(Pv:Nat->List V->St->Hp->Prop)(h0:Pv 0 [] σ0 (upd H1 D (.lst [])))(hl:∀ i ys σ H,i<=xs.length->Pv i ys σ H->SqT K H a xs)
  (hs:∀ i x ys σ H,xs[i]?=some x->H D=some (.lst ys)->Pv i ys σ H->Jw g tt te D (Pv (i+1)) x σ H)
  (hd:∀ ys σ H,H D=some (.lst ys)->Pv xs.length ys σ H->Q (.ref D) H):Hn (Gk K a) g tt te σ0 H1 D Q:=by
 refine ⟨fun i m σ H=>m=xs.length - i/\i<=xs.length/\∃ ys,H D=some (.lst ys)/\Pv i ys σ H,⟨xs.length,by simp,Pp _,[],Ac,h0⟩,?_⟩
 rintro i m σ H ⟨rfl,hi,ys,hD,p⟩
 have q:=hl i ys σ H hi p
 by_cases hlt:i < xs.length
 ·refine .inr ⟨⟨xs,xs[i],q,by simp [hlt]⟩,fun σ2 H2=>∃ zs,H2 D=some (.lst zs)/\Pv (i+1) zs σ2 H2,fun σ' H' p'=>⟨xs.length - (i+1),by omega,rfl,hlt,p'⟩,fun x H' y=>?_⟩
  obtain ⟨e,y⟩:=y
  subst e
  exact hs i x ys σ _ (y xs q) hD p
 ·have e:i=xs.length:=by omega
  subst e
  exact .inl ⟨⟨xs,q,O2 _⟩,hd ys σ H hD p⟩
end
theorem Zpa {a b:List Nat}(h:Bu a=Bu b):a=b:=by
 unfold Bu at h
 induction a generalizing b with
 | nil=>cases b with
  | nil=>rfl
  | cons y r=>simp at h
 | cons x l ih=>cases b with
  | nil=>simp at h
  | cons y r =>
   simp only [Qa,List.cons.injEq] at h
   have h1:x=y:=by have:=Uz h.1;omega
   rw [h1,ih h.2]
end L2
namespace L2
open PySem PySem.Spec PyProof.Rows
section
variable {X:Cx}
end
end L2
namespace L2
open PySem PySem.Spec PySem.Calls PySem.W PyProof.Rows
section
variable {X:Cx}
end
end L2
namespace L2
open PySem PySem.Spec PyProof.Rows
section
variable {X:Cx}{c n:Str}{np hpos pos:Pos}{body hbody:List Stmt}{b₀:Stmt}{tb:TXS}{th:TS}{i:Nat}{C:Addr}
end
noncomputable def Zfc (tk tv:TE):TE:=fun σ H Q=>∀ p,H p=none->tk σ (upd H p (.dT [])) fun x H1=>tv σ H1 fun y H2=>∃ H3,DPut H2 p x y H3/\Q (.ref p) H3
section
variable {X:Cx}{o i e f k v value:Expr}{pos pos' apos cpos:Pos}{td ty tx tk tv:TE}
theorem Zp2 (hu:X.A.units+1 < cLine)(hk:PE X k tk)(hv:PE X v tv):PE X (.Dict [some k] [v] pos) (Zfc tk tv):=by
 intro pins s σ H Q I q
 have hn:=I.hok.fresh (O2 s.heap.objs.size)
 have I1:=I.laid (a:=s.heap.objs.size) (o:=.dT []) (h':=s.heap.push { cls:=.type "dict",data:=.dict #[] }) (t':=s.toks) (fun _ _ q=>O9 _ q) (O2 _) (Zbh s.heap I.big)
 show wpAny _ _ (eval (.Dict [some k] [v] pos) X.env) _ _ s
 rw [arm_eval_Dict,zip_pairTrees [some k] [v] X.env pos rfl rfl,dictDisplay_pairs _ (by simp [pairTrees]) (by simp [pairTrees])]
 refine O0 (Tg (O0 ?_))
 unfold subDict
 refine O0 (wpAny_alloc ?_)
 refine O0 (Qk ?_)
 rw [if_pos (by simp [pairTrees])]
 refine O0 (pairTrees_cons_walk (Aj (hk pins _ σ _ _ I1 (q _ hn)) fun kv s1 zq=>?_))
 obtain ⟨x,H1,I2,rx,q1⟩:=zq
 refine Aj (hv pins s1 σ H1 _ I2 q1) fun vv s2 zq=>?_
 obtain ⟨y,H2,I3,ry,H3,g,q2⟩:=zq
 refine pairTrees_nil_walk ?_
 refine Qk ?_
 rw [Sb]
 refine O0 (O0 (O0 (Zos (by omega) I3 g rx ry fun s4 I4 _=>O3 ?_)))
 dsimp only
 rw [Te]
 exact O3 (O3 (O3 (O3 ⟨.ref s.heap.objs.size,H3,I4,rfl,q2⟩)))
theorem Zfy (hu:X.A.units+1 < cLine)(hk:QE X k tk)(hv:QE X v tv):QE X (.Dict [some k] [v] pos) (Zfc tk tv):=⟨Zp2 hu hk.run hv.run⟩
theorem Ix:QE X (.Dict [] [] pos) Zfp:=⟨Zp6⟩
theorem Zh8:QE X (.Dict [] [] pos) Zdu:=⟨Zg5⟩
theorem Zao (hu:X.A.units+1 < cLine)(hi:QE X i ty)(ho:QE X o td):QC X .NotIn i o (Ou ty td):=⟨Zgp hu hi.run ho.run⟩
theorem E8 (hu:X.A.units+1 < cLine)(ho:QE X o td)(hi:QE X i ty)(hv:QE X value tv)(hs:swapsWith value (some (.Subscript o i pos')) pos.line X.env=pure false:=by rfl):QS X (.Assign [.Subscript o i pos'] value pos) (Ly td ty tv):=⟨Zie hu ho.run hi.run hv.run hs⟩
theorem Zm1 (hu:X.A.units+1 < cLine)(ho:QE X o td)(he:QE X e ty)(h1:attributeBase o "get" X.env (eval o X.env)=eval o X.env:=by rfl)(h2:((backTo cpos (starEach [e] X.env)).all (fun x=>!x.1) && (backToKw cpos (keywordEach [] X.env)).all (fun x=>x.1.isSome) && decide (([e]:List Expr).length+([]:List Keyword).length+(if ([]:List Keyword).isEmpty then 0 else 1) < 30))=true:=by rfl)(h3:(apos.endLine == cpos.line)=true:=by rfl)(h4:backTo cpos (starEach [e] X.env)=[(false,eval e X.env)]:=by rfl):QE X (.Call (.Attribute o "get" apos) [e] [] cpos) (Nt td ty):=⟨Zhk hu ho.run he.run ⟨h1,h2,h3,h4⟩⟩
theorem Zcf (hu:X.A.units+1 < cLine)(ho:QE X o td)(he:QE X e ty)(hf:QE X f tx)(h1:attributeBase o "get" X.env (eval o X.env)=eval o X.env:=by rfl)(h2:((backTo cpos (starEach [e,f] X.env)).all (fun x=>!x.1) && (backToKw cpos (keywordEach [] X.env)).all (fun x=>x.1.isSome) && decide (([e,f]:List Expr).length+([]:List Keyword).length+(if ([]:List Keyword).isEmpty then 0 else 1) < 30))=true:=by rfl)(h3:(apos.endLine == cpos.line)=true:=by rfl)(h4:backTo cpos (starEach [e,f] X.env)=[(false,eval e X.env),(false,eval f X.env)]:=by rfl):QE X (.Call (.Attribute o "get" apos) [e,f] [] cpos) (Zaf td ty tx):=⟨Zlp hu ho.run he.run hf.run ⟨h1,h2,h3,h4⟩⟩
end
noncomputable def Zk1:List V->Hp->VK->Prop:=fun xs H Q=>∃ a kvs,xs=[.ref a]/\H a=some (.dK kvs)/\∀ p,H p=none->Q (.ref p) (upd H p (.dK kvs))
theorem Zjk {X:Cx}:B9 X (.type "dict") Zk1:=by
 intro pins s σ H xs us Q I r h
 obtain ⟨a,kvs,rfl,e,q⟩:=h
 obtain ⟨u,rfl,ru⟩:=r.one
 obtain rfl:u=Value.ref a:=ru
 exact Zpl I (.inl e) fun p s' hp I'=>⟨.ref p,_,I',rfl,q p hp⟩
theorem Zaw {X:Cx}{pos:Pos}{i j:Nat}{x y:Str}{a b:Expr}{ta:TA}{px py pt:Pos}{kt k2 pt2}(hc:X.calm=true)(hN:X.N.Nodup)(hi:X.N[i]?=some x)(hj:X.N[j]?=some y)(hij:i≠j)
  (hx:X.env.scope.names.lookup x=some .local) (hy:X.env.scope.names.lookup y=some .local) (ha:QA X [a,b] ta)
  (hw:swappedStores [.Tuple [.Name x px,.Name y py] kt pt] (.Tuple [a,b] k2 pt2) X.env=pure (some [x,y]):=by rfl)
  (hs:swapsWithSole [.Tuple [.Name x px,.Name y py] kt pt] (.Tuple [a,b] k2 pt2) pos.line X.env=pure false:=by rfl) :
  QS X (.Assign [.Tuple [.Name x px,.Name y py] kt pt] (.Tuple [a,b] k2 pt2) pos) (N1 i j ta):=⟨Zhp hc hN hi hj hij hx hy ha.run hw hs⟩
theorem s_par {i j:Nat}{ta:TA}{D:Cv}{σ:St}{H:Hp}(h:ta σ H fun vs H1=>∃ v w,vs=[v,w]/\D.nx ((σ.set i (some v)).set j (some w)) H1):N1 i j ta D σ H:=h
theorem s_ifE {c:TT}{ta tb:TE}{σ:St}{H:Hp}{Q:VK}(h:c σ H fun b H1=>if b=true then ta σ H1 Q else tb σ H1 Q):tIf c ta tb σ H Q:=h
theorem Znz {b:Bool}{P Q:Prop}(hb:b=false)(h:Q):if b=true then P else Q:=by rw [if_neg (by rw [hb];decide)];exact h
theorem s_dput {td ty tv:TE}{D:Cv}{σ:St}{H:Hp}(h:tv σ H fun v H1=>td σ H1 fun x H2=>ty σ H2 fun y H3=>∃ a H4,x=.ref a/\DPut H3 a y v H4/\D.nx σ H4):Ly td ty tv D σ H:=h
theorem s_dget2 {td ty tx:TE}{σ:St}{H:Hp}{Q:VK}(h:td σ H fun x H1=>∃ a,x=.ref a/\DcD H1 a/\ty σ H1 fun y H2=>tx σ H2 fun z H3=>∃ o,DGet H3 a y o/\Q (o.getD z) H3):Zaf td ty tx σ H Q:=h
theorem Ip {t:TS}{X:St->Hp->Prop}{rt:VK}{bk ct:St->Hp->Prop}{σ:St}{H:Hp}(R:St->Hp->Prop)(h1:∀ Y:St->Hp->Prop,(∀ σ' H',R σ' H'->Y σ' H')->t ⟨Y,rt,bk,ct⟩ σ H)(h2:∀ σ' H',R σ' H'->X σ' H'):t ⟨X,rt,bk,ct⟩ σ H:=h1 X h2
theorem viaE {t:TE}{Q:VK}{σ:St}{H:Hp}(R:V->Hp->Prop)(h1:∀ Y:VK,(∀ v H',R v H'->Y v H')->t σ H Y)(h2:∀ v H',R v H'->Q v H'):t σ H Q:=h1 Q h2
section
variable {X:Cx}
end
section
variable {X:Cx}
end
section
variable {g:TG}{tt:TT}{te:TE}{σ0:St}{H1:Hp}{D:Addr}{Q:VK}
end
noncomputable def Gw (K:Oz)(a b:Addr):It :=
 ⟨fun i H=>∃ xs ys,SqL K H a xs/\SqL K H b ys/\i < xs.length/\i < ys.length,
   fun i H x H'=>∃(t:Addr)(y z:V),H t=none/\(∀ xs,SqL K H a xs->xs[i]?=some y)/\(∀ ys,SqL K H b ys->ys[i]?=some z)/\x=.ref t/\H'=upd H t (.tup [y,z]),
   fun i H=>∃ xs ys,SqL K H a xs/\SqL K H b ys/\i=min xs.length ys.length⟩
theorem Zfz {P:Program}{w:World}{K:Oz}{elts:List Expr}{kt:Nat}{pt:Pos}(a b z TI TO i1 i2:Addr)(D:ZB z TI TO i1 i2 a b) :
  Ey P w K (.Tuple elts kt pt) (Gw K a b) [z,TI,TO,i1,i2] z (fun i h=>IsZip h z TI TO .none/\IsPair h TI (.ref i1) (.ref i2)/\(∃ u v,IsPair h TO u v)/\h.IsListIter i1 a i/\h.IsListIter i2 b i) where
 mem:=by simp
 obj:=fun i h st c hc=>by
  obtain ⟨q1,q2,⟨u,v,q3⟩,q4,q5⟩:=st
  simp only [O5,Pd,or_false] at hc
  rcases hc with rfl | rfl | rfl | rfl | rfl
  ·exact ⟨_,q1,fun v z=>by cases z⟩
  ·exact ⟨_,q2,fun v z=>by cases z⟩
  ·exact ⟨_,q3,fun v z=>by cases z⟩
  ·obtain ⟨o,e,c,d⟩:=q4
   exact ⟨o,e,fun v z=>by rw [d] at z;cases z⟩
  ·obtain ⟨o,e,c,d⟩:=q5
   exact ⟨o,e,fun v z=>by rw [d] at z;cases z⟩
 keep:=fun i h h' st k=>by
  obtain ⟨q1,q2,⟨u,v,q3⟩,q4,q5⟩:=st
  exact ⟨k z (by simp) _ q1,k TI (by simp) _ q2,⟨u,v,k TO (by simp) _ q3⟩,q4.at fun o e=>k i1 (by simp) o e,q5.at fun o e=>k i2 (by simp) o e⟩
 item:=by
  intro X hP hw hK hc i pins s σ H E I hf st hg
  subst hP hw hK
  obtain ⟨xs,ys,hx,hy,l1,l2⟩:=hg
  obtain ⟨its,rv,p,hz⟩:=I.list hx
  obtain ⟨its2,rv2,p2,hz2⟩:=I.list hy
  have g1:=rv.length
  have g2:=rv2.length
  obtain ⟨q1,q2,⟨u,v,q3⟩,q4,q5⟩:=st
  have hh:X.A.in1.handled=none:=I.ok.hd hc
  have D1:=Ru (prog:=X.prog) (w:=X.w) (A:=X.A.in1) hh i1 a D.a1 its.toArray
  have D2:=Ru (prog:=X.prog) (w:=X.w) (A:=X.A.in1) hh i2 b D.b2 its2.toArray
  refine Zcg D1 D2 D.za q1 q2 q3 ⟨q4,p.isList⟩ ⟨q5,p2.isList⟩ (by rw [O4];omega) (by rw [O4];omega) fun x y h1 tk px py a1 a2 a3 a4 a5 a6 a7=>?_
  refine ⟨_,rfl,wpAny_letOwnedTupleGo_zip a1 fun h2 a8 a9=>?_⟩
  replace a9:Ph z h1 h2:=a9
  have hx':its[i]?=some x:=by simpa using px
  have hy':its2[i]?=some y:=by simpa using py
  obtain ⟨u1,hu1,ru1⟩:=rv.get (O1 l1)
  obtain ⟨u2,hu2,ru2⟩:=rv2.get (O1 l2)
  rw [hx'] at hu1
  cases hu1
  rw [hy'] at hu2
  cases hu2
  have lt:∀{c o},s.heap.get? c=some o->s.heap.objs.size≠c:=fun e=>Qo (O8 e)
  have nz:s.heap.objs.size≠z:=lt q1
  have ht2:h2.IsTuple s.heap.objs.size ([x,y]:List Value).toArray:=⟨_,a9.extBut _ _ nz a5,rfl,_,rfl⟩
  have kk:∀ b o,b ∉ [z,TI,TO,i1,i2]->s.heap.get? b=some o->h2.get? b=some o:=fun b o hb e=>by
   simp only [O5,Pd,or_false,not_or] at hb
   exact a9.extBut _ _ hb.1 (a7 b o hb.1 hb.2.2.1 hb.2.2.2.1 hb.2.2.2.2 e)
  have I2:=I.pairL (tk:=tk) (T:=s.heap.objs.size) (xs:=[xs[i],ys[i]]) hf kk (O2 _) (.cons ru1 (.cons ru2 .nil)) (by show 2<=sizeLine;decide) ht2
  refine ⟨.ref s.heap.objs.size,_,I2,rfl,⟨_,xs[i],ys[i],I.hok.fresh (O2 _),fun zs hz=>by rw [I.list_inj hz hx];exact O1 l1,fun zs hz=>by rw [I.list_inj hz hy];exact O1 l2,rfl,rfl⟩,
   ⟨a8,a9.extBut _ _ D.TIz (a7 _ _ D.TIz D.TITO D.TI1 D.TI2 q2),⟨_,_,a9.extBut _ _ D.TOz a2⟩,a3.1.at fun o e=>a9.extBut _ _ D.i1z e,a4.1.at fun o e=>a9.extBut _ _ D.i2z e⟩,fun c hc=>?_⟩
  have hb':c≠s.heap.objs.size:=by
   simp only [O5,Pd,or_false] at hc
   rcases hc with rfl | rfl | rfl | rfl | rfl
   ·exact (lt q1).symm
   ·exact (lt q2).symm
   ·exact (lt q3).symm
   ·obtain ⟨_,e,_⟩:=q4;exact (lt e).symm
   ·obtain ⟨_,e,_⟩:=q5;exact (lt e).symm
  rw [Ag hb']
  exact (hf c hc).1
 done:=by
  intro X hP hw hK hc i pins s σ H E I hf st hg
  subst hP hw hK
  obtain ⟨xs,ys,hx,hy,rfl⟩:=hg
  obtain ⟨its,rv,p,hz⟩:=I.list hx
  obtain ⟨its2,rv2,p2,hz2⟩:=I.list hy
  have g1:=rv.length
  have g2:=rv2.length
  obtain ⟨q1,q2,⟨u,v,q3⟩,q4,q5⟩:=st
  have hh:X.A.in1.handled=none:=I.ok.hd hc
  have D1:=Ru (prog:=X.prog) (w:=X.w) (A:=X.A.in1) hh i1 a D.a1 its.toArray
  have D2:=Ru (prog:=X.prog) (w:=X.w) (A:=X.A.in1) hh i2 b D.b2 its2.toArray
  refine Zex D1 D2 D.za q1 q2 q3 ⟨q4,p.isList⟩ ⟨q5,p2.isList⟩ (by simp only [O4];omega) fun h' tk kk=>⟨rfl,I.turnedL (fun b o hb e=>?_) hf⟩
  simp only [O5,Pd,or_false,not_or] at hb
  exact kk b o hb.1 hb.2.2.1 hb.2.2.2.1 hb.2.2.2.2 e
 self:=fun A i s Q E st h=>Vo st.1 h
section
variable {X:Cx}
noncomputable def Ze9 (K:Oz)(ta:TA):TI:=fun σ H R=>ta σ H fun vs H1=>∃ a b xs ys,vs=[.ref a,.ref b]/\SqL K H1 a xs/\SqL K H1 b ys/\R (Gw K a b) H1
theorem Zjc (K:Oz){elts:List Expr}{kt:Nat}{pt:Pos}{e e2:Expr}{ta:TA}{p pos:Pos}(hg:Gl X "zip")(hm:X.mg "zip" = none)(ha:QA X [e,e2] ta)(hK:X.K=K:=by rfl)
  (hs:starEach [e,e2] X.env=[(false,eval e X.env),(false,eval e2 X.env)]:=by rfl) (hs2:starEach [e2] X.env=[(false,eval e2 X.env)]:=by rfl):QI X (.Tuple elts kt pt) (.Call (.Name "zip" p) [e,e2] [] pos) (Ze9 K ta):=by
 subst hK
 refine ⟨fun pins s σ H R I h=>?_⟩
 refine Call_ (Dm I hg hm PyProof.Rows.boot_zip (Qp (Aj (ha.run pos pins s σ H _ I h) fun us s1 ⟨vs,H1,I1,r1,q1⟩=>?_) (by rw [hs,hs2]) (by rw [hs2];rfl)))
 obtain ⟨a,b,xs,ys,e1,hq,hq2,q⟩:=q1
 subst e1
 obtain ⟨u,v,rfl,ru,rv⟩:=r1.two
 cases ru
 cases rv
 obtain ⟨its,rv,pl,hz⟩:=I1.list hq
 obtain ⟨its2,rv2,pl2,hz2⟩:=I1.list hq2
 have lt1:a < s1.heap.objs.size:=by obtain ⟨o,e,_⟩:=id pl.isList;exact O8 e
 have lt2:b < s1.heap.objs.size:=by obtain ⟨o,e,_⟩:=id pl2.isList;exact O8 e
 refine Zcr (b:=false) (gg:=false) (show ZIn false s1.heap a its.toArray from pl.isList) (show ZIn false s1.heap b its2.toArray from pl2.isList) fun h' a1 a2 a3 a4 a5 a6 hk=>?_
 refine Vo a1 ?_
 have fr:∀ k,FpOk X pins H1 (s1.heap.objs.size+k):=fun k=>I1.fpOk (Q6 _ _) (I1.hok.fresh (Q6 _ _))
 refine ⟨_,[s1.heap.objs.size+4,s1.heap.objs.size+2,s1.heap.objs.size+3,s1.heap.objs.size,s1.heap.objs.size+1],_,_,H1,rfl,I1.kept (t':=s1.toks) hk,Zfz a b _ _ _ _ _ (Zfk lt1 lt2),⟨a1,a2,⟨_,_,a3⟩,a4,a5⟩,fun c hc=>?_,q⟩
 simp only [O5,Pd,or_false] at hc
 rcases hc with rfl | rfl | rfl | rfl | rfl
 ·exact fr 4
 ·exact fr 2
 ·exact fr 3
 ·exact fr 0
 ·exact fr 1
theorem s_izipm {K:Oz}{ta:TA}{σ:St}{H:Hp}{R:It->Hp->Prop}(h:ta σ H fun vs H1=>∃ a b xs ys,vs=[.ref a,.ref b]/\SqL K H1 a xs/\SqL K H1 b ys/\R (Gw K a b) H1):Ze9 K ta σ H R:=h
theorem Zny {K:Oz}{a b:Addr}{xs ys:List V}{g:TG}{tb:TS}{D:Cv}{σ:St}{H:Hp}(Pv:Nat->St->Hp->Prop)(h0:Pv 0 σ H)(hl:∀ i σ H,i<=min xs.length ys.length->Pv i σ H->SqL K H a xs/\SqL K H b ys)
  (hs:∀ i x y t σ H,xs[i]?=some x->ys[i]?=some y->H t=none->Pv i σ H->g (.ref t) σ (upd H t (.tup [x,y])) fun σ2 H2=>tb { D with nx:=Pv (i+1),ct:=Pv (i+1),bk:=D.nx } σ2 H2) (hd:∀ σ H,Pv (min xs.length ys.length) σ H->D.nx σ H) :
  ∃ W:Nat->Nat->St->Hp->Prop,(∃ m,W 0 m σ H)/\∀ i m σ H,W i m σ H ->
   ((Gw K a b).stop i H/\D.nx σ H)\/((Gw K a b).go i H/\∃ N:St->Hp->Prop,(∀ σ' H',N σ' H'->∃ m',m' < m/\W (i+1) m' σ' H')/\∀ x H',(Gw K a b).yld i H x H'->g x σ H' fun σ2 H2=>tb { D with nx:=N,ct:=N,bk:=D.nx } σ2 H2):=by
 refine ⟨fun i m σ H=>m=min xs.length ys.length - i/\i<=min xs.length ys.length/\Pv i σ H,⟨min xs.length ys.length,by simp,Pp _,h0⟩,?_⟩
 rintro i m σ H ⟨rfl,hi,p⟩
 obtain ⟨q,q'⟩:=hl i σ H hi p
 by_cases hlt:i < min xs.length ys.length
 ·refine .inr ⟨⟨xs,ys,q,q',by omega,by omega⟩,Pv (i+1),fun σ' H' p'=>⟨min xs.length ys.length - (i+1),by omega,rfl,hlt,p'⟩,fun x H' y=>?_⟩
  obtain ⟨t,y,z,ht,hy,hz,rfl,rfl⟩:=y
  exact hs i y z t σ _ (hy xs q) (hz ys q') ht p
 ·have e:i=min xs.length ys.length:=by omega
  subst e
  exact .inl ⟨⟨xs,ys,q,q',rfl⟩,hd σ H p⟩
end
theorem s_dget1 {td ty:TE}{σ:St}{H:Hp}{Q:VK}(h:td σ H fun x H1=>∃ a,x=.ref a/\DcD H1 a/\ty σ H1 fun y H2=>∃ o,DGet H2 a y o/\Q (o.getD .non) H2):Nt td ty σ H Q:=h
theorem s_isB {x:V}{b:Bool}{H:Hp}{Q:VK}(h:Q (.bl (decide (x=.bl b))) H):rIsB x (.bl b) H Q:=⟨b,rfl,h⟩
theorem s_dnotin {td ty:TE}{σ:St}{H:Hp}{Q:VK}(h:ty σ H fun y H1=>td σ H1 fun x H2=>∃ a o,x=.ref a/\DGet H2 a y o/\Q (.bl (!o.isSome)) H2):Ou ty td σ H Q:=h
section
variable {X:Cx}
noncomputable abbrev Zev (f:Bool):=Zd1 f true
theorem Zns (f:Bool)(K:Oz){e e2:Expr}{ta:TA}{p p2 pos pos2:Pos}(hg:Gl X "list")(hm:X.mg "list" = none)(hg2:Gl X "zip")(hm2:X.mg "zip" = none)(ha:QA X [e,e2] ta)(hK:X.K=K:=by rfl)(hc:X.calm=true:=by rfl)
  (hs:starEach [.Call (.Name "zip" p2) [e,e2] [] pos2] X.env=[(false,eval (.Call (.Name "zip" p2) [e,e2] [] pos2) X.env)]:=by rfl) (hs2:starEach [e,e2] X.env=[(false,eval e X.env),(false,eval e2 X.env)]:=by rfl) (hs3:starEach [e2] X.env=[(false,eval e2 X.env)]:=by rfl) :
  QE X (.Call (.Name "list" p) [.Call (.Name "zip" p2) [e,e2] [] pos2] [] pos) (Zev f K ta):=Zlx f true K hg hm hg2 hm2 ha hK hc hs hs2 hs3
theorem s_listzt {f:Bool}{K:Oz}{ta:TA}{σ:St}{H:Hp}{Q:VK}(h:ta σ H fun vs H1=>∃ a b xs ys,vs=[.ref a,.ref b]/\Fa f K H1 a xs/\SqT K H1 b ys /\
 ∀(S:Addr)(zs:List V)(H2:Hp),H1 S=none->Same H1 H2->zs.length=min xs.length ys.length->Mr H2 xs ys zs->H2 S=some (.lst zs)->Q (.ref S) H2):Zev f K ta σ H Q:=h
end
section
variable {prog:Program}{w:World}{A:Around}{E:Value->Shared->Prop}{s:Shared}
end
section
variable {X:Cx}{tg:Expr}
end
section
variable {X:Cx}{c n:Str}{np hpos pos:Pos}{body hbody:List Stmt}{b₀:Stmt}{tb:TXS}{th:Addr->TS}{i:Nat}{C:Addr}
end
section
variable {P:Program}{w:World}{K:Oz}{mg:Str->Option Value}{base:Heap}
end
section
variable {X:Cx}{k:Nat}{x:Str}{ps:List Str}{sp:Addr->Sp}{p pos:Pos}{e:Expr}{es:List Expr}{t:TA}
end
section
variable {X:Cx}{tg:Expr}
end
section
variable {X:Cx}
end
section
variable {X:Cx}
end
section
variable {X:Cx}{pins:List (Addr×Obj)}{σ:St}{H:Hp}{s:Shared}
end
section
variable {X:Cx}
open Classical in
noncomputable def Zap (K:Oz):List V->Hp->VK->Prop:=fun xs H Q=>∃(a:Addr)(kvs:List (Ap×V))(ks:List Str),xs=[.ref a]/\H a=some (.dK kvs)/\kvs.map (·.1)=ks.map Sum.inr/\kvs.length < 64/\∀(ts:List Str)(l:Addr),ts.Perm ks->H l=none->Q (.ref l) (upd H l (.lst (ts.map V.str)))
theorem Zb8:∀{its:List Value}{ks:List Str},its.length=ks.length->(∀(j:Nat)(v:Value)(t:Str),its[j]?=some v->ks[j]?=some t->∃ u,v=Value.str t u)->StrsAre its ks
 | [],[],_,_=>.nil
 | [],_::_,h,_=>by cases h
 | _::_,[],h,_=>by cases h
 | v::its,t::ks,h,g=>by
  obtain ⟨u,rfl⟩:=g 0 v t rfl rfl
  exact .cons t u (Zb8 (by simpa using h) fun j w x h1 h2=>g (j+1) w x (by simpa using h1) (by simpa using h2))
theorem Zkt {its:List Value}{ks:List Str}(h:StrsAre its ks):Vals (ks.map V.str) its:=by
 induction h with
 | nil=>exact .nil
 | cons y t _ ih=>exact .cons ⟨t,rfl⟩ ih
theorem Znj (hc:X.calm=true):B9 X (.builtin "sorted") (Zap X.K):=by
 intro pins s σ H xs us Q I r h
 obtain ⟨a,kvs,ks,rfl,e,hk,h64,q⟩:=h
 obtain ⟨u,rfl,ru⟩:=r.one
 cases ru
 obtain ⟨hl,hsys,vs,kv,hd⟩:=N7 I.hok e
 obtain ⟨ep,hat⟩:=hd.dictAt
 have hvl:=kv.length
 have hkl:ks.length=kvs.length:=by
  have:=congrArg Qt hk
  rw [O6,O6] at this
  exact this.symm
 refine Calls.call_function_entry kind_sorted plain_sorted entry_sorted (args_sorted1 _) ?_
 unfold Builtin.«sorted»
 refine O0 (m:=checkCount "sorted" 1 1 _) (O3 ?_)
 refine O0 (PySem.W.kdu_collect (A:=X.A.in1) (PySem.W.kdl_dict (knd:=Ce X.prog X.w) (kvs:=vs) (ep:=ep) hsys) (I.ok.hd hc) hat (by omega) fun h' tk acc hkeep hacc=>?_)
 have I1:Inv X pins σ H { s with heap:=h',toks:=tk }:=I.kept hkeep
 have hal:acc.toList.length=vs.length:=by rw [R6];exact hacc.1
 have hS:StrsAre acc.toList ks:=Zb8 (by omega) fun j v t h1 h2=>by
  obtain ⟨k,x,hx,hi⟩:=hacc.2 j v (by rw [<- Array.getElem?_toList];exact h1)
  have e1:(vs.map (·.1))[j]?=some k:=by rw [Po,hx];rfl
  rw [<- kv.keys,hk,Po,h2] at e1
  cases e1
  rcases Eo (show F7 (.inr t) v=true from hi) with ⟨i,t',e1,_⟩ | ⟨x',t',e1,e2⟩
  ·cases e1
  ·cases e1
   exact ⟨t',e2⟩
 refine O0 (wpAny_newList ?_ (by omega))
 have hoL:(h'.push (seqObj "list" acc.toList.toArray 0)).get? h'.objs.size=some (seqObj "list" acc.toList.toArray 0):=Pn _ rfl
 refine O0 (Qk (Qr slot_list_sort ⟨_,hoL,rfl⟩ entry_list_sort (list_sort_treeK strKind_oneLt hoL hS.keysOf (fun v₁ v₂ rest e=>keyKind_strs (by rw [<- e];exact hS)) (by omega) fun st' hp hs=>⟨_,rfl,?_⟩) (args_list_sort _)))
 obtain ⟨ss',h1,h2,h3⟩:=sorted_out_str hS hp hs
 refine O3 ⟨_,rfl,?_⟩
 obtain ⟨ee,hget⟩:=sortedHeap_at (out:=(arrOf st').map (·.2)) hoL
 have hz:ss'.length=ks.length:=h2.length_eq
 have hbg:64<=sizeLine:=by decide
 have I3:=I1.laid (a:=h'.objs.size) (o:=.lst (ss'.map V.str)) (h':=sortedHeap (h'.push (seqObj "list" acc.toList.toArray 0)) h'.objs.size acc.toList ((arrOf st').map (·.2))) (t':=tk) (fun b ob hb=>by
   have hlt:b < h'.objs.size:=O8 hb
   rw [sortedHeap_old (Pe hlt) (by rw [size_push'];exact Sx hlt),Heap.get?_push_ne _ _ _ (Pe hlt)]
   exact hb) (O2 _) ⟨by rw [O6];omega,_,ee,Zkt h1,by rw [Array.toArray_toList];exact hget⟩
 exact ⟨.ref _,_,I3,rfl,q ss' _ h2 (I1.hok.fresh (O2 _))⟩
theorem Zfu (K:Oz)(hc:X.calm=true:=by rfl)(hK:X.K=K:=by rfl):B9 X (.builtin "sorted") (Zap K):=by subst hK;exact Znj hc
end
inductive Pu:Dt->Prop where
 | str (t:Str):Pu (.flat (.str t))
 | int (i:Int):Pu (.flat (.int i))
 | tup {ds:List Dt} (h:∀ d∈ds,Pu d):Pu (.tup ds)
section
variable {X:Cx}{pins:List (Addr×Obj)}{σ:St}{H:Hp}{s:Shared}
theorem Zar:∀{xs ys:List V}{us:List Value},Vals xs us->Vals ys us->xs=ys
 | _,_,_,.nil,.nil=>rfl
 | _,_,_,.cons r rr,.cons q qq=>by rw [RelV.inj r q,Zar rr qq]
theorem Zhb (I:Inv X pins σ H s){a:Addr}{xs ys:List V}(hx:SqT X.K H a xs)(hy:SqT X.K H a ys):xs=ys:=by
 obtain ⟨its,r1,p1,_⟩:=I.tuple hx
 obtain ⟨its2,r2,p2,_⟩:=I.tuple hy
 have hh:its=its2:=by
  have q1:s.heap.IsTuple a its.toArray:=p1
  have q2:s.heap.IsTuple a its2.toArray:=p2
  obtain ⟨o,g1,c1,n1,d1⟩:=q1
  obtain ⟨o2,g2,c2,n2,d2⟩:=q2
  rw [g1] at g2
  cases g2
  rw [d1] at d2
  injection d2 with d3
  exact congrArg Array.toList d3
 subst hh
 exact Zar r1 r2
theorem Zht (I:Inv X pins σ H s):∀{n m:Nat}{x:V}{d d':Dt},IsD X.K H n x d->IsD X.K H m x d'->Pu d->Pu d'->d=d':=by
 intro n
 induction n with
 | zero =>
  intro m x d d' h h' p p'
  cases h with
  | flat f=>cases h' with
   | flat _=>rfl
   | tup _ _ _=>cases f
   | lst _ _ _=>cases f
 | succ n ih =>
  intro m x d d' h h' p p'
  cases h with
  | flat f=>cases h' with
   | flat _=>rfl
   | tup _ _ _=>cases f
   | lst _ _ _=>cases f
  | tup q l g =>
   cases p with
   | tup p =>
   cases h' with
   | flat f=>cases f
   | lst _ _ _=>cases p'
   | tup q' l' g' =>
    cases p' with
    | tup p' =>
    have e:=Zhb I q q'
    subst e
    congr 1
    refine List.ext_getElem (by omega) fun j h1 h2=>?_
    exact ih (g j _ _ (O1 (by omega)) (O1 h1)) (g' j _ _ (O1 (by omega)) (O1 h2)) (p _ (Q5 h1)) (p' _ (Q5 h2))
  | lst q l g=>cases p
theorem Zgc (I:Inv X pins σ H s):∀{n:Nat}{x y:V}{d d':Dt},IsD X.K H n x d->IsD X.K H n y d'->Pu d->Pu d'->∀{A:Around}{u v:Value},RelV x u->RelV y v->A.units+n < cLine->∃ b:Bool,(b=true↔d=d')/\Pc A s u v b:=by
 have flats:∀{x y:V}{A:Around}{u v:Value},Pu (.flat x)->Pu (.flat y)->RelV x u->RelV y v->∃ b:Bool,(b=true↔Dt.flat x=Dt.flat y)/\Pc A s u v b:=by
  intro x y A u v p p' rx ry
  cases p with
  | str t =>
   obtain ⟨t1,rfl⟩:=rx
   cases p' with
   | str t'=>obtain ⟨t2,rfl⟩:=ry;exact ⟨t == t',by rw [beq_iff_eq];exact ⟨fun h=>by rw [h],fun h=>by injection h with h;injection h⟩,Pc.str_str _ _ _ _⟩
   | int i=>obtain ⟨t2,rfl⟩:=ry;exact ⟨false,⟨fun h=>(by cases h),fun h=>(by injection h with h;cases h)⟩,Vc _ _ _ _⟩
  | int i =>
   obtain ⟨t1,rfl⟩:=rx
   cases p' with
   | str t'=>obtain ⟨t2,rfl⟩:=ry;exact ⟨false,⟨fun h=>(by cases h),fun h=>(by injection h with h;cases h)⟩,Vb _ _ _ _⟩
   | int j=>obtain ⟨t2,rfl⟩:=ry;exact ⟨i == j,by rw [beq_iff_eq];exact ⟨fun h=>by rw [h],fun h=>by injection h with h;injection h⟩,Ub _ _ _ _⟩
 intro n
 induction n with
 | zero =>
  intro x y d d' hx hy p p' A u v rx ry hu
  cases hx with
  | flat fx =>
   cases hy with
   | flat fy=>exact flats p p' rx ry
 | succ n ih =>
  intro x y d d' hx hy p p' A u v rx ry hu
  cases hx with
  | lst _ _ _=>cases p
  | flat fx =>
   cases hy with
   | flat fy=>exact flats p p' rx ry
   | lst _ _ _=>cases p'
   | tup q l g =>
    cases ry
    obtain ⟨its,r,pl,_⟩:=I.tuple q
    cases p with
    | str t=>obtain ⟨t1,rfl⟩:=rx;exact ⟨false,⟨fun h=>(by cases h),fun h=>(by cases h)⟩,Pc.str_tuple _ _ pl (by omega)⟩
    | int i=>obtain ⟨t1,rfl⟩:=rx;exact ⟨false,⟨fun h=>(by cases h),fun h=>(by cases h)⟩,Pc.int_tuple _ _ pl (by omega)⟩
  | @tup _ a vs ds q l g =>
   cases rx
   obtain ⟨its,r,pl,_⟩:=I.tuple q
   cases hy with
   | lst _ _ _=>cases p'
   | flat fy =>
    cases p' with
    | str t=>obtain ⟨t1,rfl⟩:=ry;exact ⟨false,⟨fun h=>(by cases h),fun h=>(by cases h)⟩,Pc.tuple_str _ _ pl (by omega)⟩
    | int i=>obtain ⟨t1,rfl⟩:=ry;exact ⟨false,⟨fun h=>(by cases h),fun h=>(by cases h)⟩,Pc.tuple_int _ _ pl (by omega)⟩
   | @tup _ c vs' ds' q' l' g' =>
    cases ry
    by_cases z:a=c
    ·subst z
     refine ⟨true,⟨fun _=>Zht I (.tup q l g) (.tup q' l' g') p p',fun _=>rfl⟩,Uh _⟩
    ·obtain ⟨its',r',pl',_⟩:=I.tuple q'
     cases p with
     | tup p =>
     cases p' with
     | tup p' =>
     have hi:∀ j:Nat,∃ b:Bool,∀(h1:j < its.length)(h2:j < its'.length),(b=true↔ds[j]?=ds'[j]?)/\Pc A.in1 s its[j] its'[j] b:=fun j=>by
      by_cases h1:j < its.length
      ·by_cases h2:j < its'.length
       ·have k1:=r.length
        have k2:=r'.length
        have ev:vs[j]?=some (vs[j]'(by omega)):=O1 _
        have ev':vs'[j]?=some (vs'[j]'(by omega)):=O1 _
        have ed:ds[j]?=some (ds[j]'(by omega)):=O1 _
        have ed':ds'[j]?=some (ds'[j]'(by omega)):=O1 _
        obtain ⟨w,hw,rw1⟩:=r.get ev
        obtain ⟨w',hw',rw2⟩:=r'.get ev'
        rw [O1 h1] at hw
        rw [O1 h2] at hw'
        cases hw
        cases hw'
        obtain ⟨b,b1,b2⟩:=ih (g j _ _ ev ed) (g' j _ _ ev' ed') (p _ (Q5 _)) (p' _ (Q5 _)) (A:=A.in1) rw1 rw2 (by show A.units+1+n < cLine;omega)
        refine ⟨b,fun _ _=>⟨?_,b2⟩⟩
        rw [b1,ed,ed']
        exact ⟨fun h=>by rw [h],fun h=>Pg h⟩
       ·exact ⟨false,fun _ h=>absurd h h2⟩
      ·exact ⟨false,fun h=>absurd h h1⟩
     have T:=Vl (A:=A) (e:=fun j=>Classical.choose (hi j)) (show s.heap.IsTuple a its.toArray from pl) (show s.heap.IsTuple c its'.toArray from pl') (by omega) (fun j h1 h2=>by
      have:=(R5 (hi j) (by simpa using h1) (by simpa using h2)).2
      simpa using this)
     refine ⟨_,?_,Vf z T⟩
     have k1:=r.length
     have k2:=r'.length
     simp only [O4,Q4,Rr,Um,beq_iff_eq]
     constructor
     ·rintro ⟨h1,h2⟩
      congr 1
      refine List.ext_getElem? fun j=>?_
      by_cases hj:j < its.length
      ·exact ((R5 (hi j) hj (by omega)).1).mp (h1 j (by omega))
      ·rw [Sq (by omega),Sq (by omega)]
     ·intro h
      injection h with h
      have hl:its.length=its'.length:=by
       have:=congrArg Qt h
       omega
      refine ⟨fun j hj=>((R5 (hi j) (by omega) (by omega)).1).mpr (by rw [h]),hl⟩
theorem Znb (I:Inv X pins σ H s){n:Nat}{a c:Addr}{vs vs':List V}{ds ds':List Dt}{A:Around}(q:SqT X.K H a vs)(l:vs.length=ds.length)(g:∀(j:Nat)(v:V)(d:Dt),vs[j]?=some v->ds[j]?=some d->IsD X.K H n v d)(q':SqT X.K H c vs')(l':vs'.length=ds'.length)(g':∀(j:Nat)(v:V)(d:Dt),vs'[j]?=some v->ds'[j]?=some d->IsD X.K H n v d)(p:∀ d∈ds,Pu d)(p':∀ d∈ds',Pu d)(hu:A.units+(n+1) < cLine):∃ b:Bool,(b=true↔ds=ds')/\Tl A s (.ref a) (.ref c) b:=by
 obtain ⟨its,r,pl,_⟩:=I.tuple q
 obtain ⟨its',r',pl',_⟩:=I.tuple q'
 have hi:∀ j:Nat,∃ b:Bool,∀(h1:j < its.length)(h2:j < its'.length),(b=true↔ds[j]?=ds'[j]?)/\Pc A.in1 s its[j] its'[j] b:=fun j=>by
  by_cases h1:j < its.length
  ·by_cases h2:j < its'.length
   ·have k1:=r.length
    have k2:=r'.length
    have ev:vs[j]?=some (vs[j]'(by omega)):=O1 _
    have ev':vs'[j]?=some (vs'[j]'(by omega)):=O1 _
    have ed:ds[j]?=some (ds[j]'(by omega)):=O1 _
    have ed':ds'[j]?=some (ds'[j]'(by omega)):=O1 _
    obtain ⟨w,hw,rw1⟩:=r.get ev
    obtain ⟨w',hw',rw2⟩:=r'.get ev'
    rw [O1 h1] at hw
    rw [O1 h2] at hw'
    cases hw
    cases hw'
    obtain ⟨b,b1,b2⟩:=Zgc I (g j _ _ ev ed) (g' j _ _ ev' ed') (p _ (Q5 _)) (p' _ (Q5 _)) (A:=A.in1) rw1 rw2 (by show A.units+1+n < cLine;omega)
    refine ⟨b,fun _ _=>⟨?_,b2⟩⟩
    rw [b1,ed,ed']
    exact ⟨fun h=>by rw [h],fun h=>Pg h⟩
   ·exact ⟨false,fun _ h=>absurd h h2⟩
  ·exact ⟨false,fun h=>absurd h h1⟩
 have T:=Vl (A:=A) (e:=fun j=>Classical.choose (hi j)) (show s.heap.IsTuple a its.toArray from pl) (show s.heap.IsTuple c its'.toArray from pl') (by omega) (fun j h1 h2=>by
  have:=(R5 (hi j) (by simpa using h1) (by simpa using h2)).2
  simpa using this)
 refine ⟨_,?_,T⟩
 have k1:=r.length
 have k2:=r'.length
 simp only [O4,Q4,Rr,Um,beq_iff_eq]
 constructor
 ·rintro ⟨h1,h2⟩
  refine List.ext_getElem? fun j=>?_
  by_cases hj:j < its.length
  ·exact ((R5 (hi j) hj (by omega)).1).mp (h1 j (by omega))
  ·rw [Sq (by omega),Sq (by omega)]
 ·intro h
  have hl:its.length=its'.length:=by
   have:=congrArg Qt h
   omega
  refine ⟨fun j hj=>((R5 (hi j) (by omega) (by omega)).1).mpr (by rw [h]),hl⟩
end
section
variable {X:Cx}
noncomputable def J7 (K:Oz):R2:=fun x y H Q=>(Ge x y=true/\Q (.bl (decide (x=y))) H)\/∃(a c:Addr)(n:Nat)(d d':Dt),x=.ref a/\y=.ref c/\n<=190/\IsD K H n (.ref a) d/\IsD K H n (.ref c) d'/\Pu d/\Pu d'/\∀ b:Bool,(b=true↔d=d')->Q (.bl b) H
theorem Zmx (hu:X.A.units+200 < cLine):OpR X (compareOp .Eq) (fun x y H Q=>∃(a c:Addr)(n:Nat)(d d':Dt),x=.ref a/\y=.ref c/\n<=190/\IsD X.K H n (.ref a) d/\IsD X.K H n (.ref c) d'/\Pu d/\Pu d'/\∀ b:Bool,(b=true↔d=d')->Q (.bl b) H):=by
 intro pins s σ H x y v u Q I rx ry h
 obtain ⟨a,c,n,d,d',rfl,rfl,hn,hx,hy,p,p',q⟩:=h
 cases rx
 cases ry
 cases hx with
 | flat fx=>cases fx
 | lst _ _ _=>cases p
 | tup q1 l1 g1 =>
  cases hy with
  | flat fy=>cases fy
  | lst _ _ _=>cases p'
  | tup q2 l2 g2 =>
   cases p with
   | tup p =>
   cases p' with
   | tup p' =>
   obtain ⟨b,b1,b2⟩:=Znb I (A:=X.A) q1 l1 g1 q2 l2 g2 p p' (by omega)
   exact b2 _ _ _ _ ⟨.bl b,H,I,rfl,q b (by rw [b1];exact ⟨fun h=>by rw [h],fun h=>by injection h⟩)⟩
theorem s_eqk {K:Oz}{x y:V}{H:Hp}{Q:VK}(hs:Ge x y=true)(h:Q (.bl (decide (x=y))) H):J7 K x y H Q:=.inl ⟨hs,h⟩
theorem Zo0 {K:Oz}{a c:Addr}{H:Hp}{Q:VK}{n:Nat}{d d':Dt}(hn:n<=190)(hx:IsD K H n (.ref a) d)(hy:IsD K H n (.ref c) d')(p:Pu d)(p':Pu d')(h:∀ b:Bool,(b=true↔d=d')->Q (.bl b) H):J7 K (.ref a) (.ref c) H Q:=.inr ⟨a,c,n,d,d',rfl,rfl,hn,hx,hy,p,p',h⟩
theorem Dk (K:Oz)(hu:X.A.units+200 < cLine)(hK:X.K=K:=by rfl):OpR X (compareOp .Eq) (J7 K):=by subst hK;exact op_eq.or (Zmx hu)
end
end L2
local macro_rules | `(tactic| walk_at "sc")=>`(tactic| exact ⟨rfl,rfl,rfl,by decide +kernel,rfl,by decide +kernel,by decide +kernel⟩)
namespace L2
open PySem PySem.Spec PyProof.Rows
theorem Br:0<=sizeLine:=by decide
theorem Bx:1<=sizeLine:=by decide
theorem A5:2<=sizeLine:=by decide
theorem Bp:3<=sizeLine:=by decide
theorem sz4:4<=sizeLine:=by decide
theorem sz5:5<=sizeLine:=by decide
theorem sz7:7<=sizeLine:=by decide
theorem sz8:8<=sizeLine:=by decide
theorem sz9:9<=sizeLine:=by decide
theorem Room.m {j k:Nat}{A:Around}(r:Room k A)(h:j<=k:=by decide):Room j A:=r.mono h
section
variable {X:Cx}{a b:Expr}{ta tb:TE}{pos:Pos}{K:Oz}
theorem Av (i:Nat){ps:List Str}{sc:Scope}{x:Str}{e:Expr}{te:TE}{pos':Pos}(S:Bo X.N ps sc)(he:QE X e te)(hi:X.N[i]?=some x:=by rfl)(hx:Eh X.env.scope x:=by exact Or.inl rfl)(hs:swapsWith e (some (.Name x pos')) pos.line X.env=pure false:=by rfl)(hf:X.fn x=true\/X.env.scope.names.lookup x=some .local:=by first | exact .inl rfl | exact .inr rfl | assumption):QS X (.Assign [.Name x pos'] e pos) (Fg te (Fj i)):=G0 S.nd hi hx he hs hf
theorem Am (K:Oz)(ha:QE X a ta)(hb:QE X b tb)(hs:Mk b:=by exact fun _ _=>rfl)(hK:X.K=K:=by rfl):QE X (.Subscript a b pos) (Eu (Fk K) ta tb):=Zpe (k_ix K hK) ha hb hs
end
end L2
namespace K34
theorem lz1 {α:Type}{vs:List α}(h:vs.length=1):∃ u,vs=[u]:=by
 cases vs with
 | nil=>cases h
 | cons u r=>cases Q1 (Nat.succ.inj h);exact ⟨u,rfl⟩
theorem lz2 {α:Type}{vs:List α}(h:vs.length=2):∃ u v,vs=[u,v]:=by
 cases vs with
 | nil=>cases h
 | cons u r=>obtain ⟨v,rfl⟩:=lz1 (Nat.succ.inj h);exact ⟨u,v,rfl⟩
end K34
namespace K34
open PySem L2
noncomputable def Ad (i:Nat):Stmt:=Rx.main.body.getD i (.Pass ⟨0,0,0,0⟩)
noncomputable abbrev Ii:Stmt:=Ad 5
noncomputable abbrev Iw:Stmt:=Ad 7
noncomputable abbrev Hl:Stmt:=Ad 8
noncomputable abbrev Iz:Stmt:=Ad 9
noncomputable abbrev Jm:Stmt:=Ad 11
noncomputable abbrev Hv:Stmt:=Ad 12
noncomputable abbrev Jh:Stmt:=Ad 13
noncomputable abbrev Ho:Stmt:=Ad 14
noncomputable abbrev Ih:Stmt:=Ad 19
noncomputable abbrev Iq:Stmt:=Ad 20
noncomputable abbrev Hz:Stmt:=Ad 21
noncomputable abbrev Ic:Stmt:=Ad 22
noncomputable abbrev Ia:Stmt:=Ad 23
noncomputable abbrev Iu:Stmt:=Ad 24
noncomputable abbrev Jb:Stmt:=Ad 25
noncomputable abbrev Hk:Stmt:=Ad 26
noncomputable abbrev Hg:Stmt:=Ad 27
noncomputable abbrev Jl:Stmt:=Ad 30
noncomputable abbrev Ji:Stmt:=Ad 31
noncomputable abbrev Hy:Stmt:=Ad 32
noncomputable abbrev Jk:Stmt:=Ad 34
noncomputable abbrev Hs:Stmt:=Ad 35
noncomputable abbrev Hi:Stmt:=Ad 36
noncomputable abbrev Ir:Stmt:=Ad 37
noncomputable abbrev Ie:Stmt:=Ad 38
noncomputable abbrev Jf:Stmt:=Ad 39
noncomputable abbrev He:Stmt:=Ad 40
noncomputable abbrev I0:Stmt:=Ad 41
noncomputable abbrev Gq:Stmt:=Ad 42
noncomputable abbrev G1:Stmt:=Ad 43
noncomputable abbrev Jj:Stmt:=Ad 44
structure Txt (K:Oz)(mg:Str->Option Value):Prop where
 isinstance:mg "isinstance" = none
 int:mg "int" = none
 bool:mg "bool" = none
 reversed:mg "reversed" = none
 list:mg "list" = none
 enumerate:mg "enumerate" = none
 len:mg "len" = none
 dict:mg "dict" = none
 zip:mg "zip" = none
 tuple:mg "tuple" = none
 range:mg "range" = none
 sorted:mg "sorted" = none
 sum:mg "sum" = none
structure Script (K:Oz)(H:Hp)(a:Addr):Prop where
 ex:∃ ns:List Int,SqL K H a (ns.map V.int)/\ns.length<=63
theorem Script.same {K:Oz}{H H':Hp}{a:Addr}(S:Script K H a)(h:Same H H'):Script K H' a:=by
 obtain ⟨ns,q,l⟩:=S.ex
 exact ⟨ns,h.seq q,l⟩
theorem big:100000<=sizeLine:=by decide
inductive Sh where
 | num | truth | any | to (a b:Nat) | same (k:Nat)
 deriving DecidableEq
noncomputable def shV:Sh->List V
 | .num=>[.str "num"]
 | .truth=>[.str "truth"]
 | .any=>[.str "any"]
 | .to a b=>[.str "to",.int (a:Nat),.int (b:Nat)]
 | .same k=>[.str "same",.int (k:Nat)]
noncomputable def Sh.parts:Sh->List Nat
 | .to a b=>[a,b]
 | .same k=>[k]
 | _=>[]
noncomputable def Sh.wd:Sh->Str
 | .num => "num"
 | .truth => "truth"
 | .any => "any"
 | .to _ _ => "to"
 | .same _ => "same"
theorem Zi8 (s:Sh):shV s=.str s.wd::s.parts.map fun n=>V.int ((n:Nat):Int):=by cases s <;> rfl
noncomputable def Sh.isSame:Sh->Bool
 | .same _=>true
 | _=>false
noncomputable abbrev Ae:=List Sh
inductive LastN (sh:Ae):Nat->Nat->Nat->Prop where
 | root {i:Nat} {s:Sh} (h:sh[i]?=some s) (hs:s.isSame=false):LastN sh 0 i i
 | step {n i k r:Nat} (h:sh[i]?=some (.same k)) (t:LastN sh n k r):LastN sh (n+1) i r
noncomputable def Last (sh:Ae)(i r:Nat):Prop:=∃ n,LastN sh n i r
theorem LastN.at {sh:Ae}{n i r:Nat}(h:LastN sh n i r):∃ s,sh[r]?=some s/\s.isSame=false:=by
 induction h with
 | root h hs=>exact ⟨_,h,hs⟩
 | step _ _ ih=>exact ih
theorem Last.at {sh:Ae}{i r:Nat}(h:Last sh i r):∃ s,sh[r]?=some s/\s.isSame=false:=let ⟨_,h⟩:=h;h.at
theorem LastN.uniq {sh:Ae}{n m i r r':Nat}(h:LastN sh n i r)(h':LastN sh m i r'):r=r':=by
 induction h generalizing m r' with
 | root h hs =>
  cases h' with
  | root=>rfl
  | step h2 _=>rw [h] at h2;cases h2;cases hs
 | step h _ ih =>
  cases h' with
  | root h2 hs=>rw [h] at h2;cases h2;cases hs
  | step h2 t=>rw [h] at h2;cases h2;exact ih t
theorem Last.uniq {sh:Ae}{i r r':Nat}(h:Last sh i r)(h':Last sh i r'):r=r':=let ⟨_,h⟩:=h;let ⟨_,h'⟩:=h';h.uniq h'
noncomputable abbrev Ps:=Nat->Option Bool
noncomputable def Bh (ps:Ps)(i:Nat)(b:Bool):Ps:=fun j=>if j=i then some b else ps j
inductive Dy (sh:Ae)(ps:Ps):List Nat->List Nat->Option (List Nat)->Prop where
 | nil {w:List Nat}:Dy sh ps [] w (some w)
 | hit {p r:Nat} {rest w:List Nat} (h:Last sh p r) (h2:ps r=some false):Dy sh ps (p::rest) w none
 | go {p r:Nat} {rest w:List Nat} {o:Option (List Nat)} (h:Last sh p r) (h2:ps r≠some false) (t:Dy sh ps rest (w++[r]) o):Dy sh ps (p::rest) w o
inductive HoldsN (sh:Ae):Nat->Ps->List Nat->Bool->Prop where
 | nil {ps:Ps}:HoldsN sh 0 ps [] false
 | seen {n:Nat} {ps:Ps} {w:List Nat} {Ad:Nat} {x b:Bool} (h:ps Ad=some x) (t:HoldsN sh n (Bh ps Ad true) w b):HoldsN sh (n+1) ps (w++[Ad]) b
 | hit {ps:Ps} {w:List Nat} {Ad:Nat} {s:Sh} (h:ps Ad=none) (hs:sh[Ad]?=some s) (hp:Dy sh (Bh ps Ad false) s.parts (w++[Ad]) none):HoldsN sh 1 ps (w++[Ad]) true
 | go {n:Nat} {ps:Ps} {w w':List Nat} {Ad:Nat} {s:Sh} {b:Bool} (h:ps Ad=none) (hs:sh[Ad]?=some s) (hp:Dy sh (Bh ps Ad false) s.parts (w++[Ad]) (some w')) (t:HoldsN sh n (Bh ps Ad false) w' b):HoldsN sh (n+1) ps (w++[Ad]) b
inductive JoinN:Nat->Ae->List (Nat×Nat)->Option Ae->Prop where
 | nil {m:Ae}:JoinN 0 m [] (some m)
 | eq {n:Nat} {m:Ae} {w:List (Nat×Nat)} {p:Nat×Nat} {l:Nat} {o:Option Ae} (h1:Last m p.1 l) (h2:Last m p.2 l) (t:JoinN n m w o):JoinN (n+1) m (w++[p]) o
 | anyR {n:Nat} {m:Ae} {w:List (Nat×Nat)} {p:Nat×Nat} {l r:Nat} {o:Option Ae} (h1:Last m p.1 l) (h2:Last m p.2 r) (ne:l≠r) (hr:m[r]?=some .any) (t:JoinN n (m.set r (.same l)) w o):JoinN (n+1) m (w++[p]) o
 | anyL {n:Nat} {m:Ae} {w:List (Nat×Nat)} {p:Nat×Nat} {l r:Nat} {sr:Sh} {o:Option Ae} (h1:Last m p.1 l) (h2:Last m p.2 r) (ne:l≠r) (hr:m[r]?=some sr) (hn:sr≠.any) (hl:m[l]?=some .any) (t:JoinN n (m.set l (.same r)) w o):JoinN (n+1) m (w++[p]) o
 | to {n:Nat} {m:Ae} {w:List (Nat×Nat)} {p:Nat×Nat} {l r a b c d:Nat} {o:Option Ae} (h1:Last m p.1 l) (h2:Last m p.2 r) (ne:l≠r) (hl:m[l]?=some (.to a b)) (hr:m[r]?=some (.to c d)) (t:JoinN n (m.set l (.same r)) (w++[(a,c),(b,d)]) o):JoinN (n+1) m (w++[p]) o
 | clash {m:Ae} {w:List (Nat×Nat)} {p:Nat×Nat} {l r:Nat} {sl sr:Sh} (h1:Last m p.1 l) (h2:Last m p.2 r) (ne:l≠r) (hl:m[l]?=some sl) (hr:m[r]?=some sr) (nl:sl≠.any) (nr:sr≠.any) (nt:sl.wd ≠ "to" \/ sr.wd ≠ "to"):JoinN 1 m (w++[p]) none
inductive FitG:List (Nat×Nat)->Ae->List Bool->Ae->Prop where
 | nil {m:Ae}:FitG [] m [] m
 | ok {g a n k r:Nat} {m m1 m':Ae} {ps:List (Nat×Nat)} {fs:List Bool} (j:JoinN n m [(g,a)] (some m1)) (hn:n<=1000) (l:Last m1 g r) (h:HoldsN m1 k (fun _=>none) [r] false) (hk:k<=1000) (t:FitG ps m1 fs m'):FitG ((g,a)::ps) m (true::fs) m'
 | clash {g a n:Nat} {m m':Ae} {ps:List (Nat×Nat)} {fs:List Bool} (j:JoinN n m [(g,a)] none) (hn:n<=1000) (t:FitG ps m fs m'):FitG ((g,a)::ps) m (false::fs) m'
 | loop {g a n k r:Nat} {m m1 m':Ae} {ps:List (Nat×Nat)} {fs:List Bool} (j:JoinN n m [(g,a)] (some m1)) (hn:n<=1000) (l:Last m1 g r) (h:HoldsN m1 k (fun _=>none) [r] true) (hk:k<=1000) (t:FitG ps m fs m'):FitG ((g,a)::ps) m (false::fs) m'
end K34
local macro_rules | `(tactic| walk_at "r1")=>`(tactic| (first | (with_reducible first | refine L2.s_seq ?_ | refine L2.s_asg ?_ | refine L2.s_ret ?_ | refine L2.s_ifS ?_ | refine L2.s_ifE ?_ | refine L2.s_dget ?_ | refine L2.s_din ?_ | refine L2.s_dput ?_ | refine L2.s_dget2 ?_ | refine L2.s_izipm ?_ | refine L2.s_dnotin ?_ | refine L2.s_listzt ?_ | refine L2.s_listr ?_ | refine L2.s_dget1 ?_ | refine L2.s_isB ?_ | refine L2.s_par ?_ | refine L2.s_test ?_ | refine L2.s_op ?_ | refine L2.s_c ?_ | refine L2.s_cons ?_ | refine L2.s_nil ?_ | refine L2.s_call ?_ | refine L2.s_cb ?_ | refine L2.s_gname ?_ | refine L2.s_ex ?_ | refine L2.s_exi ?_ | refine L2.s_drop ?_ | refine L2.s_next ?_ | refine L2.s_un ?_ | refine L2.s_tB ?_ | refine L2.s_not ?_ | refine L2.s_and ?_ | refine L2.s_or ?_ | refine L2.s_andV ?_ | refine L2.s_orV ?_ | refine L2.s_notV ?_ | refine L2.s_vals ?_ | refine L2.s_tup ?_ | refine L2.s_lst ?_ | refine L2.s_bm ?_ | refine L2.s_bm0 ?_ | refine L2.s_sl ?_ | refine L2.s_po ?_ | refine L2.s_po0 ?_ | refine L2.s_gcons ?_ | refine L2.s_gnil ?_ | refine L2.s_gsub ?_ | refine L2.s_isN ?_ | refine L2.s_notN ?_ | refine L2.s_rI0 ?_ | refine L2.s_rU ?_ | refine L2.s_add_int ?_ | refine L2.s_lt ?_ | refine L2.s_le ?_ | refine L2.iteT ?_ | refine L2.iteF ?_ | refine L2.s_comp ?_ | refine L2.s_for ?_ | refine L2.s_rng1 ?_ | refine L2.s_rng3 ?_ | refine L2.s_exr ?_ | refine L2.s_iany ?_ | refine L2.s_irev ?_ | refine L2.s_ienum ?_ | refine L2.s_listen ?_ | refine L2.s_listrev ?_ | refine L2.s_izip ?_ | refine L2.s_ienumT ?_ | refine L2.s_listzp ?_ | refine L2.s_ipI ?_ | refine L2.s_yes ?_ | refine L2.s_turn ?_ | refine L2.s_int_b ?_ | refine L2.s_intb ?_ | refine L2.s_truth ?_ | refine L2.s_chain ?_ | refine L2.s_nt ?_ | refine L2.s_nf ?_) | ((with_reducible refine' L2.s_var ?e ?_); (case e=>exact rfl)) | ((with_reducible refine' L2.s_aug ?e ?_); (case e=>exact rfl)) | ((with_reducible refine' L2.s_eq ?e ?_); (case e=>exact rfl)) | ((with_reducible refine' L2.s_ne ?e ?_); (case e=>exact rfl)) | ((with_reducible refine' L2.s_neb ?e ?_); (case e=>exact rfl)) | ((with_reducible refine' L2.s_eqy ?e ?_); (case e=>exact rfl)) | ((with_reducible refine' L2.s_eqk ?e ?_); (case e=>exact rfl)) | ((with_reducible refine' L2.s_rI ?c ?_); (case c=>first | decide | exact ⟨by decide,by decide⟩ | exact ⟨by decide,by decide,by decide⟩)) | ((with_reducible refine' L2.s_mul_r ?a ?b ?_); (case a=>decide); (case b=>decide)) | ((with_reducible refine' L2.s_mul_l ?a ?b ?_); (case a=>decide); (case b=>decide)) | ((with_reducible refine' L2.s_exr3 ?e ?_); (case e=>decide))))
local macro_rules | `(tactic| walk_at "r")=>`(tactic| (repeat walk_at "r1"))
local macro_rules | `(tactic| walk_at "q")=>`(tactic| (repeat (first | (with_reducible first | refine L2.s_gcons ?_ | refine L2.s_gname ?_ | refine L2.s_gnil ?_ | refine L2.s_seq ?_ | refine L2.s_asg ?_ | refine L2.s_c ?_ | refine L2.s_lst ?_ | refine L2.s_tup ?_ | refine L2.s_cons ?_ | refine L2.s_nil ?_) | ((with_reducible refine' L2.s_var ?e ?_); (case e=>exact rfl)))))
namespace K34
open PySem L2
section
variable {P:Program}{w:World}{K:Oz}{mg:Str->Option Value}{base:Heap}
noncomputable def ShE (K:Oz)(H:Hp)(u:V)(s:Sh):Prop:=∃ p,u=.ref p/\SqT K H p (shV s)
structure ShG (K:Oz)(H:Hp)(a:Addr)(sh:Ae):Prop where
 ex:∃ us:List V,H a=some (.lst us)/\Al (ShE K H) us sh
theorem ShE.same {H H':Hp}(e:SameT H H')(u:V)(s:Sh)(h:ShE K H u s):ShE K H' u s:=let ⟨p,e1,q⟩:=h;⟨p,e1,e.tup q⟩
theorem ShG.same {H H':Hp}{a:Addr}{sh:Ae}(h:ShG K H a sh)(s:Same H H'):ShG K H' a sh:=let ⟨us,e,al⟩:=h.ex;⟨us,s _ _ e,al.mono (ShE.same s.t)⟩
theorem ShG.at {H:Hp}{a:Addr}{sh:Ae}{i:Nat}{s:Sh}(h:ShG K H a sh)(hi:sh[i]?=some s):∃ us p,H a=some (.lst us)/\B2 us ((i:Nat):Int)=some (.ref p)/\SqT K H p (.str s.wd::s.parts.map fun n=>V.int ((n:Nat):Int)):=by
 obtain ⟨us,e,al⟩:=h.ex
 obtain ⟨u,hu,p,rfl,q⟩:=al.get' hi
 rw [Zi8] at q
 exact ⟨us,p,e,Dp hu,q⟩
theorem Zcv (s:Sh):decide (V.str s.wd=V.str "same")=s.isSame:=by
 cases s with
 | to a b=>exact (by decide:decide (V.str "to" = V.str "same")=false)
 | same k=>exact (by decide:decide (V.str "same" = V.str "same")=true)
 | _=>decide
theorem Di {x:V}{xs:List V}:B2 (x::xs) 0=some x:=by
 have h:B2 (x::xs) ((0:Nat):Int)=some x:=Dp rfl
 exact h
noncomputable def K8 (K:Oz):Sp:=fun vs H Q _=>∃(a:Addr)(sh:Ae)(i r:Nat),vs=[.ref a,.int (i:Nat)]/\ShG K H a sh/\Last sh i r/\Q (.int (r:Nat)) H
theorem Lz:Bo ["shapes", "kind", "last"] ["shapes", "kind"] (Bg Ia):=by walk_at "sc"
theorem Zl7 {f:Addr}{fd:FuncData}(F:Fun K "last_same" "last_same" Ia f fd)(T:Txt K mg):Bc P w K mg base Be 1 f fd ["shapes", "kind"] (K8 K):=by
 refine F.okq Lz (fun vs H Q E h=>?_) (fun cdv A outer s H vs Q E hr h=>?_)
 ·obtain ⟨a,sh,i,r,rfl,_⟩:=h
  rfl
 ·obtain ⟨a,sh,i,r,rfl,S,⟨n0,L⟩,q⟩:=h
  refine ⟨_,Af (Av 2 Lz (qv 1))
   (Af (Hw Pq (Az (B3 K hr.u200) (Am K (Am K (qv 0) (qv 2)) Ah) Aq (Ay _)) (Ai (Av 2 Lz (Am K (Am K (qv 0) (qv 2)) Ah))))
   (Ai (Ar (qv 2)))),?_⟩
  walk_at "r"
  refine ⟨fun n σ' H'=>H'=H/\∃ j:Nat,σ'=[some (.ref a),some (.int (i:Nat)),some (.int (j:Nat))]/\LastN sh n j r,⟨n0,rfl,i,rfl,L⟩,?_⟩
  rintro n σ' H' ⟨rfl,j,rfl,L⟩
  walk_at "r"
  cases L with
  | @root _ s h hs =>
   obtain ⟨us,p,e,eu,qp⟩:=S.at h
   refine Bj (SqL.of e) eu ?_
   walk_at "r"
   refine Au qp Di ?_
   walk_at "r"
   rw [Zcv,hs]
   walk_at "r"
   exact q
  | @step n _ k _ h t =>
   obtain ⟨us,p,e,eu,qp⟩:=S.at h
   refine Bj (SqL.of e) eu ?_
   walk_at "r"
   refine Au qp Di ?_
   walk_at "r"
   rw [Zcv,show (Sh.same k).isSame=true from rfl]
   refine iteT ?_
   refine ⟨fun σ2 H2=>∃ m',m' < n+1/\H2=H'/\∃ j':Nat,σ2=[some (.ref a),some (.int (i:Nat)),some (.int (j':Nat))]/\LastN sh m' j' r,fun _ _ h=>h,?_⟩
   walk_at "r"
   refine Bj (SqL.of e) eu ?_
   walk_at "r"
   refine Au qp rfl ?_
   walk_at "r"
   exact ⟨n,by omega,rfl,k,rfl,t⟩
noncomputable def Ak (ns:List Nat):List V:=ns.map fun n=>V.int ((n:Nat):Int)
theorem Ft (a b:List Nat):Ak (a++b)=Ak a++Ak b:=by unfold Ak;exact P6 ..
noncomputable def DcN {α:Type}(kvs:List (Ap×V))(ps:Nat->Option α)(g:α->V):Prop:=∀ i:Nat,Bl kvs (.inl ((i:Nat):Int))=(ps i).map g
theorem Zce {i j:Nat}(h:(Sum.inl ((i:Nat):Int):Ap)=.inl ((j:Nat):Int)):i=j:=by have:=Uz h;omega
theorem DcN.put {α:Type}{kvs:List (Ap×V)}{ps:Nat->Option α}{g:α->V}(h:DcN kvs ps g)(i:Nat)(x:α):DcN (Bb kvs (.inl ((i:Nat):Int)) (g x)) (fun j=>if j=i then some x else ps j) g:=fun j=>by
 rw [F0]
 show _=Option.map g (if j=i then some x else ps j)
 by_cases hj:j=i
 ·rw [if_pos (by rw [hj]),if_pos hj]
  rfl
 ·rw [if_neg fun z=>hj (Zce z),if_neg hj]
  exact h j
theorem Ks {s:Sh}:Bz (V.str s.wd::s.parts.map fun n=>V.int ((n:Nat):Int)) (some 1) none=Ak s.parts:=by
 cases s <;> rfl
theorem Jz {s:Sh}:¬ (HT.sIx (V.str s.wd::s.parts.map fun n=>V.int ((n:Nat):Int)).length 0 (some 1)=0/\HT.sIx (V.str s.wd::s.parts.map fun n=>V.int ((n:Nat):Int)).length (V.str s.wd::s.parts.map fun n=>V.int ((n:Nat):Int)).length none=(V.str s.wd::s.parts.map fun n=>V.int ((n:Nat):Int)).length):=by
 rintro ⟨h,_⟩
 rw [show (1:Int)=((1:Nat):Int) from rfl,HT.sIx_nat,Pb] at h
 omega
theorem N9 (s:Sh):s.parts.length<=2:=by cases s <;> simp [Sh.parts]
theorem HoldsN.inv {sh:Ae}{n:Nat}{ps:Ps}{w:List Nat}{b:Bool}(h:HoldsN sh n ps w b):(w=[]/\b=false)\/(∃ w1 Ad x n',w=w1++[Ad]/\n=n'+1/\ps Ad=some x/\HoldsN sh n' (Bh ps Ad true) w1 b) \/
  ∃ w1 Ad s o n',w=w1++[Ad]/\n=n'+1/\ps Ad=none/\sh[Ad]?=some s/\Dy sh (Bh ps Ad false) s.parts (w1++[Ad]) o/\(o=none->b=true)/\∀ w',o=some w'->HoldsN sh n' (Bh ps Ad false) w' b:=by
 cases h with
 | nil=>exact .inl ⟨rfl,rfl⟩
 | seen h t=>exact .inr (.inl ⟨_,_,_,_,rfl,rfl,h,t⟩)
 | hit h hs hp=>exact .inr (.inr ⟨_,_,_,_,0,rfl,rfl,h,hs,hp,fun _=>rfl,fun _ e=>by cases e⟩)
 | go h hs hp t=>exact .inr (.inr ⟨_,_,_,_,_,rfl,rfl,h,hs,hp,fun e=>(by cases e),fun _ e=>by cases e;exact t⟩)
theorem Zdb {H:Hp}{x y:Addr}{us vs:List V}(h:H x=some (.lst us))(h':H y=some (.tup vs)):y≠x:=fun z=>by rw [z,h] at h';cases h'
noncomputable def Zcw (K:Oz):Sp:=fun vs H Q _=>∃(a:Addr)(sh:Ae)(i r N:Nat)(b:Bool),vs=[.ref a,.int (i:Nat)]/\ShG K H a sh/\Last sh i r/\HoldsN sh N (fun _=>none) [r] b/\N<=1000/\∀ H',Same H H'->Q (.bl b) H'
structure HoJ (K:Oz)(H:Hp)(pd pw:Addr)(N n:Nat)(ps:Ps)(w:List Nat)(H':Hp):Prop where
 ed:∃ kvs,H' pd=some (.dK kvs)/\DcN kvs ps V.bl/\kvs.length+n<=N
 ew:H' pw=some (.lst (Ak w))
 wl:w.length+2 * n<=1+2 * N
 sm:Same H H'
theorem sc_holds_itself:Bo ["shapes", "kind", "passed", "waiting", "top", "part", "inner"] ["shapes", "kind"] (Bg Iu):=by walk_at "sc"
theorem Zhv {f:Addr}{fd:FuncData}(F:Fun K "holds_itself" "holds_itself" Iu f fd)(T:Txt K mg)(C_last_same:A9 P w K mg base 1 "last_same" ["shapes", "kind"] (K8 K)):Bc P w K mg base Be 2 f fd ["shapes", "kind"] (Zcw K):=by
 refine F.okq sc_holds_itself (fun vs H Q E h=>?_) (fun cdv A outer s H vs Q E hr h=>?_)
 ·obtain ⟨a,sh,i,r,N,b,rfl,_⟩:=h
  rfl
 ·obtain ⟨a,sh,i,r,N,b,rfl,S,L,HN,hN,q⟩:=h
  refine ⟨_,Af (Av 2 sc_holds_itself (Ix))
   (Af (Av 3 sc_holds_itself (Ax (Aa (Ba C_last_same hr.m (Aa (qv 0) (Aa (qv 1) Ab))) Ab)))
   (Af (Hw Pq (F1 K (qv 3) (by intro _;rfl)) (Af (Av 4 sc_holds_itself (Am K (qv 3) (Il Iy Ah)))
   (Af (A7 (Hd (Zfg hr.u1 (qv 4) (qv 2))) (Af (E8 hr.u1 (qv 2) (qv 4) Ed)
   (Af (Cp (Kv K Pz T4 T6 Lc (qv 3)))
   (Ai (Zda)))) A8)
   (Af (E8 hr.u1 (qv 2) (qv 4) Ed)
   (Ai (Co Pq rfl (C9 K (Fb (Fv K) (Am K (qv 0) (qv 4)) (Eb Ah) (Fx))) (A4 (i:=5) sc_holds_itself.nd rfl (Or.inl rfl)) (Af (Av 6 sc_holds_itself (Ba C_last_same hr.m (Aa (qv 0) (Aa (qv 5) Ab))))
   (Af (A7 (Az Zka (Zm1 hr.u1 (qv 2) (qv 6)) Ed (Ay _)) (Ai (Ar Ed)) A8)
   (Ai (Cp (C0 K Pz Qe Qf De (qv 3) (Aa (qv 6) Ab))))))))))))
   (Ai (Ar Ed)))),?_⟩
  have bg:=big
  walk_at "r"
  refine fun pd hpd=>?_
  have s1:=Same.upd (o:=.dK []) hpd
  walk_at "r"
  refine ⟨a,sh,i,r,rfl,S.same s1,L,?_⟩
  walk_at "r"
  refine ⟨Bx,fun pw hpw=>?_⟩
  have s2:=Same.upd (o:=.lst [.int (r:Nat)]) hpw
  have nd:pd≠pw:=Aw Ac hpw
  have hpw0:=s1.free hpw
  walk_at "r"
  refine ⟨fun n σ' H'=>∃ v4 v5 v6 ps w,σ'=[some (.ref a),some (.int (i:Nat)),some (.ref pd),some (.ref pw),v4,v5,v6]/\HoJ K H pd pw N n ps w H'/\HoldsN sh n ps w b,
   ⟨N,none,none,none,fun _=>none,[r],rfl,⟨⟨[],s2 _ _ Ac,fun _=>rfl,by simp⟩,Ac,by simp,s1.trans s2⟩,HN⟩,?_⟩
  rintro n σ' H1 ⟨v4,v5,v6,ps,w0,rfl,J,hh⟩
  obtain ⟨kvs,ed,dc,kl⟩:=J.ed
  have ew:=J.ew
  have wl:=J.wl
  have sm:=J.sm
  walk_at "r"
  refine Fy (SqL.of ew) ?_
  have turn:∀(w':List Nat)(Ad:Nat),w0=w'++[Ad]->(!(Ak w0).isEmpty)=true/\Ak w0=Ak w'++[.int (Ad:Nat)]:=fun w' Ad e=>by
   have:Ak w0=Ak w'++[.int (Ad:Nat)]:=by rw [e,Ft];rfl
   exact ⟨by rw [this];simp,this⟩
  rcases hh.inv with ⟨rfl,rfl⟩ | ⟨w1,Ad,x,n,rfl,rfl,h,t⟩ | ⟨w1,Ad,s,o,n,rfl,rfl,h,hs,hp,ho,hgo⟩
  ·refine iteF ?_
   walk_at "r"
   exact q _ sm
  ·obtain ⟨e1,e2⟩:=turn w1 Ad rfl
   rw [e1]
   rw [e2] at ew
   refine iteT ?_
   refine ⟨fun σ2 H2=>∃ m',m' < n+1/\∃ v4 v5 v6 ps w,σ2=[some (.ref a),some (.int (i:Nat)),some (.ref pd),some (.ref pw),v4,v5,v6]/\HoJ K H pd pw N m' ps w H2/\HoldsN sh m' ps w b,fun _ _ h=>h,?_⟩
   walk_at "r"
   refine Bj (SqL.of ew) (Ht _ _) ?_
   walk_at "r"
   refine ⟨pd,_,rfl,DGet.k (k:=.inl ((Ad:Nat):Int)) ed,?_⟩
   rw [dc Ad,h]
   refine ⟨true,rfl,?_⟩
   walk_at "r"
   refine ⟨pd,_,rfl,DPut.k (k:=.inl ((Ad:Nat):Int)) ed (by omega),?_⟩
   walk_at "r"
   have ew2:upd H1 pd (.dK (Bb kvs (.inl ((Ad:Nat):Int)) (.bl true))) pw=some (.lst (Ak w1++[.int (Ad:Nat)])):=by rw [Ag nd.symm];exact ew
   refine B5 (SqL.of ew2) ?_
   refine Lh ew2 ?_
   have hl:=Dq kvs (.inl ((Ad:Nat):Int)) (.bl true)
   rw [O7,Pr] at wl
   exact ⟨n,by omega,_,_,_,Bh ps Ad true,w1,rfl,⟨⟨_,by rw [Ag nd];exact Ac,dc.put Ad true,by omega⟩,Ac,by omega,(sm.over hpd).over hpw0⟩,t⟩
  ·obtain ⟨e1,e2⟩:=turn w1 Ad rfl
   rw [e1]
   have ew0:=ew
   rw [e2] at ew
   refine iteT ?_
   refine ⟨fun σ2 H2=>∃ m',m' < n+1/\∃ v4 v5 v6 ps w,σ2=[some (.ref a),some (.int (i:Nat)),some (.ref pd),some (.ref pw),v4,v5,v6]/\HoJ K H pd pw N m' ps w H2/\HoldsN sh m' ps w b,fun _ _ h=>h,?_⟩
   walk_at "r"
   refine Bj (SqL.of ew) (Ht _ _) ?_
   walk_at "r"
   refine ⟨pd,_,rfl,DGet.k (k:=.inl ((Ad:Nat):Int)) ed,?_⟩
   rw [dc Ad,h]
   refine ⟨false,rfl,?_⟩
   walk_at "r"
   refine ⟨pd,_,rfl,DPut.k (k:=.inl ((Ad:Nat):Int)) ed (by omega),?_⟩
   have hl:=Dq kvs (.inl ((Ad:Nat):Int)) (.bl false)
   have dc2:DcN (Bb kvs (.inl ((Ad:Nat):Int)) (.bl false)) (Bh ps Ad false) V.bl:=dc.put Ad false
   have ed2:upd H1 pd (.dK (Bb kvs (.inl ((Ad:Nat):Int)) (.bl false))) pd=some (.dK (Bb kvs (.inl ((Ad:Nat):Int)) (.bl false))):=Ac
   have ew2:upd H1 pd (.dK (Bb kvs (.inl ((Ad:Nat):Int)) (.bl false))) pw=some (.lst (Ak (w1++[Ad]))):=by rw [Ag nd.symm];exact ew0
   have sm2:Same H (upd H1 pd (.dK (Bb kvs (.inl ((Ad:Nat):Int)) (.bl false)))):=sm.over hpd
   revert ed2 ew2 sm2
   generalize upd H1 pd (.dK (Bb kvs (.inl ((Ad:Nat):Int)) (.bl false)))=H2
   generalize Bb kvs (.inl ((Ad:Nat):Int)) (.bl false)=kv2 at hl dc2
   intro ed2 ew2 sm2
   obtain ⟨us,p,e,eu,qp⟩:=(S.same sm2).at hs
   walk_at "r"
   refine Bj (SqL.of e) eu ?_
   walk_at "r"
   refine .inr (.inr ⟨p,_,rfl,qp,Jz,fun p3 h3=>?_⟩)
   rw [Ks]
   have s3:=Same.upd (o:=.tup (Ak s.parts)) h3
   refine .inr (.inl ⟨p3,rfl,⟨_,SqT.of Ac⟩,?_⟩)
   have hpl:=N9 s
   rw [O7,Pr] at wl
   refine Zeu (K:=K) (a:=p3) (xs:=Ak s.parts) (fun j σ' H'=>∃ v5 v6 wj,σ'=[some (.ref a),some (.int (i:Nat)),some (.ref pd),some (.ref pw),some (.int (Ad:Nat)),v5,v6]/\H' pd=some (.dK kv2)/\H' pw=some (.lst (Ak wj))/\wj.length=w1.length+1+j/\Same H H'/\H' p3=some (.tup (Ak s.parts))/\Dy sh (Bh ps Ad false) (s.parts.drop j) wj o)
    ⟨_,_,w1++[Ad],rfl,s3 _ _ ed2,s3 _ _ ew2,by simp,sm2.trans s3,Ac,hp⟩ ?_ ?_ ?_
   ·rintro j σ' H' _ ⟨_,_,_,_,_,_,_,_,e,_⟩
    exact SqT.of e
   ·rintro j x σ' H3 hx ⟨v5',v6',wj,rfl,ed3,ew3,lw,sm3,ep3,hpu⟩
    have hj:j < s.parts.length:=by have:=(Pa.mp hx).1;unfold Ak at this;rwa [O6] at this
    have hxv:x=.int ((s.parts[j]:Nat):Int):=by unfold Ak at hx;rw [Po,O1 hj] at hx;exact (Pg hx).symm
    subst hxv
    rw [Q9 hj] at hpu
    have hmem:∃ r2,Last sh s.parts[j] r2/\((Bh ps Ad false r2=some false/\o=none)\/(Bh ps Ad false r2≠some false/\Dy sh (Bh ps Ad false) (s.parts.drop (j+1)) (wj++[r2]) o)):=by
     cases hpu with
     | hit h1 h2=>exact ⟨_,h1,.inl ⟨h2,rfl⟩⟩
     | go h1 h2 t=>exact ⟨_,h1,.inr ⟨h2,t⟩⟩
    obtain ⟨r2,hL2,hc⟩:=hmem
    walk_at "r"
    refine ⟨a,sh,s.parts[j],r2,rfl,S.same sm3,hL2,?_⟩
    walk_at "r"
    refine ⟨pd,rfl,.inl ⟨_,.inl ed3⟩,?_⟩
    walk_at "r"
    refine ⟨_,DGet.k (k:=.inl ((r2:Nat):Int)) ed3,?_⟩
    rw [dc2 r2]
    rcases hc with ⟨h1,h2⟩ | ⟨h1,h2⟩
    ·rw [h1]
     walk_at "r"
     rw [show (decide ((Option.map V.bl (some false)).getD V.non=V.bl false))=true from rfl]
     walk_at "r"
     have:=ho h2
     subst this
     exact q _ sm3
    ·have hd:decide (((Bh ps Ad false r2).map V.bl).getD .non=V.bl false)=false:=by
      generalize Bh ps Ad false r2=z at h1
      match z,h1 with
      | none,_=>rfl
      | some true,_=>rfl
      | some false,h=>exact absurd rfl h
     walk_at "r"
     rw [hd]
     walk_at "r"
     refine B5 (SqL.of ew3) ?_
     walk_at "r"
     have hwl:(Ak wj).length < sizeLine:=by unfold Ak;rw [O6];omega
     refine C3 ew3 hwl ?_
     refine ⟨_,_,wj++[r2],rfl,by rw [Ag nd];exact ed3,by rw [Ac,Ft];rfl,by simp [lw];omega,sm3.over hpw0,by rw [Ag (Zdb ew3 ep3)];exact ep3,h2⟩
   ·rintro σ' H3 ⟨v5',v6',wj,rfl,ed3,ew3,lw,sm3,ep3,hpu⟩
    have e9:(Ak s.parts).length=s.parts.length:=by unfold Ak;exact O6 ..
    rw [e9,Vp] at hpu
    cases hpu
    refine ⟨n,by omega,_,_,_,Bh ps Ad false,wj,rfl,⟨⟨kv2,ed3,dc2,by omega⟩,ew3,by omega,sm3⟩,hgo wj rfl⟩
theorem ShG.off {H:Hp}{a x:Addr}{sh:Ae}{zs:List V}{o:HO}(h:ShG K H a sh)(n:a≠x)(e:H x=some (.lst zs)):ShG K (upd H x o) a sh:=by
 obtain ⟨us,e1,al⟩:=h.ex
 exact ⟨us,by rw [Ag n];exact e1,al.mono (ShE.same (SameT.set e))⟩
theorem ShG.set {H:Hp}{a p:Addr}{sh:Ae}{us:List V}{i:Nat}{s:Sh}(e:H a=some (.lst us))(al:Al (ShE K H) us sh)(hp:SqT K H p (shV s)):ShG K (upd H a (.lst (us.set i (.ref p)))) a (sh.set i s):=by
 have st:SameT H (upd H a (.lst (us.set i (.ref p)))):=SameT.set e
 refine ⟨us.set i (.ref p),Ac,by rw [P8,P8];exact al.1,fun k u x hu hx=>?_⟩
 by_cases hki:k=i
 ·subst hki
  have hl:=(Pa.mp hu).1
  rw [P8] at hl
  rw [Rk hl] at hu
  rw [Rk (by rw [<- al.1];exact hl)] at hx
  have hu:V.ref p=u:=by simpa using hu
  have hx:s=x:=by simpa using hx
  subst hx
  exact ⟨p,hu.symm,st.tup hp⟩
 ·rw [T7 (fun z=>hki z.symm)] at hu hx
  exact ShE.same st _ _ (al.2 k u x hu hx)
noncomputable def PaAt (K:Oz)(H:Hp)(v:V)(x:Nat×Nat):Prop:=∃ a,v=.ref a/\SqT K H a [.int (x.1:Nat),.int (x.2:Nat)]
theorem PaAt.same {H H':Hp}(e:SameT H H')(v:V)(x:Nat×Nat)(h:PaAt K H v x):PaAt K H' v x:=let ⟨a,e1,q⟩:=h;⟨a,e1,e.tup q⟩
noncomputable def Zax (m:Ae)(g a:Nat):Option Ae->Prop
 | none=>(∃ n,n<=1000/\JoinN n m [(g,a)] none)\/∃ n k r m1,n<=1000/\JoinN n m [(g,a)] (some m1)/\Last m1 g r/\HoldsN m1 k (fun _=>none) [r] true/\k<=1000
 | some m1=>∃ n k r,n<=1000/\JoinN n m [(g,a)] (some m1)/\Last m1 g r/\HoldsN m1 k (fun _=>none) [r] false/\k<=1000
noncomputable def Zem (K:Oz):Sp:=fun vs H Q _=>∃(a:Addr)(sh:Ae)(i j:Nat)(o:Option Ae),vs=[.ref a,.int (i:Nat),.int (j:Nat)]/\ShG K H a sh/\Zax sh i j o /\
 (∀ a' m1 H',o=some m1->Same H H'->H a'=none->ShG K H' a' m1->Q (.ref a') H')/\(∀ H',o=none->Same H H'->Q .non H')
theorem Gs (s:Sh):decide (V.str s.wd=V.str "any")=decide (s=.any):=by
 cases s with
 | to a b=>exact (by decide:decide (V.str "to" = V.str "any")=false)
 | same k=>exact (by decide:decide (V.str "same" = V.str "any")=false)
 | _=>decide
theorem Oh (s:Sh):decide (V.str s.wd=V.str "to")=decide (s.wd = "to"):=by
 by_cases h:s.wd = "to"
 ·rw [h];decide
 ·rw [decide_eq_false h,decide_eq_false (fun e=>h (by injection e))]
theorem Zat {s:Sh}(h:s.wd = "to"):∃ a b,s=.to a b:=by
 cases s with
 | to a b=>exact ⟨a,b,rfl⟩
 | num=>exact absurd h (by decide)
 | truth=>exact absurd h (by decide)
 | any=>exact absurd h (by decide)
 | same k=>exact absurd h (by show ¬ (("same" : Str) = "to");decide)
theorem Zia {α:Type}{R:V->α->Prop}{vs us:List V}{xs ys:List α}(h:Al R vs xs)(h2:Al R us ys):Al R (vs++us) (xs++ys):=by
 refine ⟨by rw [O7,O7,h.1,h2.1],fun j v x e1 e2=>?_⟩
 by_cases hj:j < vs.length
 ·rw [Py hj] at e1
  rw [Py (by rw [<- h.1];exact hj)] at e2
  exact h.2 j v x e1 e2
 ·rw [Px (by omega)] at e1
  rw [Px (by rw [<- h.1];omega),<- h.1] at e2
  exact h2.2 _ v x e1 e2
structure JoJ (K:Oz)(H:Hp)(am pw:Addr)(N n:Nat)(m:Ae)(w:List (Nat×Nat))(H':Hp):Prop where
 sh:ShG K H' am m
 ew:∃ wv,H' pw=some (.lst wv)/\Al (PaAt K H') wv w
 wl:w.length+n<=1+N
 sm:Same H H'
theorem JoinN.inv {n:Nat}{m:Ae}{w:List (Nat×Nat)}{o:Option Ae}(h:JoinN n m w o):(w=[]/\o=some m)\/∃ w1 p l r,w=w1++[p]/\Last m p.1 l/\Last m p.2 r/\((l=r/\∃ n',n=n'+1/\JoinN n' m w1 o)\/(l≠r/\∃ sl sr,m[l]?=some sl/\m[r]?=some sr /\
  ((sr=.any/\∃ n',n=n'+1/\JoinN n' (m.set r (.same l)) w1 o)\/(sr≠.any/\sl=.any/\∃ n',n=n'+1/\JoinN n' (m.set l (.same r)) w1 o)\/(∃ a b c d n',sl=.to a b/\sr=.to c d/\n=n'+1/\JoinN n' (m.set l (.same r)) (w1++[(a,c),(b,d)]) o) \/
   (sl≠.any/\sr≠.any/\(sl.wd ≠ "to" \/ sr.wd ≠ "to")/\o=none)))):=by
 cases h with
 | nil=>exact .inl ⟨rfl,rfl⟩
 | eq h1 h2 t=>exact .inr ⟨_,_,_,_,rfl,h1,h2,.inl ⟨rfl,_,rfl,t⟩⟩
 | @anyR _ _ _ _ l r _ h1 h2 ne hr t =>
  obtain ⟨sl,hl,_⟩:=h1.at
  exact .inr ⟨_,_,_,_,rfl,h1,h2,.inr ⟨ne,sl,.any,hl,hr,.inl ⟨rfl,_,rfl,t⟩⟩⟩
 | anyL h1 h2 ne hr hn hl t=>exact .inr ⟨_,_,_,_,rfl,h1,h2,.inr ⟨ne,_,_,hl,hr,.inr (.inl ⟨hn,rfl,_,rfl,t⟩)⟩⟩
 | to h1 h2 ne hl hr t=>exact .inr ⟨_,_,_,_,rfl,h1,h2,.inr ⟨ne,_,_,hl,hr,.inr (.inr (.inl ⟨_,_,_,_,_,rfl,rfl,rfl,t⟩))⟩⟩
 | clash h1 h2 ne hl hr nl nr nt=>exact .inr ⟨_,_,_,_,rfl,h1,h2,.inr ⟨ne,_,_,hl,hr,.inr (.inr (.inr ⟨nl,nr,nt,rfl⟩))⟩⟩
theorem sc_joined:Bo ["shapes", "one", "other", "made", "waiting", "pair", "left", "right"] ["shapes", "one", "other"] (Bg Jb):=by walk_at "sc"
theorem Zn8 {f:Addr}{fd:FuncData}(F:Fun K "joined" "joined" Jb f fd)(T:Txt K mg)(C_last_same:A9 P w K mg base 1 "last_same" ["shapes", "kind"] (K8 K))(C_holds_itself:A9 P w K mg base 2 "holds_itself" ["shapes", "kind"] (Zcw K)):Bc P w K mg base Be 3 f fd ["shapes", "one", "other"] (Zem K):=by
 refine F.okq sc_joined (fun vs H Q E h=>?_) (fun cdv A outer s H vs Q E hr h=>?_)
 ·obtain ⟨a,sh,i,j,o,rfl,_⟩:=h
  rfl
 ·obtain ⟨a,sh,i,j,o,rfl,S,hJ,q,qn⟩:=h
  refine ⟨_,Af (Av 3 sc_joined (F4 (Oo K) (by rfl) T.list (by decide +kernel) (Aa (qv 0) Ab)))
   (Af (Av 4 sc_joined (Ax (Aa (Ao (Aa (qv 1) (Aa (qv 2) Ab))) Ab)))
   (Af (Hw Pq (F1 K (qv 4) (by intro _;rfl)) (Af (Av 5 sc_joined (Kv K Pz T4 T6 Lc (qv 4)))
   (Af (Zaw (i:=6) (j:=7) rfl sc_joined.nd rfl rfl (by decide) rfl rfl (Aa (Ba C_last_same hr.m (Aa (qv 3) (Aa (Am K (qv 5) Ah) Ab))) (Aa (Ba C_last_same hr.m (Aa (qv 3) (Aa (Am K (qv 5) Ah) Ab))) Ab)))
   (Af (A7 (Az (B3 K hr.u200) (qv 6) (qv 7) (Ay _)) (Ai (Zda)) A8)
   (Af (A7 (Az (B3 K hr.u200) (Am K (Am K (qv 3) (qv 7)) Ah) Aq (Ay _)) (Ai (Zaw (i:=6) (j:=7) rfl sc_joined.nd rfl rfl (by decide) rfl rfl (Aa (qv 7) (Aa (qv 6) Ab)))) A8)
   (Af (A7 (QW.qt (F6 (Az (B3 K hr.u200) (Am K (Am K (qv 3) (qv 6)) Ah) Aq (Ay _)) (F2 (Az (B3 K hr.u200) (Am K (Am K (qv 3) (qv 7)) Ah) Aq (Ay _))))) (Ai (Cp (C0 K Pz PySem.F.slot_list_extend PySem.F.type_list_extend Zqa (qv 4) (Aa (Zns true K (by rfl) T.list (by rfl) T.zip (Aa (Fb (Fv K) (Am K (qv 3) (qv 6)) (Eb Ah) (Fx)) (Aa (Fb (Fv K) (Am K (qv 3) (qv 7)) (Eb Ah) (Fx)) Ab))) Ab)))) (Ai (A7 (Az (Od K hr.u200) (Am K (Am K (qv 3) (qv 6)) Ah) Aq (Ay _)) (Ai (Ar Fo)) A8)))
   (Ai (Ga (Ao (Aa Aq (Aa (qv 7) Ab))) (Zps (qv 3) (qv 6) Zij)))))))))
   (Ai (Ar (K6 (Ki (Ba C_holds_itself hr.m (Aa (qv 3) (Aa (qv 1) Ab)))) Fo (qv 3)))))),?_⟩
  have bg:=big
  obtain ⟨N,oj,hN,hJN,hfin,hno⟩:∃ N oj,N<=1000/\JoinN N sh [(i,j)] oj/\(∀ m1,oj=some m1->∃ k r b,Last m1 i r/\HoldsN m1 k (fun _=>none) [r] b/\k<=1000/\o=cond b none (some m1))/\(oj=none->o=none):=by
   cases o with
   | none =>
    rcases hJ with ⟨n,h1,h2⟩ | ⟨n,k,r,m1,h1,h2,h3,h4,h5⟩
    ·exact ⟨n,none,h1,h2,(fun m1 e=>by cases e),fun _=>rfl⟩
    ·exact ⟨n,some m1,h1,h2,(fun m2 e=>by cases e;exact ⟨k,r,true,h3,h4,h5,rfl⟩),fun e=>by cases e⟩
   | some m1 =>
    obtain ⟨n,k,r,h1,h2,h3,h4,h5⟩:=hJ
    exact ⟨n,some m1,h1,h2,(fun m2 e=>by cases e;exact ⟨k,r,false,h3,h4,h5,rfl⟩),fun e=>by cases e⟩
  obtain ⟨us,ea,ala⟩:=S.ex
  walk_at "r"
  refine ⟨a,us,rfl,.inl (SqL.of ea),fun am ham=>?_⟩
  have s1:=Same.upd (o:=.lst us) ham
  have S1:ShG K (upd H am (.lst us)) am sh:=⟨us,Ac,ala.mono (ShE.same s1.t)⟩
  have em1:upd H am (.lst us) am=some (.lst us):=Ac
  revert s1 S1 em1
  generalize upd H am (.lst us)=H1
  intro s1 S1 em1
  walk_at "r"
  refine ⟨A5,fun pt hpt=>?_⟩
  walk_at "r"
  refine ⟨Bx,fun pw hpw=>?_⟩
  walk_at "r"
  have s2:=Same.upd (o:=.tup [.int (i:Nat),.int (j:Nat)]) hpt
  have s3:=Same.upd (o:=.lst [.ref pt]) hpw
  have npw:am≠pw:=Aw (s2 _ _ em1) hpw
  have hpw0:H pw=none:=(s1.trans s2).free hpw
  have ham0:H am=none:=ham
  refine ⟨fun n σ' H'=>∃ v5 v6 v7 m w,σ'=[some (.ref a),some (.int (i:Nat)),some (.int (j:Nat)),some (.ref am),some (.ref pw),v5,v6,v7]/\JoJ K H am pw N n m w H'/\JoinN n m w oj,
   ⟨N,none,none,none,sh,[(i,j)],rfl,⟨S1.same (s2.trans s3),⟨_,Ac,Al.nil.snoc ⟨pt,rfl,SqT.of (s3 _ _ Ac)⟩⟩,by simp,(s1.trans s2).trans s3⟩,hJN⟩,?_⟩
  rintro n σ' H2 ⟨v5,v6,v7,m,w0,rfl,J,hh⟩
  obtain ⟨wv,ew,alw⟩:=J.ew
  walk_at "r"
  refine Fy (SqL.of ew) ?_
  rcases hh.inv with ⟨rfl,ho⟩ | ⟨w1,pp,l,r,rfl,hl,hr2,hcase⟩
  ·have hwv:wv=[]:=Q1 alw.1
   subst hwv
   refine iteF ?_
   obtain ⟨k,r,b,h1,h2,h3,h4⟩:=hfin m ho
   walk_at "r"
   refine ⟨am,m,i,r,k,b,rfl,J.sh,h1,h2,h3,fun H3 s3=>?_⟩
   cases b with
   | true =>
    walk_at "r"
    exact qn H3 h4 (J.sm.trans s3)
   | false =>
    walk_at "r"
    exact q am m H3 h4 (J.sm.trans s3) ham0 (J.sh.same s3)
  obtain ⟨wv',pv,w1',p',rfl,ee,alw',hpv⟩:=alw.last (fun z=>by rw [z] at alw;have:=alw.1;simp at this)
  obtain ⟨rfl,e2⟩:=Q7 ee rfl
  cases e2
  obtain ⟨pq,rfl,qpq⟩:=hpv
  rw [show (!(wv'++[V.ref pq]).isEmpty)=true by simp]
  refine iteT ?_
  refine ⟨fun σ2 H2=>∃ m',m' < n/\∃ v5 v6 v7 m w,σ2=[some (.ref a),some (.int (i:Nat)),some (.int (j:Nat)),some (.ref am),some (.ref pw),v5,v6,v7]/\JoJ K H am pw N m' m w H2/\JoinN m' m w oj,fun _ _ h=>h,?_⟩
  have wl:=J.wl
  rw [O7,Pr] at wl
  walk_at "r"
  refine B5 (SqL.of ew) ?_
  refine Lh ew ?_
  have ew3:upd H2 pw (.lst wv') pw=some (.lst wv'):=Ac
  have S3:=J.sh.off (o:=.lst wv') npw ew
  have sm3:=J.sm.over (o:=.lst wv') hpw0
  have t3:=SameT.set (o:=.lst wv') ew
  have q3:=t3.tup qpq
  have al3:=alw'.mono (PaAt.same t3)
  revert ew3 S3 sm3 q3 al3
  generalize upd H2 pw (.lst wv')=H3
  intro ew3 S3 sm3 q3 al3
  walk_at "r"
  refine Au q3 rfl ?_
  walk_at "r"
  refine ⟨am,m,pp.1,l,rfl,S3,hl,?_⟩
  walk_at "r"
  refine Au q3 rfl ?_
  walk_at "r"
  refine ⟨am,m,pp.2,r,rfl,S3,hr2,?_⟩
  refine ⟨_,_,rfl,?_⟩
  walk_at "r"
  rcases hcase with ⟨rfl,n',rfl,t⟩ | ⟨ne,sl,sr,esl,esr,hc⟩
  ·rw [decide_eq_true (Eq.refl _)]
   walk_at "r"
   exact ⟨n',by omega,_,_,_,m,w1,rfl,⟨S3,⟨wv',ew3,al3⟩,by omega,sm3⟩,t⟩
  rw [decide_eq_false (show ¬ V.int ((l:Nat):Int)=V.int ((r:Nat):Int) from fun z=>ne (by injection z with z;omega))]
  refine iteF ?_
  with_reducible refine s_next ?_
  walk_at "q"
  refine Ip (R:=fun σ' H'=>H'=H3/\∃ x y sx sy,σ'=[some (.ref a),some (.int (i:Nat)),some (.int (j:Nat)),some (.ref am),some (.ref pw),some (.ref pq),some (.int (x:Nat)),some (.int (y:Nat))]/\m[x]?=some sx/\m[y]?=some sy/\((sx=.any/\∃ n',n=n'+1/\JoinN n' (m.set x (.same y)) w1 oj)\/(∃ a b c d n',sx=.to a b/\sy=.to c d/\n=n'+1/\JoinN n' (m.set x (.same y)) (w1++[(a,c),(b,d)]) oj)\/(sx≠.any/\(sx.wd ≠ "to" \/ sy.wd ≠ "to")/\oj=none))) ?_ ?_
  ·intro Y hY
   obtain ⟨us5,pr,e5,eur,qr⟩:=S3.at esr
   walk_at "r"
   refine Bj (SqL.of e5) eur ?_
   walk_at "r"
   refine Au qr Di ?_
   walk_at "r"
   rw [Gs]
   rcases hc with ⟨rfl,n',rfl,t⟩ | ⟨hn,rfl,n',rfl,t⟩ | ⟨a1,b1,c1,d1,n',rfl,rfl,rfl,t⟩ | ⟨nl,nr,nt,rfl⟩
   ·rw [decide_eq_true (Eq.refl Sh.any)]
    walk_at "r"
    refine ⟨_,_,rfl,?_⟩
    exact hY _ _ ⟨rfl,r,l,.any,sl,rfl,esr,esl,.inl ⟨rfl,n',rfl,t⟩⟩
   ·rw [decide_eq_false hn]
    walk_at "r"
    exact hY _ _ ⟨rfl,l,r,.any,sr,rfl,esl,esr,.inl ⟨rfl,n',rfl,t⟩⟩
   ·rw [decide_eq_false (fun e=>by cases e)]
    walk_at "r"
    exact hY _ _ ⟨rfl,l,r,_,_,rfl,esl,esr,.inr (.inl ⟨a1,b1,c1,d1,n',rfl,rfl,rfl,t⟩)⟩
   ·rw [decide_eq_false nr]
    walk_at "r"
    exact hY _ _ ⟨rfl,l,r,sl,sr,rfl,esl,esr,.inr (.inr ⟨nl,nt,rfl⟩)⟩
  rintro _ _ ⟨rfl,x,y,sx,sy,rfl,hx,hy,hc⟩
  obtain ⟨us3,em3,alm3⟩:=S3.ex
  obtain ⟨us4,px,e4,eux,qx⟩:=S3.at hx
  obtain ⟨us5,py,e5,euy,qy⟩:=S3.at hy
  rw [em3] at e4 e5
  cases e4
  cases e5
  have hxl:x < us3.length:=by rw [alm3.1];exact (Pa.mp hx).1
  walk_at "r"
  refine Bj (SqL.of em3) eux ?_
  walk_at "r"
  refine Au qx Di ?_
  walk_at "r"
  rw [Oh]
  rcases hc with ⟨rfl,n',rfl,t⟩ | ⟨a1,b1,c1,d1,n',rfl,rfl,rfl,t⟩ | ⟨nl,nt,ho⟩
  ·rw [show decide (Sh.any.wd = "to")=false by decide]
   walk_at "r"
   refine Bj (SqL.of em3) eux ?_
   walk_at "r"
   refine Au qx Di ?_
   walk_at "r"
   rw [Gs,decide_eq_true (Eq.refl Sh.any)]
   walk_at "r"
   refine ⟨A5,fun p7 h7=>?_⟩
   have s7:=Same.upd (o:=.tup [.str "same",.int (y:Nat)]) h7
   walk_at "r"
   refine Zfs (j:=x) (s7 _ _ em3) (by unfold C7;simp [hxl]) ?_
   refine ⟨n',by omega,_,_,_,m.set x (.same y),w1,rfl,⟨ShG.set (s7 _ _ em3) (alm3.mono (ShE.same s7.t)) (SqT.of Ac),⟨wv',by rw [Ag npw.symm];exact s7 _ _ ew3,(al3.mono (PaAt.same s7.t)).mono (PaAt.same (SameT.set (s7 _ _ em3)))⟩,by omega,(sm3.trans s7).over ham0⟩,t⟩
  ·rw [show decide ((Sh.to a1 b1).wd = "to")=true from rfl]
   walk_at "r"
   refine Bj (SqL.of em3) euy ?_
   walk_at "r"
   refine Au qy Di ?_
   walk_at "r"
   rw [Oh,show decide ((Sh.to c1 d1).wd = "to")=true from rfl]
   walk_at "r"
   refine B5 (SqL.of ew3) ?_
   walk_at "r"
   refine Bj (SqL.of em3) eux ?_
   walk_at "r"
   refine .inr (.inr ⟨px,_,rfl,qx,Jz,fun p4 h4=>?_⟩)
   rw [Ks]
   have s4:=Same.upd (o:=.tup (Ak (Sh.to a1 b1).parts)) h4
   walk_at "r"
   refine Bj (SqL.of (s4 _ _ em3)) euy ?_
   walk_at "r"
   refine .inr (.inr ⟨py,_,rfl,s4.tup qy,Jz,fun p5 h5=>?_⟩)
   rw [Ks]
   have s5:=Same.upd (o:=.tup (Ak (Sh.to c1 d1).parts)) h5
   walk_at "r"
   refine ⟨p4,p5,_,_,rfl,s5.tup (SqT.of Ac),SqT.of Ac,fun zl zs H6 hzl s6 lz hz ezl=>?_⟩
   have s46:=(s4.trans s5).trans s6
   walk_at "r"
   have lz:zs.length=2:=lz
   have hwl:wv'.length<=2000:=by rw [al3.1];omega
   refine Zoj (s46 _ _ ew3) ezl (by omega) ?_
   have nz:pw≠zl:=Aw ((s4.trans s5) _ _ ew3) hzl
   have alz:Al (PaAt K H6) zs [(a1,c1),(b1,d1)]:=by
    refine ⟨lz,fun k v x e1 e2=>?_⟩
    obtain ⟨tt,x1,y1,rfl,h1,h2,h3⟩:=hz k v e1
    match k,e2,h1,h2 with
    | 0,e2,h1,h2=>cases e2;cases h1;cases h2;exact ⟨tt,rfl,SqT.of h3⟩
    | 1,e2,h1,h2=>cases e2;cases h1;cases h2;exact ⟨tt,rfl,SqT.of h3⟩
   have ew7:upd H6 pw (.lst (wv'++zs)) pw=some (.lst (wv'++zs)):=Ac
   have t7:=SameT.set (o:=.lst (wv'++zs)) (s46 _ _ ew3)
   have em7:upd H6 pw (.lst (wv'++zs)) am=some (.lst us3):=by rw [Ag npw];exact s46 _ _ em3
   have al7:Al (PaAt K (upd H6 pw (.lst (wv'++zs)))) (wv'++zs) (w1++[(a1,c1),(b1,d1)]):=Zia ((al3.mono (PaAt.same s46.t)).mono (PaAt.same t7)) (alz.mono (PaAt.same t7))
   have alm7:=(alm3.mono (ShE.same s46.t)).mono (ShE.same t7)
   have sm7:Same H (upd H6 pw (.lst (wv'++zs))):=(sm3.trans s46).over hpw0
   revert ew7 em7 al7 alm7 sm7
   generalize upd H6 pw (.lst (wv'++zs))=H7
   intro ew7 em7 al7 alm7 sm7
   walk_at "r"
   refine ⟨A5,fun p8 h8=>?_⟩
   have s8:=Same.upd (o:=.tup [.str "same",.int (y:Nat)]) h8
   walk_at "r"
   refine Zfs (j:=x) (s8 _ _ em7) (by unfold C7;simp [hxl]) ?_
   refine ⟨n',by omega,_,_,_,m.set x (.same y),w1++[(a1,c1),(b1,d1)],rfl,⟨ShG.set (s8 _ _ em7) (alm7.mono (ShE.same s8.t)) (SqT.of Ac),⟨_,by rw [Ag npw.symm];exact s8 _ _ ew7,(al7.mono (PaAt.same s8.t)).mono (PaAt.same (SameT.set (s8 _ _ em7)))⟩,by simp;omega,(sm7.trans s8).over ham0⟩,t⟩
  ·by_cases hxt:sx.wd = "to"
   ·have hyt:sy.wd ≠ "to" := nt.resolve_left fun h=>h hxt
    rw [decide_eq_true hxt]
    walk_at "r"
    refine Bj (SqL.of em3) euy ?_
    walk_at "r"
    refine Au qy Di ?_
    walk_at "r"
    rw [Oh,decide_eq_false hyt]
    walk_at "r"
    refine Bj (SqL.of em3) eux ?_
    walk_at "r"
    refine Au qx Di ?_
    walk_at "r"
    rw [Gs,decide_eq_false nl]
    walk_at "r"
    exact qn _ (hno ho) sm3
   ·rw [decide_eq_false hxt]
    walk_at "r"
    refine Bj (SqL.of em3) eux ?_
    walk_at "r"
    refine Au qx Di ?_
    walk_at "r"
    rw [Gs,decide_eq_false nl]
    walk_at "r"
    exact qn _ (hno ho) sm3
inductive Ij:List (Nat×Nat)->Ae->List Bool->Ae->Prop where
 | nil {m:Ae}:Ij [] m [] m
 | cons {g a:Nat} {m m':Ae} {o:Option Ae} {ps:List (Nat×Nat)} {fs:List Bool} (j:Zax m g a o) (t:Ij ps (o.getD m) fs m'):Ij ((g,a)::ps) m (o.isSome::fs) m'
theorem FitG.o {ps:List (Nat×Nat)}{m m':Ae}{fs:List Bool}(h:FitG ps m fs m'):Ij ps m fs m':=by
 induction h with
 | nil=>exact .nil
 | ok j hn l h hk _ ih=>exact .cons (o:=some _) ⟨_,_,_,hn,j,l,h,hk⟩ ih
 | clash j hn _ ih=>exact .cons (o:=none) (.inl ⟨_,hn,j⟩) ih
 | loop j hn l h hk _ ih=>exact .cons (o:=none) (.inr ⟨_,_,_,_,hn,j,l,h,hk⟩) ih
noncomputable def Zch (K:Oz):Sp:=fun vs H Q _=>∃(a b:Addr)(m m':Ae)(pv:List V)(ps:List (Nat×Nat))(fs:List Bool),vs=[.ref a,.ref b]/\ShG K H a m/\H b=some (.lst pv)/\Al (PaAt K H) pv ps/\FitG ps m fs m'/\ps.length<=1000 /\
 ∀ r a' c H',Same H H'->SqT K H' r [.ref a',.ref c]->H' c=some (.lst (fs.map V.bl))->ShG K H' a' m'->Q (.ref r) H'
theorem sc_fitted:Bo ["shapes", "pairs", "made", "fits", "given", "asked", "after"] ["shapes", "pairs"] (Bg Hk):=by walk_at "sc"
theorem Zk7 {f:Addr}{fd:FuncData}(F:Fun K "fitted" "fitted" Hk f fd)(T:Txt K mg)(C_joined:A9 P w K mg base 3 "joined" ["shapes", "one", "other"] (Zem K)):Bc P w K mg base Be 4 f fd ["shapes", "pairs"] (Zch K):=by
 refine F.okq sc_fitted (fun vs H Q E h=>?_) (fun cdv A outer s H vs Q E hr h=>?_)
 ·obtain ⟨a,b,m,m',pv,ps,fs,rfl,_⟩:=h
  rfl
 ·obtain ⟨a,b,m,m',pv,ps,fs,rfl,S,eb,al,hfit,hl,q⟩:=h
  refine ⟨_,Af (Av 2 sc_fitted (qv 0))
   (Af (Av 3 sc_fitted (Ax Ab))
   (Af (Co Pq rfl (C9 K (qv 1)) (Cr K (n:=2) rfl (Bm (A4 (i:=4) sc_fitted.nd rfl (Or.inl rfl)) (Bm (A4 (i:=5) sc_fitted.nd rfl (Or.inl rfl)) (Ct)))) (Af (Av 6 sc_fitted (Ba C_joined hr.m (Aa (qv 2) (Aa (qv 4) (Aa (qv 5) Ab)))))
   (Af (Cp (C0 K Pz Qe Qf De (qv 3) (Aa (Zk2 (Zkb (qv 6))) Ab)))
   (Ai (Av 2 sc_fitted (K6 (Hd (Zeq (qv 6))) (qv 2) (qv 6)))))))
   (Ai (Ar (Ao (Aa (qv 2) (Aa (qv 3) Ab))))))),?_⟩
  have bg:=big
  have eN:∀ c:Addr,decide (V.ref c=V.non)=false:=fun c=>decide_eq_false (fun z=>by cases z)
  walk_at "r"
  refine ⟨Br,fun pf hpf=>?_⟩
  have s1:=Same.upd (o:=.lst []) hpf
  obtain ⟨us,ea,_⟩:=S.ex
  walk_at "r"
  refine .inl ⟨b,rfl,⟨_,SqL.of (s1 _ _ eb)⟩,?_⟩
  refine Ik (K:=K) (a:=b) (xs:=pv) (fun i σ' H'=>∃ v4 v5 v6 am m1 fd1 fr,σ'=[some (.ref a),some (.ref b),some (.ref am),some (.ref pf),v4,v5,v6]/\H' pf=some (.lst (fd1.map V.bl))/\fd1.length=i/\ShG K H' am m1/\am≠pf/\Same H H'/\Ij (ps.drop i) m1 fr m'/\fd1++fr=fs)
   ⟨none,none,none,a,m,[],fs,rfl,Ac,rfl,S.same s1,Aw ea hpf,s1,hfit.o,rfl⟩ ?_ ?_ ?_
  ·rintro i σ' H' _ ⟨_,_,_,_,_,_,_,_,_,_,_,_,sm,_⟩
   exact SqL.of (sm _ _ eb)
  ·rintro i x σ' H1 hx ⟨v4,v5,v6,am,m1,fd1,fr,rfl,ef,lf,S1,nf,sm,ft,efs⟩
   obtain ⟨y,hy,p,rfl,qp⟩:=al.get hx
   obtain ⟨g,k⟩:=y
   have hi:=(Pa.mp hy).1
   have hdr:ps.drop i=(g,k)::ps.drop (i+1):=by
    rw [Q9 hi]
    rw [O1 hi] at hy
    rw [Pg hy]
   rw [hdr] at ft
   have hlen:(fd1.map V.bl).length < sizeLine:=by rw [O6];omega
   cases ft with
   | @cons _ _ _ _ o _ fs2 j t =>
   have efs2:(fd1++[o.isSome])++fs2=fs:=by rw [<- efs,P5];rfl
   walk_at "r"
   refine Cm (sm.tup qp) rfl ?_
   walk_at "r"
   refine ⟨am,m1,g,k,o,rfl,S1,j,fun a' m2 H2 ho s2 hn S2=>?_,fun H2 ho s2=>?_⟩
   ·subst ho
    walk_at "r"
    refine B5 (SqL.of (s2 _ _ ef)) ?_
    walk_at "r"
    refine C3 (s2 _ _ ef) hlen ?_
    rw [eN a']
    walk_at "r"
    rw [eN a']
    walk_at "r"
    exact ⟨_,_,_,a',m2,fd1++[true],fs2,rfl,by rw [Ac,P6];rfl,by simp [lf],S2.off (Aw ef hn).symm (s2 _ _ ef),(Aw ef hn).symm,(sm.trans s2).over hpf,t,efs2⟩
   ·subst ho
    walk_at "r"
    refine B5 (SqL.of (s2 _ _ ef)) ?_
    walk_at "r"
    refine C3 (s2 _ _ ef) hlen ?_
    rw [decide_eq_true (Eq.refl V.non)]
    walk_at "r"
    rw [decide_eq_true (Eq.refl V.non)]
    walk_at "r"
    exact ⟨_,_,_,am,m1,fd1++[false],fs2,rfl,by rw [Ac,P6];rfl,by simp [lf],(S1.same s2).off nf (s2 _ _ ef),nf,(sm.trans s2).over hpf,t,efs2⟩
  ·rintro σ' H1 ⟨v4,v5,v6,am,m1,fd1,fr,rfl,ef,lf,S1,nf,sm,ft,efs⟩
   rw [al.1,Vp] at ft
   cases ft
   rw [Pw] at efs
   subst efs
   walk_at "r"
   refine ⟨A5,fun r hr'=>?_⟩
   have s2:=Same.upd (o:=.tup [.ref am,.ref pf]) hr'
   exact q r am pf _ (sm.trans s2) (SqT.of Ac) (s2 _ _ ef) (S1.same s2)
inductive Kd where
 | num | truth | any (n:Nat) | to (a b:Kd)
 deriving DecidableEq
inductive KdAt (K:Oz)(H:Hp):V->Kd->Prop where
 | num {a:Addr} (q:SqT K H a [.str "num"]):KdAt K H (.ref a) .num
 | truth {a:Addr} (q:SqT K H a [.str "truth"]):KdAt K H (.ref a) .truth
 | any {a:Addr} {n:Nat} (q:SqT K H a [.str "any",.int (n:Nat)]):KdAt K H (.ref a) (.any n)
 | to {a:Addr} {u v:V} {x y:Kd} (q:SqT K H a [.str "to",u,v]) (hx:KdAt K H u x) (hy:KdAt K H v y):KdAt K H (.ref a) (.to x y)
theorem KdAt.same {H H':Hp}{v:V}{k:Kd}(h:KdAt K H v k)(e:SameT H H'):KdAt K H' v k:=by
 induction h with
 | num q=>exact .num (e.tup q)
 | truth q=>exact .truth (e.tup q)
 | any q=>exact .any (e.tup q)
 | to q _ _ ih1 ih2=>exact .to (e.tup q) ih1 ih2
noncomputable abbrev Td:=Nat->Option Kd
noncomputable def Ca (td:Td)(i:Nat)(k:Kd):Td:=fun j=>if j=i then some k else td j
inductive Lasts (sh:Ae):List Nat->List Nat->Prop where
 | nil:Lasts sh [] []
 | cons {p r:Nat} {ps rs:List Nat} (h:Last sh p r) (t:Lasts sh ps rs):Lasts sh (p::ps) (r::rs)
theorem Lasts.at {sh:Ae}{ps rs:List Nat}(h:Lasts sh ps rs):ps.length=rs.length/\∀ j (h1:j < ps.length) (h2:j < rs.length),Last sh ps[j] rs[j]:=by
 induction h with
 | nil=>exact ⟨rfl,fun j h1=>absurd h1 (Rt _)⟩
 | cons h _ ih =>
  refine ⟨by rw [Pb,Pb,ih.1],fun j h1 h2=>?_⟩
  match j,h1,h2 with
  | 0,_,_=>exact h
  | j+1,h1,h2=>exact ih.2 j (by simpa using h1) (by simpa using h2)
inductive MkK (td:Td):Sh->List Nat->Kd->Prop where
 | num:MkK td .num [] .num
 | truth:MkK td .truth [] .truth
 | to {a b r s:Nat} {x y:Kd} (hx:td r=some x) (hy:td s=some y):MkK td (.to a b) [r,s] (.to x y)
noncomputable def Ck (td:Td)(rs:List Nat):List Nat:=rs.filter fun r=>(td r).isNone
inductive ToldN (sh:Ae):Nat->Td->Nat->List Nat->Td->Prop where
 | nil {td:Td} {c:Nat}:ToldN sh 0 td c [] td
 | seen {n c x r:Nat} {td td':Td} {w rs:List Nat} {s:Sh} {k:Kd} (hl:Last sh x r) (hs:sh[r]?=some s) (hp:Lasts sh s.parts rs) (h:td r=some k) (t:ToldN sh n td c w td'):ToldN sh (n+1) td c (w++[x]) td'
 | miss {n c x r p:Nat} {td td':Td} {w rs q:List Nat} {s:Sh} (hl:Last sh x r) (hs:sh[r]?=some s) (hp:Lasts sh s.parts rs) (h:td r=none) (hm:Ck td rs=p::q) (t:ToldN sh n td c (w++[x]++[p]) td'):ToldN sh (n+1) td c (w++[x]) td'
 | any {n c x r:Nat} {td td':Td} {w rs:List Nat} (hl:Last sh x r) (hs:sh[r]?=some .any) (hp:Lasts sh Sh.any.parts rs) (h:td r=none) (t:ToldN sh n (Ca td r (.any c)) (c+1) (w++[x]) td'):ToldN sh (n+1) td c (w++[x]) td'
 | mk {n c x r:Nat} {td td':Td} {w rs:List Nat} {s:Sh} {k:Kd} (hl:Last sh x r) (hs:sh[r]?=some s) (hp:Lasts sh s.parts rs) (h:td r=none) (hm:Ck td rs=[]) (hk:MkK td s rs k) (t:ToldN sh n (Ca td r k) c (w++[x]) td'):ToldN sh (n+1) td c (w++[x]) td'
theorem ToldN.inv {sh:Ae}{n c:Nat}{td td':Td}{w:List Nat}(h:ToldN sh n td c w td'):(w=[]/\td'=td)\/∃ w1 x r s rs n',w=w1++[x]/\n=n'+1/\Last sh x r/\sh[r]?=some s/\Lasts sh s.parts rs /\
  ((∃ k,td r=some k/\ToldN sh n' td c w1 td')\/(∃ p q,td r=none/\Ck td rs=p::q/\ToldN sh n' td c (w1++[x]++[p]) td')\/(td r=none/\Ck td rs=[]/\s=.any/\ToldN sh n' (Ca td r (.any c)) (c+1) (w1++[x]) td')\/(∃ k,td r=none/\Ck td rs=[]/\MkK td s rs k/\ToldN sh n' (Ca td r k) c (w1++[x]) td')):=by
 cases h with
 | nil=>exact .inl ⟨rfl,rfl⟩
 | seen hl hs hp h t=>exact .inr ⟨_,_,_,_,_,_,rfl,rfl,hl,hs,hp,.inl ⟨_,h,t⟩⟩
 | miss hl hs hp h hm t=>exact .inr ⟨_,_,_,_,_,_,rfl,rfl,hl,hs,hp,.inr (.inl ⟨_,_,h,hm,t⟩)⟩
 | any hl hs hp h t=>exact .inr ⟨_,_,_,_,_,_,rfl,rfl,hl,hs,hp,.inr (.inr (.inl ⟨h,by cases hp;rfl,rfl,t⟩))⟩
 | mk hl hs hp h hm hk t=>exact .inr ⟨_,_,_,_,_,_,rfl,rfl,hl,hs,hp,.inr (.inr (.inr ⟨_,h,hm,hk,t⟩))⟩
noncomputable def TdAt (K:Oz)(H:Hp)(kvs:List (Ap×V))(td:Td):Prop:=∀ i:Nat,(td i=none->Bl kvs (.inl ((i:Nat):Int))=none)/\∀ k,td i=some k->∃ v,Bl kvs (.inl ((i:Nat):Int))=some v/\KdAt K H v k
theorem TdAt.same {H H':Hp}{kvs:List (Ap×V)}{td:Td}(h:TdAt K H kvs td)(e:SameT H H'):TdAt K H' kvs td:=fun i=>⟨(h i).1,fun k hk=>let ⟨v,h1,h2⟩:=(h i).2 k hk;⟨v,h1,h2.same e⟩⟩
theorem TdAt.has {H:Hp}{kvs:List (Ap×V)}{td:Td}(h:TdAt K H kvs td)(i:Nat):(Bl kvs (.inl ((i:Nat):Int))).isSome=(td i).isSome:=by
 cases e:td i with
 | none=>rw [(h i).1 e];rfl
 | some k=>obtain ⟨v,h1,_⟩:=(h i).2 k e;rw [h1];rfl
theorem TdAt.put {H:Hp}{kvs:List (Ap×V)}{td:Td}{v:V}{k:Kd}(h:TdAt K H kvs td)(i:Nat)(hv:KdAt K H v k):TdAt K H (Bb kvs (.inl ((i:Nat):Int)) v) (Ca td i k):=fun j=>by
 rw [F0]
 by_cases hj:j=i
 ·have e1:Ca td i k j=some k:=if_pos hj
  rw [if_pos (by rw [hj]),e1]
  exact ⟨(fun e=>by cases e),fun k' e=>⟨v,rfl,by cases e;exact hv⟩⟩
 ·have e1:Ca td i k j=td j:=if_neg hj
  rw [if_neg fun z=>hj (Zce z),e1]
  exact h j
theorem Ziw (td:Td)(rs:List Nat)(r:Nat):Ck td (rs++[r])=Ck td rs++if (td r).isNone=true then [r] else []:=by
 unfold Ck
 rw [List.filter_append]
 cases e:(td r).isNone with
 | true=>rw [if_pos rfl,List.filter_cons_of_pos (by exact e)];rfl
 | false=>rw [if_neg (by decide),List.filter_cons_of_neg (by rw [e];decide)];rfl
theorem Zjy {td:Td}{rs:List Nat}{r:Nat}(h:Ck td rs=[])(hr:r∈rs):∃ k,td r=some k:=by
 cases e:td r with
 | some k=>exact ⟨k,rfl⟩
 | none =>
  have:r∈Ck td rs:=Vr.mpr ⟨hr,by rw [e];rfl⟩
  rw [h] at this
  cases this
noncomputable def Zes (K:Oz):Sp:=fun vs H Q _=>∃(a b:Addr)(sh:Ae)(ws:List Nat)(ks:List Kd)(N:Nat)(td':Td),vs=[.ref a,.ref b]/\ShG K H a sh/\H b=some (.lst (Ak ws))/\ToldN sh N (fun _=>none) 0 ws.reverse td'/\N<=2000/\ws.length<=1000/\ks.length=ws.length/\(∀(j x:Nat)(k:Kd),ws[j]?=some x->ks[j]?=some k->∃ r,Last sh x r/\td' r=some k) /\
 ∀ c us H',Same H H'->H c=none->H' c=some (.lst us)->Al (KdAt K H') us ks->Q (.ref c) H'
structure ToJ (K:Oz)(H:Hp)(pd pw:Addr)(M n:Nat)(td:Td)(w:List Nat)(H':Hp):Prop where
 ed:∃ kvs,H' pd=some (.dK kvs)/\TdAt K H' kvs td/\kvs.length+n<=M
 ew:H' pw=some (.lst (Ak w))
 wl:w.length+n<=M
 sm:Same H H'
theorem dk_t {H:Hp}{S:Addr}{kv:List (Ap×V)}{o2:HO}(h:H S=some (.dK kv)):SameT H (upd H S o2):=fun b =>
 ⟨fun xs e=>by rw [Ag (Ew e h (by intro z;cases z))];exact e,fun o' u e=>by rw [Ag (Ew e h (by intro z;cases z))];exact e⟩
theorem Zib:(["part", "shapes"]:List Str).Nodup:=by decide +kernel
theorem Zn1:(["part", "told"]:List Str).Nodup:=by decide +kernel
theorem Zjv:(["part", "told"]:List Str).Nodup:=by decide +kernel
theorem Zmd:(["kind", "told", "shapes"]:List Str).Nodup:=by decide +kernel
theorem sc_kinds_told:Bo ["shapes", "wanted", "told", "many_unknown", "waiting", "kind", "parts", "missing"] ["shapes", "wanted"] (Bg Hg):=by walk_at "sc"
theorem Zot {f:Addr}{fd:FuncData}(F:Fun K "kinds_told" "kinds_told" Hg f fd)(T:Txt K mg)(C_last_same:A9 P w K mg base 1 "last_same" ["shapes", "kind"] (K8 K)):Bc P w K mg base Be 2 f fd ["shapes", "wanted"] (Zes K):=by
 refine F.okq sc_kinds_told (fun vs H Q E h=>?_) (fun cdv A outer s H vs Q E hr h=>?_)
 ·obtain ⟨a,b,sh,ws,ks,N,td',rfl,_⟩:=h
  rfl
 ·obtain ⟨a,b,sh,ws,ks,N,td',rfl,S,eb,hT,hN,hl,lk,hks,q⟩:=h
  refine ⟨_,Af (G0 (i:=2) sc_kinds_told.nd rfl (Or.inr rfl) (Ix))
   (Af (Av 3 sc_kinds_told Ah)
   (Af (Av 4 sc_kinds_told (Zl2 K (by rfl) T.list (by rfl) T.reversed (Aa (qv 1) Ab)))
   (Af (Hw Pq (F1 K (qv 4) (by intro _;rfl)) (Af (Av 5 sc_kinds_told (Ba C_last_same hr.m (Aa (qv 0) (Aa (Am K (qv 4) (Il Iy Ah)) Ab))))
   (Af (Lu (i:=6) (N:=["part", "shapes"]) (σ0:=Dc 1 [0]) rfl (Er rfl (by decide +kernel) (by decide +kernel) (by decide +kernel)) (C9 K (Fb (Fv K) (Am K (qv 0) (qv 5)) (Eb Ah) (Fx))) (Es rfl (by rfl)) (fun _ _ _ _=>A4 (i:=0) Zib rfl (Or.inl rfl)) (fun _ _ _ _=>Gf) (fun _ _ _ _=>Ba C_last_same hr.m (Aa (qv 1) (Aa (qv 0) Ab))) sc_kinds_told.nd rfl (Or.inl rfl))
   (Af (Lu (i:=7) (N:=["part", "told"]) (σ0:=Dc 1 [2]) rfl (Er rfl (by decide +kernel) (by decide +kernel) (by decide +kernel)) (C9 K (qv 6)) (Es rfl (by rfl)) (fun _ _ _ _=>A4 (i:=0) Zn1 rfl (Or.inl rfl)) (fun _ _ _ _=>Zad (Hd (Zao hr.u1 (qv 0) (qv 1)))) (fun _ _ _ _=>qv 0) sc_kinds_told.nd rfl (Or.inl rfl))
   (Ai (A7 (Hd (Zfg hr.u1 (qv 5) (qv 2))) (Ai (Cp (Kv K Pz T4 T6 Lc (qv 4)))) (Ai (A7 (F1 K (qv 7) (by intro _;rfl)) (Ai (Cp (C0 K Pz Qe Qf De (qv 4) (Aa (Am K (qv 7) Ah) Ab)))) (Ai (A7 (Az (B3 K hr.u200) (Am K (Am K (qv 0) (qv 5)) Ah) Aq (Ay _)) (Af (E8 hr.u1 (qv 2) (qv 5) (Ao (Aa Aq (Aa (qv 3) Ab))))
   (Ai (Zid (i:=3) sc_kinds_told.nd rfl (Or.inl rfl) Ah Zl4))) (Ai (E8 hr.u1 (qv 2) (qv 5) (A6 (Ei K) (Ao (Aa (Am K (Am K (qv 0) (qv 5)) Ah) Ab)) (F4 (Ze0 K) (by rfl) T.tuple (by decide +kernel) (Aa (Gc (N:=["part", "told"]) (σ0:=Dc 1 [2]) rfl (Er rfl (by decide +kernel) (by decide +kernel) (by decide +kernel)) (C9 K (qv 6)) (Es rfl (by rfl)) (fun _ _ _ _=>A4 (i:=0) Zjv rfl (Or.inl rfl)) (fun _ _ _ _=>Gf) (fun _ _ _ _=>Gn hr.u1 (qv 1) (qv 0) (fun _ _=>rfl))) Ab)))))))))))))))
   (Ai (Ar (Gc (N:=["kind", "told", "shapes"]) (σ0:=Dc 1 [2,0]) rfl (Er rfl (by decide +kernel) (by decide +kernel) (by decide +kernel)) (C9 K (qv 1)) (Es rfl (by rfl)) (fun _ _ _ _=>A4 (i:=0) Zmd rfl (Or.inl rfl)) (fun _ _ _ _=>Gf) (fun _ _ _ _=>Gn hr.u1 (qv 1) (Ba C_last_same hr.m (Aa (qv 2) (Aa (qv 0) Ab))) (fun _ _=>rfl)))))))),?_⟩
  have bg:=big
  walk_at "r"
  refine fun pd hpd=>?_
  have s1:=Same.upd (o:=.dK []) hpd
  walk_at "r"
  refine ⟨b,Ak ws,rfl,SqL.of (s1 _ _ eb),fun pw H2 hpw s2 ew=>?_⟩
  have nd:pd≠pw:=Aw Ac hpw
  have hpw0:H pw=none:=s1.free hpw
  have ew:H2 pw=some (.lst (Ak ws.reverse)):=by rw [ew];unfold Ak;rw [List.map_reverse]
  walk_at "r"
  refine ⟨fun n σ' H'=>∃ v5 v6 v7 td w,∃ c:Nat,σ'=[some (.ref a),some (.ref b),some (.ref pd),some (.int (c:Nat)),some (.ref pw),v5,v6,v7]/\ToJ K H pd pw (N+ws.length) n td w H'/\ToldN sh n td c w td',
   ⟨N,none,none,none,fun _=>none,ws.reverse,0,rfl,⟨⟨[],s2 _ _ Ac,fun i=>⟨fun _=>rfl,fun k e=>by cases e⟩,by simp⟩,ew,by rw [Ua];omega,s1.trans s2⟩,hT⟩,?_⟩
  rintro n σ' H3 ⟨v5,v6,v7,td,w0,c,rfl,J,hh⟩
  obtain ⟨kvs,ed,tda,kl⟩:=J.ed
  have wl:=J.wl
  walk_at "r"
  refine Fy (SqL.of J.ew) ?_
  rcases hh.inv with ⟨rfl,rfl⟩ | ⟨w1,x,r,sp,rs,n,rfl,rfl,hL,hs,hp,hc⟩
  ·refine iteF ?_
   walk_at "r"
   refine .inl ⟨b,rfl,⟨_,SqL.of (J.sm _ _ eb)⟩,fun D hD=>?_⟩
   have hD0:H D=none:=J.sm.free hD
   have nDd:D≠pd:=(Aw ed hD).symm
   refine G6 (K:=K) (a:=b) (xs:=Ak ws) (Pv:=fun i ys σ' H'=>∃ x0,σ'=[x0,some (.ref pd),some (.ref a)]/\H' pd=some (.dK kvs)/\Al (KdAt K H') ys (ks.take i)/\TdAt K H' kvs td'/\Same H H') ⟨none,rfl,by rw [Ag nDd.symm];exact ed,.nil,tda.same (SameT.new hD),J.sm.put hD⟩ ?_ ?_ ?_
   ·rintro i ys σ' H' _ ⟨_,_,_,_,_,sm⟩
    exact SqL.of (sm _ _ eb)
   ·rintro i x ys σ' H' hx hys ⟨x0,rfl,ed,aly,td,sm⟩
    have hi:i < ws.length:=by have:=(Pa.mp hx).1;unfold Ak at this;rwa [O6] at this
    have hik:i < ks.length:=by omega
    have hx':x=.int (ws[i]:Nat):=by unfold Ak at hx;rw [Po,O1 hi] at hx;exact (Pg hx).symm
    subst hx'
    obtain ⟨r,hr1,hr2⟩:=hks i _ _ (O1 hi) (O1 hik)
    obtain ⟨v,hv,kv⟩:=(td r).2 _ hr2
    walk_at "r"
    refine ⟨a,sh,ws[i],r,rfl,S.same sm,hr1,?_⟩
    refine ⟨pd,v,rfl,by rw [<- hv];exact DGet.k (k:=.inl ((r:Nat):Int)) ed,?_⟩
    have t6:SameT H' (upd H' D (.lst (ys++[v]))):=SameT.set hys
    refine ⟨ys,hys,by rw [aly.1,Pt];omega,_,Ac,_,rfl,by rw [Ag nDd.symm];exact ed,?_,td.same t6,sm.over hD0⟩
    rw [Qn,O1 hik]
    exact (aly.mono fun _ _ h=>h.same t6).snoc (kv.same t6)
   ·rintro ys σ' H' hys ⟨x0,rfl,ed,aly,td,sm⟩
    have e2:(Ak ws).length=ks.length:=by unfold Ak;rw [O6,lk]
    rw [e2,Qz] at aly
    exact q D ys H' sm hD0 hys aly
  have ew3:=J.ew
  rw [O7,Pr] at wl
  have erv:Ak (w1++[x])=Ak w1++[.int (x:Nat)]:=by rw [Ft];rfl
  rw [erv] at ew3 ⊢
  rw [show (!(Ak w1++[V.int ((x:Nat):Int)]).isEmpty)=true by simp]
  refine iteT ?_
  refine ⟨fun σ2 H2=>∃ m',m' < n+1/\∃ v5 v6 v7 td w,∃ c:Nat,σ2=[some (.ref a),some (.ref b),some (.ref pd),some (.int (c:Nat)),some (.ref pw),v5,v6,v7]/\ToJ K H pd pw (N+ws.length) m' td w H2/\ToldN sh m' td c w td',fun _ _ h=>h,?_⟩
  walk_at "r"
  refine Bj (SqL.of ew3) (Ht _ _) ?_
  walk_at "r"
  refine ⟨a,sh,x,r,rfl,S.same J.sm,hL,?_⟩
  walk_at "r"
  obtain ⟨us,p,e,eu,qp⟩:=(S.same J.sm).at hs
  refine Bj (SqL.of e) eu ?_
  walk_at "r"
  refine .inr (.inr ⟨p,_,rfl,qp,Jz,fun p3 h3=>?_⟩)
  rw [Ks]
  have s4:=Same.upd (o:=.tup (Ak sp.parts)) h3
  obtain ⟨lp,hpa⟩:=hp.at
  have hpl:=N9 sp
  refine .inr (.inl ⟨p3,rfl,⟨_,SqT.of Ac⟩,fun D hD=>?_⟩)
  refine Zh3 (K:=K) (a:=p3) (xs:=Ak sp.parts) (Pv:=fun i ys σ' H'=>∃ x0,σ'=[x0,some (.ref a)]/\ys=Ak (rs.take i)/\H' p3=some (.tup (Ak sp.parts))/\Same H3 H') ⟨none,rfl,rfl,(Same.upd hD) _ _ Ac,s4.put hD⟩ ?_ ?_ ?_
  ·rintro i ys σ' H' _ ⟨_,_,_,e,_⟩
   exact SqT.of e
  ·rintro i x ys σ' H' hx hys ⟨x0,rfl,rfl,ep3,sm⟩
   have hi:i < sp.parts.length:=by have:=(Pa.mp hx).1;unfold Ak at this;rwa [O6] at this
   have hir:i < rs.length:=by omega
   have hx':x=.int (sp.parts[i]:Nat):=by unfold Ak at hx;rw [Po,O1 hi] at hx;exact (Pg hx).symm
   subst hx'
   walk_at "r"
   refine ⟨a,sh,sp.parts[i],rs[i],rfl,S.same (J.sm.trans sm),hpa i hi hir,?_⟩
   refine ⟨_,hys,by unfold Ak;rw [O6,Pt];omega,_,Ac,_,rfl,?_,by rw [Ag (Zdb hys ep3)];exact ep3,sm.over (s4.free hD)⟩
   rw [Qn,O1 hir,Ft]
   rfl
  ·rintro ys σ' H5 hys ⟨x0,rfl,rfl,ep3,sm5⟩
   have e2:(Ak sp.parts).length=rs.length:=by unfold Ak;rw [O6,lp]
   rw [e2,Qz] at hys
   walk_at "r"
   have ed5:=sm5 _ _ ed
   have tda5:=tda.same sm5.t
   refine .inl ⟨D,rfl,⟨_,SqL.of hys⟩,fun D2 hD2=>?_⟩
   have nD2:D2≠D:=(Aw hys hD2).symm
   have nD2d:D2≠pd:=(Aw ed5 hD2).symm
   refine G6 (K:=K) (a:=D) (xs:=Ak rs) (Pv:=fun i ys σ' H'=>∃ x0,σ'=[x0,some (.ref pd)]/\ys=Ak (Ck td (rs.take i))/\H' D=some (.lst (Ak rs))/\H' pd=some (.dK kvs)/\Same H5 H') ⟨none,rfl,rfl,by rw [Ag nD2.symm];exact hys,by rw [Ag nD2d.symm];exact ed5,Same.upd hD2⟩ ?_ ?_ ?_
   ·rintro i ys σ' H' _ ⟨_,_,_,e,_⟩
    exact SqL.of e
   ·rintro i x ys σ' H' hx hys2 ⟨x0,rfl,rfl,eD,edd,sm⟩
    have hir:i < rs.length:=by have:=(Pa.mp hx).1;unfold Ak at this;rwa [O6] at this
    have hx':x=.int (rs[i]:Nat):=by unfold Ak at hx;rw [Po,O1 hir] at hx;exact (Pg hx).symm
    subst hx'
    have hml:(Ck td (rs.take i)).length<=rs.length:=P7 (List.length_filter_le _ _) (by rw [Pt];omega)
    have hms:=Ziw td (rs.take i) rs[i]
    rw [show rs.take i++[rs[i]]=rs.take (i+1) by rw [Qn,O1 hir];rfl] at hms
    walk_at "r"
    refine ⟨pd,_,rfl,DGet.k (k:=.inl ((rs[i]:Nat):Int)) edd,?_⟩
    rw [tda.has rs[i]]
    cases et:td rs[i] with
    | some k =>
     rw [et] at hms
     have hms:Ck td (rs.take (i+1))=Ck td (rs.take i):=by rw [hms];exact Pw _
     refine ⟨false,rfl,?_⟩
     refine iteF ?_
     exact ⟨_,hys2,_,rfl,by rw [hms],eD,edd,sm⟩
    | none =>
     rw [et] at hms
     have hms:Ck td (rs.take (i+1))=Ck td (rs.take i)++[rs[i]]:=hms
     refine ⟨true,rfl,?_⟩
     refine iteT ?_
     walk_at "r"
     refine ⟨_,hys2,by unfold Ak;rw [O6];omega,_,Ac,_,rfl,by rw [hms,Ft];rfl,by rw [Ag nD2.symm];exact eD,by rw [Ag nD2d.symm];exact edd,sm.over hD2⟩
   ·rintro ys σ' H6 hys2 ⟨x0,rfl,rfl,eD,edd,sm6⟩
    have e3:(Ak rs).length=rs.length:=by unfold Ak;exact O6 ..
    rw [e3,Qz] at hys2
    have s36:Same H3 H6:=sm5.trans sm6
    have tda6:=tda.same s36.t
    have ew6:=s36 _ _ ew3
    have e6:=s36 _ _ e
    have qp6:=s36.tup qp
    walk_at "r"
    refine ⟨pd,_,rfl,DGet.k (k:=.inl ((r:Nat):Int)) edd,?_⟩
    rw [tda.has r]
    rcases hc with ⟨k,hk,t⟩ | ⟨p',q',hk,hm,t⟩ | ⟨hk,hm,rfl,t⟩ | ⟨k,hk,hm,hmk,t⟩
    ·rw [hk]
     refine ⟨true,rfl,?_⟩
     walk_at "r"
     refine B5 (SqL.of ew6) ?_
     refine Lh ew6 ?_
     exact ⟨n,by omega,_,_,_,td,w1,c,rfl,⟨⟨kvs,by rw [Ag nd];exact edd,tda6.same (SameT.set ew6),by omega⟩,Ac,by omega,(J.sm.trans s36).over hpw0⟩,t⟩
    ·rw [hk]
     rw [hm] at hys2
     refine ⟨false,rfl,?_⟩
     walk_at "r"
     refine Fy (SqL.of hys2) ?_
     refine iteT ?_
     walk_at "r"
     refine B5 (SqL.of ew6) ?_
     walk_at "r"
     refine Bj (SqL.of hys2) Di ?_
     walk_at "r"
     have hwl:(Ak w1++[V.int ((x:Nat):Int)]).length < sizeLine:=by unfold Ak;rw [O7,O6,Pr];omega
     refine C3 ew6 hwl ?_
     exact ⟨n,by omega,_,_,_,td,w1++[x]++[p'],c,rfl,⟨⟨kvs,by rw [Ag nd];exact edd,tda6.same (SameT.set ew6),by omega⟩,by rw [Ac,Ft,Ft];rfl,by simp;omega,(J.sm.trans s36).over hpw0⟩,t⟩
    ·rw [hk]
     rw [hm] at hys2
     refine ⟨false,rfl,?_⟩
     walk_at "r"
     refine Fy (SqL.of hys2) ?_
     refine iteF ?_
     walk_at "r"
     refine Bj (SqL.of e6) eu ?_
     walk_at "r"
     refine Au qp6 Di ?_
     walk_at "r"
     rw [Gs,decide_eq_true (Eq.refl Sh.any)]
     walk_at "r"
     refine ⟨A5,fun p8 h8=>?_⟩
     have s8:=Same.upd (o:=.tup [.str "any",.int (c:Nat)]) h8
     walk_at "r"
     refine ⟨pd,_,rfl,DPut.k (k:=.inl ((r:Nat):Int)) (s8 _ _ edd) (by omega),?_⟩
     have t9:=dk_t (o2:=.dK (Bb kvs (.inl ((r:Nat):Int)) (.ref p8))) (s8 _ _ edd)
     have hl9:=Dq kvs (.inl ((r:Nat):Int)) (.ref p8)
     walk_at "r"
     have ec:((c:Nat):Int)+1=((c+1:Nat):Int):=by omega
     rw [ec]
     exact ⟨n,by omega,_,_,_,Ca td r (.any c),w1++[x],c+1,rfl,⟨⟨_,Ac,((tda6.same s8.t).same t9).put r (.any (t9.tup (SqT.of Ac))),by omega⟩,by rw [Ag nd.symm,erv];exact s8 _ _ ew6,by simp;omega,((J.sm.trans s36).trans s8).over hpd⟩,t⟩
    ·rw [hk]
     rw [hm] at hys2
     have hna:sp≠.any:=by cases hmk <;> exact fun z=>by cases z
     refine ⟨false,rfl,?_⟩
     walk_at "r"
     refine Fy (SqL.of hys2) ?_
     refine iteF ?_
     walk_at "r"
     refine Bj (SqL.of e6) eu ?_
     walk_at "r"
     refine Au qp6 Di ?_
     walk_at "r"
     rw [Gs,decide_eq_false hna]
     walk_at "r"
     refine Bj (SqL.of e6) eu ?_
     walk_at "r"
     refine Au qp6 Di ?_
     walk_at "r"
     refine ⟨Bx,fun p8 h8=>?_⟩
     have s8:=Same.upd (o:=.tup [.str sp.wd]) h8
     walk_at "r"
     refine .inl ⟨D,rfl,⟨_,SqL.of (s8 _ _ eD)⟩,fun D9 h9=>?_⟩
     have eD8:=s8 _ _ eD
     have nD9:D9≠D:=(Aw eD8 h9).symm
     have nD9d:D9≠pd:=(Aw (s8 _ _ edd) h9).symm
     refine G6 (K:=K) (a:=D) (xs:=Ak rs) (Pv:=fun i ys σ' H'=>∃ x0,σ'=[x0,some (.ref pd)]/\H' D=some (.lst (Ak rs))/\H' pd=some (.dK kvs)/\TdAt K H' kvs td/\Al (fun v i=>∃ k,td i=some k/\KdAt K H' v k) ys (rs.take i)/\Same (upd H6 p8 (.tup [.str sp.wd])) H') ⟨none,rfl,by rw [Ag nD9.symm];exact eD8,by rw [Ag nD9d.symm];exact s8 _ _ edd,(tda6.same s8.t).same (SameT.new h9),.nil,Same.upd h9⟩ ?_ ?_ ?_
     ·rintro i ys σ' H' _ ⟨_,_,e,_⟩
      exact SqL.of e
     ·rintro i x ys σ' H' hx hys3 ⟨x0,rfl,eD',edd',tda',aly,sm⟩
      have hir:i < rs.length:=by have:=(Pa.mp hx).1;unfold Ak at this;rwa [O6] at this
      have hx':x=.int (rs[i]:Nat):=by unfold Ak at hx;rw [Po,O1 hir] at hx;exact (Pg hx).symm
      subst hx'
      obtain ⟨k1,hk1⟩:=Zjy hm (Q5 hir)
      obtain ⟨v,hv,kv⟩:=(tda' rs[i]).2 k1 hk1
      walk_at "r"
      refine ⟨pd,v,rfl,by rw [<- hv];exact DGet.k (k:=.inl ((rs[i]:Nat):Int)) edd',?_⟩
      have t6:SameT H' (upd H' D9 (.lst (ys++[v]))):=SameT.set hys3
      refine ⟨ys,hys3,by rw [aly.1,Pt];omega,_,Ac,_,rfl,by rw [Ag nD9.symm];exact eD',by rw [Ag nD9d.symm];exact edd',tda'.same t6,?_,sm.over h9⟩
      rw [Qn,O1 hir]
      exact (aly.mono fun _ _ ⟨k,h1,h2⟩=>⟨k,h1,h2.same t6⟩).snoc ⟨k1,hk1,kv.same t6⟩
     ·rintro zs σ' H' hys3 ⟨x0,rfl,eD',edd',tda',aly,sm⟩
      rw [e3,Qz] at aly
      walk_at "r"
      refine Zen (SqL.of hys3) fun pa ha=>?_
      have sa:=Same.upd (o:=.tup zs) ha
      have hzl:zs.length<=2:=by rw [aly.1];omega
      refine Zgr ((sm.trans sa).tup (SqT.of Ac)) (SqT.of Ac) (by show 1+zs.length<=sizeLine;omega) fun r9 Hb sb qr=>?_
      have sB:Same H' Hb:=sa.trans sb
      have sAll:Same H3 Hb:=s36.trans ((s8.trans sm).trans sB)
      walk_at "r"
      refine ⟨pd,_,rfl,DPut.k (k:=.inl ((r:Nat):Int)) (sB _ _ edd') (by omega),?_⟩
      have tP:=dk_t (o2:=.dK (Bb kvs (.inl ((r:Nat):Int)) (.ref r9))) (sB _ _ edd')
      have hl9:=Dq kvs (.inl ((r:Nat):Int)) (.ref r9)
      have kr:KdAt K Hb (.ref r9) k:=by
       have aly':=aly.mono fun v i (h:∃ k,td i=some k/\KdAt K H' v k)=>(show ∃ k,td i=some k/\KdAt K Hb v k from let ⟨k,h1,h2⟩:=h;⟨k,h1,h2.same sB.t⟩)
       cases hmk with
       | num =>
        have:zs=[]:=Q1 aly.1
        subst this
        exact .num qr
       | truth =>
        have:zs=[]:=Q1 aly.1
        subst this
        exact .truth qr
       | @to _ _ r1 r2 x1 y1 hx1 hy1 =>
        obtain ⟨u,v,rfl⟩:=lz2 (vs:=zs) aly'.1
        obtain ⟨k1,h1,h2⟩:=aly'.2 0 u r1 rfl rfl
        obtain ⟨k2,h3,h4⟩:=aly'.2 1 v r2 rfl rfl
        rw [hx1] at h1
        rw [hy1] at h3
        cases h1
        cases h3
        exact .to qr h2 h4
      exact ⟨n,by omega,_,_,_,Ca td r k,w1++[x],c,rfl,⟨⟨_,Ac,((tda'.same sB.t).same tP).put r (kr.same tP),by omega⟩,by rw [Ag nd.symm,erv];exact sAll _ _ ew3,by simp;omega,(J.sm.trans sAll).over hpd⟩,t⟩
noncomputable def Zc4 (K:Oz):Sp:=fun vs H Q _=>∃(v:V)(t:Tr),vs=[v]/\TrAt K H v t/\t.size<=2000/\∀(p:Addr)(rows:List V)(H':Hp),Same H H'->H p=none->H' p=some (.lst rows)->Al (RowT K H') rows (walk [] t)->Q (.ref p) H'
theorem sc_placed_forms:Bo ["tree", "told", "waiting", "pair", "number", "part"] ["tree"] (Bg Iw):=by walk_at "sc"
noncomputable def PlJ (K:Oz)(H:Hp)(v:V)(t:Tr)(pt pw:Addr)(m:Nat)(σ:St)(H':Hp):Prop:=∃(v3 v4 v5:Option V)(tv wv:List V)(dn st:List (List Nat×Tr)),σ=[some v,some (.ref pt),some (.ref pw),v3,v4,v5]/\H' pt=some (.lst tv)/\H' pw=some (.lst wv) /\
 Al (RowT K H') tv dn/\Al (RowT K H') wv st/\dn++Fh st=walk [] t/\m=En st/\Same H H'
theorem Zln {f:Addr}{fd:FuncData}(F:Fun K "placed_forms" "placed_forms" Iw f fd)(T:Txt K mg):Bc P w K mg base Be 1 f fd ["tree"] (Zc4 K):=by
 refine F.okq sc_placed_forms (fun vs H Q E h=>?_) (fun cdv A outer s H vs Q E hr h=>?_)
 ·obtain ⟨v,t,rfl,_⟩:=h
  rfl
 ·obtain ⟨v,t,rfl,ht,hz,q⟩:=h
  refine ⟨_,Af (Av 1 sc_placed_forms (Ax Ab))
   (Af (Av 2 sc_placed_forms (Ax (Aa (Ao (Aa (Ao Ab) (Aa (qv 0) Ab))) Ab)))
   (Af (Hw Pq (F1 K (qv 2) (by intro _;rfl)) (Af (Av 3 sc_placed_forms (Kv K Pz T4 T6 Lc (qv 2)))
   (Af (Cp (C0 K Pz Qe Qf De (qv 1) (Aa (qv 3) Ab)))
   (Ai (Co Pq rfl (Zlr K rfl T.reversed (Aa (Zf4 K (by rfl) T.list (by rfl) T.enumerate (Aa (Am K (Am K (qv 3) Ah) Ah) Ab)) Ab)) (Cr K (n:=2) rfl (Bm (A4 (i:=4) sc_placed_forms.nd rfl (Or.inl rfl)) (Bm (A4 (i:=5) sc_placed_forms.nd rfl (Or.inl rfl)) (Ct)))) (Ai (Cp (C0 K Pz Qe Qf De (qv 2) (Aa (Ao (Aa (A6 (Lw K) (Am K (qv 3) Ah) (Ao (Aa (qv 4) Ab))) (Aa (qv 5) Ab))) Ab)))))))))
   (Ai (Ar (qv 1))))),?_⟩
  have bg:=big
  walk_at "r"
  refine ⟨Br,fun pt hpt=>?_⟩
  walk_at "r"
  refine ⟨Br,fun p0 hp0=>?_⟩
  walk_at "r"
  refine ⟨A5,fun p1 hp1=>?_⟩
  walk_at "r"
  refine ⟨Bx,fun pw hpw=>?_⟩
  walk_at "r"
  have s0:Same (upd H pt (.lst [])) _:=((Same.upd (o:=.tup []) hp0).put (o:=.tup [.ref p0,v]) hp1).put (o:=.lst [.ref p1]) hpw
  have s1:Same (upd (upd H pt (.lst [])) p0 (.tup [])) _:=(Same.upd (o:=.tup [.ref p0,v]) hp1).put (o:=.lst [.ref p1]) hpw
  have s2:=Same.upd (o:=.lst [.ref p1]) hpw
  have sH:=(Same.upd (o:=.lst []) hpt).trans s0
  have ept:=s0 pt _ Ac
  have epw:upd (upd (upd (upd H pt (.lst [])) p0 (.tup [])) p1 (.tup [.ref p0,v])) pw (.lst [.ref p1]) pw=some (.lst [.ref p1]):=Ac
  have ep0:=s1 p0 _ Ac
  have ep1:=s2 p1 _ Ac
  have npw:pt≠pw:=fun z=>by rw [z] at ept;rw [Ac] at ept;cases ept
  have hpw0:H pw=none:=((Same.upd (o:=.lst []) hpt).trans ((Same.upd (o:=.tup []) hp0).put (o:=.tup [.ref p0,v]) hp1)).free hpw
  refine ⟨PlJ K H v t pt pw,⟨_,none,none,none,[],[.ref p1],[],[([],t)],rfl,ept,epw,.nil,Al.nil.snoc ⟨p1,p0,v,rfl,SqT.of ep1,ep0,ht.same sH⟩,by simp [Fh],rfl,sH⟩,?_⟩
  rintro m σ' H' ⟨v3,v4,v5,tv,wv,dn,st,rfl,et,ew,al1,al2,hw,rfl,sm⟩
  have hdl:dn.length+En st=t.size:=by
   have:=congrArg Qt hw
   rw [O7,Dr] at this
   exact this
  have htl:tv.length=dn.length:=al1.1
  walk_at "r"
  refine Fy (SqL.of ew) ?_
  by_cases hwv:wv=[]
  ·subst hwv
   have hst:st=[]:=Q1 al2.1.symm
   subst hst
   refine iteF ?_
   walk_at "r"
   rw [Zni,Pw] at hw
   rw [hw] at al1
   exact q pt tv H' sm hpt et al1
  obtain ⟨wv',tp,st',x,rfl,rfl,al3,hrow⟩:=al2.last hwv
  have hne:(!(wv'++[tp]).isEmpty)=true:=by simp
  rw [hne]
  refine iteT ?_
  obtain ⟨pl,tx⟩:=x
  have hx:(pl,tx)∈walk [] t:=by rw [<- hw,Nh];simp
  have hpl:pl.length<=2000:=by have:=Kh [] t _ hx;simp at this;omega
  have hload:=Zkr st' (pl,tx)
  have hll:=Zpb (st'++(B4 pl 0 tx.ps).reverse)
  refine ⟨fun σ2 H2=>∃ m',m' < En (st'++[(pl,tx)])/\PlJ K H v t pt pw m' σ2 H2,fun _ _ h=>h,?_⟩
  walk_at "r"
  refine B5 (SqL.of ew) ?_
  refine Lh ew ?_
  have t1:SameT H' (upd H' pw (.lst wv')):=SameT.set ew
  have et2:upd H' pw (.lst wv') pt=some (.lst tv):=by rw [Ag npw];exact et
  walk_at "r"
  refine B5 (SqL.of et2) ?_
  walk_at "r"
  refine C3 et2 (by omega) ?_
  have t2:SameT H' (upd (upd H' pw (.lst wv')) pt (.lst (tv++[tp]))):=t1.trans (SameT.set et2)
  have et3:upd (upd H' pw (.lst wv')) pt (.lst (tv++[tp])) pt=some (.lst (tv++[tp])):=Ac
  have ew3:upd (upd H' pw (.lst wv')) pt (.lst (tv++[tp])) pw=some (.lst wv'):=by rw [Ag npw.symm,Ac]
  have sm3:Same H (upd (upd H' pw (.lst wv')) pt (.lst (tv++[tp]))):=(sm.over hpw0).over hpt
  revert t2 et3 ew3 sm3
  generalize upd (upd H' pw (.lst wv')) pt (.lst (tv++[tp]))=H3
  intro t2 et3 ew3 sm3
  have hrow3:=RowT.same t2 _ _ hrow
  obtain ⟨a,p,u,rfl,qa,qp,hu⟩:=id hrow3
  cases hu with
  | @mk b pp wd nv n vs ts qb hn qpp hl hch =>
  walk_at "r"
  refine Au qa rfl ?_
  walk_at "r"
  refine Au qb rfl ?_
  walk_at "r"
  refine ⟨pp,vs,rfl,qpp,fun S ys H4 hS s4 hl4 hpairs hS4=>?_⟩
  walk_at "r"
  refine ⟨S,ys,rfl,SqL.of hS4,?_⟩
  have nSp:pw≠S:=Aw ew3 hS
  have nSt:pt≠S:=Aw et3 hS
  have al4:Al (RowT K H4) wv' st':=al3.mono (RowT.same (t2.trans s4.t))
  have hkl:(B4 pl 0 ts).length=ys.length:=by rw [Zeg];omega
  refine Zjn (K:=K) (a:=S) (xs:=ys) (fun j σ5 H5=>∃(v4 v5:Option V)(wv5:List V),σ5=[some v,some (.ref pt),some (.ref pw),some (.ref a),v4,v5]/\H5 pt=some (.lst (tv++[.ref a]))/\H5 pw=some (.lst wv5)/\H5 S=some (.lst ys)/\Al (RowT K H5) wv5 (st'++((B4 pl 0 ts).drop (ys.length - j)).reverse)/\SameT H4 H5/\Same H H5)
   ⟨_,_,wv',rfl,s4 _ _ et3,s4 _ _ ew3,hS4,by rw [Nat.sub_zero,So (by omega)];simpa using al4,SameT.refl _,sm3.trans s4⟩ ?_ ?_ ?_
  ·rintro j σ5 H5 _ ⟨_,_,_,_,_,_,e,_⟩
   exact SqL.of e
  ·rintro i y σ5 H5 hi hy ⟨v4',v5',wv5,rfl,e5t,e5w,e5s,al5,t5,sm5⟩
   obtain ⟨tt,xw,rfl,hxw,htt⟩:=hpairs _ _ hy
   have htt5:=(t5 tt).1 _ htt
   walk_at "r"
   refine Cm (SqT.of htt5) rfl ?_
   walk_at "r"
   refine B5 (SqL.of e5w) ?_
   walk_at "r"
   have T5:SameT H3 H5:=s4.t.trans t5
   refine Au (T5.tup qa) rfl ?_
   walk_at "r"
   refine ⟨Bx,fun p6 h6=>?_⟩
   refine Zks (((T5.trans (SameT.new h6)) p).1 _ qp) Ac (by show (Bk pl).length+1<=sizeLine;unfold Bk;rw [O6];omega) fun r H7 s7 q7=>?_
   walk_at "r"
   refine ⟨A5,fun p7 h7=>?_⟩
   walk_at "r"
   have s57:Same H5 H7:=(Same.upd h6).trans s7
   have s58:=s57.put (o:=.tup [.ref r,xw]) h7
   have hlw:wv5.length=st'.length+((B4 pl 0 ts).drop (ys.length - i)).length:=by have:=al5.1;simp at this ⊢;omega
   have hlk:(st'++(B4 pl 0 ts).reverse).length=st'.length+ys.length:=by rw [O7,Ua,hkl]
   have hll':(st'++(B4 pl 0 ts).reverse).length<=2000:=by
    have h1:En (st'++(B4 pl 0 (Tr.mk wd n ts).ps).reverse) < En (st'++[(pl,Tr.mk wd n ts)]):=hload
    have h2:(st'++(B4 pl 0 (Tr.mk wd n ts).ps).reverse).length<=En (st'++(B4 pl 0 (Tr.mk wd n ts).ps).reverse):=hll
    have h3:(Tr.mk wd n ts).ps=ts:=rfl
    rw [h3] at h1 h2
    omega
   have hdr:((B4 pl 0 ts).drop (ys.length - i)).length<=ys.length:=by rw [Ud];omega
   refine C3 (s58 _ _ e5w) (by omega) ?_
   have e8w:=s58 _ _ e5w
   have t9:SameT H5 (upd (upd H7 p7 (.tup [.ref r,xw])) pw (.lst (wv5++[.ref p7]))):=s58.t.trans (SameT.set e8w)
   obtain ⟨tk,htk,hat⟩:∃ tk,ts[ys.length - 1 - i]?=some tk/\TrAt K H3 xw tk:=by
    have hj:=(Pa.mp hxw).1
    have hj':ys.length - 1 - i < ts.length:=by omega
    exact ⟨_,O1 hj',hch _ _ _ hxw (O1 hj')⟩
   have hkid:(B4 pl 0 ts)[ys.length - 1 - i]?=some (pl++[ys.length - 1 - i],tk):=by
    rw [Zei,htk]
    simp
   refine ⟨_,_,wv5++[.ref p7],rfl,?_,Ac,?_,?_,t5.trans t9,(sm5.trans s58).over hpw0⟩
   ·rw [Ag npw];exact s58 _ _ e5t
   ·rw [Ag nSp.symm];exact s58 _ _ e5s
   ·rw [Zkj hkl hi hkid,<- P5]
    refine (al5.mono (RowT.same t9)).snoc ⟨p7,r,xw,rfl,(SameT.set e8w).tup (SqT.of Ac),?_,hat.sameT (T5.trans t9)⟩
    have q9:=(((SameT.new (o:=.tup [.ref r,xw]) h7).trans (SameT.set (o:=.lst (wv5++[.ref p7])) e8w)) r).1 _ q7
    have e:Bk (pl++[ys.length - 1 - i])=Bk pl++[.int ((ys.length - 1 - i:Nat):Int)]:=by unfold Bk;rw [P6];rfl
    show upd _ _ _ r=some (.tup (Bk (pl++[ys.length - 1 - i])))
    rw [e]
    exact q9
  ·rintro σ5 H5 ⟨v4',v5',wv5,rfl,e5t,e5w,e5s,al5,t5,sm5⟩
   rw [Ri,List.drop_zero] at al5
   refine ⟨_,hload,_,_,_,tv++[.ref a],wv5,dn++[(pl,.mk wd n ts)],_,rfl,e5t,e5w,?_,al5,?_,rfl,sm5⟩
   ·exact (al1.mono (RowT.same (t2.trans (s4.t.trans t5)))).snoc (RowT.same (s4.t.trans t5) _ _ hrow3)
   ·rw [<- hw,Nh,P5]
    rfl
noncomputable def As (m:Nat)(w:Str):Nat×List Nat×List Nat×Ae :=
 if w = "num" then (0,[],[],[]) else if w = "truth" then (1,[],[],[]) else if w = "plus" \/ w = "minus" then (0,[0,0],[],[]) else if w = "less" then (1,[0,0],[],[]) else
 if w = "if" then (m,[1,m,m],[],[.any]) else if w = "gap" \/ w = "odd" \/ w = "name" then (m,[],[],[.any]) else if w = "let" then (m+1,[m,m+1],[m],[.any,.any]) else
 if w = "fn" then (m+2,[m+1],[m],[.any,.any,.to m (m+1)]) else if w = "rec" then (m+2,[m+1],[m+2,m],[.any,.any,.to m (m+1)]) else (m+1,[m+2,m],[],[.any,.any,.to m (m+1)])
noncomputable def Bt (a:Addr)(H H':Hp):Prop:=∀ x o,x≠a->H x=some o->H' x=some o
theorem Gr {H H':Hp}(s:Same H H')(a:Addr):Bt a H H':=fun x o _ h=>s x o h
theorem Bt.trans {a:Addr}{H H1 H2:Hp}(h:Bt a H H1)(g:Bt a H1 H2):Bt a H H2:=fun x o n e=>g x o n (h x o n e)
theorem Bt.upd {a:Addr}{H:Hp}{o:HO}:Bt a H (upd H a o):=fun x o' n e=>by rw [Ag n];exact e
theorem Bt.t {a:Addr}{H H':Hp}{us:List V}(h:Bt a H H')(e:H a=some (.lst us)):SameT H H':=fun b =>
 ⟨fun xs e1=>h b _ (fun z=>by rw [z,e] at e1;cases e1) e1,fun o u e1=>h b _ (fun z=>by rw [z,e] at e1;cases e1) e1⟩
theorem ShG.snoc {H:Hp}{a p:Addr}{us:List V}{sh:Ae}{s:Sh}(e:H a=some (.lst us))(al:Al (ShE K H) us sh)(hp:SqT K H p (shV s)):ShG K (upd H a (.lst (us++[.ref p]))) a (sh++[s]) :=
 ⟨us++[.ref p],Ac,(al.mono (ShE.same (SameT.set e))).snoc ⟨p,rfl,(SameT.set e).tup hp⟩⟩
noncomputable def Zd9:Sp:=fun vs H Q _=>∃(a:Addr)(x:V)(us:List V),vs=[.ref a,x]/\H a=some (.lst us)/\us.length < 5000/\Q (.int (us.length:Nat)) (upd H a (.lst (us++[x])))
noncomputable def Zdt (K:Oz):Sp:=fun vs H Q _=>∃(a:Addr)(w:Str)(sh:Ae),vs=[.ref a,.str w]/\sh.length<=1000/\ShG K H a sh /\
 ∀(r b c:Addr)(H':Hp),Bt a H H'->ShG K H' a (sh++(As sh.length w).2.2.2)->SqT K H' r [.int ((As sh.length w).1:Nat),.ref b,.ref c]->H' b=some (.lst (Ak (As sh.length w).2.1))->H b=none->b≠a->H' c=some (.lst (Ak (As sh.length w).2.2.1))->H c=none->c≠a->c≠b->Q (.ref r) H'
theorem Et {x y:Str}:decide (V.str x=V.str y)=decide (x=y):=by
 by_cases h:x=y
 ·subst h;simp
 ·rw [decide_eq_false h,decide_eq_false (fun e=>h (by injection e))]
theorem Zk6 (a b:Str):(a == b)=decide (b=a):=by
 rw [Sa,beq_iff_eq,decide_eq_true_iff]
 exact eq_comm
theorem Hf (a t:Str)(r:List V):B1 (.str t) (.str a::r)=(decide (t=a) || B1 (.str t) r):=by
 show ((a == t) || _)=_
 rw [Zk6]
 rfl
theorem Zcc (x:V):B1 x []=false:=rfl
theorem in2 {w x y:Str}:B1 (.str w) [.str x,.str y]=decide (w=x\/w=y):=by
 rw [Hf,Hf,Zcc,Up]
 by_cases h1:w=x <;> by_cases h2:w=y <;> simp [h1,h2]
theorem in3 {w x y z:Str}:B1 (.str w) [.str x,.str y,.str z]=decide (w=x\/w=y\/w=z):=by
 rw [Hf,Hf,Hf,Zcc,Up]
 by_cases h1:w=x <;> by_cases h2:w=y <;> by_cases h3:w=z <;> simp [h1,h2,h3]
theorem Lg:Bo ["shapes", "word", "one", "other", "function"] ["shapes", "word"] (Bg Iq):=by walk_at "sc"
theorem Zky {f:Addr}{fd:FuncData}(F:Fun K "kinds_of_word" "kinds_of_word" Iq f fd)(T:Txt K mg)(G_NUM:Fc mg "NUM" (.int 0))(G_TRUTH:Fc mg "TRUTH" (.int 1))(C_new_kind:A9 P w K mg base 1 "new_kind" ["shapes", "shape"] Zd9):Bc P w K mg base Be 2 f fd ["shapes", "word"] (Zdt K):=by
 refine F.okq Lg (fun vs H Q E h=>?_) (fun cdv A outer s H vs Q E hr h=>?_)
 ·obtain ⟨a,w,sh,rfl,_⟩:=h
  rfl
 ·obtain ⟨a,w,sh,rfl,hm2,S,q⟩:=h
  refine ⟨_,Af (A7 (Az (B3 K hr.u200) (qv 1) Aq (Ay _)) (Ai (Ar (Ao (Aa (D8 G_NUM) (Aa (Ax Ab) (Aa (Ax Ab) Ab)))))) A8)
   (Af (A7 (Az (B3 K hr.u200) (qv 1) Aq (Ay _)) (Ai (Ar (Ao (Aa (D8 G_TRUTH) (Aa (Ax Ab) (Aa (Ax Ab) Ab)))))) A8)
   (Af (A7 (Az (Lk K) (qv 1) (Ao (Aa Aq (Aa Aq Ab))) (by rfl)) (Ai (Ar (Ao (Aa (D8 G_NUM) (Aa (Ax (Aa (D8 G_NUM) (Aa (D8 G_NUM) Ab))) (Aa (Ax Ab) Ab)))))) A8)
   (Af (A7 (Az (B3 K hr.u200) (qv 1) Aq (Ay _)) (Ai (Ar (Ao (Aa (D8 G_TRUTH) (Aa (Ax (Aa (D8 G_NUM) (Aa (D8 G_NUM) Ab))) (Aa (Ax Ab) Ab)))))) A8)
   (Af (Av 2 Lg (Ba C_new_kind hr.m (Aa (qv 0) (Aa (Ao (Aa Aq Ab)) Ab))))
   (Af (A7 (Az (B3 K hr.u200) (qv 1) Aq (Ay _)) (Ai (Ar (Ao (Aa (qv 2) (Aa (Ax (Aa (D8 G_TRUTH) (Aa (qv 2) (Aa (qv 2) Ab)))) (Aa (Ax Ab) Ab)))))) A8)
   (Af (A7 (Az (Lk K) (qv 1) (Ao (Aa Aq (Aa Aq (Aa Aq Ab)))) (by rfl)) (Ai (Ar (Ao (Aa (qv 2) (Aa (Ax Ab) (Aa (Ax Ab) Ab)))))) A8)
   (Af (Av 3 Lg (Ba C_new_kind hr.m (Aa (qv 0) (Aa (Ao (Aa Aq Ab)) Ab))))
   (Af (A7 (Az (B3 K hr.u200) (qv 1) Aq (Ay _)) (Ai (Ar (Ao (Aa (qv 3) (Aa (Ax (Aa (qv 2) (Aa (qv 3) Ab))) (Aa (Ax (Aa (qv 2) Ab)) Ab)))))) A8)
   (Af (Av 4 Lg (Ba C_new_kind hr.m (Aa (qv 0) (Aa (Ao (Aa Aq (Aa (qv 2) (Aa (qv 3) Ab)))) Ab))))
   (Af (A7 (Az (B3 K hr.u200) (qv 1) Aq (Ay _)) (Ai (Ar (Ao (Aa (qv 4) (Aa (Ax (Aa (qv 3) Ab)) (Aa (Ax (Aa (qv 2) Ab)) Ab)))))) A8)
   (Af (A7 (Az (B3 K hr.u200) (qv 1) Aq (Ay _)) (Ai (Ar (Ao (Aa (qv 4) (Aa (Ax (Aa (qv 3) Ab)) (Aa (Ax (Aa (qv 4) (Aa (qv 2) Ab))) Ab)))))) A8)
   (Ai (Ar (Ao (Aa (qv 3) (Aa (Ax (Aa (qv 4) (Aa (qv 2) Ab))) (Aa (Ax Ab) Ab))))))))))))))))),?_⟩
  have bg:=big
  obtain ⟨us,ea,ala⟩:=S.ex
  have la:us.length=sh.length:=ala.1
  have fin:∀(H1:Hp)(g:Nat)(xs ys:List Nat)(new:Ae)(us1:List V),Bt a H H1->H1 a=some (.lst us1)->ShG K H1 a (sh++new)->As sh.length w=(g,xs,ys,new)->∀ b,H1 b=none->∀ c,upd H1 b (.lst (Ak xs)) c=none->∀ r,upd (upd H1 b (.lst (Ak xs))) c (.lst (Ak ys)) r=none->Q (.ref r) (upd (upd (upd H1 b (.lst (Ak xs))) c (.lst (Ak ys))) r (.tup [.int (g:Nat),.ref b,.ref c])):=by
   rintro H1 g xs ys new us1 hb e1 S1 hk b h1 c h2 r h3
   rw [hk] at q
   have s1:=Same.upd (o:=.lst (Ak xs)) h1
   have s2:=Same.upd (o:=.lst (Ak ys)) h2
   have s3:=Same.upd (o:=.tup [.int (g:Nat),.ref b,.ref c]) h3
   have fr:∀{x:Addr},H1 x=none->H x=none:=fun {x} hx=>by
    cases e:H x with
    | none=>rfl
    | some o=>rw [hb x o (fun z=>by rw [z,e1] at hx;cases hx) e] at hx;cases hx
   exact q r b c _ (hb.trans (Gr ((s1.trans s2).trans s3) a)) (S1.same ((s1.trans s2).trans s3)) (SqT.of Ac) ((s2.trans s3) _ _ Ac) (fr h1) (Aw e1 h1).symm (s3 _ _ Ac) (fr (s1.free h2)) (Aw (s1 _ _ e1) h2).symm (Aw Ac h2).symm
  have old:∀(H1:Hp)(g:Nat)(xs ys:List Nat),Same H H1->As sh.length w=(g,xs,ys,[])->∀ b,H1 b=none->∀ c,upd H1 b (.lst (Ak xs)) c=none->∀ r,upd (upd H1 b (.lst (Ak xs))) c (.lst (Ak ys)) r=none->Q (.ref r) (upd (upd (upd H1 b (.lst (Ak xs))) c (.lst (Ak ys))) r (.tup [.int (g:Nat),.ref b,.ref c])):=fun H1 g xs ys s1 hk=>fin H1 g xs ys [] us (Gr s1 a) (s1 _ _ ea) (by rw [Pw];exact S.same s1) hk
  unfold As at fin old
  walk_at "r"
  rw [Et]
  refine Bv (fun c=>?_) (fun c=>?_)
  ·have c:=of_decide_eq_true c
   rw [if_pos c] at old
   walk_at "r"
   refine ⟨Br,fun b hb=>?_⟩
   walk_at "r"
   refine ⟨Br,fun c hc=>?_⟩
   walk_at "r"
   refine ⟨Bp,fun r hr'=>?_⟩
   exact old H 0 [] [] (Same.refl _) rfl b hb c hc r hr'
  have c1:¬ w = "num" := fun e=>c (decide_eq_true e)
  rw [if_neg c1] at fin old
  walk_at "r"
  rw [Et]
  refine Bv (fun c=>?_) (fun c=>?_)
  ·have c:=of_decide_eq_true c
   rw [if_pos c] at old
   walk_at "r"
   refine ⟨Br,fun b hb=>?_⟩
   walk_at "r"
   refine ⟨Br,fun c hc=>?_⟩
   walk_at "r"
   refine ⟨Bp,fun r hr'=>?_⟩
   exact old H 1 [] [] (Same.refl _) rfl b hb c hc r hr'
  have c1:¬ w = "truth" := fun e=>c (decide_eq_true e)
  rw [if_neg c1] at fin old
  walk_at "r"
  refine ⟨A5,fun p1 h1=>?_⟩
  refine Em (.inr (SqT.of Ac)) rfl rfl ?_
  rw [if_neg Pf,in2]
  have s1:Same H (upd H p1 (.tup [.str "plus",.str "minus"])):=Same.upd h1
  revert s1
  generalize upd H p1 (.tup [.str "plus",.str "minus"])=H1
  intro s1
  walk_at "r"
  refine Bv (fun c=>?_) (fun c=>?_)
  ·have c:=of_decide_eq_true c
   rw [if_pos c] at old
   walk_at "r"
   refine ⟨A5,fun b hb=>?_⟩
   walk_at "r"
   refine ⟨Br,fun c hc=>?_⟩
   walk_at "r"
   refine ⟨Bp,fun r hr'=>?_⟩
   exact old H1 0 [0,0] [] s1 rfl b hb c hc r hr'
  have c1:¬ (w = "plus" \/ w = "minus"):=fun e=>c (decide_eq_true e)
  rw [if_neg c1] at fin old
  walk_at "r"
  rw [Et]
  refine Bv (fun c=>?_) (fun c=>?_)
  ·have c:=of_decide_eq_true c
   rw [if_pos c] at old
   walk_at "r"
   refine ⟨A5,fun b hb=>?_⟩
   walk_at "r"
   refine ⟨Br,fun c hc=>?_⟩
   walk_at "r"
   refine ⟨Bp,fun r hr'=>?_⟩
   exact old H1 1 [0,0] [] s1 rfl b hb c hc r hr'
  have c1:¬ w = "less" := fun e=>c (decide_eq_true e)
  rw [if_neg c1] at fin
  clear old
  walk_at "r"
  refine ⟨Bx,fun p2 h2=>?_⟩
  walk_at "r"
  have s2:=s1.put (o:=.tup [.str "any"]) h2
  have ea2:=s2 _ _ ea
  refine ⟨a,.ref p2,us,rfl,ea2,by omega,?_⟩
  have S2:=ShG.snoc (K:=K) (s:=.any) ea2 (ala.mono (ShE.same s2.t)) (SqT.of Ac)
  have b2:Bt a H (upd (upd H1 p2 (.tup [.str "any"])) a (.lst (us++[.ref p2]))):=(Gr s2 a).trans Bt.upd
  have ea3:upd (upd H1 p2 (.tup [.str "any"])) a (.lst (us++[.ref p2])) a=some (.lst (us++[.ref p2])):=Ac
  revert S2 b2 ea3
  generalize upd (upd H1 p2 (.tup [.str "any"])) a (.lst (us++[.ref p2]))=H2
  intro S2 b2 ea3
  rw [la]
  walk_at "r"
  rw [Et]
  refine Bv (fun c=>?_) (fun c=>?_)
  ·have c:=of_decide_eq_true c
   rw [if_pos c] at fin
   walk_at "r"
   refine ⟨Bp,fun b hb=>?_⟩
   walk_at "r"
   refine ⟨Br,fun c hc=>?_⟩
   walk_at "r"
   refine ⟨Bp,fun r hr'=>?_⟩
   exact fin H2 sh.length [1,sh.length,sh.length] [] [.any] _ b2 ea3 S2 rfl b hb c hc r hr'
  have c1:¬ w = "if" := fun e=>c (decide_eq_true e)
  rw [if_neg c1] at fin
  walk_at "r"
  refine ⟨Bp,fun p3 h3=>?_⟩
  refine Em (.inr (SqT.of Ac)) rfl rfl ?_
  rw [if_neg Pf,in3]
  have s3:=Same.upd (o:=.tup [.str "gap",.str "odd",.str "name"]) h3
  have S3:=S2.same s3
  have b3:=b2.trans (Gr s3 a)
  have ea4:=s3 _ _ ea3
  revert S3 b3 ea4
  generalize upd H2 p3 (.tup [.str "gap",.str "odd",.str "name"])=H3
  intro S3 b3 ea4
  walk_at "r"
  refine Bv (fun c=>?_) (fun c=>?_)
  ·have c:=of_decide_eq_true c
   rw [if_pos c] at fin
   walk_at "r"
   refine ⟨Br,fun b hb=>?_⟩
   walk_at "r"
   refine ⟨Br,fun c hc=>?_⟩
   walk_at "r"
   refine ⟨Bp,fun r hr'=>?_⟩
   exact fin H3 sh.length [] [] [.any] _ b3 ea4 S3 rfl b hb c hc r hr'
  have c1:¬ (w = "gap" \/ w = "odd" \/ w = "name"):=fun e=>c (decide_eq_true e)
  rw [if_neg c1] at fin
  walk_at "r"
  refine ⟨Bx,fun p4 h4=>?_⟩
  have s4:=Same.upd (o:=.tup [.str "any"]) h4
  walk_at "r"
  obtain ⟨us3,ea3',al3⟩:=S3.ex
  rw [ea4] at ea3'
  cases ea3'
  have l3:(us++[V.ref p2]).length=sh.length+1:=by rw [O7,la];rfl
  refine ⟨a,.ref p4,_,rfl,s4 _ _ ea4,by omega,?_⟩
  have S4:=ShG.snoc (K:=K) (s:=.any) (s4 _ _ ea4) (al3.mono (ShE.same s4.t)) (SqT.of Ac)
  have b4:Bt a H (upd (upd H3 p4 (.tup [.str "any"])) a (.lst (us++[.ref p2]++[.ref p4]))):=(b3.trans (Gr s4 a)).trans Bt.upd
  have ea5:upd (upd H3 p4 (.tup [.str "any"])) a (.lst (us++[.ref p2]++[.ref p4])) a=some (.lst (us++[.ref p2]++[.ref p4])):=Ac
  revert S4 b4 ea5
  generalize upd (upd H3 p4 (.tup [.str "any"])) a (.lst (us++[.ref p2]++[.ref p4]))=H4
  intro S4 b4 ea5
  rw [l3]
  rw [P5] at S4
  walk_at "r"
  rw [Et]
  refine Bv (fun c=>?_) (fun c=>?_)
  ·have c:=of_decide_eq_true c
   rw [if_pos c] at fin
   walk_at "r"
   refine ⟨A5,fun b hb=>?_⟩
   walk_at "r"
   refine ⟨Bx,fun c hc=>?_⟩
   walk_at "r"
   refine ⟨Bp,fun r hr'=>?_⟩
   exact fin H4 (sh.length+1) [sh.length,sh.length+1] [sh.length] [.any,.any] _ b4 ea5 S4 rfl b hb c hc r hr'
  have c1:¬ w = "let" := fun e=>c (decide_eq_true e)
  rw [if_neg c1] at fin
  walk_at "r"
  refine ⟨Bp,fun p6 h6=>?_⟩
  have s6:=Same.upd (o:=.tup [.str "to",.int (sh.length:Nat),.int (sh.length+1:Nat)]) h6
  walk_at "r"
  obtain ⟨us5,ea5',al5⟩:=S4.ex
  rw [ea5] at ea5'
  cases ea5'
  have l5:(us++[V.ref p2]++[V.ref p4]).length=sh.length+2:=by rw [O7,l3];rfl
  refine ⟨a,.ref p6,_,rfl,s6 _ _ ea5,by omega,?_⟩
  have S6:=ShG.snoc (K:=K) (s:=.to sh.length (sh.length+1)) (s6 _ _ ea5) (al5.mono (ShE.same s6.t)) (SqT.of Ac)
  have b6:Bt a H (upd (upd H4 p6 (.tup [.str "to",.int (sh.length:Nat),.int (sh.length+1:Nat)])) a (.lst (us++[.ref p2]++[.ref p4]++[.ref p6]))):=(b4.trans (Gr s6 a)).trans Bt.upd
  have ea7:upd (upd H4 p6 (.tup [.str "to",.int (sh.length:Nat),.int (sh.length+1:Nat)])) a (.lst (us++[.ref p2]++[.ref p4]++[.ref p6])) a=some (.lst (us++[.ref p2]++[.ref p4]++[.ref p6])):=Ac
  revert S6 b6 ea7
  generalize upd (upd H4 p6 (.tup [.str "to",.int (sh.length:Nat),.int (sh.length+1:Nat)])) a (.lst (us++[.ref p2]++[.ref p4]++[.ref p6]))=H6
  intro S6 b6 ea7
  rw [l5]
  rw [P5] at S6
  walk_at "r"
  rw [Et]
  refine Bv (fun c=>?_) (fun c=>?_)
  ·have c:=of_decide_eq_true c
   rw [if_pos c] at fin
   walk_at "r"
   refine ⟨Bx,fun b hb=>?_⟩
   walk_at "r"
   refine ⟨Bx,fun c hc=>?_⟩
   walk_at "r"
   refine ⟨Bp,fun r hr'=>?_⟩
   exact fin H6 (sh.length+2) [sh.length+1] [sh.length] [.any,.any,.to sh.length (sh.length+1)] _ b6 ea7 S6 rfl b hb c hc r hr'
  have c1:¬ w = "fn" := fun e=>c (decide_eq_true e)
  rw [if_neg c1] at fin
  walk_at "r"
  rw [Et]
  refine Bv (fun c=>?_) (fun c=>?_)
  ·have c:=of_decide_eq_true c
   rw [if_pos c] at fin
   walk_at "r"
   refine ⟨Bx,fun b hb=>?_⟩
   walk_at "r"
   refine ⟨A5,fun c hc=>?_⟩
   walk_at "r"
   refine ⟨Bp,fun r hr'=>?_⟩
   exact fin H6 (sh.length+2) [sh.length+1] [sh.length+2,sh.length] [.any,.any,.to sh.length (sh.length+1)] _ b6 ea7 S6 rfl b hb c hc r hr'
  have c1:¬ w = "rec" := fun e=>c (decide_eq_true e)
  rw [if_neg c1] at fin
  walk_at "r"
  refine ⟨A5,fun b hb=>?_⟩
  walk_at "r"
  refine ⟨Br,fun c hc=>?_⟩
  walk_at "r"
  refine ⟨Bp,fun r hr'=>?_⟩
  exact fin H6 (sh.length+1) [sh.length+2,sh.length] [] [.any,.any,.to sh.length (sh.length+1)] _ b6 ea7 S6 rfl b hb c hc r hr'
noncomputable abbrev Ev:=Str->Option Nat
noncomputable def Cg (e:Ev)(ns:List Str)(ks:List Nat):Ev:=(ns.zip ks).foldl (fun e p=>fun s=>if s=p.1 then some p.2 else e s) e
noncomputable def DcS (kvs:List (Ap×V))(e:Ev):Prop:=∀ s:Str,Bl kvs (.inr s)=(e s).map fun n=>V.int ((n:Nat):Int)
theorem DcS.put {kvs:List (Ap×V)}{e:Ev}(h:DcS kvs e)(s:Str)(n:Nat):DcS (Bb kvs (.inr s) (.int (n:Nat))) (fun t=>if t=s then some n else e t):=fun t=>by
 rw [F0]
 show _=Option.map _ (if t=s then some n else e t)
 by_cases ht:t=s
 ·rw [if_pos (by rw [ht]),if_pos ht]
  rfl
 ·rw [if_neg fun z=>ht (Sum.inr.inj z),if_neg ht]
  exact h t
structure EvAt (H:Hp)(a:Addr)(e:Ev)(m:Nat):Prop where
 ex:∃ kvs,H a=some (.dK kvs)/\DcS kvs e/\kvs.length<=m
theorem EvAt.same {H H':Hp}{a:Addr}{e:Ev}{m:Nat}(h:EvAt H a e m)(s:Same H H'):EvAt H' a e m:=let ⟨kvs,h1,h2,h3⟩:=h.ex;⟨kvs,s _ _ h1,h2,h3⟩
noncomputable def Zcz (K:Oz):Sp:=fun vs H Q _=>∃(a n k:Addr)(e:Ev)(ns:List Str)(ks:List Nat)(m:Nat),vs=[.ref a,.ref n,.ref k]/\EvAt H a e m/\m<=5000/\H n=some (.lst (ns.map V.str))/\H k=some (.lst (Ak ks))/\ns.length<=2/\∀ p H',Same H H'->H p=none->EvAt H' p (Cg e ns ks) (m+2)->Q (.ref p) H'
theorem Zha {e:Ev}{ns:List Str}{ks:List Nat}{i:Nat}{s:Str}{n:Nat}(h1:ns[i]?=some s)(h2:ks[i]?=some n):Cg e (ns.take (i+1)) (ks.take (i+1))=fun t=>if t=s then some n else Cg e (ns.take i) (ks.take i) t:=by
 unfold Cg
 have hz:(ns.take (i+1)).zip (ks.take (i+1))=(ns.take i).zip (ks.take i)++[(s,n)]:=by
  rw [Qn,Qn,h1,h2]
  have l1:=(Pa.mp h1).1
  have l2:=(Pa.mp h2).1
  exact List.zip_append (by rw [Pt,Pt];omega)
 rw [hz,List.foldl_append]
 rfl
theorem Zep:∀(ns:List Str)(ks:List Nat),(ns.take (min ns.length ks.length)).zip (ks.take (min ns.length ks.length))=ns.zip ks
 | [],_=>by simp
 | _::_,[]=>by simp
 | a::r,b::s=>by
  have:=Zep r s
  rw [Pb,Pb,show min (r.length+1) (s.length+1)=min r.length s.length+1 by omega,List.take_succ_cons,List.take_succ_cons,Vg,Vg,this]
theorem Zfv (e:Ev)(ns:List Str)(ks:List Nat):Cg e (ns.take (min ns.length ks.length)) (ks.take (min ns.length ks.length))=Cg e ns ks:=by
 unfold Cg
 rw [Zep]
theorem sc_with_names:Bo ["around", "names", "kinds", "made", "name", "kind"] ["around", "names", "kinds"] (Bg Hz):=by walk_at "sc"
theorem Zok {f:Addr}{fd:FuncData}(F:Fun K "with_names" "with_names" Hz f fd)(T:Txt K mg):Bc P w K mg base Be 1 f fd ["around", "names", "kinds"] (Zcz K):=by
 refine F.okq sc_with_names (fun vs H Q E h=>?_) (fun cdv A outer s H vs Q E hr h=>?_)
 ·obtain ⟨a,n,k,e,ns,ks,m,rfl,_⟩:=h
  rfl
 ·obtain ⟨a,n,k,e,ns,ks,m,rfl,he,hm,hn,hk,hl,q⟩:=h
  refine ⟨_,Af (Av 3 sc_with_names (F4 Zjk (by rfl) T.dict (by decide +kernel) (Aa (qv 0) Ab)))
   (Af (Co Pq rfl (Zjc K rfl T.zip (Aa (qv 1) (Aa (qv 2) Ab))) (Cr K (n:=2) rfl (Bm (A4 (i:=4) sc_with_names.nd rfl (Or.inl rfl)) (Bm (A4 (i:=5) sc_with_names.nd rfl (Or.inl rfl)) (Ct)))) (Ai (E8 hr.u1 (qv 3) (qv 4) (qv 5))))
   (Ai (Ar (qv 3)))),?_⟩
  have bg:=big
  obtain ⟨kvs,ea,dc,kl⟩:=he.ex
  walk_at "r"
  refine ⟨a,kvs,rfl,ea,fun p hp=>?_⟩
  have s1:=Same.upd (o:=.dK kvs) hp
  walk_at "r"
  refine ⟨n,k,_,_,rfl,SqL.of (s1 _ _ hn),SqL.of (s1 _ _ hk),?_⟩
  refine Zny (K:=K) (a:=n) (b:=k) (xs:=ns.map V.str) (ys:=Ak ks) (fun i σ' H'=>∃ v4 v5 kv,σ'=[some (.ref a),some (.ref n),some (.ref k),some (.ref p),v4,v5]/\H' p=some (.dK kv)/\DcS kv (Cg e (ns.take i) (ks.take i))/\kv.length<=m+i/\Same H H')
   ⟨_,_,kvs,rfl,Ac,dc,kl,s1⟩ ?_ ?_ ?_
  ·rintro i σ' H' _ ⟨_,_,_,_,_,_,_,sm⟩
   exact ⟨SqL.of (sm _ _ hn),SqL.of (sm _ _ hk)⟩
  ·rintro i x y t σ' H' hx hy ht ⟨v4,v5,kv,rfl,ep,dcv,lv,sm⟩
   have hi:i < ns.length:=by have:=(Pa.mp hx).1;rwa [O6] at this
   have hik:i < ks.length:=by have:=(Pa.mp hy).1;unfold Ak at this;rwa [O6] at this
   have hxv:x=.str ns[i]:=by rw [Po,O1 hi] at hx;exact (Pg hx).symm
   have hyv:y=.int ((ks[i]:Nat):Int):=by unfold Ak at hy;rw [Po,O1 hik] at hy;exact (Pg hy).symm
   subst hxv hyv
   have s2:=Same.upd (o:=.tup [.str ns[i],.int ((ks[i]:Nat):Int)]) ht
   refine Cm (SqT.of Ac) rfl ?_
   walk_at "r"
   refine ⟨p,_,rfl,DPut.k (k:=.inr ns[i]) (s2 _ _ ep) (by omega),?_⟩
   have hl2:=Dq kv (.inr ns[i]) (.int ((ks[i]:Nat):Int))
   refine ⟨_,_,_,rfl,Ac,?_,by omega,(sm.trans s2).over hp⟩
   rw [Zha (O1 hi) (O1 hik)]
   exact dcv.put _ _
  ·rintro σ' H' ⟨v4,v5,kv,rfl,ep,dcv,lv,sm⟩
   have e1:min (ns.map V.str).length (Ak ks).length=min ns.length ks.length:=by unfold Ak;rw [O6,O6]
   rw [e1] at dcv lv
   rw [Zfv] at dcv
   walk_at "r"
   exact q p H' sm hp ⟨kv,ep,dcv,by omega⟩
end
end K34
namespace K19
open PySem L2
noncomputable def Df (w:Str)(n:Dt):Prop:=(w = "fn" \/ w = "let" \/ w = "name" -> ∃ t:Str,n=.flat (.str t))/\(w = "rec" -> ∃ t u:Str,n=.tup [.flat (.str t),.flat (.str u)])
inductive Dz:Tr->Prop where
 | mk {w:Str} {n:Dt} {ts:List Tr} (h:Df w n) (hs:∀ t∈ts,Dz t):Dz (.mk w n ts)
theorem Fn {w:Str}{n:Dt}(h1:w ≠ "fn")(h2:w ≠ "let")(h3:w ≠ "name")(h4:w ≠ "rec"):Df w n:=⟨fun h=>by rcases h with h | h | h <;> contradiction,fun h=>absurd h h4⟩
inductive Sub:Tr->List Nat->Prop where
 | nil (t:Tr):Sub t []
 | cons {w:Str} {n:Dt} {ts:List Tr} {j:Nat} {t:Tr} {r:List Nat} (h:ts[j]?=some t) (s:Sub t r):Sub (.mk w n ts) (j::r)
mutual
theorem Za2:∀(t:Tr)(x:List Nat×Tr),x∈walk [] t->Sub t x.1
 | .mk w n ps,x,h=>by
  rw [walk] at h
  rcases O5.mp h with rfl | h
  ·exact .nil _
  ·obtain ⟨j,t,r,e1,e2,e3⟩:=Zcs 0 ps x h
   rw [e2,Rj]
   exact .cons e1 e3
theorem Zcs:∀(i:Nat)(ts:List Tr)(x:List Nat×Tr),x∈Bf [] i ts->∃(j:Nat)(t:Tr)(r:List Nat),ts[j]?=some t/\x.1=(i+j)::r/\Sub t r
 | _,[],x,h=>by rw [Bf] at h;cases h
 | i,t::q,x,h=>by
  rw [Bf] at h
  rcases Pm.mp h with h | h
  ·rw [M9] at h
   obtain ⟨y,hy,rfl⟩:=Q8.mp h
   exact ⟨0,t,y.1,rfl,rfl,Za2 t y hy⟩
  ·obtain ⟨j,t',r,e1,e2,e3⟩:=Zcs (i+1) q x h
   exact ⟨j+1,t',r,by simpa using e1,by rw [e2];congr 1;omega,e3⟩
end
noncomputable def Cj:Tr->List Nat->List Tr
 | t,[]=>[t]
 | .mk w n ps,k::r=>.mk w n ps::(match ps[k]? with | some u=>Cj u r | none=>[])
theorem Jq {w:Str}{n:Dt}{ts:List Tr}{j:Nat}{t:Tr}{r:List Nat}(h:ts[j]?=some t):Cj (.mk w n ts) (j::r)=.mk w n ts::Cj t r:=by rw [Cj,h]
theorem Op {t:Tr}{pl:List Nat}(s:Sub t pl):(Cj t pl).length=pl.length+1:=by
 induction s with
 | nil t=>cases t;rfl
 | cons h _ ih=>rw [Jq h,Pb,ih,Pb]
theorem Zdl (t:Tr)(pl:List Nat):(Cj t pl)[0]?=some t:=by
 cases t with
 | mk w n ps=>cases pl <;> rfl
theorem Zc6 {t:Tr}{pl:List Nat}(s:Sub t pl):∀(i:Nat)(k:Nat),pl[i]?=some k->∃ w n ps u,(Cj t pl)[i]?=some (.mk w n ps)/\ps[k]?=some u/\(Cj t pl)[i+1]?=some u:=by
 induction s with
 | nil t=>intro i k h;simp at h
 | @cons w n ts j u r h s ih =>
  intro i k hk
  rw [Jq h]
  cases i with
  | zero =>
   have:j=k:=by simpa using hk
   subst this
   exact ⟨w,n,ts,u,rfl,h,by simpa using Zdl u r⟩
  | succ i =>
   obtain ⟨w',n',ps,u',a,b,c⟩:=ih i k (by simpa using hk)
   exact ⟨w',n',ps,u',by simpa using a,b,by simpa using c⟩
theorem Zpw {t:Tr}{pl:List Nat}(s:Sub t pl)(h:Dz t):∀ u∈Cj t pl,Dz u:=by
 induction s with
 | nil t=>intro u hu;cases t;rw [Cj,Pi] at hu;rw [hu];exact h
 | cons hj _ ih =>
  cases h with
  | mk h1 hs =>
   intro u hu
   rw [Jq hj] at hu
   rcases O5.mp hu with rfl | hu
   ·exact .mk h1 hs
   ·exact ih (hs _ (Qb hj)) u hu
noncomputable def Gu:Dt->List Str
 | .flat (.str t)=>[t]
 | _=>[]
noncomputable def Hx:Dt->List Str
 | .tup [.flat (.str t),.flat (.str u)]=>[t,u]
 | _=>[]
noncomputable def nb (w:Str)(n:Dt)(k:Nat):List Str:=if w = "fn" then Gu n else if w = "rec" then Hx n else if w = "let" /\ k=1 then Gu n else []
noncomputable def Db:Tr->List Nat->List (List Str)
 | _,[]=>[]
 | .mk w n ps,k::r=>nb w n k::(match ps[k]? with | some u=>Db u r | none=>[])
theorem K9 {w:Str}{n:Dt}{ts:List Tr}{j:Nat}{t:Tr}{r:List Nat}(h:ts[j]?=some t):Db (.mk w n ts) (j::r)=nb w n j::Db t r:=by rw [Db,h]
theorem Ze3 {t:Tr}{pl:List Nat}(s:Sub t pl):(Db t pl).length=pl.length:=by
 induction s with
 | nil t=>cases t;rfl
 | cons h _ ih=>rw [K9 h,Pb,ih,Pb]
theorem Zj3 {t:Tr}{pl:List Nat}(s:Sub t pl):∀(i k:Nat)(w:Str)(n:Dt)(ps:List Tr),pl[i]?=some k->(Cj t pl)[i]?=some (.mk w n ps)->(Db t pl)[i]?=some (nb w n k):=by
 induction s with
 | nil t=>intro i k w n ps h;simp at h
 | @cons w n ts j u r h s ih =>
  intro i k w' n' ps hk hp
  rw [Jq h] at hp
  rw [K9 h]
  cases i with
  | zero =>
   have e1:j=k:=by simpa using hk
   have e2:Tr.mk w n ts=Tr.mk w' n' ps:=by simpa using hp
   cases e2
   subst e1
   rfl
  | succ i=>simpa using ih i k w' n' ps (by simpa using hk) (by simpa using hp)
noncomputable def Cn (d:Nat):List (List Str)->List (Str×Nat)
 | []=>[]
 | l::r=>l.map (fun x=>(x,d))++Cn (d+1) r
theorem Zaz:∀(d:Nat)(a b:List (List Str)),Cn d (a++b)=Cn d a++Cn (d+a.length) b
 | d,[],b=>by simp [Cn]
 | d,l::r,b=>by
  rw [Re,Cn,Cn,Zaz,P5,Pb]
  congr 3
  omega
theorem Zfj:∀(d:Nat)(ls:List (List Str)),(Cn d ls).map (·.1)=ls.flatten
 | _,[]=>rfl
 | d,l::r=>by
  rw [Cn,P6,Zfj,Q3,Tj]
  congr 1
  exact List.map_id l
noncomputable def bn (t:Tr)(pl:List Nat):List (Str×Nat):=Cn 0 (Db t pl)
noncomputable def Cc (t:Tr)(pl:List Nat):List Str:=(Db t pl).flatten
theorem Zpc (t:Tr)(pl:List Nat):(bn t pl).map (·.1)=Cc t pl:=Zfj 0 _
noncomputable def B0 (x:Str):Nat->List Str->Option Nat
 | _,[]=>none
 | d,y::r=>match B0 x (d+1) r with
  | some k=>some k
  | none=>if y=x then some d else none
theorem Zdv (x:Str):∀(d:Nat)(a b:List Str),B0 x d (a++b)=match B0 x (d+a.length) b with | some k=>some k | none=>B0 x d a
 | d,[],b=>by
  rw [Ui,List.length_nil,Nat.add_zero]
  cases B0 x d b <;> rfl
 | d,y::r,b=>by
  rw [Re,B0,Zdv,Pb,show d+1+r.length=d+(r.length+1) by omega]
  cases B0 x (d+(r.length+1)) b with
  | some k=>rfl
  | none=>rfl
theorem Zlv (x y:Str)(d:Nat)(a:List Str):B0 x d (a++[y])=if y=x then some (d+a.length) else B0 x d a:=by
 rw [Zdv,B0,B0]
 by_cases h:y=x
 ·rw [if_pos h,if_pos h]
 ·rw [if_neg h,if_neg h]
end K19
namespace K34
open PySem L2 K19
section
variable {P:Program}{w:World}{K:Oz}{mg:Str->Option Value}{base:Heap}
noncomputable def Oj (K:Oz):Sp:=fun vs H Q _=>∃(v:V)(w:Str)(n:Dt)(ps:List Tr)(k:Nat),vs=[v,.int (k:Nat)]/\TrAt K H v (.mk w n ps)/\Df w n /\
 ∀(q:Addr)(H':Hp),H q=none->Same H H'->H' q=some (.lst ((nb w n k).map V.str))->Q (.ref q) H'
theorem Gh {x y:Str}:decide (V.str x=V.str y)=decide (x=y):=by
 by_cases h:x=y
 ·subst h;simp
 ·rw [decide_eq_false h,decide_eq_false (fun e=>h (by injection e))]
theorem K7 {H:Hp}{nv:V}{t:Str}(h:IsN K H nv (.flat (.str t))):nv=.str t:=by
 rcases h with ⟨_,e⟩ | ⟨a,vs,_,_,_,e⟩
 ·injection e with e
  exact e.symm
 ·cases e
theorem Zi0 {H:Hp}{nv:V}{t u:Str}(h:IsN K H nv (.tup [.flat (.str t),.flat (.str u)])):∃ a,nv=.ref a/\SqT K H a [.str t,.str u]:=by
 rcases h with ⟨_,e⟩ | ⟨a,vs,e1,q,_,e⟩
 ·cases e
 ·injection e with e
  obtain ⟨x,y,rfl⟩:=lz2 (vs:=vs) (by first | exact e | (have:=congrArg Qt e;rw [O6] at this;exact this.symm))
  simp only [Qa,List.map_nil,List.cons.injEq,Dt.flat.injEq,and_true] at e
  obtain ⟨rfl,rfl⟩:=e
  exact ⟨a,e1,q⟩
theorem Zjo:Bo ["form", "number"] ["form", "number"] (Bg Jm):=by walk_at "sc"
theorem Zkp {f:Addr}{fd:FuncData}(F:Fun K "names_bound" "names_bound" Jm f fd)(T:Txt K mg):Bc P w K mg base Be 1 f fd ["form", "number"] (Oj K):=by
 refine F.okq Zjo (fun vs H Q E h=>?_) (fun cdv A outer s H vs Q E hr h=>?_)
 ·obtain ⟨v,w,n,ps,k,rfl,_⟩:=h
  rfl
 ·obtain ⟨v,w,n,ps,k,rfl,ht,hsh,q⟩:=h
  refine ⟨_,Af (A7 (Az (B3 K hr.u200) (Am K (qv 0) Ah) Aq (Ay _)) (Ai (Ar (Ax (Aa (Am K (qv 0) Ah) Ab)))) A8)
   (Af (A7 (Az (B3 K hr.u200) (Am K (qv 0) Ah) Aq (Ay _)) (Ai (Ar (F4 (Oo K) (by rfl) T.list (by decide +kernel) (Aa (Am K (qv 0) Ah) Ab)))) A8)
   (Af (A7 (QW.qt (F6 (Az (B3 K hr.u200) (Am K (qv 0) Ah) Aq (Ay _)) (F2 (Az (B3 K hr.u200) (qv 1) Ah (Ay _))))) (Ai (Ar (Ax (Aa (Am K (qv 0) Ah) Ab)))) A8)
   (Ai (Ar (Ax Ab))))),?_⟩
  cases ht with
  | @mk b pp _ nv _ us _ qb hn qp l hch =>
  walk_at "r"
  refine Au qb rfl ?_
  walk_at "r"
  rw [Gh]
  refine Bv (fun c=>?_) (fun c=>?_)
  ·have c:=of_decide_eq_true c
   obtain ⟨t,rfl⟩:=hsh.1 (.inl c)
   have:=K7 hn
   subst this
   walk_at "r"
   refine Au qb rfl ?_
   walk_at "r"
   refine ⟨Bx,fun p hp=>?_⟩
   refine q p _ hp (Same.upd hp) ?_
   rw [Ac,nb,if_pos c]
   rfl
  have c1:¬ w = "fn" := fun e=>c (decide_eq_true e)
  walk_at "r"
  refine Au qb rfl ?_
  walk_at "r"
  rw [Gh]
  refine Bv (fun c=>?_) (fun c=>?_)
  ·have c:=of_decide_eq_true c
   obtain ⟨t,u,rfl⟩:=hsh.2 c
   obtain ⟨na,rfl,qn⟩:=Zi0 hn
   walk_at "r"
   refine Au qb rfl ?_
   walk_at "r"
   refine ⟨na,_,rfl,.inr qn,fun p hp=>?_⟩
   refine q p _ hp (Same.upd hp) ?_
   rw [Ac,nb,if_neg c1,if_pos c]
   rfl
  have c2:¬ w = "rec" := fun e=>c (decide_eq_true e)
  have none:¬ (w = "let" /\ k=1)->∀ p,H p=none->Q (.ref p) (upd H p (.lst [])):=fun h p hp=>by
   refine q p _ hp (Same.upd hp) ?_
   rw [Ac,nb,if_neg c1,if_neg c2,if_neg h]
   rfl
  walk_at "r"
  refine Au qb rfl ?_
  walk_at "r"
  rw [Gh]
  refine Bv (fun c=>?_) (fun c=>?_)
  ·have c:=of_decide_eq_true c
   walk_at "r"
   refine Bv (fun c3=>?_) (fun c3=>?_)
   ·have c3:k=1:=by
     have:(k:Int)=1:=by simpa using c3
     omega
    obtain ⟨t,rfl⟩:=hsh.1 (.inr (.inl c))
    have:=K7 hn
    subst this
    walk_at "r"
    refine Au qb rfl ?_
    walk_at "r"
    refine ⟨Bx,fun p hp=>?_⟩
    refine q p _ hp (Same.upd hp) ?_
    rw [Ac,nb,if_neg c1,if_neg c2,if_pos ⟨c,c3⟩]
    rfl
   ·walk_at "r"
    refine ⟨Br,fun p hp=>none (fun e=>c3 ?_) p hp⟩
    rw [e.2]
    decide
  ·walk_at "r"
   refine ⟨Br,fun p hp=>none (fun e=>c (decide_eq_true e.1)) p hp⟩
noncomputable def C8:Dt->Str
 | .flat (.str t)=>t
 | _ => ""
noncomputable abbrev An:=List Nat->Option Ev
noncomputable def Dv (A:An)(pl:List Nat)(f:Nat->Ev):Nat->An
 | 0=>A
 | m+1=>fun q=>if q=pl++[m] then some (f m) else Dv A pl f m q
noncomputable abbrev Dn:=List Nat->Option Nat
noncomputable def Cq (D:Dn)(pl:List Nat):Nat->List Nat->Dn
 | _,[]=>D
 | i,a::r=>Cq (fun q=>if q=pl++[i] then some a else D q) pl (i+1) r
theorem Zcx (pl:List Nat)(a:Nat):∀(xs:List Nat)(D:Dn)(i:Nat),Cq D pl i (xs++[a])=fun q=>if q=pl++[i+xs.length] then some a else Cq D pl i xs q
 | [],D,i=>by simp [Cq]
 | x::r,D,i=>by
  rw [Re,Cq,Zcx pl a r _ (i+1),Cq,Pb]
  have:i+1+r.length=i+(r.length+1):=by omega
  rw [this]
theorem Zd3 (A:An)(pl:List Nat)(f:Nat->Ev):∀ m,Dv A pl f m pl=A pl
 | 0=>rfl
 | m+1=>by
  have h:¬ pl=pl++[m]:=fun e=>by have:=congrArg Qt e;simp at this
  show (if pl=pl++[m] then _ else _)=_
  rw [if_neg h]
  exact Zd3 A pl f m
theorem nbl3 (w:Str)(n:Dt)(k:Nat):(nb w n k).length<=2:=by
 have h1:(Gu n).length<=2:=by unfold Gu;split <;> simp
 have h2:(Hx n).length<=2:=by unfold Hx;split <;> simp
 unfold nb
 split
 ·exact h1
 ·split
  ·exact h2
  ·split
   ·exact h1
   ·simp
noncomputable def Cw (m:Nat)(w:Str)(n:Dt)(e:Ev):Nat:=if w = "name" then (e (C8 n)).getD (As m w).1 else (As m w).1
inductive KinG:List (List Nat×Tr)->Ae->Dn->An->List (Nat×Nat)->Ae->Prop where
 | nil {sh:Ae} {D:Dn} {A:An}:KinG [] sh D A [] sh
 | cons {pl:List Nat} {w:Str} {n:Dt} {ts:List Tr} {rs:List (List Nat×Tr)} {sh sh':Ae} {D:Dn} {A:An} {e:Ev} {ps:List (Nat×Nat)} (hA:A pl=some e) (hsh:Df w n)
   (k:KinG rs (sh++(As sh.length w).2.2.2) (Cq D pl 0 (As sh.length w).2.1) (Dv A pl (fun j=>Cg e (nb w n j) (As sh.length w).2.2.1) (As sh.length w).2.1.length) ps sh'):KinG ((pl,.mk w n ts)::rs) sh D A ((Cw sh.length w n e,(D pl).getD (Cw sh.length w n e))::ps) sh'
noncomputable def Zbk (K:Oz):Sp:=fun vs H Q _=>∃(p:Addr)(rows:List V)(rs:List (List Nat×Tr))(ps:List (Nat×Nat))(sh':Ae),vs=[.ref p]/\H p=some (.lst rows)/\Al (RowT K H) rows rs/\rs.length<=40/\(∀ r∈rs,r.1.length<=40)/\KinG rs [.num,.truth] (fun _=>none) (fun q=>if q=[] then some (fun _=>none) else none) ps sh' /\
 ∀ r a b pv H',Same H H'->SqT K H' r [.ref a,.ref b]->ShG K H' a sh'->H' b=some (.lst pv)->Al (PaAt K H') pv ps->Q (.ref r) H'
structure KiF (H:Hp)(a b c d:Addr):Prop where
 ha:H a=none
 hb:H b=none
 hc:H c=none
 hd:H d=none
 ab:a≠b
 cd:c≠d
structure KiJ (K:Oz)(H:Hp)(a b c d:Addr)(sh:Ae)(x:Nat)(D:Dn)(E:An)(ps:List (Nat×Nat))(H':Hp):Prop where
 sg:ShG K H' a sh
 pr:∃ pv,H' b=some (.lst pv)/\Al (PaAt K H') pv ps
 ac:∃ kc,H' c=some (.dT kc)/\kc.length<=x/\∀ q,Bl kc (Bu q)=(D q).map fun n=>V.int ((n:Nat):Int)
 ad:∃ kd,H' d=some (.dT kd)/\kd.length<=x+1/\∀ q e,E q=some e->∃ y,Bl kd (Bu q)=some (.ref y)/\EvAt H' y e (2 * q.length)
 sm:Same H H'
theorem Ci {H:Hp}{x y:Addr}{o o':HO}(h:H x=some o)(h':H y=some o')(n:o≠o'):x≠y:=fun z=>by rw [z,h'] at h;exact n (Pg h).symm
theorem SameT.dt {H:Hp}{S:Addr}{kv:List (List Ap×V)}{o2:HO}(h:H S=some (.dT kv)):SameT H (upd H S o2):=fun b =>
 ⟨fun xs e=>by rw [Ag (Ci e h (fun z=>by cases z))];exact e,fun o' u e=>by rw [Ag (Ci e h (fun z=>by cases z))];exact e⟩
theorem EvAt.off {H:Hp}{a S:Addr}{e:Ev}{m:Nat}{o o2:HO}(h:EvAt H a e m)(hs:H S=some o)(n:∀ kv,o≠.dK kv):EvAt (upd H S o2) a e m:=by
 obtain ⟨kvs,h1,h2,h3⟩:=h.ex
 exact ⟨kvs,by rw [Ag (Ci h1 hs (fun z=>n _ z.symm))];exact h1,h2,h3⟩
theorem KiJ.keep {H H1 H2:Hp}{a b c d:Addr}{sh:Ae}{x:Nat}{D:Dn}{E:An}{ps:List (Nat×Nat)}(J:KiJ K H a b c d sh x D E ps H1)(s:Same H1 H2):KiJ K H a b c d sh x D E ps H2:=by
 obtain ⟨pv,e1,al⟩:=J.pr
 obtain ⟨kc,e2,l2,v2⟩:=J.ac
 obtain ⟨kd,e3,l3,v3⟩:=J.ad
 exact ⟨J.sg.same s,⟨pv,s _ _ e1,al.mono (PaAt.same s.t)⟩,⟨kc,s _ _ e2,l2,v2⟩,⟨kd,s _ _ e3,l3,fun q e hq=>let ⟨y,h1,h2⟩:=v3 q e hq;⟨y,h1,h2.same s⟩⟩,J.sm.trans s⟩
theorem KiJ.kind {H H1 H2:Hp}{a b c d:Addr}{sh sh':Ae}{x:Nat}{D:Dn}{E:An}{ps:List (Nat×Nat)}(J:KiJ K H a b c d sh x D E ps H1)(F:KiF H a b c d)(h:Bt a H1 H2)(S:ShG K H2 a sh'):KiJ K H a b c d sh' x D E ps H2:=by
 obtain ⟨pv,e1,al⟩:=J.pr
 obtain ⟨kc,e2,l2,v2⟩:=J.ac
 obtain ⟨kd,e3,l3,v3⟩:=J.ad
 obtain ⟨us,ea,_⟩:=J.sg.ex
 have t:=h.t ea
 refine ⟨S,⟨pv,h _ _ F.ab.symm e1,al.mono (PaAt.same t)⟩,⟨kc,h _ _ (Ci e2 ea (fun z=>by cases z)) e2,l2,v2⟩,⟨kd,h _ _ (Ci e3 ea (fun z=>by cases z)) e3,l3,fun q e hq=>?_⟩,fun y o e=>h y o (fun z=>by rw [z,F.ha] at e;cases e) (J.sm y o e)⟩
 obtain ⟨y,h1,ev⟩:=v3 q e hq
 obtain ⟨kvs,h2,h3,h4⟩:=ev.ex
 exact ⟨y,h1,kvs,h _ _ (Ci h2 ea (fun z=>by cases z)) h2,h3,h4⟩
theorem KiJ.pair {H H1:Hp}{a b c d:Addr}{sh:Ae}{x:Nat}{D:Dn}{E:An}{ps:List (Nat×Nat)}{pv:List V}{v:V}{y:Nat×Nat}(J:KiJ K H a b c d sh x D E ps H1)(F:KiF H a b c d)(eb:H1 b=some (.lst pv))(al:Al (PaAt K H1) pv ps)(hv:PaAt K H1 v y):KiJ K H a b c d sh x D E (ps++[y]) (upd H1 b (.lst (pv++[v]))):=by
 obtain ⟨kc,e2,l2,v2⟩:=J.ac
 obtain ⟨kd,e3,l3,v3⟩:=J.ad
 have t:=SameT.set (o:=.lst (pv++[v])) eb
 refine ⟨J.sg.off F.ab eb,⟨_,Ac,(al.mono (PaAt.same t)).snoc (PaAt.same t _ _ hv)⟩,⟨kc,by rw [Ag (Ci e2 eb (fun z=>by cases z))];exact e2,l2,v2⟩,⟨kd,by rw [Ag (Ci e3 eb (fun z=>by cases z))];exact e3,l3,fun q e hq=>?_⟩,J.sm.over F.hb⟩
 obtain ⟨y,h1,h2⟩:=v3 q e hq
 exact ⟨y,h1,h2.off eb (fun kv z=>by cases z)⟩
theorem Zdz {kv:List (List Ap×V)}{q z:List Nat}{v:V}:Bl (Bb kv (Bu q) v) (Bu z)=if z=q then some v else Bl kv (Bu z):=by
 rw [F0]
 by_cases h:z=q
 ·rw [if_pos h,if_pos (by rw [h])]
 ·rw [if_neg h,if_neg fun e=>h (Zpa e)]
theorem KiJ.ask {H H1:Hp}{a b c d:Addr}{sh:Ae}{x n:Nat}{D:Dn}{E:An}{ps:List (Nat×Nat)}{kc:List (List Ap×V)}{q:List Nat}(J:KiJ K H a b c d sh x D E ps H1)(F:KiF H a b c d)(ec:H1 c=some (.dT kc))(lc:kc.length<=x)(vc:∀ q,Bl kc (Bu q)=(D q).map fun n=>V.int ((n:Nat):Int)):KiJ K H a b c d sh (x+1) (fun z=>if z=q then some n else D z) E ps (upd H1 c (.dT (Bb kc (Bu q) (.int (n:Nat))))):=by
 obtain ⟨pv,e1,al⟩:=J.pr
 obtain ⟨kd,e3,l3,v3⟩:=J.ad
 obtain ⟨us,ea,ala⟩:=J.sg.ex
 have t:=SameT.dt (o2:=.dT (Bb kc (Bu q) (.int (n:Nat)))) ec
 refine ⟨⟨us,by rw [Ag (Ci ea ec (fun z=>by cases z))];exact ea,ala.mono (ShE.same t)⟩,⟨pv,by rw [Ag (Ci e1 ec (fun z=>by cases z))];exact e1,al.mono (PaAt.same t)⟩,⟨_,Ac,?_,fun z=>?_⟩,⟨kd,by rw [Ag F.cd.symm];exact e3,by omega,fun q e hq=>?_⟩,J.sm.over F.hc⟩
 ·have:=Dq kc (Bu q) (.int (n:Nat))
  omega
 ·rw [Zdz,vc z]
  split <;> rfl
 ·obtain ⟨y,h1,h2⟩:=v3 q e hq
  exact ⟨y,h1,h2.off ec (fun kv z=>by cases z)⟩
theorem KiJ.name {H H1:Hp}{a b c d y:Addr}{sh:Ae}{x:Nat}{D:Dn}{E:An}{ps:List (Nat×Nat)}{kd:List (List Ap×V)}{q:List Nat}{e:Ev}(J:KiJ K H a b c d sh (x+1) D E ps H1)(F:KiF H a b c d)(ed:H1 d=some (.dT kd))(ld:kd.length<=x+1)(vd:∀ q e,E q=some e->∃ y,Bl kd (Bu q)=some (.ref y)/\EvAt H1 y e (2 * q.length))(he:EvAt H1 y e (2 * q.length)):KiJ K H a b c d sh (x+1) D (fun z=>if z=q then some e else E z) ps (upd H1 d (.dT (Bb kd (Bu q) (.ref y)))):=by
 obtain ⟨pv,e1,al⟩:=J.pr
 obtain ⟨kc,e2,l2,v2⟩:=J.ac
 obtain ⟨us,ea,ala⟩:=J.sg.ex
 have t:=SameT.dt (o2:=.dT (Bb kd (Bu q) (.ref y))) ed
 refine ⟨⟨us,by rw [Ag (Ci ea ed (fun z=>by cases z))];exact ea,ala.mono (ShE.same t)⟩,⟨pv,by rw [Ag (Ci e1 ed (fun z=>by cases z))];exact e1,al.mono (PaAt.same t)⟩,⟨kc,by rw [Ag F.cd];exact e2,l2,v2⟩,⟨_,Ac,?_,fun z e' hz=>?_⟩,J.sm.over F.hd⟩
 ·have:=Dq kd (Bu q) (.ref y)
  omega
 ·rw [Zdz]
  have hz:(if z=q then some e else E z)=some e':=hz
  by_cases h:z=q
  ·rw [if_pos h] at hz ⊢
   cases hz
   exact ⟨y,rfl,by rw [h];exact he.off ed (fun kv z=>by cases z)⟩
  ·rw [if_neg h] at hz ⊢
   obtain ⟨y',h1,h2⟩:=vd z e' hz
   exact ⟨y',h1,h2.off ed (fun kv z=>by cases z)⟩
theorem KiJ.imp {H H1:Hp}{a b c d:Addr}{sh:Ae}{x x':Nat}{D D':Dn}{E E':An}{ps:List (Nat×Nat)}(J:KiJ K H a b c d sh x D E ps H1)(hx:x<=x')(hD:D=D')(hE:∀ q e,E' q=some e->E q=some e):KiJ K H a b c d sh x' D' E' ps H1:=by
 subst hD
 obtain ⟨kc,e2,l2,v2⟩:=J.ac
 obtain ⟨kd,e3,l3,v3⟩:=J.ad
 exact ⟨J.sg,J.pr,⟨kc,e2,by omega,v2⟩,⟨kd,e3,by omega,fun q e hq=>v3 q e (hE q e hq)⟩,J.sm⟩
theorem Zcq (m:Nat)(w:Str):(As m w).2.1.length<=3/\(As m w).2.2.2.length<=3:=by
 unfold As
 repeat (first | split | exact ⟨by decide,by decide⟩ | (constructor <;> simp))
theorem Zey (pl:List Nat)(j:Nat):Bk (pl++[j])=Bk pl++[.int ((j:Nat):Int)]:=by unfold Bk;rw [P6];rfl
theorem sc_kinds_in:Bo ["placed", "shapes", "pairs", "asked_at", "around_at", "place", "form", "given", "asked", "bound", "number", "kind", "part"] ["placed"] (Bg Ic):=by walk_at "sc"
theorem Zgm {f:Addr}{fd:FuncData}(F:Fun K "kinds_in" "kinds_in" Ic f fd)(T:Txt K mg){fs s0 s1:Addr}(G_FIRST_SHAPES:Fc mg "FIRST_SHAPES" (.ref fs))(hfs:∀ H,SqT K H fs [.ref s0,.ref s1])(hs0:∀ H,SqT K H s0 [.str "num"])(hs1:∀ H,SqT K H s1 [.str "truth"])
  (C_kinds_of_word:A9 P w K mg base 2 "kinds_of_word" ["shapes", "word"] (Zdt K)) (C_with_names:A9 P w K mg base 1 "with_names" ["around", "names", "kinds"] (Zcz K)) (C_names_bound:A9 P w K mg base 1 "names_bound" ["form", "number"] (Oj K)):Bc P w K mg base Be 3 f fd ["placed"] (Zbk K):=by
 refine F.okq sc_kinds_in (fun vs H Q E h=>?_) (fun cdv A outer s H vs Q E hr h=>?_)
 ·obtain ⟨p,rows,rs,ps,sh',rfl,_⟩:=h
  rfl
 ·obtain ⟨p,rows,rs,ps,sh',rfl,ep,al,hl,hpl,hK,q⟩:=h
  refine ⟨_,Af (Av 1 sc_kinds_in (F4 (Oo K) (by rfl) T.list (by decide +kernel) (Aa (D8 G_FIRST_SHAPES) Ab)))
   (Af (Av 2 sc_kinds_in (Ax Ab))
   (Af (Av 3 sc_kinds_in (Zh8))
   (Af (Av 4 sc_kinds_in (Zfy hr.u1 (Ao Ab) (Ix)))
   (Af (Co Pq rfl (C9 K (qv 0)) (Cr K (n:=2) rfl (Bm (A4 (i:=5) sc_kinds_in.nd rfl (Or.inl rfl)) (Bm (A4 (i:=6) sc_kinds_in.nd rfl (Or.inl rfl)) (Ct)))) (Af (Ga (Ba C_kinds_of_word hr.m (Aa (qv 1) (Aa (Am K (qv 6) Ah) Ab))) (Cr K (n:=3) rfl (Bm (A4 (i:=7) sc_kinds_in.nd rfl (Or.inl rfl)) (Bm (A4 (i:=8) sc_kinds_in.nd rfl (Or.inl rfl)) (Bm (A4 (i:=9) sc_kinds_in.nd rfl (Or.inl rfl)) (Ct))))))
   (Af (A7 (Az (B3 K hr.u200) (Am K (qv 6) Ah) Aq (Ay _)) (Ai (Av 7 sc_kinds_in (Zcf hr.u1 (Gn hr.u1 (qv 4) (qv 5) (fun _ _=>rfl)) (Am K (qv 6) Ah) (qv 7)))) A8)
   (Af (Cp (C0 K Pz Qe Qf De (qv 2) (Aa (Ao (Aa (qv 7) (Aa (Zcf hr.u1 (qv 3) (qv 5) (qv 7)) Ab))) Ab)))
   (Ai (Co Pq rfl (Kt K rfl T.enumerate (Aa (qv 8) Ab)) (Cr K (n:=2) rfl (Bm (A4 (i:=10) sc_kinds_in.nd rfl (Or.inl rfl)) (Bm (A4 (i:=11) sc_kinds_in.nd rfl (Or.inl rfl)) (Ct)))) (Af (Av 12 sc_kinds_in (A6 (Lw K) (qv 5) (Ao (Aa (qv 10) Ab))))
   (Af (E8 hr.u1 (qv 3) (qv 12) (qv 11))
   (Ai (E8 hr.u1 (qv 4) (qv 12) (Ba C_with_names hr.m (Aa (Gn hr.u1 (qv 4) (qv 5) (fun _ _=>rfl)) (Aa (Ba C_names_bound hr.m (Aa (qv 6) (Aa (qv 10) Ab))) (Aa (qv 9) Ab))))))))))))))
   (Ai (Ar (Ao (Aa (qv 1) (Aa (qv 2) Ab))))))))),?_⟩
  have bg:=big
  walk_at "r"
  refine ⟨fs,_,rfl,.inr (hfs H),fun a ha=>?_⟩
  have t1:=Same.upd (o:=.lst [.ref s0,.ref s1]) ha
  walk_at "r"
  refine ⟨Br,fun b hb=>?_⟩
  have t2:=Same.upd (o:=.lst []) hb
  walk_at "r"
  refine fun c hc=>?_
  have t3:=Same.upd (o:=.dT []) hc
  walk_at "r"
  refine fun d hd=>?_
  have t4:=Same.upd (o:=.dT []) hd
  walk_at "r"
  refine ⟨Br,fun e0 he0=>?_⟩
  have t5:=Same.upd (o:=.tup []) he0
  refine fun e1 he1=>?_
  have t6:=Same.upd (o:=.dK []) he1
  have ed:=(t5.trans t6) d _ Ac
  have ee0:=t6 e0 _ Ac
  refine ⟨_,DPut.t (k:=Bu []) ed (by show _=some (HO.tup []);exact ee0) (by show 0 < sizeLine;decide),?_⟩
  have sH:=((((t1.trans t2).trans t3).trans t4).trans t5).trans t6
  have fK:KiF H a b c d:=⟨ha,t1.free hb,(t1.trans t2).free hc,((t1.trans t2).trans t3).free hd,Aw Ac hb,Aw Ac hd⟩
  have J0:KiJ K H a b c d [.num,.truth] 0 (fun _=>none) (fun _=>none) [] _:=⟨⟨[.ref s0,.ref s1],((((t2.trans t3).trans t4).trans t5).trans t6) a _ Ac,(Al.nil.snoc (x:=Sh.num) ⟨s0,rfl,hs0 _⟩).snoc (x:=Sh.truth) ⟨s1,rfl,hs1 _⟩⟩,⟨[],(((t3.trans t4).trans t5).trans t6) b _ Ac,.nil⟩,⟨[],((t4.trans t5).trans t6) c _ Ac,O2 _,fun q=>rfl⟩,⟨[],ed,Pp _,fun q e h=>by cases h⟩,sH⟩
  have J1:=((J0.imp (x':=1) (by decide) rfl (fun _ _ h=>h)).name (x:=0) (q:=[]) (y:=e1) (e:=fun _=>none) fK ed (Pp _) (fun q e h=>by cases h) ⟨[],Ac,fun _=>rfl,O2 _⟩)
  revert J1
  generalize upd _ d _=H1
  intro J1
  walk_at "r"
  refine .inl ⟨p,rfl,⟨_,SqL.of (J1.sm _ _ ep)⟩,?_⟩
  refine Ik (K:=K) (a:=p) (xs:=rows) (fun i σ' H'=>∃ v5 v6 v7 v8 v9 v10 v11 v12 sh D E ps1 ps2,σ'=[some (.ref p),some (.ref a),some (.ref b),some (.ref c),some (.ref d),v5,v6,v7,v8,v9,v10,v11,v12]/\KiJ K H a b c d sh (1+3 * i) D E ps1 H'/\sh.length<=2+3 * i/\ps1.length=i/\KinG (rs.drop i) sh D E ps2 sh'/\ps1++ps2=ps)
   ⟨_,_,_,_,_,_,_,_,[.num,.truth],fun _=>none,fun q=>if q=[] then some (fun _=>none) else none,[],ps,rfl,J1.imp (by decide) rfl (fun q e h=>h),O2 _,rfl,hK,rfl⟩ ?_ ?_ ?_
  ·rintro i σ' H' _ ⟨_,_,_,_,_,_,_,_,_,_,_,_,_,_,J,_⟩
   exact SqL.of (J.sm _ _ ep)
  ·rintro i x σ' H2 hx ⟨v5,v6,v7,v8,v9,v10,v11,v12,sh,D,E1,ps1,ps2,rfl,J,hm,hpn,hKi,hps⟩
   obtain ⟨y,hy,hrow⟩:=al.get hx
   have hi:=(Pa.mp hy).1
   obtain ⟨pl,t⟩:=y
   have hplen:pl.length<=40:=hpl _ (Qb hy)
   have hdr:rs.drop i=(pl,t)::rs.drop (i+1):=by
    rw [Q9 hi]
    rw [O1 hi] at hy
    rw [Pg hy]
   rw [hdr] at hKi
   cases hKi with
   | @cons _ wd n ts _ _ _ _ _ ev ps3 hA hsh hK2 =>
   obtain ⟨ra,pp,u,rfl,qra,epp,hu⟩:=hrow
   have hu0:=hu
   cases hu with
   | @mk bq pq _ nv _ us _ qb hno qpp hul hch =>
   obtain ⟨kl1,kl2⟩:=Zcq sh.length wd
   walk_at "r"
   refine Cm (J.sm.tup qra) rfl ?_
   walk_at "r"
   refine Au (J.sm.tup qb) rfl ?_
   walk_at "r"
   refine ⟨a,wd,sh,rfl,by omega,J.sg,fun r bb cc H3 hbt S3 qr ebb hbb nbb ecc hcc ncc ncb=>?_⟩
   have J3:=J.kind fK hbt S3
   obtain ⟨pv,eb3,alp⟩:=J3.pr
   obtain ⟨kc,ec3,lc3,vc3⟩:=J3.ac
   obtain ⟨kd3,ed3,_,vd3⟩:=J3.ad
   have hbb0:b≠bb:=by
    obtain ⟨pv0,eb0,_⟩:=J.pr
    exact Aw eb0 hbb
   have hbc0:b≠cc:=by
    obtain ⟨pv0,eb0,_⟩:=J.pr
    exact Aw eb0 hcc
   have epp3:H3 pp=some (.tup ((Bu pl).map kV)):=by rw [Me];exact J3.sm _ _ epp
   refine Cm qr rfl ?_
   walk_at "q"
   refine Ip (R:=fun σ' H'=>H'=H3/\σ'=[some (.ref p),some (.ref a),some (.ref b),some (.ref c),some (.ref d),some (.ref pp),some (.ref bq),some (.int (Cw sh.length wd n ev:Nat)),some (.ref bb),some (.ref cc),v10,v11,v12]) ?_ ?_
   ·intro Y hY
    walk_at "r"
    refine Au (J3.sm.tup qb) rfl ?_
    walk_at "r"
    rw [Et]
    refine Bv (fun cn=>?_) (fun cn=>?_)
    ·have cn:=of_decide_eq_true cn
     obtain ⟨y,vy,evy⟩:=vd3 pl ev hA
     obtain ⟨kvy,ey,dcy,_⟩:=evy.ex
     obtain ⟨tn,rfl⟩:=hsh.1 (.inr (.inr cn))
     have hnv:=K7 hno
     subst hnv
     walk_at "r"
     refine ⟨d,.ref y,rfl,by rw [<- vy];exact DGet.t ed3 epp3,?_⟩
     refine ⟨y,rfl,.inl ⟨_,.inl ey⟩,?_⟩
     walk_at "r"
     refine Au (J3.sm.tup qb) rfl ?_
     walk_at "r"
     refine ⟨_,DGet.k (k:=.inr tn) ey,?_⟩
     rw [dcy tn]
     have eg:((ev tn).map fun n=>V.int ((n:Nat):Int)).getD (.int ((As sh.length wd).1:Nat))=.int (Cw sh.length wd (.flat (.str tn)) ev:Nat):=by
      unfold Cw
      rw [if_pos cn]
      show _=V.int (((ev tn).getD _:Nat):Int)
      cases ev tn <;> rfl
     rw [eg]
     walk_at "r"
     exact hY _ _ ⟨rfl,rfl⟩
    ·have cn:¬ wd = "name" := fun e=>cn (decide_eq_true e)
     have eg:Cw sh.length wd n ev=(As sh.length wd).1:=if_neg cn
     rw [eg] at hY
     exact hY _ _ ⟨rfl,rfl⟩
   rintro _ H3x ⟨hHx,rfl⟩
   rw [hHx]
   clear hHx
   walk_at "r"
   refine B5 (SqL.of eb3) ?_
   walk_at "r"
   refine ⟨c,rfl,.inr ⟨_,.inl ec3⟩,?_⟩
   walk_at "r"
   refine ⟨_,DGet.t ec3 epp3,?_⟩
   generalize hgv:Cw sh.length wd n ev=gv
   have eg:(Bl kc (Bu pl)).getD (.int (gv:Nat))=.int (((D pl).getD gv:Nat):Int):=by
    rw [vc3]
    cases D pl <;> rfl
   rw [eg]
   walk_at "r"
   refine ⟨A5,fun pt hpt=>?_⟩
   have s4:=Same.upd (o:=.tup [.int (gv:Nat),.int (((D pl).getD gv:Nat):Int)]) hpt
   walk_at "r"
   have hpvl:pv.length < sizeLine:=by rw [alp.1,hpn];omega
   refine C3 (s4 _ _ eb3) hpvl ?_
   have J4:=(J3.keep s4).pair (v:=.ref pt) (y:=(gv,(D pl).getD gv)) fK (s4 _ _ eb3) (alp.mono (PaAt.same s4.t)) ⟨pt,rfl,SqT.of Ac⟩
   have ebb4:upd (upd H3 pt (.tup [.int (gv:Nat),.int (((D pl).getD gv:Nat):Int)])) b (.lst (pv++[.ref pt])) bb=some (.lst (Ak (As sh.length wd).2.1)):=by rw [Ag hbb0.symm];exact s4 _ _ ebb
   have ecc4:upd (upd H3 pt (.tup [.int (gv:Nat),.int (((D pl).getD gv:Nat):Int)])) b (.lst (pv++[.ref pt])) cc=some (.lst (Ak (As sh.length wd).2.2.1)):=by rw [Ag hbc0.symm];exact s4 _ _ ecc
   revert J4 ebb4 ecc4
   generalize upd (upd H3 pt (.tup [.int (gv:Nat),.int (((D pl).getD gv:Nat):Int)])) b (.lst (pv++[.ref pt]))=H4
   intro J4 ebb4 ecc4
   generalize has:(As sh.length wd).2.1=as at ebb4 kl1 hK2 ebb
   generalize hbd:(As sh.length wd).2.2.1=bd at ecc4 hK2 ecc
   walk_at "r"
   refine ⟨bb,_,rfl,SqL.of ebb4,?_⟩
   have hasl:(Ak as).length=as.length:=by unfold Ak;exact O6 ..
   refine Jv (K:=K) (a:=bb) (xs:=Ak as) (fun j σ5 H5=>∃ D7 C2 F5,σ5=[some (.ref p),some (.ref a),some (.ref b),some (.ref c),some (.ref d),some (.ref pp),some (.ref bq),some (.int (gv:Nat)),some (.ref bb),some (.ref cc),D7,C2,F5]/\KiJ K H a b c d (sh++(As sh.length wd).2.2.2) (1+3 * i+j) (Cq D pl 0 (as.take j)) (Dv E1 pl (fun j=>Cg ev (nb wd n j) bd) j) (ps1++[(gv,(D pl).getD gv)]) H5/\H5 bb=some (.lst (Ak as))/\H5 cc=some (.lst (Ak bd)))
    ⟨_,_,_,rfl,J4.imp (O2 _) (by rw [List.take_zero];rfl) (fun q e hq=>hq),ebb4,ecc4⟩ ?_ ?_ ?_
   ·rintro j σ5 H5 _ ⟨_,_,_,_,_,e,_⟩
    exact SqL.of e
   ·rintro j x tt σ5 H5 hx2 htt ⟨D7,C2,F5,rfl,J5,ebb5,ecc5⟩
    have hj:j < as.length:=by have:=(Pa.mp hx2).1;rwa [hasl] at this
    have hxv:x=.int ((as[j]:Nat):Int):=by unfold Ak at hx2;rw [Po,O1 hj] at hx2;exact (Pg hx2).symm
    subst hxv
    have s6:=Same.upd (o:=.tup [.int (j:Nat),.int ((as[j]:Nat):Int)]) htt
    have J6:=J5.keep s6
    refine Cm (SqT.of Ac) rfl ?_
    have ebb6:=s6 _ _ ebb5
    have ecc6:=s6 _ _ ecc5
    revert J6 ebb6 ecc6
    generalize upd H5 tt (.tup [.int (j:Nat),.int ((as[j]:Nat):Int)])=H6
    intro J6 ebb6 ecc6
    walk_at "r"
    refine ⟨Bx,fun p7 h7=>?_⟩
    have s7:=Same.upd (o:=.tup [.int (j:Nat)]) h7
    refine .inr ⟨pp,p7,_,_,rfl,rfl,s7 _ _ (J6.sm _ _ epp),Ac,by show (Bk pl).length+1<=sizeLine;unfold Bk;rw [O6];omega,fun pa H8 s8 epa=>?_⟩
    have s78:=s7.trans s8
    have J8:=J6.keep s78
    have ebb8:=s78 _ _ ebb6
    have ecc8:=s78 _ _ ecc6
    rw [<- Zey] at epa
    have epa8:H8 pa=some (.tup ((Bu (pl++[j])).map kV)):=by rw [Me];exact epa
    obtain ⟨kc8,ec8,lc8,vc8⟩:=J8.ac
    obtain ⟨kd8,ed8,ld8,_⟩:=J8.ad
    walk_at "r"
    refine ⟨c,_,rfl,DPut.t (k:=Bu (pl++[j])) ec8 epa8 (by omega),?_⟩
    have J9:=J8.ask (n:=as[j]) (q:=pl++[j]) fK ec8 lc8 vc8
    have t9:=SameT.dt (o2:=.dT (Bb kc8 (Bu (pl++[j])) (.int ((as[j]:Nat):Int)))) ec8
    have epa9:=(t9 pa).1 _ epa8
    have ebb9:upd H8 c (.dT (Bb kc8 (Bu (pl++[j])) (.int ((as[j]:Nat):Int)))) bb=some (.lst (Ak as)):=by rw [Ag (Ci ebb8 ec8 (fun z=>by cases z))];exact ebb8
    have ecc9:upd H8 c (.dT (Bb kc8 (Bu (pl++[j])) (.int ((as[j]:Nat):Int)))) cc=some (.lst (Ak bd)):=by rw [Ag (Ci ecc8 ec8 (fun z=>by cases z))];exact ecc8
    have ed98:upd H8 c (.dT (Bb kc8 (Bu (pl++[j])) (.int ((as[j]:Nat):Int)))) d=some (.dT kd8):=by rw [Ag fK.cd.symm];exact ed8
    revert J9 epa9 ebb9 ecc9 ed98
    generalize upd H8 c (.dT (Bb kc8 (Bu (pl++[j])) (.int ((as[j]:Nat):Int))))=H9
    intro J9 epa9 ebb9 ecc9 ed98
    obtain ⟨kd9,ed9,_,vd9⟩:=J9.ad
    rw [ed9] at ed98
    cases ed98
    have hApl:Dv E1 pl (fun j=>Cg ev (nb wd n j) bd) j pl=some ev:=by rw [Zd3];exact hA
    obtain ⟨e9,ve9,he9⟩:=vd9 pl ev hApl
    have epp9:H9 pp=some (.tup ((Bu pl).map kV)):=by rw [Me];exact J9.sm _ _ epp
    walk_at "r"
    refine ⟨d,.ref e9,rfl,by rw [<- ve9];exact DGet.t ed9 epp9,?_⟩
    walk_at "r"
    refine ⟨.ref bq,wd,n,ts,j,rfl,hu0.same J9.sm,hsh,fun pn HA hpn sA epn=>?_⟩
    walk_at "r"
    refine ⟨e9,pn,cc,ev,nb wd n j,bd,2 * pl.length,rfl,he9.same sA,by omega,epn,sA _ _ ecc9,nbl3 _ _ _,fun pz HB sB' hpz evz=>?_⟩
    have sB:=sA.trans sB'
    walk_at "r"
    have JB:=J9.keep sB
    have lda:kd8.length < sizeLine:=by omega
    have edB:=sB _ _ ed9
    refine ⟨d,_,rfl,DPut.t (k:=Bu (pl++[j])) edB (sB _ _ epa9) lda,?_⟩
    have evz':EvAt HB pz (Cg ev (nb wd n j) bd) (2 * (pl++[j]).length):=by rw [O7,Pr];exact evz
    refine ⟨_,_,_,rfl,(JB.name (x:=1+3 * i+j) (q:=pl++[j]) (y:=pz) fK edB (by omega) (fun q e hq=>let ⟨y,h1,h2⟩:=vd9 q e hq;⟨y,h1,h2.same sB⟩) evz').imp (by omega) ?_ (fun q e hq=>hq),?_,?_⟩
    ·rw [Qn,O1 hj]
     show _=Cq D pl 0 (as.take j++[as[j]])
     rw [Zcx,Pt,Tb (Us hj),Rj]
    ·rw [Ag (Ci (sB _ _ ebb9) edB (fun z=>by cases z))]
     exact sB _ _ ebb9
    ·rw [Ag (Ci (sB _ _ ecc9) edB (fun z=>by cases z))]
     exact sB _ _ ecc9
   ·rintro σ5 H5 ⟨D7,C2,F5,rfl,J5,ebb5,ecc5⟩
    rw [hasl] at J5
    rw [hgv] at hps
    refine ⟨_,_,_,_,_,_,_,_,_,_,_,ps1++[(gv,(D pl).getD gv)],ps3,rfl,J5.imp (by omega) (by rw [Qw (O2 _)]) (fun q e hq=>hq),by rw [O7];omega,by simp [hpn],hK2,by rw [<- hps,P5];rfl⟩
  ·rintro σ' H2 ⟨v5,v6,v7,v8,v9,v10,v11,v12,sh,D,E1,ps1,ps2,rfl,J,hm,hpn,hKi,hps⟩
   rw [al.1,Vp] at hKi
   cases hKi
   rw [Pw] at hps
   subst hps
   obtain ⟨pv,eb,alp⟩:=J.pr
   walk_at "r"
   refine ⟨A5,fun r hr'=>?_⟩
   have s3:=Same.upd (o:=.tup [.ref a,.ref b]) hr'
   exact q r a b pv _ (J.sm.trans s3) (SqT.of Ac) (J.sg.same s3) (s3 _ _ eb) (alp.mono (PaAt.same s3.t))
noncomputable def Za6:Sp:=fun vs H Q _=>∃ k:Int,vs=[.int k]/\Q (.bl true) H
theorem Zg6:Bo ["thing"] ["thing"] (Bg Ii):=by walk_at "sc"
theorem Zn4 {f:Addr}{fd:FuncData}(F:Fun K "is_whole" "is_whole" Ii f fd)(T:Txt K mg):Bc P w K mg base Be 1 f fd ["thing"] Za6:=by
 refine F.okq Zg6 (fun vs H Q E h=>?_) (fun cdv A outer s H vs Q E hr h=>?_)
 ·obtain ⟨k,rfl,_⟩:=h
  rfl
 ·obtain ⟨k,rfl,q⟩:=h
  refine ⟨_,Ai (Ar (L9 (Cs (Zan K "int") (by rfl) T.isinstance (by decide +kernel) (Aa (qv 0) (Aa (Zeb (v:=.ty "int") (by rfl) T.int (by decide +kernel) rfl) Ab))) (Oq (Zla (Cs (Zan K "bool") (by rfl) T.isinstance (by decide +kernel) (Aa (qv 0) (Aa (Zeb (v:=.ty "bool") (by rfl) T.bool (by decide +kernel) rfl) Ab))))))),?_⟩
  walk_at "r"
  refine Zbg (.int _) Zp4 ?_
  walk_at "r"
  refine Zbg (.int _) Zlh ?_
  walk_at "r"
  exact q
noncomputable def Zdc (K:Oz):Sp:=fun vs H Q _=>∃(v:V)(w:Str)(n:Dt)(ps:List Tr)(k:Nat),vs=[v,.int (k:Nat)]/\TrAt K H v (.mk w n ps)/\k < ps.length/\Q (.bl true) H
theorem Zf7:Bo ["form", "number"] ["form", "number"] (Bg Hl):=by walk_at "sc"
theorem Zgx {f:Addr}{fd:FuncData}(F:Fun K "has_part" "has_part" Hl f fd)(T:Txt K mg)(C_is_whole:A9 P w K mg base 1 "is_whole" ["thing"] Za6):Bc P w K mg base Be 2 f fd ["form", "number"] (Zdc K):=by
 refine F.okq Zf7 (fun vs H Q E h=>?_) (fun cdv A outer s H vs Q E hr h=>?_)
 ·obtain ⟨v,w,n,ps,k,rfl,_⟩:=h
  rfl
 ·obtain ⟨v,w,n,ps,k,rfl,ht,hk,q⟩:=h
  refine ⟨_,Ai (Ar (L9 (Ba C_is_whole hr.m (Aa (qv 1) Ab)) (Oq (Zmy Zhy Jd Ah (qv 1) (Cs (Dl K) (by rfl) T.len (by decide +kernel) (Aa (Am K (qv 0) Ah) Ab)))))),?_⟩
  cases ht with
  | @mk b pp _ nv _ us _ qb hn qp l hch =>
  walk_at "r"
  refine ⟨_,rfl,?_⟩
  walk_at "r"
  refine Bv (fun _=>?_) (fun c=>absurd (decide_eq_true (by omega)) c)
  walk_at "r"
  refine Au qb rfl ?_
  walk_at "r"
  refine Zmf qp ?_
  walk_at "r"
  have e:decide ((k:Int) < (us.length:Int))=true:=decide_eq_true (by omega)
  rw [e]
  exact q
theorem Ht {α:Type}{xs:List α}{x:α}(h:xs[xs.length - 1]?=some x):B2 xs (-1)=some x:=by
 have hl:=(Pa.mp h).1
 unfold B2 C7
 rw [if_neg (by omega),if_pos (by omega)]
 have e:((-1:Int)+(xs.length:Int)).toNat=xs.length - 1:=by omega
 simpa [e] using h
theorem Zea {α:Type}{xs:List α}{i:Int}{x:α}(j:Nat)(hj:(j:Int)=i)(h:xs[j]?=some x):B2 xs i=some x:=by
 have hl:=(Pa.mp h).1
 subst hj
 unfold B2 C7
 rw [if_pos (by omega),if_pos (by omega)]
 simpa using h
theorem Zmq {pl:List Nat}{i:Nat}{v:V}(h:(Bk pl)[i]?=some v):∃ k,v=.int (k:Nat)/\pl[i]?=some k:=by
 unfold Bk at h
 rw [Po] at h
 cases e:pl[i]? with
 | none=>rw [e] at h;cases h
 | some x=>rw [e] at h;exact ⟨x,(Pg h).symm,rfl⟩
theorem Zkv (pl:List Nat):(Bk pl).length=pl.length:=by unfold Bk;simp
noncomputable def Zdd (K:Oz):Sp:=fun vs H Q _=>∃(v:V)(t:Tr)(p:Addr)(pl:List Nat),vs=[v,.ref p]/\TrAt K H v t/\SqT K H p (Bk pl)/\Sub t pl/\pl.length<=1000 /\
 ∀(q:Addr)(ws:List V)(H':Hp),H q=none->Same H H'->H' q=some (.lst ws)->Al (TrAt K H') ws (Cj t pl)->Q (.ref q) H'
theorem sc_forms_down_to:Bo ["tree", "place", "passed", "number"] ["tree", "place"] (Bg Iz):=by walk_at "sc"
theorem Zmc {f:Addr}{fd:FuncData}(F:Fun K "forms_down_to" "forms_down_to" Iz f fd)(T:Txt K mg)(C_has_part:A9 P w K mg base 2 "has_part" ["form", "number"] (Zdc K)):Bc P w K mg base Be 3 f fd ["tree", "place"] (Zdd K):=by
 refine F.okq sc_forms_down_to (fun vs H Q E h=>?_) (fun cdv A outer s H vs Q E hr h=>?_)
 ·obtain ⟨v,t,p,pl,rfl,_⟩:=h
  rfl
 ·obtain ⟨v,t,p,pl,rfl,ht,hp,hs,hl,q⟩:=h
  refine ⟨_,Af (Av 2 sc_forms_down_to (Ax (Aa (qv 0) Ab)))
   (Af (Co Pq rfl (C9 K (qv 1)) (A4 (i:=3) sc_forms_down_to.nd rfl (Or.inl rfl)) (Af (A7 (Li (Ki (Ba C_has_part hr.m (Aa (Am K (qv 2) (Il Iy Ah)) (Aa (qv 3) Ab))))) (Ai Zby) A8)
   (Ai (Cp (C0 K Pz Qe Qf De (qv 2) (Aa (Am K (Am K (Am K (qv 2) (Il Iy Ah)) Ah) (qv 3)) Ab))))))
   (Ai (Ar (qv 2)))),?_⟩
  have bg:=big
  walk_at "r"
  refine ⟨Bx,fun q0 hq0=>?_⟩
  obtain ⟨H1,s1,e1,z9⟩:=Io hq0 (.lst [v])
  rw [z9]
  walk_at "r"
  refine .inr (.inl ⟨p,rfl,⟨_,s1.tup hp⟩,?_⟩)
  have p0:(Cj t pl).take 1=[t]:=by
   have:=Zdl t pl
   cases e:Cj t pl with
   | nil=>rw [e] at this;cases this
   | cons a r =>
    rw [e] at this
    have h:a=t:=by simpa using this
    rw [h]
    rfl
  refine Zeu (K:=K) (a:=p) (xs:=Bk pl) (fun i σ' H'=>∃ w3 ws,σ'=[some v,some (.ref p),some (.ref q0),w3]/\H' q0=some (.lst ws)/\Al (TrAt K H') ws ((Cj t pl).take (i+1))/\Same H H') ⟨none,[v],rfl,e1,by rw [p0];exact Al.nil.snoc (ht.same s1),s1⟩ ?_ ?_ ?_
  ·rintro i σ' H' _ ⟨_,_,_,_,_,sm⟩
   exact sm.tup hp
  ·rintro i x σ' H' hx ⟨w3,ws,rfl,e2,al,sm⟩
   obtain ⟨k,rfl,hk⟩:=Zmq hx
   obtain ⟨w',n',ps,u,a1,a2,a3⟩:=Zc6 hs i k hk
   have hi:=(Pa.mp hk).1
   have hpl:=Op hs
   have hwl:ws.length=i+1:=by rw [al.1,Pt];omega
   have hx1:((Cj t pl).take (i+1))[i]?=some (.mk w' n' ps):=by rw [List.getElem?_take,if_pos (by omega)];exact a1
   obtain ⟨vi,hvi,hti⟩:=al.get' hx1
   have hlast:B2 ws (-1)=some vi:=Ht (by rw [hwl];exact hvi)
   cases hti with
   | @mk b pp _ nv _ us _ qb hn qp l hch =>
   have hku:k < us.length:=by rw [l];exact (Pa.mp a2).1
   walk_at "r"
   refine Bj (SqL.of e2) hlast ?_
   walk_at "r"
   refine ⟨_,w',n',ps,k,rfl,.mk qb hn qp l hch,by omega,?_⟩
   walk_at "r"
   refine B5 (SqL.of e2) ?_
   walk_at "r"
   refine Bj (SqL.of e2) hlast ?_
   walk_at "r"
   refine Au qb rfl ?_
   walk_at "r"
   refine Au qp (Zea k rfl (O1 hku)) ?_
   walk_at "r"
   refine C3 e2 (by omega) ?_
   walk_at "r"
   have t3:SameT H' (upd H' q0 (.lst (ws++[us[k]]))):=SameT.set e2
   refine ⟨_,ws++[us[k]],rfl,Ac,?_,sm.over hq0⟩
   have e3:(Cj t pl).take (i+1+1)=(Cj t pl).take (i+1)++[u]:=by rw [R9,a3];rfl
   rw [e3]
   exact (al.mono fun _ _ z=>z.sameT t3).snoc ((hch k _ u (O1 hku) a2).sameT t3)
  ·rintro σ' H' ⟨w3,ws,rfl,e2,al,sm⟩
   rw [Zkv,Qw (by rw [Op hs];omega)] at al
   walk_at "r"
   exact q q0 ws H' hq0 sm e2 al
noncomputable def BdAt (K:Oz)(H:Hp)(pl:List Nat)(v:V)(x:Str×Nat):Prop:=∃(a b:Addr),v=.ref a/\SqT K H a [.str x.1,.ref b]/\SqT K H b (Bk (pl.take x.2))
theorem BdAt.same {H H':Hp}{pl:List Nat}(e:SameT H H')(v:V)(x:Str×Nat)(h:BdAt K H pl v x):BdAt K H' pl v x:=by
 obtain ⟨a,b,h1,h2,h3⟩:=h
 exact ⟨a,b,h1,e.tup h2,e.tup h3⟩
theorem Zdw (w:Str)(n:Dt)(k:Nat):(nb w n k).length<=2:=by
 have h1:(Gu n).length<=2:=by unfold Gu;split <;> simp
 have h2:(Hx n).length<=2:=by unfold Hx;split <;> simp
 unfold nb
 split
 ·exact h1
 ·split
  ·exact h2
  ·split
   ·exact h1
   ·simp
theorem Zee {t:Tr}{pl:List Nat}(s:Sub t pl):∀ l∈Db t pl,l.length<=2:=by
 induction s with
 | nil t=>intro l h;cases t;cases h
 | cons h _ ih =>
  intro l hl
  rw [K9 h] at hl
  rcases O5.mp hl with rfl | hl
  ·exact Zdw _ _ _
  ·exact ih l hl
theorem L3:∀(d:Nat)(ls:List (List Str)),(∀ l∈ls,l.length<=2)->(Cn d ls).length<=2 * ls.length
 | _,[],_=>by simp [Cn]
 | d,l::r,h=>by
  have h1:=h l Ss
  have h2:=L3 (d+1) r fun x hx=>h x (P4 _ hx)
  rw [Cn,O7,O6,Pb]
  omega
theorem Zcn {t:Tr}{pl:List Nat}(s:Sub t pl):(bn t pl).length<=2 * pl.length:=by
 have:=L3 0 (Db t pl) (Zee s)
 rw [Ze3 s] at this
 exact this
theorem Zlz (pl:List Nat)(k:Nat):(Bk pl).take k=Bk (pl.take k):=by unfold Bk;rw [List.map_take]
noncomputable def Zbl (K:Oz):Sp:=fun vs H Q _=>∃(v:V)(t:Tr)(p:Addr)(pl:List Nat),vs=[v,.ref p]/\TrAt K H v t/\Dz t/\SqT K H p (Bk pl)/\Sub t pl/\pl.length<=1000 /\
 ∀(q:Addr)(ws:List V)(H':Hp),H q=none->Same H H'->H' q=some (.lst ws)->Al (BdAt K H' pl) ws (bn t pl)->Q (.ref q) H'
theorem sc_bindings_at:Bo ["tree", "place", "told", "depth", "above", "name"] ["tree", "place"] (Bg Hv):=by walk_at "sc"
theorem Zow {f:Addr}{fd:FuncData}(F:Fun K "bindings_at" "bindings_at" Hv f fd)(T:Txt K mg)(C_forms_down_to:A9 P w K mg base 3 "forms_down_to" ["tree", "place"] (Zdd K))(C_names_bound:A9 P w K mg base 1 "names_bound" ["form", "number"] (Oj K)):Bc P w K mg base Be 4 f fd ["tree", "place"] (Zbl K):=by
 refine F.okq sc_bindings_at (fun vs H Q E h=>?_) (fun cdv A outer s H vs Q E hr h=>?_)
 ·obtain ⟨v,t,p,pl,rfl,_⟩:=h
  rfl
 ·obtain ⟨v,t,p,pl,rfl,ht,hsh,hp,hs,hl,q⟩:=h
  refine ⟨_,Af (Av 2 sc_bindings_at (Ax Ab))
   (Af (Co Pq rfl (Kt K rfl T.enumerate (Aa (Fb (Zds K) (Ba C_forms_down_to hr.m (Aa (qv 0) (Aa (qv 1) Ab))) (Fx) (Eb (Il Iy Ah))) Ab)) (Cr K (n:=2) rfl (Bm (A4 (i:=3) sc_bindings_at.nd rfl (Or.inl rfl)) (Bm (A4 (i:=4) sc_bindings_at.nd rfl (Or.inl rfl)) (Ct)))) (Ai (Co Pq rfl (C9 K (Ba C_names_bound hr.m (Aa (qv 4) (Aa (Am K (qv 1) (qv 3)) Ab)))) (A4 (i:=5) sc_bindings_at.nd rfl (Or.inl rfl)) (Ai (Cp (C0 K Pz Qe Qf De (qv 2) (Aa (Ao (Aa (qv 5) (Aa (Fb (Zds K) (qv 1) (Fx) (Eb (qv 3))) Ab))) Ab)))))))
   (Ai (Ar (qv 2)))),?_⟩
  have bg:=big
  have hpl:=Op hs
  have hll:=Ze3 hs
  have hbl:=Zcn hs
  walk_at "r"
  refine ⟨Br,fun q0 hq0=>?_⟩
  obtain ⟨H1,s1,e1,z9⟩:=Io hq0 (.lst [])
  rw [z9]
  walk_at "r"
  refine ⟨v,t,p,pl,rfl,ht.same s1,s1.tup hp,hs,hl,fun q2 ws H2 hq2 s2 e2 al=>?_⟩
  walk_at "r"
  refine Zkx (SqL.of e2) fun q3 hq3=>?_
  have ec:Bz ws none (some (-1))=ws.take pl.length:=by rw [Zpz,al.1,hpl];rfl
  rw [ec]
  obtain ⟨H3,s3,e3,z9⟩:=Io hq3 (.lst (ws.take pl.length))
  rw [z9]
  walk_at "r"
  refine ⟨q3,_,rfl,SqL.of e3,?_⟩
  have s13:=s1.trans (s2.trans s3)
  have hwl:(ws.take pl.length).length=pl.length:=by rw [Pt,al.1];omega
  have n3:q0≠q3:=Aw ((s2 _ _ e1)) hq3
  refine Jv (K:=K) (a:=q3) (xs:=ws.take pl.length) (fun i σ' H'=>∃ w3 w4 w5 vs,σ'=[some v,some (.ref p),some (.ref q0),w3,w4,w5]/\H' q0=some (.lst vs)/\H' q3=some (.lst (ws.take pl.length))/\Al (BdAt K H' pl) vs (Cn 0 ((Db t pl).take i))/\SameT H3 H'/\Same H H') ⟨none,none,none,[],rfl,(s2.trans s3) _ _ e1,e3,Al.nil,SameT.refl _,s13⟩ ?_ ?_ ?_
  ·rintro i σ' H' _ ⟨_,_,_,_,_,_,e,_⟩
   exact SqL.of e
  ·rintro i x tt σ' H' hx htt ⟨w3,w4,w5,vs,rfl,e4,e5,al4,t4,sm4⟩
   have hi:i < pl.length:=by have:=(Pa.mp hx).1;rw [hwl] at this;exact this
   have hk:pl[i]?=some pl[i]:=O1 hi
   have hx':ws[i]?=some x:=by rw [List.getElem?_take,if_pos hi] at hx;exact hx
   obtain ⟨w',n',ps,u,a1,a2,a3⟩:=Zc6 hs i _ hk
   obtain ⟨ti,hti,hat⟩:=al.get hx'
   rw [a1] at hti
   cases hti
   have hsi:Df w' n':=by
    cases Zpw hs hsh _ (Qb a1) with
    | mk h _=>exact h
   have hla:=Zj3 hs i _ w' n' ps hk a1
   obtain ⟨H6,s6,e6,z9⟩:=Io htt (.tup [.int i,x])
   rw [z9]
   walk_at "r"
   refine Cm (SqT.of e6) rfl ?_
   walk_at "r"
   refine Au (s6.tup (sm4.tup hp)) (v:=.int (pl[i]:Nat)) (Zea i rfl (by unfold Bk;rw [Po,hk];rfl)) ?_
   walk_at "r"
   refine ⟨x,w',n',ps,pl[i],rfl,(hat.sameT (s3.t.trans t4)).same s6,hsi,fun q7 H7 hq7 s7 e7=>?_⟩
   refine .inl ⟨q7,rfl,⟨_,SqL.of e7⟩,?_⟩
   have s67:=s6.trans s7
   have n07:q0≠q7:=Aw (s6 _ _ e4) hq7
   have n37:q3≠q7:=Aw (s6 _ _ e5) hq7
   refine Ik (K:=K) (a:=q7) (xs:=(nb w' n' pl[i]).map V.str) (fun j σ' H'=>∃ w5 us,σ'=[some v,some (.ref p),some (.ref q0),some (.int i),some x,w5]/\H' q0=some (.lst us)/\H' q3=some (.lst (ws.take pl.length))/\H' q7=some (.lst ((nb w' n' pl[i]).map V.str))/\Al (BdAt K H' pl) us (Cn 0 ((Db t pl).take i)++((nb w' n' pl[i]).take j).map fun y=>(y,i))/\SameT H3 H'/\Same H H') ⟨_,vs,rfl,s67 _ _ e4,s67 _ _ e5,e7,by simpa using al4.mono (BdAt.same s67.t),t4.trans s67.t,sm4.trans s67⟩ ?_ ?_ ?_
   ·rintro j σ' H' _ ⟨_,_,_,_,_,e,_⟩
    exact SqL.of e
   ·rintro j y σ' H8 hy ⟨w5',us,rfl,e8,e8b,e8c,al8,t8,sm8⟩
    rw [Po] at hy
    cases hyy:(nb w' n' pl[i])[j]? with
    | none=>rw [hyy] at hy;cases hy
    | some yy =>
    rw [hyy] at hy
    have hy:V.str yy=y:=by simpa using hy
    subst hy
    have hnl:=Zdw w' n' pl[i]
    have hul:us.length<=2 * pl.length+2:=by
     rw [al8.1,O7,O6,Pt]
     have:=L3 0 ((Db t pl).take i) (fun l hl=>Zee hs l (List.mem_of_mem_take hl))
     rw [Pt] at this
     omega
    walk_at "r"
    refine B5 (SqL.of e8) ?_
    walk_at "r"
    refine Zlk (sm8.tup hp) fun r9 H9 s9 q9=>?_
    rw [Zgt,Zlz] at q9
    walk_at "r"
    refine ⟨A5,fun p10 h10=>?_⟩
    have s10:Same H8 (upd H9 p10 (.tup [.str yy,.ref r9])):=s9.put h10
    have e10:=s10 _ _ e8
    walk_at "r"
    refine C3 e10 (by omega) ?_
    walk_at "r"
    have t11:SameT H8 (upd (upd H9 p10 (.tup [.str yy,.ref r9])) q0 (.lst (us++[.ref p10]))):=s10.t.trans (SameT.set e10)
    refine ⟨_,us++[.ref p10],rfl,Ac,by rw [Ag n3.symm];exact s10 _ _ e8b,by rw [Ag n07.symm];exact s10 _ _ e8c,?_,t8.trans t11,(sm8.trans s10).over hq0⟩
    rw [R9,hyy,P6,<- P5]
    refine (al8.mono (BdAt.same t11)).snoc ⟨p10,r9,rfl,(SameT.set e10).tup (SqT.of Ac),?_⟩
    exact ((Same.upd (o:=.tup [.str yy,.ref r9]) h10).t.trans (SameT.set e10)).tup q9
   ·rintro σ' H8 ⟨w5',us,rfl,e8,e8b,e8c,al8,t8,sm8⟩
    rw [O6,Qz] at al8
    refine ⟨_,_,_,us,rfl,e8,e8b,?_,t8,sm8⟩
    rw [R9,hla,Zaz]
    have e9:Cn (0+((Db t pl).take i).length) (some (nb w' n' pl[i])).toList=(nb w' n' pl[i]).map fun y=>(y,i):=by
     rw [Pt,hll,Rj,Tb (by omega)]
     simp [Cn]
    rw [e9]
    exact al8
  ·rintro σ' H' ⟨w3,w4,w5,vs,rfl,e4,e5,al4,t4,sm4⟩
   rw [hwl,Qw (by omega)] at al4
   walk_at "r"
   exact q q0 vs H' hq0 sm4 e4 al4
noncomputable def Zet (K:Oz):Sp:=fun vs H Q _=>∃(v:V)(t:Tr)(p:Addr)(pl:List Nat),vs=[v,.ref p]/\TrAt K H v t/\Dz t/\SqT K H p (Bk pl)/\Sub t pl/\pl.length<=1000 /\
 ∀(q:Addr)(H':Hp),H q=none->Same H H'->H' q=some (.lst ((Cc t pl).map V.str))->Q (.ref q) H'
theorem Zec:(["name", "where"]:List Str).Nodup:=by decide +kernel
theorem Zms:Bo ["tree", "place"] ["tree", "place"] (Bg Jh):=by walk_at "sc"
theorem Zil {f:Addr}{fd:FuncData}(F:Fun K "names_at" "names_at" Jh f fd)(T:Txt K mg)(C_bindings_at:A9 P w K mg base 4 "bindings_at" ["tree", "place"] (Zbl K)):Bc P w K mg base Be 5 f fd ["tree", "place"] (Zet K):=by
 refine F.okq Zms (fun vs H Q E h=>?_) (fun cdv A outer s H vs Q E hr h=>?_)
 ·obtain ⟨v,t,p,pl,rfl,_⟩:=h
  rfl
 ·obtain ⟨v,t,p,pl,rfl,ht,hsh,hp,hs,hl,q⟩:=h
  refine ⟨_,Ai (Ar (Gc (N:=["name", "where"]) (σ0:=Dc 2 []) rfl (Er rfl (by decide +kernel) (by decide +kernel) (by decide +kernel)) (C9 K (Ba C_bindings_at hr.m (Aa (qv 0) (Aa (qv 1) Ab)))) (Es rfl (by rfl)) (fun _ _ _ _=>Cr K (n:=2) rfl (Bm (A4 (i:=0) Zec rfl (Or.inl rfl)) (Bm (A4 (i:=1) Zec rfl (Or.inl rfl)) (Ct)))) (fun _ _ _ _=>Gf) (fun _ _ _ _=>qv 0))),?_⟩
  have bg:=big
  have hbl:=Zcn hs
  walk_at "r"
  refine ⟨v,t,p,pl,rfl,ht,hsh,hp,hs,hl,fun q1 ws H1 hq1 s1 e1 al=>?_⟩
  refine .inl ⟨q1,rfl,⟨_,SqL.of e1⟩,fun D hD=>?_⟩
  have nD:q1≠D:=Aw e1 hD
  refine G6 (K:=K) (a:=q1) (xs:=ws) (Pv:=fun i ys σ' H'=>∃ v0 v1,σ'=[v0,v1]/\H' q1=some (.lst ws)/\ys=(((bn t pl).take i).map fun x=>V.str x.1)/\SameT H1 H'/\Same H1 H') ⟨none,none,rfl,by rw [Ag nD];exact e1,rfl,SameT.new hD,Same.upd hD⟩ ?_ ?_ ?_
  ·rintro i ys σ' H' _ ⟨_,_,_,e,_⟩
   exact SqL.of e
  ·rintro i x ys σ' H' hx hys ⟨v0,v1,rfl,e,rfl,t2,sm⟩
   obtain ⟨y,hy,a,b,rfl,g1,g2⟩:=al.get hx
   have hi:=(Pa.mp hx).1
   have hwl:ws.length<=2000:=by rw [al.1];omega
   walk_at "r"
   refine Cm (t2.tup g1) rfl ?_
   walk_at "r"
   refine ⟨_,hys,by rw [O6,Pt];omega,_,Ac,?_⟩
   refine ⟨_,_,rfl,by rw [Ag nD];exact e,?_,t2.trans (SameT.set hys),sm.over hD⟩
   rw [R9,hy,P6]
   rfl
  ·rintro ys σ' H' hys ⟨v0,v1,rfl,e,rfl,t2,sm⟩
   rw [al.1,Qz] at hys
   refine q D H' (s1.free hD) (s1.trans sm) ?_
   rw [hys,<- Zpc,Tj]
   rfl
noncomputable def Lf:Option Nat->V
 | none=>.non
 | some i=>.int (i:Nat)
noncomputable def Zeh (K:Oz):Sp:=fun vs H Q _=>∃(v:V)(t:Tr)(p:Addr)(pl:List Nat)(x:Str),vs=[v,.ref p,.str x]/\TrAt K H v t/\Dz t/\SqT K H p (Bk pl)/\Sub t pl/\pl.length<=1000 /\
 ∀(H':Hp),Same H H'->Q (Lf (B0 x 0 (Cc t pl))) H'
theorem sc_binding_at:Bo ["tree", "place", "name", "last", "number", "bound"] ["tree", "place", "name"] (Bg Ho):=by walk_at "sc"
theorem Zjg {f:Addr}{fd:FuncData}(F:Fun K "binding_at" "binding_at" Ho f fd)(T:Txt K mg)(C_names_at:A9 P w K mg base 5 "names_at" ["tree", "place"] (Zet K)):Bc P w K mg base Be 6 f fd ["tree", "place", "name"] (Zeh K):=by
 refine F.okq sc_binding_at (fun vs H Q E h=>?_) (fun cdv A outer s H vs Q E hr h=>?_)
 ·obtain ⟨v,t,p,pl,x,rfl,_⟩:=h
  rfl
 ·obtain ⟨v,t,p,pl,x,rfl,ht,hsh,hp,hs,hl,q⟩:=h
  refine ⟨_,Af (Av 3 sc_binding_at Fo)
   (Af (Co Pq rfl (Kt K rfl T.enumerate (Aa (Ba C_names_at hr.m (Aa (qv 0) (Aa (qv 1) Ab))) Ab)) (Cr K (n:=2) rfl (Bm (A4 (i:=4) sc_binding_at.nd rfl (Or.inl rfl)) (Bm (A4 (i:=5) sc_binding_at.nd rfl (Or.inl rfl)) (Ct)))) (Ai (A7 (Az (B3 K hr.u200) (qv 5) (qv 2) (Ay _)) (Ai (Av 3 sc_binding_at (qv 4))) A8)))
   (Ai (Ar (qv 3)))),?_⟩
  walk_at "r"
  refine ⟨v,t,p,pl,rfl,ht,hsh,hp,hs,hl,fun q1 H1 hq1 s1 e1=>?_⟩
  walk_at "r"
  refine ⟨q1,_,rfl,SqL.of e1,?_⟩
  refine Jv (K:=K) (a:=q1) (xs:=(Cc t pl).map V.str) (fun i σ' H'=>∃ w4 w5,σ'=[some v,some (.ref p),some (.str x),some (Lf (B0 x 0 ((Cc t pl).take i))),w4,w5]/\Same H1 H') ⟨none,none,rfl,Same.refl _⟩ ?_ ?_ ?_
  ·rintro i σ' H' _ ⟨_,_,_,sm⟩
   exact SqL.of (sm _ _ e1)
  ·rintro i y tt σ' H' hy htt ⟨w4,w5,rfl,sm⟩
   rw [Po] at hy
   cases hyy:(Cc t pl)[i]? with
   | none=>rw [hyy] at hy;cases hy
   | some yy =>
   rw [hyy] at hy
   have hy:V.str yy=y:=by simpa using hy
   subst hy
   have hi:=(Pa.mp hyy).1
   have e2:B0 x 0 ((Cc t pl).take (i+1))=if yy=x then some i else B0 x 0 ((Cc t pl).take i):=by
    rw [R9,hyy]
    show B0 x 0 (_++[yy])=_
    rw [Zlv,Pt,Rj,Tb (by omega)]
   obtain ⟨H3,s3,e3,z9⟩:=Io htt (.tup [.int i,.str yy])
   rw [z9]
   walk_at "r"
   refine Cm (SqT.of e3) rfl ?_
   walk_at "r"
   rw [Gh]
   refine Bv (fun c=>?_) (fun c=>?_)
   ·have c:=of_decide_eq_true c
    walk_at "r"
    refine ⟨some (.int i),some (.str yy),?_,sm.trans s3⟩
    rw [e2,if_pos c]
    rfl
   ·have c:¬ yy=x:=fun e=>c (decide_eq_true e)
    walk_at "r"
    refine ⟨some (.int i),some (.str yy),?_,sm.trans s3⟩
    rw [e2,if_neg c]
    rfl
  ·rintro σ' H' ⟨w4,w5,rfl,sm⟩
   rw [O6,Qz]
   walk_at "r"
   exact q H' (s1.trans sm)
noncomputable def Dg (t:Tr)(pl:List Nat)(f:Tr)(fb:Bool):Str:=match f with
 | .mk w n _=>if fb=false then "unlike" else if w = "odd" then "odd" else if w = "name" /\ B0 (C8 n) 0 (Cc t pl)=none then "free" else ""
noncomputable def Zay (K:Oz):Sp:=fun vs H Q _=>∃(v:V)(t:Tr)(p:Addr)(pl:List Nat)(u:V)(w:Str)(n:Dt)(ps:List Tr)(fb:Bool),vs=[v,.ref p,u,.bl fb]/\TrAt K H v t/\Dz t/\SqT K H p (Bk pl)/\Sub t pl/\pl.length<=1000/\TrAt K H u (.mk w n ps)/\Df w n/\∀ H',Same H H'->Q (.str (Dg t pl (.mk w n ps) fb)) H'
theorem Zo4:Bo ["tree", "place", "form", "fits"] ["tree", "place", "form", "fits"] (Bg Jl):=by walk_at "sc"
theorem Zn0 {f:Addr}{fd:FuncData}(F:Fun K "mark_of" "mark_of" Jl f fd)(T:Txt K mg)(C_binding_at:A9 P w K mg base 6 "binding_at" ["tree", "place", "name"] (Zeh K)):Bc P w K mg base Be 7 f fd ["tree", "place", "form", "fits"] (Zay K):=by
 refine F.okq Zo4 (fun vs H Q E h=>?_) (fun cdv A outer s H vs Q E hr h=>?_)
 ·obtain ⟨v,t,p,pl,u,w,n,ps,fb,rfl,_⟩:=h
  rfl
 ·obtain ⟨v,t,p,pl,u,w,n,ps,fb,rfl,htv,hts,hp,hsub,hpl,ht,hsh,q⟩:=h
  refine ⟨_,Af (A7 (Li (F1 K (qv 3) (by intro _;rfl))) (Ai (Ar Aq)) A8)
   (Af (A7 (Az (B3 K hr.u200) (Am K (qv 2) Ah) Aq (Ay _)) (Ai (Ar Aq)) A8)
   (Af (A7 (QW.qt (F6 (Az (B3 K hr.u200) (Am K (qv 2) Ah) Aq (Ay _)) (F2 (Hd (Zeq (Ba C_binding_at hr.m (Aa (qv 0) (Aa (qv 1) (Aa (Am K (qv 2) Ah) Ab))))))))) (Ai (Ar Aq)) A8)
   (Ai (Ar Aq)))),?_⟩
  have htu:=ht
  cases ht with
  | @mk bq pp _ nv _ us _ qb hn qp l hch =>
  have q:∀ H',Same H H'->Q (.str (if fb=false then "unlike" else if w = "odd" then "odd" else if w = "name" /\ B0 (C8 n) 0 (Cc t pl)=none then "free" else "")) H':=q
  walk_at "r"
  refine ⟨fb,by show fb=fb;rfl,?_⟩
  cases fb with
  | false =>
   rw [if_pos rfl] at q
   walk_at "r"
   exact q _ (Same.refl _)
  | true =>
   rw [if_neg (by decide)] at q
   walk_at "r"
   refine Au qb rfl ?_
   walk_at "r"
   rw [Et]
   refine Bv (fun c=>?_) (fun c=>?_)
   ·rw [if_pos (of_decide_eq_true c)] at q
    walk_at "r"
    exact q _ (Same.refl _)
   rw [if_neg (fun e=>c (decide_eq_true e))] at q
   walk_at "r"
   refine Au qb rfl ?_
   walk_at "r"
   rw [Et]
   by_cases cn:w = "name"
   ·rw [decide_eq_true cn]
    obtain ⟨tn,rfl⟩:=hsh.1 (.inr (.inr cn))
    have hnv:=K7 hn
    subst hnv
    walk_at "r"
    refine Au qb rfl ?_
    walk_at "r"
    refine ⟨v,t,p,pl,tn,rfl,htv,hts,hp,hsub,hpl,fun H1 s1=>?_⟩
    have q:∀ H',Same H H'->Q (.str (if w = "name" /\ B0 tn 0 (Cc t pl)=none then "free" else "")) H':=q
    cases e:B0 tn 0 (Cc t pl) with
    | none =>
     rw [if_pos ⟨cn,e⟩] at q
     walk_at "r"
     rw [show decide (Lf none=V.non)=true from rfl]
     walk_at "r"
     exact q _ s1
    | some k =>
     rw [if_neg (fun z=>by rw [e] at z;cases z.2)] at q
     walk_at "r"
     rw [show decide (Lf (some k)=V.non)=false from rfl]
     walk_at "r"
     exact q _ s1
   ·rw [decide_eq_false cn]
    rw [if_neg (fun z=>cn z.1)] at q
    walk_at "r"
    exact q _ (Same.refl _)
noncomputable def flat (ps:List (Nat×Nat)):List Nat:=ps.flatMap fun p=>[p.1,p.2]
theorem La:∀ ps:List (Nat×Nat),(flat ps).length=2 * ps.length
 | []=>rfl
 | p::r=>by
  have:=La r
  have e:flat (p::r)=p.1::p.2::flat r:=rfl
  rw [e,Pb,Pb,Pb,this]
  omega
theorem Zlg (ps:List (Nat×Nat))(p:Nat×Nat):flat (ps++[p])=flat ps++[p.1,p.2]:=by unfold flat;rw [U9];rfl
theorem KinG.len {rs:List (List Nat×Tr)}{sh sh':Ae}{D:Dn}{A:An}{ps:List (Nat×Nat)}(h:KinG rs sh D A ps sh'):ps.length=rs.length:=by
 induction h with
 | nil=>rfl
 | cons _ _ _ ih=>rw [Pb,Pb,ih]
theorem FitG.len {ps:List (Nat×Nat)}{m m':Ae}{fs:List Bool}(h:FitG ps m fs m'):fs.length=ps.length:=by
 induction h with
 | nil=>rfl
 | ok _ _ _ _ _ _ ih=>rw [Pb,Pb,ih]
 | clash _ _ _ ih=>rw [Pb,Pb,ih]
 | loop _ _ _ _ _ _ ih=>rw [Pb,Pb,ih]
structure Kn (t:Tr)(ks:List Kd)(fs:List Bool):Prop where
 ex:∃ ps sh1 sh2 N td',KinG (walk [] t) [.num,.truth] (fun _=>none) (fun q=>if q=[] then some (fun _=>none) else none) ps sh1/\FitG ps sh1 fs sh2/\ToldN sh2 N (fun _=>none) 0 (flat ps).reverse td'/\N<=2000/\ks.length=(flat ps).length/\∀(j x:Nat)(k:Kd),(flat ps)[j]?=some x->ks[j]?=some k->∃ r,Last sh2 x r/\td' r=some k
noncomputable abbrev Rw:=List Nat×Kd×Option Kd×Str
noncomputable def E3 (t:Tr)(ks:List Kd)(fs:List Bool)(i:Nat)(x:List Nat×Tr):Rw:=(x.1,ks.getD (2 * i) .num,(if x.1=[] then none else some (ks.getD (2 * i+1) .num)),Dg t x.1 x.2 (fs.getD i false))
noncomputable def B6 (t:Tr)(ks:List Kd)(fs:List Bool):List Rw:=(walk [] t).mapIdx (E3 t ks fs)
noncomputable def AkD (K:Oz)(H:Hp)(v:V)(a:Option Kd):Prop:=(a=none/\v=.non)\/∃ k,a=some k/\KdAt K H v k
theorem AkD.same {H H':Hp}{v:V}{a:Option Kd}(h:AkD K H v a)(e:SameT H H'):AkD K H' v a:=by
 rcases h with h | ⟨k,h1,h2⟩
 ·exact .inl h
 ·exact .inr ⟨k,h1,h2.same e⟩
noncomputable def LkAt (K:Oz)(H:Hp)(v:V)(r:Rw):Prop:=∃(e p:Addr)(g a:V),v=.ref e/\SqT K H e [.ref p,g,a,.str r.2.2.2]/\H p=some (.tup (Bk r.1))/\KdAt K H g r.2.1/\AkD K H a r.2.2.1
theorem LkAt.same {H H':Hp}(e:SameT H H')(v:V)(r:Rw)(h:LkAt K H v r):LkAt K H' v r:=by
 obtain ⟨c,p,g,a,h1,h2,h3,h4,h5⟩:=h
 exact ⟨c,p,g,a,h1,e.tup h2,(e p).1 _ h3,h4.same e,h5.same e⟩
noncomputable def Ll (K:Oz):Sp:=fun vs H Q _=>∃(v:V)(t:Tr)(ks:List Kd)(fs:List Bool),vs=[v]/\TrAt K H v t/\Dz t/\t.size<=40/\Kn t ks fs/\∀(p:Addr)(rows:List V)(H':Hp),Same H H'->H p=none->H' p=some (.lst rows)->Al (LkAt K H') rows (B6 t ks fs)->Q (.ref p) H'
theorem Ze1 (pl:List Nat):Bk pl=(pl.map fun i=>((i:Nat):Int)).map V.int:=by unfold Bk;rw [Tj];rfl
theorem Zoq {rs:List (List Nat×Tr)}{sh sh':Ae}{D:Dn}{A:An}{ps:List (Nat×Nat)}(h:KinG rs sh D A ps sh'):∀ x∈rs,∃ w n ts,x.2=.mk w n ts/\Df w n:=by
 induction h with
 | nil=>intro x hx;cases hx
 | cons _ hsh _ ih =>
  intro x hx
  rcases O5.mp hx with rfl | hx
  ·exact ⟨_,_,_,rfl,hsh⟩
  ·exact ih x hx
theorem sc_looks:Bo ["tree", "placed", "shapes", "pairs", "settled", "fits", "wanted", "pair", "kinds", "rows", "number", "asked"] ["tree"] (Bg Ji):=by walk_at "sc"
theorem Zgn {f:Addr}{fd:FuncData}(F:Fun K "looks" "looks" Ji f fd)(T:Txt K mg)(G_MOST_FORMS:Fc mg "MOST_FORMS" (.int 40))(C_placed_forms:A9 P w K mg base 1 "placed_forms" ["tree"] (Zc4 K))(C_kinds_in:A9 P w K mg base 3 "kinds_in" ["placed"] (Zbk K))(C_fitted:A9 P w K mg base 4 "fitted" ["shapes", "pairs"] (Zch K))(C_kinds_told:A9 P w K mg base 2 "kinds_told" ["shapes", "wanted"] (Zes K))(C_mark_of:A9 P w K mg base 7 "mark_of" ["tree", "place", "form", "fits"] (Zay K)):Bc P w K mg base Be 8 f fd ["tree"] (Ll K):=by
 refine F.okq sc_looks (fun vs H Q E h=>?_) (fun cdv A outer s H vs Q E hr h=>?_)
 ·obtain ⟨v,t,ks,fs,rfl,_⟩:=h
  rfl
 ·obtain ⟨v,t,ks,fs,rfl,ht,hts,hsz,⟨ps,sh1,sh2,N,td',hK,hF,hT,hN,hkl,hks⟩,q⟩:=h
  refine ⟨_,Af (Av 1 sc_looks (Ba C_placed_forms hr.m (Aa (qv 0) Ab)))
   (Af (A7 (Az Kk (Cs (Dl K) (by rfl) T.len (by decide +kernel) (Aa (qv 1) Ab)) (D8 G_MOST_FORMS) (Ay _)) (Ai Zby) A8)
   (Af (Ga (Ba C_kinds_in hr.m (Aa (qv 1) Ab)) (Cr K (n:=2) rfl (Bm (A4 (i:=2) sc_looks.nd rfl (Or.inl rfl)) (Bm (A4 (i:=3) sc_looks.nd rfl (Or.inl rfl)) (Ct)))))
   (Af (Ga (Ba C_fitted hr.m (Aa (qv 2) (Aa (qv 3) Ab))) (Cr K (n:=2) rfl (Bm (A4 (i:=4) sc_looks.nd rfl (Or.inl rfl)) (Bm (A4 (i:=5) sc_looks.nd rfl (Or.inl rfl)) (Ct)))))
   (Af (Av 6 sc_looks (Ax Ab))
   (Af (Co Pq rfl (C9 K (qv 3)) (A4 (i:=7) sc_looks.nd rfl (Or.inl rfl)) (Ai (Cp (C0 K Pz PySem.F.slot_list_extend PySem.F.type_list_extend (Zh9 K) (qv 6) (Aa (qv 7) Ab)))))
   (Af (Av 8 sc_looks (Ba C_kinds_told hr.m (Aa (qv 4) (Aa (qv 6) Ab))))
   (Af (Av 9 sc_looks (Ax Ab))
   (Af (Co Pq rfl (Kt K rfl T.enumerate (Aa (qv 1) Ab)) (Cr K (n:=2) rfl (Bm (A4 (i:=10) sc_looks.nd rfl (Or.inl rfl)) (Bm (A4 (i:=7) sc_looks.nd rfl (Or.inl rfl)) (Ct)))) (Af (Av 11 sc_looks (K6 (Az (Zoz K hr.u200) (Am K (qv 7) Ah) (Ao Ab) (Ay _)) Fo (Am K (qv 8) (A6 (Ei K) (A6 Ha Ah (qv 10)) Ah))))
   (Ai (Cp (C0 K Pz Qe Qf De (qv 9) (Aa (Ao (Aa (Am K (qv 7) Ah) (Aa (Am K (qv 8) (A6 Ha Ah (qv 10))) (Aa (qv 11) (Aa (Ba C_mark_of hr.m (Aa (qv 0) (Aa (Am K (qv 7) Ah) (Aa (Am K (qv 7) Ah) (Aa (Am K (qv 5) (qv 10)) Ab))))) Ab))))) Ab))))))
   (Ai (Ar (qv 9))))))))))),?_⟩
  have bg:=big
  have hwl:(walk [] t).length=t.size:=Dr _ _
  have hpl:ps.length=t.size:=by rw [hK.len,hwl]
  have hfl:fs.length=t.size:=by rw [hF.len,hpl]
  have hfps:(flat ps).length=2 * t.size:=by rw [La,hpl]
  walk_at "r"
  refine ⟨v,t,rfl,ht,by omega,fun pp rows H1 s1 hpp er al=>?_⟩
  have hrl:rows.length=t.size:=by rw [al.1,hwl]
  walk_at "r"
  refine Dx (SqL.of er) ?_
  walk_at "r"
  refine Znz ?_ ?_
  ·have:¬ ((40:Int) < (rows.length:Nat)):=by omega
   simpa using this
  walk_at "r"
  refine ⟨pp,rows,walk [] t,ps,sh1,rfl,er,al,by omega,fun r hr2=>by have:=Kh [] t r hr2;simp at this;omega,hK,fun r a b pv H2 s2 qr sh eb alp=>?_⟩
  refine Cm qr rfl ?_
  walk_at "r"
  refine ⟨a,b,sh1,sh2,pv,ps,fs,rfl,sh,eb,alp,hF,by omega,fun r2 a2 c2 H3 s3 qr2 ec2 sg2=>?_⟩
  refine Cm qr2 rfl ?_
  walk_at "r"
  refine ⟨Br,fun pw hpw=>?_⟩
  have s4:=Same.upd (o:=.lst []) hpw
  have eb4:=s4 _ _ (s3 _ _ eb)
  walk_at "r"
  refine .inl ⟨b,rfl,⟨_,SqL.of eb4⟩,?_⟩
  refine Ik (K:=K) (a:=b) (xs:=pv) (fun i σ' H'=>∃ v7 v8 v9 v10 v11,σ'=[some v,some (.ref pp),some (.ref a),some (.ref b),some (.ref a2),some (.ref c2),some (.ref pw),v7,v8,v9,v10,v11]/\H' pw=some (.lst (Ak (flat (ps.take i))))/\Same H3 H')
   ⟨_,_,_,_,_,rfl,Ac,s4⟩ ?_ ?_ ?_
  ·rintro i σ' H' _ ⟨_,_,_,_,_,_,_,sm⟩
   exact SqL.of (sm _ _ (s3 _ _ eb))
  ·rintro i x σ' H5 hx ⟨v7,v8,v9,v10,v11,rfl,ew,sm⟩
   obtain ⟨y,hy,pa,rfl,qpa⟩:=alp.get hx
   have hi:=(Pa.mp hy).1
   have hfl2:(Ak (flat (ps.take i))).length=2 * i:=by unfold Ak;rw [O6,La,Pt];omega
   walk_at "r"
   refine B5 (SqL.of ew) ?_
   walk_at "r"
   refine ⟨pw,pa,_,_,rfl,rfl,ew,(s3.trans sm).tup qpa,by rw [hfl2];show 2 * i+2<=sizeLine;omega,?_⟩
   refine ⟨_,_,_,_,_,rfl,?_,sm.over hpw⟩
   rw [Ac,Qn,hy]
   show some (HO.lst (Ak (flat (ps.take i))++[.int (y.1:Nat),.int (y.2:Nat)]))=some (.lst (Ak (flat (ps.take i++[y]))))
   rw [Zlg,Ft]
   rfl
  ·rintro σ' H5 ⟨v7,v8,v9,v10,v11,rfl,ew,sm⟩
   rw [alp.1,Qz] at ew
   walk_at "r"
   refine ⟨a2,pw,sh2,flat ps,ks,N,td',rfl,sg2.same sm,ew,hT,hN,by omega,hkl,hks,fun c3 us H6 s6 hc3 ec3 alk=>?_⟩
   walk_at "r"
   refine ⟨Br,fun pr hpr=>?_⟩
   have s7:=Same.upd (o:=.lst []) hpr
   have sA:Same H1 H6:=((s2.trans s3).trans sm).trans s6
   have hpr0:H pr=none:=(s1.trans sA).free hpr
   walk_at "r"
   refine ⟨pp,rows,rfl,SqL.of (s7 _ _ (sA _ _ er)),?_⟩
   have e6:H6 c2=some (.lst (fs.map V.bl)):=(sm.trans s6) _ _ ec2
   refine Jv (K:=K) (a:=pp) (xs:=rows) (fun i σ' H'=>∃ w7 D7 C2 rv,σ'=[some v,some (.ref pp),some (.ref a),some (.ref b),some (.ref a2),some (.ref c2),some (.ref pw),w7,some (.ref c3),some (.ref pr),D7,C2]/\H' pr=some (.lst rv)/\Al (LkAt K H') rv ((B6 t ks fs).take i)/\Same H6 H')
    ⟨_,_,_,[],rfl,Ac,.nil,s7⟩ ?_ ?_ ?_
   ·rintro i σ' H' _ ⟨_,_,_,_,_,_,_,sm2⟩
    exact SqL.of (sm2 _ _ (sA _ _ er))
   ·rintro i x tt σ' H7 hx htt ⟨w7,D7,C2,rv,rfl,erv,alr,sm2⟩
    obtain ⟨y,hy,ra,pl,u,rfl,qra,epl,hu⟩:=al.get hx
    have hi:=(Pa.mp hy).1
    have hr0:(B6 t ks fs)[i]?=some (E3 t ks fs i y):=by unfold B6;rw [U7,hy];rfl
    have hif:i < fs.length:=by omega
    have hik:2 * i < ks.length:=by omega
    have hik1:2 * i+1 < ks.length:=by omega
    have g0:ks.getD (2 * i) .num=ks[2 * i]:=by rw [Qd,O1 hik];rfl
    have g1:ks.getD (2 * i+1) .num=ks[2 * i+1]:=by rw [Qd,O1 hik1];rfl
    have gf:fs.getD i false=fs[i]:=by rw [Qd,O1 hif];rfl
    have s8:=Same.upd (o:=.tup [.int (i:Nat),.ref ra]) htt
    have sB:Same H1 (upd H7 tt (.tup [.int (i:Nat),.ref ra])):=(sA.trans sm2).trans s8
    have sC:Same H6 (upd H7 tt (.tup [.int (i:Nat),.ref ra])):=sm2.trans s8
    have erv8:=s8 _ _ erv
    have alr8:=alr.mono (LkAt.same s8.t)
    refine Cm (SqT.of Ac) rfl ?_
    revert sB sC erv8 alr8
    generalize upd H7 tt (.tup [.int (i:Nat),.ref ra])=H8
    intro sB sC erv8 alr8
    obtain ⟨kv,hkv,kk⟩:=alk.get' (O1 hik)
    obtain ⟨kw,hkw,kk2⟩:=alk.get' (O1 hik1)
    have epl8:=sB _ _ epl
    have qpl8:SqT K H8 pl (Bk y.1):=SqT.of epl8
    have i2:(2:Int) * (i:Nat)=((2 * i:Nat):Int):=by omega
    have i3:(2:Int) * (i:Nat)+1=((2 * i+1:Nat):Int):=by omega
    walk_at "q"
    refine viaE (R:=fun av H'=>AkD K H6 av (E3 t ks fs i y).2.2.1/\Same H8 H') ?_ ?_
    ·intro Y hY
     walk_at "r"
     refine Au (sB.tup qra) rfl ?_
     walk_at "r"
     refine ⟨Br,fun p9 h9=>?_⟩
     have s9:=Same.upd (o:=.tup []) h9
     refine Zmo (xs:=y.1.map fun i=>((i:Nat):Int)) (ys:=[]) (by rw [<- Ze1];exact s9.tup qpl8) (SqT.of Ac) ?_
     walk_at "r"
     refine Bv (fun c=>?_) (fun c=>?_)
     ·have c:y.1=[]:=by simpa using c
      walk_at "r"
      exact hY _ _ ⟨.inl ⟨if_pos c,rfl⟩,s9⟩
     ·have c:y.1≠[]:=fun e=>c (by rw [e];rfl)
      walk_at "r"
      rw [i3]
      refine Bj (SqL.of (s9 _ _ (sC _ _ ec3))) (Dp hkw) ?_
      refine hY _ _ ⟨.inr ⟨_,if_neg c,?_⟩,s9⟩
      rw [g1]
      exact kk2
    rintro av H9 ⟨kav,s9⟩
    walk_at "q"
    walk_at "r"
    refine B5 (SqL.of (s9 _ _ erv8)) ?_
    walk_at "r"
    refine Au ((sB.trans s9).tup qra) rfl ?_
    walk_at "r"
    rw [i2]
    refine Bj (SqL.of ((sC.trans s9) _ _ ec3)) (Dp hkv) ?_
    walk_at "r"
    refine Au ((sB.trans s9).tup qra) rfl ?_
    walk_at "r"
    refine Au ((sB.trans s9).tup qra) rfl ?_
    walk_at "r"
    have hfb2:(fs.map V.bl)[i]?=some (.bl fs[i]):=by rw [Po,O1 hif];rfl
    refine Bj (SqL.of ((sC.trans s9) _ _ e6)) (Dp hfb2) ?_
    walk_at "r"
    obtain ⟨wd,n,ts,hyt,hshy⟩:=Zoq hK y (Qb hy)
    have hdep:=Kh [] t y (Qb hy)
    have hsubt:=Za2 t y (Qb hy)
    have hmg:(E3 t ks fs i y).2.2.2=Dg t y.1 (.mk wd n ts) fs[i]:=by show Dg t y.1 y.2 (fs.getD i false)=_;rw [gf,hyt]
    refine ⟨v,t,pl,y.1,u,wd,n,ts,fs[i],rfl,ht.same ((s1.trans sB).trans s9),hts,(s9.tup qpl8),hsubt,by simp at hdep;omega,by rw [<- hyt];exact hu.same (sB.trans s9),hshy,fun HX sX=>?_⟩
    rw [<- hmg]
    walk_at "r"
    refine ⟨sz4,fun pz hpz=>?_⟩
    have sz:=Same.upd (o:=.tup [.ref pl,kv,av,.str (E3 t ks fs i y).2.2.2]) hpz
    walk_at "r"
    have s9X:=(s9.trans sX).trans sz
    have erv9:=s9X _ _ erv8
    have hrv:rv.length < sizeLine:=by rw [alr.1,Pt];omega
    refine C3 erv9 hrv ?_
    have tz:SameT H8 (upd (upd HX pz (.tup [.ref pl,kv,av,.str (E3 t ks fs i y).2.2.2])) pr (.lst (rv++[.ref pz]))):=s9X.t.trans (SameT.set erv9)
    refine ⟨_,_,_,rv++[.ref pz],rfl,Ac,?_,?_⟩
    ·rw [Qn,hr0]
     refine (alr8.mono (LkAt.same tz)).snoc ⟨pz,pl,kv,av,rfl,(SameT.set erv9).tup (SqT.of Ac),(tz pl).1 _ epl8,?_,(kav.same sC.t).same tz⟩
     show KdAt K _ kv (ks.getD (2 * i) .num)
     rw [g0]
     exact (kk.same sC.t).same tz
    ·exact (sC.trans s9X).over hpr
   ·rintro σ' H7 ⟨w7,D7,C2,rv,rfl,erv,alr,sm2⟩
    have e9:rows.length=(B6 t ks fs).length:=by unfold B6;rw [Vh,hrl,hwl]
    rw [e9,Qz] at alr
    walk_at "r"
    exact q pr rv H7 ((s1.trans sA).trans sm2) hpr0 erv alr
end
noncomputable def arG (w:Str):Nat:=(As 0 w).2.1.length
theorem Zaq (m:Nat)(w:Str):(As m w).2.1.length=arG w:=by
 unfold arG As
 by_cases h1:w = "num"
 ·rw [if_pos h1,if_pos h1]
 rw [if_neg h1,if_neg h1]
 by_cases h2:w = "truth"
 ·rw [if_pos h2,if_pos h2]
 rw [if_neg h2,if_neg h2]
 by_cases h3:w = "plus" \/ w = "minus"
 ·rw [if_pos h3,if_pos h3]
 rw [if_neg h3,if_neg h3]
 by_cases h4:w = "less"
 ·rw [if_pos h4,if_pos h4]
 rw [if_neg h4,if_neg h4]
 by_cases h5:w = "if"
 ·rw [if_pos h5,if_pos h5];rfl
 rw [if_neg h5,if_neg h5]
 by_cases h6:w = "gap" \/ w = "odd" \/ w = "name"
 ·rw [if_pos h6,if_pos h6]
 rw [if_neg h6,if_neg h6]
 by_cases h7:w = "let"
 ·rw [if_pos h7,if_pos h7];rfl
 rw [if_neg h7,if_neg h7]
 by_cases h8:w = "fn"
 ·rw [if_pos h8,if_pos h8];rfl
 rw [if_neg h8,if_neg h8]
 by_cases h9:w = "rec"
 ·rw [if_pos h9,if_pos h9];rfl
 rw [if_neg h9,if_neg h9]
 rfl
inductive AT:Tr->Prop where
 | mk {w:Str} {n:Dt} {ts:List Tr} (hw:Df w n) (hl:ts.length=arG w) (h:∀ t∈ts,AT t):AT (.mk w n ts)
theorem Mo (A:An)(pl:List Nat)(f:Nat->Ev):∀ m j,j < m->Dv A pl f m (pl++[j])=some (f j)
 | 0,j,h=>absurd h (Rt _)
 | m+1,j,h=>by
  show (if pl++[j]=pl++[m] then some (f m) else Dv A pl f m (pl++[j]))=_
  by_cases e:j=m
  ·rw [e,if_pos rfl]
  ·rw [if_neg fun z=>e (by simpa using z)]
   exact Mo A pl f m j (by omega)
theorem Nr (A:An)(pl:List Nat)(f:Nat->Ev)(q:List Nat)(h:∀ j,q≠pl++[j]):∀ m,Dv A pl f m q=A q
 | 0=>rfl
 | m+1=>by
  show (if q=pl++[m] then some (f m) else Dv A pl f m q)=_
  rw [if_neg (h m)]
  exact Nr A pl f q h m
mutual
theorem Zfl:∀(t:Tr)(pl:List Nat)(sh:Ae)(D:Dn)(A:An)(rest:List (List Nat×Tr)),AT t->(A pl).isSome=true ->
  (∀ sh2 D2 (A2:An),(∀ q,(∀ j,¬ pl++[j] <+: q)->A2 q=A q)->∃ ps sh',KinG rest sh2 D2 A2 ps sh')->∃ ps sh',KinG (walk pl t++rest) sh D A ps sh'
 | .mk w n ts,pl,sh,D,A,rest,h,hA,hr=>by
  cases h with
  | mk hw hl h =>
  obtain ⟨e,he⟩:=Q2.mp hA
  obtain ⟨ps,sh',k⟩:=Zbc ts pl 0 (sh++(As sh.length w).2.2.2) (Cq D pl 0 (As sh.length w).2.1) (Dv A pl (fun j=>Cg e (nb w n j) (As sh.length w).2.2.1) (As sh.length w).2.1.length) rest h
   (fun j _ hj=>by rw [Mo _ _ _ _ _ (by rw [Zaq];omega)];rfl)
   (fun sh2 D2 A2 hq=>hr sh2 D2 A2 fun q hq2=>by
    rw [hq q fun j _=>hq2 j]
    exact Nr A pl _ q (fun j z=>hq2 j (by rw [z];exact Vu)) _)
  rw [walk,Re]
  exact ⟨_,_,.cons he hw k⟩
theorem Zbc:∀(ts:List Tr)(pl:List Nat)(i:Nat)(sh:Ae)(D:Dn)(A:An)(rest:List (List Nat×Tr)),(∀ t∈ts,AT t)->(∀ j,i<=j->j < i+ts.length->(A (pl++[j])).isSome=true) ->
  (∀ sh2 D2 (A2:An),(∀ q,(∀ j,i<=j->¬ pl++[j] <+: q)->A2 q=A q)->∃ ps sh',KinG rest sh2 D2 A2 ps sh')->∃ ps sh',KinG (Bf pl i ts++rest) sh D A ps sh'
 | [],pl,i,sh,D,A,rest,_,_,hr=>by
  rw [Bf,Ui]
  exact hr sh D A fun _ _=>rfl
 | t::r,pl,i,sh,D,A,rest,h,hA,hr=>by
  rw [Bf,P5]
  refine Zfl t (pl++[i]) sh D A (Bf pl (i+1) r++rest) (h t (by simp)) (hA i (O2 _) (by simp)) fun sh2 D2 A2 hf=>?_
  refine Zbc r pl (i+1) sh2 D2 A2 rest (fun x hx=>h x (by simp [hx])) (fun j h1 h2=>?_) (fun sh3 D3 A3 hg=>hr sh3 D3 A3 fun q hq=>?_)
  ·rw [hf _ fun j' e=>by have:=e.length_le;simp at this]
   exact hA j (by omega) (by simp;omega)
  ·rw [hg q fun j hj=>hq j (by omega),hf q fun j e=>hq i (O2 _) (List.IsPrefix.trans ⟨[j],rfl⟩ e)]
end
theorem Znx {t:Tr}(h:AT t):∃ ps sh',KinG (walk [] t) [.num,.truth] (fun _=>none) (fun q=>if q=[] then some (fun _=>none) else none) ps sh':=by
 have:=Zfl t [] [.num,.truth] (fun _=>none) (fun q=>if q=[] then some (fun _=>none) else none) [] h rfl fun sh2 D2 A2 _=>⟨[],sh2,.nil⟩
 rwa [Pw] at this
structure Ini (sh:Ae):Prop where
 ns:∀(i:Nat)(s:Sh),sh[i]?=some s->s.isSame=false
 dn:∀(i a b:Nat),sh[i]?=some (.to a b)->a < i/\b < i
theorem Zg0 (m:Nat)(w:Str)(hm:2<=m):(As m w).1 < m+(As m w).2.2.2.length/\(∀ x∈(As m w).2.1,x < m+(As m w).2.2.2.length)/\(∀ x∈(As m w).2.2.1,x < m+(As m w).2.2.2.length)/\(∀(i:Nat)(s:Sh),(As m w).2.2.2[i]?=some s->s.isSame=false/\∀ a b,s=.to a b->a < m+i/\b < m+i):=by
 have one:∀(i:Nat)(s:Sh),([Sh.any]:Ae)[i]?=some s->s.isSame=false/\∀ a b,s=.to a b->a < m+i/\b < m+i:=fun i s h=>by
  match i,h with
  | 0,h=>cases h;exact ⟨rfl,fun a b e=>by cases e⟩
 have two:∀(i:Nat)(s:Sh),([Sh.any,.any]:Ae)[i]?=some s->s.isSame=false/\∀ a b,s=.to a b->a < m+i/\b < m+i:=fun i s h=>by
  match i,h with
  | 0,h=>cases h;exact ⟨rfl,fun a b e=>by cases e⟩
  | 1,h=>cases h;exact ⟨rfl,fun a b e=>by cases e⟩
 have thr:∀(i:Nat)(s:Sh),([Sh.any,.any,.to m (m+1)]:Ae)[i]?=some s->s.isSame=false/\∀ a b,s=.to a b->a < m+i/\b < m+i:=fun i s h=>by
  match i,h with
  | 0,h=>cases h;exact ⟨rfl,fun a b e=>by cases e⟩
  | 1,h=>cases h;exact ⟨rfl,fun a b e=>by cases e⟩
  | 2,h=>cases h;exact ⟨rfl,fun a b e=>by cases e;omega⟩
 have nil:∀(i:Nat)(s:Sh),([]:Ae)[i]?=some s->s.isSame=false/\∀ a b,s=.to a b->a < m+i/\b < m+i:=fun i s h=>by cases h
 have mem:∀{xs:List Nat}{k:Nat},(∀ x∈xs,x < k)↔xs.all (fun x=>decide (x < k))=true:=by intro xs k;simp
 have fin:∀{k:Nat×List Nat×List Nat×Ae}{g:Nat}{as bs:List Nat}{new:Ae},k=(g,as,bs,new)->g < m+new.length->(∀ x∈as,x < m+new.length)->(∀ x∈bs,x < m+new.length)->(∀(i:Nat)(s:Sh),new[i]?=some s->s.isSame=false/\∀ a b,s=.to a b->a < m+i/\b < m+i) ->
   k.1 < m+k.2.2.2.length/\(∀ x∈k.2.1,x < m+k.2.2.2.length)/\(∀ x∈k.2.2.1,x < m+k.2.2.2.length)/\(∀(i:Nat)(s:Sh),k.2.2.2[i]?=some s->s.isSame=false/\∀ a b,s=.to a b->a < m+i/\b < m+i):=by
  rintro k g as bs new rfl h1 h2 h3 h4
  exact ⟨h1,h2,h3,h4⟩
 by_cases h1:w = "num"
 ·exact fin (if_pos h1) (by simp;omega) (by simp) (by simp) nil
 by_cases h2:w = "truth"
 ·exact fin (by unfold As;rw [if_neg h1,if_pos h2]) (by simp;omega) (by simp) (by simp) nil
 by_cases h3:w = "plus" \/ w = "minus"
 ·exact fin (by unfold As;rw [if_neg h1,if_neg h2,if_pos h3]) (by simp;omega) (by simp;omega) (by simp) nil
 by_cases h4:w = "less"
 ·exact fin (by unfold As;rw [if_neg h1,if_neg h2,if_neg h3,if_pos h4]) (by simp;omega) (by simp;omega) (by simp) nil
 by_cases h5:w = "if"
 ·exact fin (by unfold As;rw [if_neg h1,if_neg h2,if_neg h3,if_neg h4,if_pos h5]) (by simp) (by simp;omega) (by simp) one
 by_cases h6:w = "gap" \/ w = "odd" \/ w = "name"
 ·exact fin (by unfold As;rw [if_neg h1,if_neg h2,if_neg h3,if_neg h4,if_neg h5,if_pos h6]) (by simp) (by simp) (by simp) one
 by_cases h7:w = "let"
 ·exact fin (by unfold As;rw [if_neg h1,if_neg h2,if_neg h3,if_neg h4,if_neg h5,if_neg h6,if_pos h7]) (by simp) (by simp) (by simp) two
 by_cases h8:w = "fn"
 ·exact fin (by unfold As;rw [if_neg h1,if_neg h2,if_neg h3,if_neg h4,if_neg h5,if_neg h6,if_neg h7,if_pos h8]) (by simp) (by simp) (by simp) thr
 by_cases h9:w = "rec"
 ·exact fin (by unfold As;rw [if_neg h1,if_neg h2,if_neg h3,if_neg h4,if_neg h5,if_neg h6,if_neg h7,if_neg h8,if_pos h9]) (by simp) (by simp) (by simp) thr
 ·exact fin (by unfold As;rw [if_neg h1,if_neg h2,if_neg h3,if_neg h4,if_neg h5,if_neg h6,if_neg h7,if_neg h8,if_neg h9]) (by simp) (by simp) (by simp) thr
theorem Ze2 (pl q:List Nat)(k:Nat):∀(xs:List Nat)(D:Dn)(i:Nat),Cq D pl i xs q=some k->k∈xs\/D q=some k
 | [],D,i,h=>.inr h
 | x::r,D,i,h=>by
  rcases Ze2 pl q k r _ (i+1) h with h | h
  ·exact .inl (P4 _ h)
  ·have h:(if q=pl++[i] then some x else D q)=some k:=h
   by_cases e:q=pl++[i]
   ·rw [if_pos e] at h;cases h;exact .inl (by simp)
   ·rw [if_neg e] at h;exact .inr h
theorem Zew (A:An)(pl:List Nat)(f:Nat->Ev)(q:List Nat)(e:Ev):∀ m,Dv A pl f m q=some e->A q=some e\/∃ j,e=f j
 | 0,h=>.inl h
 | m+1,h=>by
  have h:(if q=pl++[m] then some (f m) else Dv A pl f m q)=some e:=h
  by_cases z:q=pl++[m]
  ·rw [if_pos z] at h;cases h;exact .inr ⟨m,rfl⟩
  ·rw [if_neg z] at h;exact Zew A pl f q e m h
theorem Zm8 {ns:List Str}{ks:List Nat}{s:Str}{k:Nat}{e:Ev}(h:Cg e ns ks s=some k):k∈ks\/e s=some k:=by
 unfold Cg at h
 have key:∀(l:List (Str×Nat))(e:Ev),l.foldl (fun e p=>fun s=>if s=p.1 then some p.2 else e s) e s=some k->(∃ p∈l,p.2=k)\/e s=some k:=by
  intro l
  induction l with
  | nil=>intro e h;exact .inr h
  | cons p r ih =>
   intro e h
   rcases ih _ h with ⟨q,h1,h2⟩ | h
   ·exact .inl ⟨q,P4 _ h1,h2⟩
   ·have h:(if s=p.1 then some p.2 else e s)=some k:=h
    by_cases z:s=p.1
    ·rw [if_pos z] at h;cases h;exact .inl ⟨p,by simp,rfl⟩
    ·rw [if_neg z] at h;exact .inr h
 rcases key _ _ h with ⟨p,h1,rfl⟩ | h
 ·exact .inl (Sy h1).2
 ·exact .inr h
theorem Zg1 {rs:List (List Nat×Tr)}{sh sh':Ae}{D:Dn}{A:An}{ps:List (Nat×Nat)}(h:KinG rs sh D A ps sh'):Ini sh->2<=sh.length->(∀ q k,D q=some k->k < sh.length)->(∀ q e s k,A q=some e->e s=some k->k < sh.length)->Ini sh'/\sh.length<=sh'.length/\sh'.length<=sh.length+3 * rs.length/\∀ p∈ps,p.1 < sh'.length/\p.2 < sh'.length:=by
 induction h with
 | nil=>exact fun h1 _ _ _=>⟨h1,O2 _,by simp,fun p hp=>by cases hp⟩
 | @cons pl w n ts rs sh sh' D A e ps hA hsh k ih =>
  intro h1 h2 h3 h4
  obtain ⟨k1,k2,k3,k4⟩:=Zg0 sh.length w h2
  have kl:=(Zcq sh.length w).2
  have hl:(sh++(As sh.length w).2.2.2).length=sh.length+(As sh.length w).2.2.2.length:=O7 ..
  have hg:Cw sh.length w n e < sh.length+(As sh.length w).2.2.2.length:=by
   unfold Cw
   split
   ·cases e2:e (C8 n) with
    | none=>exact k1
    | some k=>have:=h4 pl e _ k hA e2;show k < _;omega
   ·exact k1
  have hini:Ini (sh++(As sh.length w).2.2.2):=by
   refine ⟨fun i s hs=>?_,fun i a b hs=>?_⟩
   ·by_cases hi:i < sh.length
    ·rw [Py hi] at hs;exact h1.ns i s hs
    ·rw [Px (by omega)] at hs;exact (k4 _ s hs).1
   ·by_cases hi:i < sh.length
    ·rw [Py hi] at hs;exact h1.dn i a b hs
    ·rw [Px (by omega)] at hs
     have:=(k4 _ _ hs).2 a b rfl
     omega
  obtain ⟨i1,i2,i3,i4⟩:=ih hini (by omega) (fun q k hq=>by
    rcases Ze2 _ _ _ _ _ _ hq with hq | hq
    ·have:=k2 k hq;omega
    ·have:=h3 q k hq;omega) (fun q e' s k hq hs=>by
    rcases Zew _ _ _ _ _ _ hq with hq | ⟨j,rfl⟩
    ·have:=h4 q e' s k hq hs;omega
    ·rcases Zm8 hs with hs | hs
     ·have:=k3 k hs;omega
     ·have:=h4 pl e s k hA hs;omega)
  rw [hl] at i2 i3
  refine ⟨i1,by omega,by rw [Pb];omega,fun p hp=>?_⟩
  rcases O5.mp hp with rfl | hp
  ·refine ⟨by show Cw sh.length w n e < _;omega,?_⟩
   show (D pl).getD (Cw sh.length w n e) < _
   cases e2:D pl with
   | none=>show Cw sh.length w n e < _;omega
   | some k=>have:=h3 pl k e2;show k < _;omega
  ·exact i4 p hp
noncomputable def Bd (m:Ae):Prop:=∀(i:Nat)(s:Sh),m[i]?=some s->∀ p∈s.parts,p < m.length
noncomputable def Cy (m:Ae):Prop:=∀ i,i < m.length->∃ r,Last m i r
theorem Ini.tot {m:Ae}(h:Ini m):Cy m:=fun i hi=>⟨i,0,.root (O1 hi) (h.ns i _ (O1 hi))⟩
theorem Ini.bd {m:Ae}(h:Ini m):Bd m:=fun i s hs p hp=>by
 have hi:=(Pa.mp hs).1
 cases s with
 | to a b =>
  have:=h.dn i a b hs
  simp only [Sh.parts,O5,Pd,or_false] at hp
  rcases hp with rfl | rfl <;> omega
 | same k=>have:=h.ns i _ hs;cases this
 | num=>cases hp
 | truth=>cases hp
 | any=>cases hp
theorem Last.lt {m:Ae}{i r:Nat}(h:Last m i r):r < m.length:=by
 obtain ⟨s,hs,_⟩:=h.at
 exact (Pa.mp hs).1
theorem Fd {m:Ae}{i:Nat}{s:Sh}(h:m[i]?=some s)(hs:s.isSame=false):Last m i i:=⟨0,.root h hs⟩
theorem E7 {m:Ae}{x i:Nat}{s:Sh}(h:i≠x):(m.set x s)[i]?=m[i]?:=T7 (fun z=>h z.symm)
theorem Zfe {m:Ae}{x:Nat}{s sx:Sh}(h:m[x]?=some sx):(m.set x s)[x]?=some s:=Rk (Pa.mp h).1
theorem Os {m:Ae}{x y:Nat}{sx sy:Sh}(hx:m[x]?=some sx)(hxs:sx.isSame=false)(hy:m[y]?=some sy)(hys:sy.isSame=false)(ne:x≠y){i r:Nat}(h:Last m i r):Last (m.set x (.same y)) i (if r=x then y else r):=by
 obtain ⟨n,h⟩:=h
 have ly:Last (m.set x (.same y)) y y:=Fd (by rw [E7 ne.symm];exact hy) hys
 induction h with
 | @root i s h hs =>
  by_cases e:i=x
  ·subst e
   rw [if_pos rfl]
   obtain ⟨k,l⟩:=ly
   exact ⟨k+1,.step (Zfe hx) l⟩
  ·rw [if_neg e]
   exact Fd (by rw [E7 e];exact h) hs
 | @step n i k r h t ih =>
  have e:i≠x:=fun z=>by rw [z,hx] at h;cases h;cases hxs
  obtain ⟨k',l⟩:=ih
  exact ⟨k'+1,.step (by rw [E7 e];exact h) l⟩
noncomputable def nr:Ae->Nat
 | []=>0
 | s::m=>(cond s.isSame 0 1)+nr m
theorem Lv:∀(m:Ae)(x y:Nat)(sx:Sh),m[x]?=some sx->sx.isSame=false->nr (m.set x (.same y))+1=nr m
 | [],x,y,sx,h,_=>by cases h
 | s::m,0,y,sx,h,hs=>by
  cases h
  show (0+nr m)+1=(cond s.isSame 0 1)+nr m
  rw [hs]
  show 0+nr m+1=1+nr m
  omega
 | s::m,x+1,y,sx,h,hs=>by
  have:=Lv m x y sx (by simpa using h) hs
  show (cond s.isSame 0 1)+nr (m.set x (.same y))+1=(cond s.isSame 0 1)+nr m
  omega
theorem Zfa:∀ m:Ae,nr m<=m.length
 | []=>O2 _
 | s::m=>by
  have:=Zfa m
  show (cond s.isSame 0 1)+nr m<=m.length+1
  cases s.isSame
  ·show 1+nr m<=_;omega
  ·show 0+nr m<=_;omega
theorem Ig {m:Ae}{x y:Nat}{sx sy:Sh}(h:Cy m)(hx:m[x]?=some sx)(hxs:sx.isSame=false)(hy:m[y]?=some sy)(hys:sy.isSame=false)(ne:x≠y):Cy (m.set x (.same y)):=fun i hi=>by
 rw [P8] at hi
 obtain ⟨r,hr⟩:=h i hi
 exact ⟨_,Os hx hxs hy hys ne hr⟩
theorem Fm {m:Ae}{x y:Nat}{sy:Sh}(h:Bd m)(hy:m[y]?=some sy):Bd (m.set x (.same y)):=fun i s hs p hp=>by
 rw [P8]
 by_cases e:i=x
 ·subst e
  have hi:=(Pa.mp hs).1
  rw [P8] at hi
  rw [Rk hi] at hs
  cases hs
  have:p=y:=by simpa [Sh.parts] using hp
  rw [this]
  exact (Pa.mp hy).1
 ·rw [E7 e] at hs
  exact h i s hs p hp
theorem Zph:∀(μ:Nat)(m:Ae)(w:List (Nat×Nat)),w.length+3 * nr m<=μ->Cy m->Bd m->(∀ p∈w,p.1 < m.length/\p.2 < m.length)->∃ n o,n<=μ/\JoinN n m w o/\∀ m1,o=some m1->Cy m1/\Bd m1/\m1.length=m.length:=by
 intro μ
 induction μ with
 | zero =>
  intro m w h ht hb hw
  have:w=[]:=Q1 (by omega)
  subst this
  exact ⟨0,some m,O2 _,.nil,fun m1 e=>by cases e;exact ⟨ht,hb,rfl⟩⟩
 | succ μ ih =>
  intro m w h ht hb hw
  rcases Rl w with rfl | ⟨w1,p,rfl⟩
  ·exact ⟨0,some m,Pp _,.nil,fun m1 e=>by cases e;exact ⟨ht,hb,rfl⟩⟩
  rw [Rm] at h hw ⊢
  rw [O7,Pr] at h
  have hp:=hw p (by simp)
  have hw1:∀ p∈w1,p.1 < m.length/\p.2 < m.length:=fun q hq=>hw q (by simp [hq])
  obtain ⟨l,hl⟩:=ht p.1 hp.1
  obtain ⟨r,hr⟩:=ht p.2 hp.2
  by_cases e:l=r
  ·subst e
   obtain ⟨n,o,h1,h2,h3⟩:=ih m w1 (by omega) ht hb hw1
   exact ⟨n+1,o,by omega,.eq hl hr h2,h3⟩
  obtain ⟨sl,esl,nsl⟩:=hl.at
  obtain ⟨sr,esr,nsr⟩:=hr.at
  by_cases ar:sr=.any
  ·subst ar
   have:=Lv m r l _ esr rfl
   obtain ⟨n,o,h1,h2,h3⟩:=ih (m.set r (.same l)) w1 (by omega) (Ig ht esr rfl esl nsl (fun z=>e z.symm)) (Fm hb esl) (by rw [P8];exact hw1)
   rw [P8] at h3
   exact ⟨n+1,o,by omega,.anyR hl hr e esr h2,h3⟩
  have ts:=Ig ht esl nsl esr nsr e
  have bs:=Fm (x:=l) hb esr
  have ns:=Lv m l r _ esl nsl
  by_cases al:sl=.any
  ·subst al
   obtain ⟨n,o,h1,h2,h3⟩:=ih (m.set l (.same r)) w1 (by omega) ts bs (by rw [P8];exact hw1)
   rw [P8] at h3
   exact ⟨n+1,o,by omega,.anyL hl hr e esr ar esl h2,h3⟩
  by_cases tl:sl.wd = "to"
  ·by_cases tr:sr.wd = "to"
   ·obtain ⟨a,b,rfl⟩:=Zat tl
    obtain ⟨c,d,rfl⟩:=Zat tr
    have b1:=hb l _ esl
    have b2:=hb r _ esr
    obtain ⟨n,o,h1,h2,h3⟩:=ih (m.set l (.same r)) (w1++[(a,c),(b,d)]) (by rw [O7];show w1.length+2+_<=_;omega) ts bs (by
     rw [P8]
     intro q hq
     rcases Pm.mp hq with hq | hq
     ·exact hw1 q hq
     ·simp only [O5,Pd,or_false] at hq
      rcases hq with rfl | rfl
      ·exact ⟨b1 a (by simp [Sh.parts]),b2 c (by simp [Sh.parts])⟩
      ·exact ⟨b1 b (by simp [Sh.parts]),b2 d (by simp [Sh.parts])⟩)
    rw [P8] at h3
    exact ⟨n+1,o,by omega,.to hl hr e esl esr h2,h3⟩
   ·exact ⟨1,none,by omega,.clash hl hr e esl esr al ar (.inr tr),fun m1 z=>by cases z⟩
  ·exact ⟨1,none,by omega,.clash hl hr e esl esr al ar (.inl tl),fun m1 z=>by cases z⟩
noncomputable def un:Nat->(Nat->Bool)->Nat
 | 0,_=>0
 | N+1,f=>un N f+cond (f N) 1 0
theorem Nf:∀(N:Nat)(f g:Nat->Bool),(∀ i,i < N->f i=g i)->un N f=un N g
 | 0,f,g,h=>rfl
 | N+1,f,g,h=>by
  show un N f+cond (f N) 1 0=un N g+cond (g N) 1 0
  rw [Nf N f g fun i hi=>h i (by omega),h N (by omega)]
theorem L1:∀(N x:Nat)(f g:Nat->Bool),x < N->f x=true->g x=false->(∀ i,i≠x->g i=f i)->un N g+1=un N f
 | 0,x,f,g,h,_,_,_=>absurd h (Rt _)
 | N+1,x,f,g,h,h1,h2,h3=>by
  show un N g+cond (g N) 1 0+1=un N f+cond (f N) 1 0
  by_cases e:x=N
  ·subst e
   rw [h1,h2,Nf x g f fun i hi=>h3 i (by omega)]
   rfl
  ·have:=L1 N x f g (by omega) h1 h2 h3
   rw [h3 N (fun z=>e z.symm)]
   omega
theorem N8:∀(N:Nat)(f:Nat->Bool),un N f<=N
 | 0,_=>O2 _
 | N+1,f=>by
  have:=N8 N f
  show un N f+cond (f N) 1 0<=N+1
  cases f N
  ·show un N f+0<=_;omega
  ·show un N f+1<=_;omega
noncomputable def fr (ps:Ps):Nat->Bool:=fun i=>(ps i).isNone
theorem Za9 {sh:Ae}(ht:Cy sh)(ps:Ps):∀(parts w:List Nat),(∀ p∈parts,p < sh.length)->(∀ x∈w,x < sh.length)->∃ o,Dy sh ps parts w o/\∀ w',o=some w'->w'.length<=w.length+parts.length/\∀ x∈w',x < sh.length
 | [],w,_,hw=>⟨some w,.nil,fun w' e=>by cases e;exact ⟨by simp,hw⟩⟩
 | p::rest,w,hp,hw=>by
  obtain ⟨r,hr⟩:=ht p (hp p (by simp))
  by_cases h:ps r=some false
  ·exact ⟨none,.hit hr h,fun w' e=>by cases e⟩
  ·obtain ⟨o,h1,h2⟩:=Za9 ht ps rest (w++[r]) (fun q hq=>hp q (by simp [hq])) (fun x hx=>by
    rcases Pm.mp hx with hx | hx
    ·exact hw x hx
    ·rw [Pi.mp hx];exact hr.lt)
   refine ⟨o,.go hr h h1,fun w' e=>?_⟩
   obtain ⟨l,m⟩:=h2 w' e
   rw [O7,Pr] at l
   exact ⟨by rw [Pb];omega,m⟩
theorem Zg8 {sh:Ae}(ht:Cy sh)(hb:Bd sh):∀(μ:Nat)(ps:Ps)(w:List Nat),w.length+3 * un sh.length (fr ps)<=μ->(∀ x∈w,x < sh.length)->∃ n b,n<=μ/\HoldsN sh n ps w b:=by
 intro μ
 induction μ with
 | zero =>
  intro ps w h _
  have:w=[]:=Q1 (by omega)
  subst this
  exact ⟨0,false,O2 _,.nil⟩
 | succ μ ih =>
  intro ps w h hw
  rcases Rl w with rfl | ⟨w1,Ad,rfl⟩
  ·exact ⟨0,false,Pp _,.nil⟩
  rw [Rm] at h hw ⊢
  rw [O7,Pr] at h
  have htop:=hw Ad (by simp)
  have hw1:∀ x∈w1,x < sh.length:=fun x hx=>hw x (by simp [hx])
  cases e:ps Ad with
  | some x =>
   have eu:un sh.length (fr (Bh ps Ad true))=un sh.length (fr ps):=Nf _ _ _ fun i _=>by
    unfold fr Bh
    by_cases z:i=Ad
    ·rw [z,e,if_pos rfl];rfl
    ·rw [if_neg z]
   obtain ⟨n,b,h1,h2⟩:=ih (Bh ps Ad true) w1 (by rw [eu];omega) hw1
   exact ⟨n+1,b,by omega,.seen e h2⟩
  | none =>
   have hs:=O1 htop
   have eu:un sh.length (fr (Bh ps Ad false))+1=un sh.length (fr ps):=L1 _ Ad _ _ htop (by unfold fr;rw [e];rfl) (by unfold fr Bh;rw [if_pos rfl];rfl) (fun i hi=>by unfold fr Bh;rw [if_neg hi])
   have hpl:=N9 sh[Ad]
   obtain ⟨o,h1,h2⟩:=Za9 ht (Bh ps Ad false) sh[Ad].parts (w1++[Ad]) (hb Ad _ hs) hw
   cases o with
   | none=>exact ⟨1,true,by omega,.hit e hs h1⟩
   | some w' =>
    obtain ⟨l,m⟩:=h2 w' rfl
    rw [O7,Pr] at l
    obtain ⟨n,b,h3,h4⟩:=ih (Bh ps Ad false) w' (by omega) m
    exact ⟨n+1,b,by omega,.go e hs h1 h4⟩
theorem Kw:∀(ps:List (Nat×Nat))(m:Ae),m.length<=200->Cy m->Bd m->(∀ p∈ps,p.1 < m.length/\p.2 < m.length)->∃ fs m',FitG ps m fs m'/\Cy m'/\Bd m'/\m'.length=m.length
 | [],m,_,ht,hb,_=>⟨[],m,.nil,ht,hb,rfl⟩
 | (g,a)::ps,m,hl,ht,hb,hp=>by
  have nl:=Zfa m
  obtain ⟨n,o,h1,h2,h3⟩:=Zph (1+3 * nr m) m [(g,a)] (by simp) ht hb (fun p hq=>by rw [Pi.mp hq];exact hp _ (by simp))
  have hps:∀ p∈ps,p.1 < m.length/\p.2 < m.length:=fun p hq=>hp p (by simp [hq])
  cases o with
  | none =>
   obtain ⟨fs,m',k1,k2⟩:=Kw ps m hl ht hb hps
   exact ⟨_,m',.clash h2 (by omega) k1,k2⟩
  | some m1 =>
   obtain ⟨t1,b1,l1⟩:=h3 m1 rfl
   obtain ⟨r,hr⟩:=t1 g (by rw [l1];exact (hp (g,a) (by simp)).1)
   have ul:=N8 m1.length (fr fun _=>none)
   obtain ⟨k,b,k1,k2⟩:=Zg8 t1 b1 (1+3 * un m1.length (fr fun _=>none)) (fun _=>none) [r] (by simp) (fun x hx=>by rw [Pi.mp hx];exact hr.lt)
   cases b with
   | false =>
    obtain ⟨fs,m',j1,j2,j3,j4⟩:=Kw ps m1 (by omega) t1 b1 (by rw [l1];exact hps)
    exact ⟨_,m',.ok h2 (by omega) hr k2 (by omega) j1,j2,j3,by rw [j4,l1]⟩
   | true =>
    obtain ⟨fs,m',j1,j2⟩:=Kw ps m hl ht hb hps
    exact ⟨_,m',.loop h2 (by omega) hr k2 (by omega) j1,j2⟩
structure JF (m m1:Ae)(w:List (Nat×Nat)):Prop where
 tot:Cy m1
 len:m1.length=m.length
 f1:∀(i r r1:Nat),Last m i r->Last m1 r r1->Last m1 i r1
 f2:∀ p∈w,∃ r,Last m1 p.1 r/\Last m1 p.2 r
 f3:∀(x a b:Nat),m[x]?=some (.to a b)->∃ ρ e f,Last m1 x ρ/\m1[ρ]?=some (.to e f)/\(∃ ra,Last m1 a ra/\Last m1 e ra)/\∃ rb,Last m1 b rb/\Last m1 f rb
 f5:∀(ρ:Nat)(s:Sh),m1[ρ]?=some s->s.isSame=false->m[ρ]?=some s
 f6:∀ C:Nat->Prop,(∀(r a b c:Nat),C r->m1[r]?=some (.to a b)->(Last m1 a c\/Last m1 b c)->C c)->(∀ p∈w,∀ r,Last m1 p.1 r->C r)->∀(i r:Nat),m[i]?≠m1[i]?->Last m1 i r->C r
theorem Zh4 {m:Ae}(ht:Cy m)(hb:Bd m):JF m m [] where
 tot:=ht
 len:=rfl
 f1:=fun i r r1 h h1=>by
  obtain ⟨s,hs,ns⟩:=h.at
  have:=h1.uniq (Fd hs ns)
  rw [this]
  exact h
 f2:=fun p hp=>by cases hp
 f3:=fun x a b hx=>by
  have b1:=hb x _ hx
  obtain ⟨ra,ha⟩:=ht a (b1 a (by simp [Sh.parts]))
  obtain ⟨rb,hb'⟩:=ht b (b1 b (by simp [Sh.parts]))
  exact ⟨x,a,b,Fd hx rfl,hx,⟨ra,ha,ha⟩,rb,hb',hb'⟩
 f5:=fun ρ s h _=>h
 f6:=fun C _ _ i r h=>absurd rfl h
theorem Nk {m m1:Ae}{x y:Nat}{sx sy:Sh}{w w':List (Nat×Nat)}{p:Nat×Nat}{l r:Nat}(hl:Last m p.1 l)(hr:Last m p.2 r)(hxy:(x=l/\y=r)\/(x=r/\y=l))(hx:m[x]?=some sx)(hxs:sx.isSame=false)(hy:m[y]?=some sy)(hys:sy.isSame=false)(ne:x≠y)
  (J:JF (m.set x (.same y)) m1 w') (hw:∀ q∈w,q∈w') (h3:∀ a b,sx=.to a b->∃ c d,sy=.to c d/\(a,c)∈w'/\(b,d)∈w') (hn:∀ q∈w',q∈w\/∃ a b,sx=.to a b/\(q.1=a\/q.1=b)):JF m m1 (w++[p]):=by
 have Lx:Last (m.set x (.same y)) x y:=by
  have:=Os hx hxs hy hys ne (Fd hx hxs)
  rwa [if_pos rfl] at this
 have hyl:y < m1.length:=by rw [J.len,P8];exact (Pa.mp hy).1
 obtain ⟨ρ,hρ⟩:=J.tot y hyl
 have xρ:Last m1 x ρ:=J.f1 x y ρ Lx hρ
 have f1:∀ i r r1,Last m i r->Last m1 r r1->Last m1 i r1:=fun i r' r1 h h1=>by
  have h':=Os hx hxs hy hys ne h
  by_cases e:r'=x
  ·rw [if_pos e] at h'
   subst e
   have:r1=ρ:=h1.uniq xρ
   rw [this]
   exact J.f1 i y ρ h' hρ
  ·rw [if_neg e] at h'
   exact J.f1 i r' r1 h' h1
 have both:Last m1 p.1 ρ/\Last m1 p.2 ρ:=by
  rcases hxy with ⟨rfl,rfl⟩ | ⟨rfl,rfl⟩
  ·exact ⟨f1 _ _ _ hl xρ,f1 _ _ _ hr hρ⟩
  ·exact ⟨f1 _ _ _ hl hρ,f1 _ _ _ hr xρ⟩
 have f3:∀ x0 a b,m[x0]?=some (.to a b)->∃ ρ e f,Last m1 x0 ρ/\m1[ρ]?=some (.to e f)/\(∃ ra,Last m1 a ra/\Last m1 e ra)/\∃ rb,Last m1 b rb/\Last m1 f rb:=fun x0 a b h=>by
  by_cases e:x0=x
  ·subst e
   rw [hx] at h
   have h:=Pg h
   obtain ⟨c,d,hsy,m1',m2'⟩:=h3 a b h
   have hy':(m.set x0 (.same y))[y]?=some (.to c d):=by rw [E7 ne.symm,hy,hsy]
   obtain ⟨ρ',e,f,k1,k2,⟨ra,k3,k4⟩,rb,k5,k6⟩:=J.f3 y c d hy'
   have:ρ'=ρ:=k1.uniq hρ
   subst this
   obtain ⟨rac,a1,a2⟩:=J.f2 _ m1'
   obtain ⟨rbd,b1,b2⟩:=J.f2 _ m2'
   have e1:rac=ra:=a2.uniq k3
   have e2:rbd=rb:=b2.uniq k5
   subst e1 e2
   exact ⟨ρ',e,f,xρ,k2,⟨_,a1,k4⟩,_,b1,k6⟩
  ·exact J.f3 x0 a b (by rw [E7 e];exact h)
 refine ⟨J.tot,by rw [J.len,P8],f1,fun q hq=>?_,f3,fun ρ' s h hs=>?_,fun C hC hp i r' hi hir=>?_⟩
 ·rcases Pm.mp hq with hq | hq
  ·exact J.f2 q (hw q hq)
  ·rw [Pi.mp hq]
   exact ⟨ρ,both⟩
 ·have h':=J.f5 ρ' s h hs
  by_cases e:ρ'=x
  ·subst e
   rw [Zfe hx] at h'
   cases h'
   cases hs
  ·rwa [E7 e] at h'
 ·have Cρ:C ρ:=hp p (by simp) ρ both.1
  by_cases e:i=x
  ·subst e
   rw [hir.uniq xρ]
   exact Cρ
  ·refine J.f6 C hC (fun q hq s hs=>?_) i r' (by rw [E7 e];exact hi) hir
   rcases hn q hq with hq | ⟨a,b,hsx,hq⟩
   ·exact hp q (by simp [hq]) s hs
   ·obtain ⟨ρ',e',f,k1,k2,⟨ra,k3,k4⟩,rb,k5,k6⟩:=f3 x a b (by rw [hx,hsx])
    have:ρ'=ρ:=k1.uniq xρ
    subst this
    rcases hq with hq | hq
    ·rw [hq] at hs
     rw [hs.uniq k3]
     exact hC ρ' e' f ra Cρ k2 (.inl k4)
    ·rw [hq] at hs
     rw [hs.uniq k5]
     exact hC ρ' e' f rb Cρ k2 (.inr k6)
theorem Zj6 {n:Nat}{m m1:Ae}{w:List (Nat×Nat)}{o:Option Ae}(h:JoinN n m w o)(ho:o=some m1)(ht:Cy m)(hb:Bd m):JF m m1 w:=by
 induction h with
 | nil=>cases ho;exact Zh4 ht hb
 | @eq n m w p l o h1 h2 t ih =>
  have J:=ih ho ht hb
  refine ⟨J.tot,J.len,J.f1,fun q hq=>?_,J.f3,J.f5,fun C hC hp=>J.f6 C hC fun q hq=>hp q (by simp [hq])⟩
  rcases Pm.mp hq with hq | hq
  ·exact J.f2 q hq
  ·rw [Pi.mp hq]
   obtain ⟨ρ,hρ⟩:=J.tot l (by rw [J.len];exact h1.lt)
   exact ⟨ρ,J.f1 _ _ _ h1 hρ,J.f1 _ _ _ h2 hρ⟩
 | @anyR n m w p l r o h1 h2 ne hr t ih =>
  obtain ⟨sl,hl,nsl⟩:=h1.at
  exact Nk h1 h2 (.inr ⟨rfl,rfl⟩) hr rfl hl nsl (fun z=>ne z.symm) (ih ho (Ig ht hr rfl hl nsl (fun z=>ne z.symm)) (Fm hb hl)) (fun q hq=>hq) (fun a b e=>by cases e) (fun q hq=>.inl hq)
 | @anyL n m w p l r sr o h1 h2 ne hr hn hl t ih =>
  obtain ⟨sr',hr',nsr⟩:=h2.at
  rw [hr] at hr'
  cases hr'
  exact Nk h1 h2 (.inl ⟨rfl,rfl⟩) hl rfl hr nsr ne (ih ho (Ig ht hl rfl hr nsr ne) (Fm hb hr)) (fun q hq=>hq) (fun a b e=>by cases e) (fun q hq=>.inl hq)
 | @to n m w p l r a b c d o h1 h2 ne hl hr t ih =>
  refine Nk h1 h2 (.inl ⟨rfl,rfl⟩) hl rfl hr rfl ne (ih ho (Ig ht hl rfl hr rfl ne) (Fm hb hr)) (fun q hq=>by simp [hq]) (fun a' b' e=>by cases e;exact ⟨c,d,rfl,by simp,by simp⟩) (fun q hq=>?_)
  rcases Pm.mp hq with hq | hq
  ·exact .inl hq
  ·simp only [O5,Pd,or_false] at hq
   rcases hq with rfl | rfl
   ·exact .inr ⟨a,b,rfl,.inl rfl⟩
   ·exact .inr ⟨a,b,rfl,.inr rfl⟩
 | clash=>cases ho
noncomputable def Eg (m:Ae)(b c:Nat):Prop:=∃ s p,m[b]?=some s/\p∈s.parts/\Last m p c
theorem Zkk {sh:Ae}{ps:Ps}{parts w w':List Nat}(h:Dy sh ps parts w (some w')):∃ rs,w'=w++rs/\(∀ r∈rs,ps r≠some false)/\∀ p∈parts,∃ r∈rs,Last sh p r:=by
 generalize ho:some w'=o at h
 induction h with
 | nil=>cases ho;exact ⟨[],by simp,by simp,by simp⟩
 | hit=>cases ho
 | @go p r rest w o h h2 t ih =>
  obtain ⟨rs,h3,h4,h5⟩:=ih ho
  refine ⟨r::rs,by rw [h3];simp,fun q hq=>?_,fun q hq=>?_⟩
  ·rcases O5.mp hq with rfl | hq
   ·exact h2
   ·exact h4 q hq
  ·rcases O5.mp hq with rfl | hq
   ·exact ⟨r,by simp,h⟩
   ·obtain ⟨r',k1,k2⟩:=h5 q hq
    exact ⟨r',by simp [k1],k2⟩
structure Gy (sh:Ae)(ps:Ps)(w:List Nat):Prop where
 bl:∃(rk:Nat->Nat)(N:Nat),(∀ b,ps b=some true->rk b < N)/\∀ b c,ps b=some true->Eg sh b c->ps c=some true/\rk c < rk b
 gr:∀ x,ps x=some false->∃ w1 w2,w=w1++x::w2/\x ∉ w2/\∀ c,Eg sh x c->ps c=some true\/c∈w2
theorem Zbx {α:Type}{w w1 w2:List α}{Ad x:α}(h:w++[Ad]=w1++x::w2)(hx:x ∉ w2):(x=Ad/\w2=[])\/(x≠Ad/\∃ w3,w2=w3++[Ad]/\w=w1++x::w3):=by
 rcases Rl w2 with rfl | ⟨w3,z,rfl⟩
 ·have:=Q7 h rfl
  exact .inl ⟨by simpa using this.2.symm,rfl⟩
 ·rw [Rm] at *
  have h':w++[Ad]=(w1++x::w3)++[z]:=by rw [h];simp
  have:=Q7 h' rfl
  have e:Ad=z:=by simpa using this.2
  subst e
  exact .inr ⟨fun e=>hx (by simp [e]),w3,rfl,this.1⟩
theorem Znt {sh:Ae}{n:Nat}{ps:Ps}{w:List Nat}{b:Bool}(h:HoldsN sh n ps w b)(r0:Nat):b=false->Gy sh ps w->(r0∈w\/ps r0=some true)->∃(B:Nat->Prop)(rk:Nat->Nat),B r0/\∀ b c,B b->Eg sh b c->B c/\rk c < rk b:=by
 induction h with
 | @nil ps =>
  intro _ g h0
  obtain ⟨rk,N,h1,h2⟩:=g.bl
  rcases h0 with h0 | h0
  ·cases h0
  ·exact ⟨fun b=>ps b=some true,rk,h0,h2⟩
 | @seen n ps w Ad x b h t ih =>
  intro hb g h0
  have key:Gy sh (Bh ps Ad true) w:=by
   have oth:∀ y,y≠Ad->∀{v},ps y=v->Bh ps Ad true y=v:=fun y hy v hv=>by unfold Bh;rw [if_neg hy];exact hv
   have self:Bh ps Ad true Ad=some true:=by unfold Bh;rw [if_pos rfl]
   have mono:∀ y,ps y=some true->Bh ps Ad true y=some true:=fun y hy=>by
    by_cases e:y=Ad
    ·rw [e];exact self
    ·exact oth y e hy
   refine ⟨?_,fun y hy=>?_⟩
   ·obtain ⟨rk,N,h1,h2⟩:=g.bl
    cases x with
    | true =>
     have same:∀ y,Bh ps Ad true y=some true->ps y=some true:=fun y hy=>by
      by_cases e:y=Ad
      ·rw [e];exact h
      ·unfold Bh at hy;rwa [if_neg e] at hy
     exact ⟨rk,N,fun b hb=>h1 b (same b hb),fun b c hb hc=>⟨mono c (h2 b c (same b hb) hc).1,(h2 b c (same b hb) hc).2⟩⟩
    | false =>
     obtain ⟨w1,w2,e1,e2,e3⟩:=g.gr Ad h
     have ch:∀ c,Eg sh Ad c->ps c=some true:=by
      rcases Zbx e1 e2 with ⟨_,rfl⟩ | ⟨e,_⟩
      ·intro c hc
       rcases e3 c hc with k | k
       ·exact k
       ·cases k
      ·exact absurd rfl e
     have nt:∀ y,y≠Ad->Bh ps Ad true y=some true->ps y=some true:=fun y e hy=>by unfold Bh at hy;rwa [if_neg e] at hy
     refine ⟨fun y=>if y=Ad then N else rk y,N+1,fun b hb=>?_,fun b c hb hc=>?_⟩
     ·show (if b=Ad then N else rk b) < N+1
      by_cases e:b=Ad
      ·rw [if_pos e];omega
      ·rw [if_neg e];have:=h1 b (nt b e hb);omega
     ·have tne:∀ y,ps y=some true->y≠Ad:=fun y hy e=>by rw [e,h] at hy;cases hy
      show Bh ps Ad true c=some true/\(if c=Ad then N else rk c) < (if b=Ad then N else rk b)
      by_cases e:b=Ad
      ·rw [if_pos e]
       have k:=ch c (e ▸ hc)
       exact ⟨mono c k,by rw [if_neg (tne c k)];exact h1 c k⟩
      ·rw [if_neg e]
       obtain ⟨k1,k2⟩:=h2 b c (nt b e hb) hc
       exact ⟨mono c k1,by rw [if_neg (tne c k1)];exact k2⟩
   ·have e:y≠Ad:=fun e=>by rw [e,self] at hy;cases hy
    have hy':ps y=some false:=by unfold Bh at hy;rwa [if_neg e] at hy
    obtain ⟨w1,w2,e1,e2,e3⟩:=g.gr y hy'
    rcases Zbx e1 e2 with ⟨z,_⟩ | ⟨_,w3,rfl,k⟩
    ·exact absurd z e
    ·refine ⟨w1,w3,k,fun z=>e2 (by simp [z]),fun c hc=>?_⟩
     rcases e3 c hc with q | q
     ·exact .inl (mono c q)
     ·rcases Pm.mp q with q | q
      ·exact .inr q
      ·rw [Pi.mp q];exact .inl self
  refine ih hb key ?_
  rcases h0 with h0 | h0
  ·rcases Pm.mp h0 with h0 | h0
   ·exact .inl h0
   ·rw [Pi.mp h0];exact .inr (by unfold Bh;rw [if_pos rfl])
  ·refine .inr ?_
   unfold Bh
   by_cases e:r0=Ad
   ·rw [if_pos e]
   ·rw [if_neg e];exact h0
 | hit=>intro hb;cases hb
 | @go n ps w w' Ad s b h hs hp t ih =>
  intro hb g h0
  obtain ⟨rs,rfl,h1,h2⟩:=Zkk hp
  have self:Bh ps Ad false Ad=some false:=by unfold Bh;rw [if_pos rfl]
  have oth:∀ y,y≠Ad->Bh ps Ad false y=ps y:=fun y hy=>by unfold Bh;rw [if_neg hy]
  have tne:∀ y,ps y=some true->y≠Ad:=fun y hy e=>by rw [e,h] at hy;cases hy
  have back:∀ y,Bh ps Ad false y=some true->ps y=some true:=fun y hy=>by
   by_cases e:y=Ad
   ·rw [e,self] at hy;cases hy
   ·rwa [oth y e] at hy
  refine ih hb ⟨?_,fun y hy=>?_⟩ ?_
  ·obtain ⟨rk,N,k1,k2⟩:=g.bl
   exact ⟨rk,N,fun b hb=>k1 b (back b hb),fun b c hb hc=>by
    obtain ⟨q1,q2⟩:=k2 b c (back b hb) hc
    exact ⟨by rw [oth c (tne c q1)];exact q1,q2⟩⟩
  ·by_cases e:y=Ad
   ·subst e
    refine ⟨w,rs,by simp,fun z=>h1 y z self,fun c hc=>?_⟩
    obtain ⟨s',p,q1,q2,q3⟩:=hc
    rw [hs] at q1
    cases q1
    obtain ⟨r,k1,k2⟩:=h2 p q2
    rw [q3.uniq k2]
    exact .inr k1
   ·have hy':=hy
    rw [oth y e] at hy'
    obtain ⟨w1,w2,e1,e2,e3⟩:=g.gr y hy'
    refine ⟨w1,w2++rs,by rw [e1];simp,fun z=>?_,fun c hc=>?_⟩
    ·rcases Pm.mp z with z | z
     ·exact e2 z
     ·exact h1 y z hy
    ·rcases e3 c hc with q | q
     ·exact .inl (by rw [oth c (tne c q)];exact q)
     ·exact .inr (by simp [q])
  ·rcases h0 with h0 | h0
   ·exact .inl (by
     rcases Pm.mp h0 with h0 | h0
     ·simp [h0]
     ·simp [Pi.mp h0])
   ·exact .inr (by rw [oth r0 (tne r0 h0)];exact h0)
theorem Zf0 {sh:Ae}{n r0:Nat}(h:HoldsN sh n (fun _=>none) [r0] false):∃(B:Nat->Prop)(rk:Nat->Nat),B r0/\∀ b c,B b->Eg sh b c->B c/\rk c < rk b :=
 Znt h r0 rfl ⟨⟨fun _=>0,0,fun b hb=>(by cases hb),fun b c hb=>(by cases hb)⟩,fun x hx=>(by cases hx)⟩ (.inl (by simp))
noncomputable def Fu (m:Ae):Prop:=∃ rk:Nat->Nat,∀ b c,(∃ s,m[b]?=some s/\s.isSame=false)->Eg m b c->rk c < rk b
theorem Ini.acy {m:Ae}(h:Ini m):Fu m:=⟨fun i=>i,fun b c _ he=>by
 obtain ⟨s,p,h1,h2,h3⟩:=he
 have hb:=(Pa.mp h1).1
 cases s with
 | to x y =>
  have:=h.dn b x y h1
  have hp:p < b:=by
   simp only [Sh.parts,O5,Pd,or_false] at h2
   rcases h2 with rfl | rfl <;> omega
  have hp':=O1 (show p < m.length by omega)
  rw [h3.uniq (Fd hp' (h.ns p _ hp'))]
  exact hp
 | same k=>have:=h.ns b _ h1;cases this
 | num=>cases h2
 | truth=>cases h2
 | any=>cases h2⟩
noncomputable def mx (f:Nat->Nat):Nat->Nat
 | 0=>0
 | n+1=>mx f n+f n+1
theorem Zc1 (f:Nat->Nat):∀(n i:Nat),i < n->f i < mx f n
 | 0,i,h=>absurd h (Rt _)
 | n+1,i,h=>by
  show f i < mx f n+f n+1
  by_cases e:i=n
  ·rw [e];omega
  ·have:=Zc1 f n i (by omega);omega
theorem Zf2 {n:Nat}{m:Ae}{w:List (Nat×Nat)}{o:Option Ae}(h:JoinN n m w o):Bd m->∀ m1,o=some m1->Bd m1:=by
 induction h with
 | nil=>intro hb m1 e;cases e;exact hb
 | eq _ _ _ ih=>exact ih
 | @anyR n m w p l r o h1 h2 ne hr t ih =>
  obtain ⟨sl,hl,_⟩:=h1.at
  exact fun hb=>ih (Fm hb hl)
 | anyL h1 h2 ne hr hn hl t ih=>exact fun hb=>ih (Fm hb hr)
 | to h1 h2 ne hl hr t ih=>exact fun hb=>ih (Fm hb hr)
 | clash=>intro _ m1 e;cases e
theorem Zjd {m m1:Ae}{g a r k:Nat}(J:JF m m1 [(g,a)])(ht:Cy m)(hb:Bd m)(ha:Fu m)(l:Last m1 g r)(h:HoldsN m1 k (fun _=>none) [r] false):Fu m1:=by
 obtain ⟨rk,hrk⟩:=ha
 obtain ⟨B,rb,h0,hB⟩:=Zf0 h
 have ch:∀(i r':Nat),m[i]?≠m1[i]?->Last m1 i r'->B r':=J.f6 B (fun x a b c hx h1 h2=>by
   refine (hB x c hx ?_).1
   rcases h2 with h2 | h2
   ·exact ⟨_,a,h1,by simp [Sh.parts],h2⟩
   ·exact ⟨_,b,h1,by simp [Sh.parts],h2⟩)
  (fun p hp r' hr'=>by
   rw [Pi.mp hp] at hr'
   rw [hr'.uniq l]
   exact h0)
 classical
 refine ⟨fun v=>if B v then rb v else mx rb m1.length+rk v,fun b c hb' he=>?_⟩
 show (if B c then rb c else mx rb m1.length+rk c) < (if B b then rb b else mx rb m1.length+rk b)
 by_cases kb:B b
 ·have:=hB b c kb he
  rw [if_pos kb,if_pos this.1]
  exact this.2
 ·rw [if_neg kb]
  obtain ⟨s,p,e1,e2,e3⟩:=he
  by_cases kc:B c
  ·rw [if_pos kc]
   have:=Zc1 rb m1.length c e3.lt
   omega
  ·rw [if_neg kc]
   obtain ⟨s',q1,q2⟩:=hb'
   have hs:m[b]?=some s:=by
    rw [e1] at q1
    cases q1
    exact J.f5 b s e1 q2
   obtain ⟨c0,hc0⟩:=ht p (hb b s hs p e2)
   have k1:=hrk b c0 ⟨s,hs,by rw [e1] at q1;cases q1;exact q2⟩ ⟨s,p,hs,e2,hc0⟩
   obtain ⟨r1,hr1⟩:=J.tot c0 (by rw [J.len];exact hc0.lt)
   have:r1=c:=(J.f1 p c0 r1 hc0 hr1).uniq e3
   subst this
   have same:m[c0]?=m1[c0]?:=Classical.byContradiction fun z=>kc (ch c0 r1 z hr1)
   obtain ⟨s0,z1,z2⟩:=hc0.at
   rw [same] at z1
   rw [hr1.uniq (Fd z1 z2)]
   omega
theorem Zg9 {ps:List (Nat×Nat)}{m m':Ae}{fs:List Bool}(h:FitG ps m fs m'):Cy m->Bd m->Fu m->Fu m':=by
 induction h with
 | nil=>exact fun _ _ h=>h
 | ok j hn l h hk t ih =>
  intro ht hb ha
  have J:=Zj6 j rfl ht hb
  exact ih J.tot (Zf2 j hb _ rfl) (Zjd J ht hb ha l h)
 | clash j hn t ih=>exact ih
 | loop j hn l h hk t ih=>exact ih
theorem N3 (td:Td)(a b:Nat):Ck td [a,b]=(if (td a).isNone=true then [a] else [])++(if (td b).isNone=true then [b] else []):=by
 unfold Ck
 cases ha:(td a).isNone <;> cases hb:(td b).isNone <;> simp [List.filter,ha,hb]
noncomputable def C4 (td:Td):Nat->Bool:=fun i=>(td i).isNone
theorem Zmz {N r:Nat}{td:Td}{k:Kd}(hr:r < N)(h:td r=none):un N (C4 (Ca td r k))+1=un N (C4 td) :=
 L1 N r _ _ hr (by unfold C4;rw [h];rfl) (by unfold C4 Ca;rw [if_pos rfl];rfl) (fun i hi=>by unfold C4 Ca;rw [if_neg hi])
theorem tell {sh:Ae}{rk:Nat->Nat}(ht:Cy sh)(hb:Bd sh)(hrk:∀ b c,(∃ s,sh[b]?=some s/\s.isSame=false)->Eg sh b c->rk c < rk b):∀(k r:Nat),rk r < k->∀(x c:Nat)(td:Td)(w:List Nat)(A M:Nat),Last sh x r->td r=none ->
  (∀(td2:Td)(c2:Nat),(∀ i,(td i).isSome=true->td2 i=td i)->(∀ i,rk r < rk i->td2 i=td i)->(td2 r).isSome=true->∃ n td',n+A<=M+3 * un sh.length (C4 td2)/\ToldN sh n td2 c2 w td') ->
  ∃ n td',n+A+1<=M+3 * un sh.length (C4 td)/\ToldN sh n td c (w++[x]) td':=by
 intro k
 induction k with
 | zero=>exact fun r h=>absurd h (Rt _)
 | succ k ih =>
  intro r hk x c td w A M hl hr cont
  obtain ⟨s,hs,ns⟩:=hl.at
  have put:∀(td:Td)(kd:Kd)(c2:Nat)(rs:List Nat),Lasts sh s.parts rs->td r=none->(∀(td2:Td)(c2:Nat),(∀ i,(td i).isSome=true->td2 i=td i)->(∀ i,rk r < rk i->td2 i=td i)->(td2 r).isSome=true->∃ n td',n+A<=M+3 * un sh.length (C4 td2)/\ToldN sh n td2 c2 w td') ->
    ∃ n td',(n+1)+A+1<=M+3 * un sh.length (C4 td)/\ToldN sh n (Ca td r kd) c2 (w++[x]) td':=fun td kd c2 rs hp hr cont=>by
   have hu:=Zmz (k:=kd) hl.lt hr
   have self:Ca td r kd r=some kd:=by unfold Ca;rw [if_pos rfl]
   obtain ⟨n,td',h1,h2⟩:=cont (Ca td r kd) c2 (fun i hi=>by
     unfold Ca
     rw [if_neg fun e=>by rw [e,hr] at hi;cases hi]) (fun i hi=>by
     unfold Ca
     rw [if_neg fun e=>by rw [e] at hi;omega]) (by rw [self];rfl)
   exact ⟨n+1,td',by omega,.seen hl hs hp self h2⟩
  cases s with
  | any =>
   obtain ⟨n,td',h1,h2⟩:=put td (.any c) (c+1) [] .nil hr cont
   exact ⟨n+1,td',h1,.any hl hs .nil hr h2⟩
  | num =>
   obtain ⟨n,td',h1,h2⟩:=put td .num c [] .nil hr cont
   exact ⟨n+1,td',h1,.mk hl hs .nil hr rfl .num h2⟩
  | truth =>
   obtain ⟨n,td',h1,h2⟩:=put td .truth c [] .nil hr cont
   exact ⟨n+1,td',h1,.mk hl hs .nil hr rfl .truth h2⟩
  | same q=>cases ns
  | to a b =>
   have bs:=hb r _ hs
   obtain ⟨ra,la⟩:=ht a (bs a (by simp [Sh.parts]))
   obtain ⟨rb,lb⟩:=ht b (bs b (by simp [Sh.parts]))
   have ka:=hrk r ra ⟨_,hs,rfl⟩ ⟨_,a,hs,by simp [Sh.parts],la⟩
   have kb:=hrk r rb ⟨_,hs,rfl⟩ ⟨_,b,hs,by simp [Sh.parts],lb⟩
   have hp:Lasts sh (Sh.to a b).parts [ra,rb]:=.cons la (.cons lb .nil)
   have la':Last sh ra ra:=let ⟨_,h1,h2⟩:=la.at;Fd h1 h2
   have lb':Last sh rb rb:=let ⟨_,h1,h2⟩:=lb.at;Fd h1 h2
   have fin:∀(td:Td)(c:Nat),td r=none->(td ra).isSome=true->(∀(td2:Td)(c2:Nat),(∀ i,(td i).isSome=true->td2 i=td i)->(∀ i,rk r < rk i->td2 i=td i)->(td2 r).isSome=true->∃ n td',n+A<=M+3 * un sh.length (C4 td2)/\ToldN sh n td2 c2 w td')->∃ n td',n+A+1<=M+3 * un sh.length (C4 td)/\ToldN sh n td c (w++[x]) td':=fun td c hr hra cont=>by
    obtain ⟨xa,hxa⟩:=Q2.mp hra
    have both:∀(td:Td)(c:Nat),td r=none->(td ra).isSome=true->(td rb).isSome=true->(∀(td2:Td)(c2:Nat),(∀ i,(td i).isSome=true->td2 i=td i)->(∀ i,rk r < rk i->td2 i=td i)->(td2 r).isSome=true->∃ n td',n+A<=M+3 * un sh.length (C4 td2)/\ToldN sh n td2 c2 w td')->∃ n td',n+A+1<=M+3 * un sh.length (C4 td)/\ToldN sh n td c (w++[x]) td':=fun td c hr hra hrb cont=>by
     obtain ⟨xa,hxa⟩:=Q2.mp hra
     obtain ⟨xb,hxb⟩:=Q2.mp hrb
     obtain ⟨n,td',h1,h2⟩:=put td (.to xa xb) c _ hp hr cont
     exact ⟨n+1,td',h1,.mk hl hs hp hr (by rw [N3,hxa,hxb];rfl) (.to hxa hxb) h2⟩
    cases hxb:td rb with
    | some xb=>exact both td c hr hra (by rw [hxb];rfl) cont
    | none =>
     obtain ⟨n,td',h1,h2⟩:=ih rb (by omega) rb c td (w++[x]) (A+1) M lb' hxb fun td2 c2 g1 g2 g3=>by
      obtain ⟨n,td',j1,j2⟩:=both td2 c2 (by rw [g2 r kb];exact hr) (by rw [g1 ra hra];exact hra) g3 fun td3 c3 f1 f2 f3 =>
       cont td3 c3 (fun i hi=>by rw [f1 i (by rw [g1 i hi];exact hi),g1 i hi]) (fun i hi=>by rw [f2 i hi,g2 i (by omega)]) f3
      exact ⟨n,td',by omega,j2⟩
     exact ⟨n+1,td',by omega,.miss hl hs hp hr (by rw [N3,hxa,hxb];rfl) h2⟩
   cases hxa:td ra with
   | some xa=>exact fin td c hr (by rw [hxa];rfl) cont
   | none =>
    obtain ⟨n,td',h1,h2⟩:=ih ra (by omega) ra c td (w++[x]) (A+1) M la' hxa fun td2 c2 g1 g2 g3=>by
     obtain ⟨n,td',j1,j2⟩:=fin td2 c2 (by rw [g2 r ka];exact hr) g3 fun td3 c3 f1 f2 f3 =>
      cont td3 c3 (fun i hi=>by rw [f1 i (by rw [g1 i hi];exact hi),g1 i hi]) (fun i hi=>by rw [f2 i hi,g2 i (by omega)]) f3
     exact ⟨n,td',by omega,j2⟩
    exact ⟨n+1,td',by omega,.miss hl hs hp hr (by rw [N3,hxa];rfl) h2⟩
theorem Zli {sh:Ae}(ht:Cy sh)(hb:Bd sh)(ha:Fu sh):∀(k:Nat)(w:List Nat),w.length=k->(∀ x∈w,x < sh.length)->∀(td:Td)(c:Nat),∃ n td',n<=w.length+3 * un sh.length (C4 td)/\ToldN sh n td c w td':=by
 obtain ⟨rk,hrk⟩:=ha
 intro k
 induction k with
 | zero =>
  intro w hw _ td c
  have:w=[]:=Q1 hw
  subst this
  exact ⟨0,td,Pp _,.nil⟩
 | succ k ih =>
  intro w hw hx td c
  rcases Rl w with rfl | ⟨w1,x,rfl⟩
  ·cases hw
  rw [Rm] at hw hx ⊢
  rw [O7,Pr] at hw ⊢
  have hw1:∀ y∈w1,y < sh.length:=fun y hy=>hx y (by simp [hy])
  obtain ⟨r,hl⟩:=ht x (hx x (by simp))
  cases e:td r with
  | some kd =>
   obtain ⟨n,td',h1,h2⟩:=ih w1 (by omega) hw1 td c
   obtain ⟨s,hs,ns⟩:=hl.at
   have lp:∀ ps:List Nat,(∀ p∈ps,p < sh.length)->∃ rs,Lasts sh ps rs:=fun ps=>by
    induction ps with
    | nil=>exact fun _=>⟨[],.nil⟩
    | cons p ps ih =>
     intro hp
     obtain ⟨q,hq⟩:=ht p (hp p (by simp))
     obtain ⟨rs,hrs⟩:=ih fun z hz=>hp z (by simp [hz])
     exact ⟨q::rs,.cons hq hrs⟩
   obtain ⟨rs,hrs⟩:=lp s.parts (hb r s hs)
   exact ⟨n+1,td',by omega,.seen hl hs hrs e h2⟩
  | none =>
   obtain ⟨n,td',h1,h2⟩:=tell ht hb hrk (rk r+1) r (Vn _) x c td w1 0 w1.length hl e fun td2 c2 _ _ _=>by
    obtain ⟨n,td',j1,j2⟩:=ih w1 (by omega) hw1 td2 c2
    exact ⟨n,td',by omega,j2⟩
   exact ⟨n,td',by omega,h2⟩
theorem Zhm {sh:Ae}{n c:Nat}{td td':Td}{w:List Nat}(h:ToldN sh n td c w td'):(∀ i k,td i=some k->td' i=some k)/\∀ x∈w,∃ r k,Last sh x r/\td' r=some k:=by
 have st:∀{td td':Td}{r:Nat}{k:Kd},td r=none->(∀ i k',Ca td r k i=some k'->td' i=some k')->∀ i k,td i=some k->td' i=some k:=fun {td td' r k} hr h i k' hi=>h i k' (by
  unfold Ca
  rw [if_neg fun e=>by rw [e,hr] at hi;cases hi]
  exact hi)
 induction h with
 | nil=>exact ⟨fun _ _ h=>h,fun x hx=>by cases hx⟩
 | @seen n c x r td td' w rs s k hl hs hp h t ih =>
  refine ⟨ih.1,fun y hy=>?_⟩
  rcases Pm.mp hy with hy | hy
  ·exact ih.2 y hy
  ·rw [Pi.mp hy]
   exact ⟨r,k,hl,ih.1 r k h⟩
 | miss hl hs hp h hm t ih=>exact ⟨ih.1,fun y hy=>ih.2 y (by simp at hy ⊢;rcases hy with hy | hy <;> simp [hy])⟩
 | any hl hs hp h t ih=>exact ⟨st h ih.1,fun y hy=>ih.2 y hy⟩
 | mk hl hs hp h hm hk t ih=>exact ⟨st h ih.1,fun y hy=>ih.2 y hy⟩
theorem Za1:∀(ps:List (Nat×Nat))(x:Nat),x∈flat ps->∃ p∈ps,x=p.1\/x=p.2
 | [],x,h=>by cases h
 | p::ps,x,h=>by
  have h:x∈[p.1,p.2]++flat ps:=h
  rcases Pm.mp h with h | h
  ·simp only [O5,Pd,or_false] at h
   exact ⟨p,by simp,h⟩
  ·obtain ⟨q,h1,h2⟩:=Za1 ps x h
   exact ⟨q,by simp [h1],h2⟩
theorem pick {α β:Type}{R:α->β->Prop}:∀(xs:List α),(∀ x∈xs,∃ y,R x y)->∃ ys:List β,ys.length=xs.length/\∀(j:Nat)(x:α)(y:β),xs[j]?=some x->ys[j]?=some y->R x y
 | [],_=>⟨[],rfl,fun j x y h=>by cases h⟩
 | x::xs,h=>by
  obtain ⟨y,hy⟩:=h x (by simp)
  obtain ⟨ys,h1,h2⟩:=pick xs fun z hz=>h z (by simp [hz])
  refine ⟨y::ys,by rw [Pb,Pb,h1],fun j a b ha hb=>?_⟩
  match j,ha,hb with
  | 0,ha,hb=>cases ha;cases hb;exact hy
  | j+1,ha,hb=>exact h2 j a b (by simpa using ha) (by simpa using hb)
theorem Zlc {t:Tr}(h:AT t)(hs:t.size<=40):∃ ks fs,Kn t ks fs:=by
 obtain ⟨ps,sh1,hk⟩:=Znx h
 obtain ⟨i1,i2,i3,i4⟩:=Zg1 hk ⟨fun i s hi=>by
   match i,hi with
   | 0,hi=>cases hi;rfl
   | 1,hi=>cases hi;rfl,fun i a b hi=>by
   match i,hi with
   | 0,hi=>cases hi
   | 1,hi=>cases hi⟩ (O2 _) (fun q k hq=>by cases hq) (fun q e s k hq hs=>by
   by_cases z:q=[]
   ·rw [if_pos z] at hq;cases hq;cases hs
   ·rw [if_neg z] at hq;cases hq)
 rw [Dr] at i3
 have i3:sh1.length<=2+3 * t.size:=i3
 obtain ⟨fs,sh2,hf,t2,b2,l2⟩:=Kw ps sh1 (by omega) i1.tot i1.bd i4
 have a2:=Zg9 hf i1.tot i1.bd i1.acy
 have hpl:ps.length=t.size:=by rw [hk.len,Dr]
 obtain ⟨N,td',n1,n2⟩:=Zli t2 b2 a2 _ (flat ps).reverse rfl (fun x hx=>by
  obtain ⟨p,h1,h2⟩:=Za1 ps x (by simpa using hx)
  have:=i4 p h1
  rw [l2]
  rcases h2 with rfl | rfl <;> omega) (fun _=>none) 0
 have ul:=N8 sh2.length (C4 fun _=>none)
 rw [Ua,La] at n1
 obtain ⟨ks,k1,k2⟩:=pick (R:=fun x k=>∃ r,Last sh2 x r/\td' r=some k) (flat ps) fun x hx=>by
  obtain ⟨r,k,h1,h2⟩:=(Zhm n2).2 x (by simpa using hx)
  exact ⟨k,r,h1,h2⟩
 exact ⟨ks,fs,ps,sh1,sh2,N,td',hk,hf,n2,by omega,k1,k2⟩
mutual
inductive K3:Tr->Ae->Ev->Option Nat->List (Nat×Nat)->Ae->Prop where
 | mk {w:Str} {n:Dt} {ts:List Tr} {sh sh':Ae} {e:Ev} {a:Option Nat} {ps:List (Nat×Nat)} (hs:Df w n) (hl:ts.length=arG w)
   (k:G9 0 ts (sh++(As sh.length w).2.2.2) (fun j=>Cg e (nb w n j) (As sh.length w).2.2.1) (fun j=>(As sh.length w).2.1[j]?) ps sh'):K3 (.mk w n ts) sh e a ((Cw sh.length w n e,a.getD (Cw sh.length w n e))::ps) sh'
inductive G9:Nat->List Tr->Ae->(Nat->Ev)->(Nat->Option Nat)->List (Nat×Nat)->Ae->Prop where
 | nil {i:Nat} {sh:Ae} {f:Nat->Ev} {d:Nat->Option Nat}:G9 i [] sh f d [] sh
 | cons {i:Nat} {t:Tr} {ts:List Tr} {sh sh1 sh2:Ae} {f:Nat->Ev} {d:Nat->Option Nat} {ps1 ps2:List (Nat×Nat)} (h:K3 t sh (f i) (d i) ps1 sh1) (k:G9 (i+1) ts sh1 f d ps2 sh2):G9 i (t::ts) sh f d (ps1++ps2) sh2
end
theorem Zbt (pl q:List Nat)(h:∀ j,q≠pl++[j]):∀(xs:List Nat)(D:Dn)(i:Nat),Cq D pl i xs q=D q
 | [],D,i=>rfl
 | x::r,D,i=>by
  rw [Cq,Zbt pl q h r _ (i+1)]
  exact if_neg (h i)
theorem Zcl (pl:List Nat):∀(xs:List Nat)(D:Dn)(i j:Nat),i<=j->j < i+xs.length->Cq D pl i xs (pl++[j])=xs[j - i]?
 | [],D,i,j,h,h'=>absurd h' (by simp;omega)
 | x::r,D,i,j,h,h'=>by
  rw [Cq]
  by_cases z:j=i
  ·subst z
   have key:∀(xs:List Nat)(D:Dn)(i:Nat),j < i->Cq D pl i xs (pl++[j])=D (pl++[j]):=by
    intro xs
    induction xs with
    | nil=>intro D i _;rfl
    | cons y s ih =>
     intro D i hi
     rw [Cq,ih _ _ (by omega)]
     exact if_neg fun e=>by simp at e;omega
   rw [key r _ (j+1) (by omega),Ri]
   exact if_pos rfl
  ·rw [Zcl pl r _ (i+1) j (by omega) (by rw [Pb] at h';omega),show j - i=(j - (i+1))+1 by omega]
   rfl
mutual
theorem Za0:∀(t:Tr)(pl:List Nat)(sh:Ae)(D:Dn)(A:An)(rest:List (List Nat×Tr))(ps:List (Nat×Nat))(sh':Ae),KinG (walk pl t++rest) sh D A ps sh'->AT t ->
  ∃ ps1 ps2 sh1 D1 A1 e,ps=ps1++ps2/\A pl=some e/\K3 t sh e (D pl) ps1 sh1/\KinG rest sh1 D1 A1 ps2 sh'/\∀ q,(∀ j,¬ pl++[j] <+: q)->D1 q=D q/\A1 q=A q
 | .mk w n ts,pl,sh,D,A,rest,ps,sh',k,h=>by
  rw [walk,Re] at k
  cases h with
  | mk hw hl h =>
  cases k with
  | @cons _ _ _ _ _ _ _ _ _ e ps' hA hsh k =>
  obtain ⟨ps1,ps2,sh1,D1,A1,h1,h2,h3,h4⟩:=Zb5 ts pl 0 _ _ _ rest _ _ k h (fun j=>Cg e (nb w n j) (As sh.length w).2.2.1) (fun j=>(As sh.length w).2.1[j]?) (fun j _ hj=>by
   have e1:=Zaq sh.length w
   exact ⟨Mo _ _ _ _ _ (by omega),Zcl pl _ _ 0 j (Pp _) (by omega)⟩)
  refine ⟨_::ps1,ps2,sh1,D1,A1,e,by rw [h1];rfl,hA,.mk hsh hl h2,h3,fun q hq=>?_⟩
  have hn:∀ j,q≠pl++[j]:=fun j z=>hq j (by rw [z];exact Vu)
  obtain ⟨q1,q2⟩:=h4 q fun j _=>hq j
  exact ⟨by rw [q1];exact Zbt pl q hn _ _ _,by rw [q2];exact Nr A pl _ q hn _⟩
theorem Zb5:∀(ts:List Tr)(pl:List Nat)(i:Nat)(sh:Ae)(D:Dn)(A:An)(rest:List (List Nat×Tr))(ps:List (Nat×Nat))(sh':Ae),KinG (Bf pl i ts++rest) sh D A ps sh'->(∀ t∈ts,AT t) ->
  ∀(f:Nat->Ev)(d:Nat->Option Nat),(∀ j,i<=j->j < i+ts.length->A (pl++[j])=some (f j)/\D (pl++[j])=d j)->∃ ps1 ps2 sh1 D1 A1,ps=ps1++ps2/\G9 i ts sh f d ps1 sh1/\KinG rest sh1 D1 A1 ps2 sh'/\∀ q,(∀ j,i<=j->¬ pl++[j] <+: q)->D1 q=D q/\A1 q=A q
 | [],pl,i,sh,D,A,rest,ps,sh',k,h,f,d,hd=>⟨[],ps,sh,D,A,rfl,.nil,k,fun q _=>⟨rfl,rfl⟩⟩
 | t::ts,pl,i,sh,D,A,rest,ps,sh',k,h,f,d,hd=>by
  rw [Bf,P5] at k
  obtain ⟨ps1,ps2,sh1,D1,A1,e,h1,h2,h3,h4,h5⟩:=Za0 t (pl++[i]) sh D A _ ps sh' k (h t (by simp))
  have hi:=hd i (O2 _) (by rw [Pb];omega)
  rw [hi.1] at h2
  cases h2
  rw [hi.2] at h3
  obtain ⟨ps3,ps4,sh2,D2,A2,g1,g2,g3,g4⟩:=Zb5 ts pl (i+1) sh1 D1 A1 rest ps2 sh' h4 (fun u hu=>h u (by simp [hu])) f d fun j hj hj'=>by
   have hx:=hd j (by omega) (by rw [Pb];omega)
   have hy:=h5 (pl++[j]) fun j' z=>by
    obtain ⟨s,hs⟩:=z
    have:=congrArg Qt hs
    simp at this
   exact ⟨by rw [hy.2];exact hx.1,by rw [hy.1];exact hx.2⟩
  refine ⟨ps1++ps3,ps4,sh2,D2,A2,by rw [h1,g1,P5],.cons h3 g2,g3,fun q hq=>?_⟩
  obtain ⟨q1,q2⟩:=g4 q fun j hj=>hq j (by omega)
  obtain ⟨q3,q4⟩:=h5 q fun j z=>hq i (O2 _) ((Sw _ _).trans z)
  exact ⟨by rw [q1,q3],by rw [q2,q4]⟩
end
noncomputable def C5 (ar:List (Str×Kd))(s:Str):Option Kd:=ar.foldl (fun o p=>if p.1=s then some p.2 else o) none
noncomputable def domK:Kd->Kd
 | .to x _=>x
 | k=>k
noncomputable def arK (w:Str)(h:Kd)(ws:List Kd):List Kd:=if w = "let" then [ws.getD 0 .num] else if w = "fn" then [domK h] else if w = "rec" then [h,domK h] else []
noncomputable def Dh (w:Str)(n:Dt)(h:Kd)(j:Nat)(ws:List Kd)(ar:List (Str×Kd)):List (Str×Kd):=ar++(nb w n j).zip (arK w h ws)
structure Zbm (w:Str)(n:Dt)(h:Kd)(ar:List (Str×Kd)):Prop where
 num:w = "num" -> h=.num
 truth:w = "truth" -> h=.truth
 name:w = "name" -> C5 ar (C8 n)=none\/C5 ar (C8 n)=some h
inductive Ek:Str->Kd->List Kd->Prop where
 | nil {w:Str} {h:Kd} (hw:w∈(["gap", "odd", "num", "truth", "name"]:List Str)):Ek w h []
 | plus {w:Str} (hw:w = "plus" \/ w = "minus"):Ek w .num [.num,.num]
 | less:Ek "less" .truth [.num,.num]
 | ite {h:Kd}:Ek "if" h [.truth,h,h]
 | call {h x:Kd}:Ek "call" h [.to x h,x]
 | lt {h x:Kd}:Ek "let" h [x,h]
 | fn {w:Str} {x y:Kd} (hw:w = "fn" \/ w = "rec"):Ek w (.to x y) [y]
theorem Zde (ar:List (Str×Kd))(x s:Str)(k:Kd):C5 (ar++[(x,k)]) s=if x=s then some k else C5 ar s:=by unfold C5;rw [List.foldl_append];rfl
theorem Ziy {m:Nat}{w:Str}{n:Dt}{e:Ev}(h:w ≠ "name"):Cw m w n e=(As m w).1:=if_neg h
theorem Zb3:∀{ps:List (Nat×Nat)}{i:Nat}{p:Nat×Nat},ps[i]?=some p->(flat ps)[2 * i]?=some p.1/\(flat ps)[2 * i+1]?=some p.2
 | [],i,p,h=>by simp at h
 | x::ps,0,p,h=>by cases h;exact ⟨rfl,rfl⟩
 | x::ps,i+1,p,h=>by
  obtain ⟨h1,h2⟩:=Zb3 (ps:=ps) (i:=i) (p:=p) h
  exact ⟨h1,h2⟩
noncomputable def A0:Kd->Nat
 | .to x y=>max (A0 x) (A0 y)+1
 | _=>0
noncomputable def G5:Kd->Dt
 | .num=>.tup [.flat (.str "num")]
 | .truth=>.tup [.flat (.str "truth")]
 | .any n=>.tup [.flat (.str "any"),.flat (.int (n:Nat))]
 | .to x y=>.tup [.flat (.str "to"),G5 x,G5 y]
theorem KdAt.d {K:Oz}{H:Hp}{v:V}{k:Kd}(h:KdAt K H v k):IsD K H (A0 k+1) v (G5 k):=by
 induction h with
 | num q =>
  refine .tup q rfl fun j v d h h'=>?_
  match j,h,h' with
  | 0,h,h'=>cases h;cases h';exact .flat rfl
 | truth q =>
  refine .tup q rfl fun j v d h h'=>?_
  match j,h,h' with
  | 0,h,h'=>cases h;cases h';exact .flat rfl
 | any q =>
  refine .tup q rfl fun j v d h h'=>?_
  match j,h,h' with
  | 0,h,h'=>cases h;cases h';exact .flat rfl
  | 1,h,h'=>cases h;cases h';exact .flat rfl
 | @to a u v x y q hx hy ihx ihy =>
  refine .tup q rfl fun j v d h h'=>?_
  match j,h,h' with
  | 0,h,h'=>cases h;cases h';exact .flat rfl
  | 1,h,h'=>cases h;cases h';exact ihx.up (Nat.succ_le_succ (Nat.le_max_left _ _))
  | 2,h,h'=>cases h;cases h';exact ihy.up (Nat.succ_le_succ (Nat.le_max_right _ _))
theorem KdAt.ref {K:Oz}{H:Hp}{v:V}{k:Kd}(h:KdAt K H v k):∃ a,v=.ref a:=by cases h <;> exact ⟨_,rfl⟩
theorem Zbq {sh:Ae}{ps:Ps}{parts w:List Nat}{o:Option (List Nat)}(h:Dy sh ps parts w o):(o=none->∃ p∈parts,∃ r,Last sh p r/\ps r=some false)/\∀ w',o=some w'->∃ rs,w'=w++rs/\∀ r∈rs,∃ p∈parts,Last sh p r:=by
 induction h with
 | nil=>exact ⟨fun e=>(nomatch e),fun w' e=>⟨[],by cases e;rw [Pw],fun r h=>nomatch h⟩⟩
 | hit h h2=>exact ⟨fun _=>⟨_,by simp,_,h,h2⟩,fun w' e=>nomatch e⟩
 | @go p r rest w o h h2 t ih =>
  refine ⟨fun e=>?_,fun w' e=>?_⟩
  ·obtain ⟨p,hp,r,h3,h4⟩:=ih.1 e
   exact ⟨p,P4 _ hp,r,h3,h4⟩
  ·obtain ⟨rs,e1,h3⟩:=ih.2 w' e
   refine ⟨r::rs,by rw [e1,P5];rfl,fun x hx=>?_⟩
   rcases O5.mp hx with rfl | hx
   ·exact ⟨p,by simp,h⟩
   ·obtain ⟨p',h5,h6⟩:=h3 x hx
    exact ⟨p',P4 _ h5,h6⟩
theorem Zov {sh:Ae}{rk:Nat->Nat}(hrk:∀ b c,(∃ s,sh[b]?=some s/\s.isSame=false)->Eg sh b c->rk c < rk b){n:Nat}{ps:Ps}{w:List Nat}{b:Bool}(h:HoldsN sh n ps w b):b=true->(∀ y∈w,∃ s,sh[y]?=some s/\s.isSame=false)->(∀ x,ps x=some false->∃ w1 w2,w=w1++x::w2/\∀ y∈w2,rk y < rk x)->False:=by
 induction h with
 | nil=>intro e;cases e
 | @seen n ps w Ad x b h t ih =>
  intro e hw hg
  refine ih e (fun y hy=>hw y (Qq _ hy)) fun y hy=>?_
  have hy':(if y=Ad then some true else ps y)=some false:=hy
  have ny:y≠Ad:=fun z=>by rw [if_pos z] at hy';cases hy'
  rw [if_neg ny] at hy'
  obtain ⟨w1,w2,e1,h2⟩:=hg y hy'
  rcases Rl w2 with rfl | ⟨w3,z,rfl⟩
  ·obtain ⟨_,e2⟩:=Q7 e1 rfl
   cases e2
   exact absurd rfl ny
  ·rw [Rm] at e1 h2
   have e1':w++[Ad]=(w1++y::w3)++[z]:=by rw [e1];simp
   obtain ⟨e2,_⟩:=Q7 e1' rfl
   exact ⟨w1,w3,e2,fun v hv=>h2 v (Qq _ hv)⟩
 | @hit ps w Ad s h hs hp =>
  intro _ hw hg
  obtain ⟨p,hp1,r,h3,h4⟩:=(Zbq hp).1 rfl
  have eg:Eg sh Ad r:=⟨s,p,hs,hp1,h3⟩
  have lt:=hrk Ad r (hw Ad (by simp)) eg
  have h4':(if r=Ad then some false else ps r)=some false:=h4
  by_cases z:r=Ad
  ·rw [z] at lt;exact Qj _ lt
  ·rw [if_neg z] at h4'
   obtain ⟨w1,w2,e1,h2⟩:=hg r h4'
   rcases Rl w2 with rfl | ⟨w3,v,rfl⟩
   ·obtain ⟨_,e2⟩:=Q7 e1 rfl
    cases e2
    exact z rfl
   ·rw [Rm] at e1 h2
    have e1':w++[Ad]=(w1++r::w3)++[v]:=by rw [e1];simp
    obtain ⟨_,e2⟩:=Q7 e1' rfl
    cases e2
    have:=h2 Ad (by simp)
    omega
 | @go n ps w w' Ad s b h hs hp t ih =>
  intro e hw hg
  obtain ⟨rs,e1,h3⟩:=(Zbq hp).2 w' rfl
  have lt:∀ r∈rs,rk r < rk Ad:=fun r hr=>by
   obtain ⟨p,h5,h6⟩:=h3 r hr
   exact hrk Ad r (hw Ad (by simp)) ⟨s,p,hs,h5,h6⟩
  refine ih e (fun y hy=>?_) fun x hx=>?_
  ·rw [e1] at hy
   rcases Pm.mp hy with hy | hy
   ·exact hw y hy
   ·obtain ⟨p,h5,h6⟩:=h3 y hy
    exact h6.at
  ·have hx':(if x=Ad then some false else ps x)=some false:=hx
   by_cases z:x=Ad
   ·exact ⟨w,rs,by rw [e1,z];simp,by rw [z];exact lt⟩
   ·rw [if_neg z] at hx'
    obtain ⟨w1,w2,e2,h4⟩:=hg x hx'
    refine ⟨w1,w2++rs,by rw [e1,e2];simp,fun y hy=>?_⟩
    rcases Pm.mp hy with hy | hy
    ·exact h4 y hy
    ·have h6:rk Ad < rk x:=by
      rcases Rl w2 with rfl | ⟨w3,v,rfl⟩
      ·obtain ⟨_,e3⟩:=Q7 e2 rfl
       cases e3
       exact absurd rfl z
      ·rw [Rm] at e2 h4
       have e2':w++[Ad]=(w1++x::w3)++[v]:=by rw [e2];simp
       obtain ⟨_,e3⟩:=Q7 e2' rfl
       cases e3
       exact h4 Ad (by simp)
     have:=lt y hy
     omega
theorem Zj9 {sh:Ae}(ha:Fu sh){n x r:Nat}(hl:Last sh x r)(h:HoldsN sh n (fun _=>none) [r] true):False:=by
 obtain ⟨rk,hrk⟩:=ha
 exact Zov hrk h rfl (fun y hy=>by rw [Pi.mp hy];exact hl.at) fun x hx=>by cases hx
section
variable {P:Program}{w:World}{K:Oz}{mg:Str->Option Value}{base:Heap}
noncomputable def mB (r:Rw):Bool:=decide (r.2.2.2 ≠ "")
theorem Zgb {ds:List Rw}{i:Nat}{r:Rw}(h:ds[i]?=some r):(ds.take (i+1)).filter mB=(ds.take i).filter mB++if mB r=true then [r] else []:=by
 rw [Qn,h,List.filter_append]
 cases e:mB r with
 | true=>rw [if_pos rfl];show _++List.filter mB [r]=_;rw [List.filter_cons_of_pos e];rfl
 | false=>rw [if_neg (by decide)];show _++List.filter mB [r]=_;rw [List.filter_cons_of_neg (by rw [e];decide)];rfl
theorem Zh0 (ds:List Rw)(i:Nat):((ds.take i).filter mB).length<=i:=P7 (List.length_filter_le _ _) (by rw [Pt];omega)
theorem Zn2 (t:Tr)(pl:List Nat)(f:Tr)(fb:Bool):Dg t pl f fb∈(["", "unlike", "odd", "free"]:List Str):=by
 cases f with
 | mk w n ps =>
 show (if fb=false then "unlike" else if w = "odd" then "odd" else if w = "name" /\ B0 (C8 n) 0 (Cc t pl)=none then "free" else "" : Str)∈(["", "unlike", "odd", "free"]:List Str)
 by_cases h1:fb=false
 ·rw [if_pos h1];simp
 ·rw [if_neg h1]
  by_cases h2:w = "odd"
  ·rw [if_pos h2];simp
  ·rw [if_neg h2]
   by_cases h3:w = "name" /\ B0 (C8 n) 0 (Cc t pl)=none
   ·rw [if_pos h3];simp
   ·rw [if_neg h3];simp
theorem Ziv {t:Tr}{ks:List Kd}{fs:List Bool}{i:Nat}{r:Rw}(h:(B6 t ks fs)[i]?=some r):(r.2.2.2 = "" /\ mB r=false)\/(mB r=true/\(r.2.2.2 = "unlike" \/ r.2.2.2 = "odd" \/ r.2.2.2 = "free")):=by
 unfold B6 at h
 rw [U7] at h
 obtain ⟨x,hx,rfl⟩:=U3.mp h
 have m:=Zn2 t x.1 x.2 (fs.getD i false)
 unfold mB
 show (Dg t x.1 x.2 (fs.getD i false) = "" /\ decide (Dg t x.1 x.2 (fs.getD i false) ≠ "")=false)\/(decide (Dg t x.1 x.2 (fs.getD i false) ≠ "")=true/\(Dg t x.1 x.2 (fs.getD i false) = "unlike" \/ Dg t x.1 x.2 (fs.getD i false) = "odd" \/ Dg t x.1 x.2 (fs.getD i false) = "free"))
 generalize Dg t x.1 x.2 (fs.getD i false)=z at m
 simp only [O5,Pd,or_false] at m
 rcases m with rfl | rfl | rfl | rfl
 ·exact .inl ⟨rfl,by decide⟩
 ·exact .inr ⟨by decide,.inl rfl⟩
 ·exact .inr ⟨by decide,.inr (.inl rfl)⟩
 ·exact .inr ⟨by decide,.inr (.inr rfl)⟩
noncomputable def MkAt (K:Oz)(H:Hp)(v:V)(r:Rw):Prop:=∃(e p:Addr),v=.ref e/\SqT K H e [.ref p,.str r.2.2.2]/\SqT K H p (Bk r.1)
theorem MkAt.same {H H':Hp}(e:SameT H H')(v:V)(r:Rw)(h:MkAt K H v r):MkAt K H' v r:=let ⟨c,p,h1,h2,h3⟩:=h;⟨c,p,h1,e.tup h2,e.tup h3⟩
noncomputable def Zbj (K:Oz):Sp:=fun vs H Q _=>∃(v:V)(t:Tr)(ks:List Kd)(fs:List Bool),vs=[v]/\TrAt K H v t/\Dz t/\t.size<=40/\Kn t ks fs/\∀(p:Addr)(rows:List V)(H':Hp),Same H H'->H p=none->H' p=some (.lst rows)->Al (MkAt K H') rows ((B6 t ks fs).filter mB)->Q (.ref p) H'
theorem Jy:(["place", "given", "asked", "mark"]:List Str).Nodup:=by decide +kernel
theorem Zol:Bo ["tree"] ["tree"] (Bg Hy):=by walk_at "sc"
theorem Zg2 {f:Addr}{fd:FuncData}(F:Fun K "marks" "marks" Hy f fd)(T:Txt K mg)(C_looks:A9 P w K mg base 8 "looks" ["tree"] (Ll K)):Bc P w K mg base Be 9 f fd ["tree"] (Zbj K):=by
 refine F.okq Zol (fun vs H Q E h=>?_) (fun cdv A outer s H vs Q E hr h=>?_)
 ·obtain ⟨v,t,ks,fs,rfl,_⟩:=h
  rfl
 ·obtain ⟨v,t,ks,fs,rfl,ht,hts,hsz,hlk,q⟩:=h
  refine ⟨_,Ai (Ar (Gc (N:=["place", "given", "asked", "mark"]) (σ0:=Dc 4 []) rfl (Er rfl (by decide +kernel) (by decide +kernel) (by decide +kernel)) (C9 K (Ba C_looks hr.m (Aa (qv 0) Ab))) (Es rfl (by rfl)) (fun _ _ _ _=>Cr K (n:=4) rfl (Bm (A4 (i:=0) Jy rfl (Or.inl rfl)) (Bm (A4 (i:=1) Jy rfl (Or.inl rfl)) (Bm (A4 (i:=2) Jy rfl (Or.inl rfl)) (Bm (A4 (i:=3) Jy rfl (Or.inl rfl)) (Ct)))))) (fun _ _ _ _=>Zad (F1 K (qv 3) (by intro _;rfl))) (fun _ _ _ _=>Ao (Aa (qv 0) (Aa (qv 3) Ab))))),?_⟩
  have bg:=big
  walk_at "r"
  refine ⟨v,t,ks,fs,rfl,ht,hts,hsz,hlk,fun pL rows H1 s1 _ er al=>?_⟩
  have hdl:(B6 t ks fs).length=t.size:=by unfold B6;rw [Vh];exact Dr _ _
  refine .inl ⟨pL,rfl,⟨_,SqL.of er⟩,fun D hD=>?_⟩
  have nD:pL≠D:=Aw er hD
  refine G6 (K:=K) (a:=pL) (xs:=rows) (Pv:=fun i ys σ' H'=>∃ x0 x1 x2 x3,σ'=[x0,x1,x2,x3]/\Al (MkAt K H') ys (((B6 t ks fs).take i).filter mB)/\Same H1 H') ⟨none,none,none,none,rfl,.nil,Same.upd hD⟩ ?_ ?_ ?_
  ·rintro i ys σ' H' _ ⟨_,_,_,_,_,_,sm⟩
   exact SqL.of (sm _ _ er)
  ·rintro i x ys σ' H' hx hys ⟨x0,x1,x2,x3,rfl,aly,sm⟩
   have hi:=(Pa.mp hx).1
   obtain ⟨r,hr0,e,p,g,a,rfl,qe,qp,_,_⟩:=al.get hx
   have hfl:=Zh0 (B6 t ks fs) i
   have hln:i < t.size:=by rw [<- hdl,<- al.1];exact hi
   have fs':=Zgb hr0
   have hit:mB r=true->∀ z:Str,r.2.2.2=z->∀ p2,H' p2=none->∃ y,upd H' p2 (.tup [.ref p,.str z]) D=some (.lst y)/\y.length < sizeLine/\∃ zs,upd (upd H' p2 (.tup [.ref p,.str z])) D (.lst (y++[.ref p2])) D=some (.lst zs)/\Al (MkAt K (upd (upd H' p2 (.tup [.ref p,.str z])) D (.lst (y++[.ref p2])))) zs (((B6 t ks fs).take (i+1)).filter mB)/\Same H1 (upd (upd H' p2 (.tup [.ref p,.str z])) D (.lst (y++[.ref p2]))):=fun h2 z h1 p2 h3=>by
    rw [h2,if_pos rfl] at fs'
    have s2:=Same.upd (o:=.tup [.ref p,.str z]) h3
    have t6:=s2.t.trans (SameT.set (o:=.lst (ys++[.ref p2])) (s2 _ _ hys))
    refine ⟨ys,s2 _ _ hys,by rw [aly.1];omega,_,Ac,?_,(sm.trans s2).over hD⟩
    rw [fs']
    exact (aly.mono (MkAt.same t6)).snoc ⟨p2,p,rfl,(SameT.set (s2 _ _ hys)).tup (by rw [h1];exact SqT.of Ac),t6.tup (SqT.of (sm _ _ qp))⟩
   walk_at "r"
   refine Cm (sm.tup qe) rfl ?_
   walk_at "r"
   rcases Ziv hr0 with ⟨h1,h2⟩ | ⟨h2,h1 | h1 | h1⟩
   ·rw [h1]
    refine ⟨false,⟨by decide,by decide⟩,?_⟩
    rw [h2,if_neg (by decide),Pw] at fs'
    refine iteF ?_
    exact ⟨ys,hys,_,_,_,_,rfl,by rw [fs'];exact aly,sm⟩
   all_goals
    rw [h1]
    refine ⟨true,⟨by decide,by decide⟩,?_⟩
    refine iteT ?_
    walk_at "r"
    refine ⟨A5,fun p2 h3=>?_⟩
    obtain ⟨y,k1,k2,zs,k3,k4,k5⟩:=hit h2 _ h1 p2 h3
    exact ⟨y,k1,k2,zs,k3,_,_,_,_,rfl,k4,k5⟩
  ·rintro ys σ' H' hys ⟨x0,x1,x2,x3,rfl,aly,sm⟩
   rw [al.1,Qz] at aly
   exact q D ys H' (s1.trans sm) (s1.free hD) hys aly
noncomputable def ShL (H:Hp)(v:V)(ms:List Int):Prop:=∃ p,v=.ref p/\H p=some (.lst (ms.map V.int))
noncomputable def tot (mss:List (List Int)):Nat:=(mss.map Qt).sum
theorem Zna (mss:List (List Int))(ms:List Int):tot (mss++[ms])=tot mss+ms.length:=by simp [tot]
noncomputable def Nj (K:Oz):Sp:=fun vs H Q _=>∃(a:Addr)(ns:List Int)(m:Nat)(z:Int),vs=[.ref a,.int (m:Nat),.int z]/\H a=some (.lst (ns.map V.int))/\ns.length<=63/\(m=1\/m=2\/m=3) /\
 ∀(L:Addr)(us:List V)(mss:List (List Int))(H':Hp),Same H H'->H' L=some (.lst us)->Al (ShL H') us mss->mss.length=m->tot mss=ns.length->Q (.ref L) H'
theorem Zfh (ns:List Int)(lo hi:Option Int):∃ ms:List Int,Bz (ns.map V.int) lo hi=ms.map V.int/\ms.length=min (HT.sIx ns.length ns.length hi - HT.sIx ns.length 0 lo) (ns.length - HT.sIx ns.length 0 lo):=by
 unfold Bz
 rw [O6,<- List.map_drop,<- List.map_take]
 exact ⟨_,rfl,by rw [Pt,Ud]⟩
theorem Zi5 (ns:List Int)(lo hi:Nat)(h1:lo<=hi)(h2:hi<=ns.length):∃ ms:List Int,Bz (ns.map V.int) (some (lo:Int)) (some (hi:Int))=ms.map V.int/\ms.length=hi - lo:=by
 obtain ⟨ms,e,l⟩:=Zfh ns (some (lo:Int)) (some (hi:Int))
 refine ⟨ms,e,?_⟩
 rw [l,HT.sIx_nat,HT.sIx_nat]
 omega
noncomputable def ShJ (H:Hp)(D:Addr)(n:Nat)(ys:List V)(H':Hp)(i:Nat):Prop:=∃ mss,Al (fun v ms=>∃ p,v=.ref p/\p≠D/\H' p=some (.lst (ms.map V.int))) ys mss/\mss.length=i/\tot mss=n/\Same H H'
theorem ShJ.put {H H' H2:Hp}{D p:Addr}{n n' i:Nat}{ys:List V}{ms:List Int}{o:HO}(h:ShJ H D n ys H' i)(hD:H D=none)(s:Same H' H2)(np:p≠D)(e:H2 p=some (.lst (ms.map V.int)))(hn:n+ms.length=n'):ShJ H D n' (ys++[.ref p]) (upd H2 D o) (i+1):=by
 obtain ⟨mss,al,hl,ht,sm⟩:=h
 refine ⟨mss++[ms],(al.mono ?_).snoc ⟨p,rfl,np,by rw [Ag np];exact e⟩,by simp [hl],by rw [Zna,ht,hn],(sm.trans s).over hD⟩
 rintro v x ⟨q,rfl,nq,eq⟩
 exact ⟨q,rfl,nq,by rw [Ag nq];exact s _ _ eq⟩
theorem ShJ.fin {H H':Hp}{D:Addr}{n i:Nat}{ys:List V}(h:ShJ H D n ys H' i):∃ mss,Al (ShL H') ys mss/\mss.length=i/\tot mss=n/\Same H H':=by
 obtain ⟨mss,al,hl,ht,sm⟩:=h
 exact ⟨mss,al.mono fun v x ⟨q,e,_,eq⟩=>⟨q,e,eq⟩,hl,ht,sm⟩
theorem ShJ.nil {H:Hp}{D:Addr}(hD:H D=none){o:HO}:ShJ H D 0 [] (upd H D o) 0:=⟨[],.nil,rfl,rfl,Same.upd hD⟩
theorem Zj1:(["_law_k", "_law_rest", "_law_at"]:List Str).Nodup:=by decide +kernel
theorem Zm3:(["_law_k", "_law_rest", "_law_many", "_law_size"]:List Str).Nodup:=by decide +kernel
theorem sc_law_shares:Bo ["_law_rest", "_law_many", "_law_turn", "_law_at", "_law_size"] ["_law_rest", "_law_many", "_law_turn"] (Bg Jf):=by walk_at "sc"
theorem Zlb {f:Addr}{fd:FuncData}(F:Fun K "_law_shares" "_law_shares" Jf f fd)(T:Txt K mg):Bc P w K mg base Be 1 f fd ["_law_rest", "_law_many", "_law_turn"] (Nj K):=by
 refine F.okq sc_law_shares (fun vs H Q E h=>?_) (fun cdv A outer s H vs Q E hr h=>?_)
 ·obtain ⟨a,ns,m,z,rfl,_⟩:=h
  rfl
 ·obtain ⟨a,ns,m,z,rfl,ha,hn,hm,q⟩:=h
  refine ⟨_,Af (A7 (Az (B3 K hr.u200) (A6 Cb (qv 2) Ah) Ah (Ay _)) (Af (G0 (i:=3) sc_law_shares.nd rfl (Or.inr rfl) (A6 Cb (A6 Ej (qv 2) Ah) (qv 1)))
   (Ai (Ar (Gc (N:=["_law_k", "_law_rest", "_law_at"]) (σ0:=Dc 1 [0,3]) rfl (Er rfl (by decide +kernel) (by decide +kernel) (by decide +kernel)) (Gj rfl T.range (Aa (qv 1) Ab)) (Es rfl (by rfl)) (fun _ _ _ _=>A4 (i:=0) Zj1 rfl (Or.inl rfl)) (fun _ _ _ _=>Gf) (fun _ _ _ _=>K6 (Az (B3 K hr.u200) (qv 0) (qv 2) (Ay _)) (qv 1) (Ax Ab)))))) A8)
   (Af (G0 (i:=4) sc_law_shares.nd rfl (Or.inr rfl) (Cs (Dl K) (by rfl) T.len (by decide +kernel) (Aa (qv 0) Ab)))
   (Ai (Ar (Gc (N:=["_law_k", "_law_rest", "_law_many", "_law_size"]) (σ0:=Dc 1 [0,1,4]) rfl (Er rfl (by decide +kernel) (by decide +kernel) (by decide +kernel)) (Gj rfl T.range (Aa (qv 1) Ab)) (Es rfl (by rfl)) (fun _ _ _ _=>A4 (i:=0) Zm3 rfl (Or.inl rfl)) (fun _ _ _ _=>Gf) (fun _ _ _ _=>Fb (Fv K) (qv 1) (Eb (A6 Ej (A6 Ha (qv 3) (qv 0)) (qv 2))) (Eb (A6 Ej (A6 Ha (qv 3) (A6 (Ei K) (qv 0) Ah)) (qv 2)))))))),?_⟩
  have bg:=big
  have m0:(0:Int) < (m:Int):=by omega
  have m3:m<=3:=by omega
  walk_at "r"
  refine Bv (fun _=>?_) (fun _=>?_)
  ·walk_at "r"
   refine s_rI m0 ?_
   have z0:=Rf (z / 3) (show (m:Int)≠0 by omega)
   have z1:=Rp (z / 3) m0
   generalize z / 3 % (m:Int)=k at z0 z1
   walk_at "r"
   refine ⟨by omega,by omega,fun D hD=>?_⟩
   have nD:=Aw ha hD
   refine Ls (n:=(m:Int).toNat) (Pv:=fun i ys σ' H'=>∃ kv,σ'=[kv,some (.ref a),some (.int k)]/\ShJ H D (if k < (i:Int) then ns.length else 0) ys H' i) ⟨none,rfl,by rw [if_neg (by omega)];exact ShJ.nil hD⟩ ?_ ?_
   ·rintro i ys σ' H' hi hys ⟨kv,rfl,J⟩
    have hyl:ys.length=i:=by obtain ⟨mss,al,hl,_⟩:=J;rw [al.1,hl]
    have sm:Same H H':=by obtain ⟨mss,_,_,_,sm⟩:=J;exact sm
    walk_at "r"
    refine Bv (fun c=>?_) (fun c=>?_)
    ·have c:(0:Int)+(i:Int)=k:=by simpa using c
     walk_at "r"
     refine ⟨_,hys,by omega,_,Ac,_,rfl,J.put hD (Same.refl _) nD (sm _ _ ha) ?_⟩
     have n1:¬ k < (i:Int):=by omega
     have n2:k < ((i+1:Nat):Int):=by omega
     rw [if_neg n1,if_pos n2]
     omega
    ·have c:¬ (0:Int)+(i:Int)=k:=fun e=>c (by simpa using e)
     walk_at "r"
     refine ⟨Br,fun p hp=>?_⟩
     have np:p≠D:=(Aw hys hp).symm
     refine ⟨_,(Same.upd hp) _ _ hys,by omega,_,Ac,_,rfl,J.put (ms:=[]) hD (Same.upd hp) np Ac ?_⟩
     by_cases h1:k < (i:Int)
     ·have n2:k < ((i+1:Nat):Int):=by omega
      rw [if_pos h1,if_pos n2]
      rfl
     ·have n2:¬ k < ((i+1:Nat):Int):=by omega
      rw [if_neg h1,if_neg n2]
      rfl
   ·rintro ys σ' H' hys ⟨kv,rfl,J⟩
    rw [if_pos (by omega)] at J
    obtain ⟨mss,al,hl,ht,sm⟩:=J.fin
    exact q D ys mss H' sm hys al (by omega) ht
  ·walk_at "r"
   refine Dx (SqL.of ha) ?_
   walk_at "r"
   refine ⟨by omega,by omega,fun D hD=>?_⟩
   have nD:=Aw ha hD
   have cast:∀ i:Nat,(((ns.map V.int).length:Nat):Int) * (i:Int) / (m:Int)=((ns.length * i / m:Nat):Int):=fun i=>by rw [O6];push_cast;rfl
   have mono:∀ i:Nat,ns.length * i / m<=ns.length * (i+1) / m:=fun i=>Nat.div_le_div_right (Nat.mul_le_mul_left _ (by omega))
   have Ad:∀ i:Nat,i<=m->ns.length * i / m<=ns.length:=fun i hi=>Nat.div_le_of_le_mul (by rw [Nat.mul_comm m];exact Nat.mul_le_mul_left _ hi)
   refine Ls (n:=(m:Int).toNat) (Pv:=fun i ys σ' H'=>∃ kv,σ'=[kv,some (.ref a),some (.int (m:Nat)),some (.int ((ns.map V.int).length:Nat))]/\ShJ H D (ns.length * i / m) ys H' i) ⟨none,rfl,by rw [Nat.mul_zero,Nat.zero_div];exact ShJ.nil hD⟩ ?_ ?_
   ·rintro i ys σ' H' hi hys ⟨kv,rfl,J⟩
    have hyl:ys.length=i:=by obtain ⟨mss,al,hl,_⟩:=J;rw [al.1,hl]
    have sm:Same H H':=by obtain ⟨mss,_,_,_,sm⟩:=J;exact sm
    have e0:(0:Int)+(i:Int)=(i:Int):=by omega
    have e1:(i:Int)+1=((i+1:Nat):Int):=by push_cast;rfl
    have hlm:(ns.map V.int).length=ns.length:=O6 ..
    rw [e0]
    walk_at "r"
    refine s_mul_r (by omega) (by omega) ?_
    walk_at "r"
    refine s_rI ⟨m0,by omega⟩ ?_
    walk_at "r"
    refine s_mul_r (by omega) (by omega) ?_
    walk_at "r"
    refine s_rI ⟨m0,by omega⟩ ?_
    rw [e1,cast i,cast (i+1)]
    walk_at "r"
    refine Nl (SqL.of (sm _ _ ha)) fun p hp=>?_
    obtain ⟨ms,ec,lc⟩:=Zi5 ns _ _ (mono i) (Ad (i+1) (by omega))
    rw [ec]
    have np:p≠D:=(Aw hys hp).symm
    have:=mono i
    exact ⟨_,(Same.upd hp) _ _ hys,by omega,_,Ac,_,rfl,J.put hD (Same.upd hp) np Ac (by omega)⟩
   ·rintro ys σ' H' hys ⟨kv,rfl,J⟩
    have e:(m:Int).toNat=m:=rfl
    rw [e,Nat.mul_div_cancel _ (by omega)] at J
    obtain ⟨mss,al,hl,ht,sm⟩:=J.fin
    exact q D ys mss H' sm hys al hl ht
end
structure SolM (θ:Nat->Kd)(m:Ae):Prop where
 num:∀ i:Nat,m[i]?=some .num->θ i=.num/\i=0
 truth:∀ i:Nat,m[i]?=some .truth->θ i=.truth/\i=1
 to:∀ i a b:Nat,m[i]?=some (.to a b)->θ i=.to (θ a) (θ b)
 same:∀ i k:Nat,m[i]?=some (.same k)->θ i=θ k
theorem SolM.last {θ:Nat->Kd}{m:Ae}(S:SolM θ m){i r:Nat}(h:Last m i r):θ i=θ r:=by
 obtain ⟨n,h⟩:=h
 induction h with
 | root _ _=>rfl
 | step e t ih=>exact (S.same _ _ e).trans ih
theorem SolM.set {θ:Nat->Kd}{m:Ae}(S:SolM θ m){x y:Nat}(e:θ x=θ y):SolM θ (m.set x (.same y)):=by
 have key:∀(i:Nat)(s:Sh),(m.set x (.same y))[i]?=some s->(i=x/\s=.same y)\/m[i]?=some s:=fun i s h=>by
  by_cases z:i=x
  ·subst z
   by_cases hi:i < m.length
   ·rw [Rk hi] at h
    cases h
    exact .inl ⟨rfl,rfl⟩
   ·rw [Sq (by rw [P8];omega)] at h
    cases h
  ·rw [E7 z] at h
   exact .inr h
 refine ⟨fun i h=>?_,fun i h=>?_,fun i a b h=>?_,fun i k h=>?_⟩
 ·rcases key i _ h with ⟨_,z⟩ | h
  ·cases z
  ·exact S.num i h
 ·rcases key i _ h with ⟨_,z⟩ | h
  ·cases z
  ·exact S.truth i h
 ·rcases key i _ h with ⟨_,z⟩ | h
  ·cases z
  ·exact S.to i a b h
 ·rcases key i _ h with ⟨rfl,z⟩ | h
  ·cases z;exact e
  ·exact S.same i k h
theorem Jp {θ:Nat->Kd}{n:Nat}{m:Ae}{w:List (Nat×Nat)}{o:Option Ae}(h:JoinN n m w o):SolM θ m->(∀ p∈w,θ p.1=θ p.2)->∃ m1,o=some m1/\SolM θ m1:=by
 induction h with
 | nil=>exact fun S _=>⟨_,rfl,S⟩
 | @eq n m w p l o h1 h2 t ih=>exact fun S hw=>ih S fun q hq=>hw q (Qq _ hq)
 | @anyR n m w p l r o h1 h2 ne hr t ih =>
  intro S hw
  have e:=hw p (by simp)
  rw [S.last h1,S.last h2] at e
  exact ih (S.set e.symm) fun q hq=>hw q (Qq _ hq)
 | @anyL n m w p l r sr o h1 h2 ne hr hn hl t ih =>
  intro S hw
  have e:=hw p (by simp)
  rw [S.last h1,S.last h2] at e
  exact ih (S.set e) fun q hq=>hw q (Qq _ hq)
 | @to n m w p l r a b c d o h1 h2 ne hl hr t ih =>
  intro S hw
  have e:=hw p (by simp)
  rw [S.last h1,S.last h2] at e
  have e2:=e
  rw [S.to _ _ _ hl,S.to _ _ _ hr] at e2
  injection e2 with e3 e4
  refine ih (S.set e) fun q hq=>?_
  rcases Pm.mp hq with hq | hq
  ·exact hw q (Qq _ hq)
  ·simp at hq
   rcases hq with rfl | rfl
   ·exact e3
   ·exact e4
 | @clash m w p l r sl sr h1 h2 ne hl hr nl nr nt =>
  intro S hw
  have e:=hw p (by simp)
  rw [S.last h1,S.last h2] at e
  obtain ⟨s1,g1,n1⟩:=h1.at
  obtain ⟨s2,g2,n2⟩:=h2.at
  rw [hl] at g1
  rw [hr] at g2
  cases g1
  cases g2
  exfalso
  cases sl with
  | num =>
   have a:=S.num _ hl
   rw [a.1] at e
   cases sr with
   | num=>exact ne (a.2.trans (S.num _ hr).2.symm)
   | truth=>rw [(S.truth _ hr).1] at e;cases e
   | any=>exact nr rfl
   | to c d=>rw [S.to _ _ _ hr] at e;cases e
   | same k=>cases n2
  | truth =>
   have a:=S.truth _ hl
   rw [a.1] at e
   cases sr with
   | num=>rw [(S.num _ hr).1] at e;cases e
   | truth=>exact ne (a.2.trans (S.truth _ hr).2.symm)
   | any=>exact nr rfl
   | to c d=>rw [S.to _ _ _ hr] at e;cases e
   | same k=>cases n2
  | any=>exact nl rfl
  | to c d =>
   rw [S.to _ _ _ hl] at e
   cases sr with
   | num=>rw [(S.num _ hr).1] at e;cases e
   | truth=>rw [(S.truth _ hr).1] at e;cases e
   | any=>exact nr rfl
   | to c' d'=>rcases nt with z | z <;> exact z rfl
   | same k=>cases n2
  | same k=>cases n1
theorem Zhj {θ:Nat->Kd}{m:Ae}(S:SolM θ m):Fu m:=⟨fun i=>A0 (θ i),fun b c ⟨s,hs,ns⟩ ⟨s',p,hs',hp,hl⟩=>by
 rw [hs] at hs'
 cases hs'
 show A0 (θ c) < A0 (θ b)
 rw [<- S.last hl]
 cases s with
 | to x y =>
  rw [S.to _ _ _ hs]
  simp [Sh.parts] at hp
  show A0 (θ p) < max (A0 (θ x)) (A0 (θ y))+1
  rcases hp with rfl | rfl
  ·omega
  ·omega
 | same k=>cases ns
 | num=>simp [Sh.parts] at hp
 | truth=>simp [Sh.parts] at hp
 | any=>simp [Sh.parts] at hp⟩
theorem Znp {θ:Nat->Kd}{ps:List (Nat×Nat)}{m m':Ae}{fs:List Bool}(h:FitG ps m fs m'):SolM θ m->(∀ p∈ps,θ p.1=θ p.2)->∀(i:Nat)(b:Bool),fs[i]?=some b->b=true:=by
 induction h with
 | nil=>intro _ _ i b h;simp at h
 | @ok g a n k r m m1 m' ps fs j hn l h hk t ih =>
  intro S hp i b hi
  obtain ⟨m2,e,S2⟩:=Jp j S (fun p hq=>by rw [Pi.mp hq];exact hp _ (by simp))
  cases e
  cases i with
  | zero=>cases hi;rfl
  | succ i=>exact ih S2 (fun p hq=>hp p (P4 _ hq)) i b hi
 | @clash g a n m m' ps fs j hn t ih =>
  intro S hp
  obtain ⟨m2,e,S2⟩:=Jp j S (fun p hq=>by rw [Pi.mp hq];exact hp _ (by simp))
  cases e
 | @loop g a n k r m m1 m' ps fs j hn l h hk t ih =>
  intro S hp
  obtain ⟨m2,e,S2⟩:=Jp j S (fun p hq=>by rw [Pi.mp hq];exact hp _ (by simp))
  cases e
  exact (Zj9 (Zhj S2) l h).elim
noncomputable def D0 (th:List Kd)(sh:Ae):Prop:=∀(i:Nat)(s:Sh),sh[i]?=some s->(s=.num/\i=0/\th[i]?=some .num)\/(s=.truth/\i=1/\th[i]?=some .truth)\/(s=.any/\∃ k,th[i]?=some k)\/∃ a b x y,s=.to a b/\th[a]?=some x/\th[b]?=some y/\th[i]?=some (.to x y)
noncomputable def RelT (th:List Kd)(e:Ev)(ar:List (Str×Kd)):Prop:=∀ s x,e s=some x->∃ k,th[x]?=some k/\C5 ar s=some k
theorem Cd {th th':List Kd}(h:th <+: th'){i:Nat}{k:Kd}(e:th[i]?=some k):th'[i]?=some k:=by
 obtain ⟨r,hr⟩:=h
 rw [<- hr,Py (Pa.mp e).1]
 exact e
theorem RelT.more {th th':List Kd}{e:Ev}{ar:List (Str×Kd)}(h:RelT th e ar)(p:th <+: th'):RelT th' e ar:=fun s x hx=>let ⟨k,h1,h2⟩:=h s x hx;⟨k,Cd p h1,h2⟩
theorem Zau {th:List Kd}:∀(ns:List Str)(xs:List Nat)(ks:List Kd)(e:Ev)(ar:List (Str×Kd)),RelT th e ar->xs.length=ks.length->(∀(j x:Nat)(k:Kd),xs[j]?=some x->ks[j]?=some k->th[x]?=some k)->RelT th (Cg e ns xs) (ar++ns.zip ks)
 | [],xs,ks,e,ar,h,_,_=>by rw [List.zip_nil_left,Pw];exact h
 | n::ns,[],[],e,ar,h,_,_=>by rw [List.zip_nil_right,Pw];exact h
 | n::ns,x::xs,k::ks,e,ar,h,hl,hk=>by
  have h2:=Zau ns xs ks (fun s=>if s=n then some x else e s) (ar++[(n,k)]) (fun s y hy=>by
   have hy:(if s=n then some x else e s)=some y:=hy
   rw [Zde]
   by_cases z:s=n
   ·rw [if_pos z] at hy
    cases hy
    exact ⟨k,hk 0 _ _ rfl rfl,by rw [if_pos z.symm]⟩
   ·rw [if_neg z] at hy
    rw [if_neg (fun e=>z e.symm)]
    exact h s y hy) (by simpa using hl) (fun j=>hk (j+1))
  rw [P5] at h2
  exact h2
noncomputable def El (w:Str)(h:Kd)(ws:List Kd):List Kd :=
 if w = "if" \/ w = "gap" \/ w = "odd" \/ w = "name" then [h] else if w = "let" then [ws.getD 0 .num,h] else if w = "fn" \/ w = "rec" then (match h with | .to x y=>[x,y,.to x y] | k=>[k,k,.to k k]) else if w = "call" then [ws.getD 1 .num,h,.to (ws.getD 1 .num) h] else []
structure Zm7 (th:List Kd)(sh:Ae)(w:Str)(n:Dt)(h:Kd)(ws:List Kd):Prop where
 len:(El w h ws).length=(As sh.length w).2.2.2.length
 sol:D0 (th++El w h ws) (sh++(As sh.length w).2.2.2)
 giv:w ≠ "name" -> (th++El w h ws)[(As sh.length w).1]?=some h
 nam:w = "name" -> (th++El w h ws)[sh.length]?=some h
 arg:∀ j:Nat,(As sh.length w).2.1.length=ws.length/\∀(x:Nat)(k:Kd),(As sh.length w).2.1[j]?=some x->ws[j]?=some k->(th++El w h ws)[x]?=some k
 env:(As sh.length w).2.2.1.length=(arK w h ws).length/\∀(j x:Nat)(k:Kd),(As sh.length w).2.2.1[j]?=some x->(arK w h ws)[j]?=some k->(th++El w h ws)[x]?=some k
theorem Kg {th bl:List Kd}{sh nw:Ae}(S:D0 th sh)(hl:th.length=sh.length)(hn:∀(i:Nat)(s:Sh),nw[i]?=some s->(s=.any/\∃ k,bl[i]?=some k)\/∃ a b x y,s=.to a b/\(th++bl)[a]?=some x/\(th++bl)[b]?=some y/\bl[i]?=some (.to x y)):D0 (th++bl) (sh++nw):=fun i s hs=>by
 have pr:th <+: th++bl:=Sw _ _
 by_cases z:i < sh.length
 ·rw [Py z] at hs
  rcases S i s hs with ⟨h1,h2,h3⟩ | ⟨h1,h2,h3⟩ | ⟨h1,k,h3⟩ | ⟨a,b,x,y,h1,h2,h3,h4⟩
  ·exact .inl ⟨h1,h2,Cd pr h3⟩
  ·exact .inr (.inl ⟨h1,h2,Cd pr h3⟩)
  ·exact .inr (.inr (.inl ⟨h1,k,Cd pr h3⟩))
  ·exact .inr (.inr (.inr ⟨a,b,x,y,h1,Cd pr h2,Cd pr h3,Cd pr h4⟩))
 ·rw [Px (by omega)] at hs
  have e:(th++bl)[i]?=bl[i - sh.length]?:=by rw [Px (by omega),hl]
  rw [e]
  rcases hn _ s hs with ⟨h1,h2⟩ | ⟨a,b,x,y,h1,h2,h3,h4⟩
  ·exact .inr (.inr (.inl ⟨h1,h2⟩))
  ·exact .inr (.inr (.inr ⟨a,b,x,y,h1,h2,h3,h4⟩))
theorem Zo6 {th:List Kd}{sh:Ae}{w:Str}{n:Dt}{h:Kd}{ws:List Kd}{ar:List (Str×Kd)}(S:D0 th sh)(hl:th.length=sh.length)(t0:th[0]?=some .num)(t1:th[1]?=some .truth)(ak:Ek w h ws)(lf:Zbm w n h ar):Zm7 th sh w n h ws:=by
 have ix:∀(bl:List Kd)(i:Nat),(th++bl)[sh.length+i]?=bl[i]?:=fun bl i=>by rw [Px (by omega),hl,Nat.add_sub_cancel_left]
 have ix0:∀ bl:List Kd,(th++bl)[sh.length]?=bl[0]?:=fun bl=>ix bl 0
 have u0:∀ bl:List Kd,(th++bl)[0]?=some .num:=fun bl=>Cd (Sw _ _) t0
 have u1:∀ bl:List Kd,(th++bl)[1]?=some .truth:=fun bl=>Cd (Sw _ _) t1
 have none:∀(j x:Nat)(k:Kd){P:Prop},([]:List Nat)[j]?=some x->P:=fun j x k P h=>by simp at h
 have s0:∀ bl:List Kd,D0 (th++bl) (sh++[]):=fun bl=>by
  refine Kg S hl fun i s h=>?_
  simp at h
 have sa:∀(k:Kd)(r:List Kd),D0 (th++k::r) (sh++[.any]):=fun k r=>Kg S hl fun i s h=>by
  match i,h with
  | 0,h=>cases h;exact .inl ⟨rfl,k,rfl⟩
 have st:∀ x y:Kd,D0 (th++[x,y,.to x y]) (sh++[.any,.any,.to sh.length (sh.length+1)]):=fun x y=>Kg S hl fun i s h=>by
  match i,h with
  | 0,h=>cases h;exact .inl ⟨rfl,x,rfl⟩
  | 1,h=>cases h;exact .inl ⟨rfl,y,rfl⟩
  | 2,h=>cases h;exact .inr ⟨_,_,x,y,rfl,ix0 _,ix _ 1,rfl⟩
 cases ak with
 | nil hw =>
  simp only [O5,Pd,or_false] at hw
  rcases hw with rfl | rfl | rfl | rfl | rfl
  ·exact ⟨rfl,sa h [],fun _=>ix0 _,fun z=>absurd z (by decide +kernel),fun j=>⟨rfl,fun x k e=>none j x k e⟩,rfl,fun j x k e=>none j x k e⟩
  ·exact ⟨rfl,sa h [],fun _=>ix0 _,fun z=>absurd z (by decide +kernel),fun j=>⟨rfl,fun x k e=>none j x k e⟩,rfl,fun j x k e=>none j x k e⟩
  ·obtain rfl:=lf.num rfl
   exact ⟨rfl,s0 [],fun _=>u0 _,fun z=>absurd z (by decide +kernel),fun j=>⟨rfl,fun x k e=>none j x k e⟩,rfl,fun j x k e=>none j x k e⟩
  ·obtain rfl:=lf.truth rfl
   exact ⟨rfl,s0 [],fun _=>u1 _,fun z=>absurd z (by decide +kernel),fun j=>⟨rfl,fun x k e=>none j x k e⟩,rfl,fun j x k e=>none j x k e⟩
  ·exact ⟨rfl,sa h [],fun z=>absurd rfl z,fun _=>ix0 _,fun j=>⟨rfl,fun x k e=>none j x k e⟩,rfl,fun j x k e=>none j x k e⟩
 | plus hw =>
  rcases hw with rfl | rfl
  all_goals
   refine ⟨rfl,s0 [],fun _=>u0 _,fun z=>absurd z (by decide +kernel),fun j=>⟨rfl,fun x k e1 e2=>?_⟩,rfl,fun j x k e=>none j x k e⟩
   match j,e1,e2 with
   | 0,e1,e2=>cases e1;cases e2;exact u0 _
   | 1,e1,e2=>cases e1;cases e2;exact u0 _
 | less =>
  refine ⟨rfl,s0 [],fun _=>u1 _,fun z=>absurd z (by decide +kernel),fun j=>⟨rfl,fun x k e1 e2=>?_⟩,rfl,fun j x k e=>none j x k e⟩
  match j,e1,e2 with
  | 0,e1,e2=>cases e1;cases e2;exact u0 _
  | 1,e1,e2=>cases e1;cases e2;exact u0 _
 | ite =>
  refine ⟨rfl,sa h [],fun _=>ix0 _,fun z=>absurd z (by decide +kernel),fun j=>⟨rfl,fun x k e1 e2=>?_⟩,rfl,fun j x k e=>none j x k e⟩
  match j,e1,e2 with
  | 0,e1,e2=>cases e1;cases e2;exact u1 _
  | 1,e1,e2=>cases e1;cases e2;exact ix0 _
  | 2,e1,e2=>cases e1;cases e2;exact ix0 _
 | @call _ x =>
  refine ⟨rfl,st x h,fun _=>ix _ 1,fun z=>absurd z (by decide +kernel),fun j=>⟨rfl,fun x k e1 e2=>?_⟩,rfl,fun j x k e=>none j x k e⟩
  match j,e1,e2 with
  | 0,e1,e2=>cases e1;cases e2;exact ix _ 2
  | 1,e1,e2=>cases e1;cases e2;exact ix0 _
 | @lt _ x =>
  refine ⟨rfl,?_,fun _=>ix _ 1,fun z=>absurd z (by decide +kernel),fun j=>⟨rfl,fun x k e1 e2=>?_⟩,rfl,fun j x k e1 e2=>?_⟩
  ·exact Kg S hl fun i s h'=>by
    match i,h' with
    | 0,h'=>cases h';exact .inl ⟨rfl,x,rfl⟩
    | 1,h'=>cases h';exact .inl ⟨rfl,h,rfl⟩
  ·match j,e1,e2 with
   | 0,e1,e2=>cases e1;cases e2;exact ix0 _
   | 1,e1,e2=>cases e1;cases e2;exact ix _ 1
  ·match j,e1,e2 with
   | 0,e1,e2=>cases e1;cases e2;exact ix0 _
 | @fn _ x y hw =>
  rcases hw with rfl | rfl
  ·refine ⟨rfl,st x y,fun _=>ix _ 2,fun z=>absurd z (by decide +kernel),fun j=>⟨rfl,fun x k e1 e2=>?_⟩,rfl,fun j x k e1 e2=>?_⟩
   ·match j,e1,e2 with
    | 0,e1,e2=>cases e1;cases e2;exact ix _ 1
   ·match j,e1,e2 with
    | 0,e1,e2=>cases e1;cases e2;exact ix0 _
  ·refine ⟨rfl,st x y,fun _=>ix _ 2,fun z=>absurd z (by decide +kernel),fun j=>⟨rfl,fun x k e1 e2=>?_⟩,rfl,fun j x k e1 e2=>?_⟩
   ·match j,e1,e2 with
    | 0,e1,e2=>cases e1;cases e2;exact ix _ 1
   ·match j,e1,e2 with
    | 0,e1,e2=>cases e1;cases e2;exact ix _ 2
    | 1,e1,e2=>cases e1;cases e2;exact ix0 _
theorem Zgw {th:List Kd}{sh:Ae}(S:D0 th sh):SolM (fun i=>th.getD i .num) sh:=by
 have g:∀{i:Nat}{k:Kd},th[i]?=some k->th.getD i .num=k:=fun h=>by rw [Qd,h];rfl
 refine ⟨fun i h=>?_,fun i h=>?_,fun i a b h=>?_,fun i k h=>?_⟩
 ·rcases S i _ h with ⟨_,h2,h3⟩ | ⟨z,_⟩ | ⟨z,_⟩ | ⟨_,_,_,_,z,_⟩
  ·exact ⟨g h3,h2⟩
  all_goals cases z
 ·rcases S i _ h with ⟨z,_⟩ | ⟨_,h2,h3⟩ | ⟨z,_⟩ | ⟨_,_,_,_,z,_⟩
  ·cases z
  ·exact ⟨g h3,h2⟩
  all_goals cases z
 ·rcases S i _ h with ⟨z,_⟩ | ⟨z,_⟩ | ⟨z,_⟩ | ⟨_,_,x,y,z,h1,h2,h3⟩
  ·cases z
  ·cases z
  ·cases z
  ·cases z
   show th.getD i .num=.to (th.getD a .num) (th.getD b .num)
   rw [g h1,g h2,g h3]
 ·rcases S i _ h with ⟨z,_⟩ | ⟨z,_⟩ | ⟨z,_⟩ | ⟨_,_,_,_,z,_⟩ <;> cases z
structure Fp (w:Str)(n:Dt)(h:Kd)(ar:List (Str×Kd)):Prop where
 l:Zbm w n h ar
 name:w = "name" -> C5 ar (C8 n)=some h
 odd:w ≠ "odd"
mutual
inductive Du:Tr->List (Str×Kd)->Kd->List Kd->Prop where
 | mk {w:Str} {n:Dt} {ts:List Tr} {ar:List (Str×Kd)} {h:Kd} {ws ls:List Kd} (hsh:Df w n) (lf:Fp w n h ar) (ak:Ek w h ws) (hc:Ep w n h ws ar 0 ts ls):Du (.mk w n ts) ar h (h::ls)
inductive Ep:Str->Dt->Kd->List Kd->List (Str×Kd)->Nat->List Tr->List Kd->Prop where
 | nil {w:Str} {n:Dt} {h:Kd} {ws:List Kd} {ar:List (Str×Kd)}:Ep w n h ws ar ws.length [] []
 | cons {w:Str} {n:Dt} {h k:Kd} {ws l ls:List Kd} {ar:List (Str×Kd)} {i:Nat} {t:Tr} {ts:List Tr} (hk:ws[i]?=some k) (ht:Du t (Dh w n h i ws ar) k l) (hc:Ep w n h ws ar (i+1) ts ls):Ep w n h ws ar i (t::ts) (l++ls)
end
theorem Zbz {w:Str}{h:Kd}{ws:List Kd}(ak:Ek w h ws):ws.length=arG w:=by
 cases ak with
 | nil hw =>
  simp only [O5,Pd,or_false] at hw
  rcases hw with rfl | rfl | rfl | rfl | rfl <;> decide +kernel
 | plus hw=>rcases hw with rfl | rfl <;> (show 2=_) <;> decide +kernel
 | less=>show 2=_;decide +kernel
 | ite=>show 3=_;decide +kernel
 | call=>show 2=_;decide +kernel
 | lt=>show 2=_;decide +kernel
 | fn hw=>rcases hw with rfl | rfl <;> (show 1=_) <;> decide +kernel
theorem Zed {w:Str}{n:Dt}{h:Kd}{ws:List Kd}{ar:List (Str×Kd)}:∀{ts:List Tr}{i:Nat}{ls:List Kd},Ep w n h ws ar i ts ls->i+ts.length=ws.length
 | [],_,_,.nil=>rfl
 | _::ts,i,_,.cons _ _ hc=>by have:=Zed hc;rw [Pb];omega
mutual
theorem Zai:∀(t:Tr)(ar:List (Str×Kd))(h:Kd)(ls:List Kd),Du t ar h ls->AT t/\Dz t
 | .mk w n ts,ar,h,ls,G=>by
  cases G with
  | mk hsh lf ak hc =>
  have hl:=Zed hc
  have:=Zc7 ts 0 _ _ _ _ _ _ hc
  exact ⟨.mk hsh (by rw [<- Zbz ak];omega) fun t ht=>(this t ht).1,.mk hsh fun t ht=>(this t ht).2⟩
theorem Zc7:∀(ts:List Tr)(i:Nat)(w:Str)(n:Dt)(h:Kd)(ws:List Kd)(ar:List (Str×Kd))(ls:List Kd),Ep w n h ws ar i ts ls->∀ t∈ts,AT t/\Dz t
 | [],i,w,n,h,ws,ar,ls,_,t,ht=>nomatch ht
 | t::ts,i,w,n,h,ws,ar,ls,G,u,hu=>by
  cases G with
  | cons hk ht hc =>
  rcases O5.mp hu with e | hu
  ·rw [e];exact Zai t _ _ _ ht
  ·exact Zc7 ts _ _ _ _ _ _ _ hc u hu
end
mutual
theorem bt_t:∀(t:Tr)(ar:List (Str×Kd))(h:Kd)(ls:List Kd)(sh:Ae)(e:Ev)(a:Option Nat)(ps:List (Nat×Nat))(sh':Ae)(th:List Kd),Du t ar h ls->K3 t sh e a ps sh'->th.length=sh.length->D0 th sh->th[0]?=some .num->th[1]?=some .truth->RelT th e ar->(∀ x,a=some x->th[x]?=some h) ->
  ∃ th',th <+: th'/\th'.length=sh'.length/\D0 th' sh'/\ps.length=ls.length/\∀(i:Nat)(p:Nat×Nat)(k:Kd),ps[i]?=some p->ls[i]?=some k->th'[p.1]?=some k/\th'[p.2]?=some k
 | .mk w n ts,ar,h,ls,sh,e,a,ps,sh',th,G,o,hl,S,t0,t1,hr,ha=>by
  cases G with
  | @mk _ _ _ _ _ ws ls hsh lf ak hc =>
  cases o with
  | @mk _ _ _ _ _ _ _ ps' hs hl2 k =>
  have B:=Zo6 (n:=n) S hl t0 t1 ak lf.l
  have pr:th <+: th++El w h ws:=Sw _ _
  have hl1:(th++El w h ws).length=(sh++(As sh.length w).2.2.2).length:=by rw [O7,O7,B.len,hl]
  obtain ⟨th',p1,p2,p3,p4,p5⟩:=bt_l ts 0 w n h ws ar ls _ _ _ ps' sh' (th++El w h ws) hc k hl1 B.sol (Cd pr t0) (Cd pr t1) (fun j=>Zau _ _ _ _ _ (hr.more pr) B.env.1 B.env.2) (fun j x k hx hk=>(B.arg j).2 _ _ hx hk)
  have g1:(th++El w h ws)[Cw sh.length w n e]?=some h:=by
   by_cases hw:w = "name"
   ·subst hw
    show (th++El "name" h ws)[(e (C8 n)).getD sh.length]?=some h
    cases hx:e (C8 n) with
    | none=>exact B.nam rfl
    | some x =>
     obtain ⟨k,hk1,hk2⟩:=hr _ _ hx
     rw [lf.name rfl] at hk2
     cases hk2
     exact Cd pr hk1
   ·rw [Ziy hw];exact B.giv hw
  refine ⟨th',pr.trans p1,p2,p3,by rw [Pb,Pb,p4],fun i p k hp hk=>?_⟩
  cases i with
  | zero =>
   cases hp
   cases hk
   refine ⟨Cd p1 g1,?_⟩
   cases a with
   | none=>exact Cd p1 g1
   | some x=>exact Cd (pr.trans p1) (ha x rfl)
  | succ i=>exact p5 i p k (by simpa using hp) (by simpa using hk)
theorem bt_l:∀(ts:List Tr)(i:Nat)(w:Str)(n:Dt)(h:Kd)(ws:List Kd)(ar:List (Str×Kd))(ls:List Kd)(sh:Ae)(f:Nat->Ev)(d:Nat->Option Nat)(ps:List (Nat×Nat))(sh':Ae)(th:List Kd),Ep w n h ws ar i ts ls->G9 i ts sh f d ps sh'->th.length=sh.length->D0 th sh->th[0]?=some .num->th[1]?=some .truth->(∀ j,RelT th (f j) (Dh w n h j ws ar))->(∀ j x k,d j=some x->ws[j]?=some k->th[x]?=some k) ->
  ∃ th',th <+: th'/\th'.length=sh'.length/\D0 th' sh'/\ps.length=ls.length/\∀(i:Nat)(p:Nat×Nat)(k:Kd),ps[i]?=some p->ls[i]?=some k->th'[p.1]?=some k/\th'[p.2]?=some k
 | [],i,w,n,h,ws,ar,ls,sh,f,d,ps,sh',th,G,o,hl,S,t0,t1,hr,hd=>by
  cases G
  cases o
  exact ⟨th,Vu,hl,S,rfl,fun i p k hp=>by simp at hp⟩
 | t::ts,i,w,n,h,ws,ar,ls,sh,f,d,ps,sh',th,G,o,hl,S,t0,t1,hr,hd=>by
  cases G with
  | @cons _ _ _ kk _ l ls _ _ _ _ hk ht hc =>
  cases o with
  | @cons _ _ _ _ sh1 _ _ _ ps1 ps2 o1 o2 =>
  obtain ⟨th1,p1,p2,p3,p4,p5⟩:=bt_t t _ _ _ _ _ _ _ _ _ ht o1 hl S t0 t1 (hr i) (fun x hx=>hd i x kk hx hk)
  obtain ⟨th2,q1,q2,q3,q4,q5⟩:=bt_l ts (i+1) w n h ws ar ls _ _ _ _ _ _ hc o2 p2 p3 (Cd p1 t0) (Cd p1 t1) (fun j=>(hr j).more p1) (fun j x k hx hk=>Cd p1 (hd j x k hx hk))
  refine ⟨th2,p1.trans q1,q2,q3,by rw [O7,O7,p4,q4],fun j p k hp hk=>?_⟩
  by_cases hj:j < ps1.length
  ·rw [Py hj] at hp
   rw [Py (by omega)] at hk
   obtain ⟨g1,g2⟩:=p5 j p k hp hk
   exact ⟨Cd q1 g1,Cd q1 g2⟩
  ·rw [Px (by omega)] at hp
   rw [Px (by omega)] at hk
   exact q5 _ p k hp (by rw [p4];exact hk)
end
theorem Zip {ar:List (Str×Kd)}{s:Str}{h:Kd}(e:C5 ar s=some h):s∈ar.map (·.1):=by
 unfold C5 at e
 have key:∀(l:List (Str×Kd))(o:Option Kd),l.foldl (fun o p=>if p.1=s then some p.2 else o) o=some h->o=some h\/s∈l.map (·.1):=by
  intro l
  induction l with
  | nil=>exact fun o e=>.inl e
  | cons p l ih =>
   intro o e
   rw [Vs] at e
   rcases ih _ e with z | z
   ·by_cases c:p.1=s
    ·exact .inr (by rw [Qa,c];simp)
    ·rw [if_neg c] at z;exact .inl z
   ·exact .inr (by rw [Qa];exact P4 _ z)
 rcases key ar none e with z | z
 ·cases z
 ·exact z
theorem Zpf {w:Str}{n:Dt}{h:Kd}{j:Nat}{ws:List Kd}{ar:List (Str×Kd)}{s:Str}(e:s∈(Dh w n h j ws ar).map (·.1)):s∈ar.map (·.1)\/s∈nb w n j:=by
 unfold Dh at e
 rw [P6] at e
 rcases Pm.mp e with e | e
 ·exact .inl e
 ·obtain ⟨x,hx,rfl⟩:=Q8.mp e
  exact .inr (Sy hx).1
mutual
theorem bt_w:∀(t:Tr)(ar:List (Str×Kd))(h:Kd)(ls:List Kd)(pl:List Nat)(x:List Nat×Tr),Du t ar h ls->x∈walk pl t->∃ q w n us,x.1=pl++q/\x.2=.mk w n us/\w ≠ "odd" /\ (w = "name" -> C8 n∈ar.map (·.1)++Cc t q)
 | .mk w n ts,ar,h,ls,pl,x,G,hx=>by
  cases G with
  | mk hsh lf ak hc =>
  rw [walk] at hx
  rcases O5.mp hx with rfl | hx
  ·exact ⟨[],w,n,ts,by simp,rfl,lf.odd,fun z=>Qq _ (Zip (lf.name z))⟩
  ·obtain ⟨j,t,q,w',n',us,h1,h2,h3,h4,h5⟩:=Zbo ts 0 _ _ _ _ _ _ pl x hc hx
   refine ⟨j::q,w',n',us,by rw [h2,Rj],h3,h4,fun z=>?_⟩
   have e:Cc (.mk w n ts) (j::q)=nb w n j++Cc t q:=by unfold Cc;rw [K9 h1,Q3]
   rw [e]
   rcases Pm.mp (h5 z) with m | m
   ·rw [Rj] at m
    rcases Zpf m with m | m
    ·exact Qq _ m
    ·exact Qg _ (Qq _ m)
   ·exact Qg _ (Qg _ m)
theorem Zbo:∀(ts:List Tr)(i:Nat)(w:Str)(n:Dt)(h:Kd)(ws:List Kd)(ar:List (Str×Kd))(ls:List Kd)(pl:List Nat)(x:List Nat×Tr),Ep w n h ws ar i ts ls->x∈Bf pl i ts->∃ j t q w' n' us,ts[j]?=some t/\x.1=pl++(i+j)::q/\x.2=.mk w' n' us/\w' ≠ "odd" /\ (w' = "name" -> C8 n'∈(Dh w n h (i+j) ws ar).map (·.1)++Cc t q)
 | [],i,w,n,h,ws,ar,ls,pl,x,G,hx=>by rw [Bf] at hx;cases hx
 | t::ts,i,w,n,h,ws,ar,ls,pl,x,G,hx=>by
  cases G with
  | cons hk ht hc =>
  rw [Bf] at hx
  rcases Pm.mp hx with hx | hx
  ·obtain ⟨q,w',n',us,h1,h2,h3,h4⟩:=bt_w t _ _ _ (pl++[i]) x ht hx
   exact ⟨0,t,q,w',n',us,rfl,by rw [h1];simp,h2,h3,h4⟩
  ·obtain ⟨j,u,q,w',n',us,h1,h2,h3,h4,h5⟩:=Zbo ts (i+1) _ _ _ _ _ _ pl x hc hx
   refine ⟨j+1,u,q,w',n',us,by simpa using h1,by rw [h2];simp;omega,h3,h4,fun z=>?_⟩
   have e:i+(j+1)=i+1+j:=by omega
   rw [e]
   exact h5 z
end
noncomputable def B7 (ρ:Nat->Kd):Kd->Kd
 | .any n=>ρ n
 | .to x y=>.to (B7 ρ x) (B7 ρ y)
 | .num=>.num
 | .truth=>.truth
noncomputable def Hc (c:Nat):Kd->Prop
 | .any n=>n < c
 | .to x y=>Hc c x/\Hc c y
 | _=>True
theorem Mf {ρ ρ':Nat->Kd}{c:Nat}(e:∀ n,n < c->ρ n=ρ' n):∀ k:Kd,Hc c k->B7 ρ k=B7 ρ' k
 | .any n,h=>e n h
 | .to x y,h=>by rw [B7,B7,Mf e x h.1,Mf e y h.2]
 | .num,_=>rfl
 | .truth,_=>rfl
theorem Oy {c:Nat}:∀ k:Kd,Hc c k->Hc (c+1) k
 | .any n,h=>Sx h
 | .to x y,h=>⟨Oy x h.1,Oy y h.2⟩
 | .num,_=>trivial
 | .truth,_=>trivial
theorem Zh1 {θ:Nat->Kd}{sh:Ae}(S:SolM θ sh){n c:Nat}{td td':Td}{w:List Nat}(h:ToldN sh n td c w td'):∀ ρ:Nat->Kd,(∀ r k,td r=some k->B7 ρ k=θ r/\Hc c k)->∃ ρ':Nat->Kd,∀ r k,td' r=some k->B7 ρ' k=θ r:=by
 induction h with
 | nil=>exact fun ρ g=>⟨ρ,fun r k e=>(g r k e).1⟩
 | seen _ _ _ _ _ ih=>exact ih
 | miss _ _ _ _ _ _ ih=>exact ih
 | @any n c x r td td' w rs hl hs hp h t ih =>
  intro ρ g
  refine ih (fun m=>if m=c then θ r else ρ m) fun i k e=>?_
  have e:(if i=r then some (Kd.any c) else td i)=some k:=e
  by_cases z:i=r
  ·rw [if_pos z] at e
   cases e
   subst z
   exact ⟨by show (if c=c then θ i else ρ c)=θ i;rw [if_pos rfl],Vn c⟩
  ·rw [if_neg z] at e
   obtain ⟨g1,g2⟩:=g i k e
   refine ⟨?_,Oy k g2⟩
   rw [<- g1]
   exact Mf (fun m hm=>by rw [if_neg (Pe hm)]) k g2
 | @mk n c x r td td' w rs s k hl hs hp h hm hk t ih =>
  intro ρ g
  refine ih ρ fun i k' e=>?_
  have e:(if i=r then some k else td i)=some k':=e
  by_cases z:i=r
  ·rw [if_pos z] at e
   cases e
   subst z
   cases hk with
   | num=>exact ⟨(S.num _ hs).1.symm,trivial⟩
   | truth=>exact ⟨(S.truth _ hs).1.symm,trivial⟩
   | to hx hy =>
    cases hp with
    | cons l1 hp =>
    cases hp with
    | cons l2 _ =>
    obtain ⟨a1,a2⟩:=g _ _ hx
    obtain ⟨b1,b2⟩:=g _ _ hy
    exact ⟨by rw [B7,a1,b1,S.to _ _ _ hs,S.last l1,S.last l2],a2,b2⟩
  ·rw [if_neg z] at e
   exact g i k' e
theorem Zf8 {θ:Nat->Kd}{ps:List (Nat×Nat)}{m m':Ae}{fs:List Bool}(h:FitG ps m fs m'):SolM θ m->(∀ p∈ps,θ p.1=θ p.2)->SolM θ m':=by
 induction h with
 | nil=>exact fun S _=>S
 | @ok g a n k r m m1 m' ps fs j hn l h hk t ih =>
  intro S hp
  obtain ⟨m2,e,S2⟩:=Jp j S (fun p hq=>by rw [Pi.mp hq];exact hp _ (by simp))
  cases e
  exact ih S2 (fun p hq=>hp p (P4 _ hq))
 | @clash g a n m m' ps fs j hn t ih=>exact fun S hp=>ih S (fun p hq=>hp p (P4 _ hq))
 | @loop g a n k r m m1 m' ps fs j hn l h hk t ih=>exact fun S hp=>ih S (fun p hq=>hp p (P4 _ hq))
theorem Zdj {a:Str}:∀{l:List Str}{d:Nat},B0 a d l=none->a ∉ l
 | [],d,_=>by simp
 | y::r,d,h=>by
  rw [B0] at h
  cases e:B0 a (d+1) r with
  | some k=>rw [e] at h;cases h
  | none =>
   rw [e] at h
   have h:(if y=a then some d else none)=none:=h
   by_cases c:y=a
   ·rw [if_pos c] at h;cases h
   ·intro hm
    rcases O5.mp hm with hm | hm
    ·exact c hm.symm
    ·exact Zdj e hm
structure Wsh (t:Tr)(ls:List Kd)(ks:List Kd)(fs:List Bool)(ρ:Nat->Kd):Prop where
 r:Kn t ks fs
 m:∀ x∈B6 t ks fs,x.2.2.2 = ""
 l:ls.length=t.size
 k:∀(i:Nat)(k:Kd),ls[i]?=some k->B7 ρ (ks.getD (2 * i) .num)=k/\B7 ρ (ks.getD (2 * i+1) .num)=k
theorem Zg7 {t:Tr}{h:Kd}{ls:List Kd}(G:Du t [] h ls)(hz:t.size<=40):∃ ks fs ρ,Wsh t ls ks fs ρ:=by
 have ha:=(Zai _ _ _ _ G).1
 obtain ⟨ks,fs,R⟩:=Zlc ha hz
 obtain ⟨ps,sh1,sh2,N,td',hk,hf,ht,hN,hkl,hx⟩:=R.ex
 have hk':=hk
 rw [<- Pw (walk [] t)] at hk'
 obtain ⟨ps1,ps2,sh3,D1,A1,e,e1,e2,o,e3,_⟩:=Za0 _ [] _ _ _ [] _ _ hk' ha
 cases e3
 rw [Pw] at e1
 subst e1
 rw [if_pos rfl] at e2
 cases e2
 obtain ⟨th',p1,p2,p3,p4,p5⟩:=bt_t t [] h ls [.num,.truth] _ none ps sh1 [.num,.truth] G o rfl (fun i s hs=>by
  match i,hs with
  | 0,hs=>cases hs;exact .inl ⟨rfl,rfl,rfl⟩
  | 1,hs=>cases hs;exact .inr (.inl ⟨rfl,rfl,rfl⟩)) rfl rfl (fun s x hx=>by cases hx) (fun x hx=>by cases hx)
 have hpl:ps.length=t.size:=by rw [hk.len,Dr]
 have S:=Zgw p3
 have gd:∀{i:Nat}{k:Kd},th'[i]?=some k->th'.getD i .num=k:=fun h=>by rw [Qd,h];rfl
 have hpe:∀ p∈ps,th'.getD p.1 .num=th'.getD p.2 .num:=fun p hp=>by
  obtain ⟨i,hi,rfl⟩:=List.getElem_of_mem hp
  obtain ⟨g1,g2⟩:=p5 i _ (ls[i]'(by omega)) (O1 hi) (O1 (by omega))
  rw [gd g1,gd g2]
 have S2:=Zf8 hf S hpe
 obtain ⟨ρ,hρ⟩:=Zh1 S2 ht (fun _=>.num) (fun r k e=>by cases e)
 have hfs:=Znp hf S hpe
 refine ⟨ks,fs,ρ,R,fun x hx=>?_,by omega,fun i k hi=>?_⟩
 ·unfold B6 at hx
  obtain ⟨i,hi,rfl⟩:=List.mem_mapIdx.mp hx
  show Dg t ((walk [] t)[i]).1 ((walk [] t)[i]).2 (fs.getD i false) = ""
  have hfl:fs.length=(walk [] t).length:=by rw [hf.len,hk.len]
  have hb:fs.getD i false=true:=by
   rw [Qd,O1 (by omega)]
   exact hfs i _ (O1 (by omega))
  rw [hb]
  obtain ⟨q,w,n,us,h1,h2,h3,h4⟩:=bt_w t [] h ls [] _ G (Q5 hi)
  rw [h1,h2]
  show (if true=false then ("unlike" : Str) else if w = "odd" then "odd" else if w = "name" /\ B0 (C8 n) 0 (Cc t ([]++q))=none then "free" else "") = ""
  rw [if_neg (by decide),if_neg h3,if_neg]
  rintro ⟨z1,z2⟩
  exact Zdj z2 (by simpa using h4 z1)
 ·have hil:=(Pa.mp hi).1
  have hip:ps[i]?=some (ps[i]'(by omega)):=O1 (by omega)
  obtain ⟨g1,g2⟩:=p5 i _ k hip hi
  obtain ⟨f1,f2⟩:=Zb3 hip
  have key:∀(j x:Nat),(flat ps)[j]?=some x->th'[x]?=some k->B7 ρ (ks.getD j .num)=k:=fun j x hj hk2=>by
   have hjl:j < ks.length:=by rw [hkl];exact (Pa.mp hj).1
   obtain ⟨r,l1,l2⟩:=hx j x _ hj (O1 hjl)
   rw [Qd,O1 hjl]
   show B7 ρ (ks[j])=k
   rw [hρ r _ l2,<- S2.last l1]
   exact gd hk2
  exact ⟨key _ _ f1 g1,key _ _ f2 g2⟩
theorem Ka:∀ k:Kd,Pu (G5 k)
 | .num=>.tup fun d h=>by rw [Pi.mp h];exact .str _
 | .truth=>.tup fun d h=>by rw [Pi.mp h];exact .str _
 | .any n=>.tup fun d h=>by
  rcases O5.mp h with rfl | h
  ·exact .str _
  ·rw [Pi.mp h];exact .int _
 | .to x y=>.tup fun d h=>by
  rcases O5.mp h with rfl | h
  ·exact .str _
  ·rcases O5.mp h with rfl | h
   ·exact Ka x
   ·rw [Pi.mp h];exact Ka y
theorem Da {a b:Str}{r r':List Dt}(h:Dt.tup (.flat (.str a)::r)=.tup (.flat (.str b)::r')):a=b/\r=r':=by
 injection h with h
 injection h with h1 h2
 injection h1 with h1
 exact ⟨V.str.inj h1,h2⟩
theorem Nb:∀ k k':Kd,G5 k=G5 k'->k=k'
 | .num,.num,_=>rfl
 | .num,.truth,h=>absurd (Da h).1 (by decide +kernel)
 | .num,.any _,h=>absurd (Da h).1 (by decide +kernel)
 | .num,.to _ _,h=>absurd (Da h).1 (by decide +kernel)
 | .truth,.num,h=>absurd (Da h).1 (by decide +kernel)
 | .truth,.truth,_=>rfl
 | .truth,.any _,h=>absurd (Da h).1 (by decide +kernel)
 | .truth,.to _ _,h=>absurd (Da h).1 (by decide +kernel)
 | .any _,.num,h=>absurd (Da h).1 (by decide +kernel)
 | .any _,.truth,h=>absurd (Da h).1 (by decide +kernel)
 | .any n,.any m,h=>by
  have h:=(Da h).2
  injection h with h _
  injection h with h
  have h:=V.int.inj h
  rw [show n=m by omega]
 | .any _,.to _ _,h=>absurd (Da h).1 (by decide +kernel)
 | .to _ _,.num,h=>absurd (Da h).1 (by decide +kernel)
 | .to _ _,.truth,h=>absurd (Da h).1 (by decide +kernel)
 | .to _ _,.any _,h=>absurd (Da h).1 (by decide +kernel)
 | .to x y,.to x' y',h=>by
  have h:=(Da h).2
  injection h with h1 h2
  injection h2 with h2 _
  rw [Nb x x' h1,Nb y y' h2]
theorem E9 {K:Oz}{H:Hp}{u v:V}{k k':Kd}{Q:VK}(hu:KdAt K H u k)(hv:KdAt K H v k')(d1:A0 k<=14)(d2:A0 k'<=14)(h:∀ b:Bool,(b=true↔k=k')->Q (.bl b) H):J7 K u v H Q:=by
 obtain ⟨a,rfl⟩:=hu.ref
 obtain ⟨c,rfl⟩:=hv.ref
 refine Zo0 (n:=15) (by decide) (hu.d.up (by omega)) (hv.d.up (by omega)) (Ka k) (Ka k') fun b hb=>h b ?_
 rw [hb]
 exact ⟨Nb _ _,fun e=>by rw [e]⟩
noncomputable def PrAt (K:Oz)(H:Hp)(v:V)(x:Str×Kd):Prop:=∃(e:Addr)(g:V),v=.ref e/\SqT K H e [.str x.1,g]/\KdAt K H g x.2
theorem PrAt.same {K:Oz}{H H':Hp}(s:SameT H H')(v:V)(x:Str×Kd)(h:PrAt K H v x):PrAt K H' v x:=let ⟨e,g,h1,h2,h3⟩:=h;⟨e,g,h1,s.tup h2,h3.same s⟩
structure EnvAt (K:Oz)(H:Hp)(p:Addr)(ar:List (Str×Kd)):Prop where
 e:∃ vs,H p=some (.lst vs)/\Al (PrAt K H) vs ar
 d:∀ x∈ar,A0 x.2<=14
 l:ar.length<=40
theorem EnvAt.bt {K:Oz}{H H':Hp}{p q:Addr}{ar:List (Str×Kd)}(h:EnvAt K H p ar)(s:Bt q H H')(t:SameT H H')(n:p≠q):EnvAt K H' p ar:=by
 obtain ⟨vs,e,al⟩:=h.e
 exact ⟨⟨vs,s _ _ n e,al.mono (PrAt.same t)⟩,h.d,h.l⟩
theorem EnvAt.same {K:Oz}{H H':Hp}{p:Addr}{ar:List (Str×Kd)}(h:EnvAt K H p ar)(s:Same H H'):EnvAt K H' p ar:=by
 obtain ⟨vs,e,al⟩:=h.e
 exact ⟨⟨vs,s _ _ e,al.mono (PrAt.same s.t)⟩,h.d,h.l⟩
noncomputable def DkS (K:Oz)(H:Hp)(kvs:List (Ap×V))(o:Str->Option Kd):Prop:=∀ s:Str,(o s=none/\Bl kvs (.inr s)=none)\/∃ k v,o s=some k/\Bl kvs (.inr s)=some v/\KdAt K H v k
theorem Zmp {kvs:List (Ap×V)}{ks:List Str}(h:kvs.map (·.1)=ks.map Sum.inr)(s:Str)(v:V):∃ ks':List Str,(Bb kvs (.inr s) v).map (·.1)=ks'.map Sum.inr/\ks'.length<=ks.length+1:=by
 unfold Bb
 by_cases c:(kvs.any fun kv=>decide (kv.1=Sum.inr s))=true
 ·rw [if_pos c]
  refine ⟨ks,?_,by omega⟩
  rw [<- h,Tj]
  refine List.map_congr_left fun kv _=>?_
  show (if kv.1=Sum.inr s then (kv.1,v) else kv).1=kv.1
  by_cases z:kv.1=Sum.inr s
  ·rw [if_pos z]
  ·rw [if_neg z]
 ·rw [if_neg c]
  exact ⟨ks++[s],by rw [P6,P6,h];rfl,by simp⟩
theorem Zpp {kvs:List (Ap×V)}{k:Ap}(h:k∈kvs.map (·.1)):Bl kvs k≠none:=by
 unfold Bl
 obtain ⟨kv,hk,rfl⟩:=Q8.mp h
 intro e
 rw [Option.map_eq_none_iff,List.find?_eq_none] at e
 exact e kv hk (decide_eq_true rfl)
theorem SameT.dk {H:Hp}{S:Addr}{kv:List (Ap×V)}{o2:HO}(h:H S=some (.dK kv)):SameT H (upd H S o2):=fun b =>
 ⟨fun xs e=>by rw [Ag (Ci e h (fun z=>by cases z))];exact e,fun o' u e=>by rw [Ag (Ci e h (fun z=>by cases z))];exact e⟩
theorem Zob {ar:List (Str×Kd)}{s:Str}{h:Kd}(e:C5 ar s=some h):∃ x∈ar,x.2=h:=by
 unfold C5 at e
 have key:∀(l:List (Str×Kd))(o:Option Kd),l.foldl (fun o p=>if p.1=s then some p.2 else o) o=some h->o=some h\/∃ x∈l,x.2=h:=by
  intro l
  induction l with
  | nil=>exact fun o e=>.inl e
  | cons p l ih =>
   intro o e
   rw [Vs] at e
   rcases ih _ e with z | ⟨x,hx,z⟩
   ·by_cases c:p.1=s
    ·rw [if_pos c] at z;exact .inr ⟨p,by simp,Pg z⟩
    ·rw [if_neg c] at z;exact .inl z
   ·exact .inr ⟨x,P4 _ hx,z⟩
 rcases key ar none e with z | z
 ·cases z
 ·exact z
inductive Ea:Kd->Prop where
 | num:Ea .num
 | truth:Ea .truth
 | to {x y:Kd} (hx:Ea x) (hy:Ea y):Ea (.to x y)
theorem Ze7:∀ k∈([.num,.truth,.to .num .num,.to .truth .num,.to .num .truth,.to (.to .num .num) .num,.to .num (.to .num .truth)]:List Kd),Ea k/\A0 k<=2:=by
 intro k hk
 simp only [O5,Pd,or_false] at hk
 rcases hk with rfl | rfl | rfl | rfl | rfl | rfl | rfl
 ·exact ⟨.num,by decide⟩
 ·exact ⟨.truth,by decide⟩
 ·exact ⟨.to .num .num,by decide⟩
 ·exact ⟨.to .truth .num,by decide⟩
 ·exact ⟨.to .num .truth,by decide⟩
 ·exact ⟨.to (.to .num .num) .num,by decide⟩
 ·exact ⟨.to .num (.to .num .truth),by decide⟩
noncomputable def Kb (w:Str)(k:Kd):Prop:=w = "call" \/ w = "let" \/ w = "if" \/ (k=.num/\(w = "plus" \/ w = "minus"))\/(k=.truth/\w = "less")\/∃ x y,k=.to x y/\(w = "fn" \/ w = "rec")
theorem Kc {w:Str}{n:Dt}{k:Kd}{ar:List (Str×Kd)}(hsh:Df w n)(hw:w∈(["gap", "odd", "num", "truth", "name"]:List Str))(lf:Fp w n k ar):Du (.mk w n []) ar k [k]:=.mk hsh lf (.nil hw) .nil
theorem Zn3 {n:Dt}{k:Kd}{ar:List (Str×Kd)}:Fp "gap" n k ar:=⟨⟨fun h=>absurd h (by decide +kernel),fun h=>absurd h (by decide +kernel),fun h=>absurd h (by decide +kernel)⟩,fun h=>absurd h (by decide +kernel),by decide +kernel⟩
theorem Zkq {n:Dt}{ar:List (Str×Kd)}:Fp "num" n .num ar:=⟨⟨fun _=>rfl,fun h=>absurd h (by decide +kernel),fun h=>absurd h (by decide +kernel)⟩,fun h=>absurd h (by decide +kernel),by decide +kernel⟩
theorem Zpr {n:Dt}{ar:List (Str×Kd)}:Fp "truth" n .truth ar:=⟨⟨fun h=>absurd h (by decide +kernel),fun _=>rfl,fun h=>absurd h (by decide +kernel)⟩,fun h=>absurd h (by decide +kernel),by decide +kernel⟩
theorem Zjq {t:Str}{k:Kd}{ar:List (Str×Kd)}(h:C5 ar t=some k):Fp "name" (.flat (.str t)) k ar:=⟨⟨fun h=>absurd h (by decide +kernel),fun h=>absurd h (by decide +kernel),fun _=>.inr h⟩,fun _=>h,by decide +kernel⟩
theorem Ku (w:Str)(n:Dt):(Tr.mk w n []).size=1:=by rw [Tr.size,Bs]
theorem Kx {K:Oz}{H:Hp}{p q:Addr}{w:Str}{v:V}(hv:Cz v=true)(h:H p=none)(h':upd H p (.tup []) q=none):Same H (upd (upd H p (.tup [])) q (.tup [.str w,v,.ref p]))/\TrAt K (upd (upd H p (.tup [])) q (.tup [.str w,v,.ref p])) (.ref q) (.mk w (.flat v) []):=by
 have s2:=Same.upd (o:=.tup [.str w,v,.ref p]) h'
 exact ⟨(Same.upd h).trans s2,.mk (SqT.of Ac) (.inl ⟨hv,rfl⟩) (SqT.of (s2 _ _ Ac)) rfl fun j v t f1 _=>by simp at f1⟩
theorem Zc9 (x y:Kd):A0 y<=A0 (.to x y):=by show _<=max _ _+1;omega
theorem big2:2000000<=sizeLine:=by decide
theorem Kq (ρ:Nat->Kd):∀ k:Kd,A0 k<=A0 (B7 ρ k)
 | .any n=>Pp _
 | .num=>O2 _
 | .truth=>O2 _
 | .to x y=>by
  have:=Kq ρ x
  have:=Kq ρ y
  show max _ _+1<=max _ _+1
  omega
noncomputable def DkN (K:Oz)(H:Hp)(kvs:List (Ap×V))(ρ:Nat->Kd):Prop:=∀(n:Nat)(v:V),Bl kvs (.inl ((n:Nat):Int))=some v->KdAt K H v (ρ n)
theorem DkN.same {K:Oz}{H H':Hp}{kvs:List (Ap×V)}{ρ:Nat->Kd}(h:DkN K H kvs ρ)(s:SameT H H'):DkN K H' kvs ρ:=fun n v e=>(h n v e).same s
structure Bd1 (d:Addr)(H H':Hp):Prop where
 b:Bt d H H'
 t:SameT H H'
theorem Bd1.trans {d:Addr}{H H1 H2:Hp}(s:Bd1 d H H1)(r:Bd1 d H1 H2):Bd1 d H H2:=⟨fun x o n e=>r.b x o n (s.b x o n e),s.t.trans r.t⟩
theorem Bd1.of {d:Addr}{H H':Hp}(s:Same H H'):Bd1 d H H':=⟨fun x o _ e=>s x o e,s.t⟩
theorem Bd1.put {d:Addr}{H:Hp}{kvs kvs':List (Ap×V)}(e:H d=some (.dK kvs)):Bd1 d H (upd H d (.dK kvs')):=⟨fun x o n h=>by rw [Ag n];exact h,SameT.dk e⟩
noncomputable def C1 (n:Nat):Nat:=max 1 (3 * n - 2)
noncomputable def D5 (mss:List (List Int)):Nat:=(mss.map fun m=>C1 m.length).sum
theorem Zoc (mss:List (List Int))(ms:List Int):D5 (mss++[ms])=D5 mss+C1 ms.length:=by simp [D5]
theorem Zoh {mss:List (List Int)}{n:Nat}(h:mss.length=1\/mss.length=2\/mss.length=3)(hn:1<=n)(ht:tot mss=n):D5 mss<=3 * n:=by
 unfold tot at ht
 unfold D5 C1
 match mss,h with
 | [a],_ =>
  simp at ht ⊢
  omega
 | [a,b],_ =>
  simp at ht ⊢
  omega
 | [a,b,c],_ =>
  simp at ht ⊢
  omega
theorem Zlf {ms:List Int}{mss:List (List Int)}(h:ms∈mss):ms.length<=tot mss:=by
 induction mss with
 | nil=>cases h
 | cons x r ih =>
  have e:tot (x::r)=x.length+tot r:=by simp [tot]
  rcases O5.mp h with rfl | h
  ·omega
  ·have:=ih h
   omega
theorem Zp7 (n:Nat):1<=C1 n:=by unfold C1;omega
theorem Zfb (pl:List Nat):∀(as bs:List Tr)(i:Nat),Bf pl i (as++bs)=Bf pl i as++Bf pl (i+as.length) bs
 | [],bs,i=>by rw [Bf];rfl
 | a::as,bs,i=>by
  rw [Re,Bf,Bf,Zfb pl as bs (i+1),P5,Pb]
  congr 3
  omega
theorem Lm:∀(ts:List Tr)(pl:List Nat)(i:Nat),(Bf pl i ts).length=Bs ts
 | [],pl,i=>by rw [Bf,Bs];rfl
 | t::ts,pl,i=>by rw [Bf,Bs,O7,Dr,Lm ts pl (i+1)]
mutual
theorem Zfd:∀(t:Tr)(ar:List (Str×Kd))(h:Kd)(ls:List Kd),Du t ar h ls->ls.length=t.size
 | .mk w n ts,ar,h,ls,G=>by
  cases G with
  | mk hsh lf ak hc=>rw [Pb,Tr.size,Za5 ts 0 _ _ _ _ _ _ hc];omega
theorem Za5:∀(ts:List Tr)(i:Nat)(w:Str)(n:Dt)(h:Kd)(ws:List Kd)(ar:List (Str×Kd))(ls:List Kd),Ep w n h ws ar i ts ls->ls.length=Bs ts
 | [],i,w,n,h,ws,ar,ls,G=>by cases G;rw [Bs];rfl
 | t::ts,i,w,n,h,ws,ar,ls,G=>by
  cases G with
  | cons hk ht hc=>rw [O7,Bs,Zfd t _ _ _ ht,Za5 ts _ _ _ _ _ _ _ hc]
end
theorem Zav {w:Str}{n:Dt}{h:Kd}{ws:List Kd}{ar:List (Str×Kd)}:∀(ts:List Tr)(lss:List (List Kd))(i:Nat),ts.length=lss.length->i+ts.length=ws.length->(∀(j:Nat)(t:Tr)(k:Kd)(l:List Kd),ts[j]?=some t->ws[i+j]?=some k->lss[j]?=some l->Du t (Dh w n h (i+j) ws ar) k l)->Ep w n h ws ar i ts lss.flatten
 | [],[],i,_,hl,_=>by
  have e:i=ws.length:=by simpa using hl
  rw [e]
  exact .nil
 | [],_::_,i,h1,_,_=>by cases h1
 | _::_,[],i,h1,_,_=>by cases h1
 | t::ts,l::lss,i,h1,hl,g=>by
  rw [Pb] at hl
  have hw:ws[i]?=some (ws[i]'(by omega)):=O1 (by omega)
  rw [Q3]
  refine .cons hw (g 0 t _ l rfl hw rfl) (Zav ts lss (i+1) (by simpa using h1) (by omega) fun j u k m hu hk hm=>?_)
  have e:i+(j+1)=i+1+j:=by omega
  have:=g (j+1) u k m (by simpa using hu) (by rw [e];exact hk) (by simpa using hm)
  rw [e] at this
  exact this
section
variable {P:Program}{w:World}{K:Oz}{mg:Str->Option Value}{base:Heap}
noncomputable def Zej (K:Oz):Sp:=fun vs H Q _=>∃(kv:V)(p:Addr)(k:Kd)(ar:List (Str×Kd)),vs=[kv,.ref p]/\KdAt K H kv k/\A0 k<=14/\EnvAt K H p ar/\∀(q:Addr)(ts:List Str)(H':Hp),Same H H'->H' q=some (.lst (ts.map V.str))->(∀ t∈ts,C5 ar t=some k)->ts.length<=40->Q (.ref q) H'
theorem Zin:(["_law_name", "_law_kind", "_law_sight"]:List Str).Nodup:=by decide +kernel
theorem sc_law_in_sight:Bo ["_law_kind", "_law_around", "_law_sight", "_law_name", "_law_one"] ["_law_kind", "_law_around"] (Bg Ir):=by walk_at "sc"
theorem Zo5 {f:Addr}{fd:FuncData}(F:Fun K "_law_in_sight" "_law_in_sight" Ir f fd)(T:Txt K mg):Bc P w K mg base Be 1 f fd ["_law_kind", "_law_around"] (Zej K):=by
 refine F.okq sc_law_in_sight (fun vs H Q E h=>?_) (fun cdv A outer s H vs Q E hr h=>?_)
 ·obtain ⟨kv,p,k,ar,rfl,_⟩:=h
  rfl
 ·obtain ⟨kv,p,k,ar,rfl,hk,hd,he,ret⟩:=h
  refine ⟨_,Af (G0 (i:=2) sc_law_in_sight.nd rfl (Or.inr rfl) (Ix))
   (Af (Co Pq rfl (C9 K (qv 1)) (Cr K (n:=2) rfl (Bm (A4 (i:=3) sc_law_in_sight.nd rfl (Or.inl rfl)) (Bm (A4 (i:=4) sc_law_in_sight.nd rfl (Or.inl rfl)) (Ct)))) (Ai (E8 hr.u1 (qv 2) (qv 3) (qv 4))))
   (Ai (Ar (Gc (N:=["_law_name", "_law_kind", "_law_sight"]) (σ0:=Dc 1 [0,2]) rfl (Er rfl (by decide +kernel) (by decide +kernel) (by decide +kernel)) (C9 K (Cs (Zfu K) (by rfl) T.sorted (by decide +kernel) (Aa (qv 2) Ab))) (Es rfl (by rfl)) (fun _ _ _ _=>A4 (i:=0) Zin rfl (Or.inl rfl)) (fun _ _ _ _=>Zad (Az (Dk K hr.u200) (Gn hr.u1 (qv 2) (qv 0) (fun _ _=>rfl)) (qv 1) (Ay _))) (fun _ _ _ _=>qv 0))))),?_⟩
  have bg:=big
  obtain ⟨vs,e0,al⟩:=he.e
  have hvl:=al.1
  have har:=he.l
  walk_at "r"
  refine fun pd hpd=>?_
  have s0:=Same.upd (o:=.dK []) hpd
  walk_at "r"
  refine .inl ⟨p,rfl,⟨_,SqL.of (s0 _ _ e0)⟩,?_⟩
  refine Ik (K:=K) (a:=p) (xs:=vs) (fun i σ' H'=>∃ v3 v4 kvs ks,σ'=[some kv,some (.ref p),some (.ref pd),v3,v4]/\H' pd=some (.dK kvs)/\DkS K H' kvs (C5 (ar.take i))/\kvs.map (·.1)=ks.map Sum.inr/\ks.length<=i/\Same H H') ⟨_,_,[],[],rfl,Ac,fun s=>.inl ⟨rfl,rfl⟩,rfl,O2 _,s0⟩ ?_ ?_ ?_
  ·rintro i σ' H' _ ⟨_,_,_,_,_,_,_,_,_,sm⟩
   exact SqL.of (sm _ _ e0)
  ·rintro i x σ' H1 hx ⟨v3,v4,kvs,ks,rfl,ed,dk,hks,hl,sm⟩
   obtain ⟨y,hy,e,g,rfl,qe,qg⟩:=al.get hx
   have hi:=(Pa.mp hx).1
   have hkl:kvs.length<=i:=by
    have:=congrArg Qt hks
    rw [O6,O6] at this
    omega
   walk_at "r"
   refine Cm (sm.tup qe) rfl ?_
   walk_at "r"
   have t2:=SameT.dk (o2:=.dK (Bb kvs (.inr y.1) g)) ed
   refine ⟨pd,_,rfl,DPut.k (k:=.inr y.1) ed (by omega),?_⟩
   obtain ⟨ks',hk1,hk2⟩:=Zmp hks y.1 g
   refine ⟨_,_,_,ks',rfl,Ac,fun s=>?_,hk1,by omega,sm.over hpd⟩
   have ea:ar.take (i+1)=ar.take i++[(y.1,y.2)]:=by rw [Qn,hy];rfl
   rw [ea,Zde,F0]
   by_cases c:y.1=s
   ·rw [if_pos c,if_pos (by rw [c])]
    exact .inr ⟨y.2,g,rfl,rfl,(qg.same sm.t).same t2⟩
   ·rw [if_neg c,if_neg (fun z=>c (Sum.inr.inj z).symm)]
    exact (dk s).imp id fun ⟨k,v,h1,h2,h3⟩=>⟨k,v,h1,h2,h3.same t2⟩
  ·rintro σ' H1 ⟨v3,v4,kvs,ks,rfl,ed,dk,hks,hl,sm⟩
   rw [Qw (by omega)] at dk
   have hkl:kvs.length=ks.length:=by
    have:=congrArg Qt hks
    rwa [O6,O6] at this
   walk_at "r"
   refine ⟨pd,kvs,ks,rfl,ed,hks,by omega,fun ts l hp hl1=>?_⟩
   have s2:=Same.upd (o:=.lst (ts.map V.str)) hl1
   have e2:upd H1 l (.lst (ts.map V.str)) l=some (.lst (ts.map V.str)):=Ac
   revert s2 e2
   generalize upd H1 l (.lst (ts.map V.str))=H2
   intro s2 e2
   have htl:ts.length<=40:=by rw [hp.length_eq];omega
   refine .inl ⟨l,rfl,⟨_,SqL.of e2⟩,fun D hD=>?_⟩
   refine G6 (K:=K) (a:=l) (xs:=ts.map V.str) (Pv:=fun i ys σ' H'=>∃ x0 us,σ'=[x0,some kv,some (.ref pd)]/\ys=us.map V.str/\us.length<=i/\(∀ t∈us,C5 ar t=some k)/\Same H2 H') ⟨none,[],rfl,rfl,O2 _,(fun t h=>nomatch h),Same.upd hD⟩ ?_ ?_ ?_
   ·rintro i ys σ' H' _ ⟨_,_,_,_,_,_,sm⟩
    exact SqL.of (sm _ _ e2)
   ·rintro i x ys σ' H' hx hys ⟨x0,us,rfl,rfl,hul,hus,sm3⟩
    rw [Po] at hx
    obtain ⟨t,ht,rfl⟩:=U3.mp hx
    have hi:=(Pa.mp ht).1
    have htk:t∈ks:=hp.mem_iff.mp (Qb ht)
    have s13:=s2.trans sm3
    walk_at "r"
    rcases dk t with ⟨_,z⟩ | ⟨k',v',h1,h2,h3⟩
    ·exact absurd z (Zpp (by rw [hks];exact List.mem_map_of_mem htk))
    have hkd:A0 k'<=14:=by
     obtain ⟨x,hx1,hx2⟩:∃ x∈ar,x.2=k':=Zob h1
     rw [<- hx2]
     exact he.d x hx1
    refine ⟨pd,v',rfl,by rw [<- h2];exact DGet.k (k:=.inr t) (s13 _ _ ed),?_⟩
    walk_at "r"
    refine E9 (h3.same s13.t) ((hk.same sm.t).same s13.t) hkd hd fun b hb=>?_
    walk_at "r"
    cases b with
    | true =>
     refine iteT ?_
     walk_at "r"
     refine ⟨us.map V.str,hys,by rw [O6];omega,_,Ac,_,us++[t],rfl,by rw [P6];rfl,by simp;omega,?_,sm3.over hD⟩
     intro u hu
     rcases Pm.mp hu with hu | hu
     ·exact hus u hu
     ·rw [Pi.mp hu,h1,hb.mp rfl]
    | false =>
     refine iteF ?_
     exact ⟨us.map V.str,hys,_,us,rfl,rfl,by omega,hus,sm3⟩
   rintro ys σ' H3 hys ⟨x0,us,rfl,rfl,hul,hus,sm3⟩
   rw [O6] at hul
   exact ret D us _ (sm.trans (s2.trans sm3)) hys hus (by omega)
noncomputable def Mg (K:Oz):Sp:=fun vs H Q _=>∃(z:Int)(kv:V)(p:Addr)(k:Kd)(ar:List (Str×Kd)),vs=[.int z,kv,.ref p]/\KdAt K H kv k/\A0 k<=14/\EnvAt K H p ar/\∀(v:V)(t:Tr)(H':Hp),Same H H'->TrAt K H' v t->Du t ar k [k]->t.size=1->Q v H'
theorem Zba:Bo ["_law_cell", "_law_kind", "_law_around", "_law_some"] ["_law_cell", "_law_kind", "_law_around"] (Bg Ie):=by walk_at "sc"
theorem Zgi {f:Addr}{fd:FuncData}(F:Fun K "_law_leaf" "_law_leaf" Ie f fd)(T:Txt K mg)(C__law_in_sight:A9 P w K mg base 1 "_law_in_sight" ["_law_kind", "_law_around"] (Zej K)):Bc P w K mg base Be 2 f fd ["_law_cell", "_law_kind", "_law_around"] (Mg K):=by
 refine F.okq Zba (fun vs H Q E h=>?_) (fun cdv A outer s H vs Q E hr h=>?_)
 ·obtain ⟨z,kv,p,k,ar,rfl,_⟩:=h
  rfl
 ·obtain ⟨z,kv,p,k,ar,rfl,hk,hd,he,ret⟩:=h
  refine ⟨_,Af (Av 3 Zba (Ba C__law_in_sight hr.m (Aa (qv 1) (Aa (qv 2) Ab))))
   (Af (A7 (QW.qt (F6 (Az Kk (Cs (Dl K) (by rfl) T.len (by decide +kernel) (Aa (qv 3) Ab)) Ah (Ay _)) (F2 (Az Jd (A6 Cb (qv 0) Ah) Ah (Ay _))))) (Ai (Ar (Ao (Aa Aq (Aa (Am K (qv 3) (A6 Cb (A6 Ej (qv 0) Ah) (Cs (Dl K) (by rfl) T.len (by decide +kernel) (Aa (qv 3) Ab)))) (Aa (Ao Ab) Ab)))))) A8)
   (Af (A7 (QW.qt (F6 (Az (Dk K hr.u200) (qv 1) (Ao (Aa Aq Ab)) (Ay _)) (F2 (Az Kk (A6 Cb (qv 0) Ah) Ah (Ay _))))) (Ai (Ar (Ao (Aa Aq (Aa (A6 Cb (A6 Ej (qv 0) Ah) (A6 Zjs Ah Ah)) (Aa (Ao Ab) Ab)))))) A8)
   (Af (A7 (QW.qt (F6 (Az (Dk K hr.u200) (qv 1) (Ao (Aa Aq Ab)) (Ay _)) (F2 (Az Kk (A6 Cb (qv 0) Ah) Ah (Ay _))))) (Ai (Ar (Ao (Aa Aq (Aa (Jo (Dk K hr.u200) (A6 Cb (A6 Ej (qv 0) Ah) Ah) Ah (Ay _)) (Aa (Ao Ab) Ab)))))) A8)
   (Ai (Ar (Ao (Aa Aq (Aa Fo (Aa (Ao Ab) Ab))))))))),?_⟩
  have bg:=big
  have shN:∀{n:Dt},Df "gap" n:=Fn (by decide +kernel) (by decide +kernel) (by decide +kernel) (by decide +kernel)
  walk_at "r"
  refine ⟨kv,p,k,ar,rfl,hk,hd,he,fun q ts H1 s1 e1 hts hl=>?_⟩
  have hk1:=hk.same s1.t
  have rest:∀ H1:Hp,Same H H1->∀(pe pg:Addr),H1 pe=none->upd H1 pe (.tup []) pg=none->Q (.ref pg) (upd (upd H1 pe (.tup [])) pg (.tup [.str "gap",.non,.ref pe])):=fun H1 s1 pe pg h1 h2=>by
   obtain ⟨a1,a2⟩:=Kx (K:=K) (w := "gap") (v:=.non) rfl h1 h2
   exact ret _ _ _ (s1.trans a1) a2 (Kc shN (by simp) Zn3) (Ku _ _)
  iterate 2 walk_at "r1"
  refine Ip (t:=G3 _ _ _) (R:=fun σ' H'=>H'=H1/\σ'=[some (.int z),some kv,some (.ref p),some (.ref q)]) ?_ ?_
  ·intro Y hY
   walk_at "r"
   refine Dx (SqL.of e1) ?_
   walk_at "r"
   refine Bv (fun c1=>?_) (fun c1=>?_)
   ·have c1:=of_decide_eq_true c1
    walk_at "r"
    refine Bv (fun c2=>?_) (fun c2=>?_)
    ·walk_at "r"
     refine Dx (SqL.of e1) ?_
     walk_at "r"
     refine s_rI c1 ?_
     obtain ⟨v,hv,m⟩:=E5 (xs:=ts.map V.str) (i:=z / 4 % ((ts.map V.str).length:Int)) (Rf _ (by omega)) (Rp _ c1)
     obtain ⟨t,ht,rfl⟩:=Q8.mp m
     walk_at "r"
     refine Bj (SqL.of e1) hv ?_
     walk_at "r"
     refine ⟨Br,fun pe he1=>?_⟩
     walk_at "r"
     refine ⟨Bp,fun pg hg1=>?_⟩
     obtain ⟨a1,a2⟩:=Kx (K:=K) (w := "name") (v:=.str t) rfl he1 hg1
     exact ret _ _ _ (s1.trans a1) a2 (Kc ⟨fun _=>⟨t,rfl⟩,fun h=>absurd h (by decide +kernel)⟩ (by simp) (Zjq (hts t ht))) (Ku _ _)
    ·walk_at "r"
     exact hY _ _ ⟨rfl,rfl⟩
   ·walk_at "r"
    exact hY _ _ ⟨rfl,rfl⟩
  rintro _ HX ⟨eX,rfl⟩
  rw [eX]
  clear eX
  iterate 1 walk_at "r1"
  refine Ip (t:=G3 _ _ _) (R:=fun σ' H'=>Same H1 H'/\σ'=[some (.int z),some kv,some (.ref p),some (.ref q)]) ?_ ?_
  ·intro Y hY
   walk_at "r"
   refine ⟨Bx,fun p2 h2=>?_⟩
   have s2:=Same.upd (o:=.tup [.str "num"]) h2
   refine E9 (hk1.same s2.t) (.num (SqT.of Ac)) hd (by decide) fun b hb=>?_
   walk_at "r"
   cases b with
   | false =>
    walk_at "r"
    exact hY _ _ ⟨s2,rfl⟩
   | true =>
    have ek:=hb.mp rfl
    subst ek
    walk_at "r"
    refine Bv (fun c2=>?_) (fun c2=>?_)
    ·walk_at "r"
     generalize z / 5 % 10 ^ Int.toNat 18=zz
     refine ⟨Br,fun pe he1=>?_⟩
     walk_at "r"
     refine ⟨Bp,fun pg hg1=>?_⟩
     obtain ⟨a1,a2⟩:=Kx (K:=K) (w := "num") (v:=.int zz) rfl he1 hg1
     exact ret _ _ _ (s1.trans (s2.trans a1)) a2 (Kc (Fn (by decide +kernel) (by decide +kernel) (by decide +kernel) (by decide +kernel)) (by simp) Zkq) (Ku _ _)
    ·walk_at "r"
     exact hY _ _ ⟨s2,rfl⟩
  rintro _ H2 ⟨s2,rfl⟩
  have hk2:=hk1.same s2.t
  iterate 1 walk_at "r1"
  refine Ip (t:=G3 _ _ _) (R:=fun σ' H'=>Same H1 H'/\σ'=[some (.int z),some kv,some (.ref p),some (.ref q)]) ?_ ?_
  ·intro Y hY
   walk_at "r"
   refine ⟨Bx,fun p3 h3=>?_⟩
   have s3:=Same.upd (o:=.tup [.str "truth"]) h3
   refine E9 (hk2.same s3.t) (.truth (SqT.of Ac)) hd (by decide) fun b hb=>?_
   walk_at "r"
   cases b with
   | false =>
    walk_at "r"
    exact hY _ _ ⟨s2.trans s3,rfl⟩
   | true =>
    have ek:=hb.mp rfl
    subst ek
    walk_at "r"
    refine Bv (fun c2=>?_) (fun c2=>?_)
    ·walk_at "r"
     refine ⟨Br,fun pe he1=>?_⟩
     walk_at "r"
     refine ⟨Bp,fun pg hg1=>?_⟩
     obtain ⟨a1,a2⟩:=Kx (K:=K) (w := "truth") (v:=.bl (decide (V.int (z / 5 % 2)=V.int 1))) rfl he1 hg1
     exact ret _ _ _ (s1.trans (s2.trans (s3.trans a1))) a2 (Kc (Fn (by decide +kernel) (by decide +kernel) (by decide +kernel) (by decide +kernel)) (by simp) Zpr) (Ku _ _)
    ·walk_at "r"
     exact hY _ _ ⟨s2.trans s3,rfl⟩
  rintro _ H3 ⟨s3,rfl⟩
  walk_at "r"
  refine ⟨Br,fun pe he1=>?_⟩
  walk_at "r"
  refine ⟨Bp,fun pg hg1=>?_⟩
  exact rest _ (s1.trans s3) pe pg he1 hg1
noncomputable def Zae (K:Oz):Sp:=fun vs H Q _=>∃(z:Int)(kv:V)(k:Kd),vs=[.int z,kv]/\KdAt K H kv k/\Ea k/\A0 k<=14/\∀(w:Str)(H':Hp),Same H H'->Kb w k->Q (.str w) H'
theorem Zjl {ws:List Str}{n:Nat}(z:Int)(hn:ws.length=n)(h0:0 < n):∃ w∈ws,B2 (ws.map V.str) (z % (n:Int))=some (.str w):=by
 obtain ⟨v,hv,m⟩:=E5 (xs:=ws.map V.str) (i:=z % (n:Int)) (Rf _ (by omega)) (by rw [O6,hn];exact Rp _ (by omega))
 obtain ⟨w,hw,rfl⟩:=Q8.mp m
 exact ⟨w,hw,hv⟩
theorem Zgd:Bo ["_law_cell", "_law_kind"] ["_law_cell", "_law_kind"] (Bg He):=by walk_at "sc"
theorem Zjx {f:Addr}{fd:FuncData}(F:Fun K "_law_word" "_law_word" He f fd)(T:Txt K mg):Bc P w K mg base Be 1 f fd ["_law_cell", "_law_kind"] (Zae K):=by
 refine F.okq Zgd (fun vs H Q E h=>?_) (fun cdv A outer s H vs Q E hr h=>?_)
 ·obtain ⟨z,kv,k,rfl,_⟩:=h
  rfl
 ·obtain ⟨z,kv,k,rfl,hk,hg,hd,ret⟩:=h
  refine ⟨_,Af (A7 (Az (Dk K hr.u200) (Am K (qv 1) Ah) Aq (Ay _)) (Ai (Ar (Am K (Ax (Js (xs:=[.str "fn",.str "fn",.str "rec",.str "fn",.str "let",.str "call",.str "if",.str "fn"]) rfl)) (A6 Cb (qv 0) Ah)))) A8)
   (Af (A7 (Az Jd (A6 Cb (qv 0) Ah) Ah (Ay _)) (Ai (Ar (Am K (Ax (Js (xs:=[.str "call",.str "let",.str "call",.str "if"]) rfl)) (A6 Cb (qv 0) Ah)))) A8)
   (Af (A7 (Az (Dk K hr.u200) (qv 1) (Ao (Aa Aq Ab)) (Ay _)) (Ai (Ar (Am K (Ax (Aa Aq (Aa Aq Ab))) (A6 Cb (qv 0) Ah)))) A8)
   (Ai (Ar Aq)))),?_⟩
  have bg:=big
  have lists:∀(ws:List Str)(n:Nat)(H1:Hp)(p:Addr),Same H H1->H1 p=none->ws.length=n->0 < n->(∀ w∈ws,Kb w k)->Fk K (.ref p) (.int (z % (n:Int))) (upd H1 p (.lst (ws.map V.str))) Q:=fun ws n H1 p s1 hp hn h0 hw=>by
   obtain ⟨w,hm,hv⟩:=Zjl (ws:=ws) z hn h0
   refine Bj (SqL.of Ac) hv ?_
   exact ret w _ (s1.trans (Same.upd hp)) (hw w hm)
  have lists4:∀(p:Addr),H p=none->z % 8 < 4->(∀ w∈(["call", "let", "call", "if"]:List Str),Kb w k)->Fk K (.ref p) (.int (z % 8)) (upd H p (.lst ((["call", "let", "call", "if"]:List Str).map V.str))) Q:=fun p hp hc hw=>by
   obtain ⟨v,hv,m⟩:=E5 (xs:=(["call", "let", "call", "if"]:List Str).map V.str) (i:=z % 8) (Rf _ (by decide)) hc
   obtain ⟨w,hm,rfl⟩:=Q8.mp m
   refine Bj (SqL.of Ac) hv ?_
   exact ret w _ (Same.upd hp) (hw w hm)
  have end2:∀(b:Bool)(H1:Hp),Same H H1->True:=fun _ _ _=>trivial
  cases hk with
  | @to a u v x y qk hx hy =>
   walk_at "r"
   refine Au qk (v:=.str "to") rfl ?_
   walk_at "r"
   rw [decide_eq_true (show V.str "to" = V.str "to" from rfl)]
   walk_at "r"
   refine ⟨sz8,fun p hp=>?_⟩
   walk_at "r"
   refine lists ["fn", "fn", "rec", "fn", "let", "call", "if", "fn"] 8 H p (Same.refl _) hp rfl (by decide) fun w hw=>?_
   simp only [O5,Pd,or_false] at hw
   rcases hw with rfl | rfl | rfl | rfl | rfl | rfl | rfl | rfl
   ·exact .inr (.inr (.inr (.inr (.inr ⟨x,y,rfl,.inl rfl⟩))))
   ·exact .inr (.inr (.inr (.inr (.inr ⟨x,y,rfl,.inl rfl⟩))))
   ·exact .inr (.inr (.inr (.inr (.inr ⟨x,y,rfl,.inr rfl⟩))))
   ·exact .inr (.inr (.inr (.inr (.inr ⟨x,y,rfl,.inl rfl⟩))))
   ·exact .inr (.inl rfl)
   ·exact .inl rfl
   ·exact .inr (.inr (.inl rfl))
   ·exact .inr (.inr (.inr (.inr (.inr ⟨x,y,rfl,.inl rfl⟩))))
  | any _=>cases hg
  | @num a qk =>
   walk_at "r"
   refine Au qk (v:=.str "num") rfl ?_
   walk_at "r"
   rw [decide_eq_false (show ¬ V.str "num" = V.str "to" from fun z=>absurd (V.str.inj z) (by decide +kernel))]
   walk_at "r"
   refine Bv (fun c=>?_) (fun c=>?_)
   ·walk_at "r"
    refine ⟨sz4,fun p hp=>?_⟩
    walk_at "r"
    have hc:=of_decide_eq_true c
    refine lists4 p hp hc fun w hw=>?_
    simp only [O5,Pd,or_false] at hw
    rcases hw with rfl | rfl | rfl | rfl
    ·exact .inl rfl
    ·exact .inr (.inl rfl)
    ·exact .inl rfl
    ·exact .inr (.inr (.inl rfl))
   ·walk_at "r"
    refine ⟨Bx,fun p2 h2=>?_⟩
    have s2:=Same.upd (o:=.tup [.str "num"]) h2
    refine E9 (KdAt.num (s2.tup qk)) (.num (SqT.of Ac)) hd (by decide) fun b hb=>?_
    have eb:b=true:=hb.mpr rfl
    subst eb
    walk_at "r"
    refine ⟨A5,fun p hp=>?_⟩
    walk_at "r"
    refine lists ["plus", "minus"] 2 _ p s2 hp rfl (by decide) fun w hw=>?_
    simp only [O5,Pd,or_false] at hw
    rcases hw with rfl | rfl
    ·exact .inr (.inr (.inr (.inl ⟨rfl,.inl rfl⟩)))
    ·exact .inr (.inr (.inr (.inl ⟨rfl,.inr rfl⟩)))
  | @truth a qk =>
   walk_at "r"
   refine Au qk (v:=.str "truth") rfl ?_
   walk_at "r"
   rw [decide_eq_false (show ¬ V.str "truth" = V.str "to" from fun z=>absurd (V.str.inj z) (by decide +kernel))]
   walk_at "r"
   refine Bv (fun c=>?_) (fun c=>?_)
   ·walk_at "r"
    refine ⟨sz4,fun p hp=>?_⟩
    walk_at "r"
    have hc:=of_decide_eq_true c
    refine lists4 p hp hc fun w hw=>?_
    simp only [O5,Pd,or_false] at hw
    rcases hw with rfl | rfl | rfl | rfl
    ·exact .inl rfl
    ·exact .inr (.inl rfl)
    ·exact .inl rfl
    ·exact .inr (.inr (.inl rfl))
   ·walk_at "r"
    refine ⟨Bx,fun p2 h2=>?_⟩
    have s2:=Same.upd (o:=.tup [.str "num"]) h2
    refine E9 (KdAt.truth (s2.tup qk)) (.num (SqT.of Ac)) hd (by decide) fun b hb=>?_
    have eb:b=false:=by
     cases b with
     | false=>rfl
     | true=>cases hb.mp rfl
    subst eb
    walk_at "r"
    exact ret _ _ s2 (.inr (.inr (.inr (.inr (.inl ⟨rfl,rfl⟩)))))
noncomputable def KS:List Kd:=[.num,.truth,.to .num .num,.to .truth .num,.to .num .truth,.to (.to .num .num) .num,.to .num (.to .num .truth)]
theorem Ds {α:Type}{R:V->α->Prop}{v:V}{x:α}{vs:List V}{xs:List α}(h:R v x)(h':Al R vs xs):Al R (v::vs) (x::xs):=by
 refine ⟨by rw [Pb,Pb,h'.1],fun j u y hu hy=>?_⟩
 cases j with
 | zero=>cases hu;cases hy;exact h
 | succ j=>exact h'.2 j u y (by simpa using hu) (by simpa using hy)
noncomputable def Nc (K:Oz):Sp:=fun vs H Q _=>∃ z:Int,vs=[.int z]/\∀(v:V)(k:Kd)(H':Hp),Same H H'->KdAt K H' v k->k∈KS->Q v H'
theorem Hu:Bo ["_law_cell", "_law_num", "_law_truth", "_law_kinds"] ["_law_cell"] (Bg Hi):=by walk_at "sc"
theorem Zj7 {f:Addr}{fd:FuncData}(F:Fun K "_law_kind_by" "_law_kind_by" Hi f fd)(T:Txt K mg):Bc P w K mg base Be 1 f fd ["_law_cell"] (Nc K):=by
 refine F.okq Hu (fun vs H Q E h=>?_) (fun cdv A outer s H vs Q E hr h=>?_)
 ·obtain ⟨z,rfl,_⟩:=h
  rfl
 ·obtain ⟨z,rfl,q⟩:=h
  refine ⟨_,Af (Av 1 Hu (Ao (Aa Aq Ab)))
   (Af (Av 2 Hu (Ao (Aa Aq Ab)))
   (Af (Av 3 Hu (Ax (Aa (qv 1) (Aa (qv 2) (Aa (Ao (Aa Aq (Aa (qv 1) (Aa (qv 1) Ab)))) (Aa (Ao (Aa Aq (Aa (qv 2) (Aa (qv 1) Ab)))) (Aa (Ao (Aa Aq (Aa (qv 1) (Aa (qv 2) Ab)))) Ab)))))))
   (Af (Av 3 Hu (A6 (Ei K) (qv 3) (Ax (Aa (Ao (Aa Aq (Aa (Ao (Aa Aq (Aa (qv 1) (Aa (qv 1) Ab)))) (Aa (qv 1) Ab)))) (Aa (Ao (Aa Aq (Aa (qv 1) (Aa (Ao (Aa Aq (Aa (qv 1) (Aa (qv 2) Ab)))) Ab)))) Ab)))))
   (Ai (Ar (Am K (qv 3) (A6 Cb (qv 0) Ah))))))),?_⟩
  have bg:=big
  walk_at "r"
  rw [show L2.start ["_law_cell", "_law_num", "_law_truth", "_law_kinds"] [.int z]=([some (.int z),none,none,none]:List (Option V)) from rfl]
  refine ⟨Bx,fun a1 h1=>?_⟩
  have s1:=Same.upd (o:=.tup [.str "num"]) h1
  have e1:upd H a1 (.tup [.str "num"]) a1=some (.tup [.str "num"]):=Ac
  revert s1 e1
  generalize upd H a1 (.tup [.str "num"])=H1
  intro s1 e1
  clear h1
  have S1:=(Same.refl H).trans s1
  walk_at "r"
  rw [show List.set ([some (.int z),none,none,none]:List (Option V)) 1 (some (.ref a1))=([some (.int z),some (.ref a1),none,none]:List (Option V)) from rfl]
  refine ⟨Bx,fun a2 h2=>?_⟩
  have s2:=Same.upd (o:=.tup [.str "truth"]) h2
  have e2:upd H1 a2 (.tup [.str "truth"]) a2=some (.tup [.str "truth"]):=Ac
  revert s2 e2
  generalize upd H1 a2 (.tup [.str "truth"])=H2
  intro s2 e2
  clear h2
  have S2:=S1.trans s2
  walk_at "r"
  rw [show List.set ([some (.int z),some (.ref a1),none,none]:List (Option V)) 2 (some (.ref a2))=([some (.int z),some (.ref a1),some (.ref a2),none]:List (Option V)) from rfl]
  refine ⟨Bp,fun a3 h3=>?_⟩
  have s3:=Same.upd (o:=.tup [.str "to",.ref a1,.ref a1]) h3
  have e3:upd H2 a3 (.tup [.str "to",.ref a1,.ref a1]) a3=some (.tup [.str "to",.ref a1,.ref a1]):=Ac
  revert s3 e3
  generalize upd H2 a3 (.tup [.str "to",.ref a1,.ref a1])=H3
  intro s3 e3
  clear h3
  have S3:=S2.trans s3
  walk_at "r"
  refine ⟨Bp,fun a4 h4=>?_⟩
  have s4:=Same.upd (o:=.tup [.str "to",.ref a2,.ref a1]) h4
  have e4:upd H3 a4 (.tup [.str "to",.ref a2,.ref a1]) a4=some (.tup [.str "to",.ref a2,.ref a1]):=Ac
  revert s4 e4
  generalize upd H3 a4 (.tup [.str "to",.ref a2,.ref a1])=H4
  intro s4 e4
  clear h4
  have S4:=S3.trans s4
  walk_at "r"
  refine ⟨Bp,fun a5 h5=>?_⟩
  have s5:=Same.upd (o:=.tup [.str "to",.ref a1,.ref a2]) h5
  have e5:upd H4 a5 (.tup [.str "to",.ref a1,.ref a2]) a5=some (.tup [.str "to",.ref a1,.ref a2]):=Ac
  revert s5 e5
  generalize upd H4 a5 (.tup [.str "to",.ref a1,.ref a2])=H5
  intro s5 e5
  clear h5
  have S5:=S4.trans s5
  walk_at "r"
  refine ⟨sz5,fun a6 h6=>?_⟩
  have s6:=Same.upd (o:=.lst [.ref a1,.ref a2,.ref a3,.ref a4,.ref a5]) h6
  have e6:upd H5 a6 (.lst [.ref a1,.ref a2,.ref a3,.ref a4,.ref a5]) a6=some (.lst [.ref a1,.ref a2,.ref a3,.ref a4,.ref a5]):=Ac
  revert s6 e6
  generalize upd H5 a6 (.lst [.ref a1,.ref a2,.ref a3,.ref a4,.ref a5])=H6
  intro s6 e6
  clear h6
  have S6:=S5.trans s6
  walk_at "r"
  rw [show List.set ([some (.int z),some (.ref a1),some (.ref a2),none]:List (Option V)) 3 (some (.ref a6))=([some (.int z),some (.ref a1),some (.ref a2),some (.ref a6)]:List (Option V)) from rfl]
  refine ⟨Bp,fun a7 h7=>?_⟩
  have s7:=Same.upd (o:=.tup [.str "to",.ref a1,.ref a1]) h7
  have e7:upd H6 a7 (.tup [.str "to",.ref a1,.ref a1]) a7=some (.tup [.str "to",.ref a1,.ref a1]):=Ac
  revert s7 e7
  generalize upd H6 a7 (.tup [.str "to",.ref a1,.ref a1])=H7
  intro s7 e7
  clear h7
  have S7:=S6.trans s7
  walk_at "r"
  refine ⟨Bp,fun a8 h8=>?_⟩
  have s8:=Same.upd (o:=.tup [.str "to",.ref a7,.ref a1]) h8
  have e8:upd H7 a8 (.tup [.str "to",.ref a7,.ref a1]) a8=some (.tup [.str "to",.ref a7,.ref a1]):=Ac
  revert s8 e8
  generalize upd H7 a8 (.tup [.str "to",.ref a7,.ref a1])=H8
  intro s8 e8
  clear h8
  have S8:=S7.trans s8
  walk_at "r"
  refine ⟨Bp,fun a9 h9=>?_⟩
  have s9:=Same.upd (o:=.tup [.str "to",.ref a1,.ref a2]) h9
  have e9:upd H8 a9 (.tup [.str "to",.ref a1,.ref a2]) a9=some (.tup [.str "to",.ref a1,.ref a2]):=Ac
  revert s9 e9
  generalize upd H8 a9 (.tup [.str "to",.ref a1,.ref a2])=H9
  intro s9 e9
  clear h9
  have S9:=S8.trans s9
  walk_at "r"
  refine ⟨Bp,fun a10 h10=>?_⟩
  have s10:=Same.upd (o:=.tup [.str "to",.ref a1,.ref a9]) h10
  have e10:upd H9 a10 (.tup [.str "to",.ref a1,.ref a9]) a10=some (.tup [.str "to",.ref a1,.ref a9]):=Ac
  revert s10 e10
  generalize upd H9 a10 (.tup [.str "to",.ref a1,.ref a9])=H10
  intro s10 e10
  clear h10
  have S10:=S9.trans s10
  walk_at "r"
  refine ⟨A5,fun a11 h11=>?_⟩
  have s11:=Same.upd (o:=.lst [.ref a8,.ref a10]) h11
  have e11:upd H10 a11 (.lst [.ref a8,.ref a10]) a11=some (.lst [.ref a8,.ref a10]):=Ac
  revert s11 e11
  generalize upd H10 a11 (.lst [.ref a8,.ref a10])=H11
  intro s11 e11
  clear h11
  have S11:=S10.trans s11
  have u6:Same H6 H11:=((((s7.trans s8).trans s9).trans s10).trans s11)
  have u11:Same H11 H11:=Same.refl _
  walk_at "r"
  refine Kj (u6 _ _ e6) (u11 _ _ e11) sz7 fun a12 h12=>?_
  clear u6 u11
  have s12:=Same.upd (o:=.lst ([.ref a1,.ref a2,.ref a3,.ref a4,.ref a5]++[.ref a8,.ref a10])) h12
  have e12:upd H11 a12 (.lst ([.ref a1,.ref a2,.ref a3,.ref a4,.ref a5]++[.ref a8,.ref a10])) a12=some (.lst ([.ref a1,.ref a2,.ref a3,.ref a4,.ref a5]++[.ref a8,.ref a10])):=Ac
  revert s12 e12
  generalize upd H11 a12 (.lst ([.ref a1,.ref a2,.ref a3,.ref a4,.ref a5]++[.ref a8,.ref a10]))=H12
  intro s12 e12
  clear h12
  have S12:=S11.trans s12
  have e12:H12 a12=some (.lst [.ref a1,.ref a2,.ref a3,.ref a4,.ref a5,.ref a8,.ref a10]):=e12
  walk_at "r"
  have t12:=Same.refl H12
  have t11:=s12.trans t12
  have t10:=s11.trans t11
  have t9:=s10.trans t10
  have t8:=s9.trans t9
  have t7:=s8.trans t8
  have t6:=s7.trans t7
  have t5:=s6.trans t6
  have t4:=s5.trans t5
  have t3:=s4.trans t4
  have t2:=s3.trans t3
  have t1:=s2.trans t2
  have al:Al (KdAt K H12) [.ref a1,.ref a2,.ref a3,.ref a4,.ref a5,.ref a8,.ref a10] KS:=(Ds (.num (SqT.of (t1 _ _ e1))) (Ds (.truth (SqT.of (t2 _ _ e2))) (Ds (.to (SqT.of (t3 _ _ e3)) (.num (SqT.of (t1 _ _ e1))) (.num (SqT.of (t1 _ _ e1)))) (Ds (.to (SqT.of (t4 _ _ e4)) (.truth (SqT.of (t2 _ _ e2))) (.num (SqT.of (t1 _ _ e1)))) (Ds (.to (SqT.of (t5 _ _ e5)) (.num (SqT.of (t1 _ _ e1))) (.truth (SqT.of (t2 _ _ e2)))) (Ds (.to (SqT.of (t8 _ _ e8)) (.to (SqT.of (t7 _ _ e7)) (.num (SqT.of (t1 _ _ e1))) (.num (SqT.of (t1 _ _ e1)))) (.num (SqT.of (t1 _ _ e1)))) (Ds (.to (SqT.of (t10 _ _ e10)) (.num (SqT.of (t1 _ _ e1))) (.to (SqT.of (t9 _ _ e9)) (.num (SqT.of (t1 _ _ e1))) (.truth (SqT.of (t2 _ _ e2))))) .nil)))))))
  obtain ⟨v,hv,m⟩:=E5 (xs:=([.ref a1,.ref a2,.ref a3,.ref a4,.ref a5,.ref a8,.ref a10]:List V)) (i:=z % 7) (Rf _ (by decide)) (Rp _ (by decide))
  obtain ⟨j,hj⟩:=List.getElem?_of_mem m
  obtain ⟨k,hk,hkd⟩:=al.get hj
  refine Bj (SqL.of e12) hv ?_
  exact q v k _ S12 hkd (Qb hk)
noncomputable def WiAt (K:Oz)(H0:Hp)(pa:Addr)(H:Hp)(v:V)(x:Kd×List (Str×Kd)):Prop:=∃(e:Addr)(g:V)(a:Addr),v=.ref e/\SqT K H e [g,.ref a]/\KdAt K H g x.1/\EnvAt K H a x.2/\(a=pa\/H0 a=none)
noncomputable def Mq (K:Oz):Sp:=fun vs H Q _=>∃(w:Str)(z:Int)(kv:V)(nm ot:Str)(pa:Addr)(k:Kd)(ar:List (Str×Kd)),vs=[.str w,.int z,kv,.str nm,.str ot,.ref pa]/\KdAt K H kv k/\Ea k/\A0 k<=12/\EnvAt K H pa ar/\ar.length<=30/\Kb w k /\
 ∀(r l:Addr)(nv:V)(n:Dt)(ws:List Kd)(pv:List V)(H':Hp),Same H H'->SqT K H' r [nv,.ref l]->H' l=some (.lst pv)->IsN K H' nv n->Df w n->Fp w n k ar->Ek w k ws->pv.length=ws.length->(∀(j:Nat)(v:V)(kk:Kd),pv[j]?=some v->ws[j]?=some kk->WiAt K H pa H' v (kk,Dh w n k j ws ar))->(∀ x∈ws,Ea x/\A0 x<=max 2 (A0 k)+1)->H l=none->Q (.ref r) H'
theorem Fl {w:Str}{n:Dt}{k:Kd}{ar:List (Str×Kd)}(h:w ≠ "num" /\ w ≠ "truth" /\ w ≠ "name" /\ w ≠ "odd"):Fp w n k ar:=⟨⟨fun z=>absurd z h.1,fun z=>absurd z h.2.1,fun z=>absurd z h.2.2.1⟩,fun z=>absurd z h.2.2.1,h.2.2.2⟩
theorem D4 {w:Str}{n:Dt}{k:Kd}{j:Nat}{ws:List Kd}{ar:List (Str×Kd)}(h:nb w n j=[]):Dh w n k j ws ar=ar:=by unfold Dh;rw [h,List.zip_nil_left,Pw]
theorem EnvAt.add {K:Oz}{H:Hp}{p q:Addr}{ar br:List (Str×Kd)}{vs ws:List V}(h:EnvAt K H p ar)(e:H p=some (.lst vs))(al:Al (PrAt K H) vs ar)(hb:Al (PrAt K H) ws br)(hd:∀ x∈br,A0 x.2<=14)(hl:ar.length+br.length<=40)(hq:H q=none):EnvAt K (upd H q (.lst (vs++ws))) q (ar++br):=by
 have s:=Same.upd (o:=.lst (vs++ws)) hq
 refine ⟨⟨_,Ac,(al.mono (PrAt.same s.t)).append (hb.mono (PrAt.same s.t))⟩,fun x hx=>?_,by rw [O7];exact hl⟩
 rcases Pm.mp hx with hx | hx
 ·exact h.d x hx
 ·exact hd x hx
theorem Lo:Bo ["_law_word_here", "_law_cell", "_law_kind", "_law_name", "_law_other", "_law_around", "_law_num", "_law_more"] ["_law_word_here", "_law_cell", "_law_kind", "_law_name", "_law_other", "_law_around"] (Bg I0):=by walk_at "sc"
theorem Zk3 {f:Addr}{fd:FuncData}(F:Fun K "_law_wishes" "_law_wishes" I0 f fd)(T:Txt K mg)(C__law_kind_by:A9 P w K mg base 1 "_law_kind_by" ["_law_cell"] (Nc K)):Bc P w K mg base Be 2 f fd ["_law_word_here", "_law_cell", "_law_kind", "_law_name", "_law_other", "_law_around"] (Mq K):=by
 refine F.okq Lo (fun vs H Q E h=>?_) (fun cdv A outer s H vs Q E hr h=>?_)
 ·obtain ⟨w,z,kv,nm,ot,pa,k,ar,rfl,_⟩:=h
  rfl
 ·obtain ⟨w,z,kv,nm,ot,pa,k,ar,rfl,hk,hg,hd,he,har,hw,ret⟩:=h
  refine ⟨_,Af (Av 6 Lo (Ao (Aa Aq Ab)))
   (Af (Av 7 Lo (Ba C__law_kind_by hr.m (Aa (A6 Ej (qv 1) Ah) Ab)))
   (Af (A7 (Az (Lk K) (qv 0) (Ao (Aa Aq (Aa Aq (Aa Aq Ab)))) (by rfl)) (Ai (Ar (Ao (Aa Fo (Aa (Ax (Aa (Ao (Aa (qv 6) (Aa (qv 5) Ab))) (Aa (Ao (Aa (qv 6) (Aa (qv 5) Ab))) Ab))) Ab))))) A8)
   (Af (A7 (Az (Dk K hr.u200) (qv 0) Aq (Ay _)) (Ai (Ar (Ao (Aa Fo (Aa (Ax (Aa (Ao (Aa (Ao (Aa Aq Ab)) (Aa (qv 5) Ab))) (Aa (Ao (Aa (qv 2) (Aa (qv 5) Ab))) (Aa (Ao (Aa (qv 2) (Aa (qv 5) Ab))) Ab)))) Ab))))) A8)
   (Af (A7 (Az (Dk K hr.u200) (qv 0) Aq (Ay _)) (Ai (Ar (Ao (Aa Fo (Aa (Ax (Aa (Ao (Aa (Ao (Aa Aq (Aa (qv 7) (Aa (qv 2) Ab)))) (Aa (qv 5) Ab))) (Aa (Ao (Aa (qv 7) (Aa (qv 5) Ab))) Ab))) Ab))))) A8)
   (Af (A7 (Az (Dk K hr.u200) (qv 0) Aq (Ay _)) (Ai (Ar (Ao (Aa (qv 3) (Aa (Ax (Aa (Ao (Aa (qv 7) (Aa (qv 5) Ab))) (Aa (Ao (Aa (qv 2) (Aa (A6 (Ei K) (qv 5) (Ax (Aa (Ao (Aa (qv 3) (Aa (qv 7) Ab))) Ab))) Ab))) Ab))) Ab))))) A8)
   (Af (A7 (Az (Dk K hr.u200) (qv 0) Aq (Ay _)) (Ai (Ar (Ao (Aa (qv 3) (Aa (Ax (Aa (Ao (Aa (Am K (qv 2) Ah) (Aa (A6 (Ei K) (qv 5) (Ax (Aa (Ao (Aa (qv 3) (Aa (Am K (qv 2) Ah) Ab))) Ab))) Ab))) Ab)) Ab))))) A8)
   (Ai (Ar (Ao (Aa (Ao (Aa (qv 4) (Aa (qv 3) Ab))) (Aa (Ax (Aa (Ao (Aa (Am K (qv 2) Ah) (Aa (A6 (Ei K) (qv 5) (Ax (Aa (Ao (Aa (qv 4) (Aa (qv 2) Ab))) (Aa (Ao (Aa (qv 3) (Aa (Am K (qv 2) Ah) Ab))) Ab)))) Ab))) Ab)) Ab))))))))))),?_⟩
  have bg:=big
  obtain ⟨vs,e0,al⟩:=he.e
  have hvl:=al.1
  walk_at "r"
  refine ⟨Bx,fun a1 h1=>?_⟩
  have s1:=Same.upd (o:=.tup [.str "num"]) h1
  have e1:upd H a1 (.tup [.str "num"]) a1=some (.tup [.str "num"]):=Ac
  revert s1 e1
  generalize upd H a1 (.tup [.str "num"])=H1
  intro s1 e1
  walk_at "r"
  refine ⟨z / 32,rfl,fun mv km H2 s2 hkm hks=>?_⟩
  obtain ⟨gm,dm⟩:=Ze7 km hks
  have S2:=s1.trans s2
  have e1:=s2 _ _ e1
  clear s1 s2
  rw [show List.set (L2.start ["_law_word_here", "_law_cell", "_law_kind", "_law_name", "_law_other", "_law_around", "_law_num", "_law_more"] [.str w,.int z,kv,.str nm,.str ot,.ref pa]) 6 (some (.ref a1))=([some (.str w),some (.int z),some kv,some (.str nm),some (.str ot),some (.ref pa),some (.ref a1),none]:List (Option V)) from rfl]
  rcases hw with rfl | rfl | rfl | ⟨rfl,rfl | rfl⟩ | ⟨rfl,rfl⟩ | ⟨x,y,rfl,hfr⟩
  ·walk_at "r"
   refine ⟨Bp,fun a11 h11=>?_⟩
   have s11:=Same.upd (o:=.tup [.str "plus",.str "minus",.str "less"]) h11
   have e11:upd H2 a11 (.tup [.str "plus",.str "minus",.str "less"]) a11=some (.tup [.str "plus",.str "minus",.str "less"]):=Ac
   revert s11 e11
   generalize upd H2 a11 (.tup [.str "plus",.str "minus",.str "less"])=H11
   intro s11 e11
   clear h11
   have S11:=S2.trans s11
   refine Em (.inr (SqT.of e11)) rfl rfl ?_
   rw [show (if false=true then !B1 (V.str "call") [V.str "plus",V.str "minus",V.str "less"] else B1 (V.str "call") [V.str "plus",V.str "minus",V.str "less"])=false from by decide +kernel]
   walk_at "r"
   rw [decide_eq_false (show ¬ V.str "call" = V.str "if" from fun z=>absurd (V.str.inj z) (by decide +kernel))]
   walk_at "r"
   rw [decide_eq_true (show V.str "call" = V.str "call" from rfl)]
   walk_at "r"
   refine ⟨Bp,fun a12 h12=>?_⟩
   have s12:=Same.upd (o:=.tup [.str "to",mv,kv]) h12
   have e12:upd H11 a12 (.tup [.str "to",mv,kv]) a12=some (.tup [.str "to",mv,kv]):=Ac
   revert s12 e12
   generalize upd H11 a12 (.tup [.str "to",mv,kv])=H12
   intro s12 e12
   clear h12
   have S12:=S11.trans s12
   walk_at "r"
   refine ⟨A5,fun a13 h13=>?_⟩
   have s13:=Same.upd (o:=.tup [.ref a12,.ref pa]) h13
   have e13:upd H12 a13 (.tup [.ref a12,.ref pa]) a13=some (.tup [.ref a12,.ref pa]):=Ac
   revert s13 e13
   generalize upd H12 a13 (.tup [.ref a12,.ref pa])=H13
   intro s13 e13
   clear h13
   have S13:=S12.trans s13
   walk_at "r"
   refine ⟨A5,fun a14 h14=>?_⟩
   have s14:=Same.upd (o:=.tup [mv,.ref pa]) h14
   have e14:upd H13 a14 (.tup [mv,.ref pa]) a14=some (.tup [mv,.ref pa]):=Ac
   revert s14 e14
   generalize upd H13 a14 (.tup [mv,.ref pa])=H14
   intro s14 e14
   clear h14
   have S14:=S13.trans s14
   walk_at "r"
   refine ⟨A5,fun a15 h15=>?_⟩
   have f15:=S14.free h15
   have s15:=Same.upd (o:=.lst [.ref a13,.ref a14]) h15
   have e15:upd H14 a15 (.lst [.ref a13,.ref a14]) a15=some (.lst [.ref a13,.ref a14]):=Ac
   revert s15 e15
   generalize upd H14 a15 (.lst [.ref a13,.ref a14])=H15
   intro s15 e15
   clear h15
   have S15:=S14.trans s15
   walk_at "r"
   refine ⟨A5,fun a16 h16=>?_⟩
   have s16:=Same.upd (o:=.tup [.non,.ref a15]) h16
   have e16:upd H15 a16 (.tup [.non,.ref a15]) a16=some (.tup [.non,.ref a15]):=Ac
   revert s16 e16
   generalize upd H15 a16 (.tup [.non,.ref a15])=H16
   intro s16 e16
   clear h16
   have S16:=S15.trans s16
   have t16:=Same.refl H16
   have t15:=s16.trans t16
   have t14:=s15.trans t15
   have t13:=s14.trans t14
   have t12:=s13.trans t13
   have t11:=s12.trans t12
   have t10:=s11.trans t11
   refine ret _ _ _ (.flat .non) [.to km k,km] _ _ S16 (SqT.of (t16 _ _ e16)) (t15 _ _ e15) (.inl ⟨rfl,rfl⟩) (Fn (by decide +kernel) (by decide +kernel) (by decide +kernel) (by decide +kernel)) (Fl (by decide +kernel)) .call rfl (fun j v kk f1 f2=>?_) (fun xx hx=>?_) f15
   ·match j,f1,f2 with
    | 0,f1,f2=>cases f1;cases f2;exact ⟨_,_,_,rfl,(SqT.of (t13 _ _ e13)),(.to (SqT.of (t12 _ _ e12)) (hkm.same t10.t) ((hk.same S2.t).same t10.t)),(by rw [D4 (by rfl)];exact (he.same S2).same t10),.inl rfl⟩
    | 1,f1,f2=>cases f1;cases f2;exact ⟨_,_,_,rfl,(SqT.of (t14 _ _ e14)),(hkm.same t10.t),(by rw [D4 (by rfl)];exact (he.same S2).same t10),.inl rfl⟩
   ·simp only [O5,Pd,or_false] at hx
    rcases hx with e | e
    ·rw [e];exact ⟨.to gm hg,by show max _ _+1<=_;omega⟩
    ·rw [e];exact ⟨gm,by omega⟩
  ·walk_at "r"
   refine ⟨Bp,fun a11 h11=>?_⟩
   have s11:=Same.upd (o:=.tup [.str "plus",.str "minus",.str "less"]) h11
   have e11:upd H2 a11 (.tup [.str "plus",.str "minus",.str "less"]) a11=some (.tup [.str "plus",.str "minus",.str "less"]):=Ac
   revert s11 e11
   generalize upd H2 a11 (.tup [.str "plus",.str "minus",.str "less"])=H11
   intro s11 e11
   clear h11
   have S11:=S2.trans s11
   refine Em (.inr (SqT.of e11)) rfl rfl ?_
   rw [show (if false=true then !B1 (V.str "let") [V.str "plus",V.str "minus",V.str "less"] else B1 (V.str "let") [V.str "plus",V.str "minus",V.str "less"])=false from by decide +kernel]
   walk_at "r"
   rw [decide_eq_false (show ¬ V.str "let" = V.str "if" from fun z=>absurd (V.str.inj z) (by decide +kernel))]
   walk_at "r"
   rw [decide_eq_false (show ¬ V.str "let" = V.str "call" from fun z=>absurd (V.str.inj z) (by decide +kernel))]
   walk_at "r"
   rw [decide_eq_true (show V.str "let" = V.str "let" from rfl)]
   walk_at "r"
   refine ⟨A5,fun a12 h12=>?_⟩
   have s12:=Same.upd (o:=.tup [mv,.ref pa]) h12
   have e12:upd H11 a12 (.tup [mv,.ref pa]) a12=some (.tup [mv,.ref pa]):=Ac
   revert s12 e12
   generalize upd H11 a12 (.tup [mv,.ref pa])=H12
   intro s12 e12
   clear h12
   have S12:=S11.trans s12
   walk_at "r"
   refine ⟨A5,fun a13 h13=>?_⟩
   have s13:=Same.upd (o:=.tup [.str nm,mv]) h13
   have e13:upd H12 a13 (.tup [.str nm,mv]) a13=some (.tup [.str nm,mv]):=Ac
   revert s13 e13
   generalize upd H12 a13 (.tup [.str nm,mv])=H13
   intro s13 e13
   clear h13
   have S13:=S12.trans s13
   walk_at "r"
   refine ⟨Bx,fun a14 h14=>?_⟩
   have f14:=S13.free h14
   have s14:=Same.upd (o:=.lst [.ref a13]) h14
   have e14:upd H13 a14 (.lst [.ref a13]) a14=some (.lst [.ref a13]):=Ac
   revert s14 e14
   generalize upd H13 a14 (.lst [.ref a13])=H14
   intro s14 e14
   clear h14
   have S14:=S13.trans s14
   have v15:Same H2 H14:=s11.trans (s12.trans (s13.trans (s14)))
   have b15:Al (PrAt K H14) [.ref a13] [(nm,km)]:=(Ds ⟨_,_,rfl,SqT.of ((s14) _ _ e13),(hkm.same v15.t)⟩ .nil)
   have c15:H14 pa=some (.lst vs):=v15 _ _ (S2 _ _ e0)
   walk_at "r"
   refine Kj c15 e14 (by simp;omega) fun a15 h15=>?_
   have f15:=S14.free h15
   have d15:=(he.same (S2.trans v15)).add (ws:=[.ref a13]) (br:=[(nm,km)]) c15 (al.mono (PrAt.same (S2.trans v15).t)) b15 (fun x hx=>by simp only [O5,Pd,or_false] at hx;rcases hx with rfl <;> dsimp only <;> omega) (by simp;omega) h15
   have s15:=Same.upd (o:=.lst (vs++[.ref a13])) h15
   revert s15 d15
   generalize upd H14 a15 (.lst (vs++[.ref a13]))=H15
   intro d15 s15
   clear h15
   have S15:=S14.trans s15
   walk_at "r"
   refine ⟨A5,fun a16 h16=>?_⟩
   have s16:=Same.upd (o:=.tup [kv,.ref a15]) h16
   have e16:upd H15 a16 (.tup [kv,.ref a15]) a16=some (.tup [kv,.ref a15]):=Ac
   revert s16 e16
   generalize upd H15 a16 (.tup [kv,.ref a15])=H16
   intro s16 e16
   clear h16
   have S16:=S15.trans s16
   walk_at "r"
   refine ⟨A5,fun a17 h17=>?_⟩
   have f17:=S16.free h17
   have s17:=Same.upd (o:=.lst [.ref a12,.ref a16]) h17
   have e17:upd H16 a17 (.lst [.ref a12,.ref a16]) a17=some (.lst [.ref a12,.ref a16]):=Ac
   revert s17 e17
   generalize upd H16 a17 (.lst [.ref a12,.ref a16])=H17
   intro s17 e17
   clear h17
   have S17:=S16.trans s17
   walk_at "r"
   refine ⟨A5,fun a18 h18=>?_⟩
   have s18:=Same.upd (o:=.tup [.str nm,.ref a17]) h18
   have e18:upd H17 a18 (.tup [.str nm,.ref a17]) a18=some (.tup [.str nm,.ref a17]):=Ac
   revert s18 e18
   generalize upd H17 a18 (.tup [.str nm,.ref a17])=H18
   intro s18 e18
   clear h18
   have S18:=S17.trans s18
   have t18:=Same.refl H18
   have t17:=s18.trans t18
   have t16:=s17.trans t17
   have t15:=s16.trans t16
   have t14:=s15.trans t15
   have t13:=s14.trans t14
   have t12:=s13.trans t13
   have t11:=s12.trans t12
   have t10:=s11.trans t11
   refine ret _ _ _ (.flat (.str nm)) [km,k] _ _ S18 (SqT.of (t18 _ _ e18)) (t17 _ _ e17) (.inl ⟨rfl,rfl⟩) ⟨fun _=>⟨nm,rfl⟩,fun h=>absurd h (by decide +kernel)⟩ (Fl (by decide +kernel)) .lt rfl (fun j v kk f1 f2=>?_) (fun xx hx=>?_) f17
   ·match j,f1,f2 with
    | 0,f1,f2=>cases f1;cases f2;exact ⟨_,_,_,rfl,(SqT.of (t12 _ _ e12)),(hkm.same t10.t),(by rw [D4 (by rfl)];exact (he.same S2).same t10),.inl rfl⟩
    | 1,f1,f2=>cases f1;cases f2;exact ⟨_,_,_,rfl,(SqT.of (t16 _ _ e16)),((hk.same S2.t).same t10.t),(d15.same t15),.inr f15⟩
   ·simp only [O5,Pd,or_false] at hx
    rcases hx with e | e
    ·rw [e];exact ⟨gm,by omega⟩
    ·rw [e];exact ⟨hg,by omega⟩
  ·walk_at "r"
   refine ⟨Bp,fun a11 h11=>?_⟩
   have s11:=Same.upd (o:=.tup [.str "plus",.str "minus",.str "less"]) h11
   have e11:upd H2 a11 (.tup [.str "plus",.str "minus",.str "less"]) a11=some (.tup [.str "plus",.str "minus",.str "less"]):=Ac
   revert s11 e11
   generalize upd H2 a11 (.tup [.str "plus",.str "minus",.str "less"])=H11
   intro s11 e11
   clear h11
   have S11:=S2.trans s11
   refine Em (.inr (SqT.of e11)) rfl rfl ?_
   rw [show (if false=true then !B1 (V.str "if") [V.str "plus",V.str "minus",V.str "less"] else B1 (V.str "if") [V.str "plus",V.str "minus",V.str "less"])=false from by decide +kernel]
   walk_at "r"
   rw [decide_eq_true (show V.str "if" = V.str "if" from rfl)]
   walk_at "r"
   refine ⟨Bx,fun a12 h12=>?_⟩
   have s12:=Same.upd (o:=.tup [.str "truth"]) h12
   have e12:upd H11 a12 (.tup [.str "truth"]) a12=some (.tup [.str "truth"]):=Ac
   revert s12 e12
   generalize upd H11 a12 (.tup [.str "truth"])=H12
   intro s12 e12
   clear h12
   have S12:=S11.trans s12
   walk_at "r"
   refine ⟨A5,fun a13 h13=>?_⟩
   have s13:=Same.upd (o:=.tup [.ref a12,.ref pa]) h13
   have e13:upd H12 a13 (.tup [.ref a12,.ref pa]) a13=some (.tup [.ref a12,.ref pa]):=Ac
   revert s13 e13
   generalize upd H12 a13 (.tup [.ref a12,.ref pa])=H13
   intro s13 e13
   clear h13
   have S13:=S12.trans s13
   walk_at "r"
   refine ⟨A5,fun a14 h14=>?_⟩
   have s14:=Same.upd (o:=.tup [kv,.ref pa]) h14
   have e14:upd H13 a14 (.tup [kv,.ref pa]) a14=some (.tup [kv,.ref pa]):=Ac
   revert s14 e14
   generalize upd H13 a14 (.tup [kv,.ref pa])=H14
   intro s14 e14
   clear h14
   have S14:=S13.trans s14
   walk_at "r"
   refine ⟨A5,fun a15 h15=>?_⟩
   have s15:=Same.upd (o:=.tup [kv,.ref pa]) h15
   have e15:upd H14 a15 (.tup [kv,.ref pa]) a15=some (.tup [kv,.ref pa]):=Ac
   revert s15 e15
   generalize upd H14 a15 (.tup [kv,.ref pa])=H15
   intro s15 e15
   clear h15
   have S15:=S14.trans s15
   walk_at "r"
   refine ⟨Bp,fun a16 h16=>?_⟩
   have f16:=S15.free h16
   have s16:=Same.upd (o:=.lst [.ref a13,.ref a14,.ref a15]) h16
   have e16:upd H15 a16 (.lst [.ref a13,.ref a14,.ref a15]) a16=some (.lst [.ref a13,.ref a14,.ref a15]):=Ac
   revert s16 e16
   generalize upd H15 a16 (.lst [.ref a13,.ref a14,.ref a15])=H16
   intro s16 e16
   clear h16
   have S16:=S15.trans s16
   walk_at "r"
   refine ⟨A5,fun a17 h17=>?_⟩
   have s17:=Same.upd (o:=.tup [.non,.ref a16]) h17
   have e17:upd H16 a17 (.tup [.non,.ref a16]) a17=some (.tup [.non,.ref a16]):=Ac
   revert s17 e17
   generalize upd H16 a17 (.tup [.non,.ref a16])=H17
   intro s17 e17
   clear h17
   have S17:=S16.trans s17
   have t17:=Same.refl H17
   have t16:=s17.trans t17
   have t15:=s16.trans t16
   have t14:=s15.trans t15
   have t13:=s14.trans t14
   have t12:=s13.trans t13
   have t11:=s12.trans t12
   have t10:=s11.trans t11
   refine ret _ _ _ (.flat .non) [.truth,k,k] _ _ S17 (SqT.of (t17 _ _ e17)) (t16 _ _ e16) (.inl ⟨rfl,rfl⟩) (Fn (by decide +kernel) (by decide +kernel) (by decide +kernel) (by decide +kernel)) (Fl (by decide +kernel)) .ite rfl (fun j v kk f1 f2=>?_) (fun xx hx=>?_) f16
   ·match j,f1,f2 with
    | 0,f1,f2=>cases f1;cases f2;exact ⟨_,_,_,rfl,(SqT.of (t13 _ _ e13)),(.truth (SqT.of (t12 _ _ e12))),(by rw [D4 (by rfl)];exact (he.same S2).same t10),.inl rfl⟩
    | 1,f1,f2=>cases f1;cases f2;exact ⟨_,_,_,rfl,(SqT.of (t14 _ _ e14)),((hk.same S2.t).same t10.t),(by rw [D4 (by rfl)];exact (he.same S2).same t10),.inl rfl⟩
    | 2,f1,f2=>cases f1;cases f2;exact ⟨_,_,_,rfl,(SqT.of (t15 _ _ e15)),((hk.same S2.t).same t10.t),(by rw [D4 (by rfl)];exact (he.same S2).same t10),.inl rfl⟩
   ·simp only [O5,Pd,or_false] at hx
    rcases hx with e | e | e
    ·rw [e];exact ⟨.truth,by show 0<=_;omega⟩
    ·rw [e];exact ⟨hg,by omega⟩
    ·rw [e];exact ⟨hg,by omega⟩
  ·walk_at "r"
   refine ⟨Bp,fun a11 h11=>?_⟩
   have s11:=Same.upd (o:=.tup [.str "plus",.str "minus",.str "less"]) h11
   have e11:upd H2 a11 (.tup [.str "plus",.str "minus",.str "less"]) a11=some (.tup [.str "plus",.str "minus",.str "less"]):=Ac
   revert s11 e11
   generalize upd H2 a11 (.tup [.str "plus",.str "minus",.str "less"])=H11
   intro s11 e11
   clear h11
   have S11:=S2.trans s11
   refine Em (.inr (SqT.of e11)) rfl rfl ?_
   rw [show (if false=true then !B1 (V.str "plus") [V.str "plus",V.str "minus",V.str "less"] else B1 (V.str "plus") [V.str "plus",V.str "minus",V.str "less"])=true from by decide +kernel]
   walk_at "r"
   refine ⟨A5,fun a12 h12=>?_⟩
   have s12:=Same.upd (o:=.tup [.ref a1,.ref pa]) h12
   have e12:upd H11 a12 (.tup [.ref a1,.ref pa]) a12=some (.tup [.ref a1,.ref pa]):=Ac
   revert s12 e12
   generalize upd H11 a12 (.tup [.ref a1,.ref pa])=H12
   intro s12 e12
   clear h12
   have S12:=S11.trans s12
   walk_at "r"
   refine ⟨A5,fun a13 h13=>?_⟩
   have s13:=Same.upd (o:=.tup [.ref a1,.ref pa]) h13
   have e13:upd H12 a13 (.tup [.ref a1,.ref pa]) a13=some (.tup [.ref a1,.ref pa]):=Ac
   revert s13 e13
   generalize upd H12 a13 (.tup [.ref a1,.ref pa])=H13
   intro s13 e13
   clear h13
   have S13:=S12.trans s13
   walk_at "r"
   refine ⟨A5,fun a14 h14=>?_⟩
   have f14:=S13.free h14
   have s14:=Same.upd (o:=.lst [.ref a12,.ref a13]) h14
   have e14:upd H13 a14 (.lst [.ref a12,.ref a13]) a14=some (.lst [.ref a12,.ref a13]):=Ac
   revert s14 e14
   generalize upd H13 a14 (.lst [.ref a12,.ref a13])=H14
   intro s14 e14
   clear h14
   have S14:=S13.trans s14
   walk_at "r"
   refine ⟨A5,fun a15 h15=>?_⟩
   have s15:=Same.upd (o:=.tup [.non,.ref a14]) h15
   have e15:upd H14 a15 (.tup [.non,.ref a14]) a15=some (.tup [.non,.ref a14]):=Ac
   revert s15 e15
   generalize upd H14 a15 (.tup [.non,.ref a14])=H15
   intro s15 e15
   clear h15
   have S15:=S14.trans s15
   have t15:=Same.refl H15
   have t14:=s15.trans t15
   have t13:=s14.trans t14
   have t12:=s13.trans t13
   have t11:=s12.trans t12
   have t10:=s11.trans t11
   refine ret _ _ _ (.flat .non) [.num,.num] _ _ S15 (SqT.of (t15 _ _ e15)) (t14 _ _ e14) (.inl ⟨rfl,rfl⟩) (Fn (by decide +kernel) (by decide +kernel) (by decide +kernel) (by decide +kernel)) (Fl (by decide +kernel)) (.plus (.inl rfl)) rfl (fun j v kk f1 f2=>?_) (fun xx hx=>?_) f14
   ·match j,f1,f2 with
    | 0,f1,f2=>cases f1;cases f2;exact ⟨_,_,_,rfl,(SqT.of (t12 _ _ e12)),(.num (SqT.of (t10 _ _ e1))),(by rw [D4 (by rfl)];exact (he.same S2).same t10),.inl rfl⟩
    | 1,f1,f2=>cases f1;cases f2;exact ⟨_,_,_,rfl,(SqT.of (t13 _ _ e13)),(.num (SqT.of (t10 _ _ e1))),(by rw [D4 (by rfl)];exact (he.same S2).same t10),.inl rfl⟩
   ·simp only [O5,Pd,or_false] at hx
    rcases hx with e | e
    ·rw [e];exact ⟨.num,by show 0<=_;omega⟩
    ·rw [e];exact ⟨.num,by show 0<=_;omega⟩
  ·walk_at "r"
   refine ⟨Bp,fun a11 h11=>?_⟩
   have s11:=Same.upd (o:=.tup [.str "plus",.str "minus",.str "less"]) h11
   have e11:upd H2 a11 (.tup [.str "plus",.str "minus",.str "less"]) a11=some (.tup [.str "plus",.str "minus",.str "less"]):=Ac
   revert s11 e11
   generalize upd H2 a11 (.tup [.str "plus",.str "minus",.str "less"])=H11
   intro s11 e11
   clear h11
   have S11:=S2.trans s11
   refine Em (.inr (SqT.of e11)) rfl rfl ?_
   rw [show (if false=true then !B1 (V.str "minus") [V.str "plus",V.str "minus",V.str "less"] else B1 (V.str "minus") [V.str "plus",V.str "minus",V.str "less"])=true from by decide +kernel]
   walk_at "r"
   refine ⟨A5,fun a12 h12=>?_⟩
   have s12:=Same.upd (o:=.tup [.ref a1,.ref pa]) h12
   have e12:upd H11 a12 (.tup [.ref a1,.ref pa]) a12=some (.tup [.ref a1,.ref pa]):=Ac
   revert s12 e12
   generalize upd H11 a12 (.tup [.ref a1,.ref pa])=H12
   intro s12 e12
   clear h12
   have S12:=S11.trans s12
   walk_at "r"
   refine ⟨A5,fun a13 h13=>?_⟩
   have s13:=Same.upd (o:=.tup [.ref a1,.ref pa]) h13
   have e13:upd H12 a13 (.tup [.ref a1,.ref pa]) a13=some (.tup [.ref a1,.ref pa]):=Ac
   revert s13 e13
   generalize upd H12 a13 (.tup [.ref a1,.ref pa])=H13
   intro s13 e13
   clear h13
   have S13:=S12.trans s13
   walk_at "r"
   refine ⟨A5,fun a14 h14=>?_⟩
   have f14:=S13.free h14
   have s14:=Same.upd (o:=.lst [.ref a12,.ref a13]) h14
   have e14:upd H13 a14 (.lst [.ref a12,.ref a13]) a14=some (.lst [.ref a12,.ref a13]):=Ac
   revert s14 e14
   generalize upd H13 a14 (.lst [.ref a12,.ref a13])=H14
   intro s14 e14
   clear h14
   have S14:=S13.trans s14
   walk_at "r"
   refine ⟨A5,fun a15 h15=>?_⟩
   have s15:=Same.upd (o:=.tup [.non,.ref a14]) h15
   have e15:upd H14 a15 (.tup [.non,.ref a14]) a15=some (.tup [.non,.ref a14]):=Ac
   revert s15 e15
   generalize upd H14 a15 (.tup [.non,.ref a14])=H15
   intro s15 e15
   clear h15
   have S15:=S14.trans s15
   have t15:=Same.refl H15
   have t14:=s15.trans t15
   have t13:=s14.trans t14
   have t12:=s13.trans t13
   have t11:=s12.trans t12
   have t10:=s11.trans t11
   refine ret _ _ _ (.flat .non) [.num,.num] _ _ S15 (SqT.of (t15 _ _ e15)) (t14 _ _ e14) (.inl ⟨rfl,rfl⟩) (Fn (by decide +kernel) (by decide +kernel) (by decide +kernel) (by decide +kernel)) (Fl (by decide +kernel)) (.plus (.inr rfl)) rfl (fun j v kk f1 f2=>?_) (fun xx hx=>?_) f14
   ·match j,f1,f2 with
    | 0,f1,f2=>cases f1;cases f2;exact ⟨_,_,_,rfl,(SqT.of (t12 _ _ e12)),(.num (SqT.of (t10 _ _ e1))),(by rw [D4 (by rfl)];exact (he.same S2).same t10),.inl rfl⟩
    | 1,f1,f2=>cases f1;cases f2;exact ⟨_,_,_,rfl,(SqT.of (t13 _ _ e13)),(.num (SqT.of (t10 _ _ e1))),(by rw [D4 (by rfl)];exact (he.same S2).same t10),.inl rfl⟩
   ·simp only [O5,Pd,or_false] at hx
    rcases hx with e | e
    ·rw [e];exact ⟨.num,by show 0<=_;omega⟩
    ·rw [e];exact ⟨.num,by show 0<=_;omega⟩
  ·walk_at "r"
   refine ⟨Bp,fun a11 h11=>?_⟩
   have s11:=Same.upd (o:=.tup [.str "plus",.str "minus",.str "less"]) h11
   have e11:upd H2 a11 (.tup [.str "plus",.str "minus",.str "less"]) a11=some (.tup [.str "plus",.str "minus",.str "less"]):=Ac
   revert s11 e11
   generalize upd H2 a11 (.tup [.str "plus",.str "minus",.str "less"])=H11
   intro s11 e11
   clear h11
   have S11:=S2.trans s11
   refine Em (.inr (SqT.of e11)) rfl rfl ?_
   rw [show (if false=true then !B1 (V.str "less") [V.str "plus",V.str "minus",V.str "less"] else B1 (V.str "less") [V.str "plus",V.str "minus",V.str "less"])=true from by decide +kernel]
   walk_at "r"
   refine ⟨A5,fun a12 h12=>?_⟩
   have s12:=Same.upd (o:=.tup [.ref a1,.ref pa]) h12
   have e12:upd H11 a12 (.tup [.ref a1,.ref pa]) a12=some (.tup [.ref a1,.ref pa]):=Ac
   revert s12 e12
   generalize upd H11 a12 (.tup [.ref a1,.ref pa])=H12
   intro s12 e12
   clear h12
   have S12:=S11.trans s12
   walk_at "r"
   refine ⟨A5,fun a13 h13=>?_⟩
   have s13:=Same.upd (o:=.tup [.ref a1,.ref pa]) h13
   have e13:upd H12 a13 (.tup [.ref a1,.ref pa]) a13=some (.tup [.ref a1,.ref pa]):=Ac
   revert s13 e13
   generalize upd H12 a13 (.tup [.ref a1,.ref pa])=H13
   intro s13 e13
   clear h13
   have S13:=S12.trans s13
   walk_at "r"
   refine ⟨A5,fun a14 h14=>?_⟩
   have f14:=S13.free h14
   have s14:=Same.upd (o:=.lst [.ref a12,.ref a13]) h14
   have e14:upd H13 a14 (.lst [.ref a12,.ref a13]) a14=some (.lst [.ref a12,.ref a13]):=Ac
   revert s14 e14
   generalize upd H13 a14 (.lst [.ref a12,.ref a13])=H14
   intro s14 e14
   clear h14
   have S14:=S13.trans s14
   walk_at "r"
   refine ⟨A5,fun a15 h15=>?_⟩
   have s15:=Same.upd (o:=.tup [.non,.ref a14]) h15
   have e15:upd H14 a15 (.tup [.non,.ref a14]) a15=some (.tup [.non,.ref a14]):=Ac
   revert s15 e15
   generalize upd H14 a15 (.tup [.non,.ref a14])=H15
   intro s15 e15
   clear h15
   have S15:=S14.trans s15
   have t15:=Same.refl H15
   have t14:=s15.trans t15
   have t13:=s14.trans t14
   have t12:=s13.trans t13
   have t11:=s12.trans t12
   have t10:=s11.trans t11
   refine ret _ _ _ (.flat .non) [.num,.num] _ _ S15 (SqT.of (t15 _ _ e15)) (t14 _ _ e14) (.inl ⟨rfl,rfl⟩) (Fn (by decide +kernel) (by decide +kernel) (by decide +kernel) (by decide +kernel)) (Fl (by decide +kernel)) .less rfl (fun j v kk f1 f2=>?_) (fun xx hx=>?_) f14
   ·match j,f1,f2 with
    | 0,f1,f2=>cases f1;cases f2;exact ⟨_,_,_,rfl,(SqT.of (t12 _ _ e12)),(.num (SqT.of (t10 _ _ e1))),(by rw [D4 (by rfl)];exact (he.same S2).same t10),.inl rfl⟩
    | 1,f1,f2=>cases f1;cases f2;exact ⟨_,_,_,rfl,(SqT.of (t13 _ _ e13)),(.num (SqT.of (t10 _ _ e1))),(by rw [D4 (by rfl)];exact (he.same S2).same t10),.inl rfl⟩
   ·simp only [O5,Pd,or_false] at hx
    rcases hx with e | e
    ·rw [e];exact ⟨.num,by show 0<=_;omega⟩
    ·rw [e];exact ⟨.num,by show 0<=_;omega⟩
  ·have hdk:max (A0 x) (A0 y)+1<=12:=hd
   cases hk with
   | @to ka xv yv _ _ qk hx hy =>
   have hk:KdAt K H (.ref ka) (.to x y):=.to qk hx hy
   have gy:Ea y:=by cases hg;assumption
   rcases hfr with rfl | rfl
   ·walk_at "r"
    refine ⟨Bp,fun a11 h11=>?_⟩
    have s11:=Same.upd (o:=.tup [.str "plus",.str "minus",.str "less"]) h11
    have e11:upd H2 a11 (.tup [.str "plus",.str "minus",.str "less"]) a11=some (.tup [.str "plus",.str "minus",.str "less"]):=Ac
    revert s11 e11
    generalize upd H2 a11 (.tup [.str "plus",.str "minus",.str "less"])=H11
    intro s11 e11
    clear h11
    have S11:=S2.trans s11
    refine Em (.inr (SqT.of e11)) rfl rfl ?_
    rw [show (if false=true then !B1 (V.str "fn") [V.str "plus",V.str "minus",V.str "less"] else B1 (V.str "fn") [V.str "plus",V.str "minus",V.str "less"])=false from by decide +kernel]
    walk_at "r"
    rw [decide_eq_false (show ¬ V.str "fn" = V.str "if" from fun z=>absurd (V.str.inj z) (by decide +kernel))]
    walk_at "r"
    rw [decide_eq_false (show ¬ V.str "fn" = V.str "call" from fun z=>absurd (V.str.inj z) (by decide +kernel))]
    walk_at "r"
    rw [decide_eq_false (show ¬ V.str "fn" = V.str "let" from fun z=>absurd (V.str.inj z) (by decide +kernel))]
    walk_at "r"
    rw [decide_eq_true (show V.str "fn" = V.str "fn" from rfl)]
    walk_at "r"
    refine Au (S11.tup qk) (v:=yv) rfl ?_
    walk_at "r"
    refine Au (S11.tup qk) (v:=xv) rfl ?_
    walk_at "r"
    refine ⟨A5,fun a12 h12=>?_⟩
    have s12:=Same.upd (o:=.tup [.str nm,xv]) h12
    have e12:upd H11 a12 (.tup [.str nm,xv]) a12=some (.tup [.str nm,xv]):=Ac
    revert s12 e12
    generalize upd H11 a12 (.tup [.str nm,xv])=H12
    intro s12 e12
    clear h12
    have S12:=S11.trans s12
    walk_at "r"
    refine ⟨Bx,fun a13 h13=>?_⟩
    have f13:=S12.free h13
    have s13:=Same.upd (o:=.lst [.ref a12]) h13
    have e13:upd H12 a13 (.lst [.ref a12]) a13=some (.lst [.ref a12]):=Ac
    revert s13 e13
    generalize upd H12 a13 (.lst [.ref a12])=H13
    intro s13 e13
    clear h13
    have S13:=S12.trans s13
    have v14:Same H2 H13:=s11.trans (s12.trans (s13))
    have b14:Al (PrAt K H13) [.ref a12] [(nm,x)]:=(Ds ⟨_,_,rfl,SqT.of ((s13) _ _ e12),((hx.same S2.t).same v14.t)⟩ .nil)
    have c14:H13 pa=some (.lst vs):=v14 _ _ (S2 _ _ e0)
    walk_at "r"
    refine Kj c14 e13 (by simp;omega) fun a14 h14=>?_
    have f14:=S13.free h14
    have d14:=(he.same (S2.trans v14)).add (ws:=[.ref a12]) (br:=[(nm,x)]) c14 (al.mono (PrAt.same (S2.trans v14).t)) b14 (fun x hx=>by simp only [O5,Pd,or_false] at hx;rcases hx with rfl <;> dsimp only <;> omega) (by simp;omega) h14
    have s14:=Same.upd (o:=.lst (vs++[.ref a12])) h14
    revert s14 d14
    generalize upd H13 a14 (.lst (vs++[.ref a12]))=H14
    intro d14 s14
    clear h14
    have S14:=S13.trans s14
    walk_at "r"
    refine ⟨A5,fun a15 h15=>?_⟩
    have s15:=Same.upd (o:=.tup [yv,.ref a14]) h15
    have e15:upd H14 a15 (.tup [yv,.ref a14]) a15=some (.tup [yv,.ref a14]):=Ac
    revert s15 e15
    generalize upd H14 a15 (.tup [yv,.ref a14])=H15
    intro s15 e15
    clear h15
    have S15:=S14.trans s15
    walk_at "r"
    refine ⟨Bx,fun a16 h16=>?_⟩
    have f16:=S15.free h16
    have s16:=Same.upd (o:=.lst [.ref a15]) h16
    have e16:upd H15 a16 (.lst [.ref a15]) a16=some (.lst [.ref a15]):=Ac
    revert s16 e16
    generalize upd H15 a16 (.lst [.ref a15])=H16
    intro s16 e16
    clear h16
    have S16:=S15.trans s16
    walk_at "r"
    refine ⟨A5,fun a17 h17=>?_⟩
    have s17:=Same.upd (o:=.tup [.str nm,.ref a16]) h17
    have e17:upd H16 a17 (.tup [.str nm,.ref a16]) a17=some (.tup [.str nm,.ref a16]):=Ac
    revert s17 e17
    generalize upd H16 a17 (.tup [.str nm,.ref a16])=H17
    intro s17 e17
    clear h17
    have S17:=S16.trans s17
    have t17:=Same.refl H17
    have t16:=s17.trans t17
    have t15:=s16.trans t16
    have t14:=s15.trans t15
    have t13:=s14.trans t14
    have t12:=s13.trans t13
    have t11:=s12.trans t12
    have t10:=s11.trans t11
    refine ret _ _ _ (.flat (.str nm)) [y] _ _ S17 (SqT.of (t17 _ _ e17)) (t16 _ _ e16) (.inl ⟨rfl,rfl⟩) ⟨fun _=>⟨nm,rfl⟩,fun h=>absurd h (by decide +kernel)⟩ (Fl (by decide +kernel)) (.fn (.inl rfl)) rfl (fun j v kk f1 f2=>?_) (fun xx hx=>?_) f16
    ·match j,f1,f2 with
     | 0,f1,f2=>cases f1;cases f2;exact ⟨_,_,_,rfl,(SqT.of (t15 _ _ e15)),((hy.same S2.t).same t10.t),(d14.same t14),.inr f14⟩
    ·simp only [O5,Pd,or_false] at hx
     have e:=hx
     ·rw [e];exact ⟨gy,by have:=Zc9 x y;omega⟩
   ·walk_at "r"
    refine ⟨Bp,fun a11 h11=>?_⟩
    have s11:=Same.upd (o:=.tup [.str "plus",.str "minus",.str "less"]) h11
    have e11:upd H2 a11 (.tup [.str "plus",.str "minus",.str "less"]) a11=some (.tup [.str "plus",.str "minus",.str "less"]):=Ac
    revert s11 e11
    generalize upd H2 a11 (.tup [.str "plus",.str "minus",.str "less"])=H11
    intro s11 e11
    clear h11
    have S11:=S2.trans s11
    refine Em (.inr (SqT.of e11)) rfl rfl ?_
    rw [show (if false=true then !B1 (V.str "rec") [V.str "plus",V.str "minus",V.str "less"] else B1 (V.str "rec") [V.str "plus",V.str "minus",V.str "less"])=false from by decide +kernel]
    walk_at "r"
    rw [decide_eq_false (show ¬ V.str "rec" = V.str "if" from fun z=>absurd (V.str.inj z) (by decide +kernel))]
    walk_at "r"
    rw [decide_eq_false (show ¬ V.str "rec" = V.str "call" from fun z=>absurd (V.str.inj z) (by decide +kernel))]
    walk_at "r"
    rw [decide_eq_false (show ¬ V.str "rec" = V.str "let" from fun z=>absurd (V.str.inj z) (by decide +kernel))]
    walk_at "r"
    rw [decide_eq_false (show ¬ V.str "rec" = V.str "fn" from fun z=>absurd (V.str.inj z) (by decide +kernel))]
    walk_at "r"
    refine ⟨A5,fun a12 h12=>?_⟩
    have s12:=Same.upd (o:=.tup [.str ot,.str nm]) h12
    have e12:upd H11 a12 (.tup [.str ot,.str nm]) a12=some (.tup [.str ot,.str nm]):=Ac
    revert s12 e12
    generalize upd H11 a12 (.tup [.str ot,.str nm])=H12
    intro s12 e12
    clear h12
    have S12:=S11.trans s12
    walk_at "r"
    refine Au (S12.tup qk) (v:=yv) rfl ?_
    walk_at "r"
    refine ⟨A5,fun a13 h13=>?_⟩
    have s13:=Same.upd (o:=.tup [.str ot,.ref ka]) h13
    have e13:upd H12 a13 (.tup [.str ot,.ref ka]) a13=some (.tup [.str ot,.ref ka]):=Ac
    revert s13 e13
    generalize upd H12 a13 (.tup [.str ot,.ref ka])=H13
    intro s13 e13
    clear h13
    have S13:=S12.trans s13
    walk_at "r"
    refine Au (S13.tup qk) (v:=xv) rfl ?_
    walk_at "r"
    refine ⟨A5,fun a14 h14=>?_⟩
    have s14:=Same.upd (o:=.tup [.str nm,xv]) h14
    have e14:upd H13 a14 (.tup [.str nm,xv]) a14=some (.tup [.str nm,xv]):=Ac
    revert s14 e14
    generalize upd H13 a14 (.tup [.str nm,xv])=H14
    intro s14 e14
    clear h14
    have S14:=S13.trans s14
    walk_at "r"
    refine ⟨A5,fun a15 h15=>?_⟩
    have f15:=S14.free h15
    have s15:=Same.upd (o:=.lst [.ref a13,.ref a14]) h15
    have e15:upd H14 a15 (.lst [.ref a13,.ref a14]) a15=some (.lst [.ref a13,.ref a14]):=Ac
    revert s15 e15
    generalize upd H14 a15 (.lst [.ref a13,.ref a14])=H15
    intro s15 e15
    clear h15
    have S15:=S14.trans s15
    have v16:Same H2 H15:=s11.trans (s12.trans (s13.trans (s14.trans (s15))))
    have b16:Al (PrAt K H15) [.ref a13,.ref a14] [(ot,.to x y),(nm,x)]:=(Ds ⟨_,_,rfl,SqT.of ((s14.trans (s15)) _ _ e13),((hk.same S2.t).same v16.t)⟩ (Ds ⟨_,_,rfl,SqT.of ((s15) _ _ e14),((hx.same S2.t).same v16.t)⟩ .nil))
    have c16:H15 pa=some (.lst vs):=v16 _ _ (S2 _ _ e0)
    walk_at "r"
    refine Kj c16 e15 (by simp;omega) fun a16 h16=>?_
    have f16:=S15.free h16
    have d16:=(he.same (S2.trans v16)).add (ws:=[.ref a13,.ref a14]) (br:=[(ot,.to x y),(nm,x)]) c16 (al.mono (PrAt.same (S2.trans v16).t)) b16 (fun x hx=>by simp only [O5,Pd,or_false] at hx;rcases hx with rfl | rfl <;> dsimp only <;> omega) (by simp;omega) h16
    have s16:=Same.upd (o:=.lst (vs++[.ref a13,.ref a14])) h16
    revert s16 d16
    generalize upd H15 a16 (.lst (vs++[.ref a13,.ref a14]))=H16
    intro d16 s16
    clear h16
    have S16:=S15.trans s16
    walk_at "r"
    refine ⟨A5,fun a17 h17=>?_⟩
    have s17:=Same.upd (o:=.tup [yv,.ref a16]) h17
    have e17:upd H16 a17 (.tup [yv,.ref a16]) a17=some (.tup [yv,.ref a16]):=Ac
    revert s17 e17
    generalize upd H16 a17 (.tup [yv,.ref a16])=H17
    intro s17 e17
    clear h17
    have S17:=S16.trans s17
    walk_at "r"
    refine ⟨Bx,fun a18 h18=>?_⟩
    have f18:=S17.free h18
    have s18:=Same.upd (o:=.lst [.ref a17]) h18
    have e18:upd H17 a18 (.lst [.ref a17]) a18=some (.lst [.ref a17]):=Ac
    revert s18 e18
    generalize upd H17 a18 (.lst [.ref a17])=H18
    intro s18 e18
    clear h18
    have S18:=S17.trans s18
    walk_at "r"
    refine ⟨A5,fun a19 h19=>?_⟩
    have s19:=Same.upd (o:=.tup [.ref a12,.ref a18]) h19
    have e19:upd H18 a19 (.tup [.ref a12,.ref a18]) a19=some (.tup [.ref a12,.ref a18]):=Ac
    revert s19 e19
    generalize upd H18 a19 (.tup [.ref a12,.ref a18])=H19
    intro s19 e19
    clear h19
    have S19:=S18.trans s19
    have t19:=Same.refl H19
    have t18:=s19.trans t19
    have t17:=s18.trans t18
    have t16:=s17.trans t17
    have t15:=s16.trans t16
    have t14:=s15.trans t15
    have t13:=s14.trans t14
    have t12:=s13.trans t13
    have t11:=s12.trans t12
    have t10:=s11.trans t11
    refine ret _ _ _ (.tup [.flat (.str ot),.flat (.str nm)]) [y] _ _ S19 (SqT.of (t19 _ _ e19)) (t18 _ _ e18) (.inr ⟨_,[.str ot,.str nm],rfl,(SqT.of (t12 _ _ e12)),rfl,rfl⟩) ⟨fun h=>by rcases h with h | h | h <;> exact absurd h (by decide +kernel),fun _=>⟨ot,nm,rfl⟩⟩ (Fl (by decide +kernel)) (.fn (.inr rfl)) rfl (fun j v kk f1 f2=>?_) (fun xx hx=>?_) f18
    ·match j,f1,f2 with
     | 0,f1,f2=>cases f1;cases f2;exact ⟨_,_,_,rfl,(SqT.of (t17 _ _ e17)),((hy.same S2.t).same t10.t),(d16.same t16),.inr f16⟩
    ·simp only [O5,Pd,or_false] at hx
     have e:=hx
     ·rw [e];exact ⟨gy,by have:=Zc9 x y;omega⟩
noncomputable def WsAt (K:Oz)(H:Hp)(v:V)(x:List Nat×Kd):Prop:=∃(e p:Addr)(g:V),v=.ref e/\SqT K H e [.ref p,g]/\H p=some (.tup (Bk x.1))/\KdAt K H g x.2
theorem WsAt.same {H H':Hp}(s:SameT H H')(v:V)(x:List Nat×Kd)(h:WsAt K H v x):WsAt K H' v x:=let ⟨e,p,g,h1,h2,h3,h4⟩:=h;⟨e,p,g,h1,s.tup h2,(s p).1 _ h3,h4.same s⟩
theorem Bd1.set {d:Addr}{H:Hp}{xs ys:List V}(e:H d=some (.lst xs)):Bd1 d H (upd H d (.lst ys)):=⟨fun x o n h=>by rw [Ag n];exact h,SameT.set e⟩
structure BlI (K:Oz)(H:Hp)(pc:Addr)(kv:V)(pa pn pp pw:Addr)(ns:List Int)(k:Kd)(ar:List (Str×Kd))(pl:List Nat)(wv:List V):Prop where
 c:H pc=some (.lst (ns.map V.int))
 cl:ns.length<=12
 kd:KdAt K H kv k
 g:Ea k
 d:A0 k+ns.length<=14
 a:EnvAt K H pa ar
 al:ar.length+2 * ns.length<=30
 n:∃ n0 n1 n2 n3:Str,H pn=some (.lst [.str n0,.str n1,.str n2,.str n3])
 p:H pp=some (.tup (Bk pl))
 ple:pl.length+ns.length<=40
 w:H pw=some (.lst wv)
 wl:wv.length+C1 ns.length<=5000
 nc:pc≠pw
 na:pa≠pw
 nn:pn≠pw
noncomputable def F3 (K:Oz)(N:Nat):Sp:=fun vs H Q _=>∃(pc:Addr)(kv:V)(pa pn pp pw:Addr)(ns:List Int)(k:Kd)(ar:List (Str×Kd))(pl:List Nat)(wv:List V),vs=[.ref pc,kv,.ref pa,.ref pn,.ref pp,.ref pw]/\BlI K H pc kv pa pn pp pw ns k ar pl wv/\ns.length < N /\
 ∀(v:V)(t:Tr)(ls:List Kd)(nw:List V)(H':Hp),Bd1 pw H H'->H' pw=some (.lst (wv++nw))->TrAt K H' v t->Du t ar k ls->(∀ x∈ls,A0 x<=14)->t.size<=C1 ns.length->Al (WsAt K H') nw (((walk pl t).map (·.1)).zip ls)->Q v H'
structure Bw (p q:Addr)(H H':Hp):Prop where
 b:∀ x o,x≠p->x≠q->H x=some o->H' x=some o
 t:SameT H H'
theorem Bw.trans {p q:Addr}{H H1 H2:Hp}(s:Bw p q H H1)(r:Bw p q H1 H2):Bw p q H H2:=⟨fun x o n m e=>r.b x o n m (s.b x o n m e),s.t.trans r.t⟩
theorem Bw.of {p q:Addr}{H H':Hp}(s:Same H H'):Bw p q H H':=⟨fun x o _ _ e=>s x o e,s.t⟩
theorem Bw.one {p q:Addr}{H H':Hp}(s:Bd1 p H H'):Bw p q H H':=⟨fun x o n _ e=>s.b x o n e,s.t⟩
theorem Bw.two {p q:Addr}{H:Hp}{xs ys:List V}(e:H q=some (.lst xs)):Bw p q H (upd H q (.lst ys)):=⟨fun x o _ n h=>by rw [Ag n];exact h,SameT.set e⟩
theorem EnvAt.bw {H H':Hp}{a p q:Addr}{ar:List (Str×Kd)}(h:EnvAt K H a ar)(s:Bw p q H H')(n:a≠p)(m:a≠q):EnvAt K H' a ar:=by
 obtain ⟨vs,e,al⟩:=h.e
 exact ⟨⟨vs,s.b _ _ n m e,al.mono (PrAt.same s.t)⟩,h.d,h.l⟩
theorem Znw {w:Str}{n:Dt}{h:Kd}{j:Nat}{ws:List Kd}{ar:List (Str×Kd)}:(Dh w n h j ws ar).length<=ar.length+2:=by
 unfold Dh
 rw [O7,Vv]
 have:=nbl3 w n j
 omega
structure BlJ (K:Oz)(H6:Hp)(pw pq e0:Addr)(wv:List V)(pl:List Nat)(wd:Str)(n:Dt)(k:Kd)(ws:List Kd)(ar:List (Str×Kd))(mss:List (List Int))(i:Nat)(H':Hp)(vs nw:List V)(ts:List Tr)(lss:List (List Kd)):Prop where
 b:Bw pw pq H6 H'
 eq:H' pq=some (.lst vs)
 ew:H' pw=some (.lst (wv++[.ref e0]++nw))
 tr:Al (TrAt K H') vs ts
 lt:ts.length=i
 ll:lss.length=i
 bt:∀(j:Nat)(t:Tr)(kk:Kd)(l:List Kd),ts[j]?=some t->ws[j]?=some kk->lss[j]?=some l->Du t (Dh wd n k j ws ar) kk l
 sz:Bs ts<=D5 (mss.take i)
 fl:lss.flatten.length=Bs ts
 dl:∀ x∈lss.flatten,A0 x<=14
 aw:Al (WsAt K H') nw (((Bf pl 0 ts).map (·.1)).zip lss.flatten)
theorem sc_law_built:Bo ["_law_cells", "_law_kind", "_law_around", "_law_names_here", "_law_place", "_law_wished", "_law_cell", "_law_word_here", "_law_name", "_law_note", "_law_wishes_here", "_law_shares_here", "_law_parts", "_law_k", "_law_wish", "_law_bound"] ["_law_cells", "_law_kind", "_law_around", "_law_names_here", "_law_place", "_law_wished"] (Bg Gq):=by walk_at "sc"
theorem Zng {N:Nat}{f:Addr}{fd:FuncData}(F:Fun K "_law_built" "_law_built" Gq f fd)(T:Txt K mg)(C__law_leaf:A9 P w K mg base 2 "_law_leaf" ["_law_cell", "_law_kind", "_law_around"] (Mg K))(C__law_word:A9 P w K mg base 1 "_law_word" ["_law_cell", "_law_kind"] (Zae K))(C__law_wishes:A9 P w K mg base 2 "_law_wishes" ["_law_word_here", "_law_cell", "_law_kind", "_law_name", "_law_other", "_law_around"] (Mq K))(C__law_shares:A9 P w K mg base 1 "_law_shares" ["_law_rest", "_law_many", "_law_turn"] (Nj K))
  (C__law_built:A9 P w K mg base (N+2) "_law_built" ["_law_cells", "_law_kind", "_law_around", "_law_names_here", "_law_place", "_law_wished"] (F3 K N)):Bc P w K mg base Be (N+3) f fd ["_law_cells", "_law_kind", "_law_around", "_law_names_here", "_law_place", "_law_wished"] (F3 K (N+1)):=by
 refine F.okq sc_law_built (fun vs H Q E h=>?_) (fun cdv A outer s H vs Q E hr h=>?_)
 ·obtain ⟨pc,kv,pa,pn,pp,pw,ns,k,ar,pl,wv,rfl,_⟩:=h
  rfl
 ·obtain ⟨pc,kv,pa,pn,pp,pw,ns,k,ar,pl,wv,rfl,B,hN,ret⟩:=h
  refine ⟨_,Af (Cp (C0 K Pz Qe Qf De (qv 5) (Aa (Ao (Aa (qv 4) (Aa (qv 1) Ab))) Ab)))
   (Af (A7 (Az Jd (Cs (Dl K) (by rfl) T.len (by decide +kernel) (Aa (qv 0) Ab)) Ah (Ay _)) (Ai (Ar (Ba C__law_leaf (hr.mono (by omega)) (Aa (Cs (Zgl K rfl) (by rfl) T.sum (by decide +kernel) (Aa (qv 0) Ab)) (Aa (qv 1) (Aa (qv 2) Ab)))))) A8)
   (Af (Av 6 sc_law_built (Am K (qv 0) Ah))
   (Af (Av 7 sc_law_built (Ba C__law_word (hr.mono (by omega)) (Aa (qv 6) (Aa (qv 1) Ab))))
   (Af (Av 8 sc_law_built (Am K (qv 3) (A6 Cb (A6 Ej (qv 6) Ah) Ah)))
   (Af (Ga (Ba C__law_wishes (hr.mono (by omega)) (Aa (qv 7) (Aa (qv 6) (Aa (qv 1) (Aa (qv 8) (Aa (Am K (qv 3) (A6 Cb (A6 Ej (qv 6) Ah) Ah)) (Aa (qv 2) Ab))))))) (Cr K (n:=2) rfl (Bm (A4 (i:=9) sc_law_built.nd rfl (Or.inl rfl)) (Bm (A4 (i:=10) sc_law_built.nd rfl (Or.inl rfl)) (Ct)))))
   (Af (Av 11 sc_law_built (Ba C__law_shares (hr.mono (by omega)) (Aa (Fb (Fv K) (qv 0) (Eb Ah) (Fx)) (Aa (Cs (Dl K) (by rfl) T.len (by decide +kernel) (Aa (qv 10) Ab)) (Aa (A6 Ej (qv 6) Ah) Ab)))))
   (Af (Av 12 sc_law_built (Ax Ab))
   (Af (Co Pq rfl (Gj rfl T.range (Aa (Cs (Dl K) (by rfl) T.len (by decide +kernel) (Aa (qv 10) Ab)) Ab)) (A4 (i:=13) sc_law_built.nd rfl (Or.inl rfl)) (Af (Ga (Am K (qv 10) (qv 13)) (Cr K (n:=2) rfl (Bm (A4 (i:=14) sc_law_built.nd rfl (Or.inl rfl)) (Bm (A4 (i:=15) sc_law_built.nd rfl (Or.inl rfl)) (Ct)))))
   (Ai (Cp (C0 K Pz Qe Qf De (qv 12) (Aa (Ba C__law_built (hr.mono (by omega)) (Aa (Am K (qv 11) (qv 13)) (Aa (qv 14) (Aa (qv 15) (Aa (qv 3) (Aa (A6 (Lw K) (qv 4) (Ao (Aa (qv 13) Ab))) (Aa (qv 5) Ab))))))) Ab))))))
   (Ai (Ar (Ao (Aa (qv 7) (Aa (qv 9) (Aa (F4 (Ze0 K) (by rfl) T.tuple (by decide +kernel) (Aa (qv 12) Ab)) Ab)))))))))))))),?_⟩
  have bg:=big
  have hb:=Zp7 ns.length
  have hwl:=B.wl
  have hcl:=B.cl
  walk_at "r"
  refine B5 (SqL.of B.w) ?_
  walk_at "r"
  refine ⟨A5,fun e0 he0=>?_⟩
  have s0:=Same.upd (o:=.tup [.ref pp,kv]) he0
  have q0:upd H e0 (.tup [.ref pp,kv]) e0=some (.tup [.ref pp,kv]):=Ac
  revert s0 q0
  generalize upd H e0 (.tup [.ref pp,kv])=H0
  intro s0 q0
  have w0:=s0 _ _ B.w
  walk_at "r"
  refine C3 w0 (by omega) ?_
  have b1:=(Bd1.of (d:=pw) s0).trans (Bd1.set (ys:=wv++[.ref e0]) w0)
  have w1:upd H0 pw (.lst (wv++[.ref e0])) pw=some (.lst (wv++[.ref e0])):=Ac
  have q1:upd H0 pw (.lst (wv++[.ref e0])) e0=some (.tup [.ref pp,kv]):=((Bd1.set (ys:=wv++[.ref e0]) w0).t e0).1 _ q0
  revert b1 w1 q1
  generalize upd H0 pw (.lst (wv++[.ref e0]))=H1
  intro b1 w1 q1
  clear s0 q0 w0
  have kd1:=B.kd.same b1.t
  have en1:=B.a.bt b1.b b1.t B.na
  have c1:=b1.b _ _ B.nc B.c
  have p1:=(b1.t pp).1 _ B.p
  have ws1:WsAt K H1 (.ref e0) (pl,k):=⟨e0,pp,kv,rfl,SqT.of q1,p1,kd1⟩
  obtain ⟨n0,n1,n2,n3,hn⟩:=B.n
  have n1':=b1.b _ _ B.nn hn
  walk_at "r"
  refine Dx (SqL.of c1) ?_
  walk_at "r"
  refine Bv (fun c=>?_) (fun c=>?_)
  ·walk_at "r"
   refine Znd (SqL.of c1) ?_
   walk_at "r"
   refine ⟨ns.sum,kv,pa,k,ar,rfl,kd1,by have:=B.d;omega,en1,fun v t H2 s2 tv bt sz=>?_⟩
   refine ret v t [k] [.ref e0] H2 (b1.trans (.of s2)) (s2 _ _ w1) tv bt (fun x hx=>by rw [Pi.mp hx];have:=B.d;omega) (by omega) ?_
   obtain ⟨w,n,ts⟩:=t
   have hts:ts=[]:=by
    rw [Tr.size] at sz
    cases ts with
    | nil=>rfl
    | cons x r=>rw [Bs] at sz;cases x;rw [Tr.size] at sz;omega
   subst hts
   rw [walk,Bf]
   exact Al.nil.snoc (WsAt.same s2.t _ _ ws1)
  have hns:2<=ns.length:=by
   have:(2:Int)<=ns.length:=by simpa using c
   omega
  clear c
  have hBd:=B.d
  have hBa:=B.al
  have hBp:=B.ple
  obtain ⟨z,zr,rfl⟩:∃ z zr,ns=z::zr:=by
   cases ns with
   | nil=>simp at hns
   | cons z zr=>exact ⟨z,zr,rfl⟩
  rw [Pb] at hns hBd hBa hBp hcl hN
  have ixn:∀ y:Int,∃ t:Str,B2 [V.str n0,.str n1,.str n2,.str n3] (y % 4)=some (.str t):=fun y=>by
   obtain ⟨v,hv,m⟩:=E5 (xs:=[V.str n0,.str n1,.str n2,.str n3]) (i:=y % 4) (Rf _ (by decide)) (Rp _ (by decide))
   simp only [O5,Pd,or_false] at m
   rcases m with rfl | rfl | rfl | rfl <;> exact ⟨_,hv⟩
  walk_at "r"
  refine Bj (SqL.of c1) (v:=.int z) (Dp (j:=0) rfl) ?_
  walk_at "r"
  refine ⟨z,kv,k,rfl,kd1,B.g,by omega,fun wd H2 s2 hwd=>?_⟩
  obtain ⟨nm,hnm⟩:=ixn (z / 8)
  obtain ⟨ot,hot⟩:=ixn (z / 224)
  walk_at "r"
  refine Bj (SqL.of (s2 _ _ n1')) hnm ?_
  walk_at "r"
  refine Bj (SqL.of (s2 _ _ n1')) hot ?_
  walk_at "r"
  refine ⟨wd,z,kv,nm,ot,pa,k,ar,rfl,kd1.same s2.t,B.g,by omega,en1.same s2,by omega,hwd,fun r l nv n ws pv H3 s3 qr el hnv hsh lf ak hpl hwi hws hlf=>?_⟩
  have s23:=s2.trans s3
  have hlw:l≠pw:=fun z=>by rw [z,s2 _ _ w1] at hlf;cases hlf
  walk_at "r"
  refine Cm qr rfl ?_
  walk_at "r"
  refine Nl (SqL.of (s23 _ _ c1)) fun p4 h4=>?_
  have e4:Bz ((z::zr).map V.int) (some ((1:Nat):Int)) none=zr.map V.int:=by rw [Zn6];rfl
  have e4:Bz ((z::zr).map V.int) (some 1) none=zr.map V.int:=e4
  rw [e4]
  have s4:=Same.upd (o:=.lst (zr.map V.int)) h4
  have f4:upd H3 p4 (.lst (zr.map V.int)) p4=some (.lst (zr.map V.int)):=Ac
  revert s4 f4
  generalize upd H3 p4 (.lst (zr.map V.int))=H4
  intro s4 f4
  walk_at "r"
  refine Dx (SqL.of (s4 _ _ el)) ?_
  walk_at "r"
  have har:=Zbz ak
  have hm3:pv.length=1\/pv.length=2\/pv.length=3:=by
   rw [hpl]
   cases ak with
   | nil hw =>
    simp only [O5,Pd,or_false] at hw
    rcases hwd with h | h | h | ⟨_,h | h⟩ | ⟨_,h⟩ | ⟨_,_,_,h | h⟩ <;> rcases hw with e | e | e | e | e <;> exact absurd (h.symm.trans e) (by decide +kernel)
   | plus _=>exact .inr (.inl rfl)
   | less=>exact .inr (.inl rfl)
   | ite=>exact .inr (.inr rfl)
   | call=>exact .inr (.inl rfl)
   | lt=>exact .inr (.inl rfl)
   | fn _=>exact .inl rfl
  refine ⟨p4,zr,pv.length,z / 896,rfl,f4,by omega,hm3,fun L us mss H5 s5 eL al lm tm=>?_⟩
  have S5:=s23.trans (s4.trans s5)
  walk_at "r"
  refine ⟨Br,fun pq hpq=>?_⟩
  have s6:=Same.upd (o:=.lst []) hpq
  have f6:upd H5 pq (.lst []) pq=some (.lst []):=Ac
  revert s6 f6
  generalize upd H5 pq (.lst [])=H6
  intro s6 f6
  have S6:=S5.trans s6
  have b6:=b1.trans (Bd1.of (d:=pw) S6)
  have w6:=S6 _ _ w1
  have q6:=S6 _ _ q1
  have npq:pq≠pw:=(Aw (S5 _ _ w1) hpq).symm
  have el6:H6 l=some (.lst pv):=(s4.trans (s5.trans s6)) _ _ el
  have eL6:=s6 _ _ eL
  have al6:Al (ShL H6) us mss:=al.mono fun v x ⟨p,h1,h2⟩=>⟨p,h1,s6 _ _ h2⟩
  have nLw:L≠pw:=fun z=>by
   rw [z,w6] at eL6
   injection eL6 with e
   injection e with e
   have hlast:us[wv.length]?=some (.ref e0):=by rw [<- e];simp
   obtain ⟨ms,_,p,h1,h2⟩:=al6.get hlast
   cases h1
   rw [q6] at h2
   cases h2
  have nSw:∀(j:Nat)(p:Addr)(ms:List Int),us[j]?=some (.ref p)->mss[j]?=some ms->p≠pw:=fun j p ms h1 h2 z=>by
   obtain ⟨p',h3,h4⟩:=al6.2 j _ _ h1 h2
   cases h3
   rw [z,w6] at h4
   injection h4 with e
   injection e with e
   have:V.ref e0∈ms.map V.int:=by rw [<- e];simp
   obtain ⟨_,_,z⟩:=Q8.mp this
   cases z
  have nql:pq≠l:=fun z=>by rw [z,(s4.trans s5) _ _ el] at hpq;cases hpq
  have nqL:pq≠L:=fun z=>by rw [z,eL] at hpq;cases hpq
  walk_at "r"
  refine Dx (SqL.of el6) ?_
  walk_at "r"
  refine ⟨by omega,by omega,?_⟩
  have hwsl:ws.length=pv.length:=hpl.symm
  have hbl:=Zoh (mss:=mss) (n:=zr.length) (by rw [lm];exact hm3) (by omega) tm
  have hbe:C1 (zr.length+1)=3 * zr.length+1:=by unfold C1;omega
  have hwl':wv.length+(3 * zr.length+1)<=5000:=by rw [<- hbe];exact hwl
  refine Jt (n:=((pv.length:Nat):Int).toNat) (fun i σ' H'=>∃ v13 v14 v15 vs nw ts lss,σ'=[some (.ref pc),some kv,some (.ref pa),some (.ref pn),some (.ref pp),some (.ref pw),some (.int z),some (.str wd),some (.str nm),some nv,some (.ref l),some (.ref L),some (.ref pq),v13,v14,v15]/\BlJ K H6 pw pq e0 wv pl wd n k ws ar mss i H' vs nw ts lss)
   ⟨_,_,_,[],[],[],[],rfl,⟨.of (Same.refl _),f6,by rw [Pw];exact w6,.nil,rfl,rfl,(fun j t kk l h=>by simp at h),by rw [Bs];omega,by rw [Bs];rfl,(fun x h=>nomatch h),by rw [Bf];exact .nil⟩⟩ ?_ ?_
  ·rintro i σ' HA hi ⟨v13,v14,v15,vs,nw,ts,lss,rfl,J⟩
   have hi:i < pv.length:=by rw [Qy] at hi;exact hi
   have ei:(0:Int)+((i:Nat):Int)=((i:Nat):Int):=by omega
   rw [ei]
   obtain ⟨pvi,hpvi⟩:∃ v,pv[i]?=some v:=⟨_,O1 hi⟩
   obtain ⟨kk,hkk⟩:∃ kk,ws[i]?=some kk:=⟨_,O1 (by omega)⟩
   obtain ⟨ui,hui⟩:∃ u,us[i]?=some u:=⟨_,O1 (by have:=al.1;omega)⟩
   obtain ⟨ms,hms,ps,rfl,eps⟩:=al.get hui
   obtain ⟨e,g,ea,rfl,qe,qg,qa,hav⟩:=hwi i pvi kk hpvi hkk
   have S36:=s4.trans (s5.trans s6)
   have neaw:ea≠pw:=by
    rcases hav with rfl | h
    ·exact B.na
    ·exact fun z=>by rw [z,s2 _ _ w1] at h;cases h
   obtain ⟨evs,eev,_⟩:=qa.e
   have neaq:ea≠pq:=fun z=>by rw [z] at eev;rw [(s4.trans s5) _ _ eev] at hpq;cases hpq
   have npsq:ps≠pq:=fun z=>by rw [z,hpq] at eps;cases eps
   have npsw:=nSw i ps ms hui hms
   have nnq:pn≠pq:=fun z=>by have:=S5 _ _ n1';rw [z,hpq] at this;cases this
   have hmsl:ms.length<=zr.length:=by rw [<- tm];exact Zlf (Qb hms)
   obtain ⟨gk,dk⟩:=hws kk (Qb hkk)
   have hbs:D5 (mss.take (i+1))=D5 (mss.take i)+C1 ms.length:=by rw [Qn,hms];exact Zoc _ _
   have hbt:D5 (mss.take (i+1))<=D5 mss:=by
    unfold D5
    have e:mss.map (fun m=>C1 m.length)=(mss.take (i+1)).map (fun m=>C1 m.length)++(mss.drop (i+1)).map (fun m=>C1 m.length):=by rw [<- P6,List.take_append_drop]
    rw [e,List.sum_append]
    omega
   have hnwl:nw.length=Bs ts:=by rw [J.aw.1,Vv,O6,Lm,J.fl];omega
   have hJs:=J.sz
   walk_at "r"
   refine Bj (SqL.of (J.b.b _ _ hlw nql.symm el6)) (Dp (j:=i) hpvi) ?_
   walk_at "r"
   refine Cm (J.b.t.tup (S36.tup qe)) rfl ?_
   walk_at "r"
   refine B5 (SqL.of J.eq) ?_
   walk_at "r"
   refine Bj (SqL.of (J.b.b _ _ nLw nqL.symm eL6)) (Dp (j:=i) hui) ?_
   walk_at "r"
   refine ⟨Bx,fun p8 h8=>?_⟩
   have s8:=Same.upd (o:=.tup [.int ((i:Nat):Int)]) h8
   have pp6:H6 pp=some (.tup (Bk pl)):=S6 _ _ p1
   refine .inr ⟨pp,p8,_,_,rfl,rfl,s8 _ _ ((J.b.t pp).1 _ pp6),Ac,by show (Bk pl).length+1<=sizeLine;unfold Bk;rw [O6];omega,fun pP H9 s9 epP=>?_⟩
   rw [<- Zey] at epP
   have s89:=s8.trans s9
   have b9:Bw pw pq H6 H9:=J.b.trans (.of s89)
   walk_at "r"
   refine ⟨ps,g,ea,pn,pP,pw,ms,kk,Dh wd n k i ws ar,pl++[i],_,rfl,⟨b9.b _ _ npsw npsq (s6 _ _ eps),by omega,(qg.same S36.t).same b9.t,gk,by omega,(qa.same S36).bw b9 neaw neaq,?_,⟨n0,n1,n2,n3,b9.b _ _ B.nn nnq (S6 _ _ n1')⟩,epP,by rw [O7,Pr];omega,s89 _ _ J.ew,?_,npsw,neaw,B.nn⟩,by omega,fun v t ls nw2 H10 b10 ew10 tv bt dls sz aw=>?_⟩
   ·have:=Znw (w:=wd) (n:=n) (h:=k) (j:=i) (ws:=ws) (ar:=ar)
    omega
   ·rw [O7,O7,Pr]
    omega
   have eq10:=b10.b _ _ npq (s89 _ _ J.eq)
   walk_at "r"
   refine C3 eq10 (by rw [J.tr.1,J.lt];omega) ?_
   have b11:Bw pw pq H10 (upd H10 pq (.lst (vs++[v]))):=.two eq10
   have e11:upd H10 pq (.lst (vs++[v])) pq=some (.lst (vs++[v])):=Ac
   have C2:upd H10 pq (.lst (vs++[v])) pw=some (.lst (wv++[.ref e0]++nw++nw2)):=by rw [Ag npq.symm];exact ew10
   revert b11 e11 C2
   generalize upd H10 pq (.lst (vs++[v]))=H11
   intro b11 e11 C2
   have bA:Bw pw pq HA H11:=(Bw.of s89).trans ((Bw.one b10).trans b11)
   have hls:=Zfd _ _ _ _ bt
   refine ⟨_,_,_,vs++[v],nw++nw2,ts++[t],lss++[ls],rfl,⟨J.b.trans bA,e11,by rw [<- P5];exact C2,(J.tr.mono fun _ _ h=>h.sameT bA.t).snoc (tv.sameT b11.t),by rw [O7,J.lt];rfl,by rw [O7,J.ll];rfl,fun j t' k' l' h1 h2 h3=>?_,?_,?_,?_,?_⟩⟩
   ·by_cases hj:j < i
    ·rw [Py (by rw [J.lt];exact hj)] at h1
     rw [Py (by rw [J.ll];exact hj)] at h3
     exact J.bt j t' k' l' h1 h2 h3
    ·have hj2:j < (ts++[t]).length:=(Pa.mp h1).1
     rw [O7,Pr,J.lt] at hj2
     have ej:j=i:=by omega
     subst ej
     rw [Px (by rw [J.lt];exact O2 _),J.lt,Ri] at h1
     rw [Px (by rw [J.ll];exact O2 _),J.ll,Ri] at h3
     cases h1
     cases h3
     rw [hkk] at h2
     cases h2
     exact bt
   ·rw [Zbr,Bs,Bs,hbs]
    omega
   ·rw [Va,O7,J.fl,Zbr,Bs,Bs]
    simp [hls]
   ·intro x hx
    rw [Va,Q3,List.flatten_nil,Pw] at hx
    rcases Pm.mp hx with hx | hx
    ·exact J.dl x hx
    ·exact dls x hx
   ·rw [Zfb,J.lt,Rj,Bf,Bf,Pw,P6,Va,Q3,List.flatten_nil,Pw,List.zip_append (by rw [O6,Lm,J.fl])]
    exact (J.aw.mono (WsAt.same bA.t)).append (aw.mono (WsAt.same b11.t))
  ·rintro σ' HA ⟨v13,v14,v15,vs,nw,ts,lss,rfl,J⟩
   have hlt:ts.length=pv.length:=by have:=J.lt;rwa [Qy] at this
   have hll:lss.length=pv.length:=by have:=J.ll;rwa [Qy] at this
   have hsz:Bs ts<=D5 mss:=by
    have:=J.sz
    rwa [Qw (by rw [Qy,lm];exact O2 _)] at this
   walk_at "r"
   refine Zen (SqL.of J.eq) fun pt hpt=>?_
   have sA:=Same.upd (o:=.tup vs) hpt
   have eA:upd HA pt (.tup vs) pt=some (.tup vs):=Ac
   revert sA eA
   generalize upd HA pt (.tup vs)=HB
   intro sA eA
   walk_at "r"
   refine ⟨Bp,fun pr hpr=>?_⟩
   have sB:=Same.upd (o:=.tup [.str wd,nv,.ref pt]) hpr
   have eB:upd HB pr (.tup [.str wd,nv,.ref pt]) pr=some (.tup [.str wd,nv,.ref pt]):=Ac
   revert sB eB
   generalize upd HB pr (.tup [.str wd,nv,.ref pt])=HC
   intro sB eB
   have sAB:=sA.trans sB
   have S36:=s4.trans (s5.trans s6)
   have tAll:=J.tr.mono fun _ _ h=>h.same sAB
   refine ret (.ref pr) (.mk wd n ts) (k::lss.flatten) ([.ref e0]++nw) HC ?_ ?_ (.mk (SqT.of eB) (((hnv.same S36.t).same J.b.t).same sAB.t) (SqT.of (sB _ _ eA)) tAll.1 tAll.2) (.mk hsh lf ak (Zav ts lss 0 (by omega) (by omega) fun j t kk l h1 h2 h3=>?_)) (fun x hx=>?_) ?_ ?_
   ·refine ⟨fun x o nx hx=>?_,b6.t.trans (J.b.t.trans sAB.t)⟩
    have h6:=b6.b x o nx hx
    have h5:=(b1.trans (.of S5)).b x o nx hx
    exact sAB _ _ (J.b.b x o nx (fun z=>by rw [z,hpq] at h5;cases h5) h6)
   ·rw [<- P5]
    exact sAB _ _ J.ew
   ·rw [Rj] at h2 ⊢
    exact J.bt j t kk l h1 h2 h3
   ·rcases O5.mp hx with rfl | hx
    ·omega
    ·exact J.dl x hx
   ·rw [Tr.size,Pb,hbe]
    omega
   ·rw [walk,Qa,Vg]
    exact Ds ⟨e0,pp,kv,rfl,SqT.of ((J.b.t.trans sAB.t e0).1 _ q6),((b6.t.trans (J.b.t.trans sAB.t)) pp).1 _ B.p,B.kd.same (b6.t.trans (J.b.t.trans sAB.t))⟩ (J.aw.mono (WsAt.same sAB.t))
noncomputable def Gg (K:Oz)(N:Nat):Sp:=fun vs H Q _=>∃(u v:V)(d:Addr)(tk k:Kd)(ρ:Nat->Kd)(kvs:List (Ap×V)),vs=[u,v,.ref d]/\KdAt K H u tk/\KdAt K H v k/\B7 ρ tk=k/\A0 k<=14/\A0 tk < N/\H d=some (.dK kvs)/\DkN K H kvs ρ/\kvs.length+2 ^ A0 tk<=1900000/\∀(kvs':List (Ap×V))(H':Hp),Bd1 d H H'->H' d=some (.dK kvs')->DkN K H' kvs' ρ->kvs'.length<=kvs.length+2 ^ A0 tk->Q (.bl true) H'
theorem Zpo:Bo ["_law_told", "_law_kind", "_law_chosen"] ["_law_told", "_law_kind", "_law_chosen"] (Bg G1):=by walk_at "sc"
theorem Zls {n:Nat}{f:Addr}{fd:FuncData}(F:Fun K "_law_case" "_law_case" G1 f fd)(T:Txt K mg)(C__law_case:A9 P w K mg base (n+1) "_law_case" ["_law_told", "_law_kind", "_law_chosen"] (Gg K n)):Bc P w K mg base Be (n+2) f fd ["_law_told", "_law_kind", "_law_chosen"] (Gg K (n+1)):=by
 refine F.okq Zpo (fun vs H Q E h=>?_) (fun cdv A outer s H vs Q E hr h=>?_)
 ·obtain ⟨u,v,d,tk,k,ρ,kvs,rfl,_⟩:=h
  rfl
 ·obtain ⟨u,v,d,tk,k,ρ,kvs,rfl,hu,hv,hi,hd,hn,ed,dk,hl,ret⟩:=h
  refine ⟨_,Af (A7 (Az (Dk K hr.u200) (Am K (qv 0) Ah) Aq (Ay _)) (Af (A7 (Hd (Zao hr.u1 (Am K (qv 0) Ah) (qv 2))) (Ai (E8 hr.u1 (qv 2) (Am K (qv 0) Ah) (qv 1))) A8)
   (Ai (Ar (Jo (Dk K hr.u200) (Gn hr.u1 (qv 2) (Am K (qv 0) Ah) (fun _ _=>rfl)) (qv 1) (Ay _))))) A8)
   (Af (A7 (Az (Od K hr.u200) (Am K (qv 0) Ah) Aq (Ay _)) (Ai (Ar (Jo (Dk K hr.u200) (qv 0) (qv 1) (Ay _)))) A8)
   (Af (A7 (Az (Od K hr.u200) (Am K (qv 1) Ah) Aq (Ay _)) (Ai (Ar Ed)) A8)
   (Ai (Ar (L9 (Ba C__law_case (hr.mono (by omega)) (Aa (Am K (qv 0) Ah) (Aa (Am K (qv 1) Ah) (Aa (qv 2) Ab)))) (Oq (Ba C__law_case (hr.mono (by omega)) (Aa (Am K (qv 0) Ah) (Aa (Am K (qv 1) Ah) (Aa (qv 2) Ab)))))))))),?_⟩
  have bg:=big2
  cases hu with
  | @any a m qk =>
   have hi:ρ m=k:=hi
   walk_at "r"
   refine Au qk (v:=.str "any") rfl ?_
   walk_at "r"
   rw [decide_eq_true (show V.str "any" = V.str "any" from rfl)]
   walk_at "r"
   refine Au qk (v:=.int ((m:Nat):Int)) rfl ?_
   walk_at "r"
   have pw:2 ^ A0 (.any m)=1:=rfl
   rw [pw] at hl ret
   refine ⟨d,_,rfl,DGet.k (k:=.inl ((m:Nat):Int)) ed,?_⟩
   cases hval:Bl kvs (.inl ((m:Nat):Int)) with
   | none =>
    refine ⟨true,rfl,?_⟩
    walk_at "r"
    refine Au qk (v:=.int ((m:Nat):Int)) rfl ?_
    walk_at "r"
    have sp:=Bd1.put (kvs':=Bb kvs (.inl ((m:Nat):Int)) v) ed
    refine ⟨d,_,rfl,DPut.k (k:=.inl ((m:Nat):Int)) ed (by omega),?_⟩
    have e2:upd H d (.dK (Bb kvs (.inl ((m:Nat):Int)) v)) d=some (.dK (Bb kvs (.inl ((m:Nat):Int)) v)):=Ac
    revert sp e2
    generalize upd H d (.dK (Bb kvs (.inl ((m:Nat):Int)) v))=H2
    intro sp e2
    walk_at "r"
    refine Au (sp.t.tup qk) (v:=.int ((m:Nat):Int)) rfl ?_
    walk_at "r"
    refine ⟨d,v,rfl,by
     have e3:Bl (Bb kvs (.inl ((m:Nat):Int)) v) (.inl ((m:Nat):Int))=some v:=by rw [F0,if_pos rfl]
     rw [<- e3]
     exact DGet.k (k:=.inl ((m:Nat):Int)) e2,?_⟩
    walk_at "r"
    refine E9 (hv.same sp.t) (hv.same sp.t) hd hd fun b hb=>?_
    rw [hb.mpr rfl]
    refine ret _ H2 sp e2 (fun i w e=>?_) (Dq _ _ _)
    rw [F0] at e
    by_cases c:(Sum.inl ((i:Nat):Int):Ap)=Sum.inl ((m:Nat):Int)
    ·rw [if_pos c] at e
     cases e
     have:i=m:=by have:=Uz c;omega
     rw [this,hi]
     exact hv.same sp.t
    ·rw [if_neg c] at e
     exact (dk i w e).same sp.t
   | some w =>
    refine ⟨false,rfl,?_⟩
    walk_at "r"
    refine Au qk (v:=.int ((m:Nat):Int)) rfl ?_
    walk_at "r"
    refine ⟨d,w,rfl,by rw [<- hval];exact DGet.k (k:=.inl ((m:Nat):Int)) ed,?_⟩
    walk_at "r"
    refine E9 (dk m w hval) hv (by rw [hi];exact hd) hd fun b hb=>?_
    rw [hb.mpr hi]
    exact ret kvs H (.of (Same.refl _)) ed dk (Q6 _ _)
  | @num a qk =>
   have hi:Kd.num=k:=hi
   subst hi
   walk_at "r"
   refine Au qk (v:=.str "num") rfl ?_
   walk_at "r"
   rw [decide_eq_false (show ¬ V.str "num" = V.str "any" from fun z=>absurd (V.str.inj z) (by decide +kernel))]
   walk_at "r"
   refine Au qk (v:=.str "num") rfl ?_
   walk_at "r"
   rw [decide_eq_false (show ¬ V.str "num" = V.str "to" from fun z=>absurd (V.str.inj z) (by decide +kernel))]
   walk_at "r"
   refine E9 (.num qk) hv (by decide) hd fun b hb=>?_
   rw [hb.mpr rfl]
   exact ret kvs H (.of (Same.refl _)) ed dk (Q6 _ _)
  | @truth a qk =>
   have hi:Kd.truth=k:=hi
   subst hi
   walk_at "r"
   refine Au qk (v:=.str "truth") rfl ?_
   walk_at "r"
   rw [decide_eq_false (show ¬ V.str "truth" = V.str "any" from fun z=>absurd (V.str.inj z) (by decide +kernel))]
   walk_at "r"
   refine Au qk (v:=.str "truth") rfl ?_
   walk_at "r"
   rw [decide_eq_false (show ¬ V.str "truth" = V.str "to" from fun z=>absurd (V.str.inj z) (by decide +kernel))]
   walk_at "r"
   refine E9 (.truth qk) hv (by decide) hd fun b hb=>?_
   rw [hb.mpr rfl]
   exact ret kvs H (.of (Same.refl _)) ed dk (Q6 _ _)
  | @to a u1 u2 x y qk hx hy =>
   have hi:Kd.to (B7 ρ x) (B7 ρ y)=k:=hi
   subst hi
   cases hv with
   | @to b v1 v2 _ _ qv h1 h2 =>
   have dp:A0 (.to x y)=max (A0 x) (A0 y)+1:=rfl
   have dq:A0 (.to (B7 ρ x) (B7 ρ y))=max (A0 (B7 ρ x)) (A0 (B7 ρ y))+1:=rfl
   have pw:2 ^ A0 x+2 ^ A0 y<=2 ^ A0 (.to x y):=by
    rw [dp,Nat.pow_succ]
    have a1:=T9 (show 0 < 2 by decide) (Nat.le_max_left (A0 x) (A0 y))
    have a2:=T9 (show 0 < 2 by decide) (Nat.le_max_right (A0 x) (A0 y))
    omega
   have px:=Nat.one_le_two_pow (n:=A0 x)
   have py:=Nat.one_le_two_pow (n:=A0 y)
   walk_at "r"
   refine Au qk (v:=.str "to") rfl ?_
   walk_at "r"
   rw [decide_eq_false (show ¬ V.str "to" = V.str "any" from fun z=>absurd (V.str.inj z) (by decide +kernel))]
   walk_at "r"
   refine Au qk (v:=.str "to") rfl ?_
   walk_at "r"
   rw [decide_eq_true (show V.str "to" = V.str "to" from rfl)]
   walk_at "r"
   refine Au qv (v:=.str "to") rfl ?_
   walk_at "r"
   rw [decide_eq_true (show V.str "to" = V.str "to" from rfl)]
   walk_at "r"
   refine Au qk (v:=u1) rfl ?_
   walk_at "r"
   refine Au qv (v:=v1) rfl ?_
   walk_at "r"
   refine ⟨u1,v1,d,x,_,ρ,kvs,rfl,hx,h1,rfl,by omega,by omega,ed,dk,by omega,fun kvs1 H1 s1 ed1 dk1 hl1=>?_⟩
   walk_at "r"
   refine Au (s1.t.tup qk) (v:=u2) rfl ?_
   walk_at "r"
   refine Au (s1.t.tup qv) (v:=v2) rfl ?_
   walk_at "r"
   refine ⟨u2,v2,d,y,_,ρ,kvs1,rfl,hy.same s1.t,h2.same s1.t,rfl,by omega,by omega,ed1,dk1,by omega,fun kvs2 H2 s2 ed2 dk2 hl2=>?_⟩
   walk_at "r"
   exact ret kvs2 H2 (s1.trans s2) ed2 dk2 (by omega)
noncomputable def LETS:Str := "abcdefghijklmnopqrstuvwxyz_"
theorem Zhh:LETS.cps.toList.length=27:=by decide +kernel
theorem Zou:LETS.length<=sizeLine:=by decide +kernel
theorem Zas (u v:Str):(u++v).length=u.length+v.length:=by
 show (u.cps++v.cps).size=_
 simp [Str.length]
theorem Ze8 (c:Nat):(⟨#[c]⟩:Str).length=1:=rfl
noncomputable def Zef:Sp:=fun vs H Q _=>∃(a b:Int),vs=[.int a,.int b]/\∀(p:Addr)(ts:List Str)(H':Hp),Same H H'->H p=none->ts.length=4->(∀ t∈ts,t.length<=100)->H' p=some (.lst (ts.map V.str))->Q (.ref p) H'
theorem Zpg:(["_law_k", "_law_primes", "_law_cell"]:List Str).Nodup:=by decide +kernel
theorem sc_law_names:Bo ["_law_cell", "_law_at", "_law_letters", "_law_primes", "_law_size", "_law_base", "_law_names_here", "_law_k", "_law_name", "_law_j"] ["_law_cell", "_law_at"] (Bg Hs):=by walk_at "sc"
noncomputable def PRI:List V:=[.int 1009,.int 1013,.int 1019,.int 1021,.int 1031,.int 1033,.int 1039,.int 1049]
theorem Zkl {i:Int}(h0:0<=i)(h1:i < 8):∃ z:Int,B2 PRI i=some (.int z)/\0 < z/\z < 2000:=by
 obtain ⟨v,hv,m⟩:=E5 (xs:=PRI) (i:=i) h0 h1
 simp only [PRI,O5,Pd,or_false] at m
 rcases m with rfl | rfl | rfl | rfl | rfl | rfl | rfl | rfl <;> exact ⟨_,hv,by decide,by decide⟩
noncomputable def NmJ (H:Hp)(a b:Int)(R D p:Addr)(ms:List Int)(j:Nat)(σ':St)(H':Hp):Prop:=∃(v7 v8 v9:Option V)(ts:List Str),σ'=[some (.int a),some (.int b),some (.str LETS),some (.ref R),some (.int (1+a % 8)),some (.ref D),some (.ref p),v7,v8,v9]/\H' D=some (.lst (ms.map V.int))/\H' p=some (.lst (ts.map V.str))/\ts.length=j/\(∀ t∈ts,t.length<=100)/\Same H H'
theorem Zpm {f:Addr}{fd:FuncData}(F:Fun K "_law_names" "_law_names" Hs f fd)(T:Txt K mg):Bc P w K mg base Be 1 f fd ["_law_cell", "_law_at"] Zef:=by
 refine F.okq sc_law_names (fun vs H Q E h=>?_) (fun cdv A outer s H vs Q E hr h=>?_)
 ·obtain ⟨a,b,rfl,_⟩:=h
  rfl
 ·obtain ⟨a,b,rfl,q⟩:=h
  refine ⟨_,Af (Av 2 sc_law_names Aq)
   (Af (G0 (i:=3) sc_law_names.nd rfl (Or.inr rfl) (Ax (Js (xs:=[.int 1009,.int 1013,.int 1019,.int 1021,.int 1031,.int 1033,.int 1039,.int 1049]) rfl)))
   (Af (Av 4 sc_law_names (A6 (Ei K) Ah (A6 Cb (qv 0) Ah)))
   (Af (Lu (i:=5) (N:=["_law_k", "_law_primes", "_law_cell"]) (σ0:=Dc 1 [3,0]) rfl (Er rfl (by decide +kernel) (by decide +kernel) (by decide +kernel)) (Gj rfl T.range (Aa (qv 4) Ab)) (Es rfl (by rfl)) (fun _ _ _ _=>A4 (i:=0) Zpg rfl (Or.inl rfl)) (fun _ _ _ _=>Gf) (fun _ _ _ _=>A6 Cb (A6 Cb (A6 Ha (A6 Ej (qv 2) Ah) Ah) (Am K (qv 1) (qv 0))) Ah) sc_law_names.nd rfl (Or.inl rfl))
   (Af (Av 6 sc_law_names (Ax Ab))
   (Af (Co Pq rfl (Gj rfl T.range (Aa Ah Ab)) (A4 (i:=7) sc_law_names.nd rfl (Or.inl rfl)) (Af (Av 8 sc_law_names Aq)
   (Af (Co Pq rfl (Gj rfl T.range (Aa (qv 4) Ab)) (A4 (i:=9) sc_law_names.nd rfl (Or.inl rfl)) (Ai (Av 8 sc_law_names (A6 (Ei K) (qv 8) (Am K (qv 2) (A6 Cb (A6 (Ei K) (Am K (qv 5) (qv 9)) (A6 Ha (qv 7) (F4 Zlu (by rfl) T.int (by decide +kernel) (Aa (Jo (B3 K hr.u200) (qv 9) (A6 Cb (qv 1) (qv 4)) (Ay _)) Ab)))) Ah))))))
   (Af (A7 (Az (Lk K) (qv 8) (Ax (Js (xs:=[.str "let",.str "in",.str "if",.str "then",.str "else",.str "fn",.str "rec",.str "yes",.str "no"]) rfl)) (by rfl)) (Ai (Av 8 sc_law_names (A6 (Ei K) (qv 8) Aq))) A8)
   (Ai (Cp (C0 K Pz Qe Qf De (qv 6) (Aa (qv 8) Ab))))))))
   (Ai (Ar (qv 6)))))))),?_⟩
  have bg:=big
  have hs0:0<=a % 8:=Rf a (by decide)
  have hs1:a % 8 < 8:=Rp a (by decide)
  walk_at "r"
  refine ⟨sz8,fun R hR=>?_⟩
  have s0:Same H (upd H R (.lst [V.int 1009,V.int 1013,V.int 1019,V.int 1021,V.int 1031,V.int 1033,V.int 1039,V.int 1049])):=Same.upd hR
  have e0:upd H R (.lst [V.int 1009,V.int 1013,V.int 1019,V.int 1021,V.int 1031,V.int 1033,V.int 1039,V.int 1049]) R=some (.lst PRI):=Ac
  revert s0 e0
  generalize upd H R (.lst [V.int 1009,V.int 1013,V.int 1019,V.int 1021,V.int 1031,V.int 1033,V.int 1039,V.int 1049])=H0
  intro s0 e0
  walk_at "r"
  refine ⟨by omega,by omega,fun D hD=>?_⟩
  have nR:R≠D:=fun z=>by rw [z,hD] at e0;cases e0
  refine Ls (Pv:=fun i ys σ' H'=>∃ kv ms,σ'=[kv,some (.ref R),some (.int a)]/\ys=ms.map V.int/\ms.length=i/\Same H0 H') ⟨none,[],rfl,rfl,rfl,Same.upd hD⟩ ?_ ?_
  ·rintro i ys σ' H' hi hys ⟨kv,ms,rfl,rfl,hl,hH⟩
   obtain ⟨z,hz,z0,z1⟩:=Zkl (i:=0+(i:Int)) (by omega) (by omega)
   walk_at "r"
   refine Bj (SqL.of (hH _ _ e0)) hz ?_
   walk_at "r"
   refine s_rI z0 ?_
   walk_at "r"
   refine ⟨_,hys,by rw [O6];omega,_,Ac,?_⟩
   exact ⟨_,ms++[_],rfl,by rw [P6];rfl,by simp [hl],hH.over hD⟩
  ·rintro ys σ' H1 hys ⟨kv,ms,rfl,rfl,hl,hH⟩
   walk_at "r"
   refine ⟨Br,fun p hp=>?_⟩
   have hpD:D≠p:=fun z=>by rw [z,hp] at hys;cases hys
   have hp1:H0 p=none:=hH.free hp
   have hp0:H p=none:=s0.free hp1
   have hys':upd H1 p (.lst []) D=some (.lst (ms.map V.int)):=by rw [Ag hpD];exact hys
   walk_at "r"
   refine ⟨by decide,by decide,?_⟩
   refine Jt (n:=4) (NmJ H a b R D p ms) ⟨_,_,_,[],rfl,hys',Ac,rfl,(fun t h=>nomatch h),(s0.trans hH).put hp⟩ ?_ ?_
   ·rintro j σ' H2 hj ⟨v7,v8,v9,ts,rfl,hD2,hp2,hl2,hb2,sm2⟩
    walk_at "r"
    refine ⟨by omega,by omega,?_⟩
    refine Jt (n:=(1+a % 8).toNat) (fun k σ' H'=>∃ v9 t,σ'=[some (.int a),some (.int b),some (.str LETS),some (.ref R),some (.int (1+a % 8)),some (.ref D),some (.ref p),some (.int (0+j)),some (.str t),v9]/\t.length=k/\H'=H2) ⟨_,Str.empty,rfl,rfl,rfl⟩ ?_ ?_
    ·rintro k σ' H3 hk ⟨v9',t,rfl,hl3,rfl⟩
     obtain ⟨v,hv,m⟩:=E5 (xs:=ms.map V.int) (i:=0+(k:Int)) (by omega) (by rw [O6];omega)
     obtain ⟨z,_,rfl⟩:=Q8.mp m
     walk_at "r"
     refine Bj (SqL.of hD2) hv ?_
     walk_at "r"
     refine s_rI (by omega) ?_
     walk_at "r"
     refine s_mul_r (by split <;> decide) (by split <;> decide) ?_
     walk_at "r"
     obtain ⟨c,hc,_⟩:=E5 (xs:=LETS.cps.toList) (i:=(z+(0+(j:Int)) * (if decide (V.int (0+(k:Int))=V.int (b % (1+a % 8)))=true then 1 else 0)) % 27) (Rf _ (by decide)) (by rw [Zhh];exact Rp _ (by decide))
     refine Zlt Zou hc ?_
     refine Zct (by rw [Ze8];omega) ?_
     exact ⟨_,_,rfl,by rw [Zas,Ze8];omega,rfl⟩
    ·rintro σ' H3 ⟨v9',t,rfl,hl3,rfl⟩
     walk_at "r"
     refine ⟨sz9,fun p9 h9=>?_⟩
     refine Em (.inl (SqL.of Ac)) rfl rfl ?_
     have nD:D≠p9:=fun z=>by rw [z,h9] at hD2;cases hD2
     have np:p≠p9:=fun z=>by rw [z,h9] at hp2;cases hp2
     have hpU:∀ o,upd H3 p9 o p=some (.lst (ts.map V.str)):=fun o=>by rw [Ag np];exact hp2
     have hDU:∀ o,upd H3 p9 o D=some (.lst (ms.map V.int)):=fun o=>by rw [Ag nD];exact hD2
     have smU:∀ o,Same H (upd H3 p9 o):=fun o=>sm2.put h9
     have fin:∀(t':Str)(o:HO),t'.length<=100->NmJ H a b R D p ms (j+1) [some (.int a),some (.int b),some (.str LETS),some (.ref R),some (.int (1+a % 8)),some (.ref D),some (.ref p),some (.int (0+(j:Int))),some (.str t'),v9'] (upd (upd H3 p9 o) p (.lst (ts.map V.str++[.str t']))):=fun t' o hb' =>
      ⟨_,_,_,ts++[t'],rfl,by rw [Ag hpD];exact hDU o,by rw [Ac,P6];rfl,by simp [hl2],(fun x hx=>(Pm.mp hx).elim (hb2 x) fun h=>by rw [Pi.mp h];exact hb'),(smU o).over hp0⟩
     walk_at "r"
     refine Bv (fun _=>?_) (fun _=>?_)
     ·walk_at "r"
      have l1:(Ql "_").length=1:=by decide +kernel
      refine Zct (by rw [l1];omega) ?_
      walk_at "r"
      refine B5 (SqL.of (hpU _)) ?_
      walk_at "r"
      refine C3 (hpU _) (by rw [O6];omega) ?_
      exact fin _ _ (by rw [Zas,l1];omega)
     ·walk_at "r"
      refine B5 (SqL.of (hpU _)) ?_
      walk_at "r"
      refine C3 (hpU _) (by rw [O6];omega) ?_
      exact fin _ _ (by omega)
   ·rintro σ' H2 ⟨v7,v8,v9,ts,rfl,hD2,hp2,hl2,hb2,sm2⟩
    walk_at "r"
    exact q p _ _ sm2 hp0 hl2 hb2 hp2
noncomputable def Zdi (K:Oz):Sp:=fun vs H Q _=>∃(a:Addr)(k:Int),vs=[.ref a,.int k]/\Script K H a/\0<=k/\∀ z:Int,Q (.int z) H
theorem Zi2:Bo ["_law_script", "_law_k"] ["_law_script", "_law_k"] (Bg Jk):=by walk_at "sc"
theorem Zm9 {f:Addr}{fd:FuncData}(F:Fun K "_law_cell_at" "_law_cell_at" Jk f fd)(T:Txt K mg):Bc P w K mg base Be 1 f fd ["_law_script", "_law_k"] (Zdi K):=by
 refine F.okq Zi2 (fun vs H Q E h=>?_) (fun cdv A outer s H vs Q E hr h=>?_)
 ·obtain ⟨a,k,rfl,_⟩:=h
  rfl
 ·obtain ⟨a,k,rfl,S,h0,q⟩:=h
  obtain ⟨ns,hS,hl⟩:=S.ex
  refine ⟨_,Af (A7 (Az Jd (qv 1) (Cs (Dl K) (by rfl) T.len (by decide +kernel) (Aa (qv 0) Ab)) (Ay _)) (Ai (Ar (Am K (qv 0) (qv 1)))) A8)
   (Ai (Ar Ah)),?_⟩
  walk_at "r"
  refine Dx hS ?_
  walk_at "r"
  refine Bv (fun h=>?_) (fun h=>?_)
  ·have h1:k < (ns.map V.int).length:=by simpa using h
   obtain ⟨v,hv,m⟩:=E5 h0 h1
   obtain ⟨z,_,rfl⟩:=Q8.mp m
   walk_at "r"
   exact Bj hS hv (q z)
  ·walk_at "r"
   exact q _
theorem Zje {xs:List Str}(h:xs.length=4):∃ a b c d,xs=[a,b,c,d]:=by
 match xs,h with
 | [a,b,c,d],_=>exact ⟨a,b,c,d,rfl⟩
theorem Zif (ns:List Int)(lo hi:Nat):∃ ms:List Int,Bz (ns.map V.int) (some (lo:Int)) (some (hi:Int))=ms.map V.int/\ms.length<=hi - lo:=by
 obtain ⟨ms,em,lm⟩:=Zfh ns (some (lo:Int)) (some (hi:Int))
 refine ⟨ms,em,?_⟩
 rw [lm,HT.sIx_nat,HT.sIx_nat]
 omega
structure LwJ (K:Oz)(H5:Hp)(pd:Addr)(ρ:Nat->Kd)(i:Nat)(H':Hp)(kvs:List (Ap×V)):Prop where
 b:Bd1 pd H5 H'
 e:H' pd=some (.dK kvs)
 d:DkN K H' kvs ρ
 l:kvs.length<=32768 * i
noncomputable def Zel (K:Oz):Sp:=fun vs H Q _=>∃(a:Addr)(ns:List Int),vs=[.ref a]/\SqL K H a (ns.map V.int)/\ns.length<=63/\∀ H',Q (.bl true) H'
theorem sc_law:Bo ["_law_script", "_law_names_here", "_law_wished", "_law_tree", "_law_rows", "_law_chosen", "_law_k", "_law_place", "_law_given", "_law_asked", "_law_mark"] ["_law_script"] (Bg Jj):=by walk_at "sc"
theorem Zm6 {f:Addr}{fd:FuncData}(F:Fun K "law" "law" Jj f fd)(T:Txt K mg)(C__law_cell_at:A9 P w K mg base 1 "_law_cell_at" ["_law_script", "_law_k"] (Zdi K))(C__law_names:A9 P w K mg base 1 "_law_names" ["_law_cell", "_law_at"] Zef)(C__law_kind_by:A9 P w K mg base 1 "_law_kind_by" ["_law_cell"] (Nc K))(C__law_built:A9 P w K mg base 15 "_law_built" ["_law_cells", "_law_kind", "_law_around", "_law_names_here", "_law_place", "_law_wished"] (F3 K 13))(C_looks:A9 P w K mg base 8 "looks" ["tree"] (Ll K))(C_marks:A9 P w K mg base 9 "marks" ["tree"] (Zbj K))(C__law_case:A9 P w K mg base 16 "_law_case" ["_law_told", "_law_kind", "_law_chosen"] (Gg K 15)):Bc P w K mg base Be 17 f fd ["_law_script"] (Zel K):=by
 refine F.okq sc_law (fun vs H Q E h=>?_) (fun cdv A outer s H vs Q E hr h=>?_)
 ·obtain ⟨a,ns,rfl,_⟩:=h
  rfl
 ·obtain ⟨a,ns,rfl,hS,hl,q⟩:=h
  have S:Script K H a:=⟨ns,hS,hl⟩
  refine ⟨_,Af (Av 1 sc_law (Ba C__law_names hr.m (Aa (Ba C__law_cell_at hr.m (Aa (qv 0) (Aa Ah Ab))) (Aa (Ba C__law_cell_at hr.m (Aa (qv 0) (Aa Ah Ab))) Ab))))
   (Af (Av 2 sc_law (Ax Ab))
   (Af (Av 3 sc_law (Ba C__law_built hr.m (Aa (Fb (Fv K) (qv 0) (Eb Ah) (Eb Ah)) (Aa (Ba C__law_kind_by hr.m (Aa (Ba C__law_cell_at hr.m (Aa (qv 0) (Aa Ah Ab))) Ab)) (Aa (Ax Ab) (Aa (qv 1) (Aa (Ao Ab) (Aa (qv 2) Ab))))))))
   (Af (Av 4 sc_law (Ba C_looks hr.m (Aa (qv 3) Ab)))
   (Af (A7 (QW.qt (Zbf (Az (Jn K hr.u200) (Ba C_marks hr.m (Aa (qv 3) Ab)) (Ax Ab) (Ay _)) (Zdf (Az (Jn K hr.u200) (Cs (Dl K) (by rfl) T.len (by decide +kernel) (Aa (qv 4) Ab)) (Cs (Dl K) (by rfl) T.len (by decide +kernel) (Aa (qv 2) Ab)) (Ay _))))) (Ai (Ar Ed)) A8)
   (Af (Av 5 sc_law (Ix))
   (Af (Co Pq rfl (Gj rfl T.range (Aa (Cs (Dl K) (by rfl) T.len (by decide +kernel) (Aa (qv 4) Ab)) Ab)) (A4 (i:=6) sc_law.nd rfl (Or.inl rfl)) (Af (Ga (Am K (qv 4) (qv 6)) (Cr K (n:=4) rfl (Bm (A4 (i:=7) sc_law.nd rfl (Or.inl rfl)) (Bm (A4 (i:=8) sc_law.nd rfl (Or.inl rfl)) (Bm (A4 (i:=9) sc_law.nd rfl (Or.inl rfl)) (Bm (A4 (i:=10) sc_law.nd rfl (Or.inl rfl)) (Ct)))))))
   (Af (A7 (QW.qt (Zbf (Az (Jn K hr.u200) (qv 7) (Am K (Am K (qv 2) (qv 6)) Ah) (Ay _)) (Zdf (Az (Jn K hr.u200) (qv 10) Aq (Ay _))))) (Ai (Ar Ed)) A8)
   (Af (A7 (Li (Ki (Ba C__law_case hr.m (Aa (qv 8) (Aa (Am K (Am K (qv 2) (qv 6)) Ah) (Aa (qv 5) Ab)))))) (Ai (Ar Ed)) A8)
   (Ai (A7 (QW.qt (F6 (Az (Jn K hr.u200) (qv 7) (Ao Ab) (Ay _)) (F2 (Li (Ki (Ba C__law_case hr.m (Aa (qv 9) (Aa (Am K (Am K (qv 2) (qv 6)) Ah) (Aa (qv 5) Ab))))))))) (Ai (Ar Ed)) A8))))))
   (Ai (Ar Ed)))))))),?_⟩
  have bg:=big
  walk_at "r"
  refine ⟨a,0,rfl,S,by decide,fun z0=>?_⟩
  walk_at "r"
  refine ⟨a,1,rfl,S,by decide,fun z1=>?_⟩
  walk_at "r"
  refine ⟨z0,z1,rfl,fun pn ts H1 s1 hpn lt bt e1=>?_⟩
  obtain ⟨n0,n1,n2,n3,rfl⟩:=Zje lt
  walk_at "r"
  refine ⟨Br,fun pw hpw=>?_⟩
  have s2:=Same.upd (o:=.lst []) hpw
  have e2:upd H1 pw (.lst []) pw=some (.lst []):=Ac
  have npw:pn≠pw:=Aw e1 hpw
  revert s2 e2
  generalize upd H1 pw (.lst [])=H2
  intro s2 e2
  walk_at "r"
  refine Nl (s2.seq (s1.seq hS)) fun pc hpc=>?_
  obtain ⟨ms,ems,lms⟩:=Zif ns 3 15
  have ems:Bz (ns.map V.int) (some 3) (some 15)=ms.map V.int:=ems
  rw [ems]
  have ncw:pc≠pw:=(Aw e2 hpc).symm
  have s3:=Same.upd (o:=.lst (ms.map V.int)) hpc
  have e3:upd H2 pc (.lst (ms.map V.int)) pc=some (.lst (ms.map V.int)):=Ac
  revert s3 e3
  generalize upd H2 pc (.lst (ms.map V.int))=H3
  intro s3 e3
  have S3:=s1.trans (s2.trans s3)
  walk_at "r"
  refine ⟨a,2,rfl,S.same S3,by decide,fun z2=>?_⟩
  walk_at "r"
  refine ⟨z2,rfl,fun kv k H4 s4 hk hks=>?_⟩
  obtain ⟨gk,dk⟩:=Ze7 k hks
  walk_at "r"
  refine ⟨Br,fun pa hpa=>?_⟩
  have s5:=Same.upd (o:=.lst []) hpa
  have e5:upd H4 pa (.lst []) pa=some (.lst []):=Ac
  have naw:pa≠pw:=(Aw (s4 _ _ (s3 _ _ e2)) hpa).symm
  revert s5 e5
  generalize upd H4 pa (.lst [])=H5
  intro s5 e5
  walk_at "r"
  refine ⟨Br,fun pp hpp=>?_⟩
  have s6:=Same.upd (o:=.tup []) hpp
  have e6:upd H5 pp (.tup []) pp=some (.tup []):=Ac
  revert s6 e6
  generalize upd H5 pp (.tup [])=H6
  intro s6 e6
  have s46:=s4.trans (s5.trans s6)
  have s56:=s5.trans s6
  walk_at "r"
  refine ⟨pc,kv,pa,pn,pp,pw,ms,k,[],[],[],rfl,⟨s46 _ _ e3,by omega,hk.same s56.t,gk,by omega,⟨⟨[],s6 _ _ e5,.nil⟩,(fun x h=>nomatch h),by decide⟩,by simp;omega,⟨n0,n1,n2,n3,s46 _ _ (s3 _ _ (s2 _ _ e1))⟩,e6,by simp;omega,s46 _ _ (s3 _ _ e2),by unfold C1;simp;omega,ncw,naw,npw⟩,by omega,fun tv t ls nw H7 b7 ew tt bt dls sz aw=>?_⟩
  rw [Ui] at ew
  have hz:t.size<=40:=by unfold C1 at sz;omega
  obtain ⟨ks,fs,ρ,W⟩:=Zg7 bt hz
  have hsh:=(Zai _ _ _ _ bt).2
  walk_at "r"
  refine ⟨tv,t,ks,fs,rfl,tt,hsh,hz,W.r,fun pr rows H8 s8 _ er alr=>?_⟩
  walk_at "r"
  refine ⟨tv,t,ks,fs,rfl,tt.same s8,hsh,hz,W.r,fun pm mv H9 s9 _ em alm=>?_⟩
  have hf0:(B6 t ks fs).filter mB=[]:=by
   rw [List.filter_eq_nil_iff]
   intro r hr
   unfold mB
   rw [W.m r hr]
   decide
  rw [hf0] at alm
  have emv:mv=[]:=Q1 alm.1
  subst emv
  have hrl:(B6 t ks fs).length=t.size:=by unfold B6;rw [Vh];exact Dr [] t
  have hnl:nw.length=t.size:=by rw [aw.1,Vv,O6,Dr,W.l];omega
  walk_at "r"
  refine ⟨Br,fun pE hE=>?_⟩
  have sE:=Same.upd (o:=.lst []) hE
  walk_at "r"
  refine Zk4 (n:=1) (d:=.lst []) (by decide) (.lst (SqL.of (sE _ _ em)) rfl (fun j v d h=>by simp at h)) (.lst (SqL.of Ac) rfl (fun j v d h=>by simp at h)) ?_
  revert sE
  generalize upd H9 pE (.lst [])=HE
  intro sE
  have s8E:=s8.trans (s9.trans sE)
  walk_at "r"
  refine Dx (SqL.of ((s9.trans sE) _ _ er)) ?_
  walk_at "r"
  refine Dx (SqL.of (s8E _ _ ew)) ?_
  walk_at "r"
  have hrw:rows.length=nw.length:=by rw [alr.1,hrl,hnl]
  rw [decide_eq_true (show V.int ((rows.length:Nat):Int)=V.int ((nw.length:Nat):Int) by rw [hrw])]
  walk_at "r"
  refine fun pd hpd=>?_
  have sD:=Same.upd (o:=.dK []) hpd
  have eD:upd HE pd (.dK []) pd=some (.dK []):=Ac
  have nrd:pr≠pd:=Aw ((s9.trans sE) _ _ er) hpd
  have nwd:pw≠pd:=Aw (s8E _ _ ew) hpd
  revert sD eD
  generalize upd HE pd (.dK [])=HD
  intro sD eD
  have s8D:=s8E.trans sD
  have s9D:=s9.trans (sE.trans sD)
  have erD:=s9D _ _ er
  have ewD:=s8D _ _ ew
  have alrD:=alr.mono (LkAt.same s9D.t)
  have awD:=aw.mono (WsAt.same s8D.t)
  walk_at "r"
  refine Dx (SqL.of erD) ?_
  walk_at "r"
  refine ⟨by omega,by omega,?_⟩
  refine Jt (n:=((rows.length:Nat):Int).toNat) (fun i σ' H'=>∃ v6 v7 v8 v9 v10 kvs,σ'=[some (.ref a),some (.ref pn),some (.ref pw),some tv,some (.ref pr),some (.ref pd),v6,v7,v8,v9,v10]/\LwJ K HD pd ρ i H' kvs) ⟨_,_,_,_,_,[],rfl,⟨.of (Same.refl _),eD,(fun n v e=>by cases e),by simp⟩⟩ ?_ ?_
  ·rintro i σ' HA hi ⟨v6,v7,v8,v9,v10,kvs,rfl,J⟩
   have hi:i < rows.length:=by rw [Qy] at hi;exact hi
   have ei:(0:Int)+((i:Nat):Int)=((i:Nat):Int):=by omega
   have hrs:rows.length=t.size:=by rw [alr.1,hrl]
   obtain ⟨vr,hvr⟩:∃ v,rows[i]?=some v:=⟨_,O1 hi⟩
   obtain ⟨vw,hvw⟩:∃ v,nw[i]?=some v:=⟨_,O1 (by omega)⟩
   obtain ⟨x,hx⟩:∃ x,(walk [] t)[i]?=some x:=⟨_,O1 (by rw [Dr];omega)⟩
   obtain ⟨kw,hkw⟩:∃ kw,ls[i]?=some kw:=⟨_,O1 (by rw [W.l];omega)⟩
   have hrow:(B6 t ks fs)[i]?=some (E3 t ks fs i x):=by unfold B6;rw [U7,hx];rfl
   have hzip:(((walk [] t).map (·.1)).zip ls)[i]?=some (x.1,kw):=by rw [List.getElem?_zip_eq_some];exact ⟨by rw [Po,hx];rfl,hkw⟩
   obtain ⟨e,p,g,as,rfl,qe,hp,kg,ka⟩:=alrD.2 i vr _ hvr hrow
   obtain ⟨e',p',g',rfl,qe',hp',kg'⟩:=awD.2 i vw _ hvw hzip
   have hmk:(E3 t ks fs i x).2.2.2 = "" := W.m _ (Qb hrow)
   rw [hmk] at qe
   obtain ⟨wk1,wk2⟩:=W.k i kw hkw
   have hdk:=dls kw (Qb hkw)
   have hd1:=Kq ρ (ks.getD (2 * i) .num)
   have hd2:=Kq ρ (ks.getD (2 * i+1) .num)
   rw [wk1] at hd1
   rw [wk2] at hd2
   have pow1:2 ^ A0 (ks.getD (2 * i) .num)<=16384:=T9 (j:=14) (show 0 < 2 by decide) (by omega)
   have pow2:2 ^ A0 (ks.getD (2 * i+1) .num)<=16384:=T9 (j:=14) (show 0 < 2 by decide) (by omega)
   have hJl:=J.l
   have erA:=J.b.b _ _ nrd erD
   have ewA:=J.b.b _ _ nwd ewD
   have pI:∀{H':Hp}{c:Addr},SqT K H' c (Bk x.1)->SqT K H' c ((x.1.map fun i=>((i:Nat):Int)).map V.int):=fun h=>by rw [<- Ze1];exact h
   have hpA:=(J.b.t p).1 _ hp
   have hpA':=(J.b.t p').1 _ hp'
   walk_at "r"
   rw [ei]
   refine Bj (SqL.of erA) (Dp (j:=i) hvr) ?_
   walk_at "r"
   refine Cm (J.b.t.tup qe) rfl ?_
   walk_at "r"
   refine Bj (SqL.of ewA) (Dp (j:=i) hvw) ?_
   walk_at "r"
   refine Au (J.b.t.tup qe') (v:=.ref p') rfl ?_
   walk_at "r"
   refine Zek (pI (SqT.of hpA)) (pI (SqT.of hpA')) ?_
   rw [decide_eq_true (Eq.refl _)]
   walk_at "r"
   rw [decide_eq_true (show V.str "" = V.str "" from rfl)]
   walk_at "r"
   refine Bj (SqL.of ewA) (Dp (j:=i) hvw) ?_
   walk_at "r"
   refine Au (J.b.t.tup qe') (v:=g') rfl ?_
   walk_at "r"
   refine ⟨g,g',pd,_,kw,ρ,kvs,rfl,kg.same J.b.t,kg'.same J.b.t,wk1,hdk,by show A0 (ks.getD (2 * i) .num) < 15;omega,J.e,J.d,by show kvs.length+2 ^ A0 (ks.getD (2 * i) .num)<=1900000;omega,fun kvs1 HB sB eB dB lB=>?_⟩
   have lB:kvs1.length<=kvs.length+2 ^ A0 (ks.getD (2 * i) .num):=lB
   have bB:=J.b.trans sB
   walk_at "r"
   refine ⟨Br,fun p0 h0=>?_⟩
   have s0:=Same.upd (o:=.tup []) h0
   have e0:upd HB p0 (.tup []) p0=some (.tup []):=Ac
   revert s0 e0
   generalize upd HB p0 (.tup [])=HC
   intro s0 e0
   have bC:=bB.trans (Bd1.of (d:=pd) s0)
   have eC:=s0 _ _ eB
   have dC:=dB.same s0.t
   walk_at "r"
   refine Zek (ys:=[]) (pI (SqT.of ((bC.t p).1 _ hp))) (SqT.of e0) ?_
   walk_at "r"
   by_cases cx:x.1=[]
   ·rw [decide_eq_true (show (x.1.map fun i=>((i:Nat):Int))=[] by rw [cx];rfl)]
    walk_at "r"
    exact ⟨_,_,_,_,_,kvs1,rfl,⟨bC,eC,dC,by omega⟩⟩
   ·rw [decide_eq_false (show ¬ (x.1.map fun i=>((i:Nat):Int))=[] from fun z=>cx (List.map_eq_nil_iff.mp z))]
    walk_at "r"
    have hra:(E3 t ks fs i x).2.2.1=some (ks.getD (2 * i+1) .num):=if_neg cx
    rw [hra] at ka
    rcases ka with ⟨z,_⟩ | ⟨k2,z,ka⟩
    ·cases z
    cases z
    refine Bj (SqL.of (bC.b _ _ nwd ewD)) (Dp (j:=i) hvw) ?_
    walk_at "r"
    refine Au (bC.t.tup qe') (v:=g') rfl ?_
    walk_at "r"
    refine ⟨as,g',pd,_,kw,ρ,kvs1,rfl,ka.same bC.t,kg'.same bC.t,wk2,hdk,by omega,eC,dC,by omega,fun kvs2 HF sF eF dF lF=>?_⟩
    walk_at "r"
    exact ⟨_,_,_,_,_,kvs2,rfl,⟨bC.trans sF,eF,dF,by omega⟩⟩
  ·rintro σ' HA ⟨v6,v7,v8,v9,v10,kvs,rfl,J⟩
   walk_at "r"
   exact q _
theorem Zl1:Bo ["shapes", "shape"] ["shapes", "shape"] (Bg Ih):=by walk_at "sc"
theorem Zgj {f:Addr}{fd:FuncData}(F:Fun K "new_kind" "new_kind" Ih f fd)(T:Txt K mg):Bc P w K mg base Be 1 f fd ["shapes", "shape"] Zd9:=by
 refine F.okq Zl1 (fun vs H Q E h=>?_) (fun cdv A outer s H vs Q E hr h=>?_)
 ·obtain ⟨a,x,us,rfl,_⟩:=h
  rfl
 ·obtain ⟨a,x,us,rfl,ha,hl,q⟩:=h
  refine ⟨_,Af (Cp (C0 K Pz Qe Qf De (qv 0) (Aa (qv 1) Ab)))
   (Ai (Ar (A6 Zhz (Cs (Dl K) (by rfl) T.len (by decide +kernel) (Aa (qv 0) Ab)) Ah))),?_⟩
  have bg:=big
  walk_at "r"
  refine B5 (SqL.of ha) ?_
  walk_at "r"
  refine C3 ha (by omega) ?_
  walk_at "r"
  refine Dx (SqL.of Ac) ?_
  walk_at "r"
  rw [O7,Pr,show ((us.length+1:Nat):Int) - 1=(us.length:Nat) by omega]
  exact q
end
local macro_rules | `(tactic| walk_at "zA")=>`(tactic| exact (let +zeta a:=_; let +zeta b:=_; let +zeta c:=_; have +usedOnly q:(‹Stmt›:Stmt)=.Assign a b c:=rfl; .Assign a b c))
local macro_rules | `(tactic| walk_at "zC")=>`(tactic| exact (let +zeta a:=_; let +zeta b:=_; let +zeta c:=_; let +zeta d:=_; let +zeta e:=_; let +zeta f:=_; let +zeta g:=_; let +zeta h:=_; let +zeta i:=_; let +zeta j:=_; let +zeta k:=_; have +usedOnly q:(‹Stmt›:Stmt)=.ClassDef a b c d e f g h i j k:=rfl; .ClassDef a b c d e f g h i j k))
local macro_rules | `(tactic| walk_at "zF")=>`(tactic| exact (let +zeta a:=_; let +zeta b:=_; let +zeta c:=_; let +zeta d:=_; let +zeta e:=_; let +zeta f:=_; let +zeta g:=_; let +zeta h:=_; let +zeta i:=_; let +zeta j:=_; have +usedOnly q:(‹Stmt›:Stmt)=.FunctionDef a b c d e f g h i j:=rfl; .FunctionDef a b c d e f g h i j))
noncomputable def w0:Stmt:=by let +zeta s:=Ad 0;walk_at "zA"
noncomputable def w1:Stmt:=by let +zeta s:=Ad 1;walk_at "zC"
noncomputable def w2:Stmt:=by let +zeta s:=Ad 2;walk_at "zC"
noncomputable def w3:Stmt:=by let +zeta s:=Ad 3;walk_at "zC"
noncomputable def w4:Stmt:=by let +zeta s:=Ad 4;walk_at "zA"
noncomputable def w5:Stmt:=by let +zeta s:=Ad 5;walk_at "zF"
noncomputable def w6:Stmt:=by let +zeta s:=Ad 6;walk_at "zA"
noncomputable def w7:Stmt:=by let +zeta s:=Ad 7;walk_at "zF"
noncomputable def w8:Stmt:=by let +zeta s:=Ad 8;walk_at "zF"
noncomputable def w9:Stmt:=by let +zeta s:=Ad 9;walk_at "zF"
noncomputable def D7:Stmt:=by let +zeta s:=Ad 10;walk_at "zA"
noncomputable def C2:Stmt:=by let +zeta s:=Ad 11;walk_at "zF"
noncomputable def F5:Stmt:=by let +zeta s:=Ad 12;walk_at "zF"
noncomputable def w13:Stmt:=by let +zeta s:=Ad 13;walk_at "zF"
noncomputable def w14:Stmt:=by let +zeta s:=Ad 14;walk_at "zF"
noncomputable def w15:Stmt:=by let +zeta s:=Ad 15;walk_at "zA"
noncomputable def w16:Stmt:=by let +zeta s:=Ad 16;walk_at "zA"
noncomputable def w17:Stmt:=by let +zeta s:=Ad 17;walk_at "zA"
noncomputable def w18:Stmt:=by let +zeta s:=Ad 18;walk_at "zA"
noncomputable def w19:Stmt:=by let +zeta s:=Ad 19;walk_at "zF"
noncomputable def w20:Stmt:=by let +zeta s:=Ad 20;walk_at "zF"
noncomputable def w21:Stmt:=by let +zeta s:=Ad 21;walk_at "zF"
noncomputable def w22:Stmt:=by let +zeta s:=Ad 22;walk_at "zF"
noncomputable def w23:Stmt:=by let +zeta s:=Ad 23;walk_at "zF"
noncomputable def w24:Stmt:=by let +zeta s:=Ad 24;walk_at "zF"
noncomputable def w25:Stmt:=by let +zeta s:=Ad 25;walk_at "zF"
noncomputable def w26:Stmt:=by let +zeta s:=Ad 26;walk_at "zF"
noncomputable def w27:Stmt:=by let +zeta s:=Ad 27;walk_at "zF"
noncomputable def w28:Stmt:=by let +zeta s:=Ad 28;walk_at "zA"
noncomputable def w29:Stmt:=by let +zeta s:=Ad 29;walk_at "zA"
noncomputable def w30:Stmt:=by let +zeta s:=Ad 30;walk_at "zF"
noncomputable def w31:Stmt:=by let +zeta s:=Ad 31;walk_at "zF"
noncomputable def w32:Stmt:=by let +zeta s:=Ad 32;walk_at "zF"
noncomputable def w33:Stmt:=by let +zeta s:=Ad 33;walk_at "zA"
noncomputable def w34:Stmt:=by let +zeta s:=Ad 34;walk_at "zF"
noncomputable def w35:Stmt:=by let +zeta s:=Ad 35;walk_at "zF"
noncomputable def w36:Stmt:=by let +zeta s:=Ad 36;walk_at "zF"
noncomputable def w37:Stmt:=by let +zeta s:=Ad 37;walk_at "zF"
noncomputable def w38:Stmt:=by let +zeta s:=Ad 38;walk_at "zF"
noncomputable def w39:Stmt:=by let +zeta s:=Ad 39;walk_at "zF"
noncomputable def w40:Stmt:=by let +zeta s:=Ad 40;walk_at "zF"
noncomputable def w41:Stmt:=by let +zeta s:=Ad 41;walk_at "zF"
noncomputable def w42:Stmt:=by let +zeta s:=Ad 42;walk_at "zF"
noncomputable def w43:Stmt:=by let +zeta s:=Ad 43;walk_at "zF"
noncomputable def w44:Stmt:=by let +zeta s:=Ad 44;walk_at "zF"
noncomputable def PWc:Program:=let +zeta a:=_;let +zeta b:=_;let +zeta c:=_;let +zeta d:=_;let +zeta e:=_;let +zeta f:=_;let +zeta g:=_;let +zeta h:=_;let +zeta i:=_;let +zeta j:=_;have +usedOnly q:Rx=⟨⟨a,b,c,d,e⟩,f,g,h,i,j⟩:=rfl;⟨⟨[w0,w1,w2,w3,w4,w5,w6,w7,w8,w9,D7,C2,F5,w13,w14,w15,w16,w17,w18,w19,w20,w21,w22,w23,w24,w25,w26,w27,w28,w29,w30,w31,w32,w33,w34,w35,w36,w37,w38,w39,w40,w41,w42,w43,w44],b,c,d,e⟩,f,g,h,i,j⟩
theorem e_PW:PWc=PWc:=rfl
name_quick x_PW for K34.PWc by K34.e_PW
end K34
noncomputable def PySem.W.Fast.tw10365862820732931978:PySem.Program:=PySem.W.Fast.tw847809462474760890
theorem PySem.W.Fast.te10365862820732931978:Rx=PySem.W.Fast.tw10365862820732931978:=(rfl:Rx=K34.PWc).trans PySem.W.Fast.te847809462474760890
namespace K34
open PySem L2
noncomputable def VWc:Program:={ Rx with main:={ Rx.main with body:=[w1,w2,w3,w5,w7,w8,w9,C2,F5,w13,w14,w16,w17,w18,w19,w20,w21,w22,w23,w24,w25,w26,w27,w29,w30,w31,w32,w34,w35,w36,w37,w38,w39,w40,w41,w42,w43,w44] } }
noncomputable def S0:List Stmt:=[w0,w1]
noncomputable def S1:List Stmt:=[w40,w41,w42,w43,w44]
noncomputable def S2:List Stmt:=[C2,F5,w13,w14,w15,w16,w17,w18,w19,w20,w21,w22,w23,w24]
noncomputable def S3:List Stmt:=[w3,w4,w5,w6,w7,w8,w9,D7]
noncomputable def S4:List Stmt:=[w25,w26,w27,w28,w29,w30,w31,w32,w33,w34,w35,w36,w37,w38,w39]
noncomputable def S5:List Stmt:=[w2]
noncomputable def SB:Program×List (List Stmt):=(VWc,[S0,S1,S2,S3,S4,S5])
theorem e_SB:SB=SB:=rfl
name_quick x_SB for K34.SB by K34.e_SB
end K34
noncomputable def PySem.W.Fast.tw2707879317966437156:PySem.Program:=PySem.W.Fast.tw12048420038597968388
theorem PySem.W.Fast.te2707879317966437156:K34.VWc=PySem.W.Fast.tw2707879317966437156:=PySem.W.Fast.te12048420038597968388
noncomputable def PySem.W.Fast.tw12730968759797993504:List Sl:=PySem.W.Fast.tw16562557562801951760
theorem PySem.W.Fast.te12730968759797993504:K34.S0=PySem.W.Fast.tw12730968759797993504:=PySem.W.Fast.te16562557562801951760
noncomputable def PySem.W.Fast.tw14716409373129561197:List Sl:=PySem.W.Fast.tw9187271618962233237
theorem PySem.W.Fast.te14716409373129561197:K34.S1=PySem.W.Fast.tw14716409373129561197:=PySem.W.Fast.te9187271618962233237
noncomputable def PySem.W.Fast.tw6391659233115992655:List Sl:=PySem.W.Fast.tw16114665857191402778
theorem PySem.W.Fast.te6391659233115992655:K34.S2=PySem.W.Fast.tw6391659233115992655:=PySem.W.Fast.te16114665857191402778
noncomputable def PySem.W.Fast.tw13916238289004026290:List Sl:=PySem.W.Fast.tw775386300130835668
theorem PySem.W.Fast.te13916238289004026290:K34.S3=PySem.W.Fast.tw13916238289004026290:=PySem.W.Fast.te775386300130835668
noncomputable def PySem.W.Fast.tw3857612350289723285:List Sl:=PySem.W.Fast.tw1988226104522136297
theorem PySem.W.Fast.te3857612350289723285:K34.S4=PySem.W.Fast.tw3857612350289723285:=PySem.W.Fast.te1988226104522136297
noncomputable def PySem.W.Fast.tw7719452589683229049:List Sl:=PySem.W.Fast.tw1015112168102840657
theorem PySem.W.Fast.te7719452589683229049:K34.S5=PySem.W.Fast.tw7719452589683229049:=PySem.W.Fast.te1015112168102840657
namespace K34
open PySem L2 PySem.W
noncomputable def zs (i j:Nat):Stmt:=match Ad i with | .ClassDef _ _ _ b _ _ _ _ _ _ _=>b.getD j (.Pass ⟨0,0,0,0⟩) | s=>s
noncomputable def ze (P:Params)(s:Str)(t:Tok)(v:Value):DictEntry:=⟨PyData.keyHash P s,.str s t,v⟩
noncomputable abbrev B:=Rv
noncomputable def evb (l:List Obj):Bool->List Obj:=@List.rec Obj (fun _=>Bool->List Obj) (fun _=>[]) (fun a _ ih b=>@Bool.rec (fun _=>List Obj) (ih true) (a::ih false) b) l
noncomputable def tO (l:List Obj):B:=@Nat.rec (fun _=>List Obj->B) (fun _=>.nil) (fun _ ih l=>@List.rec Obj (fun _=>B) .nil (fun x r _=>.node x (ih (evb r true)) (ih (evb r false))) l) 12 l
noncomputable def zv:List (Str×Tok)->List Value
 | []=>[]
 | (a,b)::t=>.str a b::zv t
noncomputable def zu (l:List (Str×Tok)):Obj:=⟨.type "tuple",none,.seq ⟨zv l⟩,#[]⟩
noncomputable def zt (c:String)(d:Data):Obj:=⟨.type c,none,d,#[]⟩
noncomputable def zf (n q:Str)(s:Stmt)(m:Str)(t:Tok)(c:Addr):Obj:=⟨.type "function",none,.func (Rh n q (Fz s) (Ez s) (Bg s) .none .none .none (.str m t) none (.ref c) .none),#[]⟩
noncomputable def zh (n q:Str)(s:Stmt):Obj:=⟨.none,none,.func ⟨n,q,Fz s,.stmts (Ez s),Bg s,0,[],.none,.none,.none,.none,none,.none,.none,0⟩,#[]⟩
noncomputable def zk (n q:Str)(t:Tok)(l a g:Int)(r:Addr)(b:Bool)(x:Value)(u:Int)(v:Tok):Obj:=⟨.type "code",none,.fields #[.str n t,.str q (t+1),.str "/claim/cut.py" (t+2),.int l 0,.int a 0,.int 0 0,.int 0 0,.int g 0,.ref r,.bool b,.int 181 0,.ref (r+1),.none,.none,.none,x,.int u 0,.int l 0,.str "/claim/cut.py" v],#[]⟩
noncomputable def zw:List (Int×Int×Addr)->List Value
 | []=>[]
 | (a,b,c)::t=>.int a 0::.int b 0::.ref c::zw t
noncomputable def zy (l:List (Int×Int×Addr)):Obj:=⟨.none,none,.fields ⟨zw l⟩,#[]⟩
noncomputable def zc (n q:Str)(t:Tok)(l a g:Int)(r:Addr)(u:Int)(v:Tok):Obj:=⟨.type "code",none,.fields #[.str n t,.str q (t+1),.str "/claim/cut.py" (t+2),.int l 0,.int a 0,.int 0 0,.int 0 0,.int g 0,.ref r,.bool true,.int 181 0,.ref (r+1),.none,.ref (r+2),.ref (r+3),.ref (r+4),.int u 0,.int l 0,.str "/claim/cut.py" v],#[]⟩
noncomputable def zb (n:Str):=zc n n
noncomputable def zi (n:Str):=zf n n
noncomputable def zj (n:Str):=zh n n
noncomputable section
def d0 (P:Params):=[ze P "__name__" 165 (.str "gapscribe.errors" 187),ze P "__doc__" 166 .none,ze P "__package__" 167 .none,ze P "__loader__" 168 (.builtin "__main__.__loader__#opaque"),ze P "__spec__" 169 .none,ze P "__annotations__" 170 (.ref 6),ze P "__builtins__" 171 (.ref 4),ze P "__file__" 173 (.str "/claim/cut.py" 172),ze P "__cached__" 174 .none,ze P "GapError" 206 (.ref 24),ze P "TooBig" 222 (.ref 37)]
def z0 (P:Params):=zt "dict" (.dict ⟨d0 P⟩ 11)
def z1:=zt "tuple" (.seq #[])
noncomputable def y0:List (Int×Int×Addr):=[(2,0,20),(4,0,33)]
def z2:=zy y0
def z3:=zk "<module>" "<module>" 182 1 0 0 11 false .none 185 186
noncomputable def zq0 (x0:Nat)(x1:Nat)(x2:Str)(x3:Nat):Obj:=Obj.mk (.type "frame") none Data.plain #[some (.ref x0),some (.ref 3),some (.ref x1),none,some (.str x2 x3),none,some (.ref 0)]
def z4:=zq0 13 3 "__main__" 164
def z5:=zt "tuple" (.seq #[.type "ValueError"])
def h0_0 (P:Params)(t:List Obj):=(boot_o_0 P)::(boot_o_1 P)::(boot_o_2 P)::(z0 P)::(boot_o_4 P)::(boot_o_5 P)::(boot_o_6 P)::(boot_o_7 P)::(boot_o_8 P)::(boot_o_9 P)::(boot_o_10 P)::z1::z2::z3::z4::z5::t
def z6:=zt "builtin_function_or_method" (.fields #[.builtin "type.__prepare__",.type "type"])
def z7 (P:Params):=zt "dict" (.dict #[ze P "__module__" 196 (.str "gapscribe.errors" 187),ze P "__qualname__" 198 (.str "GapError" 197),ze P "__firstlineno__" 200 (.int 2 199),ze P "__static_attributes__" 201 (.ref 22)] 4)
noncomputable def z8:=Obj.mk .none none (.fields #[]) #[]
def z9:=zk "GapError" "GapError" 191 2 0 0 18 false .none 194 195
def z10:=zq0 20 17 "gapscribe.errors" 187
def z11 (P:Params):=zt "dict" (.dict #[ze P "__module__" 196 (.str "gapscribe.errors" 187),ze P "__firstlineno__" 200 (.int 2 199),ze P "__static_attributes__" 201 (.ref 22),ze P "__weakref__" 203 (.ref 25),ze P "__doc__" 204 .none] 3)
noncomputable def z12:=Obj.mk (.type "type") none (.cls (ClassData.mk "GapError" [.type "ValueError"] [.ref 24,.type "ValueError",.type "Exception",.type "BaseException",.type "object"] 23 "GapError" true [] [.ref 37] false none false)) #[some (.ref 15),none,some (.str "GapError" 189),some (.str "GapError" 197),some (.builtin "ValueError.__new__"),some (.bool true)]
def z13:=zt "getset_descriptor" (.fields #[.str "__weakref__" 202,.ref 24,.builtin "ExceptionGroup.__weakref__",.none])
def z14:=zt "super" (.fields #[.ref 24,.ref 24,.ref 24])
def z15:=zt "builtin_function_or_method" (.fields #[.builtin "object.__init_subclass__",.ref 24])
def z16:=zt "tuple" (.seq #[.ref 24])
def z17 (P:Params):=zt "dict" (.dict #[ze P "__module__" 214 (.str "gapscribe.errors" 187),ze P "__qualname__" 216 (.str "TooBig" 215),ze P "__firstlineno__" 218 (.int 4 217),ze P "__static_attributes__" 219 (.ref 35)] 4)
def h1_0 (P:Params)(t:List Obj):=z6::(z7 P)::z1::z8::z9::z10::z1::(z11 P)::z12::z13::z14::z15::z16::z6::(z17 P)::z1::t
def z18:=zk "TooBig" "TooBig" 209 4 0 0 31 false .none 212 213
def z19:=zq0 33 30 "gapscribe.errors" 187
def z20 (P:Params):=zt "dict" (.dict #[ze P "__module__" 214 (.str "gapscribe.errors" 187),ze P "__firstlineno__" 218 (.int 4 217),ze P "__static_attributes__" 219 (.ref 35),ze P "__doc__" 220 .none] 2)
noncomputable def z21:=Obj.mk (.type "type") none (.cls (ClassData.mk "TooBig" [.ref 24] [.ref 37,.ref 24,.type "ValueError",.type "Exception",.type "BaseException",.type "object"] 36 "TooBig" true [] [] false none false)) #[some (.ref 28),none,some (.str "TooBig" 207),some (.str "TooBig" 215),some (.builtin "ValueError.__new__"),some (.bool true)]
def z22:=zt "super" (.fields #[.ref 37,.ref 37,.ref 37])
def z23:=zt "builtin_function_or_method" (.fields #[.builtin "object.__init_subclass__",.ref 37])
def h2_0 (P:Params)(t:List Obj):=z8::z18::z19::z1::(z20 P)::z21::z22::z23::t
def Rtree_78:Params->B:=fun P=>tO (h0_0 P (h1_0 P (h2_0 P [])))
def d1 (P:Params):=[ze P "__name__" 165 (.str "gapscribe.scopes" 289),ze P "__doc__" 166 .none,ze P "__package__" 167 .none,ze P "__loader__" 168 (.builtin "__main__.__loader__#opaque"),ze P "__spec__" 169 .none,ze P "__annotations__" 170 (.ref 6),ze P "__builtins__" 171 (.ref 4),ze P "__file__" 173 (.str "/claim/cut.py" 172),ze P "__cached__" 174 .none,ze P "GapError" 206 (.ref 24),ze P "TooBig" 222 (.ref 37),ze P "NoPlace" 247 (.ref 56),ze P "is_whole" 256 (.ref 65),ze P "placed_forms" 270 (.ref 72),ze P "has_part" 278 (.ref 79),ze P "forms_down_to" 288 (.ref 86)]
def z24 (P:Params):=zt "dict" (.dict ⟨d1 P⟩ 16)
def y1:List (Int×Int×Addr):=y0++[(6,0,45),(11,0,64),(14,0,71),(23,0,78),(25,0,85)]
def z25:=zy y1
def zn0 (P:Params)(x0 x1:Obj)(t:List Obj):List Obj:=(boot_o_0 P)::(boot_o_1 P)::(boot_o_2 P)::x0::(boot_o_4 P)::(boot_o_5 P)::(boot_o_6 P)::(boot_o_7 P)::(boot_o_8 P)::(boot_o_9 P)::(boot_o_10 P)::z1::x1::z3::z4::z5::t
def h3_0 (P:Params)(t:List Obj):=zn0 P (z24 P) z25 t
noncomputable def z26:=Obj.mk (.type "type") none (.cls (ClassData.mk "GapError" [.type "ValueError"] [.ref 24,.type "ValueError",.type "Exception",.type "BaseException",.type "object"] 23 "GapError" true [] [.ref 37,.ref 56] false none false)) #[some (.ref 15),none,some (.str "GapError" 189),some (.str "GapError" 197),some (.builtin "ValueError.__new__"),some (.bool true)]
def Ib (P:Params)(t:List Obj):List Obj:=z6::(z7 P)::z1::z8::z9::z10::z1::(z11 P)::z26::z13::z14::z15::z16::z6::(z17 P)::z1::t
def d2 (P:Params):=[ze P "__module__" 230 (.str "gapscribe.errors" 187),ze P "__qualname__" 232 (.str "NoPlace" 231),ze P "__firstlineno__" 234 (.int 6 233),ze P "__init__" 242 (.ref 53),ze P "__static_attributes__" 244 (.ref 54)]
def z27 (P:Params):=zt "dict" (.dict ⟨d2 P⟩ 5)
noncomputable def y2:List (Int×Int×Addr):=[(8,4,52)]
def z28:=zy y2
def z29:=zk "NoPlace" "NoPlace" 225 6 0 0 43 false .none 228 229
def z30:=zq0 45 42 "gapscribe.errors" 187
def Hr (P:Params)(t:List Obj):List Obj:=z8::z18::z19::z1::(z20 P)::z21::z22::z23::z16::z6::(z27 P)::z1::z28::z29::z30::z1::t
def z31:=zu [("self",238),("place",239)]
noncomputable abbrev zsS (i j:Nat):Stmt:=match Ad i with | .ClassDef _ _ _ b _ _ _ _ _ _ _=>b.getD j (.Pass ⟨0,0,0,0⟩) | s=>s
def z32:=zh "__init__" "NoPlace.__init__" (zsS 3 0)
def z33:=zc "__init__" "NoPlace.__init__" 235 8 2 3 47 240 241
def z34:=zf "__init__" "NoPlace.__init__" (zsS 3 0) "gapscribe.errors" 187 52
def z35:=zu [("place",243)]
def z36 (P:Params):=zt "dict" (.dict #[ze P "__module__" 230 (.str "gapscribe.errors" 187),ze P "__firstlineno__" 234 (.int 6 233),ze P "__init__" 242 (.ref 53),ze P "__static_attributes__" 244 (.ref 54),ze P "__doc__" 245 .none] 2)
noncomputable def z37:=Obj.mk (.type "type") none (.cls (ClassData.mk "NoPlace" [.ref 24] [.ref 56,.ref 24,.type "ValueError",.type "Exception",.type "BaseException",.type "object"] 55 "NoPlace" true [] [] false none false)) #[some (.ref 40),none,some (.str "NoPlace" 223),some (.str "NoPlace" 231),some (.builtin "ValueError.__new__"),some (.bool true)]
def z38:=zt "super" (.fields #[.ref 56,.ref 56,.ref 56])
def z39:=zt "builtin_function_or_method" (.fields #[.builtin "object.__init_subclass__",.ref 56])
def z40:=zu [("thing",253)]
def z41:=zj "is_whole" Ii
def Jg (P:Params)(t:List Obj):List Obj:=z8::z31::z1::z32::z33::z34::z35::(z36 P)::z37::z38::z39::z1::z8::z40::z1::z41::t
def z42:=zb "is_whole" 250 11 1 3 59 254 255
def z43:=zi "is_whole" Ii "gapscribe.forms" 248 64
def z44:=zu [("tree",262),("told",263),("waiting",264),("pair",265),("number",266),("part",267)]
def z45:=zj "placed_forms" Iw
def z46:=zb "placed_forms" 259 14 1 3 66 268 269
def z47:=zi "placed_forms" Iw "gapscribe.places" 257 71
def z48:=zu [("form",274),("number",275)]
def z49:=zj "has_part" Hl
def z50:=zb "has_part" 271 23 2 3 73 276 277
def z51:=zi "has_part" Hl "gapscribe.places" 257 78
def Je (P:Params)(t:List Obj):List Obj:=z42::z43::z1::z8::z44::z1::z45::z46::z47::z1::z8::z48::z1::z49::z50::z51::t
def z52:=zu [("tree",282),("place",283),("passed",284),("number",285)]
def z53:=zj "forms_down_to" Iz
def z54:=zb "forms_down_to" 279 25 2 3 80 286 287
def z55:=zi "forms_down_to" Iz "gapscribe.places" 257 85
def h8_0 (P:Params)(t:List Obj):=z1::z8::z52::z1::z53::z54::z55::t
def Rtree_128:Params->B:=fun P=>tO (h3_0 P (Ib P (Hr P (Jg P (Je P (h8_0 P []))))))
def d3 (P:Params):=[ze P "__name__" 165 (.str "gapscribe.solve" 329),ze P "__doc__" 166 .none,ze P "__package__" 167 .none,ze P "__loader__" 168 (.builtin "__main__.__loader__#opaque"),ze P "__spec__" 169 .none,ze P "__annotations__" 170 (.ref 6),ze P "__builtins__" 171 (.ref 4),ze P "__file__" 173 (.str "/claim/cut.py" 172),ze P "__cached__" 174 .none,ze P "GapError" 206 (.ref 24),ze P "TooBig" 222 (.ref 37),ze P "NoPlace" 247 (.ref 56),ze P "is_whole" 256 (.ref 65),ze P "placed_forms" 270 (.ref 72),ze P "has_part" 278 (.ref 79),ze P "forms_down_to" 288 (.ref 86),ze P "names_bound" 298 (.ref 93),ze P "bindings_at" 310 (.ref 100),ze P "names_at" 316 (.ref 105),ze P "binding_at" 328 (.ref 112),ze P "NUM" 332 (.int 0 331),ze P "TRUTH" 334 (.int 1 333),ze P "FIRST_SHAPES" 337 (.ref 115),ze P "new_kind" 345 (.ref 122),ze P "kinds_of_word" 356 (.ref 129),ze P "with_names" 368 (.ref 136),ze P "kinds_in" 387 (.ref 143),ze P "last_same" 396 (.ref 150),ze P "holds_itself" 409 (.ref 157)]
def z56 (P:Params):=zt "dict" (.dict ⟨d3 P⟩ 29)
def y3:List (Int×Int×Addr):=y1++[(33,0,92),(41,0,99),(47,0,104),(49,0,111),(59,0,121),(62,0,128),(85,0,135),(90,0,142),(105,0,149),(110,0,156)]
def z57:=zy y3
def h9_0 (P:Params)(t:List Obj):=zn0 P (z56 P) z57 t
def z58:=zu [("form",294),("number",295)]
def z59:=zj "names_bound" Jm
def z60:=zb "names_bound" 291 33 2 3 87 296 297
def z61:=zi "names_bound" Jm "gapscribe.scopes" 289 92
def Ke (P:Params)(t:List Obj):List Obj:=z1::z8::z52::z1::z53::z54::z55::z1::z8::z58::z1::z59::z60::z61::z1::z8::t
def z62:=zu [("tree",302),("place",303),("told",304),("depth",305),("above",306),("name",307)]
def z63:=zj "bindings_at" Hv
def z64:=zb "bindings_at" 299 41 2 3 94 308 309
def z65:=zi "bindings_at" Hv "gapscribe.scopes" 289 99
def z66:=zj "names_at" Jh
def z67:=zk "names_at" "names_at" 311 47 2 3 101 true (.ref 103) 314 315
def z68:=zi "names_at" Jh "gapscribe.scopes" 289 104
def z69:=zu [("tree",320),("place",321),("name",322),("last",323),("number",324),("bound",325)]
def z70:=zj "binding_at" Ho
def z71:=zb "binding_at" 317 49 3 3 106 326 327
def Km (P:Params)(t:List Obj):List Obj:=z62::z1::z63::z64::z65::z1::z8::z66::z67::z68::z1::z8::z69::z1::z70::z71::t
def z72:=zi "binding_at" Ho "gapscribe.scopes" 289 111
def z73:=zu [("num",335)]
def z74:=zu [("truth",336)]
def z75:=zt "tuple" (.seq #[.ref 113,.ref 114])
def z76:=zu [("shapes",341),("shape",342)]
def z77:=zj "new_kind" Ih
def z78:=zb "new_kind" 338 59 2 3 116 343 344
def z79:=zi "new_kind" Ih "gapscribe.solve" 329 121
def z80:=zu [("shapes",349),("word",350),("one",351),("other",352),("function",353)]
def z81:=zj "kinds_of_word" Iq
def Kl (P:Params)(t:List Obj):List Obj:=z72::z73::z74::z75::z1::z8::z76::z1::z77::z78::z79::z1::z8::z80::z1::z81::t
def z82:=zb "kinds_of_word" 346 62 2 3 123 354 355
def z83:=zi "kinds_of_word" Iq "gapscribe.solve" 329 128
def z84:=zu [("around",360),("names",361),("kinds",362),("made",363),("name",364),("kind",365)]
def z85:=zj "with_names" Hz
def z86:=zb "with_names" 357 85 3 3 130 366 367
def z87:=zi "with_names" Hz "gapscribe.solve" 329 135
def z88:=zu [("placed",372),("shapes",373),("pairs",374),("asked_at",375),("around_at",376),("place",377),("form",378),("given",379),("asked",380),("bound",381),("number",382),("kind",383),("part",384)]
def z89:=zj "kinds_in" Ic
def z90:=zb "kinds_in" 369 90 1 3 137 385 386
def z91:=zi "kinds_in" Ic "gapscribe.solve" 329 142
def J2 (P:Params)(t:List Obj):List Obj:=z82::z83::z1::z8::z84::z1::z85::z86::z87::z1::z8::z88::z1::z89::z90::z91::t
def z92:=zu [("shapes",391),("kind",392),("last",393)]
def z93:=zj "last_same" Ia
def z94:=zb "last_same" 388 105 2 3 144 394 395
def z95:=zi "last_same" Ia "gapscribe.solve" 329 149
def z96:=zu [("shapes",400),("kind",401),("passed",402),("waiting",403),("top",404),("part",405),("inner",406)]
def z97:=zj "holds_itself" Iu
def z98:=zb "holds_itself" 397 110 2 3 151 407 408
def z99:=zi "holds_itself" Iu "gapscribe.solve" 329 156
def Zi4 (P:Params)(t:List Obj):List Obj:=z1::z8::z92::z1::z93::z94::z95::z1::z8::z96::z1::z97::z98::z99::t
def Rtree_201:Params->B:=fun P=>tO (h9_0 P (Ib P (Hr P (Jg P (Je P (Ke P (Km P (Kl P (J2 P (Zi4 P []))))))))))
def d4 (P:Params):=[ze P "__name__" 165 (.str "law_gapscribe_k34_kinds_are_most_general" 481),ze P "__doc__" 166 .none,ze P "__package__" 167 .none,ze P "__loader__" 168 (.builtin "__main__.__loader__#opaque"),ze P "__spec__" 169 .none,ze P "__annotations__" 170 (.ref 6),ze P "__builtins__" 171 (.ref 4),ze P "__file__" 173 (.str "/claim/cut.py" 172),ze P "__cached__" 174 .none,ze P "GapError" 206 (.ref 24),ze P "TooBig" 222 (.ref 37),ze P "NoPlace" 247 (.ref 56),ze P "is_whole" 256 (.ref 65),ze P "placed_forms" 270 (.ref 72),ze P "has_part" 278 (.ref 79),ze P "forms_down_to" 288 (.ref 86),ze P "names_bound" 298 (.ref 93),ze P "bindings_at" 310 (.ref 100),ze P "names_at" 316 (.ref 105),ze P "binding_at" 328 (.ref 112),ze P "NUM" 332 (.int 0 331),ze P "TRUTH" 334 (.int 1 333),ze P "FIRST_SHAPES" 337 (.ref 115),ze P "new_kind" 345 (.ref 122),ze P "kinds_of_word" 356 (.ref 129),ze P "with_names" 368 (.ref 136),ze P "kinds_in" 387 (.ref 143),ze P "last_same" 396 (.ref 150),ze P "holds_itself" 409 (.ref 157),ze P "joined" 423 (.ref 164),ze P "fitted" 436 (.ref 171),ze P "kinds_told" 442 (.ref 176),ze P "MOST_FORMS" 446 (.int 40 445),ze P "mark_of" 456 (.ref 183),ze P "looks" 474 (.ref 190),ze P "marks" 480 (.ref 195),ze P "_law_cell_at" 490 (.ref 202),ze P "_law_names" 496 (.ref 207),ze P "_law_kind_by" 506 (.ref 214),ze P "_law_in_sight" 512 (.ref 219),ze P "_law_leaf" 522 (.ref 226),ze P "_law_shares" 528 (.ref 231)]
def z100 (P:Params):=zt "dict" (.dict ⟨d4 P⟩ 42)
def y4:List (Int×Int×Addr):=y3++[(126,0,163),(142,0,170),(150,0,175),(170,0,182),(178,0,189),(193,0,194),(196,0,201),(200,0,206),(214,0,213),(220,0,218),(225,0,225),(234,0,230)]
def z101:=zy y4
def Zih (P:Params)(t:List Obj):List Obj:=zn0 P (z100 P) z101 t
def Nw (P:Params)(t:List Obj):List Obj:=z1::z8::z92::z1::z93::z94::z95::z1::z8::z96::z1::z97::z98::z99::z1::z8::t
def z102:=zu [("shapes",413),("one",414),("other",415),("made",416),("waiting",417),("pair",418),("left",419),("right",420)]
def z103:=zj "joined" Jb
def z104:=zb "joined" 410 126 3 3 158 421 422
def z105:=zi "joined" Jb "gapscribe.solve" 329 163
def z106:=zu [("shapes",427),("pairs",428),("made",429),("fits",430),("given",431),("asked",432),("after",433)]
def z107:=zj "fitted" Hk
def z108:=zb "fitted" 424 142 2 3 165 434 435
def z109:=zi "fitted" Hk "gapscribe.solve" 329 170
def z110:=zj "kinds_told" Hg
def z111:=zk "kinds_told" "kinds_told" 437 150 2 3 172 true (.ref 174) 440 441
def Mm (P:Params)(t:List Obj):List Obj:=z102::z1::z103::z104::z105::z1::z8::z106::z1::z107::z108::z109::z1::z8::z110::z111::t
def z112:=zi "kinds_told" Hg "gapscribe.solve" 329 175
def z113:=zu [("tree",450),("place",451),("form",452),("fits",453)]
def z114:=zj "mark_of" Jl
def z115:=zb "mark_of" 447 170 4 3 177 454 455
def z116:=zi "mark_of" Jl "gapscribe.looks" 443 182
def z117:=zu [("tree",460),("placed",461),("shapes",462),("pairs",463),("settled",464),("fits",465),("wanted",466),("pair",467),("kinds",468),("rows",469),("number",470),("asked",471)]
def z118:=zj "looks" Ji
def z119:=zb "looks" 457 178 1 3 184 472 473
def z120:=zi "looks" Ji "gapscribe.looks" 443 189
def Mz (P:Params)(t:List Obj):List Obj:=z112::z1::z8::z113::z1::z114::z115::z116::z1::z8::z117::z1::z118::z119::z120::z1::t
def z121:=zj "marks" Hy
def z122:=zk "marks" "marks" 475 193 1 3 191 true (.ref 193) 478 479
def z123:=zi "marks" Hy "gapscribe.looks" 443 194
def z124:=zu [("_law_script",486),("_law_k",487)]
def z125:=zj "_law_cell_at" Jk
def z126:=zb "_law_cell_at" 483 196 2 3 196 488 489
def z127:=zi "_law_cell_at" Jk "law_gapscribe_k34_kinds_are_most_general" 481 201
def z128:=zj "_law_names" Hs
def z129:=zk "_law_names" "_law_names" 491 200 2 3 203 true (.ref 205) 494 495
def z130:=zi "_law_names" Hs "law_gapscribe_k34_kinds_are_most_general" 481 206
def Oe (P:Params)(t:List Obj):List Obj:=z8::z121::z122::z123::z1::z8::z124::z1::z125::z126::z127::z1::z8::z128::z129::z130::t
def z131:=zu [("_law_cell",500),("_law_num",501),("_law_truth",502),("_law_kinds",503)]
def z132:=zj "_law_kind_by" Hi
def z133:=zb "_law_kind_by" 497 214 1 3 208 504 505
def z134:=zi "_law_kind_by" Hi "law_gapscribe_k34_kinds_are_most_general" 481 213
def z135:=zj "_law_in_sight" Ir
def z136:=zk "_law_in_sight" "_law_in_sight" 507 220 2 3 215 true (.ref 217) 510 511
def z137:=zi "_law_in_sight" Ir "law_gapscribe_k34_kinds_are_most_general" 481 218
def z138:=zu [("_law_cell",516),("_law_kind",517),("_law_around",518),("_law_some",519)]
def N5 (P:Params)(t:List Obj):List Obj:=z1::z8::z131::z1::z132::z133::z134::z1::z8::z135::z136::z137::z1::z8::z138::z1::t
def z139:=zj "_law_leaf" Ie
def Ma:Obj:=zb "_law_leaf" 513 225 3 3 220 520 521
def Mn:Obj:=zi "_law_leaf" Ie "law_gapscribe_k34_kinds_are_most_general" 481 225
def z142:=zj "_law_shares" Jf
def Zag:Obj:=zk "_law_shares" "_law_shares" 523 234 3 3 227 true (.ref 229) 526 527
def Ol:Obj:=zi "_law_shares" Jf "law_gapscribe_k34_kinds_are_most_general" 481 230
def Znr (P:Params)(t:List Obj):List Obj:=z139::Ma::Mn::z1::z8::z142::Zag::Ol::t
def Rtree_277:Params->B:=fun P=>tO (Zih P (Ib P (Hr P (Jg P (Je P (Ke P (Km P (Kl P (J2 P (Nw P (Mm P (Mz P (Oe P (N5 P (Znr P [])))))))))))))))
def d5 (P:Params):=d4 P++[ze P "_law_word" 536 (.ref 238),ze P "_law_wishes" 550 (.ref 245),ze P "_law_built" 572 (.ref 252),ze P "_law_case" 581 (.ref 259),ze P "law" 598 (.ref 266)]
def z145 (P:Params):=zt "dict" (.dict ⟨d5 P⟩ 47)
def y5:List (Int×Int×Addr):=y4++[(240,0,237),(248,0,244),(262,0,251),(276,0,258),(286,0,265)]
def z146:=zy y5
def Ze4 (P:Params)(t:List Obj):List Obj:=zn0 P (z145 P) z146 t
def z147:=zu [("_law_cell",532),("_law_kind",533)]
def z148:=zj "_law_word" He
def z149:=zb "_law_word" 529 240 2 3 232 534 535
def z150:=zi "_law_word" He "law_gapscribe_k34_kinds_are_most_general" 481 237
def Zfi (P:Params)(t:List Obj):List Obj:=z139::Ma::Mn::z1::z8::z142::Zag::Ol::z1::z8::z147::z1::z148::z149::z150::z1::t
def z151:=zu [("_law_word_here",540),("_law_cell",541),("_law_kind",542),("_law_name",543),("_law_other",544),("_law_around",545),("_law_num",546),("_law_more",547)]
def z152:=zj "_law_wishes" I0
def z153:=zb "_law_wishes" 537 248 6 3 239 548 549
def z154:=zi "_law_wishes" I0 "law_gapscribe_k34_kinds_are_most_general" 481 244
def z155:=zu [("_law_cells",554),("_law_kind",555),("_law_around",556),("_law_names_here",557),("_law_place",558),("_law_wished",559),("_law_cell",560),("_law_word_here",561),("_law_name",562),("_law_note",563),("_law_wishes_here",564),("_law_shares_here",565),("_law_parts",566),("_law_k",567),("_law_wish",568),("_law_bound",569)]
def z156:=zj "_law_built" Gq
def z157:=zb "_law_built" 551 262 6 3 246 570 571
def z158:=zi "_law_built" Gq "law_gapscribe_k34_kinds_are_most_general" 481 251
def z159:=zu [("_law_told",576),("_law_kind",577),("_law_chosen",578)]
def Zd6 (P:Params)(t:List Obj):List Obj:=z8::z151::z1::z152::z153::z154::z1::z8::z155::z1::z156::z157::z158::z1::z8::z159::t
def z160:=zj "_law_case" G1
def z161:=zb "_law_case" 573 276 3 3 253 579 580
def z162:=zi "_law_case" G1 "law_gapscribe_k34_kinds_are_most_general" 481 258
def z163:=zu [("_law_script",585),("_law_names_here",586),("_law_wished",587),("_law_tree",588),("_law_rows",589),("_law_chosen",590),("_law_k",591),("_law_place",592),("_law_given",593),("_law_asked",594),("_law_mark",595)]
def z164:=zj "law" Jj
def z165:=zb "law" 582 286 1 3 260 596 597
def z166:=zi "law" Jj "law_gapscribe_k34_kinds_are_most_general" 481 265
def Zd8 (P:Params)(t:List Obj):List Obj:=z1::z160::z161::z162::z1::z8::z163::z1::z164::z165::z166::t
def Rtree_314:Params->B:=fun P=>tO (Ze4 P (Ib P (Hr P (Jg P (Je P (Ke P (Km P (Kl P (J2 P (Nw P (Mm P (Mz P (Oe P (N5 P (Zfi P (Zd6 P (Zd8 P [])))))))))))))))))
def Rheap_315:Params->Heap:=fun P=>⟨⟨Ze4 P (Ib P (Hr P (Jg P (Je P (Ke P (Km P (Kl P (J2 P (Nw P (Mm P (Mz P (Oe P (N5 P (Zfi P (Zd6 P (Zd8 P []))))))))))))))))⟩,Life.mk [] [] [] 0 [] [] false #[] [] 0 false false false 0 [2000,10,10] false 0 true [] [] 0 false⟩
end
noncomputable def KK:Params->Oz:=fun P=>(nat_lit 2,boot_o_2 P)::(nat_lit 3,z145 P)::(nat_lit 23,z11 P)::(nat_lit 24,z26)::(nat_lit 36,z20 P)::(nat_lit 37,z21)::(nat_lit 55,z36 P)::(nat_lit 56,z37)::(nat_lit 64,z42)::(nat_lit 65,z43)::(nat_lit 71,z46)::(nat_lit 72,z47)::(nat_lit 78,z50)::(nat_lit 79,z51)::(nat_lit 85,z54)::(nat_lit 86,z55)::(nat_lit 92,z60)::(nat_lit 93,z61)::(nat_lit 99,z64)::(nat_lit 100,z65)::(nat_lit 104,z67)::(nat_lit 105,z68)::(nat_lit 111,z71)::(nat_lit 112,z72)::(nat_lit 113,z73)::(nat_lit 114,z74)::(nat_lit 115,z75)::(nat_lit 121,z78)::(nat_lit 122,z79)::(nat_lit 128,z82)::(nat_lit 129,z83)::(nat_lit 135,z86)::(nat_lit 136,z87)::(nat_lit 142,z90)::(nat_lit 143,z91)::(nat_lit 149,z94)::(nat_lit 150,z95)::(nat_lit 156,z98)::(nat_lit 157,z99)::(nat_lit 163,z104)::(nat_lit 164,z105)::(nat_lit 170,z108)::(nat_lit 171,z109)::(nat_lit 175,z111)::(nat_lit 176,z112)::(nat_lit 182,z115)::(nat_lit 183,z116)::(nat_lit 189,z119)::(nat_lit 190,z120)::(nat_lit 194,z122)::(nat_lit 195,z123)::(nat_lit 201,z126)::(nat_lit 202,z127)::(nat_lit 206,z129)::(nat_lit 207,z130)::(nat_lit 213,z133)::(nat_lit 214,z134)::(nat_lit 218,z136)::(nat_lit 219,z137)::(nat_lit 225,Ma)::(nat_lit 226,Mn)::(nat_lit 230,Zag)::(nat_lit 231,Ol)::(nat_lit 237,z149)::(nat_lit 238,z150)::(nat_lit 244,z153)::(nat_lit 245,z154)::(nat_lit 251,z157)::(nat_lit 252,z158)::(nat_lit 258,z161)::(nat_lit 259,z162)::(nat_lit 265,z165)::(nat_lit 266,z166)::[]
noncomputable def KA:List Addr:=[2,3,23,24,36,37,55,56,64,65,71,72,78,79,85,86,92,93,99,100,104,105,111,112,113,114,115,121,122,128,129,135,136,142,143,149,150,156,157,163,164,170,171,175,176,182,183,189,190,194,195,201,202,206,207,213,214,218,219,225,226,230,231,237,238,244,245,251,252,258,259,265,266]
noncomputable def RB (P:Params):List Rv×List Heap:=([Rtree_78 P,Rtree_128 P,Rtree_201 P,Rtree_277 P,Rtree_314 P],[Rheap_315 P])
theorem e_RB:RB=RB:=rfl
name_quick x_RB for K34.RB by K34.e_RB
end K34
namespace PySem.W.Fast
noncomputable def tw17158947740400010848:Sf->Rv:=tw14620446343194120584
theorem te17158947740400010848:K34.Rtree_78=tw17158947740400010848:=te14620446343194120584
noncomputable def tw304172573040072803:Sf->Rv:=tw6639623104546617001
theorem te304172573040072803:K34.Rtree_128=tw304172573040072803:=te6639623104546617001
noncomputable def tw11130440356737522395:Sf->Rv:=tw10204798231260611715
theorem te11130440356737522395:K34.Rtree_201=tw11130440356737522395:=te10204798231260611715
noncomputable def tw8529199199285455215:Sf->Rv:=tw13900852871126718749
theorem te8529199199285455215:K34.Rtree_277=tw8529199199285455215:=te13900852871126718749
noncomputable def tw11646966598599800442:Sf->Rv:=tw14172046055258055744
theorem te11646966598599800442:K34.Rtree_314=tw11646966598599800442:=te14172046055258055744
noncomputable def tw196048645146888122:Sf->PySem.Heap:=tw12147554448881118548
theorem te196048645146888122:K34.Rheap_315=tw196048645146888122:=te12147554448881118548
end PySem.W.Fast
local macro_rules | `(tactic| walk_at "gd")=>`(tactic| (refine' ⟨?ka,_,L2.fun_mk ?kl ?kc ?kk⟩; (case ka=>k_is); (case kl=>k_is); (case kc=>k_is); (case kk=>k_is)))
namespace K34
open PySem L2 K19
noncomputable abbrev L0:=Zel
theorem all1 {α:Type}{P:List α->Prop}(h:∀ a,P [a]):∀ us:List α,us.length=1->P us
 | [a],_=>h a
theorem all2 {α:Type}{P:List α->Prop}(h:∀ a b,P [a,b]):∀ us:List α,us.length=2->P us
 | [a,b],_=>h a b
theorem all3 {α:Type}{P:List α->Prop}(h:∀ a b c,P [a,b,c]):∀ us:List α,us.length=3->P us
 | [a,b,c],_=>h a b c
theorem all4 {α:Type}{P:List α->Prop}(h:∀ a b c d,P [a,b,c,d]):∀ us:List α,us.length=4->P us
 | [a,b,c,d],_=>h a b c d
theorem all6 {α:Type}{P:List α->Prop}(h:∀ a b c d e f,P [a,b,c,d,e,f]):∀ us:List α,us.length=6->P us
 | [a,b,c,d,e,f],_=>h a b c d e f
local macro_rules | `(tactic| walk_at "bi")=>`(tactic| first | exact fun _ _ _ _ _ _=>K34.all1 fun _=>rfl | exact fun _ _ _ _ _ _=>K34.all2 fun _ _=>rfl | exact fun _ _ _ _ _ _=>K34.all3 fun _ _ _=>rfl | exact fun _ _ _ _ _ _=>K34.all4 fun _ _ _ _=>rfl | exact fun _ _ _ _ _ _=>K34.all5 fun _ _ _ _ _=>rfl | exact fun _ _ _ _ _ _=>K34.all6 fun _ _ _ _ _ _=>rfl)
theorem Zd4 {P:Program}{w:World}{K:Oz}{mg:Str->Option Value}{base:Heap}{f:Addr}{fd:FuncData}(F:Fun K "_law_built" "_law_built" Gq f fd)(T:Txt K mg)(C__law_leaf:A9 P w K mg base 2 "_law_leaf" ["_law_cell", "_law_kind", "_law_around"] (Mg K))(C__law_word:A9 P w K mg base 1 "_law_word" ["_law_cell", "_law_kind"] (Zae K))(C__law_wishes:A9 P w K mg base 2 "_law_wishes" ["_law_word_here", "_law_cell", "_law_kind", "_law_name", "_law_other", "_law_around"] (Mq K))(C__law_shares:A9 P w K mg base 1 "_law_shares" ["_law_rest", "_law_many", "_law_turn"] (Nj K))
  (mk:∀ n,Bc P w K mg base Be (n+2) f fd ["_law_cells", "_law_kind", "_law_around", "_law_names_here", "_law_place", "_law_wished"] (F3 K n)->A9 P w K mg base (n+2) "_law_built" ["_law_cells", "_law_kind", "_law_around", "_law_names_here", "_law_place", "_law_wished"] (F3 K n)):∀ n,Bc P w K mg base Be (n+2) f fd ["_law_cells", "_law_kind", "_law_around", "_law_names_here", "_law_place", "_law_wished"] (F3 K n)
 | 0=>by
  have no:∀ vs H Q E,¬ F3 K 0 vs H Q E:=by
   rintro vs H Q E ⟨pc,kv,pa,pn,pp,pw,ns,k,ar,pl,wv,_,_,h,_⟩
   exact absurd h (Rt _)
  exact ⟨fun vs H Q E h=>absurd h (no _ _ _ _),fun A outer s H args us vs Q E _ _ _ _ h=>absurd h (no _ _ _ _)⟩
 | n+1=>Zng F T C__law_leaf C__law_word C__law_wishes C__law_shares (mk n (Zd4 F T C__law_leaf C__law_word C__law_wishes C__law_shares mk n))
theorem Zfn {P:Program}{w:World}{K:Oz}{mg:Str->Option Value}{base:Heap}{f:Addr}{fd:FuncData}(F:Fun K "_law_case" "_law_case" G1 f fd)(T:Txt K mg)
  (mk:∀ n,Bc P w K mg base Be (n+1) f fd ["_law_told", "_law_kind", "_law_chosen"] (Gg K n)->A9 P w K mg base (n+1) "_law_case" ["_law_told", "_law_kind", "_law_chosen"] (Gg K n)):∀ n,Bc P w K mg base Be (n+1) f fd ["_law_told", "_law_kind", "_law_chosen"] (Gg K n)
 | 0=>by
  have no:∀ vs H Q E,¬ Gg K 0 vs H Q E:=by
   rintro vs H Q E ⟨u,v,d,tk,k,ρ,kvs,_,_,_,_,_,h,_⟩
   exact absurd h (Rt _)
  exact ⟨fun vs H Q E h=>absurd h (no _ _ _ _),fun A outer s H args us vs Q E _ _ _ _ h=>absurd h (no _ _ _ _)⟩
 | n+1=>Zls F T (mk n (Zfn F T mk n))
theorem two_top {K:Oz}{a d e:Addr}{od:Option Addr}{its:Array Value}{n:Nat}{sl:Array (Option Value)}(l:K.lookup a=some ⟨.type "tuple",od,.seq its n,sl⟩)(h:its.toList=[.ref d,.ref e]):∀ H,SqT K H a [.ref d,.ref e]:=fun H=>by
 have v:Vals [.ref d,.ref e] its.toList:=by rw [h];exact .cons rfl (.cons rfl .nil)
 refine .inr ⟨_,its,n,l,rfl,rfl,?_,v⟩
 have b:1000<=sizeLine:=by decide
 have e2:its.toList.length=its.size:=R6
 have e3:its.toList.length=2:=by rw [h];rfl
 omega
noncomputable abbrev Gd (K:Oz)(n:Str)(st:Stmt)(f:Addr):Prop:=P3 K mainGlobals n=some (some (.ref f))/\∃ fd,Fun K n n st f fd
noncomputable abbrev Bi (n q:Str)(st:Stmt)(ps:List Str):Prop:=∀(kV doc pm:Value)(an:Option Addr)(cdv ct:Value)(us:List Value),us.length=ps.length->bindArgs (Rh n q (Fz st) (Ez st) (Bg st) .none kV doc pm an cdv ct) ⟨us,[]⟩=pure (ps.zip us)
section
variable {P:Program}{w:World}{K:Oz}{mg:Str->Option Value}{base h:Heap}(X:K.In h)(G:h.Ns mainGlobals mg){n q:Str}{st:Stmt}{f C:Addr}{k:Nat}{ps:List Str}{sp:Sp}
include X G
theorem cal (g:Gd K n st f)(ok:∀ fd,Fun K n n st f fd->Bc P w K mg base Be k f fd ps sp)(b:Bi n n st ps:=by walk_at "bi"):A9 P w K mg base k n ps sp:=by
 obtain ⟨a,fd,F⟩:=g
 exact Lr (ok fd F) (PySem.W.mg_of X G a) F.kp (F.binds b)
end
theorem all_mk {l:Vt}{w:World}{K:Oz}{h:Heap}{mg:Str->Option Value}{fa f1 f2 f3 f4 f5 f6 f7 f8 f9 f10 f11 f12 f13 f14 f15 f16 f17 f18 f19 f20 f21 f22 f23 f24 f25 f26 f27 f28 f29 f30 f31:Addr}(X:K.In h)(G:h.Ns mainGlobals mg)(hfa:mg "law" = some (.ref fa))
  (a1:Gd K "is_whole" Ii f1) (a2:Gd K "placed_forms" Iw f2) (a3:Gd K "has_part" Hl f3) (a4:Gd K "forms_down_to" Iz f4) (a5:Gd K "names_bound" Jm f5) (a6:Gd K "bindings_at" Hv f6) (a7:Gd K "names_at" Jh f7) (a8:Gd K "binding_at" Ho f8) (a9:Gd K "new_kind" Ih f9) (a10:Gd K "kinds_of_word" Iq f10) (a11:Gd K "with_names" Hz f11) (a12:Gd K "kinds_in" Ic f12) (a13:Gd K "last_same" Ia f13) (a14:Gd K "holds_itself" Iu f14) (a15:Gd K "joined" Jb f15)
  (a16:Gd K "fitted" Hk f16) (a17:Gd K "kinds_told" Hg f17) (a18:Gd K "mark_of" Jl f18) (a19:Gd K "looks" Ji f19) (a20:Gd K "marks" Hy f20) (a21:Gd K "_law_cell_at" Jk f21) (a22:Gd K "_law_names" Hs f22) (a23:Gd K "_law_shares" Jf f23) (a24:Gd K "_law_kind_by" Hi f24) (a25:Gd K "_law_in_sight" Ir f25) (a26:Gd K "_law_leaf" Ie f26) (a27:Gd K "_law_word" He f27) (a28:Gd K "_law_wishes" I0 f28) (a29:Gd K "_law_built" Gq f29) (a30:Gd K "_law_case" G1 f30)
  (a31:Gd K "law" Jj f31) (z1:P3 K mainGlobals "isinstance" = some none) (z2:P3 K mainGlobals "int" = some none) (z3:P3 K mainGlobals "bool" = some none) (z4:P3 K mainGlobals "reversed" = some none) (z5:P3 K mainGlobals "list" = some none) (z6:P3 K mainGlobals "enumerate" = some none) (z7:P3 K mainGlobals "len" = some none) (z8:P3 K mainGlobals "dict" = some none) (z9:P3 K mainGlobals "zip" = some none) (z10:P3 K mainGlobals "tuple" = some none) (z11:P3 K mainGlobals "range" = some none)
  (z12:P3 K mainGlobals "sorted" = some none) (z13:P3 K mainGlobals "sum" = some none) {u1 u2 u3:Tok} (b1:P3 K mainGlobals "NUM" = some (some (.int 0 u1))) (b2:P3 K mainGlobals "TRUTH" = some (some (.int 1 u2))) (b3:P3 K mainGlobals "MOST_FORMS" = some (some (.int 40 u3))) {fs t0 t1:Addr} {o2 o0 o1:Option Addr} {i2 i0 i1:Array Value} {n2 n0 n1:Nat} {l2 l0 l1:Array (Option Value)} (b4:P3 K mainGlobals "FIRST_SHAPES" = some (some (.ref fs))) (gtA:K.lookup fs=some ⟨.type "tuple",o2,.seq i2 n2,l2⟩) (eA:i2.toList=[.ref t0,.ref t1])
  (gtB:K.lookup t0=some ⟨.type "tuple",o0,.seq i0 n0,l0⟩) (eB:G8 i0.toList=some [.str "num"]) (gtC:K.lookup t1=some ⟨.type "tuple",o1,.seq i1 n1,l1⟩) (eC:G8 i1.toList=some [.str "truth"]) :
  ∃ fd:FuncData,(∀(s:Shared)(v:Value),BindsTo s fd ⟨[v],[]⟩ [("_law_script",v)])/\∀ base:Heap,K.In base->base.Ns mainGlobals mg->Bc l.prog w K mg base Be 17 fa fd ["_law_script"] (L0 K):=by
 obtain ⟨aL,fd,FL⟩:=a31
 have e:=hfa.symm.trans (PySem.W.mg_of X G aL)
 cases e
 have FX:=FL
 obtain ⟨_,_,kV,doc,pm,an,cdv,ct,_,ef,_,_⟩:=FL.ex
 refine ⟨fd,fun s v=>by rw [ef];exact .of_eq rfl,fun base _ _=>?_⟩
 have gl:=fun {n v}=>@PySem.W.mg_of K h mg n v X G
 have no:=fun {n}=>@PySem.W.mg_none_of K h mg n X G
 have T:Txt K mg:=⟨no z1,no z2,no z3,no z4,no z5,no z6,no z7,no z8,no z9,no z10,no z11,no z12,no z13⟩
 have GN:Fc mg "NUM" (.int 0):=⟨_,gl b1,⟨_,rfl⟩⟩
 have GT:Fc mg "TRUTH" (.int 1):=⟨_,gl b2,⟨_,rfl⟩⟩
 have GM:Fc mg "MOST_FORMS" (.int 40):=⟨_,gl b3,⟨_,rfl⟩⟩
 have GF:Fc mg "FIRST_SHAPES" (.ref fs):=⟨_,gl b4,rfl⟩
 have HF:=two_top gtA eA
 have HF0:=Zfq gtB eB (by decide)
 have HF1:=Zfq gtC eC (by decide)
 have ca:=fun {k n st f ps sp}=>@cal l.prog w K mg base h X G n st f k ps sp
 have C_is_whole:=ca a1 fun _ F=>Zn4 F T
 have C_placed_forms:=ca a2 fun _ F=>Zln F T
 have C_has_part:=ca a3 fun _ F=>Zgx F T C_is_whole
 have C_forms_down_to:=ca a4 fun _ F=>Zmc F T C_has_part
 have C_names_bound:=ca a5 fun _ F=>Zkp F T
 have C_bindings_at:=ca a6 fun _ F=>Zow F T C_forms_down_to C_names_bound
 have C_names_at:=ca a7 fun _ F=>Zil F T C_bindings_at
 have C_binding_at:=ca a8 fun _ F=>Zjg F T C_names_at
 have C_new_kind:=ca a9 fun _ F=>Zgj F T
 have C_kinds_of_word:=ca a10 fun _ F=>Zky F T GN GT C_new_kind
 have C_with_names:=ca a11 fun _ F=>Zok F T
 have C_kinds_in:=ca a12 fun _ F=>Zgm F T GF HF HF0 HF1 C_kinds_of_word C_with_names C_names_bound
 have C_last_same:=ca a13 fun _ F=>Zl7 F T
 have C_holds_itself:=ca a14 fun _ F=>Zhv F T C_last_same
 have C_joined:=ca a15 fun _ F=>Zn8 F T C_last_same C_holds_itself
 have C_fitted:=ca a16 fun _ F=>Zk7 F T C_joined
 have C_kinds_told:=ca a17 fun _ F=>Zot F T C_last_same
 have C_mark_of:=ca a18 fun _ F=>Zn0 F T C_binding_at
 have C_looks:=ca a19 fun _ F=>Zgn F T GM C_placed_forms C_kinds_in C_fitted C_kinds_told C_mark_of
 have C_marks:=ca a20 fun _ F=>Zg2 F T C_looks
 have C__law_cell_at:=ca a21 fun _ F=>Zm9 F T
 have C__law_names:=ca a22 fun _ F=>Zpm F T
 have C__law_shares:=ca a23 fun _ F=>Zlb F T
 have C__law_kind_by:=ca a24 fun _ F=>Zj7 F T
 have C__law_in_sight:=ca a25 fun _ F=>Zo5 F T
 have C__law_leaf:=ca a26 fun _ F=>Zgi F T C__law_in_sight
 have C__law_word:=ca a27 fun _ F=>Zjx F T
 have C__law_wishes:=ca a28 fun _ F=>Zk3 F T C__law_kind_by
 have C__law_built:=ca a29 fun _ F=>Zd4 F T C__law_leaf C__law_word C__law_wishes C__law_shares (fun n h=>Lr h (gl a29.1) F.kp (F.binds (by walk_at "bi"))) 13
 have C__law_case:=ca a30 fun _ F=>Zfn F T (fun n h=>Lr h (gl a30.1) F.kp (F.binds (by walk_at "bi"))) 15
 exact Zm6 FX T C__law_cell_at C__law_names C__law_kind_by C__law_built C_looks C_marks C__law_case
theorem walk {l:Vt}{q:Program}{loose:List Str}{XP:(Str->Option Value)->Heap->Prop}{YP:World->Heap->Prop}{d:DefRec}{K:Params->Oz}(hn:l.most=some 63)(hdf:d.params.defaults=[])
  (hY:∀(w:World)(h:Heap),YP w h->(K w.params).In h)
  (F:∀(w:World)(mg:Str->Option Value)(fa:Addr)(h:Heap),(K w.params).In h->h.Ns mainGlobals mg->mg d.name=some (.ref fa) ->
   ∃ fd:FuncData,(∀(s:Shared)(u:Value),BindsTo s fd ⟨[u],[]⟩ [("_law_script",u)])/\∀ base:Heap,(K w.params).In base->base.Ns mainGlobals mg->Bc l.prog w (K w.params) mg base Be 17 fa fd ["_law_script"] (L0 (K w.params))) :
  PySem.W.WalkO q loose XP YP l.row.toRowW d [] (fun f vs=>PySem.call f vs) :=
 L2.walk_of (n:=63) (k:=17) (x := "_law_script") (CX:=fun _=>Be) (sp:=fun w=>L0 (K w.params)) hn (by decide) hdf ⟨rfl,by decide,by decide⟩ hY F (fun _ _ a ns hl _ hS=>⟨a,ns,rfl,hS,hl,fun _=>rfl⟩) fun _ _ _ _ _ z=>z
end K34
open PySem PySem.W PyProof.Rows
set_option maxRecDepth 100000 in
set_option maxHeartbeats 0 in
theorem PySem.Challenge.cw_gapscribe_k34_kinds_are_most_general_holds : PySem.Challenge.rw_gapscribe_k34_kinds_are_most_general.Holds := by
 w_on; o_law; o_head (PySem.W.kHook K34.KK K34.KA (fun _=>by kernel_rfl)); (case hw=>w_witness2)
 k_fill
 refine K34.walk (l:=PySem.Challenge.rw_gapscribe_k34_kinds_are_most_general) rfl rfl (fun w h Y=>PySem.W.kIn_of Y) ?F
 case F =>
  intro w mg fa h KX G hmg
  refine' K34.all_mk KX G hmg ?a1 ?a2 ?a3 ?a4 ?a5 ?a6 ?a7 ?a8 ?a9 ?a10 ?a11 ?a12 ?a13 ?a14 ?a15 ?a16 ?a17 ?a18 ?a19 ?a20 ?a21 ?a22 ?a23 ?a24 ?a25 ?a26 ?a27 ?a28 ?a29 ?a30 ?a31 ?z1 ?z2 ?z3 ?z4 ?z5 ?z6 ?z7 ?z8 ?z9 ?z10 ?z11 ?z12 ?z13 ?b1 ?b2 ?b3 ?b4 ?gtA ?eA ?gtB ?eB ?gtC ?eC
  (case a1=>walk_at "gd")
  (case a2=>walk_at "gd")
  (case a3=>walk_at "gd")
  (case a4=>walk_at "gd")
  (case a5=>walk_at "gd")
  (case a6=>walk_at "gd")
  (case a7=>walk_at "gd")
  (case a8=>walk_at "gd")
  (case a9=>walk_at "gd")
  (case a10=>walk_at "gd")
  (case a11=>walk_at "gd")
  (case a12=>walk_at "gd")
  (case a13=>walk_at "gd")
  (case a14=>walk_at "gd")
  (case a15=>walk_at "gd")
  (case a16=>walk_at "gd")
  (case a17=>walk_at "gd")
  (case a18=>walk_at "gd")
  (case a19=>walk_at "gd")
  (case a20=>walk_at "gd")
  (case a21=>walk_at "gd")
  (case a22=>walk_at "gd")
  (case a23=>walk_at "gd")
  (case a24=>walk_at "gd")
  (case a25=>walk_at "gd")
  (case a26=>walk_at "gd")
  (case a27=>walk_at "gd")
  (case a28=>walk_at "gd")
  (case a29=>walk_at "gd")
  (case a30=>walk_at "gd")
  (case a31=>walk_at "gd")
  (case z1=>k_is)
  (case z2=>k_is)
  (case z3=>k_is)
  (case z4=>k_is)
  (case z5=>k_is)
  (case z6=>k_is)
  (case z7=>k_is)
  (case z8=>k_is)
  (case z9=>k_is)
  (case z10=>k_is)
  (case z11=>k_is)
  (case z12=>k_is)
  (case z13=>k_is)
  (case b1=>k_is)
  (case b2=>k_is)
  (case b3=>k_is)
  (case b4=>k_is)
  (case gtA=>k_is)
  (case eA=>rfl)
  (case gtB=>k_is)
  (case eB=>rfl)
  (case gtC=>k_is)
  (case eC=>rfl)
#print axioms PySem.Challenge.cw_gapscribe_k34_kinds_are_most_general_holds
