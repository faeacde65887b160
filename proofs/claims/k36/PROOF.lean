import PyProof.Rows.All
import Wide.All
import OpenK.AllK
import Wide.FinOn
import Lean
import PyProof.EqAt
import PyProof.EqKinds
import PyProof.TupleCall
import PyProof.StrBlock2
import KE.KDictOf
import PyProof.AttrMissHeap
import KE.KRevSl
import PySem.Challenge.RW_gapscribe_k36_marks_ahead_stay
set_option compiler.extract_closed false
set_option bootstrap.genMatcherCode false
set_option genSizeOfSpec false
set_option Elab.async false
set_option linter.all false
set_option maxRecDepth 100000
open Array renaming length_toList->Ti
open Bool renaming false_ne_true->Pp,and_eq_true->Rr,eq_iff_iff->Rt,false_eq_true->Tp,or_false->U4
open False renaming elim->Ra
open Int renaming emod_lt_of_pos->Ro,toNat_natCast->Rq,emod_nonneg->Rv
open List renaming getElem?_eq_getElem->Pb,getElem?_eq_some_iff->Pg,size_toArray->Pf,length_map->Pe,length_append->Pl,length_cons->Pj,mem_cons->Ph,getElem?_map->Pq,getElem?_append_left->Qe,length_take->Pt,getD_eq_getElem?_getD->Qk,length_singleton->Qa,mem_append->Pw,mem_singleton->P7,mem_of_getElem?->Qb,getElem?_append_right->Qm,not_mem_nil->P3,take_of_length_le->Qp,mem_append_right->Qs,eq_nil_of_length_eq_zero->Rb,append_nil->Qc,length_set->Qd,append_assoc->Qi,mem_cons_of_mem->Qy,map_append->Qf,drop_eq_getElem_cons->Rc,range->Py,getElem?_set_self->Rf,map_cons->Qg,take_length->Qz,replicate->Qq,mem_append_left->Rg,length_filter_le->Rn,take_succ->Qv,append_inj'->Q8,mem_map->Qr,eq_nil_or_concat->Ry,concat_eq_append->Rz,getElem?_mapIdx->R0,cons_append->Rh,drop_of_length_le->Sd,mem_filter->Ri,lookup_cons->Rs,getElem?_set_ne->Si,filter_cons_of_neg->Tf,nil_append->Ru,mem_cons_self->Sj,take_add_one->Sm,replicate_succ->Tj,length_reverse->Tk,filter_append->Tq,length->Rl,forIn_cons->So,find?_cons->Ss,flatten_cons->Ts,length_drop->Tt,all_eq_true->Tu,getElem_mem->Tv,nodup_cons->Tw,zip_cons_cons->Uu,length_nil->Tx,filter_cons_of_pos->Vl,prefix_rfl->T3,forIn_nil->T6,drop_zero->T7,getElem_toArray->Vr,any_cons->Ua,dropLast_concat_getLast->Wj,filterMap_cons->Vs,of_mem_zip->Uy,flatMap_append->Vt,getElem_of_mem->Vu,take_succ_cons->Vv,length_mapIdx->Vz,filter_filter->V0,ext_getElem?->V6,all_cons->U5,map_take->U7,filter->Ud,getElem_map->V9,drop_length->Wa,map_nil->Vb,map_map->Vh
open Nat renaming le_refl->Pc,lt_of_lt_of_le->Pz,ne_of_lt->Pr,le_trans->P5,zero_le->P6,lt_irrefl->Qw,ne_of_gt->Q1,not_lt_zero->Rj,zero_add->Rk,le_add_right->Sn,min_eq_left->Sr,sub_self->R6,lt_succ_of_lt->V3,le_succ->Uc,min_eq_right->V7,le_of_lt->U8,succ_pos->Ve,sub_zero->Vf
open Ne renaming symm->P9
open Option renaming isSome_iff_exists->Re,map_eq_some_iff->Vn,map_some->U2,isSome_map->V5
open Option.some renaming inj->Po
open PyProof.Rows renaming callWith_type1->Q2,slot_tuple_getitem->Sa,boot_enumerate->Wk,assignInOrder_cons->Vw
open PySem renaming wpAny_bind->Pa,wpAny_pure->Pd,wpAny_field->Px,wpAny_callSpecial?_slot->Q5,wpAny_setField_rec->Q6,wpAny_call_entry->Q7,wpAny_seqItems->Q3,wpAny_holding->Q0,wpAny_newObj_type->Rp,mem_of_lookup->R1,builtinLookup_eq_fast->Sf,wpAny_truthy_bool->R4,tupleKind_room_in1->Sk,wpAny_passesOwn->R5,wpAny_getItem_str_slice->Um,wpAny_pyIter_tuple->To,typeLookup_type->Sq,wpAny_attempt->Su,wpAny_specialOf->Tz,wpAny_updateSeq->T2,richCompare_meets_room->Vm,Params->Sv,noFill_tuple_add->Uv,wpAny_isInstance->Uw,wpAny_pyIter_revIter->Vp,wpAny_updateSeq_pair->Vq,wpAny_standAt->T9,plainId_quiet->Ub,wpAny_execs_nil->Ux,post_val_or_str->U0,codeAny_builtin->U1,wpAny_Call_Name_kw->Vx,wpAny_mono->Sy,wpAny_rule->Sz,call_meets->Ta,wpAny_pyIter_enum->V4,Stmt->Tb,seq_tuple_add->U3,wpAny_onRaise->U6,wpAny_pyIter_zip->V8,concat_meets->U9,wpAny_typeOf->Va,revObj->Vd,call_meetsIn->Vg,wpAny_letGo->Vi
open PySem.Around renaming under_plainId->Ut
open PySem.AutoSeq1 renaming wpAny_loadPart'->Ug
open PySem.Builtin.List renaming listTooLong->Sb,listLengthHint->Tc,listExtendWith->Vj
open PySem.Builtin.Slice renaming slicePlaces->Ui,sliceAdjust->Vk
open PySem.Builtin.SmallTypes renaming ownedTupleIsFree->Q4,nextOf->Qx,ownedTupleHandOut->Wd
open PySem.Builtin.Tuple renaming tupleExact->Uk,tupleCompareSizes->Wg
open PySem.Calls renaming spliced_cons->R3,spliced_nil->Sl,callWith_builtin->Uq,evalArgs_plain->Vo
open PySem.Challenge renaming pw_gapscribe_k36_marks_ahead_stay->R9
open PySem.Draws renaming list->R7
open PySem.F renaming plainAttrs_list->P8,slot_list_append->Qn,type_list_append->Qo,slot_zip_next->Rm,slot_tuple_iterator_next->Uf,plain_extend_loop->Te,slot_dict_get->Sg,slot_enumerate_next->Uh,slot_list_pop->Tg,type_list_pop->Th,args_tuple_add_2->Uj,entry_tuple_add->Ul,args_zip_next_1->Uo,slot_tuple_add->Up,entry_zip_next->Ur,entry_dict_get->Us,args_tuple_iterator_next_1->We,entry_tuple_iterator_next->Wf,args_enumerate_next_1->Wh,entry_enumerate_next->Wi
open PySem.Heap renaming get?_push_of_some->Pk,lt_size->Pi,get?_push_size->P0,SameBut->Pu,size_push->Qu,get?_update_other->Sc,get?_update_self->Se,ExtBut->Sw
open PySem.Obj renaming mapSeq->Qj
open PySem.Paired renaming length->T8
open PySem.PassesOwn renaming never->P4
open PySem.SeqAt renaming EqAt->Pn
open PySem.SeqAt.EqAt renaming int_int->Tl,same->Uz,of_refs->Vy
open PySem.Str renaming ofString->Ql
open PySem.Txt renaming slice_le->Vc,slice->Ue
open PySem.W renaming Frag->O9,kia_one->Qt,nsIn->Qh,kitOne->Q9,fnOf->Rx,keepIn->T4,BT->R8,methodObj->V1,kitx_list->V2,instObj->Wb,OpenLaw->Wc
namespace L2
open PySem PySem.Spec PyProof.Rows
noncomputable abbrev Au:=Sum Int Str
noncomputable def Gv:Au->Value->Bool
 | .inl k,v=>Value.isInt k v
 | .inr x,v=>Value.isStrOf x v
noncomputable def keyH (w:World):Au->Int
 | .inl k=>hashInt k
 | .inr x=>hashStr w x
theorem Fj:∀{k:Au}{v:Value},Gv k v=true->(∃ i t,k=Sum.inl i/\v=Value.int i t)\/(∃ x t,k=Sum.inr x/\v=Value.str x t)
 | .inl i,v,h=>by
  obtain ⟨t,e⟩:=Value.isInt_shape (k:=i) (v:=v) h
  exact .inl ⟨i,t,rfl,e⟩
 | .inr x,v,h=>by
  obtain ⟨t,e⟩:=Value.isStrOf_shape (x:=x) (v:=v) h
  exact .inr ⟨x,t,rfl,e⟩
theorem Zkb (i:Int)(t:Tok):Gv (.inl i) (.int i t)=true:=by simp [Gv,Value.isInt]
theorem Zpo (x:Str)(t:Tok):Gv (.inr x) (.str x t)=true:=by simp [Gv,Value.isStrOf]
theorem Zhi (a b:Int):decide ((Sum.inl a:Au)=Sum.inl b)=(a == b):=by
 by_cases e:a=b
 ·subst e;simp
 ·have h:¬ (Sum.inl a:Au)=Sum.inl b:=fun q=>e (Sum.inl.inj q)
  rw [decide_eq_false h]
  exact (beq_eq_false_iff_ne.mpr e).symm
theorem Zpb (a b:Str):decide ((Sum.inr a:Au)=Sum.inr b)=decide (a=b):=by
 by_cases e:a=b
 ·subst e;simp
 ·have h:¬ (Sum.inr a:Au)=Sum.inr b:=fun q=>e (Sum.inr.inj q)
  rw [decide_eq_false h,decide_eq_false e]
theorem Znh (a:Int)(b:Str):decide ((Sum.inl a:Au)=Sum.inr b)=false:=decide_eq_false (fun q=>nomatch q)
theorem Zov (a:Str)(b:Int):decide ((Sum.inr a:Au)=Sum.inl b)=false:=decide_eq_false (fun q=>nomatch q)
noncomputable def Cr (prog:Program)(w:World):PySem.KeyKind prog w Au where
 is:=Gv
 hash:=keyH w
 inj:=fun v a b ha hb=>by
  rcases Fj ha with ⟨i,t,rfl,rfl⟩ | ⟨x,t,rfl,rfl⟩
  ·rcases Fj hb with ⟨j,u,rfl,e⟩ | ⟨y,u,rfl,e⟩
   ·injection e with e1 _;rw [e1]
   ·exact nomatch e
  ·rcases Fj hb with ⟨j,u,rfl,e⟩ | ⟨y,u,rfl,e⟩
   ·exact nomatch e
   ·injection e with e1 _;rw [e1]
 byValue:=fun k v h=>by
  rcases Fj h with ⟨i,t,rfl,rfl⟩ | ⟨x,t,rfl,rfl⟩ <;> rfl
 pyHash:=fun hv h=>by
  rcases Fj hv with ⟨i,t,rfl,rfl⟩ | ⟨x,t,rfl,rfl⟩
  ·exact wpAny_pyHash_int h
  ·exact wpAny_pyHash_str h
 eqBool:=fun hu hv h=>by
  rcases Fj hu with ⟨i,t,rfl,rfl⟩ | ⟨x,t,rfl,rfl⟩
  ·rcases Fj hv with ⟨j,u,rfl,rfl⟩ | ⟨y,u,rfl,rfl⟩
   ·rw [Zhi] at h;exact wpAny_eqBool_int h
   ·rw [Znh] at h;exact Pn.int_str i t y u _ _ _ _ h
  ·rcases Fj hv with ⟨j,u,rfl,rfl⟩ | ⟨y,u,rfl,rfl⟩
   ·rw [Zov] at h;exact Pn.str_int x t j u _ _ _ _ h
   ·rw [Zpb] at h;exact wpAny_eqBool_str h
 «strs»:=fun k x t v h=>by
  rcases Fj h with ⟨i,u,rfl,e⟩ | ⟨y,u,rfl,e⟩
  ·exact nomatch e
  ·injection e with e1 _
   subst e1
   cases v <;> rfl
theorem Zo0 (prog:Program)(w:World)(i:Int)(t:Tok):(Cr prog w).is (.inl i) (.int i t)=true:=Zkb i t
theorem Zoo (prog:Program)(w:World)(x:Str)(t:Tok):(Cr prog w).is (.inr x) (.str x t)=true:=Zpo x t
inductive V where
 | non | bl (b:Bool) | int (i:Int) | str (x:Str) | byt (b:Array UInt8) | flt (b:UInt64) | ref (a:Addr) | ty (n:String)
 deriving DecidableEq
noncomputable def RelV:V->Value->Prop
 | .non,u=>u=Value.none
 | .bl b,u=>u=Value.bool b
 | .int i,u=>∃ t,u=Value.int i t
 | .str x,u=>∃ t,u=Value.str x t
 | .byt b,u=>∃ t,u=Value.bytes b t
 | .flt b,u=>∃ t,u=Value.float b t
 | .ref a,u=>u=Value.ref a
 | .ty n,u=>u=Value.type n
noncomputable abbrev Vals:List V->List Value->Prop:=Paired RelV
theorem Vals.length {xs:List V}{us:List Value}(r:Vals xs us):xs.length=us.length:=T8 r
theorem Vals.get:∀{xs:List V}{us:List Value}{i:Nat}{x:V},Vals xs us->xs[i]?=some x->∃ u,us[i]?=some u/\RelV x u
 | _,_,_,_,.nil,e=>by simp at e
 | _,_,0,_,.cons r _,e=>by simp at e;subst e;exact ⟨_,rfl,r⟩
 | _,_,i+1,x,.cons _ t,e=>by
  obtain ⟨u,h1,h2⟩:=Vals.get (i:=i) (x:=x) t (by simpa using e)
  exact ⟨u,by simpa using h1,h2⟩
theorem Vals.set {x:V}{u:Value}(r:RelV x u):∀{xs:List V}{us:List Value}(i:Nat),Vals xs us->Vals (xs.set i x) (us.set i u)
 | _,_,_,.nil=>.nil
 | _,_,0,.cons _ t=>.cons r t
 | _,_,i+1,.cons q t=>.cons q (Vals.set r i t)
theorem Vals.append:∀{xs ys:List V}{us ws:List Value},Vals xs us->Vals ys ws->Vals (xs++ys) (us++ws)
 | _,_,_,_,.nil,s=>s
 | _,_,_,_,.cons r t,s=>.cons r (Vals.append t s)
theorem Vals.take:∀{xs:List V}{us:List Value}(n:Nat),Vals xs us->Vals (xs.take n) (us.take n)
 | _,_,0,_=>.nil
 | _,_,_+1,.nil=>.nil
 | _,_,n+1,.cons r t=>.cons r (Vals.take n t)
theorem Vals.drop:∀{xs:List V}{us:List Value}(n:Nat),Vals xs us->Vals (xs.drop n) (us.drop n)
 | _,_,0,r=>r
 | _,_,_+1,.nil=>.nil
 | _,_,n+1,.cons _ t=>Vals.drop n t
noncomputable def RelO:Option V->Option Value->Prop
 | some v,some u=>RelV v u
 | none,none=>True
 | _,_=>False
noncomputable def KV {κ:Type}:List (κ×V)->List (κ×Value)->Prop:=Paired fun (p:κ×V) (q:κ×Value)=>p.1=q.1/\RelV p.2 q.2
noncomputable def kV:Au->V
 | .inl i=>.int i
 | .inr x=>.str x
inductive HO where
  | lst (xs:List V)
  | tup (xs:List V)
  | dK (kvs:List (Au×V)) | dT (kvs:List (List Au×V))
  | set (S:Int->Bool) (n:Nat)
  | ins (C dx:Addr) (fs:List (Str×V))
  | own (x:Addr)
  | xd (fs:List (Str×V))
  | met (f x:Addr)
  | rng (lo hi:Int)
  | frz (o:Obj) (u:HO)
  | tbl (ps:Array Value)
  | ext (φ:Heap->Prop)
noncomputable abbrev Hp:=Addr->Option HO
noncomputable def upd (H:Hp)(a:Addr)(o:HO):Hp:=fun b=>if b=a then some o else H b
theorem Ad {H:Hp}{a:Addr}{o:HO}:upd H a o a=some o:=by unfold upd;rw [if_pos rfl]
theorem Ai {H:Hp}{a b:Addr}{o:HO}(h:b≠a):upd H a o b=H b:=by unfold upd;rw [if_neg h]
theorem Mv {H:Hp}{a:Addr}{o u:HO}:upd (upd H a o) a u=upd H a u:=by
 funext b;unfold upd;split <;> rfl
theorem Eu {H:Hp}{a b:Addr}{o u:HO}(h:H a=some o)(h':H b=some u)(d:o≠u):a≠b:=by
 intro e;subst e;rw [h] at h';exact d (Po h')
theorem Ax {H:Hp}{a b:Addr}{o:HO}(h:H a=some o)(h':H b=none):a≠b:=by
 intro e;subst e;rw [h] at h';cases h'
section
variable (P:Program)(w:World)
noncomputable def ObjOk (H:Hp)(h:Heap)(a:Addr):HO->Prop
 | .lst xs=>xs.length<=sizeLine/\∃(its:List Value)(n:Nat),Vals xs its/\h.get? a=some { cls:=.type "list",data:=.seq its.toArray n }
 | .tup xs=>xs.length<=sizeLine/\∃ its:List Value,Vals xs its/\IsTup h a its.toArray
 | .dK kvs=>kvs.length<=sizeLine/\(a == sysModules)=false/\∃ vs,KV kvs vs/\h.DictOf (Cr P w) a vs
 | .dT kvs=>kvs.length<=sizeLine/\(a == sysModules)=false/\∃ xs:List (List Au×Addr×Value),
   Paired (fun (p:List Au×V) (q:List Au×Addr×Value)=>p.1=q.1/\H q.2.1=some (.tup (p.1.map kV))/\RelV p.2 q.2.2) kvs xs /\
   ∃ o es ep,h.get? a=some o/\o.ExactDict/\o.data=.dict es ep/\es.toList=xs.map (entryOfKey (tupleKind (Cr P w)))/\(xs.map (·.1)).Nodup
 | .set S n=>h.SetOf (intKind P w) a S n
 | .ins C dx fs=>H dx=some (.own a)/\fs.length<=1000/\dx≠a/\h.get? a=some (Wb C dx) /\
   ∃ mA,h.Ns1 dx mA/\(∀ f,RelO (fs.lookup f) (mA f))/\PySem.Within mA (fs.map (·.1))
 | .own _=>∃ o,h.get? a=some o
 | .xd fs=>∃ mA,h.Ns1 a mA/\∀ f,RelO (fs.lookup f) (mA f)
 | .rng lo hi=>∃ t u v,h.get? a=some { cls:=.type "range",data:=.fields #[.int lo t,.int hi u,.int 1 v] }
 | .frz o u=>h.get? a=some o/\ObjOk H h a u
 | .tbl ps=>h.get? a=some { cls:=.none,data:=.fields ps }
 | .met f x=>h.get? a=some (V1 (.ref f) (.ref x))
 | .ext φ=>φ h/\(∃ o,h.get? a=some o)/\∀ h1 h2:Heap,φ h1->(∀ o,h1.get? a=some o->h2.get? a=some o)->φ h2
noncomputable def HOk (H:Hp)(h:Heap):Prop:=∀ a o,H a=some o->ObjOk P w H h a o
end
section
variable {P:Program}{w:World}{H H':Hp}{h h':Heap}{a:Addr}{o:HO}
theorem ObjOk.lt (x:ObjOk P w H h a o):a < h.objs.size:=by
 cases o with
 | lst xs=>obtain ⟨_,_,_,_,e⟩:=x;exact Pi e
 | tup xs=>obtain ⟨_,_,_,p⟩:=x;exact p.lt
 | dK kvs=>obtain ⟨_,_,_,_,o,_,_,e,_⟩:=x;exact Pi e
 | dT kvs=>obtain ⟨_,_,_,_,o,_,_,e,_⟩:=x;exact Pi e
 | set S n=>obtain ⟨o,_,_,_,e,_⟩:=x;exact Pi e
 | ins C dx fs=>obtain ⟨_,_,_,e,_⟩:=x;exact Pi e
 | own y=>obtain ⟨_,e⟩:=x;exact Pi e
 | xd fs=>obtain ⟨_,⟨_,_,_,e,_⟩,_⟩:=x;exact Pi e
 | rng lo hi=>obtain ⟨_,_,_,e⟩:=x;exact Pi e
 | frz ob u=>obtain ⟨e,_⟩:=x;exact Pi e
 | tbl ps=>exact Pi (show h.get? a=some _ from x)
 | met f y=>exact Pi (show h.get? a=some _ from x)
 | ext φ=>obtain ⟨_,⟨_,e⟩,_⟩:=x;exact Pi e
theorem Paired.mapP {α β:Type}{F G:α->β->Prop}:∀{l₁:List α}{l₂:List β},Paired F l₁ l₂->(∀ a b,F a b->G a b)->Paired G l₁ l₂
 | _,_,.nil,_=>.nil
 | _,_,.cons r t,f=>.cons (f _ _ r) (Paired.mapP t f)
theorem ObjOk.stay (x:ObjOk P w H h a o)(k:∀ b u,(b=a\/H b=some (.own a))->h.get? b=some u->h'.get? b=some u)
  (ho:∀ b,H b=some (.own a)->H' b=some (.own a)) (ht:∀ b xs,H b=some (.tup xs)->H' b=some (.tup xs)):ObjOk P w H' h' a o:=by
 induction o with
 | lst xs=>obtain ⟨z,its,n,r,e⟩:=x;exact ⟨z,its,n,r,k _ _ (.inl rfl) e⟩
 | tup xs=>obtain ⟨z,its,r,ob,e,c⟩:=x;exact ⟨z,its,r,ob,k _ _ (.inl rfl) e,c⟩
 | dK kvs=>obtain ⟨z,y,vs,r,ob,es,ep,e,c⟩:=x;exact ⟨z,y,vs,r,ob,es,ep,k _ _ (.inl rfl) e,c⟩
 | dT kvs =>
  obtain ⟨z,y,xs,r,ob,es,ep,e,c⟩:=x
  exact ⟨z,y,xs,Paired.mapP r fun p q z=>⟨z.1,ht _ _ z.2.1,z.2.2⟩,ob,es,ep,k _ _ (.inl rfl) e,c⟩
 | set S n=>obtain ⟨ob,es,ep,t,e,c⟩:=x;exact ⟨ob,es,ep,t,k _ _ (.inl rfl) e,c⟩
 | ins C dx fs =>
  obtain ⟨d,z,ne,e,mA,⟨od,es,ep,e2,c⟩,r⟩:=x
  exact ⟨ho _ d,z,ne,k _ _ (.inl rfl) e,mA,⟨od,es,ep,k _ _ (.inr d) e2,c⟩,r⟩
 | own y=>obtain ⟨ob,e⟩:=x;exact ⟨ob,k _ _ (.inl rfl) e⟩
 | xd fs=>obtain ⟨mA,⟨od,es,ep,e,c⟩,r⟩:=x;exact ⟨mA,⟨od,es,ep,k _ _ (.inl rfl) e,c⟩,r⟩
 | rng lo hi=>obtain ⟨t,u,v,e⟩:=x;exact ⟨t,u,v,k _ _ (.inl rfl) e⟩
 | frz ob u ih=>obtain ⟨e,q⟩:=x;exact ⟨k _ _ (.inl rfl) e,ih q⟩
 | tbl ps =>
  have e:h.get? a=some { cls:=.none,data:=.fields ps }:=x
  show h'.get? a=some { cls:=.none,data:=.fields ps }
  exact k a _ (.inl rfl) e
 | met f y =>
  have e:h.get? a=some (V1 (.ref f) (.ref y)):=x
  show h'.get? a=some (V1 (.ref f) (.ref y))
  exact k a _ (.inl rfl) e
 | ext φ=>obtain ⟨p,⟨o,e⟩,st⟩:=x;exact ⟨st _ _ p fun o q=>k _ _ (.inl rfl) q,⟨o,k _ _ (.inl rfl) e⟩,st⟩
theorem HOk.lt (x:HOk P w H h)(e:H a=some o):a < h.objs.size:=(x a o e).lt
theorem HOk.fresh (x:HOk P w H h)(e:h.objs.size<=a):H a=none:=by
 cases q:H a with
 | none=>rfl
 | some u=>exact absurd (Pz (x.lt q) e) (Qw _)
theorem HOk.kept (x:HOk P w H h)(k:∀ b u,h.get? b=some u->h'.get? b=some u):HOk P w H h':=fun a o e =>
 (x a o e).stay (fun b u _ q=>k b u q) (fun _ q=>q) fun _ _ q=>q
theorem HOk.laid (x:HOk P w H h)(k:∀ b u,h.get? b=some u->h'.get? b=some u)(hp:h.objs.size<=a)(new:ObjOk P w (upd H a o) h' a o):HOk P w (upd H a o) h':=fun b u e=>by
 have hn:=x.fresh hp
 by_cases hb:b=a
 ·subst hb;rw [Ad] at e;cases e;exact new
 ·rw [Ai hb] at e
  exact (x b u e).stay (fun c v _ q=>k c v q) (fun c q=>by rw [Ai (Ax q hn)];exact q) fun c xs q=>by rw [Ai (Ax q hn)];exact q
end
noncomputable def Rd (H:Hp)(a:Addr)(u:HO):Prop:=H a=some u\/∃ o,H a=some (.frz o u)
theorem Rd.ok {P:Program}{w:World}{H:Hp}{h:Heap}{a:Addr}{u:HO}(r:Rd H a u)(x:HOk P w H h):ObjOk P w H h a u:=by
 rcases r with r | ⟨o,r⟩
 ·exact x a u r
 ·obtain ⟨_,q⟩:=x a _ r
  exact q
noncomputable def Mut:Option HO->Prop
 | some (.lst _)=>True
 | some (.dK _)=>True
 | some (.dT _)=>True
 | some (.set _ _)=>True
 | some (.ins _ _ _)=>True
 | some (.ext _)=>True
 | _=>False
section
variable {P:Program}{w:World}{H:Hp}{h h':Heap}{x e:Addr}{o':HO}
theorem HOk.write (ok:HOk P w H h)(mu:Mut (H x))(he:e=x\/H e=some (.own x))(k:∀ b u,b≠e->h.get? b=some u->h'.get? b=some u)(heo:∃ u,h'.get? e=some u)
  (new:ObjOk P w (upd H x o') h' x o'):HOk P w (upd H x o') h':=fun b u q=>by
 have nown:∀ c y,H c=some (.own y)->c≠x:=fun c y r z=>by subst z;rw [r] at mu;exact mu
 have ntup:∀ c xs,H c=some (.tup xs)->c≠x:=fun c xs r z=>by subst z;rw [r] at mu;exact mu
 by_cases hb:b=x
 ·subst hb;rw [Ad] at q;cases q;exact new
 ·rw [Ai hb] at q
  by_cases hbe:b=e
  ·have q':H b=some (.own x):=by
    rcases he with z | z
    ·exact absurd (hbe.trans z) hb
    ·rw [hbe];exact z
   rw [q] at q';cases q'
   obtain ⟨v,hv⟩:=heo
   exact ⟨v,by rw [hbe];exact hv⟩
  ·refine (ok b u q).stay (fun c v hc r=>k c v ?_ r) (fun c r=>by rw [Ai (nown c b r)];exact r) fun c xs r=>by rw [Ai (ntup c xs r)];exact r
   rcases hc with rfl | hc
   ·exact hbe
   ·rintro rfl
    rcases he with z | z
    ·exact nown c b hc z
    ·rw [hc] at z;cases z;exact hb rfl
end
structure Un (fs ex:List Addr)(H H':Hp)(h h':Heap):Prop where
 keep:∀ b o,h.get? b=some o->H b=none->b ∉ fs->b ∉ ex->h'.get? b=some o
 slot:∀ b o,h.get? b=some o->H b=none->b∈fs->b ∉ ex->∃ sl,h'.get? b=some { o with slots:=sl }
 free:∀ b o,h.get? b=some o->H b=none->b ∉ ex->H' b=none
 there:∀ b o,h.get? b=some o->b ∉ ex->∃ o',h'.get? b=some o'
 tups:∀ b xs,H b=some (.tup xs)->H' b=some (.tup xs)
 frzs:∀ b o u,H b=some (.frz o u)->H' b=some (.frz o u)
 tbls:∀ b ps,H b=some (.tbl ps)->∃ more,H' b=some (.tbl (ps++more))
section
variable {fs fs' ex ex':List Addr}{H H1 H2:Hp}{h h1 h2 h':Heap}{a x e:Addr}{o:HO}
theorem Un.any (u:Un fs ex H H1 h h1){b:Addr}{ob:Obj}(q:h.get? b=some ob)(n:H b=none)(hx:b ∉ ex):∃ sl,h1.get? b=some { ob with slots:=sl }:=by
 by_cases hb:b∈fs
 ·exact u.slot b ob q n hb hx
 ·exact ⟨ob.slots,u.keep b ob q n hb hx⟩
theorem Un.kept (k:∀ b u,h.get? b=some u->h'.get? b=some u):Un fs ex H H h h' :=
 ⟨fun b ob q _ _ _=>k b ob q,fun b ob q _ _ _=>⟨ob.slots,k b ob q⟩,fun _ _ _ n _=>n,fun b ob q _=>⟨ob,k b ob q⟩,fun _ _ q=>q,fun _ _ _ q=>q,fun _ ps q=>⟨#[],by rw [q];simp⟩⟩
theorem Un.refl:Un fs ex H H h h:=Un.kept fun _ _ q=>q
theorem Un.laid (k:∀ b u,h.get? b=some u->h'.get? b=some u)(hp:h.objs.size<=a)(hn:H a=none):Un fs ex H (upd H a o) h h' where
 keep:=fun b u q _ _ _=>k b u q
 slot:=fun b u q _ _ _=>⟨u.slots,k b u q⟩
 free:=fun b u q n _=>by rw [Ai (Pr (Pz (Pi q) hp))];exact n
 there:=fun b u q _=>⟨u,k b u q⟩
 tups:=fun b xs q=>by rw [Ai (Ax q hn)];exact q
 frzs:=fun b u xs q=>by rw [Ai (Ax q hn)];exact q
 tbls:=fun b ps q=>⟨#[],by rw [Ai (Ax q hn),q];simp⟩
theorem Un.write (mu:Mut (H x))(he:e=x\/H e=some (.own x))(k:∀ b u,b≠e->h.get? b=some u->h'.get? b=some u)(heo:∃ u,h'.get? e=some u):Un fs ex H (upd H x o) h h':=by
 have hx:∀ b,H b=none->b≠x:=fun b n z=>by subst z;rw [n] at mu;exact mu
 have hb:∀ b,H b=none->b≠e:=fun b n z=>by
  subst z
  rcases he with r | r
  ·exact hx b n r
  ·rw [n] at r;cases r
 have hm:∀ b u,H b=some u->¬ Mut (some u)->b≠x:=fun b u q nm z=>by subst z;rw [q] at mu;exact nm mu
 refine ⟨fun b u q n _ _=>k b u (hb b n) q,fun b u q n _ _=>⟨u.slots,k b u (hb b n) q⟩,fun b u q n _=>by rw [Ai (hx b n)];exact n,fun b u q _=>?_,
  fun b xs q=>by rw [Ai (hm b _ q fun z=>z)];exact q,fun b u xs q=>by rw [Ai (hm b _ q fun z=>z)];exact q,fun b ps q=>⟨#[],by rw [Ai (hm b _ q fun z=>z),q];simp⟩⟩
 by_cases hbe:b=e
 ·subst hbe;exact heo
 ·exact ⟨u,k b u hbe q⟩
end
noncomputable def trk (h:Heap)(H:Hp):List Addr:=(Py h.objs.size).filter fun a=>(H a).isSome
noncomputable def Fb (h:Heap)(H:Hp):Heap:=PySem.W.hideAll h (trk h H)
theorem Zoe (h:Heap)(H:Hp):(Fb h H).objs.size=h.objs.size:=PySem.W.hideAll_size _ _
theorem Zjh {h:Heap}{H:Hp}{b:Addr}{o:Obj}(e:h.get? b=some o)(n:H b=none):(Fb h H).get? b=some o :=
 PySem.W.hideAll_get _ e fun hm=>by
  have q:(H b).isSome=true:=(Ri.mp hm).2
  rw [n] at q;simp at q
theorem Zoh {h:Heap}{H:Hp}{b:Addr}{o:Obj}(e:(Fb h H).get? b=some o):h.get? b=some o/\H b=none:=by
 have e':h.get? b=some o:=PySem.W.of_hideAll (trk h H) e
 refine ⟨e',?_⟩
 cases q:H b with
 | none=>rfl
 | some x =>
  have hm:b∈trk h H:=Ri.mpr ⟨List.mem_range.mpr (Pi e'),by simp [q]⟩
  have z:(Fb h H).get? b=none:=PySem.W.hideAll_none (trk h H) hm
  rw [z] at e;cases e
structure Mod (K:O9)(mg:Str->Option Value)(base:Heap):Prop where
 kin:K.In base
 glob:base.Ns mainGlobals mg
 blt:∃ mb,base.Ns builtinsNs mb/\∀ x:Str,x ≠ "__name__" -> mb x=bootBuiltins x
 nolimit:base.NoLimit
structure Cx where
 prog:Program
 w:World
 K:O9
 mg:Str->Option Value
 base:Heap
 A:Around
 N:List Str
 s₀:Shared
 H₀:Hp
 env:Env
 outer:List Env
 stack:List Env
 ex:List Addr
 fn:Str->Bool
 calm:Bool
 pn:List (Addr×Obj)
 xe:Value->Shared->Prop
noncomputable def C5 (l:List Env):List Addr:=l.filterMap (·.frame)
noncomputable abbrev Cx.fs (X:Cx):List Addr:=C5 X.outer
noncomputable def Vis (sc:Scope)(x:Str):Prop:=sc.names.lookup x=some .local\/sc.names.lookup x=some .cell\/sc.names.lookup x=some .free
noncomputable def Eo (sc:Scope)(x:Str):Prop:=sc.names.lookup x=some .local\/sc.names.lookup x=some .cell
noncomputable def Look (env:Env)(h:Heap)(m:Str->Option Value)(x:Str)(u:Value):Prop :=
 (env.kindOf x=some .local/\m x=some u)\/((env.kindOf x=some .cell\/env.kindOf x=some .free)/\∃ c,env.cells.lookup x=some c/\h.IsCell c (some u))
structure Cx.Ok (X:Cx):Prop where
 mod:Mod X.K X.mg X.base
 kind:X.env.scope.kind=.function
 glob:X.env.globals=mainGlobals
 blt:X.env.builtins=builtinsNs
 above:X.s₀.heap.objs.size<=X.env.locals
 inj:∀ x y c,X.env.cells.lookup x=some c->X.env.cells.lookup y=some c->x=y
 has:∀ x,(X.env.kindOf x=some .cell\/X.env.kindOf x=some .free)->∃ c,X.env.cells.lookup x=some c
 cab:∀ x c,X.fn x=true->X.env.cells.lookup x=some c->X.s₀.heap.objs.size<=c
 hd:X.calm=true->X.A.handled=none
 frames:X.A.frames=some X.stack
 stk:X.stack=X.outer\/(X.stack=X.env::X.outer/\X.env.frame=some X.env.locals)
 exf:∀ b∈X.ex,b≠X.env.locals/\∀ x c,X.env.cells.lookup x=some c->c≠b
 bs:∀ b o,X.base.get? b=some o->X.s₀.heap.get? b=some o/\X.H₀ b=none
 bsz:X.base.objs.size<=X.s₀.heap.objs.size
 noex:∀ b o,X.base.get? b=some o->b ∉ X.ex
 exfs:∀ b∈X.ex,b ∉ X.fs
 funs:X.s₀.heap.FunFrames X.base X.outer
 frf:∀ b∈X.fs,X.H₀ b=none
structure Inv (X:Cx)(pins:List (Addr×Obj))(σ:List (Option V))(H:Hp)(s:Shared):Prop where
 ok:X.Ok
 os:s.os=X.s₀.os
 bare:AllBare s.gens
 base:Un X.fs X.ex X.H₀ H X.s₀.heap s.heap
 loc:∃ m,s.heap.Ns X.env.locals m/\∀(i:Nat)(x:Str)(v:V),X.N[i]?=some x->σ[i]?=some (some v)->Vis X.env.scope x->∃ u,RelV v u/\Look X.env s.heap m x u
 cell:∀ x c,X.env.cells.lookup x=some c->∃ v,s.heap.IsCell c v
 free:H X.env.locals=none
 freeC:∀ x c,X.env.cells.lookup x=some c->H c=none
 pin:∀ p∈X.pn++pins,s.heap.get? p.1=some p.2/\H p.1=none/\p.1≠X.env.locals/\p.1 ∉ X.fs/\∀ v,p.2.data≠.cell v
 hok:HOk X.prog X.w H s.heap
 len:σ.length=X.N.length
section
variable {X:Cx}{pins:List (Addr×Obj)}{σ:List (Option V)}{H H':Hp}{s:Shared}{h':Heap}
theorem Cx.Ok.nofr (ok:X.Ok){b:Addr}{o:Obj}(e:X.base.get? b=some o):b ∉ X.fs:=fun hb=>by
 have:=(ok.funs.mem hb).1
 rw [e] at this;cases this
theorem Inv.bs (I:Inv X pins σ H s):∀ b o,X.base.get? b=some o->s.heap.get? b=some o/\H b=none:=fun b o e =>
 ⟨I.base.keep b o (I.ok.bs b o e).1 (I.ok.bs b o e).2 (I.ok.nofr e) (I.ok.noex b o e),I.base.free b o (I.ok.bs b o e).1 (I.ok.bs b o e).2 (I.ok.noex b o e)⟩
theorem Inv.bk (I:Inv X pins σ H s):∀ b o,X.base.get? b=some o->s.heap.get? b=some o:=fun b o e=>(I.bs b o e).1
theorem Inv.mod (I:Inv X pins σ H s):Mod X.K X.mg X.base:=I.ok.mod
theorem Inv.kIn (I:Inv X pins σ H s):X.K.In s.heap:=I.ok.mod.kin.keeps I.bk
theorem Inv.lt (I:Inv X pins σ H s):X.env.locals < s.heap.objs.size:=let ⟨_,hn,_⟩:=I.loc;hn.lt
theorem Inv.sz (I:Inv X pins σ H s):X.s₀.heap.objs.size<=s.heap.objs.size:=P5 I.ok.above (U8 I.lt)
theorem Inv.nofs (I:Inv X pins σ H s){a:Addr}(h:s.heap.objs.size<=a):a ∉ X.fs:=fun hb=>by
 obtain ⟨_,o,ho,_⟩:=I.ok.funs.mem hb
 exact absurd (Pz (Pi ho) (P5 I.sz h)) (Qw _)
theorem Inv.cne (I:Inv X pins σ H s):∀ x c,X.env.cells.lookup x=some c->c≠X.env.locals:=fun x c e z=>by
 obtain ⟨v,o,ho,hd⟩:=I.cell x c e
 obtain ⟨m,⟨o',es,ep,ho',hd',_⟩,_⟩:=I.loc
 rw [z,ho'] at ho;cases ho;rw [hd'] at hd;cases hd
theorem Inv.funs (I:Inv X pins σ H s):s.heap.FunFrames X.base X.outer:=by
 have all:∀(l:List Env),(∀ b∈C5 l,b∈X.fs)->X.s₀.heap.FunFrames X.base l->s.heap.FunFrames X.base l:=by
  intro l
  induction l with
  | nil=>intro _ _;trivial
  | cons env r ih =>
   intro hs hl
   obtain ⟨hk,⟨L,o,hf,hn,ho,hd⟩,hr⟩:=hl
   have hL:L∈X.fs:=hs L (by unfold C5;rw [Vs,hf];exact Sj)
   obtain ⟨sl,e⟩:=I.base.slot L o ho (I.ok.frf L hL) hL fun z=>I.ok.exfs L z hL
   exact ⟨hk,⟨L,_,hf,hn,e,hd⟩,ih (fun b hb=>hs b (by unfold C5;rw [Vs,hf];exact Qy _ hb)) hr⟩
 exact all X.outer (fun _ hb=>hb) I.ok.funs
theorem Inv.stack (I:Inv X pins σ H s):s.heap.FunFrames X.base X.stack:=by
 rcases I.ok.stk with e | ⟨e,hf⟩
 ·rw [e];exact I.funs
 ·rw [e]
  obtain ⟨m,hn,_⟩:=I.loc
  refine .cons (by rw [I.ok.kind];decide) hf hn ?_ I.funs
  exact Heap.get?_none_of_le (P5 I.ok.bsz I.ok.above)
theorem Inv.stkSub (I:Inv X pins σ H s):∀ b∈C5 X.stack,b∈X.env.locals::X.fs:=fun b hb=>by
 rcases I.ok.stk with e | ⟨e,hf⟩
 ·rw [e] at hb;exact Qy _ hb
 ·rw [e] at hb
  unfold C5 at hb
  rw [Vs,hf] at hb
  exact hb
theorem Inv.stkFree (I:Inv X pins σ H s):∀ b∈C5 X.stack,H b=none:=fun b hb=>by
 rcases Ph.mp (I.stkSub b hb) with e | hb
 ·rw [e];exact I.free
 ·obtain ⟨_,o,ho,_⟩:=I.ok.funs.mem hb
  exact I.base.free b o ho (I.ok.frf b hb) fun z=>I.ok.exfs b z hb
theorem Inv.step {g':Array GenState}{t':Nat}{d':Drawn}{ch:List Addr}(I:Inv X pins σ H s)
  (hch:∀ b∈ch,(b∈X.ex\/X.s₀.heap.objs.size<=b)/\b≠X.env.locals/\(∀ x c,X.env.cells.lookup x=some c->c≠b)/\∀ p∈X.pn++pins,p.1≠b)
  (keep:∀ b o,b≠X.env.locals->b ∉ X.fs->b ∉ ch->s.heap.get? b=some o->H b=none->h'.get? b=some o)
  (slot:∀ b o,b≠X.env.locals->b∈X.fs->b ∉ ch->s.heap.get? b=some o->H b=none->∃ sl,h'.get? b=some { o with slots:=sl }) (free:∀ b o,b ∉ ch->s.heap.get? b=some o->H b=none->H' b=none)
  (there:∀ b o,b ∉ ch->s.heap.get? b=some o->∃ o',h'.get? b=some o')
  (tups:∀ b xs,H b=some (.tup xs)->H' b=some (.tup xs)) (frzs:∀ b o u,H b=some (.frz o u)->H' b=some (.frz o u)) (tbls:∀ b ps,H b=some (.tbl ps)->∃ more,H' b=some (.tbl (ps++more)))
  (ns:∀ m,s.heap.Ns X.env.locals m->h'.Ns X.env.locals m) (hok:HOk X.prog X.w H' h') (hg:AllBare g') :
  Inv X pins σ H' { s with heap:=h',gens:=g',drawn:=d',toks:=t' }:=by
 have neL:∀ b o,X.s₀.heap.get? b=some o->b≠X.env.locals:=fun b o e=>Pr (Pz (Pi e) I.ok.above)
 have neC:∀ b o,X.s₀.heap.get? b=some o->b ∉ X.ex->b ∉ ch:=fun b o e hx hb=>by
  rcases (hch b hb).1 with z | z
  ·exact hx z
  ·exact absurd (Pz (Pi e) z) (Qw _)
 have cellK:∀ x c,X.env.cells.lookup x=some c->∀ v,s.heap.IsCell c v->h'.IsCell c v:=fun x c e v ⟨o,ho,hd⟩=>by
  have nch:c ∉ ch:=fun z=>(hch c z).2.2.1 x c e rfl
  by_cases hc:c∈X.fs
  ·obtain ⟨sl,q⟩:=slot c o (I.cne x c e) hc nch ho (I.freeC x c e)
   exact ⟨_,q,hd⟩
  ·exact ⟨o,keep c o (I.cne x c e) hc nch ho (I.freeC x c e),hd⟩
 refine ⟨I.ok,I.os,hg,⟨fun b o e n hb hx=>?_,fun b o e n hb hx=>?_,fun b o e n hx=>?_,fun b o e hx=>?_,fun b xs e=>tups b xs (I.base.tups b xs e),fun b o xs e=>frzs b o xs (I.base.frzs b o xs e),fun b ps e=>?_⟩,?_,fun x c e=>?_,?_,fun x c e=>?_,fun p hp=>?_,hok,I.len⟩
 ·exact keep b o (neL b o e) hb (neC b o e hx) (I.base.keep b o e n hb hx) (I.base.free b o e n hx)
 ·obtain ⟨sl,e1⟩:=I.base.slot b o e n hb hx
  obtain ⟨sl',e2⟩:=slot b _ (neL b o e) hb (neC b o e hx) e1 (I.base.free b o e n hx)
  exact ⟨sl',e2⟩
 ·obtain ⟨o',e1⟩:=I.base.there b o e hx
  exact free b o' (neC b o e hx) e1 (I.base.free b o e n hx)
 ·obtain ⟨o',e1⟩:=I.base.there b o e hx
  exact there b o' (neC b o e hx) e1
 ·obtain ⟨m1,e1⟩:=I.base.tbls b ps e
  obtain ⟨m2,e2⟩:=tbls b _ e1
  exact ⟨m1++m2,by rw [e2,Array.append_assoc]⟩
 ·obtain ⟨m,hn,hl⟩:=I.loc
  refine ⟨m,ns m hn,fun i x v e1 e2 e3=>?_⟩
  obtain ⟨u,r,l⟩:=hl i x v e1 e2 e3
  refine ⟨u,r,?_⟩
  rcases l with l | ⟨k,c,e,z⟩
  ·exact .inl l
  ·exact .inr ⟨k,c,e,cellK x c e _ z⟩
 ·obtain ⟨v,z⟩:=I.cell x c e
  exact ⟨v,cellK x c e v z⟩
 ·obtain ⟨m,⟨o,_,_,ho,_⟩,_⟩:=I.loc
  exact free _ o (fun z=>(hch _ z).2.1 rfl) ho I.free
 ·obtain ⟨v,o,ho,hd⟩:=I.cell x c e
  exact free c o (fun z=>(hch c z).2.2.1 x c e rfl) ho (I.freeC x c e)
 ·obtain ⟨e,n,ne,nf,d⟩:=I.pin p hp
  have nch:p.1 ∉ ch:=fun z=>(hch p.1 z).2.2.2 p hp rfl
  exact ⟨keep p.1 p.2 ne nf nch e n,free p.1 p.2 nch e n,ne,nf,d⟩
theorem Inv.un {t':Nat}(I:Inv X pins σ H s)(u:Un X.fs [] H H' s.heap h')(hok:HOk X.prog X.w H' h'):Inv X pins σ H' { s with heap:=h',toks:=t' }:=by
 obtain ⟨m,⟨o,es,ep,ho,r⟩,_⟩:=id I.loc
 obtain ⟨sl,hL⟩:=u.any ho I.free (by simp)
 exact I.step (g':=s.gens) (d':=s.drawn) (ch:=[]) (fun _ z=>nomatch z) (fun b o _ hb _ e n=>u.keep b o e n hb (by simp)) (fun b o _ hb _ e n=>u.slot b o e n hb (by simp)) (fun b o _ e n=>u.free b o e n (by simp)) (fun b o _ e=>u.there b o e (by simp)) u.tups u.frzs u.tbls (fun m' hm=>by
  obtain ⟨o',es',ep',ho',r'⟩:=hm
  rw [ho] at ho';cases ho'
  exact ⟨_,es',ep',hL,r'⟩) hok I.bare
theorem Inv.call {g':Array GenState}{t':Nat}{d':Drawn}{ch:List Addr}(I:Inv X pins σ H s)(u:Un (C5 X.stack) ch H H' s.heap h')(hok:HOk X.prog X.w H' h')(hg:AllBare g')
  (hch:∀ b∈ch,(b∈X.ex\/X.s₀.heap.objs.size<=b)/\b≠X.env.locals/\(∀ x c,X.env.cells.lookup x=some c->c≠b)/\∀ p∈X.pn++pins,p.1≠b) :
  Inv X pins σ H' { s with heap:=h',gens:=g',drawn:=d',toks:=t' }:=by
 obtain ⟨m,⟨o,es,ep,ho,r⟩,_⟩:=id I.loc
 obtain ⟨sl,hL⟩:=u.any ho I.free fun z=>(hch _ z).2.1 rfl
 exact I.step (ch:=ch) hch (fun b o hL hb hc e n=>u.keep b o e n (fun z=>(Ph.mp (I.stkSub b z)).elim hL hb) hc) (fun b o _ _ hc e n=>u.any e n hc) (fun b o hc e n=>u.free b o e n hc) (fun b o hc e=>u.there b o e hc) u.tups u.frzs u.tbls (fun m' hm=>by
  obtain ⟨o',es',ep',ho',r'⟩:=hm
  rw [ho] at ho';cases ho'
  exact ⟨_,es',ep',hL,r'⟩) hok hg
theorem Inv.turned {t':Nat}{it:Addr}(I:Inv X pins σ H s)(k:∀ b o,b≠it->s.heap.get? b=some o->h'.get? b=some o)(hn:H it=none)(hL:it≠X.env.locals)
  (h1:it∈X.ex\/X.s₀.heap.objs.size<=it) (h2:∀ x c,X.env.cells.lookup x=some c->c≠it) (h3:∀ p∈X.pn++pins,p.1≠it):Inv X pins σ H { s with heap:=h',toks:=t' }:=by
 have nit:∀ b u,H b=some u->b≠it:=fun b u e z=>by rw [z,hn] at e;cases e
 refine I.step (g':=s.gens) (d':=s.drawn) (ch:=[it]) (fun b hb=>?_) (fun b o _ _ hc e _=>k b o (fun z=>hc (by simp [z])) e) (fun b o _ _ hc e _=>⟨o.slots,k b o (fun z=>hc (by simp [z])) e⟩) (fun _ _ _ _ n=>n)
  (fun b o hc e=>⟨o,k b o (fun z=>hc (by simp [z])) e⟩) (fun _ _ e=>e) (fun _ _ _ e=>e) (fun b ps e=>⟨#[],by rw [e];simp⟩) (fun m hm=>?_) (fun b u e=>?_) I.bare
 ·have e:b=it:=by simpa using hb
  subst e
  exact ⟨h1,hL,h2,h3⟩
 ·obtain ⟨o,es,ep,ho,r⟩:=hm
  exact ⟨o,es,ep,k _ o (P9 hL) ho,r⟩
 ·refine (I.hok b u e).stay (fun c v hc q=>k c v ?_ q) (fun _ q=>q) fun _ _ q=>q
  rcases hc with z | z
  ·rw [z];exact nit b u e
  ·exact nit c _ z
theorem Inv.tok (I:Inv X pins σ H s)(t:Nat):Inv X pins σ H { s with toks:=t }:=I.un (h':=s.heap) (t':=t) Un.refl I.hok
theorem Inv.kept {t':Nat}(I:Inv X pins σ H s)(k:∀ b u,s.heap.get? b=some u->h'.get? b=some u):Inv X pins σ H { s with heap:=h',toks:=t' }:=I.un (Un.kept k) (I.hok.kept k)
theorem Inv.laid {a:Addr}{o:HO}{t':Nat}(I:Inv X pins σ H s)(k:∀ b u,s.heap.get? b=some u->h'.get? b=some u)(hp:s.heap.objs.size<=a)(new:ObjOk X.prog X.w (upd H a o) h' a o) :
  Inv X pins σ (upd H a o) { s with heap:=h',toks:=t' }:=I.un (Un.laid k hp (I.hok.fresh hp)) (I.hok.laid k hp new)
theorem Inv.write {x e:Addr}{o:HO}{t':Nat}(I:Inv X pins σ H s)(mu:Mut (H x))(he:e=x\/H e=some (.own x))(k:∀ b u,b≠e->s.heap.get? b=some u->h'.get? b=some u)(heo:∃ u,h'.get? e=some u)
  (new:ObjOk X.prog X.w (upd H x o) h' x o):Inv X pins σ (upd H x o) { s with heap:=h',toks:=t' }:=I.un (Un.write mu he k heo) (I.hok.write mu he k heo new)
theorem Inv.pins_of {pins':List (Addr×Obj)}(I:Inv X pins σ H s)(h:∀ p∈pins',s.heap.get? p.1=some p.2/\H p.1=none/\p.1≠X.env.locals/\p.1 ∉ X.fs/\∀ v,p.2.data≠.cell v):Inv X pins' σ H s :=
 ⟨I.ok,I.os,I.bare,I.base,I.loc,I.cell,I.free,I.freeC,fun p hp=>(Pw.mp hp).elim (fun z=>I.pin p (Rg _ z)) (h p),I.hok,I.len⟩
theorem Zba {N:List Str}(hN:N.Nodup){i j:Nat}{x:Str}(a:N[i]?=some x)(b:N[j]?=some x):i=j:=by
 obtain ⟨h1,e1⟩:=Pg.mp a
 obtain ⟨h2,e2⟩:=Pg.mp b
 exact (List.getElem_inj hN).mp (e1.trans e2.symm)
theorem Zd7 {M:Model}{A:Around}{E:Value->Shared->Prop}{i:Nat}{x:Str}{v:V}{u:Value}{Q:Unit->Shared->Prop}(I:Inv X pins σ H s)(hN:X.N.Nodup)(hi:X.N[i]?=some x)(hx:Eo X.env.scope x)(r:RelV v u)
  (h:∀ s',Inv X pins (σ.set i (some v)) H s'->(∃ a,Pu a s.heap s'.heap/\(a=X.env.locals\/X.env.cells.lookup x=some a))->Q () s') (hf:X.fn x=true\/X.env.scope.names.lookup x=some .local:=by first | exact .inl rfl | exact .inr rfl | assumption):wpAny M A (storeName X.env x u) Q E s:=by
 obtain ⟨m,hn,hl⟩:=id I.loc
 have hcls:(X.env.scope.kind == .class || (X.env.scope.kind == .module && X.env.locals != X.env.globals))=false:=by rw [I.ok.kind];rfl
 have hiσ:i < σ.length:=by rw [I.len];exact (Pg.mp hi).1
 have cne:=I.cne
 have tracked:∀{a:Addr}{h':Heap},(∃ o,s.heap.get? a=some o/\H a=none)->Pu a s.heap h'->HOk X.prog X.w H h':=fun {a h'} ha hs b ob e=>by
  obtain ⟨_,_,hfree⟩:=ha
  refine (I.hok b ob e).stay (fun c w' hc q=>(hs.2 c ?_).trans q) (fun _ q=>q) fun _ _ q=>q
  rintro rfl
  rcases hc with rfl | hc
  ·rw [hfree] at e;cases e
  ·rw [hfree] at hc;cases hc
 rcases hx with hk | hk
 ·refine wpAny_storeName_local hk hn (fun h' hn' hs=>?_) hcls
  obtain ⟨oL,_,_,hoL,_⟩:=id hn
  refine h _ ⟨I.ok,I.os,I.bare,⟨fun b o e n hb hx=>?_,fun b o e n hb hx=>?_,I.base.free,fun b o e hx=>?_,I.base.tups,I.base.frzs,I.base.tbls⟩,⟨_,hn',fun j y v' e1 e2 e3=>?_⟩,fun y c e=>?_,I.free,I.freeC,fun p hp=>?_,tracked ⟨oL,hoL,I.free⟩ hs,by simpa using I.len⟩ ⟨_,hs,.inl rfl⟩
  ·exact (hs.2 b (Pr (Pz (Pi e) I.ok.above))).trans (I.base.keep b o e n hb hx)
  ·obtain ⟨sl,e1⟩:=I.base.slot b o e n hb hx
   exact ⟨sl,(hs.2 b (Pr (Pz (Pi e) I.ok.above))).trans e1⟩
  ·obtain ⟨o',e1⟩:=I.base.there b o e hx
   exact ⟨o',(hs.2 b (Pr (Pz (Pi e) I.ok.above))).trans e1⟩
  ·by_cases hj:j=i
   ·subst hj
    rw [hi] at e1;cases e1
    rw [Rf hiσ] at e2
    cases e2
    exact ⟨u,r,.inl ⟨hk,by simp⟩⟩
   ·rw [Si (P9 hj)] at e2
    obtain ⟨u',r',q⟩:=hl j y v' e1 e2 e3
    refine ⟨u',r',?_⟩
    rcases q with ⟨k,e⟩ | ⟨k,c,e,z⟩
    ·refine .inl ⟨k,?_⟩
     have:y≠x:=fun e=>hj (Zba hN e1 (e ▸ hi))
     simp [this,e]
    ·exact .inr ⟨k,c,e,z.sameBut hs (cne y c e)⟩
  ·obtain ⟨w',z⟩:=I.cell y c e
   exact ⟨w',z.sameBut hs (cne y c e)⟩
  ·obtain ⟨e,n,ne,nf,d⟩:=I.pin p hp
   exact ⟨(hs.2 p.1 ne).trans e,n,ne,nf,d⟩
 ·have hfn:X.fn x=true:=by
   rcases hf with z | z
   ·exact z
   ·rw [z] at hk;cases hk
  obtain ⟨c,hc⟩:=I.ok.has x (.inl hk)
  obtain ⟨w',z⟩:=I.cell x c hc
  refine wpAny_storeName_cell I.ok.kind hk hc z (fun h' hc' hs=>?_)
  obtain ⟨oc,hoc,hocd⟩:=id z
  refine h { s with heap:=h' } ⟨I.ok,I.os,I.bare,⟨fun b o e n hb hx=>?_,fun b o e n hb hx=>?_,I.base.free,fun b o e hx=>?_,I.base.tups,I.base.frzs,I.base.tbls⟩,⟨m,hn.sameBut hs (P9 (cne x c hc)),fun j y v' e1 e2 e3=>?_⟩,fun y c' e=>?_,I.free,I.freeC,fun p hp=>?_,tracked ⟨oc,hoc,I.freeC x c hc⟩ hs,by simpa using I.len⟩ ⟨c,hs,.inr hc⟩
  ·exact (hs.2 b (Pr (Pz (Pi e) (I.ok.cab x c hfn hc)))).trans (I.base.keep b o e n hb hx)
  ·obtain ⟨sl,e1⟩:=I.base.slot b o e n hb hx
   exact ⟨sl,(hs.2 b (Pr (Pz (Pi e) (I.ok.cab x c hfn hc)))).trans e1⟩
  ·obtain ⟨o',e1⟩:=I.base.there b o e hx
   exact ⟨o',(hs.2 b (Pr (Pz (Pi e) (I.ok.cab x c hfn hc)))).trans e1⟩
  ·by_cases hj:j=i
   ·subst hj
    rw [hi] at e1;cases e1
    rw [Rf hiσ] at e2
    cases e2
    exact ⟨u,r,.inr ⟨.inl hk,c,hc,hc'⟩⟩
   ·rw [Si (P9 hj)] at e2
    obtain ⟨u',r',q⟩:=hl j y v' e1 e2 e3
    refine ⟨u',r',?_⟩
    rcases q with q | ⟨k,c',e,z'⟩
    ·exact .inl q
    ·refine .inr ⟨k,c',e,z'.sameBut hs ?_⟩
     rintro rfl
     exact hj (Zba hN e1 (I.ok.inj _ _ _ e hc ▸ hi))
  ·by_cases hcc:c'=c
   ·subst hcc;exact ⟨_,hc'⟩
   ·obtain ⟨w2,z2⟩:=I.cell y c' e
    exact ⟨w2,z2.sameBut hs hcc⟩
  ·obtain ⟨e,n,ne,nf,d⟩:=I.pin p hp
   refine ⟨(hs.2 p.1 ?_).trans e,n,ne,nf,d⟩
   intro q
   rw [q,hoc] at e
   have q':oc=p.2:=Po e
   exact d w' (by rw [<- q'];exact hocd)
theorem Hx {M:Model}{A:Around}{E:Value->Shared->Prop}{i:Nat}{x:Str}{v:V}{u:Value}{Q:Unit->Shared->Prop}(I:Inv X pins σ H s)(hN:X.N.Nodup)(hi:X.N[i]?=some x)(hx:Eo X.env.scope x)(r:RelV v u)
  (h:∀ s',Inv X pins (σ.set i (some v)) H s'->Q () s') (hf:X.fn x=true\/X.env.scope.names.lookup x=some .local:=by first | exact .inl rfl | exact .inr rfl | assumption):wpAny M A (storeName X.env x u) Q E s :=
 Zd7 I hN hi hx r (fun s' I' _=>h s' I') hf
theorem Inv.call' {s':Shared}{ch:List Addr}(I:Inv X pins σ H s)(ho:s'.os=s.os)(u:Un (C5 X.stack) ch H H' s.heap s'.heap)(hok:HOk X.prog X.w H' s'.heap)(hg:AllBare s'.gens)
  (hch:∀ b∈ch,(b∈X.ex\/X.s₀.heap.objs.size<=b)/\b≠X.env.locals/\(∀ x c,X.env.cells.lookup x=some c->c≠b)/\∀ p∈X.pn++pins,p.1≠b):Inv X pins σ H' s':=by
 obtain ⟨h',g',d',t',o'⟩:=s'
 have e:o'=s.os:=ho
 subst e
 exact I.call (g':=g') (t':=t') (d':=d') u hok hg hch
end
noncomputable abbrev XK:=Value->Option Addr->Hp->Prop
noncomputable abbrev St:=List (Option V)
noncomputable abbrev VK:=V->Hp->Prop
noncomputable abbrev TE:=St->Hp->VK->Prop
noncomputable abbrev TT:=St->Hp->(Bool->Hp->Prop)->Prop
noncomputable abbrev TA:=St->Hp->(List V->Hp->Prop)->Prop
structure C0 where
 nx:St->Hp->Prop
 rt:VK
 bk:St->Hp->Prop:=fun _ _=>False
 ct:St->Hp->Prop:=fun _ _=>False
noncomputable abbrev TS:=C0->St->Hp->Prop
noncomputable def EP (X:Cx)(pins:List (Addr×Obj))(σ:St)(Q:VK)(u:Value)(s':Shared):Prop:=∃ v H',Inv X pins σ H' s'/\RelV v u/\Q v H'
noncomputable def TP (X:Cx)(pins:List (Addr×Obj))(σ:St)(Q:Bool->Hp->Prop)(b:Bool)(s':Shared):Prop:=∃ H',Inv X pins σ H' s'/\Q b H'
noncomputable def AP (X:Cx)(pins:List (Addr×Obj))(σ:St)(Q:List V->Hp->Prop)(us:List Value)(s':Shared):Prop:=∃ vs H',Inv X pins σ H' s'/\Vals vs us/\Q vs H'
noncomputable def SP (X:Cx)(pins:List (Addr×Obj))(D:C0)(f:Flow)(s':Shared):Prop :=
 match f with
 | .next=>∃ σ' H',Inv X pins σ' H' s'/\D.nx σ' H'
 | .brk=>∃ σ' H',Inv X pins σ' H' s'/\D.bk σ' H'
 | .cont=>∃ σ' H',Inv X pins σ' H' s'/\D.ct σ' H'
 | .ret u=>∃ v σ' H',Inv X pins σ' H' s'/\RelV v u/\D.rt v H'
noncomputable def PE (X:Cx)(e:Expr)(t:TE):Prop :=
 ∀(pins:List (Addr×Obj))(s:Shared)(σ:St)(H:Hp)(Q:VK),Inv X pins σ H s->t σ H Q->wpAny (model X.prog X.w) X.A (eval e X.env) (EP X pins σ Q) X.xe s
noncomputable def PT (X:Cx)(e:Expr)(t:TT):Prop :=
 ∀(pins:List (Addr×Obj))(s:Shared)(σ:St)(H:Hp)(Q:Bool->Hp->Prop),Inv X pins σ H s->t σ H Q->wpAny (model X.prog X.w) X.A (isTrue e X.env (eval e X.env)) (TP X pins σ Q) X.xe s
noncomputable def PW (X:Cx)(e:Expr)(t:TT):Prop :=
 ∀(whole:Sem Value)(pins:List (Addr×Obj))(s:Shared)(σ:St)(H:Hp)(Q:Bool->Hp->Prop),Inv X pins σ H s->t σ H Q->wpAny (model X.prog X.w) X.A (isTrue e X.env whole) (TP X pins σ Q) X.xe s
theorem PW.pt {X:Cx}{e:Expr}{t:TT}(h:PW X e t):PT X e t:=h _
noncomputable def PA (X:Cx)(es:List Expr)(t:TA):Prop :=
 ∀(pos:Pos)(pins:List (Addr×Obj))(s:Shared)(σ:St)(H:Hp)(Q:List V->Hp->Prop),Inv X pins σ H s->t σ H Q->wpAny (model X.prog X.w) X.A (spliced (backTo pos (starEach es X.env))) (AP X pins σ Q) X.xe s
noncomputable def PS (X:Cx)(st:Stmt)(t:TS):Prop :=
 ∀(pins:List (Addr×Obj))(s:Shared)(σ:St)(H:Hp)(D:C0),Inv X pins σ H s->t D σ H->wpAny (model X.prog X.w) X.A (exec st X.env) (SP X pins D) X.xe s
noncomputable def PSs (X:Cx)(st:List Stmt)(t:TS):Prop :=
 ∀(pins:List (Addr×Obj))(s:Shared)(σ:St)(H:Hp)(D:C0),Inv X pins σ H s->t D σ H->wpAny (model X.prog X.w) X.A (execs st X.env) (SP X pins D) X.xe s
theorem Ak {α:Type}{t:Sem α}{Q Q':α->Shared->Prop}{M:Model}{A:Around}{E:Value->Shared->Prop}{s:Shared}(h:wpAny M A t Q E s)(hQ:∀ a s,Q a s->Q' a s):wpAny M A t Q' E s:=Sy h hQ fun _ _ x=>x
section
variable {X:Cx}
noncomputable def Mh (i:Nat):TE:=fun σ H Q=>∃ v,σ[i]?=some (some v)/\Q v H
noncomputable def tC (v:V):TE:=fun _ H Q=>Q v H
theorem Zmc {i:Nat}{x:Str}{pos:Pos}(hN:X.N[i]?=some x)(hv:Vis X.env.scope x)(hd:(x == ("__debug__" : Str))=false:=by decide)(hcd:(x == ("__classdict__" : Str))=false:=by decide):PE X (.Name x pos) (Mh i):=by
 intro pins s σ H Q I h
 obtain ⟨v,e,h⟩:=h
 obtain ⟨m,hn,hl⟩:=I.loc
 obtain ⟨u,r,l⟩:=hl i x v hN e hv
 have fin:EP X pins σ Q u s:=⟨v,H,I,r,h⟩
 rcases l with ⟨hk,hm⟩ | ⟨hk,c,hc,hcell⟩
 ·exact wpAny_Name (wpAny_loadName_local I.ok.kind hk hn hm fin) hd
 ·rcases hk with hk | hk
  ·exact wpAny_Name (wpAny_loadName_cell I.ok.kind hk hc hcell fin) hd
  ·exact wpAny_Name (wpAny_loadName_free I.ok.kind hk hc hcell fin hcd) hd
theorem Zdk {i j pos}:PE X (.Constant (.int i) j pos) (tC (.int i)):=fun _ _ _ H _ I h=>wpAny_Constant_int ⟨.int i,H,I.tok _,⟨_,rfl⟩,h⟩
theorem Za3 {b j pos}:PE X (.Constant (.bool b) j pos) (tC (.bl b)):=fun _ _ _ H _ I h=>Constant_bool ⟨.bl b,H,I,rfl,h⟩
theorem Zbe {j pos}:PE X (.Constant .none j pos) (tC .non):=fun _ _ _ H _ I h=>Constant_none ⟨.non,H,I,rfl,h⟩
theorem Zdy {x j pos}:PE X (.Constant (.str x) j pos) (tC (.str x)):=fun _ _ _ H _ I h=>Calls.Constant_str ⟨.str x,H,I.tok _,⟨_,rfl⟩,h⟩
noncomputable def Gl (X:Cx)(x:Str):Prop:=X.env.kindOf x=some .globalImplicit
theorem Zfb {E:Value->Shared->Prop}{pins:List (Addr×Obj)}{s:Shared}{σ:St}{H:Hp}{x:Str}{u:Value}{pos:Pos}{Q:Value->Shared->Prop}(I:Inv X pins σ H s)(hg:Gl X x)(hm:X.mg x=some u)(h:Q u s)
  (hd:(x == ("__debug__" : Str))=false:=by decide):wpAny (model X.prog X.w) X.A (eval (.Name x pos) X.env) Q E s :=
 Calls.Name_function_global I.ok.kind hg (Calls.loadGlobal_global (by rw [I.ok.glob];exact I.mod.glob.keeps I.bk) hm h) hd
theorem Dw {E:Value->Shared->Prop}{pins:List (Addr×Obj)}{s:Shared}{σ:St}{H:Hp}{x:Str}{u:Value}{pos:Pos}{Q:Value->Shared->Prop}(I:Inv X pins σ H s)(hg:Gl X x)(hm:X.mg x=none)(hv:bootBuiltins x=some u)(h:Q u s)
  (hn:x ≠ "__name__" := by decide) (hd:(x == ("__debug__" : Str))=false:=by decide):wpAny (model X.prog X.w) X.A (eval (.Name x pos) X.env) Q E s:=by
 obtain ⟨mb,h1,h2⟩:=I.mod.blt
 exact Calls.Name_function_global I.ok.kind hg (Calls.loadGlobal_builtin (by rw [I.ok.glob];exact I.mod.glob.keeps I.bk) hm (by rw [I.ok.blt];exact h1.keeps I.bk) ((h2 x hn).trans hv) h) hd
theorem Zlh {x:Str}{v:V}{u:Value}{pos:Pos}(hg:Gl X x)(hm:X.mg x=some u)(r:RelV v u)(hd:(x == ("__debug__" : Str))=false:=by decide):PE X (.Name x pos) (tC v) :=
 fun _ _ _ H _ I h=>Zfb I hg hm ⟨v,H,I,r,h⟩ hd
theorem Znd {x:Str}{v:V}{u:Value}{pos:Pos}(hg:Gl X x)(hm:X.mg x=none)(hv:bootBuiltins x=some u)(r:RelV v u)(hn:x ≠ "__name__" := by decide)(hd:(x == ("__debug__" : Str))=false:=by decide):PE X (.Name x pos) (tC v) :=
 fun _ _ _ H _ I h=>Dw I hg hm hv ⟨v,H,I,r,h⟩ hn hd
variable {a b:Expr}{ta tb:TE}{pos:Pos}
noncomputable def PC (X:Cx)(op:CmpOp)(a b:Expr)(t:TE):Prop :=
 ∀(pins:List (Addr×Obj))(s:Shared)(σ:St)(H:Hp)(Q:VK),Inv X pins σ H s->t σ H Q ->
  wpAny (model X.prog X.w) X.A (eval a X.env) (fun v s₁=>wpAny (model X.prog X.w) X.A (eval b X.env) (fun u s₂=>wpAny (model X.prog X.w) X.A (compareOp op v u) (EP X pins σ Q) X.xe s₂) X.xe s₁) X.xe s
theorem K3 (b:Expr){op:CmpOp}(h:op≠.In)(h2:op≠.NotIn):behindInMarks op b=false:=by
 have e1:(op == CmpOp.In)=false:=by cases op <;> first | rfl | exact absurd rfl h
 have e2:(op == CmpOp.NotIn)=false:=by cases op <;> first | rfl | exact absurd rfl h2
 cases b <;> simp [behindInMarks,e1,e2]
noncomputable def L6 (ta:TE):TE:=fun σ H Q=>ta σ H fun x H1=>Q (.bl (decide (x=.non))) H1
noncomputable def Of (ta:TE):TE:=fun σ H Q=>ta σ H fun x H1=>Q (.bl (!decide (x=.non))) H1
theorem RelV.none_iff {x:V}{v:Value}(r:RelV x v):(v == Value.none)=decide (x=.non):=by
 cases x with
 | non=>cases r;rfl
 | bl _=>cases r;rfl
 | int _=>obtain ⟨t,rfl⟩:=r;rfl
 | str _=>obtain ⟨t,rfl⟩:=r;rfl
 | byt _=>obtain ⟨t,rfl⟩:=r;rfl
 | flt _=>obtain ⟨t,rfl⟩:=r;rfl
 | ref _=>cases r;rfl
 | ty _=>cases r;rfl
theorem Zki {j pos'}(ha:PE X a ta):PC X .Is a (.Constant .none j pos') (L6 ta):=by
 intro pins s σ H Q I h
 refine Ak (ha pins s σ H _ I h) fun v s1 zq=>?_
 obtain ⟨x,H1,I1,r1,q1⟩:=zq
 exact Constant_none (is_none_gen ⟨.bl _,H1,I1,by rw [r1.none_iff];rfl,q1⟩)
theorem Zni {j pos'}(ha:PE X a ta):PC X .IsNot a (.Constant .none j pos') (Of ta):=by
 intro pins s σ H Q I h
 refine Ak (ha pins s σ H _ I h) fun v s1 zq=>?_
 obtain ⟨x,H1,I1,r1,q1⟩:=zq
 exact Constant_none (isnot_none_gen ⟨.bl _,H1,I1,by rw [r1.none_iff];rfl,q1⟩)
noncomputable def tB (t:TE):TT:=fun σ H Q=>t σ H fun x H1=>∃ c,x=.bl c/\Q c H1
theorem Ziq {op:CmpOp}{t:TE}(h:PC X op a b t)(h1:behindInMarks op b=false:=by first | exact K3 _ (by decide) (by decide) | rfl):PE X (.Compare a [op] [b] pos) t:=fun pins s σ H Q I hw=>wpAny_Compare1 (h pins s σ H Q I hw) h1
theorem Zg7 {op:CmpOp}{t:TE}(h:PC X op a b t)(h1:behindInMarks op b=false:=by first | exact K3 _ (by decide) (by decide) | rfl):PT X (.Compare a [op] [b] pos) (tB t):=by
 intro pins s σ H Q I hw
 refine wpAny_isTrue_Compare1 (Ak (h pins s σ H _ I hw) fun v s1 h1=>Ak h1 fun u s2 h2=>Ak h2 fun c s3 zq=>?_) h1
 obtain ⟨x,H1,I1,r1,q1⟩:=zq
 obtain ⟨d,rfl,q⟩:=q1
 cases r1
 exact R4 ⟨H1,I1,q⟩
theorem Zqs {e:Expr}{t:TE}(h:PE X e t)(he:∀ whole,isTrue e X.env whole=(do let v <- whole;standAt e.pos;holding [v] (truthy v)):=by intro _;rfl):PT X e (tB t):=by
 intro pins s σ H Q I hw
 refine isTrue_plain (Ak (h pins s σ H _ I hw) fun v s1 zq=>?_) (he _)
 obtain ⟨x,H1,I1,r1,q1⟩:=zq
 obtain ⟨d,rfl,q⟩:=q1
 cases r1
 exact R4 ⟨H1,I1,q⟩
variable {tA tB':TT}{rest:List Expr}
noncomputable def M8 (t u:TT):TT:=fun σ H Q=>t σ H fun c H1=>if c=true then u σ H1 Q else Q false H1
noncomputable def Oy (t:TT):TT:=fun σ H Q=>t σ H fun c H1=>Q (!c) H1
theorem pw_and1 (ha:PT X a tA):PW X (.BoolOp .And [a] pos) tA:=by
 intro wh pins s σ H Q I h
 refine isTrue_and (Ak (ha pins s σ H Q I h) fun c s1 e=>?_)
 cases c with
 | true=>exact isTrue_and_nil e
 | false=>exact e
theorem pw_and (ha:PT X a tA)(hb:PW X (.BoolOp .And (b::rest) pos) tB'):PW X (.BoolOp .And (a::b::rest) pos) (M8 tA tB'):=by
 intro wh pins s σ H Q I h
 refine isTrue_and (Ak (ha pins s σ H _ I h) fun c s1 zq=>?_)
 obtain ⟨H1,I1,q1⟩:=zq
 cases c with
 | true=>exact hb wh pins s1 σ H1 Q I1 q1
 | false=>exact ⟨H1,I1,q1⟩
theorem Zh1 (ha:PT X a tA):PT X (.UnaryOp .Not a pos) (Oy tA):=by
 intro pins s σ H Q I h
 exact isTrue_not (ha pins s σ H (fun c H1=>Q (!c) H1) I h)
noncomputable def Ot (ta tb:TE):TE:=fun σ H Q=>ta σ H fun x H1=>∃ c,x=.bl c/\if c=true then tb σ H1 Q else Q (.bl false) H1
noncomputable def Mp (ta:TE):TE:=fun σ H Q=>ta σ H fun x H1=>∃ c,x=.bl c/\Q (.bl (!c)) H1
theorem Zp0 {op}{t:TE}(h:PE X a t):PE X (.BoolOp op [a] pos) t:=fun pins s σ H Q I hw=>BoolOp_one (h pins s σ H Q I hw)
theorem Zo5 (ha:PE X a ta)(hb:PE X (.BoolOp .And (b::rest) pos) tb):PE X (.BoolOp .And (a::b::rest) pos) (Ot ta tb):=by
 intro pins s σ H Q I h
 refine BoolOp_and (Ak (ha pins s σ H _ I h) fun v s1 zq=>?_)
 obtain ⟨x,H1,I1,r1,q1⟩:=zq
 obtain ⟨c,rfl,q1⟩:=q1
 cases r1
 refine R4 ?_
 cases c with
 | true=>exact hb pins s1 σ H1 Q I1 q1
 | false=>exact ⟨.bl false,H1,I1,rfl,q1⟩
theorem Zoa (ha:PE X a ta):PE X (.UnaryOp .Not a pos) (Mp ta):=by
 intro pins s σ H Q I h
 refine UnaryOp_ (Ak (ha pins s σ H _ I h) fun v s1 zq=>?_)
 obtain ⟨x,H1,I1,r1,q1⟩:=zq
 obtain ⟨c,rfl,q1⟩:=q1
 cases r1
 exact not_of (R4 ⟨.bl (!c),H1,I1,rfl,q1⟩)
noncomputable def tIf (t:TT)(ta tb:TE):TE:=fun σ H Q=>t σ H fun c H1=>if c=true then ta σ H1 Q else tb σ H1 Q
theorem Zmv {c:Expr}(hc:PT X c tA)(ha:PE X a ta)(hb:PE X b tb):PE X (.IfExp c a b pos) (tIf tA ta tb):=by
 intro pins s σ H Q I h
 refine wpAny_IfExp (Ak (hc pins s σ H _ I h) fun d s1 zq=>?_)
 obtain ⟨H1,I1,q1⟩:=zq
 cases d with
 | true=>exact ha pins s1 σ H1 Q I1 q1
 | false=>exact hb pins s1 σ H1 Q I1 q1
end
noncomputable def SqL (K:O9)(H:Hp)(a:Addr)(xs:List V):Prop :=
 Rd H a (.lst xs) \/
  ∃(o:Obj)(its:Array Value)(n:Nat),K.lookup a=some o/\o.cls=.type "list" /\ o.dict=none/\o.data=.seq its n/\its.size<=sizeLine/\Vals xs its.toList
noncomputable def SqT (K:O9)(H:Hp)(a:Addr)(xs:List V):Prop :=
 Rd H a (.tup xs) \/
  ∃(o:Obj)(its:Array Value)(n:Nat),K.lookup a=some o/\o.cls=.type "tuple" /\ o.data=.seq its n/\its.size<=sizeLine/\Vals xs its.toList
noncomputable def K1:Value->Option V
 | .none=>some .non
 | .bool b=>some (.bl b)
 | .int i _=>some (.int i)
 | .str x _=>some (.str x)
 | .bytes b _=>some (.byt b)
 | .float b _=>some (.flt b)
 | .ref a=>some (.ref a)
 | .type n=>some (.ty n)
 | _=>none
theorem RelV.abs {x:V}{u:Value}(r:RelV x u):K1 u=some x:=by
 cases x with
 | non=>cases r;rfl
 | bl _=>cases r;rfl
 | int _=>obtain ⟨t,rfl⟩:=r;rfl
 | str _=>obtain ⟨t,rfl⟩:=r;rfl
 | byt _=>obtain ⟨t,rfl⟩:=r;rfl
 | flt _=>obtain ⟨t,rfl⟩:=r;rfl
 | ref _=>cases r;rfl
 | ty _=>cases r;rfl
theorem RelV.inj {x y:V}{u:Value}(r:RelV x u)(q:RelV y u):x=y:=Po (r.abs.symm.trans q.abs)
theorem Vals.inj:∀{xs ys:List V}{us:List Value},Vals xs us->Vals ys us->xs=ys
 | _,_,_,.nil,.nil=>rfl
 | _,_,_,.cons r t,.cons r' t'=>by rw [r.inj r',Vals.inj t t']
section
variable {X:Cx}{pins:List (Addr×Obj)}{σ:St}{H:Hp}{s:Shared}{a:Addr}{xs ys:List V}
theorem SqL.of {K:O9}(h:H a=some (.lst xs)):SqL K H a xs:=.inl (.inl h)
theorem SqT.of {K:O9}(h:H a=some (.tup xs)):SqT K H a xs:=.inl (.inl h)
theorem Inv.list (I:Inv X pins σ H s)(h:SqL X.K H a xs):∃ its:List Value,Vals xs its/\PlainL s.heap a its.toArray/\xs.length<=sizeLine:=by
 rcases h with h | ⟨o,its,n,hk,hc,hd,hs,hz,r⟩
 ·obtain ⟨z,its,n,r,e⟩:=h.ok I.hok
  exact ⟨its,r,⟨_,n,e,rfl,rfl,rfl⟩,z⟩
 ·refine ⟨its.toList,r,⟨o,n,I.kIn a o hk,hc,hd,by simpa using hs⟩,?_⟩
  have e:=r.length
  simp only [Ti] at e
  omega
theorem Inv.tuple (I:Inv X pins σ H s)(h:SqT X.K H a xs):∃ its:List Value,Vals xs its/\IsTup s.heap a its.toArray/\xs.length<=sizeLine:=by
 rcases h with h | ⟨o,its,n,hk,hc,hs,hz,r⟩
 ·obtain ⟨z,its,r,p⟩:=h.ok I.hok
  exact ⟨its,r,p,z⟩
 ·refine ⟨its.toList,r,⟨o,I.kIn a o hk,hc,n,by simpa using hs⟩,?_⟩
  have e:=r.length
  simp only [Ti] at e
  omega
theorem Inv.list_inj (I:Inv X pins σ H s)(h:SqL X.K H a xs)(h':SqL X.K H a ys):xs=ys:=by
 obtain ⟨its,r,⟨o,n,e,_,_,d⟩,_⟩:=I.list h
 obtain ⟨its',r',⟨o',n',e',_,_,d'⟩,_⟩:=I.list h'
 rw [e] at e';cases e'
 rw [d] at d'
 injection d' with d1 _
 have:its=its':=by simpa using congrArg Array.toList d1
 subst this
 exact r.inj r'
theorem Inv.tuple_inj (I:Inv X pins σ H s)(h:SqT X.K H a xs)(h':SqT X.K H a ys):xs=ys:=by
 obtain ⟨its,r,⟨o,e,_,n,d⟩,_⟩:=I.tuple h
 obtain ⟨its',r',⟨o',e',_,n',d'⟩,_⟩:=I.tuple h'
 rw [e] at e';cases e'
 rw [d] at d'
 injection d' with d1 _
 have:its=its':=by simpa using congrArg Array.toList d1
 subst this
 exact r.inj r'
end
noncomputable abbrev Cx.wish (X:Cx)(E:Value->Shared->Prop):Cx:={ X with xe:=E }
noncomputable abbrev Cx.nox (X:Cx):Cx:=X.wish fun _ _=>False
theorem Cx.Ok.wish {X:Cx}(ok:X.Ok)(E:Value->Shared->Prop):(X.wish E).Ok :=
 ⟨ok.mod,ok.kind,ok.glob,ok.blt,ok.above,ok.inj,ok.has,ok.cab,ok.hd,ok.frames,ok.stk,ok.exf,ok.bs,ok.bsz,ok.noex,ok.exfs,ok.funs,ok.frf⟩
theorem Cx.Ok.unwish {X:Cx}{E:Value->Shared->Prop}(ok:(X.wish E).Ok):X.Ok :=
 ⟨ok.mod,ok.kind,ok.glob,ok.blt,ok.above,ok.inj,ok.has,ok.cab,ok.hd,ok.frames,ok.stk,ok.exf,ok.bs,ok.bsz,ok.noex,ok.exfs,ok.funs,ok.frf⟩
section
variable {X:Cx}{pins:List (Addr×Obj)}{σ:St}{H:Hp}{s:Shared}{E:Value->Shared->Prop}
theorem Inv.wish (I:Inv X pins σ H s)(E:Value->Shared->Prop):Inv (X.wish E) pins σ H s:=⟨I.ok.wish E,I.os,I.bare,I.base,I.loc,I.cell,I.free,I.freeC,I.pin,I.hok,I.len⟩
theorem Inv.unwish (I:Inv (X.wish E) pins σ H s):Inv X pins σ H s:=⟨I.ok.unwish,I.os,I.bare,I.base,I.loc,I.cell,I.free,I.freeC,I.pin,I.hok,I.len⟩
theorem SP.unwish {D:C0}{f:Flow}{s':Shared}(h:SP (X.wish E) pins D f s'):SP X pins D f s':=by
 cases f with
 | next=>obtain ⟨σ',H',I,q⟩:=h;exact ⟨σ',H',I.unwish,q⟩
 | brk=>obtain ⟨σ',H',I,q⟩:=h;exact ⟨σ',H',I.unwish,q⟩
 | cont=>obtain ⟨σ',H',I,q⟩:=h;exact ⟨σ',H',I.unwish,q⟩
 | ret u=>obtain ⟨v,σ',H',I,r,q⟩:=h;exact ⟨v,σ',H',I.unwish,r,q⟩
theorem PSs.nox {st:List Stmt}{t:TS}(h:PSs X.nox st t):PSs X st t:=fun pins s σ H D I hw =>
 Sy (h pins s σ H D (I.wish _) hw) (fun _ _ q=>q.unwish) fun _ _ z=>Ra z
end
section
variable {X:Cx}{st:Stmt}{rest:List Stmt}{t u:TS}{e:Expr}{te:TE}{pos:Pos}
noncomputable def O1:TS:=fun D σ H=>D.nx σ H
noncomputable def O0 (t u:TS):TS:=fun D σ H=>t { D with nx:=u D } σ H
theorem Zin:PSs X [] O1:=fun _ _ σ H _ I h=>Ux ⟨σ,H,I,h⟩
theorem Zgo (h1:PS X st t)(h2:PSs X rest u):PSs X (st::rest) (O0 t u):=by
 intro pins s σ H D I h
 refine wpAny_execs_cons (Ak (h1 pins s σ H { D with nx:=u D } I h) fun f s1 q=>?_)
 cases f with
 | next =>
  obtain ⟨σ',H',I',q⟩:=q
  exact h2 pins s1 σ' H' D I' q
 | ret v=>exact q
 | brk=>exact q
 | cont=>exact q
theorem Zn4 (h1:PS X st t):PSs X [st] t:=by
 intro pins s σ H D I h
 refine wpAny_execs_cons (Ak (h1 pins s σ H D I h) fun f s1 q=>?_)
 cases f with
 | next=>exact Ux q
 | ret v=>exact q
 | brk=>exact q
 | cont=>exact q
noncomputable def Zgj:TS:=fun D σ H=>D.ct σ H
theorem Zmm:PS X (.Continue pos) Zgj:=fun _ _ σ H _ I h=>wpAny_Continue ⟨σ,H,I,h⟩
theorem Inv.quiet {pins:List (Addr×Obj)}{σ:St}{H:Hp}{s:Shared}(I:Inv X pins σ H s):interactive X.env=false:=by simp [interactive,I.ok.kind]
noncomputable def Om (te:TE):TS:=fun D σ H=>te σ H fun _ H1=>D.nx σ H1
theorem Zp6 (he:PE X e te)(hs:swapsWith e none pos.line X.env=pure false:=by rfl):PS X (.Expr e pos) (Om te):=by
 intro pins s σ H D I h
 exact wpAny_Expr_any (Ak (he pins s σ H _ I h) fun v s1 ⟨x,H1,I1,r1,q1⟩=>⟨σ,H1,I1,q1⟩) I.quiet hs
noncomputable def On (te:TE):TS:=fun D σ H=>te σ H D.rt
theorem Zof (he:PE X e te):PS X (.Return (some e) pos) (On te):=by
 intro pins s σ H D I h
 exact wpAny_Return_some (Ak (he pins s σ H _ I h) fun v s1 ⟨x,H1,I1,r1,q1⟩=>⟨x,σ,H1,I1,r1,q1⟩)
noncomputable def Fm (c:TT)(t u:TS):TS:=fun D σ H=>c σ H fun b H1=>if b=true then t D σ H1 else u D σ H1
theorem Zq5 {c:Expr}{a b:List Stmt}{tc:TT}(hc:PT X c tc)(ha:PSs X a t)(hb:PSs X b u):PS X (.If c a b pos) (Fm tc t u):=by
 intro pins s σ H D I h
 refine wpAny_If (Ak (hc pins s σ H _ I h) fun d s1 zq=>?_)
 obtain ⟨H1,I1,q1⟩:=zq
 cases d with
 | true=>exact ha pins s1 σ H1 D I1 q1
 | false=>exact hb pins s1 σ H1 D I1 q1
end
noncomputable abbrev TG:=V->St->Hp->(St->Hp->Prop)->Prop
noncomputable abbrev D7:=List V->St->Hp->(St->Hp->Prop)->Prop
noncomputable def PG (X:Cx)(target:Expr)(t:TG):Prop :=
 ∀(pins:List (Addr×Obj))(s:Shared)(σ:St)(H:Hp)(v:V)(u:Value)(Q:St->Hp->Prop),Inv X pins σ H s->RelV v u->t v σ H Q ->
  wpAny (model X.prog X.w) X.A (assign target X.env u) (fun _ s'=>∃ σ' H',Inv X pins σ' H' s'/\Q σ' H') X.xe s
noncomputable def PGs (X:Cx)(ts:List Expr)(t:D7):Prop :=
 ∀(pins:List (Addr×Obj))(s:Shared)(σ:St)(H:Hp)(vs:List V)(us:List Value)(Q:St->Hp->Prop),Inv X pins σ H s->Vals vs us->t vs σ H Q ->
  wpAny (model X.prog X.w) X.A (assignInOrder ((assignEach ts X.env).map (·.2)) us) (fun _ s'=>∃ σ' H',Inv X pins σ' H' s'/\Q σ' H') X.xe s
noncomputable abbrev Ij:=V->V->V->Hp->(Hp->Prop)->Prop
noncomputable def Zap (X:Cx)(t:Ij):Prop :=
 ∀(pins:List (Addr×Obj))(s:Shared)(σ:St)(H:Hp)(o i v:V)(ov iv u:Value)(Q:Hp->Prop),Inv X pins σ H s->RelV o ov->RelV i iv->RelV v u->t o i v H Q ->
  wpAny (model X.prog X.w) X.A (setItem ov iv u) (fun _ s'=>∃ H',Inv X pins σ H' s'/\Q H') X.xe s
noncomputable abbrev Hq:=V->V->Hp->VK->Prop
noncomputable def PIp (X:Cx)(op:Operator)(t:Hq):Prop :=
 ∀(pins:List (Addr×Obj))(s:Shared)(σ:St)(H:Hp)(x y:V)(v u:Value)(Q:VK),Inv X pins σ H s->RelV x v->RelV y u->t x y H Q ->
  wpAny (model X.prog X.w) X.A (inplaceOp op v u) (EP X pins σ Q) X.xe s
section
variable {X:Cx}{pos:Pos}
noncomputable def F1 (i:Nat):TG:=fun v σ H Q=>Q (σ.set i (some v)) H
theorem Zmt {i:Nat}{x:Str}(hN:X.N.Nodup)(hi:X.N[i]?=some x)(hx:Eo X.env.scope x)(hf:X.fn x=true\/X.env.scope.names.lookup x=some .local:=by first | exact .inl rfl | exact .inr rfl | assumption):PG X (.Name x pos) (F1 i):=by
 intro pins s σ H v u Q I r h
 exact wpAny_assign_Name (Hx I hN hi hx r (fun s' I'=>⟨_,H,I',h⟩) hf)
noncomputable def Mn:D7:=fun vs σ H Q=>vs=[]/\Q σ H
noncomputable def Mb (t:TG)(u:D7):D7:=fun vs σ H Q=>∃ v r,vs=v::r/\t v σ H fun σ' H'=>u r σ' H' Q
theorem Zk1:PGs X [] Mn:=by
 intro pins s σ H vs us Q I r h
 obtain ⟨e,h⟩:=h
 subst e
 cases r
 exact assignInOrder_nil ⟨σ,H,I,h⟩
theorem Zn1 {e:Expr}{es:List Expr}{t:TG}{u:D7}(h1:PG X e t)(h2:PGs X es u)
  (hs:(assignEach (e::es) X.env).map (·.2)=assign e X.env::(assignEach es X.env).map (·.2):=by rfl):PGs X (e::es) (Mb t u):=by
 intro pins s σ H vs us Q I r h
 obtain ⟨v,vr,e1,h⟩:=h
 subst e1
 cases r with
 | cons r rr =>
  rw [hs]
  refine Vw (Ak (h1 pins s σ H _ _ _ I r h) fun _ s1 zq=>?_)
  obtain ⟨σ1,H1,I1,q1⟩:=zq
  exact h2 pins s1 σ1 H1 _ _ Q I1 rr q1
noncomputable def Le (K:O9)(n:Nat)(t:D7):TG:=fun v σ H Q=>∃ a xs,v=.ref a/\SqT K H a xs/\xs.length=n/\t xs σ H Q
theorem Zl6 {es:List Expr}{k:Nat}{t:D7}{n:Nat}(hc:X.calm=true)(h:PGs X es t)
  (hn:(assignEach es X.env).length=n:=by rfl) (hst:(assignEach es X.env).findIdx? (·.1)=none:=by rfl):PG X (.Tuple es k pos) (Le X.K n t):=by
 intro pins s σ H v u Q I r hw
 obtain ⟨a,xs,e1,hq,hl,hw⟩:=hw
 subst e1
 cases r
 obtain ⟨its,rv,ht,hz⟩:=I.tuple hq
 refine assign_Tuple_tuple (I.ok.hd hc) ht (by simp [hn,<- hl,rv.length]) hst fun h' hx=>?_
 have I1:Inv X pins σ H { s with heap:=h' }:=I.kept (t':=s.toks) fun b o e=>hx b o (Pr (Pi e)) e
 exact h pins _ σ H xs _ Q I1 (by simpa using rv) hw
noncomputable def Mq (to ti:TE)(t:Ij):TG:=fun v σ H Q=>to σ H fun o H1=>ti σ H1 fun i H2=>t o i v H2 fun H3=>Q σ H3
theorem Zgl {o i:Expr}{to ti:TE}{t:Ij}(ho:PE X o to)(hi:PE X i ti)(hs:Zap X t)
  (ha:∀ v,assign (.Subscript o i pos) X.env v=(do
   let ov <- holding [v] (eval o X.env)
   let iv <- holding [v,ov] (eval i X.env)
   standAt pos
   holding [v,ov,iv] (setItem ov iv v)
   release [v,ov,iv] []):=by intro _;rfl):PG X (.Subscript o i pos) (Mq to ti t):=by
 intro pins s σ H v u Q I r h
 rw [ha]
 refine Pa (Q0 (Ak (ho pins s σ H _ I h) fun ov s1 zq=>?_))
 obtain ⟨x,H1,I1,r1,q1⟩:=zq
 refine Pa (Q0 (Ak (hi pins s1 σ H1 _ I1 q1) fun iv s2 zq=>?_))
 obtain ⟨y,H2,I2,r2,q2⟩:=zq
 refine Pa (T9 (Pa (Q0 (Ak (hs pins s2 σ H2 x y v ov iv u _ I2 r1 r2 r q2) fun _ s3 zq=>?_))))
 obtain ⟨H3,I3,q3⟩:=zq
 exact wpAny_release ⟨σ,H3,I3,q3⟩
noncomputable def F5 (te:TE)(g:TG):TS:=fun D σ H=>te σ H fun x H1=>g x σ H1 D.nx
theorem Zll {tg e:Expr}{te:TE}{g:TG}(he:PE X e te)(hg:PG X tg g)(hs:swapsWithSole [tg] e pos.line X.env=pure false:=by rfl)(hw:swappedStores [tg] e X.env=pure none:=by rfl)
  (h1:(assignEach [tg] X.env).map (·.2)=[assign tg X.env]:=by rfl):PS X (.Assign [tg] e pos) (F5 te g):=by
 intro pins s σ H D I h
 refine wpAny_Assign_stores (Ak (he pins s σ H _ I h) fun v s1 zq=>?_) hs hw
 obtain ⟨x,H1,I1,r1,q1⟩:=zq
 rw [h1]
 exact Ak (hg pins s1 σ H1 x v _ I1 r1 q1) fun _ s2 q=>q
theorem Znr {i:Nat}{x:Str}{e:Expr}{te:TE}{pos':Pos}(hN:X.N.Nodup)(hi:X.N[i]?=some x)(hx:Eo X.env.scope x)(he:PE X e te)(hs:swapsWith e (some (.Name x pos')) pos.line X.env=pure false:=by rfl)(hf:X.fn x=true\/X.env.scope.names.lookup x=some .local:=by first | exact .inl rfl | exact .inr rfl | assumption) :
  PS X (.Assign [.Name x pos'] e pos) (F5 te (F1 i)):=by
 intro pins s σ H D I h
 refine wpAny_Assign_Name (Ak (he pins s σ H _ I h) fun v s1 zq=>?_) hs
 obtain ⟨y,H1,I1,r1,q1⟩:=zq
 exact Hx I1 hN hi hx r1 (fun s2 I2=>⟨_,H1,I2,q1⟩) hf
noncomputable def Zao (i j:Nat)(ta:TA):TS:=fun D σ H=>ta σ H fun vs H1=>∃ v w,vs=[v,w]/\D.nx ((σ.set i (some v)).set j (some w)) H1
theorem Zpq {i j:Nat}{x y:Str}{a b:Expr}{ta:TA}{px py pt:Pos}{kt k2 pt2}(hc:X.calm=true)(hN:X.N.Nodup)(hi:X.N[i]?=some x)(hj:X.N[j]?=some y)(hij:i≠j)
  (hx:X.env.scope.names.lookup x=some .local) (hy:X.env.scope.names.lookup y=some .local) (ha:PA X [a,b] ta)
  (hw:swappedStores [.Tuple [.Name x px,.Name y py] kt pt] (.Tuple [a,b] k2 pt2) X.env=pure (some [x,y]))
  (hs:swapsWithSole [.Tuple [.Name x px,.Name y py] kt pt] (.Tuple [a,b] k2 pt2) pos.line X.env=pure false:=by rfl) :
  PS X (.Assign [.Tuple [.Name x px,.Name y py] kt pt] (.Tuple [a,b] k2 pt2) pos) (Zao i j ta):=by
 intro pins s σ H D I h
 rw [exec_Assign_arm]
 refine Pa (T9 ?_)
 rw [hs]
 refine Pa (Pd ?_)
 rw [if_neg (by decide)]
 refine Pa (Tuple_ (Ak (ha _ pins s σ H _ I h) fun us s1 zq=>?_))
 obtain ⟨vs,H1,I1,r1,q1⟩:=zq
 obtain ⟨v,w,e1,q1⟩:=q1
 subst e1
 obtain ⟨u1,u2,rfl,rv,rw'⟩:∃ u1 u2,us=[u1,u2]/\RelV v u1/\RelV w u2:=by
  cases r1 with
  | cons p q =>
   cases q with
   | cons p' q' =>
    cases q'
    exact ⟨_,_,rfl,p,p'⟩
 refine Rp ?_ (by show 2<=sizeLine;decide)
 have I2:Inv X pins σ H1 { s1 with heap:=s1.heap.push { cls:=.type "tuple",data:=.seq [u1,u2].toArray } }:=I1.kept (t':=s1.toks) fun b o e=>Pk _ e
 rw [hw]
 refine Pa (Pd ?_)
 show wpAny (model X.prog X.w) X.A (do rule "assign.swapped-stores";let items <- unpackItems (.ref s1.heap.objs.size) 2 none;assignInOrder [fun v=>bindName X.env y v,fun v=>bindName X.env x v] items.reverse;pure Flow.next) _ _ _
 refine Pa (Sz (Pa (unpackItems_tuple (items:=#[u1,u2]) (I.ok.hd hc) (IsTup.new s1.heap _) fun h' hx'=>?_)))
 have I3:=I2.kept (h':=h') (t':=s1.toks) fun b o e=>hx' b o (Pr (Pi e)) e
 show wpAny _ _ (assignInOrder [fun v=>bindName X.env y v,fun v=>bindName X.env x v] [u2,u1] >>= fun _=>pure Flow.next) _ _ _
 refine Pa (Vw (wpAny_bindName (Hx I3 hN hj (.inl hy) rw' (fun s2 I4=>?_) (.inr hy))))
 refine Vw (wpAny_bindName (Hx I4 hN hi (.inl hx) rv (fun s3 I5=>assignInOrder_nil (Pd ?_)) (.inr hx)))
 rw [List.set_comm _ _ (P9 hij)] at I5
 exact ⟨_,H1,I5,q1⟩
noncomputable def Zay (i:Nat)(te:TE)(ti:Hq):TS:=fun D σ H=>∃ x,σ[i]?=some (some x)/\te σ H fun y H1=>ti x y H1 fun z H2=>D.nx (σ.set i (some z)) H2
theorem Zjr {i:Nat}{x:Str}{e:Expr}{te:TE}{op:Operator}{ti:Hq}{pos':Pos}(hN:X.N.Nodup)(hi:X.N[i]?=some x)(hx:Eo X.env.scope x)(he:PE X e te)(ho:PIp X op ti)(hf:X.fn x=true\/X.env.scope.names.lookup x=some .local:=by first | exact .inl rfl | exact .inr rfl | assumption) :
  PS X (.AugAssign (.Name x pos') op e pos) (Zay i te ti):=by
 intro pins s σ H D I h
 obtain ⟨v,e1,h⟩:=h
 obtain ⟨m,hn,hl⟩:=I.loc
 have vis:Vis X.env.scope x:=by rcases hx with k | k;exact .inl k;exact .inr (.inl k)
 obtain ⟨u,r,l⟩:=hl i x v hi e1 vis
 refine wpAny_AugAssign_Name ?_
 have go:wpAny (model X.prog X.w) X.A (eval e X.env) (fun w s₂=>wpAny (model X.prog X.w) X.A (inplaceOp op u w) (fun r s₃=>wpAny (model X.prog X.w) X.A (storeName X.env x r) (fun _=>SP X pins D .next) X.xe s₃) X.xe s₂) X.xe s:=by
  refine Ak (he pins s σ H _ I h) fun w s1 zq=>?_
  obtain ⟨y,H1,I1,r1,q1⟩:=zq
  refine Ak (ho pins s1 σ H1 v y u w _ I1 r r1 q1) fun z s2 zq=>?_
  obtain ⟨zv,H2,I2,r2,q2⟩:=zq
  exact Hx I2 hN hi hx r2 (fun s3 I3=>⟨_,H2,I3,q2⟩) hf
 rcases l with ⟨hk,hm⟩ | ⟨hk,c,hc,hcell⟩
 ·exact wpAny_loadName_local I.ok.kind hk hn hm go
 ·rcases hk with hk | hk
  ·exact wpAny_loadName_cell I.ok.kind hk hc hcell go
  ·rcases hx with k | k
   ·have:X.env.scope.names.lookup x=some .free:=hk
    rw [k] at this;cases this
   ·have:X.env.scope.names.lookup x=some .free:=hk
    rw [k] at this;cases this
noncomputable def ipI (f:Int->Int->Int):Hq:=fun x y H Q=>∃ i j,x=.int i/\y=.int j/\Q (.int (f i j)) H
theorem Zqp:PIp X .Add (ipI fun i j=>i+j):=by
 intro pins s σ H x y v u Q I r1 r2 h
 obtain ⟨i,j,e1,e2,q⟩:=h
 subst e1;subst e2
 obtain ⟨t,rfl⟩:=r1
 obtain ⟨t',rfl⟩:=r2
 exact iadd_int ⟨.int _,H,I.tok _,⟨_,rfl⟩,q⟩
end
section
variable {X:Cx}{pos:Pos}
noncomputable def Zcb (c:TT)(tb:TS):TS:=fun D σ H=>∃ W:Nat->St->Hp->Prop,(∃ m,W m σ H)/\∀ m σ H,W m σ H ->
 c σ H fun b H1=>if b=true then ∃ N:St->Hp->Prop,(∀ σ' H',N σ' H'->∃ m',m' < m/\W m' σ' H')/\tb { D with nx:=N,ct:=N,bk:=D.nx } σ H1 else D.nx σ H1
theorem Zmk {c:Expr}{body:List Stmt}{tc:TT}{tb:TS}(hp:PassesOwn (model X.prog X.w) X.A X.env X.xe)(hc:PT X c tc)(hb:PSs X body tb):PS X (.While c body [] pos) (Zcb tc tb):=by
 intro pins s σ H D I h
 obtain ⟨W,⟨m0,w0⟩,turn⟩:=h
 refine wpAny_While (codeAny_whileLoop (fun n s'=>∃ σ' H',Inv X pins σ' H' s'/\W n σ' H') ?_ m0 ⟨σ,H,I,w0⟩)
 rintro n s1 ⟨σ1,H1,I1,w1⟩
 refine R5 hp (Ak (hc pins s1 σ1 H1 _ I1 (turn n σ1 H1 w1)) fun b s2 zq=>?_)
 obtain ⟨H2,I2,q2⟩:=zq
 cases b with
 | true =>
  obtain ⟨N,hN,q2⟩:=q2
  rw [if_pos rfl]
  refine R5 hp (Ak (hb pins s2 σ1 H2 _ I2 q2) fun f s3 q3=>?_)
  cases f with
  | next =>
   obtain ⟨σ3,H3,I3,n3⟩:=q3
   obtain ⟨m',hm,w3⟩:=hN σ3 H3 n3
   exact ⟨m',hm,σ3,H3,I3,w3⟩
  | cont =>
   obtain ⟨σ3,H3,I3,n3⟩:=q3
   obtain ⟨m',hm,w3⟩:=hN σ3 H3 n3
   exact ⟨m',hm,σ3,H3,I3,w3⟩
  | brk=>exact q3
  | ret v=>exact q3
 | false =>
  rw [if_neg Pp]
  exact Ux ⟨σ1,H2,I2,q2⟩
end
structure It where
 go:Nat->Hp->Prop
 yld:Nat->Hp->V->Hp->Prop
 stop:Nat->Hp->Prop
noncomputable def FpOk (X:Cx)(pins:List (Addr×Obj))(H:Hp)(b:Addr):Prop :=
 H b=none/\b≠X.env.locals/\b ∉ X.fs/\(b∈X.ex\/X.s₀.heap.objs.size<=b)/\(∀ x c,X.env.cells.lookup x=some c->c≠b)/\∀ p∈X.pn++pins,p.1≠b
theorem Inv.fpOk {X:Cx}{pins:List (Addr×Obj)}{σ:St}{H H':Hp}{s:Shared}{b:Addr}(I:Inv X pins σ H s)(hb:s.heap.objs.size<=b)(hn:H' b=none):FpOk X pins H' b:=by
 refine ⟨hn,Q1 (Pz I.lt hb),I.nofs hb,.inr (P5 I.sz hb),fun x c e z=>?_,fun p hp z=>?_⟩
 ·obtain ⟨v,q⟩:=I.cell x c e
  exact absurd (Pz q.lt (by rw [z];exact hb)) (Qw _)
 ·exact absurd (Pz (Pi (I.pin p hp).1) (by rw [z];exact hb)) (Qw _)
structure Fp (P:Program)(w:World)(K:O9)(tg:Expr)(J:It)(fp:List Addr)(it:Addr)(tn:Nat->Heap->Prop):Prop where
 mem:it∈fp
 obj:∀ i h,tn i h->∀ b∈fp,∃ o,h.get? b=some o/\∀ v,o.data≠.cell v
 keep:∀ i h h',tn i h->(∀ b∈fp,∀ o,h.get? b=some o->h'.get? b=some o)->tn i h'
 item:∀(X:Cx),X.prog=P->X.w=w->X.K=K->X.calm=true->∀(i:Nat)(pins:List (Addr×Obj))(s:Shared)(σ:St)(H:Hp)(E:Value->Shared->Prop),Inv X pins σ H s->(∀ b∈fp,FpOk X pins H b)->tn i s.heap->J.go i H ->
  wpAny (model P w) X.A (pyNext (.ref it)) (fun r s1=>∃ u,r=some u /\
   wpAny (model P w) X.A (letOwnedTupleGo tg (.ref it) u) (fun _ s2=>∃ x H',Inv X pins σ H' s2/\RelV x u/\J.yld i H x H'/\tn (i+1) s2.heap/\∀ b∈fp,H' b=none) E s1) E s
 done:∀(X:Cx),X.prog=P->X.w=w->X.K=K->X.calm=true->∀(i:Nat)(pins:List (Addr×Obj))(s:Shared)(σ:St)(H:Hp)(E:Value->Shared->Prop),Inv X pins σ H s->(∀ b∈fp,FpOk X pins H b)->tn i s.heap->J.stop i H ->
  wpAny (model P w) X.A (pyNext (.ref it)) (fun r s1=>r=none/\Inv X pins σ H s1) E s
 self:∀(A:Around)(i:Nat)(s:Shared)(Q:Value->Shared->Prop)(E:Value->Shared->Prop),tn i s.heap->Q (.ref it) s->wpAny (model P w) A (pyIter (.ref it)) Q E s
noncomputable abbrev TI:=St->Hp->(It->Hp->Prop)->Prop
noncomputable def PIE (X:Cx)(pins:List (Addr×Obj))(σ:St)(tg:Expr)(R:It->Hp->Prop)(itv:Value)(s2:Shared):Prop :=
 ∃(it:Addr)(fp:List Addr)(tn:Nat->Heap->Prop)(J:It)(H':Hp),itv=.ref it/\Inv X pins σ H' s2/\Fp X.prog X.w X.K tg J fp it tn/\tn 0 s2.heap/\(∀ b∈fp,FpOk X pins H' b)/\R J H'
noncomputable def PI (X:Cx)(tg iter:Expr)(wi:TI):Prop :=
 ∀(pins:List (Addr×Obj))(s:Shared)(σ:St)(H:Hp)(R:It->Hp->Prop),Inv X pins σ H s->wi σ H R ->
  wpAny (model X.prog X.w) X.A (eval iter X.env) (fun v s1=>wpAny (model X.prog X.w) X.A (pyIter v) (PIE X pins σ tg R) X.xe s1) X.xe s
theorem Jp {M:Model}{A:Around}{E:Value->Shared->Prop}{s:Shared}{tg:Expr}{it:Addr}{u:Value}{o:Obj}{n:String}{vs:Array Value}{Q:Unit->Shared->Prop}(ho:s.heap.get? it=some o)(hc:o.cls=.type n)(hd:o.data=.fields vs)
  (hn:["enumerate", "zip", "dict_itemiterator", "dict_reverseitemiterator", "odict_iterator", "itertools.zip_longest", "itertools.pairwise"].contains n=false) (hQ:Q () s):wpAny M A (letOwnedTupleGo tg (.ref it) u) Q E s:=by
 unfold letOwnedTupleGo
 cases tg <;> first
  | exact Pd hQ
  | (cases u <;> first
    | exact Pd hQ
    | (refine Pa (wpAny_load ho ?_)
       rw [hc,hd]
       show wpAny M A (if (["enumerate", "zip", "dict_itemiterator", "dict_reverseitemiterator", "odict_iterator", "itertools.zip_longest", "itertools.pairwise"].contains n && vs[0]? == some (rawInt _))=true then _ else _) Q E s
       rw [if_neg (by intro h;rw [hn,Bool.false_and] at h;cases h)]
       exact Pd hQ))
noncomputable def Gb (K:O9)(a:Addr):It :=
 ⟨fun i H=>∃ xs x,SqL K H a xs/\xs[i]?=some x,fun i H x H'=>H'=H/\∀ xs,SqL K H a xs->xs[i]?=some x,fun i H=>∃ xs,SqL K H a xs/\xs.length<=i⟩
noncomputable def Go (K:O9)(a:Addr):It :=
 ⟨fun i H=>∃ xs x,SqT K H a xs/\xs[i]?=some x,fun i H x H'=>H'=H/\∀ xs,SqT K H a xs->xs[i]?=some x,fun i H=>∃ xs,SqT K H a xs/\xs.length<=i⟩
noncomputable def Fx (lo:Int)(n:Nat):It:=⟨fun i _=>i < n,fun i H x H'=>H'=H/\x=.int (lo+i),fun i _=>n<=i⟩
theorem Zpt {P:Program}{w:World}{K:O9}{tg:Expr}(a it:Addr):Fp P w K tg (Gb K a) [it] it (fun i h=>h.IsListIter it a i) where
 mem:=by simp
 obj:=fun i h st b hb=>by
  have e:b=it:=by simpa using hb
  subst e
  obtain ⟨o,e,c,d⟩:=st
  exact ⟨o,e,fun v z=>by rw [d] at z;cases z⟩
 keep:=fun i h h' st k=>st.at fun o e=>k it (by simp) o e
 item:=by
  intro X hP hw hK hc i pins s σ H E I hf st hg
  subst hP hw hK
  obtain ⟨xs,x,hq,hx⟩:=hg
  obtain ⟨its,rv,p,hz⟩:=I.list hq
  obtain ⟨u,hu,ru⟩:=rv.get hx
  obtain ⟨f0,f1,f2,f3,f4,f5⟩:=hf it (by simp)
  refine wpAny_pyNext_list_item st p.isList (x:=u) (by simpa using hu) fun h' st' sb=>?_
  have I1:Inv X pins σ H { s with heap:=h' }:=I.turned (t':=s.toks) (fun b o hb e=>(sb.2 b hb).trans e) f0 f1 f3 f4 f5
  obtain ⟨o,e,c,d⟩:=id st'
  exact ⟨u,rfl,Jp (s:={ s with heap:=h' }) e c d (by decide) ⟨x,H,I1,ru,⟨rfl,fun ys hy=>by rw [I.list_inj hy hq];exact hx⟩,st',fun b hb=>(hf b hb).1⟩⟩
 done:=by
  intro X hP hw hK hc i pins s σ H E I hf st hg
  subst hP hw hK
  obtain ⟨xs,hq,hx⟩:=hg
  obtain ⟨its,rv,p,hz⟩:=I.list hq
  obtain ⟨f0,f1,f2,f3,f4,f5⟩:=hf it (by simp)
  have hl:=rv.length
  exact wpAny_pyNext_list_end (I.ok.hd hc) st p.isList (by simp;omega) fun h' eb=>⟨rfl,I.turned (t':=s.toks) (fun b o hb e=>eb b o hb e) f0 f1 f3 f4 f5⟩
 self:=fun _ _ _ _ _ st h=>wpAny_pyIter_listiter st h
theorem Zmn {P:Program}{w:World}{K:O9}{tg:Expr}(a it:Addr):Fp P w K tg (Go K a) [it] it (fun i h=>h.IsTupleIter it a i) where
 mem:=by simp
 obj:=fun i h st b hb=>by
  have e:b=it:=by simpa using hb
  subst e
  obtain ⟨o,e,c,d⟩:=st
  exact ⟨o,e,fun v z=>by rw [d] at z;cases z⟩
 keep:=fun i h h' st k=>st.at fun o e=>k it (by simp) o e
 item:=by
  intro X hP hw hK hc i pins s σ H E I hf st hg
  subst hP hw hK
  obtain ⟨xs,x,hq,hx⟩:=hg
  obtain ⟨its,rv,p,hz⟩:=I.tuple hq
  obtain ⟨u,hu,ru⟩:=rv.get hx
  obtain ⟨f0,f1,f2,f3,f4,f5⟩:=hf it (by simp)
  refine wpAny_pyNext_tuple_item st (show s.heap.IsTuple a its.toArray from p) (x:=u) (by simpa using hu) fun h' st' sb=>?_
  have I1:Inv X pins σ H { s with heap:=h' }:=I.turned (t':=s.toks) (fun b o hb e=>(sb.2 b hb).trans e) f0 f1 f3 f4 f5
  obtain ⟨o,e,c,d⟩:=id st'
  exact ⟨u,rfl,Jp (s:={ s with heap:=h' }) e c d (by decide) ⟨x,H,I1,ru,⟨rfl,fun ys hy=>by rw [I.tuple_inj hy hq];exact hx⟩,st',fun b hb=>(hf b hb).1⟩⟩
 done:=by
  intro X hP hw hK hc i pins s σ H E I hf st hg
  subst hP hw hK
  obtain ⟨xs,hq,hx⟩:=hg
  obtain ⟨its,rv,p,hz⟩:=I.tuple hq
  obtain ⟨f0,f1,f2,f3,f4,f5⟩:=hf it (by simp)
  have hl:=rv.length
  exact wpAny_pyNext_tuple_end (I.ok.hd hc) st (show s.heap.IsTuple a its.toArray from p) (by simp;omega) fun h' eb=>⟨rfl,I.turned (t':=s.toks) (fun b o hb e=>eb b o hb e) f0 f1 f3 f4 f5⟩
 self:=fun _ _ _ _ _ st h=>wpAny_pyIter_tupleiter st h
theorem Zje {P:Program}{w:World}{K:O9}{tg:Expr}(it:Addr)(lo:Int)(n:Nat):Fp P w K tg (Fx lo n) [it] it (fun i h=>IsRangeIter h it (lo+(i:Nat) * 1) ((n:Int) - (i:Nat)) 1) where
 mem:=by simp
 obj:=fun i h st b hb=>by
  have e:b=it:=by simpa using hb
  subst e
  exact ⟨_,st,fun v z=>by
   have z':Data.fields _=Data.cell v:=z
   cases z'⟩
 keep:=fun i h h' st k=>k it (by simp) _ st
 item:=by
  intro X hP hw hK hc i pins s σ H E I hf st hg
  subst hP hw hK
  obtain ⟨f0,f1,f2,f3,f4,f5⟩:=hf it (by simp)
  have W:=Walks.range (prog:=X.prog) (w:=X.w) (I.ok.hd hc) it lo 1 n
  refine W.item i s _ _ hg st fun v h' tk hv st' kk=>?_
  obtain ⟨t,rfl⟩:=hv
  have I1:Inv X pins σ H { s with heap:=h',toks:=tk }:=I.turned (fun b o hb e=>kk b o (by simpa using hb) e) f0 f1 f3 f4 f5
  refine ⟨_,rfl,Jp (s:={ s with heap:=h',toks:=tk }) (n := "range_iterator") st' rfl rfl (by decide) ⟨.int (lo+i),H,I1,⟨t,?_⟩,⟨rfl,rfl⟩,st',fun b hb=>(hf b hb).1⟩⟩
  rw [Int.mul_one]
 done:=by
  intro X hP hw hK hc i pins s σ H E I hf st hg
  subst hP hw hK
  obtain ⟨f0,f1,f2,f3,f4,f5⟩:=hf it (by simp)
  exact wpAny_pyNext_range_end (I.ok.hd hc) st (by have:n<=i:=hg;omega) fun h' eb=>⟨rfl,I.turned (t':=s.toks) (fun b o hb e=>eb b o hb e) f0 f1 f3 f4 f5⟩
 self:=fun _ _ _ _ _ st h=>wpAny_pyIter_rangeiter st h
section
variable {X:Cx}{tg:Expr}
theorem Zlo {pins:List (Addr×Obj)}{σ:St}{H:Hp}{s:Shared}{R:It->Hp->Prop}{E:Value->Shared->Prop}{lo hi:Int}{t u v:Tok}{tk:Nat}(I:Inv X pins σ H s)(h1:-(2 ^ 62)<=lo)(h2:lo < 2 ^ 62)(h3:-(2 ^ 62)<=hi)(h4:hi < 2 ^ 62)
  (q:R (Fx lo (hi - lo).toNat) H):wpAny (model X.prog X.w) X.A (pyIter (.ref s.heap.objs.size)) (PIE X pins σ tg R) E { s with heap:=s.heap.push { cls:=.type "range",data:=.fields #[.int lo t,.int hi u,.int 1 v] },toks:=tk }:=by
 refine wpAny_pyIter_range (IsRange.new ..) (small_one h1 h2 h3 h4) ?_
 have I1:Inv X pins σ H { s with heap:=s.heap.push { cls:=.type "range",data:=.fields #[.int lo t,.int hi u,.int 1 v] },toks:=tk }:=I.kept fun b o e=>Pk _ e
 refine ⟨(s.heap.push { cls:=.type "range",data:=.fields #[.int lo t,.int hi u,.int 1 v] }).objs.size,[(s.heap.push { cls:=.type "range",data:=.fields #[.int lo t,.int hi u,.int 1 v] }).objs.size],_,_,H,rfl,
  I1.kept (t':=tk) fun b o e=>Pk _ e,Zje _ lo (hi - lo).toNat,?_,fun b hb=>?_,q⟩
 ·have e1:lo+((0:Nat):Int) * 1=lo:=by simp
  have e2:(((hi - lo).toNat:Nat):Int) - ((0:Nat):Int)=Builtin.Range.rangeSize lo hi 1:=by rw [rangeSize_one];split <;> omega
  show IsRangeIter _ _ (lo+((0:Nat):Int) * 1) ((((hi - lo).toNat:Nat):Int) - ((0:Nat):Int)) 1
  rw [e1,e2]
  exact P0 _ rfl
 ·have e:b=(s.heap.push { cls:=.type "range",data:=.fields #[.int lo t,.int hi u,.int 1 v] }).objs.size:=by simpa using hb
  subst e
  exact I1.fpOk (Pc _) (I1.hok.fresh (Pc _))
noncomputable def M6 (ta:TA):TI:=fun σ H R=>ta σ H fun vs H1=>∃ j:Int,vs=[.int j]/\-(2 ^ 62)<=j/\j < 2 ^ 62/\R (Fx 0 j.toNat) H1
theorem Ziy {a:Expr}{ta:TA}{p pos:Pos}(hg:Gl X "range")(hm:X.mg "range" = none)(ha:PA X [a] ta)(hs:starEach [a] X.env=[(false,eval a X.env)]:=by rfl):PI X tg (.Call (.Name "range" p) [a] [] pos) (M6 ta):=by
 intro pins s σ H R I h
 refine Call_ (Dw I hg hm boot_range (Q2 (Ak (ha pos pins s σ H _ I h) fun us s1 zq=>?_) hs rfl))
 obtain ⟨vs,H1,I1,r1,q1⟩:=zq
 obtain ⟨j,e,q1,q2,q⟩:=q1
 subst e
 cases r1 with
 | cons r rr =>
  cases rr
  obtain ⟨t,rfl⟩:=r
  exact call_range_1 (Zlo I1 (by omega) (by omega) q1 q2 (by simpa using q))
noncomputable def Nb (wi:TI)(g:TG)(tb:TS):TS:=fun D σ H=>wi σ H fun J H1=>∃ W:Nat->Nat->St->Hp->Prop,(∃ m,W 0 m σ H1)/\∀ i m σ H,W i m σ H ->
 (J.stop i H/\D.nx σ H)\/(J.go i H/\∃ N:St->Hp->Prop,(∀ σ' H',N σ' H'->∃ m',m' < m/\W (i+1) m' σ' H')/\∀ x H',J.yld i H x H'->g x σ H' fun σ2 H2=>tb { D with nx:=N,ct:=N,bk:=D.nx } σ2 H2)
noncomputable def Hy (fp:List Addr)(h:Heap):List (Addr×Obj):=fp.filterMap fun b=>(h.get? b).map fun o=>(b,o)
theorem Kp {fp:List Addr}{h:Heap}{b:Addr}{o:Obj}(hb:b∈fp)(e:h.get? b=some o):(b,o)∈Hy fp h:=List.mem_filterMap.mpr ⟨b,hb,by rw [e];rfl⟩
theorem Zog {fp:List Addr}{h:Heap}{p:Addr×Obj}(hp:p∈Hy fp h):p.1∈fp/\h.get? p.1=some p.2:=by
 obtain ⟨b,hb,e⟩:=List.mem_filterMap.mp hp
 cases q:h.get? b with
 | none=>rw [q] at e;cases e
 | some o =>
  rw [q] at e
  have e':(b,o)=p:=Po e
  subst e'
  exact ⟨hb,q⟩
theorem Inv.pinned {pins:List (Addr×Obj)}{σ:St}{H:Hp}{s:Shared}{fp:List Addr}(I:Inv X pins σ H s)(hf:∀ b∈fp,FpOk X pins H b)(ho:∀ b∈fp,∃ o,s.heap.get? b=some o/\∀ v,o.data≠.cell v):Inv X (pins++Hy fp s.heap) σ H s :=
 I.pins_of fun p hp=>(Pw.mp hp).elim (fun z=>I.pin p (Qs _ z)) fun z=>by
  obtain ⟨hb,e⟩:=Zog z
  obtain ⟨f0,f1,f2,_⟩:=hf p.1 hb
  obtain ⟨o,e',d⟩:=ho p.1 hb
  rw [e] at e';cases e'
  exact ⟨e,f0,f1,f2,d⟩
theorem Inv.unpinned {pins pl:List (Addr×Obj)}{σ:St}{H:Hp}{s:Shared}(I:Inv X (pins++pl) σ H s):Inv X pins σ H s:=I.pins_of fun p hp=>I.pin p (Qs _ (Rg _ hp))
theorem Zm8 {iter:Expr}{body:List Stmt}{wi:TI}{g:TG}{tb:TS}{pos:Pos}(hp:PassesOwn (model X.prog X.w) X.A X.env X.xe)(hc:X.calm=true)(hi:PI X tg iter wi)(hg:PG X tg g)(hb:PSs X body tb)
  (hs:∀ x,foldedSetIterable iter X.env x=pure x:=by intro _;rfl):PS X (.For tg iter body [] pos) (Nb wi g tb):=by
 intro pins s σ H D I h
 refine wpAny_For (Ak (hi pins s σ H _ I h) fun v s1 h1=>Ak h1 fun itv s2 h2=>?_) hs
 obtain ⟨it,fp,tn,J,H2,e,I2,T,st2,f2,W,⟨m0,w0⟩,turn⟩:=h2
 subst e
 have stat:∀{H':Hp},(∀ b∈fp,H' b=none)->∀ b∈fp,FpOk X pins H' b:=fun hn b hb=>⟨hn b hb,(f2 b hb).2⟩
 refine codeAny_forLoop_any (fun n s'=>∃ i σ' H',Inv X pins σ' H' s'/\tn i s'.heap/\(∀ b∈fp,H' b=none)/\W i n σ' H') ?_ m0 ⟨0,σ,H2,I2,st2,fun b hb=>(f2 b hb).1,w0⟩
 rintro n s3 ⟨i,σ3,H3,I3,st3,fr3,w3⟩
 rcases turn i n σ3 H3 w3 with ⟨stop,qn⟩ | ⟨go,N,hN,step⟩
 ·refine R5 hp (Ak (T.done X rfl rfl rfl hc i pins s3 σ3 H3 X.xe I3 (stat fr3) st3 stop) fun r s4 zq=>?_)
  obtain ⟨hr,I4⟩:=zq
  subst hr
  exact Ux ⟨σ3,H3,I4,qn⟩
 ·refine R5 hp (Ak (T.item X rfl rfl rfl hc i pins s3 σ3 H3 X.xe I3 (stat fr3) st3 go) fun r s4 zq=>?_)
  obtain ⟨u,hr,h4⟩:=zq
  subst hr
  refine R5 hp (Ak h4 fun _ s5 zq=>?_)
  obtain ⟨x,H5,I5,r5,y5,st5,fr5⟩:=zq
  have I5':=I5.pinned (stat fr5) (T.obj _ _ st5)
  refine R5 hp (Ak (hg _ s5 σ3 H5 x u _ I5' r5 (step x H5 y5)) fun _ s6 zq=>?_)
  obtain ⟨σ6,H6,I6,q6⟩:=zq
  refine R5 hp (Ak (hb _ s6 σ6 H6 _ I6 q6) fun f s7 q7=>?_)
  have again:∀{σ7:St}{H7:Hp},Inv X (pins++Hy fp s5.heap) σ7 H7 s7->N σ7 H7->∃ m,m < n/\∃ i σ' H',Inv X pins σ' H' s7/\tn i s7.heap/\(∀ b∈fp,H' b=none)/\W i m σ' H':=fun {σ7 H7} I7 n7=>by
   obtain ⟨m',hm,w7⟩:=hN σ7 H7 n7
   refine ⟨m',hm,i+1,σ7,H7,I7.unpinned,T.keep _ _ _ st5 fun b hb o e=>(I7.pin (b,o) (Qs _ (Qs _ (Kp hb e)))).1,fun b hb=>?_,w7⟩
   obtain ⟨o,e,d⟩:=T.obj _ _ st5 b hb
   exact (I7.pin (b,o) (Qs _ (Qs _ (Kp hb e)))).2.1
  cases f with
  | next=>obtain ⟨σ7,H7,I7,n7⟩:=q7;exact again I7 n7
  | cont=>obtain ⟨σ7,H7,I7,n7⟩:=q7;exact again I7 n7
  | brk=>obtain ⟨σ7,H7,I7,q7⟩:=q7;exact ⟨σ7,H7,I7.unpinned,q7⟩
  | ret v=>obtain ⟨x7,σ7,H7,I7,r7,q7⟩:=q7;exact ⟨x7,σ7,H7,I7.unpinned,r7,q7⟩
end
theorem Ie {K:O9}{a:Addr}{xs:List V}{g:TG}{tb:TS}{D:C0}{σ:St}{H:Hp}(Pv:Nat->St->Hp->Prop)(h0:Pv 0 σ H)(hl:∀ i σ H,i<=xs.length->Pv i σ H->SqL K H a xs)
  (hs:∀ i x σ H,xs[i]?=some x->Pv i σ H->g x σ H fun σ2 H2=>tb { D with nx:=Pv (i+1),ct:=Pv (i+1),bk:=D.nx } σ2 H2) (hd:∀ σ H,Pv xs.length σ H->D.nx σ H) :
  ∃ W:Nat->Nat->St->Hp->Prop,(∃ m,W 0 m σ H)/\∀ i m σ H,W i m σ H ->
   ((Gb K a).stop i H/\D.nx σ H)\/((Gb K a).go i H/\∃ N:St->Hp->Prop,(∀ σ' H',N σ' H'->∃ m',m' < m/\W (i+1) m' σ' H')/\∀ x H',(Gb K a).yld i H x H'->g x σ H' fun σ2 H2=>tb { D with nx:=N,ct:=N,bk:=D.nx } σ2 H2):=by
 refine ⟨fun i m σ H=>m=xs.length - i/\i<=xs.length/\Pv i σ H,⟨xs.length,by simp,P6 _,h0⟩,?_⟩
 rintro i m σ H ⟨rfl,hi,p⟩
 have q:=hl i σ H hi p
 by_cases hlt:i < xs.length
 ·refine .inr ⟨⟨xs,xs[i],q,by simp [hlt]⟩,Pv (i+1),fun σ' H' p'=>⟨xs.length - (i+1),by omega,rfl,hlt,p'⟩,fun x H' y=>?_⟩
  obtain ⟨e,y⟩:=y
  subst e
  exact hs i x σ _ (y xs q) p
 ·have e:i=xs.length:=by omega
  subst e
  exact .inl ⟨⟨xs,q,Pc _⟩,hd σ H p⟩
theorem Zct {K:O9}{a:Addr}{xs:List V}{g:TG}{tb:TS}{D:C0}{σ:St}{H:Hp}(Pv:Nat->St->Hp->Prop)(h0:Pv 0 σ H)(hl:∀ i σ H,i<=xs.length->Pv i σ H->SqT K H a xs)
  (hs:∀ i x σ H,xs[i]?=some x->Pv i σ H->g x σ H fun σ2 H2=>tb { D with nx:=Pv (i+1),ct:=Pv (i+1),bk:=D.nx } σ2 H2) (hd:∀ σ H,Pv xs.length σ H->D.nx σ H) :
  ∃ W:Nat->Nat->St->Hp->Prop,(∃ m,W 0 m σ H)/\∀ i m σ H,W i m σ H ->
   ((Go K a).stop i H/\D.nx σ H)\/((Go K a).go i H/\∃ N:St->Hp->Prop,(∀ σ' H',N σ' H'->∃ m',m' < m/\W (i+1) m' σ' H')/\∀ x H',(Go K a).yld i H x H'->g x σ H' fun σ2 H2=>tb { D with nx:=N,ct:=N,bk:=D.nx } σ2 H2):=by
 refine ⟨fun i m σ H=>m=xs.length - i/\i<=xs.length/\Pv i σ H,⟨xs.length,by simp,P6 _,h0⟩,?_⟩
 rintro i m σ H ⟨rfl,hi,p⟩
 have q:=hl i σ H hi p
 by_cases hlt:i < xs.length
 ·refine .inr ⟨⟨xs,xs[i],q,by simp [hlt]⟩,Pv (i+1),fun σ' H' p'=>⟨xs.length - (i+1),by omega,rfl,hlt,p'⟩,fun x H' y=>?_⟩
  obtain ⟨e,y⟩:=y
  subst e
  exact hs i x σ _ (y xs q) p
 ·have e:i=xs.length:=by omega
  subst e
  exact .inl ⟨⟨xs,q,Pc _⟩,hd σ H p⟩
theorem Jk {lo:Int}{n:Nat}{g:TG}{tb:TS}{D:C0}{σ:St}{H:Hp}(Pv:Nat->St->Hp->Prop)(h0:Pv 0 σ H)
  (hs:∀ i σ H,i < n->Pv i σ H->g (.int (lo+i)) σ H fun σ2 H2=>tb { D with nx:=Pv (i+1),ct:=Pv (i+1),bk:=D.nx } σ2 H2) (hd:∀ σ H,Pv n σ H->D.nx σ H) :
  ∃ W:Nat->Nat->St->Hp->Prop,(∃ m,W 0 m σ H)/\∀ i m σ H,W i m σ H ->
   ((Fx lo n).stop i H/\D.nx σ H)\/((Fx lo n).go i H/\∃ N:St->Hp->Prop,(∀ σ' H',N σ' H'->∃ m',m' < m/\W (i+1) m' σ' H')/\∀ x H',(Fx lo n).yld i H x H'->g x σ H' fun σ2 H2=>tb { D with nx:=N,ct:=N,bk:=D.nx } σ2 H2):=by
 refine ⟨fun i m σ H=>m=n - i/\i<=n/\Pv i σ H,⟨n,by simp,P6 _,h0⟩,?_⟩
 rintro i m σ H ⟨rfl,hi,p⟩
 by_cases hlt:i < n
 ·refine .inr ⟨hlt,Pv (i+1),fun σ' H' p'=>⟨n - (i+1),by omega,rfl,hlt,p'⟩,fun x H' y=>?_⟩
  obtain ⟨e,y⟩:=y
  subst e y
  exact hs i σ _ hlt p
 ·have e:i=n:=by omega
  subst e
  exact .inl ⟨Pc _,hd σ H p⟩
noncomputable abbrev R2:=V->V->Hp->VK->Prop
noncomputable def OpR (X:Cx)(f:Value->Value->Sem Value)(r:R2):Prop :=
 ∀(pins:List (Addr×Obj))(s:Shared)(σ:St)(H:Hp)(x y:V)(v u:Value)(Q:VK),Inv X pins σ H s->RelV x v->RelV y u->r x y H Q ->
  wpAny (model X.prog X.w) X.A (f v u) (EP X pins σ Q) X.xe s
noncomputable def UnR (X:Cx)(f:Value->Sem Value)(r:V->Hp->VK->Prop):Prop :=
 ∀(pins:List (Addr×Obj))(s:Shared)(σ:St)(H:Hp)(x:V)(v:Value)(Q:VK),Inv X pins σ H s->RelV x v->r x H Q ->
  wpAny (model X.prog X.w) X.A (f v) (EP X pins σ Q) X.xe s
noncomputable def C3 (X:Cx)(f:Value)(r:List V->Hp->VK->Prop):Prop :=
 ∀(pins:List (Addr×Obj))(s:Shared)(σ:St)(H:Hp)(xs:List V)(us:List Value)(Q:VK),Inv X pins σ H s->Vals xs us->r xs H Q ->
  wpAny (model X.prog X.w) X.A (call f us) (EP X pins σ Q) X.xe s
noncomputable def TruR (X:Cx)(r:V->Hp->(Bool->Hp->Prop)->Prop):Prop :=
 ∀(pins:List (Addr×Obj))(s:Shared)(σ:St)(H:Hp)(x:V)(v:Value)(Q:Bool->Hp->Prop),Inv X pins σ H s->RelV x v->r x H Q ->
  wpAny (model X.prog X.w) X.A (truthy v) (TP X pins σ Q) X.xe s
noncomputable def E3 (r:R2)(ta tb:TE):TE:=fun σ H Q=>ta σ H fun x H1=>tb σ H1 fun y H2=>r x y H2 Q
noncomputable def tUn (r:V->Hp->VK->Prop)(ta:TE):TE:=fun σ H Q=>ta σ H fun x H1=>r x H1 Q
noncomputable def rI (C:Int->Int->Prop)(g:Int->Int->V):R2:=fun x y H Q=>∃ i j,x=.int i/\y=.int j/\C i j/\Q (g i j) H
noncomputable def En (g:Int->Int->V):R2:=fun x y H Q=>∃ i j,x=.int i/\y=.int j/\Q (g i j) H
noncomputable def rU (g:Int->V):V->Hp->VK->Prop:=fun x H Q=>∃ i,x=.int i/\Q (g i) H
section
variable {X:Cx}{a b c:Expr}{ta tb tc:TE}{pos:Pos}
theorem Nt (ha:PE X a ta)(hb:PE X b tb){pins:List (Addr×Obj)}{s:Shared}{σ:St}{H:Hp}{R:V->V->Hp->Prop}(I:Inv X pins σ H s)
  (h:ta σ H fun x H1=>tb σ H1 fun y H2=>R x y H2) {Q:Value->Shared->Prop} {f:Value->Value->Sem Value}
  (hf:∀ v u s2 x y H2,Inv X pins σ H2 s2->RelV x v->RelV y u->R x y H2->wpAny (model X.prog X.w) X.A (f v u) Q X.xe s2) :
  wpAny (model X.prog X.w) X.A (eval a X.env) (fun v s₁=>wpAny (model X.prog X.w) X.A (eval b X.env) (fun u s₂=>wpAny (model X.prog X.w) X.A (f v u) Q X.xe s₂) X.xe s₁) X.xe s:=by
 refine Ak (ha pins s σ H _ I h) fun v s1 zq=>?_
 obtain ⟨x,H1,I1,r1,q1⟩:=zq
 refine Ak (hb pins s1 σ H1 _ I1 q1) fun u s2 zq=>?_
 obtain ⟨y,H2,I2,r2,q2⟩:=zq
 exact hf v u s2 x y H2 I2 r1 r2 q2
theorem Znu {op:Operator}{r:R2}(ho:OpR X (binaryOp op) r)(ha:PE X a ta)(hb:PE X b tb):PE X (.BinOp a op b pos) (E3 r ta tb):=by
 intro pins s σ H Q I h
 exact wpAny_BinOp (Nt ha hb I h fun v u s2 x y H2 I2 rx ry q=>ho pins s2 σ H2 x y v u Q I2 rx ry q)
theorem Znn {op:UnaryOp}{r:V->Hp->VK->Prop}(ho:UnR X (unaryOp op) r)(ha:PE X a ta):PE X (.UnaryOp op a pos) (tUn r ta):=by
 intro pins s σ H Q I h
 exact UnaryOp_ (Ak (ha pins s σ H _ I h) fun v s1 ⟨x,H1,I1,r1,q1⟩=>ho pins s1 σ H1 x v Q I1 r1 q1)
theorem opI {f:Value->Value->Sem Value}{C:Int->Int->Prop}{g:Int->Int->Int}
  (rule:∀(i j:Int)(t u:Tok)(s:Shared)(Q:Value->Shared->Prop)(E:Value->Shared->Prop),C i j->Q (.int (g i j) s.toks) { s with toks:=s.toks+1 }->wpAny (model X.prog X.w) X.A (f (.int i t) (.int j u)) Q E s) :
  OpR X f (rI C fun i j=>.int (g i j)):=by
 intro pins s σ H x y v u Q I rx ry h
 obtain ⟨i,j,rfl,rfl,hc,q⟩:=h
 obtain ⟨t,rfl⟩:=rx
 obtain ⟨t',rfl⟩:=ry
 exact rule i j t t' s _ _ hc ⟨.int (g i j),H,I.tok _,⟨_,rfl⟩,q⟩
theorem opI0 {f:Value->Value->Sem Value}{g:Int->Int->Int}
  (rule:∀(i j:Int)(t u:Tok)(s:Shared)(Q:Value->Shared->Prop)(E:Value->Shared->Prop),Q (.int (g i j) s.toks) { s with toks:=s.toks+1 }->wpAny (model X.prog X.w) X.A (f (.int i t) (.int j u)) Q E s) :
  OpR X f (En fun i j=>.int (g i j)):=by
 intro pins s σ H x y v u Q I rx ry h
 obtain ⟨i,j,rfl,rfl,q⟩:=h
 obtain ⟨t,rfl⟩:=rx
 obtain ⟨t',rfl⟩:=ry
 exact rule i j t t' s _ _ ⟨.int (g i j),H,I.tok _,⟨_,rfl⟩,q⟩
theorem N6 {f:Value->Value->Sem Value}{g:Int->Int->Bool}
  (rule:∀(i j:Int)(t u:Tok)(s:Shared)(Q:Value->Shared->Prop)(E:Value->Shared->Prop),Q (.bool (g i j)) s->wpAny (model X.prog X.w) X.A (f (.int i t) (.int j u)) Q E s) :
  OpR X f (En fun i j=>.bl (g i j)):=by
 intro pins s σ H x y v u Q I rx ry h
 obtain ⟨i,j,rfl,rfl,q⟩:=h
 obtain ⟨t,rfl⟩:=rx
 obtain ⟨t',rfl⟩:=ry
 exact rule i j t t' s _ _ ⟨.bl (g i j),H,I,rfl,q⟩
noncomputable def CDiv (i j:Int):Prop:=0 < j/\j < 1073741824
noncomputable def CPow (i j:Int):Prop:=0<=j/\j<=1000000/\i.natAbs < 2 ^ 64
noncomputable def CMul (i j:Int):Prop:=(-(2 ^ 64) < i/\i < 2 ^ 64)\/(-(2 ^ 64) < j/\j < 2 ^ 64)
theorem CMul.ok {i j:Int}(h:CMul i j):IntMulOk i j:=by
 rcases h with ⟨h1,h2⟩ | ⟨h1,h2⟩
 ·exact .of_left (intBits_le_64 h1 h2)
 ·exact .of_right (intBits_le_64 h1 h2)
theorem op_add:OpR X (binaryOp .Add) (En fun i j=>.int (i+j)):=opI0 fun _ _ _ _ _ _ _ q=>add_int q
theorem Ou:OpR X (binaryOp .Sub) (En fun i j=>.int (i - j)):=opI0 fun _ _ _ _ _ _ _ q=>sub_int q
theorem op_mul:OpR X (binaryOp .Mult) (rI CMul fun i j=>.int (i * j)):=opI fun _ _ _ _ _ _ _ hc q=>mul_int q hc.ok
theorem Eh:OpR X (binaryOp .FloorDiv) (rI CDiv fun i j=>.int (i / j)):=opI fun i j _ _ _ _ _ hc q=>by
 have h1:(0:Int) < j:=hc.1
 have h2:j < 1073741824:=hc.2
 exact floordiv_int (by omega) (by rw [Int.fdiv_eq_ediv_of_nonneg i (by omega)];exact q) (.inl (PyProof.noPylong_small (by omega)))
theorem Cf:OpR X (binaryOp .Mod) (rI (fun _ j=>0 < j) fun i j=>.int (i % j)):=opI fun i j _ _ _ _ _ hc q=>by
 have h1:(0:Int) < j:=hc
 exact mod_int' (by omega) (by rw [Int.fmod_eq_emod_of_nonneg i (by omega)];exact q)
theorem Zhe:OpR X (binaryOp .Pow) (rI CPow fun i j=>.int (i ^ j.toNat)):=opI fun _ _ _ _ _ _ _ hc q=>pow_int_small hc.1 hc.2.1 hc.2.2 q
theorem unI {f:Value->Sem Value}{g:Int->Int}
  (rule:∀(i:Int)(t:Tok)(s:Shared)(Q:Value->Shared->Prop)(E:Value->Shared->Prop),Q (.int (g i) s.toks) { s with toks:=s.toks+1 }->wpAny (model X.prog X.w) X.A (f (.int i t)) Q E s) :
  UnR X f (rU fun i=>.int (g i)):=by
 intro pins s σ H x v Q I rx h
 obtain ⟨i,rfl,q⟩:=h
 obtain ⟨t,rfl⟩:=rx
 exact rule i t s _ _ ⟨.int (g i),H,I.tok _,⟨_,rfl⟩,q⟩
theorem Kc:UnR X (unaryOp .USub) (rU fun i=>.int (-i)):=unI fun _ _ _ _ _ q=>neg_int q
end
noncomputable def Jb:V->V->Bool
 | .non,.non=>true | .non,.int _=>true | .int _,.non=>true | .non,.bl _=>true | .bl _,.non=>true | .non,.str _=>true | .str _,.non=>true
 | .int _,.int _=>true | .bl _,.bl _=>true | .str _,.str _=>true | .byt _,.byt _=>true
 | .int _,.str _=>true | .str _,.int _=>true | .bl _,.str _=>true | .str _,.bl _=>true
 | _,_=>false
noncomputable def rEq:R2:=fun x y H Q=>Jb x y=true/\Q (.bl (decide (x=y))) H
noncomputable def rNe:R2:=fun x y H Q=>Jb x y=true/\Q (.bl (!decide (x=y))) H
theorem Zcu {i j:Int}:decide (V.int i=V.int j)=(i == j):=by
 rw [Rt]
 simp
theorem Zcg {i j:Bool}:decide (V.bl i=V.bl j)=(i == j):=by
 rw [Rt]
 simp
theorem Gg {i j:Str}:decide (V.str i=V.str j)=(i == j):=by
 rw [Rt]
 simp
theorem Zfc {i j:Array UInt8}:decide (V.byt i=V.byt j)=(i.toList == j.toList):=by
 rw [Rt]
 cases i
 cases j
 simp
section
variable {X:Cx}{a b c:Expr}{ta tb tc:TE}{pos:Pos}
theorem Bw {pins:List (Addr×Obj)}{σ:St}{H:Hp}{s:Shared}{Q:VK}{k k':Bool}(I:Inv X pins σ H s)(q:Q (.bl k) H)(e:k=k'):EP X pins σ Q (.bool k') s:=by
 subst e
 exact ⟨.bl k,H,I,rfl,q⟩
theorem op_eq:OpR X (compareOp .Eq) rEq:=by
 intro pins s σ H x y v u Q I rx ry h
 obtain ⟨hs,q⟩:=h
 cases x with
 | non =>
  cases rx
  cases y with
  | non=>cases ry;exact PySem.EqNone.eq_none_none (Bw I q (by simp))
  | bl j=>cases ry;exact PySem.EqNone.eq_none_bool (Bw I q (by simp))
  | int j=>obtain ⟨t',rfl⟩:=ry;exact PySem.EqNone.eq_none_int (Bw I q (by simp))
  | str j=>obtain ⟨t',rfl⟩:=ry;exact PySem.EqNone.eq_none_str (Bw I q (by simp))
  | _=>exact absurd (show false=true from hs) Pp
 | bl i =>
  cases rx
  cases y with
  | non=>cases ry;exact PySem.EqNone.eq_bool_none (Bw I q (by simp))
  | bl j=>cases ry;exact eq_bool (Bw I q Zcg)
  | str j=>obtain ⟨t',rfl⟩:=ry;exact PySem.EqMixed.eq_bool_str (Bw I q (by simp))
  | _=>exact absurd (show false=true from hs) Pp
 | int i =>
  obtain ⟨t,rfl⟩:=rx
  cases y with
  | non=>cases ry;exact PySem.EqNone.eq_int_none (Bw I q (by simp))
  | int j=>obtain ⟨t',rfl⟩:=ry;exact eq_int (Bw I q Zcu)
  | str j=>obtain ⟨t',rfl⟩:=ry;exact PySem.EqMixed.eq_int_str (Bw I q (by simp))
  | _=>exact absurd (show false=true from hs) Pp
 | str i =>
  obtain ⟨t,rfl⟩:=rx
  cases y with
  | non=>cases ry;exact PySem.EqNone.eq_str_none (Bw I q (by simp))
  | bl j=>cases ry;exact PySem.EqMixed.eq_str_bool (Bw I q (by simp))
  | int j=>obtain ⟨t',rfl⟩:=ry;exact PySem.EqMixed.eq_str_int (Bw I q (by simp))
  | str j=>obtain ⟨t',rfl⟩:=ry;exact eq_str (Bw I q Gg)
  | _=>exact absurd (show false=true from hs) Pp
 | byt i =>
  obtain ⟨t,rfl⟩:=rx
  cases y with
  | byt j=>obtain ⟨t',rfl⟩:=ry;exact PySem.W.eq_bytes (Bw I q Zfc)
  | _=>exact absurd (show false=true from hs) Pp
 | _=>cases y <;> exact absurd (show false=true from hs) Pp
theorem op_ne:OpR X (compareOp .NotEq) rNe:=by
 intro pins s σ H x y v u Q I rx ry h
 obtain ⟨hs,q⟩:=h
 cases x with
 | non =>
  cases rx
  cases y with
  | non=>cases ry;exact PySem.EqNone.ne_none_none (Bw I q (by simp))
  | bl j=>cases ry;exact PySem.EqNone.ne_none_bool (Bw I q (by simp))
  | int j=>obtain ⟨t',rfl⟩:=ry;exact PySem.EqNone.ne_none_int (Bw I q (by simp))
  | str j=>obtain ⟨t',rfl⟩:=ry;exact PySem.EqNone.ne_none_str (Bw I q (by simp))
  | _=>exact absurd (show false=true from hs) Pp
 | bl i =>
  cases rx
  cases y with
  | non=>cases ry;exact PySem.EqNone.ne_bool_none (Bw I q (by simp))
  | bl j=>cases ry;exact ne_bool (Bw I q (congrArg not Zcg))
  | str j=>obtain ⟨t',rfl⟩:=ry;exact PySem.EqMixed.ne_bool_str (Bw I q (by simp))
  | _=>exact absurd (show false=true from hs) Pp
 | int i =>
  obtain ⟨t,rfl⟩:=rx
  cases y with
  | non=>cases ry;exact PySem.EqNone.ne_int_none (Bw I q (by simp))
  | int j=>obtain ⟨t',rfl⟩:=ry;exact ne_int (Bw I q (congrArg not Zcu))
  | str j=>obtain ⟨t',rfl⟩:=ry;exact PySem.EqMixed.ne_int_str (Bw I q (by simp))
  | _=>exact absurd (show false=true from hs) Pp
 | str i =>
  obtain ⟨t,rfl⟩:=rx
  cases y with
  | non=>cases ry;exact PySem.EqNone.ne_str_none (Bw I q (by simp))
  | bl j=>cases ry;exact PySem.EqMixed.ne_str_bool (Bw I q (by simp))
  | int j=>obtain ⟨t',rfl⟩:=ry;exact PySem.EqMixed.ne_str_int (Bw I q (by simp))
  | str j=>obtain ⟨t',rfl⟩:=ry;exact ne_str (Bw I q (congrArg not Gg))
  | _=>exact absurd (show false=true from hs) Pp
 | byt i =>
  obtain ⟨t,rfl⟩:=rx
  cases y with
  | byt j=>obtain ⟨t',rfl⟩:=ry;exact PySem.W.ne_bytes (Bw I q (congrArg not Zfc))
  | _=>exact absurd (show false=true from hs) Pp
 | _=>cases y <;> exact absurd (show false=true from hs) Pp
theorem op_lt:OpR X (compareOp .Lt) (En fun i j=>.bl (decide (i < j))):=N6 fun _ _ _ _ _ _ _ q=>lt_int q
theorem op_le:OpR X (compareOp .LtE) (En fun i j=>.bl (decide (i<=j))):=N6 fun _ _ _ _ _ _ _ q=>le_int q
theorem Zbm:OpR X (compareOp .Gt) (En fun i j=>.bl (decide (j < i))):=N6 fun _ _ _ _ _ _ _ q=>gt_int q
theorem Ziw:OpR X (compareOp .Lt) (fun x y H Q=>∃ i j,x=.str i/\y=.str j/\Q (.bl (decide (i.cps.toList < j.cps.toList))) H):=by
 intro pins s σ H x y v u Q I rx ry h
 obtain ⟨i,j,rfl,rfl,q⟩:=h
 obtain ⟨t,rfl⟩:=rx
 obtain ⟨t',rfl⟩:=ry
 exact lt_str (Bw I q rfl)
theorem Zjo:OpR X (compareOp .In) (fun x y H Q=>∃ i j,x=.str i/\y=.str j/\Q (.bl (!(Builtin.Str.occurrences j i 0 j.length 1).isEmpty)) H):=by
 intro pins s σ H x y v u Q I rx ry h
 obtain ⟨i,j,rfl,rfl,q⟩:=h
 obtain ⟨t,rfl⟩:=rx
 obtain ⟨t',rfl⟩:=ry
 exact in_str (Bw I q rfl)
theorem OpR.or {f:Value->Value->Sem Value}{r r':R2}(h:OpR X f r)(h':OpR X f r'):OpR X f (fun x y H Q=>r x y H Q\/r' x y H Q):=by
 intro pins s σ H x y v u Q I rx ry q
 rcases q with q | q
 ·exact h pins s σ H x y v u Q I rx ry q
 ·exact h' pins s σ H x y v u Q I rx ry q
theorem A7 (b:Expr){op:CmpOp}(h:op≠.In:=by decide)(h2:op≠.NotIn:=by decide):behindInMarks op b=false:=by
 have e1:(op == CmpOp.In)=false:=by cases op <;> first | rfl | exact absurd rfl h
 have e2:(op == CmpOp.NotIn)=false:=by cases op <;> first | rfl | exact absurd rfl h2
 cases b <;> simp [behindInMarks,e1,e2]
theorem Znc {op:CmpOp}{r:R2}(ho:OpR X (compareOp op) r)(ha:PE X a ta)(hb:PE X b tb)(hm:behindInMarks op b=false):PE X (.Compare a [op] [b] pos) (E3 r ta tb):=by
 intro pins s σ H Q I h
 exact wpAny_Compare1 (Nt ha hb I h fun v u s2 x y H2 I2 rx ry q=>ho pins s2 σ H2 x y v u Q I2 rx ry q) hm
noncomputable def Zae (t:TE):TT:=fun σ H Q=>t σ H fun x H'=>∃ k,x=.bl k/\Q k H'
theorem Zku {op:CmpOp}{r:R2}(ho:OpR X (compareOp op) r)(ha:PE X a ta)(hb:PE X b tb)(hm:behindInMarks op b=false):PT X (.Compare a [op] [b] pos) (Zae (E3 r ta tb)):=by
 intro pins s σ H Q I h
 refine wpAny_isTrue_Compare1 (Ak (ha pins s σ H _ I h) fun v s1 ⟨x,H1,I1,r1,q1⟩=>Ak (hb pins s1 σ H1 _ I1 q1) fun u s2 ⟨y,H2,I2,r2,q2⟩ =>
  Ak (ho pins s2 σ H2 x y v u _ I2 r1 r2 q2) fun c s3 ⟨z,H3,I3,r3,k,e,q3⟩=>?_) hm
 subst e
 cases r3
 exact R4 ⟨H3,I3,q3⟩
noncomputable def Nz (r r':R2)(ta tb tc:TE):TE:=fun σ H Q=>ta σ H fun x H1=>tb σ H1 fun y H2=>r x y H2 fun z H3=>∃ k,z=.bl k /\
 (if k=true then tc σ H3 fun w' H4=>r' y w' H4 Q else Q (.bl false) H3)
theorem Zlw {op op':CmpOp}{r r':R2}(ho:OpR X (compareOp op) r)(ho':OpR X (compareOp op') r')(ha:PE X a ta)(hb:PE X b tb)(hc:PE X c tc)
  (hm:lastMarks [op,op'] [b,c]=false:=by with_unfolding_all rfl):PE X (.Compare a [op,op'] [b,c] pos) (Nz r r' ta tb tc):=by
 intro pins s σ H Q I h
 refine Compare_chain (Ak (ha pins s σ H _ I h) fun v s1 ⟨x,H1,I1,r1,q1⟩=>chain_link (Ak (hb pins s1 σ H1 _ I1 q1) fun u s2 ⟨y,H2,I2,r2,q2⟩ =>
  Ak (ho pins s2 σ H2 x y v u _ I2 r1 r2 q2) fun d s3 ⟨z,H3,I3,r3,k,e,q3⟩=>?_)) hm
 subst e
 cases r3
 refine R4 ?_
 cases k with
 | false=>exact ite_ff ⟨.bl false,H3,I3,rfl,q3⟩
 | true=>exact ite_tt (chain_last (Ak (hc pins s3 σ H3 _ I3 q3) fun w' s4 ⟨z',H4,I4,r4,q4⟩=>ho' pins s4 σ H4 y z' u w' Q I4 r2 r4 q4))
noncomputable def Ka (K:O9)(x:V)(H:Hp)(k:Bool):Prop :=
 match x with
 | .non=>k=false
 | .bl b=>k=b
 | .int i=>k=(i != 0)
 | .str y=>y.length<=sizeLine/\k=((y.length:Int) != 0)
 | .byt y=>y.size<=sizeLine/\k=((y.size:Int) != 0)
 | .ref p=>(∃ xs,SqL K H p xs/\k=!xs.isEmpty)\/(∃ xs,SqT K H p xs/\k=!xs.isEmpty)\/∃ kvs,H p=some (.dK kvs)/\k=!kvs.isEmpty
 | _=>False
theorem Zgs {κ:Type}{kvs:List (κ×V)}{vs:List (κ×Value)}(r:KV kvs vs):(!vs.isEmpty)=!kvs.isEmpty:=by
 cases r <;> rfl
theorem Zfv {xs:List V}{its:List Value}(r:Vals xs its):(!its.toArray.isEmpty)=!xs.isEmpty:=by
 cases r <;> simp
theorem Hn:(sizeLine:Nat) < 2 ^ 63:=by rw [sizeLine_eq];decide
theorem Zk6:TruR X (fun x H Q=>∃ k,Ka X.K x H k/\Q k H):=by
 intro pins s σ H x v Q I rx h
 obtain ⟨k,e,q⟩:=h
 have hl:=Hn
 have hs:sizeLine=16777216:=sizeLine_eq
 cases x with
 | non =>
  cases rx
  have e':k=false:=e
  subst e'
  exact truthy_none ⟨H,I,q⟩
 | bl b =>
  cases rx
  have e':k=b:=e
  subst e'
  exact R4 ⟨H,I,q⟩
 | int i =>
  obtain ⟨t,rfl⟩:=rx
  have e':k=(i != 0):=e
  subst e'
  exact PySem.P.truthy_int ⟨H,I,q⟩
 | str y =>
  obtain ⟨t,rfl⟩:=rx
  obtain ⟨hy,e'⟩:y.length<=sizeLine/\k=((y.length:Int) != 0):=e
  subst e'
  exact PySem.P.truthy_str (by omega) ⟨H,I.tok _,q⟩
 | byt y =>
  obtain ⟨t,rfl⟩:=rx
  obtain ⟨hy,e'⟩:y.size<=sizeLine/\k=((y.size:Int) != 0):=e
  subst e'
  exact PySem.W.truthy_bytes (by omega) ⟨H,I.tok _,q⟩
 | ref p =>
  cases rx
  have e':(∃ xs,SqL X.K H p xs/\k=!xs.isEmpty)\/(∃ xs,SqT X.K H p xs/\k=!xs.isEmpty)\/∃ kvs,H p=some (.dK kvs)/\k=!kvs.isEmpty:=e
  rcases e' with ⟨xs,hx,e'⟩ | ⟨xs,hx,e'⟩ | ⟨kvs,hx,e'⟩
  ·subst e'
   obtain ⟨its,r,pl,hz⟩:=I.list hx
   have hlen:=r.length
   exact wpAny_truthy_list pl.isList (by simp only [Pf];omega) ⟨H,I.tok _,by rw [Zfv r];exact q⟩
  ·subst e'
   obtain ⟨its,r,pl,hz⟩:=I.tuple hx
   have hlen:=r.length
   exact truthy_tuple pl (by simp only [Pf];omega) ⟨H,I.tok _,by rw [Zfv r];exact q⟩
  ·subst e'
   obtain ⟨hz,hS,vs,r,m⟩:kvs.length<=sizeLine/\(p == sysModules)=false/\∃ vs,KV kvs vs/\s.heap.DictOf (Cr X.prog X.w) p vs:=I.hok p _ hx
   have hlen:kvs.length=vs.length:=T8 r
   exact wpAny_truthy_dict hS m (by omega) ⟨H,I.tok _,by rw [Zgs r];exact q⟩
 | _=>exact (show False from e).elim
theorem Zih (ha:PE X a ta)(he:∀ whole,isTrue a X.env whole=(do let v <- whole;standAt a.pos;holding [v] (truthy v))) :
  PT X a (fun σ H Q=>ta σ H fun x H'=>∃ k,Ka X.K x H' k/\Q k H'):=by
 intro pins s σ H Q I h
 exact isTrue_plain (Ak (ha pins s σ H _ I h) fun v s1 ⟨x,H1,I1,r1,q1⟩=>Zk6 pins s1 σ H1 x v Q I1 r1 q1) (he _)
theorem op_add_str:OpR X (binaryOp .Add) (fun x y H Q=>∃ i j,x=.str i/\y=.str j/\i.length+j.length<=sizeLine/\Q (.str (i++j)) H):=by
 intro pins s σ H x y v u Q I rx ry h
 obtain ⟨i,j,rfl,rfl,hz,q⟩:=h
 obtain ⟨t,rfl⟩:=rx
 obtain ⟨t',rfl⟩:=ry
 exact add_str (fun t' tk=>⟨.str (i++j),H,I.tok _,⟨_,rfl⟩,q⟩) hz
theorem Je {x:V}{us:List Value}(r:Vals [x] us):∃ u,us=[u]/\RelV x u:=by
 cases r with
 | cons r1 r2=>cases r2;exact ⟨_,rfl,r1⟩
theorem Zjl:C3 X (.type "int") (fun xs H Q=>(∃ i,xs=[.int i]/\Q (.int i) H)\/∃ k,xs=[.bl k]/\Q (.int (if k then 1 else 0)) H):=by
 intro pins s σ H xs us Q I r h
 rcases h with ⟨i,rfl,q⟩ | ⟨k,rfl,q⟩
 ·obtain ⟨u,rfl,t,rfl⟩:=Je r
  exact call_int_int ⟨.int i,H,I,⟨_,rfl⟩,q⟩
 ·obtain ⟨u,rfl,r1⟩:=Je r
  cases r1
  exact call_int_bool ⟨.int (if k then 1 else 0),H,I.tok _,⟨_,rfl⟩,q⟩
noncomputable def LenV (K:O9)(x:V)(H:Hp)(n:Nat):Prop :=
 match x with
 | .str y=>y.length<=sizeLine/\n=y.length
 | .byt y=>y.size<=sizeLine/\n=y.size
 | .ref p=>(∃ xs,SqL K H p xs/\n=xs.length)\/∃ xs,SqT K H p xs/\n=xs.length
 | _=>False
theorem Zqj:C3 X (.builtin "len") (fun xs H Q=>∃ x n,xs=[x]/\LenV X.K x H n/\Q (.int n) H):=by
 intro pins s σ H xs us Q I r h
 obtain ⟨x,n,rfl,e,q⟩:=h
 obtain ⟨u,rfl,rx⟩:=Je r
 have hl:=Hn
 have hs:sizeLine=16777216:=sizeLine_eq
 cases x with
 | str y =>
  obtain ⟨t,rfl⟩:=rx
  obtain ⟨hy,e'⟩:y.length<=sizeLine/\n=y.length:=e
  subst e'
  exact len_str (by omega) ⟨.int _,H,I.tok _,⟨_,rfl⟩,q⟩
 | byt y =>
  obtain ⟨t,rfl⟩:=rx
  obtain ⟨hy,e'⟩:y.size<=sizeLine/\n=y.size:=e
  subst e'
  exact PySem.W.len_bytes (by omega) ⟨.int _,H,I.tok _,⟨_,rfl⟩,q⟩
 | ref p =>
  cases rx
  have e':(∃ xs,SqL X.K H p xs/\n=xs.length)\/∃ xs,SqT X.K H p xs/\n=xs.length:=e
  rcases e' with ⟨xs,hx,e'⟩ | ⟨xs,hx,e'⟩
  ·subst e'
   obtain ⟨its,r',pl,hz⟩:=I.list hx
   have hlen:=r'.length
   exact Calls.call_len_list pl.isList (by simp only [Pf];omega) ⟨.int xs.length,H,I.tok _,⟨_,by simp only [Pf];rw [hlen]⟩,q⟩
  ·subst e'
   obtain ⟨its,r',pl,hz⟩:=I.tuple hx
   have hlen:=r'.length
   exact len_tuple pl (by simp only [Pf];omega) ⟨.int xs.length,H,I.tok _,⟨_,by simp only [Pf];rw [hlen]⟩,q⟩
 | _=>exact (show False from e).elim
end
structure ObjM (h:Heap)(x dx C:Addr)(mA:Str->Option Value):Prop where
 obj:h.get? x=some (Wb C dx)
 ns:h.Ns1 dx mA
 ne:dx≠x
theorem Zqm {h:Heap}{dx:Addr}{mA:Str->Option Value}(n:h.Ns1 dx mA):∃ od,h.get? dx=some od/\∀ name,PySem.W.lookIn name od=some (mA name):=by
 obtain ⟨o,es,ep,ho,hd,hk,_,hm⟩:=n
 refine ⟨o,ho,fun name=>?_⟩
 have e:=hm name
 unfold nsFind findBy at e
 rw [<- Array.find?_toList] at e
 unfold PySem.W.lookIn
 rw [hd]
 dsimp only
 split
 ·rename_i y q
  rw [q] at e
  exact congrArg some e
 ·rename_i q
  rw [q] at e
  have a:es.toList.any (·.refKey)=false:=by
   rw [List.any_eq_false]
   intro y hy
   obtain ⟨z,t,hkey⟩:=hk y (Array.mem_toList_iff.mp hy)
   simp [DictEntry.refKey,hkey]
  have a':¬ es.toList.any (·.refKey)=true:=by rw [a];exact Pp
  rw [if_neg a']
  exact congrArg some e
theorem ObjM.look {h:Heap}{x dx C:Addr}{mA:Str->Option Value}(I:ObjM h x dx C mA):∃ od,PySem.W.InstAt h x (Wb C dx) C (some od)/\∀ name,PySem.W.lookIn name od=some (mA name) :=
 let ⟨od,ho,hl⟩:=Zqm I.ns
 ⟨od,⟨I.obj,rfl,rfl,ho⟩,hl⟩
section
variable {prog:Program}{w:World}{A:Around}{E:Value->Shared->Prop}{s:Shared}{K:O9}{x dx C f:Addr}{mA:Str->Option Value}{name:Str}{v:Value}
end
theorem RelO.some_of {v:V}{o:Option Value}(r:RelO (some v) o):∃ u,o=some u/\RelV v u:=by
 cases o with
 | none=>exact (show False from r).elim
 | some u=>exact ⟨u,rfl,r⟩
section
variable {P:Program}{w:World}{H H':Hp}{h h':Heap}{a C dx:Addr}{fs fs':List (Str×V)}
theorem Zhd (hok:HOk P w H h)(e:H a=some (.ins C dx fs)):∃ mA,ObjM h a dx C mA/\(∀ f,RelO (fs.lookup f) (mA f))/\PySem.Within mA (fs.map (·.1))/\fs.length<=1000/\H dx=some (.own a):=by
 obtain ⟨d,z,ne,ob,mA,n,r,q⟩:=(show ObjOk P w H h a (.ins C dx fs) from hok a _ e)
 exact ⟨mA,⟨ob,n,ne⟩,r,q,z,d⟩
end
structure Cls (K:O9)(C:Addr):Prop where
 pg:PySem.W.plainGet K C Str.empty=true
 hd:PySem.W.hasDictIn K C=true
 po:PySem.W.plainOver K C=true
 sa:PySem.W.findIn K (.ref C) "__setattr__" = some (some (.builtin "object.__setattr__"))
theorem Cls.get {K:O9}{C:Addr}(c:Cls K C)(f:Str):PySem.W.plainGet K C f=true:=c.pg
section
variable {X:Cx}{pins:List (Addr×Obj)}{σ:St}{H:Hp}{s:Shared}{a C dx:Addr}{fs:List (Str×V)}{f:Str}{v:V}{A:Around}{E:Value->Shared->Prop}
end
section
variable {X:Cx}{o e value:Expr}{f:Str}{pos pos' tpos:Pos}{ta tv:TE}
end
section
variable {X:Cx}{pins:List (Addr×Obj)}{σ:St}{H:Hp}{s:Shared}{A:Around}{E:Value->Shared->Prop}{Q:Value->Shared->Prop}{c:Value}{b:Bool}
inductive Du (K:O9)(H:Hp):V->Value->Prop where
 | non:Du K H .non (.type "NoneType")
 | bl (x:Bool):Du K H (.bl x) (.type "bool")
 | int (i:Int):Du K H (.int i) (.type "int")
 | str (x:Str):Du K H (.str x) (.type "str")
 | flt (x:UInt64):Du K H (.flt x) (.type "float")
 | lst {a:Addr} {xs:List V} (e:H a=some (.lst xs)):Du K H (.ref a) (.type "list")
 | frz {a:Addr} {o:Obj} {xs:List V} (e:H a=some (.frz o (.lst xs))):Du K H (.ref a) (.type "list")
 | tup {a:Addr} {xs:List V} (e:H a=some (.tup xs)):Du K H (.ref a) (.type "tuple")
 | dK {a:Addr} {kvs:List (Au×V)} (e:H a=some (.dK kvs)):Du K H (.ref a) (.type "dict")
 | dT {a:Addr} {kvs:List (List Au×V)} (e:H a=some (.dT kvs)):Du K H (.ref a) (.type "dict")
 | ins {a C dx:Addr} {fs:List (Str×V)} (e:H a=some (.ins C dx fs)) (cl:Cls K C) (ha:PySem.W.findIn K (.ref C) "__class__" = some (some (.builtin "object.__class__")))
   (hn:PySem.W.specialIn K (.builtin "object.__class__") "__get__" = some (some (.builtin "getset_descriptor.__get__"))) (htk:PySem.W.takesIn K (.builtin "object.__class__")=some true)
   (hm:PySem.W.mroIn K C (.type "object")=some true):Du K H (.ref a) (.ref C)
theorem Zlu {x:V}{u t:Value}(I:Inv X pins σ H s)(rx:RelV x u)(ty:Du X.K H x t)(e:Q9 X.K t c=some b)(h:∀ tk,Q (.bool b) { s with toks:=tk }) :
  wpAny (model X.prog X.w) A (call (.builtin "isinstance") [u,c]) Q E s:=by
 cases ty with
 | non=>cases (show u=Value.none from rx);exact Qt PySem.W.kitx_none I.kIn True.intro e (fun z=>nomatch z) h
 | bl y=>cases (show u=Value.bool y from rx);exact Qt PySem.W.kitx_bool I.kIn True.intro e (fun z=>nomatch z) h
 | int i=>obtain ⟨t,q⟩:=(show ∃ t,u=Value.int i t from rx);cases q;exact Qt PySem.W.kitx_int I.kIn True.intro e (fun z=>nomatch z) h
 | str y=>obtain ⟨t,q⟩:=(show ∃ t,u=Value.str y t from rx);cases q;exact Qt PySem.W.kitx_str I.kIn True.intro e (fun z=>nomatch z) h
 | flt y=>obtain ⟨t,q⟩:=(show ∃ t,u=Value.float y t from rx);cases q;exact Qt PySem.W.kitx_float I.kIn True.intro e (fun z=>nomatch z) h
 | @lst a xs ea =>
  cases (show u=Value.ref a from rx)
  obtain ⟨_,_,n,_,h1⟩:=(show ObjOk X.prog X.w H s.heap a (.lst xs) from I.hok a _ ea)
  exact Qt V2 I.kIn ⟨_,h1,rfl⟩ e (fun z=>nomatch z) h
 | @frz a ob xs ea =>
  cases (show u=Value.ref a from rx)
  obtain ⟨_,_,_,n,_,h1⟩:=(show ObjOk X.prog X.w H s.heap a (.frz ob (.lst xs)) from I.hok a _ ea)
  exact Qt V2 I.kIn ⟨_,h1,rfl⟩ e (fun z=>nomatch z) h
 | @tup a xs ea =>
  cases (show u=Value.ref a from rx)
  obtain ⟨_,_,_,p⟩:=(show ObjOk X.prog X.w H s.heap a (.tup xs) from I.hok a _ ea)
  obtain ⟨o,h1,h2,_⟩:=p
  exact Qt PySem.W.kitx_tuple I.kIn ⟨o,h1,h2⟩ e (fun z=>nomatch z) h
 | @dK a kvs ea =>
  cases (show u=Value.ref a from rx)
  obtain ⟨_,_,vs,_,p⟩:=(show ObjOk X.prog X.w H s.heap a (.dK kvs) from I.hok a _ ea)
  obtain ⟨o,es,ep,h1,h2,_⟩:=p
  exact Qt PySem.W.kitx_dict I.kIn ⟨o,h1,h2.1⟩ e (fun z=>nomatch z) h
 | @dT a kvs ea =>
  cases (show u=Value.ref a from rx)
  obtain ⟨_,_,xs,_,o,es,ep,h1,h2,_⟩:=(show ObjOk X.prog X.w H s.heap a (.dT kvs) from I.hok a _ ea)
  exact Qt PySem.W.kitx_dict I.kIn ⟨o,h1,h2.1⟩ e (fun z=>nomatch z) h
 | @ins a C dx fs ea cl ha hn htk hm =>
  cases (show u=Value.ref a from rx)
  obtain ⟨mA,O,_⟩:=Zhd I.hok ea
  obtain ⟨od,J,_⟩:=O.look
  exact Qt (PySem.W.kitx_own (cl.get _) cl.hd ha hn htk hm) I.kIn J e (fun z=>nomatch z) h
end
structure Room (k:Nat)(A:Around):Prop where
 hd:A.handled=none
 dp:A.depth+3 * k+5 < recursionLimit
 un:A.units+16 * k+200 < cLine
theorem Room.mono {j k:Nat}{A:Around}(r:Room k A)(h:j<=k):Room j A:=⟨r.hd,by have:=r.dp;omega,by have:=r.un;omega⟩
theorem Room.deeper {k:Nat}{A:Around}(r:Room (k+1) A)(env:Env):Room k (A.deeper env) :=
 ⟨r.hd,by have:=r.dp;show A.depth+1+3 * k+5 < _;omega,by have:=r.un;show A.units+3+16 * k+200 < _;omega⟩
theorem Room.depth {k:Nat}{A:Around}(r:Room k A):A.depth < recursionLimit:=by have:=r.dp;omega
noncomputable def Ov:TA:=fun _ H Q=>Q [] H
noncomputable def Np (ta:TE)(tr:TA):TA:=fun σ H Q=>ta σ H fun x H1=>tr σ H1 fun xs H2=>Q (x::xs) H2
section
variable {X:Cx}{e:Expr}{es:List Expr}{te:TE}{t:TA}{pos:Pos}
theorem Zft:PA X [] Ov:=fun _ _ _ _ H Q I h=>Sl ⟨[],H,I,.nil,h⟩
theorem Zeh (ha:PE X e te)(hr:PA X es t)(hs:starEach (e::es) X.env=(false,eval e X.env)::starEach es X.env:=by rfl):PA X (e::es) (Np te t):=by
 intro pos pins s σ H Q I h
 rw [hs]
 show wpAny _ _ (spliced ((false,eval e X.env)::backTo pos (starEach es X.env))) _ _ s
 refine R3 (Ak (ha pins s σ H _ I h) fun u s1 zq=>?_)
 obtain ⟨x,H1,I1,r1,q1⟩:=zq
 exact Ak (hr pos pins s1 σ H1 _ I1 q1) fun us s2 ⟨xs,H2,I2,r2,q2⟩=>⟨x::xs,H2,I2,.cons r1 r2,q2⟩
noncomputable def Zat (t:TA):TE:=fun σ H Q=>t σ H fun xs H1=>xs.length<=sizeLine/\∀ p,H1 p=none->Q (.ref p) (upd H1 p (.tup xs))
noncomputable def L9 (t:TA):TE:=fun σ H Q=>t σ H fun xs H1=>xs.length<=sizeLine/\∀ p,H1 p=none->Q (.ref p) (upd H1 p (.lst xs))
theorem Zix {x1}(h:PA X es t):PE X (.Tuple es x1 pos) (Zat t):=by
 intro pins s σ H Q I hq
 refine wpAny_Tuple_spliced (Ak (h pos pins s σ H _ I hq) fun us s1 ⟨xs,H1,I1,r,z,q⟩=>⟨by rw [<- r.length];exact z,?_⟩)
 have hf:H1 s1.heap.objs.size=none:=I1.hok.fresh (Pc _)
 refine ⟨.ref s1.heap.objs.size,upd H1 s1.heap.objs.size (.tup xs),I1.laid (t':=s1.toks) (fun b u e=>Pk _ e) (Pc _) ?_,rfl,q _ hf⟩
 exact ⟨z,us,r,⟨_,P0 _ rfl,rfl,_,rfl⟩⟩
theorem Zi9 (h:PA X es t):PE X (.List es pos) (L9 t):=by
 intro pins s σ H Q I hq
 refine wpAny_List_spliced (Ak (h pos pins s σ H _ I hq) fun us s1 ⟨xs,H1,I1,r,z,q⟩=>⟨by rw [<- r.length];exact z,?_⟩)
 have hf:H1 s1.heap.objs.size=none:=I1.hok.fresh (Pc _)
 refine ⟨.ref s1.heap.objs.size,upd H1 s1.heap.objs.size (.lst xs),I1.laid (t':=s1.toks) (fun b u e=>Pk _ e) (Pc _) ?_,rfl,q _ hf⟩
 exact ⟨z,us,0,r,P0 _ rfl⟩
end
noncomputable abbrev Sp:=List V->Hp->VK->XK->Prop
noncomputable abbrev Dp:=List Env->Hp->Shared->XK->Value->Shared->Prop
structure Lc (P:Program)(w:World)(K:O9)(mg:Str->Option Value)(base:Heap)(A:Around)(outer:List Env)(s:Shared)(H:Hp):Prop where
 frames:A.frames=some outer
 mod:Mod K mg base
 bs:∀ b o,base.get? b=some o->s.heap.get? b=some o/\H b=none
 bsz:base.objs.size<=s.heap.objs.size
 funs:s.heap.FunFrames base outer
 frf:∀ b∈C5 outer,H b=none
 hok:HOk P w H s.heap
 bare:AllBare s.gens
noncomputable def CE (outer:List Env)(P:Program)(w:World)(H:Hp)(s:Shared)(Q:VK)(u:Value)(s':Shared):Prop :=
 ∃ v H',s'.os=s.os/\AllBare s'.gens/\Un (C5 outer) [] H H' s.heap s'.heap/\HOk P w H' s'.heap/\RelV v u/\Q v H'
noncomputable def CR (CX:Dp)(outer:List Env)(P:Program)(w:World)(H:Hp)(s:Shared)(Q:VK)(E:XK)(r:Result)(s':Shared):Prop :=
 match r with
 | .ok (.ret u)=>CE outer P w H s Q u s'
 | .ok _=>False
 | .error e=>CX outer H s E e s'
structure Bb (P:Program)(w:World)(K:O9)(mg:Str->Option Value)(base:Heap)(CX:Dp)(k:Nat)(f:Addr)(fd:FuncData)(ps:List Str)(sp:Sp):Prop where
 len:∀ vs H Q E,sp vs H Q E->vs.length=ps.length
 run:∀(A:Around)(outer:List Env)(s:Shared)(H:Hp)(args:Args)(us:List Value)(vs:List V)(Q:VK)(E:XK),Room k A->Lc P w K mg base A outer s H->BindsTo s fd args (ps.zip us)->Vals vs us->sp vs H Q E ->
  codeAny (model P w) A (.call (.ref f) args) (CR CX outer P w H s Q E) s
section
variable {X:Cx}{pins:List (Addr×Obj)}{σ:St}{H:Hp}{s s':Shared}
theorem Inv.env0 (I:Inv X pins σ H s):Lc X.prog X.w X.K X.mg X.base X.A X.stack s H :=
 ⟨I.ok.frames,I.ok.mod,I.bs,P5 I.ok.bsz I.sz,I.stack,I.stkFree,I.hok,I.bare⟩
theorem Inv.after {Q:VK}{u:Value}(I:Inv X pins σ H s)(h:CE X.stack X.prog X.w H s Q u s'):EP X pins σ Q u s':=by
 obtain ⟨v,H',os,bare,un,hok,r,q⟩:=h
 obtain ⟨hh,g,d,t,os'⟩:=s'
 obtain rfl:os'=s.os:=os
 exact ⟨v,H',I.call (h':=hh) (g':=g) (d':=d) (t':=t) (ch:=[]) un hok bare (fun b z=>absurd z (by simp)),r,q⟩
end
noncomputable def K4 (sp:Sp)(dvs:List V)(E:XK)(t:TA):TE:=fun σ H Q=>t σ H fun vs H1=>sp (vs++dvs) H1 Q E
noncomputable def Binds (K:O9)(fd:FuncData)(ps:List Str)(ds:List Value):Prop :=
 ∀(s:Shared)(us:List Value),K.In s.heap->(us++ds).length=ps.length->BindsTo s fd ⟨us,[]⟩ (ps.zip (us++ds))
theorem Binds.all {K:O9}{fd:FuncData}{ps:List Str}(h:∀ us:List Value,us.length=ps.length->bindArgs fd ⟨us,[]⟩=pure (ps.zip us)):Binds K fd ps []:=fun s us _ hl=>by
 rw [Qc] at hl ⊢
 exact .of_eq (h us hl)
noncomputable def Ox (CX:Dp)(X:Cx)(E:XK):Prop:=∀(pins:List (Addr×Obj))(σ:St)(H:Hp)(s:Shared)(e:Value)(s':Shared),Inv X pins σ H s->CX X.stack H s E e s'->X.xe e s'
section
variable {X:Cx}{CX:Dp}{k:Nat}{f C:Addr}{fd:FuncData}{ps:List Str}{sp:Sp}{dvs:List V}{ds:List Value}{E:XK}{x m:Str}{p pos apos:Pos}{e o:Expr}{es:List Expr}{ta:TE}{t:TA}
theorem Zkn {pins:List (Addr×Obj)}{σ:St}{H:Hp}{s:Shared}{Q:VK}{us:List Value}{vs:List V}(F:Bb X.prog X.w X.K X.mg X.base CX k f fd ps sp)(hr:Room k X.A)(hb:Binds X.K fd ps ds)(hd:Vals dvs ds)(hx:Ox CX X E)
  (I:Inv X pins σ H s) (r:Vals vs us) (h:sp (vs++dvs) H Q E):wpAny (model X.prog X.w) X.A (call (.ref f) us) (EP X pins σ Q) X.xe s:=by
 have r2:Vals (vs++dvs) (us++ds):=r.append hd
 have hl:(us++ds).length=ps.length:=by rw [<- r2.length];exact F.len _ _ _ _ h
 refine wpAny_call (codeAny_mono (F.run X.A X.stack s H ⟨us,[]⟩ (us++ds) (vs++dvs) Q E hr I.env0 (hb s us I.kIn hl) r2 h) fun r s' hq=>?_)
 cases r with
 | error e=>exact hx pins σ H s e s' I hq
 | ok fl =>
  cases fl with
  | ret u=>exact I.after hq
  | next=>exact Ra hq
  | brk=>exact Ra hq
  | cont=>exact Ra hq
theorem Zml (F:Bb X.prog X.w X.K X.mg X.base CX k f fd ps sp)(hr:Room k X.A)(hg:Gl X x)(hm:X.mg x=some (.ref f))(hk:T4 X.K (.ref f)=true)(hb:Binds X.K fd ps ds)(hd:Vals dvs ds)(hx:Ox CX X E)
  (ha:PA X (e::es) t) (hdb:(x == ("__debug__" : Str))=false:=by decide) (he:starEach (e::es) X.env=(false,eval e X.env)::starEach es X.env:=by rfl) (hpl:(backTo pos (starEach es X.env)).any (·.1)=false:=by rfl) :
  PE X (.Call (.Name x p) (e::es) [] pos) (K4 sp dvs E t):=by
 intro pins s σ H Q I h
 refine Vx (Zfb I hg hm ?_ hdb)
 refine PySem.W.callWith_K (h₀:=X.base) I.ok.mod.kin hk (Ak (ha pos pins s σ H _ I h) fun us s1 zq=>?_) he hpl
 obtain ⟨vs,H1,I1,r,q⟩:=zq
 refine ⟨I1.kIn,?_⟩
 exact Zkn F hr hb hd hx I1 r q
end
section
variable {X:Cx}{CX:Dp}{k:Nat}{f C:Addr}{fd:FuncData}{ps ks:List Str}{sp:Sp}{E:XK}{x m:Str}{p pos apos kpos:Pos}{e o:Expr}{es:List Expr}{kws:List Keyword}{te ta:TE}{t tk:TA}{nm:Option Str}
variable {g:List Value->List Value->List Value}{gV:List V->List V->List V}
end
structure Bp (N P:List Str)(sc:Scope):Prop where
 kind:sc.kind=.function
 co:sc.isCoroutine=false
 gen:sc.isGenerator=false
 nd:N.Nodup
 pre:N.take P.length=P
 par:∀ x∈P,sc.names.lookup x=some .local\/sc.names.lookup x=some .cell
 nofree:∀ y∈sc.names,y.2≠.free
theorem Ze2 {kindOf:Str->Option NameKind}{x:Str}:∀{binds:List (Str×Value)}{m:Str->Option Value},(∀ v,(x,v) ∉ binds)->bindL kindOf binds m x=m x
 | [],_,_=>rfl
 | (n,v)::r,m,h=>by
  unfold bindL
  rw [Ze2 fun w hw=>h w (Qy _ hw)]
  split
  ·have:x≠n:=by rintro rfl;exact h v Sj
   simp [this]
  ·rfl
theorem Zd9 {kindOf:Str->Option NameKind}{x:Str}:∀{binds:List (Str×Value)}{m:Str->Option Value},(∀ v,(x,v) ∉ binds)->bindC kindOf binds m x=m x
 | [],_,_=>rfl
 | (n,v)::r,m,h=>by
  unfold bindC
  rw [Zd9 fun w hw=>h w (Qy _ hw)]
  split
  ·rfl
  ·have:x≠n:=by rintro rfl;exact h v Sj
   simp [this]
theorem Zew {kindOf:Str->Option NameKind}{x:Str}{v:Value}:∀{P:List Str}{vs:List Value}{i:Nat}{m:Str->Option Value},P.Nodup->P[i]?=some x->vs[i]?=some v->kindOf x=some .local ->
  bindL kindOf (P.zip vs) m x=some v
 | [],_,_,_,_,h,_,_=>by simp at h
 | _::_,[],_,_,_,_,h,_=>by simp at h
 | p::P,w::vs,0,m,nd,h1,h2,hk=>by
  simp at h1 h2;subst h1;subst h2
  show bindL kindOf ((p,w)::P.zip vs) m p=_
  unfold bindL
  rw [Ze2 fun v hv=>(Tw.mp nd).1 (Uy hv).1,if_pos hk]
  simp
 | p::P,w::vs,i+1,m,nd,h1,h2,hk=>by
  show bindL kindOf ((p,w)::P.zip vs) m x=_
  unfold bindL
  exact Zew (i:=i) (Tw.mp nd).2 (by simpa using h1) (by simpa using h2) hk
theorem Ze1 {kindOf:Str->Option NameKind}{x:Str}{v:Value}:∀{P:List Str}{vs:List Value}{i:Nat}{m:Str->Option Value},P.Nodup->P[i]?=some x->vs[i]?=some v->kindOf x≠some .local ->
  bindC kindOf (P.zip vs) m x=some v
 | [],_,_,_,_,h,_,_=>by simp at h
 | _::_,[],_,_,_,_,h,_=>by simp at h
 | p::P,w::vs,0,m,nd,h1,h2,hk=>by
  simp at h1 h2;subst h1;subst h2
  show bindC kindOf ((p,w)::P.zip vs) m p=_
  unfold bindC
  rw [Zd9 fun v hv=>(Tw.mp nd).1 (Uy hv).1,if_neg hk]
  simp
 | p::P,w::vs,i+1,m,nd,h1,h2,hk=>by
  show bindC kindOf ((p,w)::P.zip vs) m x=_
  unfold bindC
  exact Ze1 (i:=i) (Tw.mp nd).2 (by simpa using h1) (by simpa using h2) hk
noncomputable def Fg (N:List Str)(vs:List V):St:=vs.map some++Qq (N.length - vs.length) none
noncomputable def Ge (CX:Dp)(P:Program)(w:World)(K:O9)(mg:Str->Option Value)(base:Heap)(N:List Str)(qual:Str)(scope:Scope)(f:Addr)(cd:Value)(A:Around)(outer:List Env)(s:Shared)(H:Hp)(E:XK):Cx where
 prog:=P
 w:=w
 K:=K
 mg:=mg
 base:=base
 A:=A.deeper (envOfC qual scope s.heap.objs.size f cd)
 N:=N
 s₀:=s
 H₀:=H
 env:=envOfC qual scope s.heap.objs.size f cd
 outer:=outer
 stack:=envOfC qual scope s.heap.objs.size f cd::outer
 ex:=[]
 calm:=true
 fn:=fun _=>true
 pn:=[]
 xe:=fun e s'=>wpAny (model P w) (A.deeper (envOfC qual scope s.heap.objs.size f cd)) (leaving (envOfC qual scope s.heap.objs.size f cd) e) (fun _ s''=>CX outer H s E e s'') (fun e' s''=>CX outer H s E e' s'') s'
theorem Oh {sc:Scope}{n:Nat}{x:Str}(h:sc.names.lookup x=some .cell):∃ c,(cellsFrom n sc.names []).lookup x=some c:=by
 have q:=PySem.W.cellsFrom_some sc.names n [] (.inl h)
 exact Re.mp q
theorem Zju {CX:Dp}{P:Program}{w:World}{K:O9}{mg:Str->Option Value}{base:Heap}{N ps:List Str}{qual:Str}{scope:Scope}{f:Addr}{cd:Value}{A:Around}{outer:List Env}{s s1:Shared}{H:Hp}{E:XK}{us:List Value}{vs:List V}
  (S:Bp N ps scope) (hd:A.handled=none) (e0:Lc P w K mg base A outer s H) (hl:vs.length=ps.length) (r:Vals vs us)
  (x:InCallC s s.heap.objs.size (bindL (envOfC qual scope s.heap.objs.size f cd).kindOf (ps.zip us) fun _=>none) (cellsFrom (s.heap.objs.size+1) scope.names []) (bindC (envOfC qual scope s.heap.objs.size f cd).kindOf (ps.zip us) fun _=>none) s1) :
  Inv (Ge CX P w K mg base N qual scope f cd A outer s H E) [] (Fg N vs) H s1:=by
 have hpl:ps.length<=N.length:=by have:=congrArg Rl S.pre;rw [Pt] at this;omega
 obtain ⟨h1,tk,rfl,hk⟩:=x.done
 have noA:∀ b:Addr,b ∉ (Ge CX P w K mg base N qual scope f cd A outer s H E).ex:=fun b z=>absurd (show b∈([]:List Addr) from z) (by simp)
 refine ⟨⟨e0.mod,S.kind,rfl,rfl,Pc _,fun y z c h1 h2=>?_,fun y hy=>?_,fun y c _ h=>?_,fun _=>hd,Around.frames_deeper e0.frames,.inr ⟨rfl,rfl⟩,fun b z=>absurd z (noA b),e0.bs,e0.bsz,fun b _ _=>noA b,fun b z=>absurd z (noA b),e0.funs,e0.frf⟩,
  rfl,e0.bare,Un.kept hk,⟨_,x.toInCall.ns,fun i y v h1 h2 h3=>?_⟩,fun y c h=>⟨_,x.cell y c h⟩,e0.hok.fresh (Pc _),fun y c h=>?_,fun p hp=>absurd (show p∈([]:List (Addr×Obj)) from hp) (by simp),e0.hok.kept hk,?_⟩
 ·exact name_of_addr x.apart (R1 h1) (R1 h2)
 ·have hy:scope.names.lookup y=some .cell\/scope.names.lookup y=some .free:=hy
  rcases hy with hy | hy
  ·exact Oh hy
  ·exact absurd rfl (S.nofree _ (R1 hy))
 ·exact U8 (x.above y c (R1 h))
 ·have hi:i < vs.length:=by
   unfold Fg at h2
   by_cases hi:i < vs.length
   ·exact hi
   ·rw [Qm (by simpa using hi)] at h2
    rw [List.getElem?_replicate] at h2
    split at h2 <;> cases h2
  have ha:vs[i]?=some v:=by
   unfold Fg at h2
   rw [Qe (by simpa using hi),Pq] at h2
   cases e:vs[i]? with
   | none=>rw [e] at h2;cases h2
   | some a=>rw [e] at h2;cases h2;rfl
  obtain ⟨u,hu,rv⟩:=r.get ha
  have hp:ps[i]?=some y:=by
   rw [<- S.pre,List.getElem?_take_of_lt (by omega)];exact h1
  have ndP:ps.Nodup:=by rw [<- S.pre];exact S.nd.sublist (List.take_sublist _ _)
  refine ⟨u,rv,?_⟩
  rcases S.par y (Qb hp) with k | k
  ·exact .inl ⟨k,Zew ndP hp hu k⟩
  ·obtain ⟨c,e⟩:=Oh (n:=s.heap.objs.size+1) k
   refine .inr ⟨.inl k,c,e,?_⟩
   have q:=x.cell y c e
   rw [Ze1 ndP hp hu (by show scope.names.lookup y≠_;rw [k];decide)] at q
   exact q
 ·exact e0.hok.fresh (U8 (x.above y c (R1 h)))
 ·unfold Fg
  show _=N.length
  rw [Pl,Pe,List.length_replicate]
  omega
theorem Zh2 {CX:Dp}{P:Program}{w:World}{K:O9}{mg:Str->Option Value}{base:Heap}{k:Nat}{f:Addr}{name qual:Str}{params:Arguments}{body:List Stmt}{scope:Scope}{dV kV doc pm cdv ct oc:Value}{an od:Option Addr}
  {osl:Array (Option Value)} {N ps:List Str} {sp:Sp} (lk:K.lookup f=some ⟨oc,od,.func (Rx name qual params body scope dV kV doc pm an cdv ct),osl⟩) (hcd:PySem.W.codeIn K cdv qual=true) (S:Bp N ps scope)
  (len:∀ vs H Q E,sp vs H Q E->vs.length=ps.length)
  (hbody:∀(A:Around)(outer:List Env)(s:Shared)(H:Hp)(vs:List V)(Q:VK)(E:XK),Room k (A.deeper (envOfC qual scope s.heap.objs.size f cdv))->sp vs H Q E ->
   ∃ t,PSs (Ge CX P w K mg base N qual scope f cdv A outer s H E) body t/\t { nx:=fun _ H'=>Q .non H',rt:=Q } (Fg N vs) H) :
  Bb P w K mg base CX (k+1) f (Rx name qual params body scope dV kV doc pm an cdv ct) ps sp:=by
 refine ⟨len,fun A outer s H args us vs Q E hr e0 hb r hsp=>?_⟩
 have hl:=len _ _ _ _ hsp
 have KX:K.In s.heap:=e0.mod.kin.keeps fun b o e=>(e0.bs b o e).1
 have lim:s.heap.NoLimit:=e0.mod.nolimit.keeps fun b o e=>(e0.bs b o e).1
 have hkind:∀ y∈ps.zip us,scope.names.lookup y.1=some .local\/(scope.names.lookup y.1=some .cell/\((cellsFrom (s.heap.objs.size+1) scope.names []).lookup y.1).isSome=true):=fun ⟨n,v⟩ hy=>by
  rcases S.par n (Uy hy).1 with q | q
  ·exact .inl q
  ·exact .inr ⟨q,PySem.W.cellsFrom_some _ _ _ (.inl q)⟩
 refine codeAny_call_function hr.depth (KX _ _ lk) rfl S.co S.gen rfl (PySem.W.codeRec_of KX hcd) (hb _ _ _ _ ?_)
 refine wpAny_newFunctionEnv_cells S.kind hkind fun env he s1 x=>?_
 subst he
 refine ⟨lim.keeps x.toInCall.keep,codeAny_func ?_⟩
 obtain ⟨t,ht,hq⟩:=hbody A outer s H vs Q E (hr.deeper _) hsp
 have I:Inv (Ge CX P w K mg base N qual scope f cdv A outer s H E) [] (Fg N vs) H s1:=Zju S hr.hd e0 hl r x
 refine Sy (ht [] s1 (Fg N vs) H _ I hq) (fun fl s' hs=>?_) fun e s' hs=>hs
 have fin:∀{σ':St}{H':Hp}{v:V}{u:Value},Inv (Ge CX P w K mg base N qual scope f cdv A outer s H E) [] σ' H' s'->RelV v u->Q v H'->CE outer P w H s Q u s' :=
  fun {σ' H' v u} J rv q=>⟨v,H',J.os,J.bare,J.base,J.hok,rv,q⟩
 cases fl with
 | ret u =>
  obtain ⟨v,σ',H',J,rv,q⟩:=hs
  exact fin J rv q
 | next =>
  obtain ⟨σ',H',J,q⟩:=hs
  exact fin (v:=V.non) (u:=Value.none) J rfl q
 | brk =>
  obtain ⟨_,_,_,q⟩:=hs
  exact Ra q
 | cont =>
  obtain ⟨_,_,_,q⟩:=hs
  exact Ra q
section
variable {X:Cx}{x:Str}{p pos:Pos}{e:Expr}{es:List Expr}{t:TA}{id T:String}{r:List V->Hp->VK->Prop}
noncomputable def tCB (r:List V->Hp->VK->Prop)(t:TA):TE:=fun σ H Q=>t σ H fun vs H1=>r vs H1 Q
theorem Zgz (hc:C3 X (.builtin id) r)(hg:Gl X x)(hm:X.mg x=none)(hv:bootBuiltins x=some (.builtin id))(ha:PA X (e::es) t)(hn:x ≠ "__name__" := by decide)(hdb:(x == ("__debug__" : Str))=false:=by decide)
  (he:starEach (e::es) X.env=(false,eval e X.env)::starEach es X.env:=by rfl) (hpl:(backTo pos (starEach es X.env)).any (·.1)=false:=by rfl):PE X (.Call (.Name x p) (e::es) [] pos) (tCB r t):=by
 intro pins s σ H Q I h
 refine Vx (Dw I hg hm hv ?_ hn hdb)
 exact PyProof.Rows.callWith_builtin1 (Ak (ha pos pins s σ H _ I h) fun us s1 ⟨vs,H1,I1,r1,q1⟩=>hc pins s1 σ H1 vs us Q I1 r1 q1) he hpl
theorem Ziv (hc:C3 X (.type T) r)(hg:Gl X x)(hm:X.mg x=none)(hv:bootBuiltins x=some (.type T))(ha:PA X (e::es) t)(hn:x ≠ "__name__" := by decide)(hdb:(x == ("__debug__" : Str))=false:=by decide)
  (he:starEach (e::es) X.env=(false,eval e X.env)::starEach es X.env:=by rfl) (hpl:(backTo pos (starEach es X.env)).any (·.1)=false:=by rfl):PE X (.Call (.Name x p) (e::es) [] pos) (tCB r t):=by
 intro pins s σ H Q I h
 refine Vx (Dw I hg hm hv ?_ hn hdb)
 exact Q2 (Ak (ha pos pins s σ H _ I h) fun us s1 ⟨vs,H1,I1,r1,q1⟩=>hc pins s1 σ H1 vs us Q I1 r1 q1) he hpl
end
end L2
namespace HT
open PySem PyProof.Rows
noncomputable def lexLt:List Int->List Int->Bool
 | [],[]=>false
 | [],_::_=>true
 | _::_,[]=>false
 | x::xs,y::ys=>if x=y then lexLt xs ys else decide (x < y)
theorem lexLt_cons (x y:Int)(xs ys:List Int):lexLt (x::xs) (y::ys)=if x=y then lexLt xs ys else decide (x < y):=rfl
theorem Zlc:lexLt [] []=false:=rfl
theorem Zir (y:Int)(ys:List Int):lexLt [] (y::ys)=true:=rfl
theorem Znb (x:Int)(xs:List Int):lexLt (x::xs) []=false:=rfl
theorem Zj3 (A:Around)(s:Shared)(a:Int)(t:Tok)(c:Int)(u:Tok):∃ e,Pn A s (.int a t) (.int c u) e/\(e=true↔a=c) :=
 ⟨(a == c),Tl a t c u,by simp⟩
theorem Zmu (A:Around)(s:Shared)(a:Int)(t:Tok)(c:Int)(u:Tok)(prog:Program)(w:World)(E:Value->Shared->Prop)(Q:Value->Shared->Prop)(h:Q (.bool (decide (a < c))) s) :
  wpAny (model prog w) A (richCompare .Lt (.int a t) (.int c u)) Q E s :=
 (PyProof.Rows.lt_int h:wpAny (model prog w) A (compareOp .Lt (.int a t) (.int c u)) Q E s)
section
open PySem.SeqAt
open PySem.AutoSeq1 (wpAny_loadPart')
open PySem.MeetsSeq PySem.MeetsSeq2 PySem.MeetsSeq3
theorem Zo1 (l b:Addr)(items items2:Array Value)(n n2:Nat)(dd dd2:Option Addr)(sl sl2:Array (Option Value))(ns ms:List Int)(hi:IntsAre items.toList ns)(hj:IntsAre items2.toList ms) :
  Meets (Builtin.«tuple.__lt__» ⟨[.ref l,.ref b],[]⟩)
   (fun _ R s=>s.heap.get? l=some { cls:=.type "tuple",dict:=dd,data:=.seq items n,slots:=sl }/\s.heap.get? b=some { cls:=.type "tuple",dict:=dd2,data:=.seq items2 n2,slots:=sl2 } /\
    R (.ok (.ret (.bool (lexLt ns ms)))) s) :=
 .of_wp fun prog w A R s h=>by
  obtain ⟨hp,g,d,tk,os⟩:=s;obtain ⟨hl,hb,h⟩:=h
  have f2:=AutoSeq1.sub_tuple_tuple
  have z1:items.size=ns.length:=by rw [<- hi.length];simp
  have z2:items2.size=ms.length:=by rw [<- hj.length];simp
  wp_walk using wpAny_loadPart' hl,wpAny_loadPart' hb,wpAny_forIn_list _ (fun rest b s'=>b.1=none/\s'=⟨hp,g,d,tk,os⟩/\∃(vs ws:List Value)(ns' ms':List Int),rest=vs.zip ws /\
   IntsAre vs ns'/\IntsAre ws ms'/\ns'.length+items2.size=ms'.length+items.size/\R (.ok (.ret (.bool (lexLt ns' ms')))) ⟨hp,g,d,tk,os⟩) _
  case turn =>
   rintro ⟨y,x⟩ rest b s' ⟨hb',rfl,vs,ws,ns',ms',hz,hvi,hwi,hlen,hR⟩
   cases hvi with
   | nil=>rw [List.zip_nil_left] at hz;cases hz
   | cons a t hvi' =>
    cases hwi with
    | nil=>rw [List.zip_nil_right] at hz;cases hz
    | cons c u hwi' =>
     rw [Uu] at hz
     injection hz with hyx hrest
     injection hyx with hy hx
     subst hy hx
     rw [lexLt_cons] at hR
     simp only [Pj] at hlen
     obtain ⟨e,he,hiff⟩:=Zj3 A.in1 ⟨hp,g,d,tk,os⟩ a t c u
     refine Pa (he prog w _ _ ?_)
     cases e with
     | true =>
      rw [if_pos (hiff.mp rfl)] at hR
      wp_walk
      exact ⟨rfl,rfl,_,_,_,_,hrest,hvi',hwi',by omega,hR⟩
     | false =>
      rw [if_neg (fun q=>absurd (hiff.mpr q) Pp)] at hR
      have hri:=Zmu A.in1 ⟨hp,g,d,tk,os⟩ a t c u prog w
      wp_walk using hri
      exact ⟨_,rfl,by simpa using hR⟩
  case fin =>
   rintro ⟨b1,b2⟩ s' ⟨hb',rfl,vs,ws,ns',ms',hz,hvi,hwi,hlen,hR⟩
   simp only at hb'
   subst hb'
   have hv:lexLt ns' ms'=decide (items.size < items2.size):=by
    cases hvi with
    | nil =>
     cases hwi with
     | nil =>
      simp only [Tx] at hlen
      rw [Zlc]
      exact (decide_eq_false (by omega)).symm
     | cons c u hw =>
      simp only [Tx,Pj] at hlen
      rw [Zir]
      exact (decide_eq_true (by omega)).symm
    | cons a t hv =>
     cases hwi with
     | nil =>
      simp only [Tx,Pj] at hlen
      rw [Znb]
      exact (decide_eq_false (by omega)).symm
     | cons c u hw =>
      rw [Uu] at hz
      cases hz
   rw [hv] at hR
   wp_walk
   exact ⟨_,rfl,by simpa [Wg] using hR⟩
  case h =>
   exact ⟨rfl,rfl,items.toList,items2.toList,ns,ms,rfl,hi,hj,by omega,h⟩
end
section
variable {prog:Program}{w:World}{A:Around}{E:Value->Shared->Prop}{s:Shared}
theorem lt_tupInts {l b:Addr}{items items2:Array Value}{ns ms:List Int}{Q:Value->Shared->Prop}(hl:IsTup s.heap l items)(hb:IsTup s.heap b items2)(hi:IntsAre items.toList ns)(hj:IntsAre items2.toList ms)
  (hu:A.units < cLine) (h:Q (.bool (lexLt ns ms)) s):wpAny (model prog w) A (compareOp .Lt (.ref l) (.ref b)) Q E s:=by
 obtain ⟨⟨cls,dd,data,sl⟩,ho,hc,n,hd⟩:=id hl
 obtain ⟨⟨cls2,dd2,data2,sl2⟩,ho2,hc2,n2,hd2⟩:=id hb
 simp only at hc hd hc2 hd2
 subst hc hd hc2 hd2
 exact Vm (op:=.Lt) ⟨_,ho,rfl⟩ ⟨_,ho2,rfl⟩ PySem.F.slot_tuple_lt PySem.F.entry_tuple_lt (PySem.F.args_tuple_lt_2 _ _) (Zo1 l b items items2 n n2 dd dd2 sl sl2 ns ms hi hj)
  ⟨ho,ho2,show Value.bool (lexLt ns ms)≠Value.notImplemented/\Q (.bool (lexLt ns ms)) s from ⟨(fun x=>nomatch x),h⟩⟩ hu
theorem cat_tup {t b:Addr}{vs ws:List Value}{Q:Value->Shared->Prop}(ht:IsTup s.heap t vs.toArray)(hb:IsTup s.heap b ws.toArray)(hv:vs≠[])
  (h1:ws=[]->Q (.ref t) s) (h2:ws≠[]->Q (.ref s.heap.objs.size) { s with heap:=s.heap.push { cls:=.type "tuple",data:=.seq (vs++ws).toArray } })
  (hsz:vs.length+ws.length<=sizeLine):wpAny (model prog w) A (binaryOp .Add (.ref t) (.ref b)) Q E s:=by
 obtain ⟨⟨cls,dd,data,sl⟩,ho,hc,n,hd⟩:=id ht
 obtain ⟨⟨cls2,dd2,data2,sl2⟩,ho2,hc2,n2,hd2⟩:=id hb
 simp only at hc hd hc2 hd2
 subst hc hd hc2 hd2
 have e:vs.toArray++ws.toArray=(vs++ws).toArray:=by simp
 by_cases hw:ws=[]
 ·exact U9 ⟨_,ho,rfl⟩ ⟨_,ho2,rfl⟩ Uv U3 Up Ul (Uj _ _)
   (tuple_addW1 t b vs.toArray ws.toArray n n2 dd dd2 sl sl2 (by simpa using hv) (by simp [hw])) ⟨ho,ho2,h1 hw⟩
 ·refine U9 ⟨_,ho,rfl⟩ ⟨_,ho2,rfl⟩ Uv U3 Up Ul (Uj _ _)
   (tuple_addW2 t b vs.toArray ws.toArray n n2 dd dd2 sl sl2 (by simpa using hv) (by simpa using hw) (by rw [Pf,Pf];exact hsz)) ⟨ho,ho2,?_⟩
  rw [e]
  exact h2 hw
noncomputable def sIx (n d:Nat):Option Int->Nat
 | none=>d
 | some v=>if v < 0 then (v+(n:Int)).toNat else min v.toNat n
theorem sIx_none (n d:Nat):sIx n d none=d:=rfl
theorem sIx_nat (n d k:Nat):sIx n d (some (k:Int))=min k n:=by
 show (if (k:Int) < 0 then ((k:Int)+(n:Int)).toNat else min (k:Int).toNat n)=min k n
 rw [if_neg (by omega),Rq]
theorem Zli (n d:Nat)(hd:d<=n)(o:Option Int):sIx n d o<=n:=by
 cases o with
 | none=>exact hd
 | some v =>
  show (if v < 0 then (v+(n:Int)).toNat else min v.toNat n)<=n
  by_cases hv:v < 0
  ·rw [if_pos hv];omega
  ·rw [if_neg hv];exact Nat.min_le_right _ _
theorem Zfq (v:Int)(n d:Nat):(if v < 0 then max (v+(n:Int)) 0 else min v (n:Int))=((sIx n d (some v):Nat):Int):=by
 show (if v < 0 then max (v+(n:Int)) 0 else min v (n:Int))=(((if v < 0 then (v+(n:Int)).toNat else min v.toNat n):Nat):Int)
 by_cases hv:v < 0
 ·simp only [if_pos hv];omega
 ·simp only [if_neg hv];omega
theorem Zis (lo hi:Option Int)(n:Nat):Vk lo hi 1 (n:Int)=(((sIx n 0 lo:Nat):Int),((sIx n n hi:Nat):Int)):=by
 have h1:¬ ((1:Int) < 0):=by omega
 unfold Vk
 simp only [h1,if_false]
 refine Prod.ext ?_ ?_
 ·cases lo with
  | none=>rfl
  | some v=>exact Zfq v n 0
 ·cases hi with
  | none=>rfl
  | some v=>exact Zfq v n n
theorem Zl7 (i j:Nat):Ui (i:Int) (j:Int) 1=j - i:=by
 unfold Ui
 have h1:(1:Int) > 0:=by omega
 simp only [h1,if_true,Int.ediv_one]
 split <;> omega
theorem Zb4 {v:Value}{o:Option Int}{Q:Option Int->Shared->Prop}(p:IsPart v o)(h:Q o s):wpAny (model prog w) A (Builtin.Slice.slicePartIndex v) Q E s:=by
 cases p with
 | none=>exact slicePart_none h
 | int i t=>exact slicePart_int h
theorem sliceApplied_gen {sl:Addr}{vl vu:Value}{lo hi:Option Int}{n:Nat}{Q:Int×Int×Nat->Shared->Prop}(hs:s.heap.IsSliceOf sl vl vu .none)(pl:IsPart vl lo)(pu:IsPart vu hi)
  (h:Q (((sIx n 0 lo:Nat):Int),1,sIx n n hi - sIx n 0 lo) s):wpAny (model prog w) A (Builtin.Slice.sliceApplied (.ref sl) (pure (n:Int))) Q E s:=by
 obtain ⟨os,hos,hcs,hds⟩:=id hs
 unfold Builtin.Slice.sliceApplied Builtin.Slice.sliceFields
 refine Pa (Pa (Px hos hds (x:=vl) rfl (Pa (Px hos hds (x:=vu) rfl (Pa (Px hos hds (x:=.none) rfl (Pd ?_)))))))
 refine Pa (slicePart_none ?_)
 show wpAny _ _ (if ((1:Int) == 0)=true then _ else _) _ _ s
 rw [if_neg (by decide)]
 refine Pa (Zb4 pl (Pa (Zb4 pu (Pa (Pd ?_)))))
 show wpAny _ _ (match Vk lo hi 1 (n:Int) with | (lo,hi)=>pure (lo,(1:Int),Ui lo hi 1)) _ _ s
 rw [Zis lo hi n]
 show wpAny _ _ (pure (((sIx n 0 lo:Nat):Int),(1:Int),Ui ((sIx n 0 lo:Nat):Int) ((sIx n n hi:Nat):Int) 1)) _ _ s
 rw [Zl7]
 exact Pd h
theorem Zl4 (xs:Array Value)(i k:Nat):((Py k).filterMap fun (m:Nat)=>xs[((i:Int)+(m:Int) * 1).toNat]?).toArray=((xs.toList.drop i).take k).toArray:=by
 have e:(fun (m:Nat)=>xs[((i:Int)+(m:Int) * 1).toNat]?)=fun m=>xs[i+m]?:=by
  funext m
  have:((i:Int)+(m:Int) * 1).toNat=i+m:=by omega
  rw [this]
 rw [e]
 have:=pick_run xs i k
 rw [List.filterMap_map] at this
 have e2:((fun x=>xs[x]?) ∘ fun x=>i+x)=fun m=>xs[i+m]?:=rfl
 rw [e2] at this
 rw [this]
theorem getItem_tuple_cut {t sl:Addr}{items:Array Value}{vl vu:Value}{lo hi:Option Int}{Q:Value->Shared->Prop}(ht:IsTup s.heap t items)(hs:s.heap.IsSliceOf sl vl vu .none)(pl:IsPart vl lo)(pu:IsPart vu hi)
  (hw:¬ (sIx items.size 0 lo=0/\sIx items.size items.size hi=items.size))
  (h:Q (.ref s.heap.objs.size) { s with heap:=s.heap.push { cls:=.type "tuple",data:=.seq ((items.toList.drop (sIx items.size 0 lo)).take (sIx items.size items.size hi - sIx items.size 0 lo)).toArray } })
  (hsz:items.size<=sizeLine):wpAny (model prog w) A (getItem (.ref t) (.ref sl)) Q E s:=by
 have htake:sizeOk (.seq ((items.toList.drop (sIx items.size 0 lo)).take (sIx items.size items.size hi - sIx items.size 0 lo)).toArray):=by
  show ((items.toList.drop (sIx items.size 0 lo)).take (sIx items.size items.size hi - sIx items.size 0 lo)).toArray.size<=sizeLine
  rw [Pf,Pt,Tt,Ti]
  omega
 have hj:sIx items.size items.size hi<=items.size:=Zli _ _ (Pc _) hi
 obtain ⟨os,hos,hcs,hds⟩:=id hs
 have hTs:s.TypeIs (.ref sl) "slice" := ⟨os,hos,hcs⟩
 unfold getItem
 try with_reducible refine Q0 ?_
 first | refine Pa (Pd ?_) | skip
 refine Pa (wpAny_sequenceKey ht.typeIs (by decide) ?_)
 refine Pa (Q5 (name:=Ql "__getitem__") ht.typeIs Sa
  (Q7 Sa ht.typeIs entry_tuple_getitem ?_ (args_tuple_getitem _ _)))
 show wpAny _ _ (Builtin.Tuple.tupleItemsOf (.ref t) >>= _) _ _ s
 refine Pa (tupleItemsOf_ ht ?_)
 refine Pa (Va hTs ?_)
 rw [if_pos (by decide)]
 refine Pa (sliceApplied_gen hs pl pu ?_)
 have hno:¬ ((((sIx items.size 0 lo:Nat):Int) == 0 && (1:Int) == 1 && (sIx items.size items.size hi - sIx items.size 0 lo) == items.size)=true):=by
  intro q
  rw [Rr,Rr] at q
  have q1:((sIx items.size 0 lo:Nat):Int)=0:=eq_of_beq q.1.1
  have q2:sIx items.size items.size hi - sIx items.size 0 lo=items.size:=eq_of_beq q.2
  exact hw ⟨by omega,by omega⟩
 show wpAny _ _ (if (((sIx items.size 0 lo:Nat):Int) == 0 && (1:Int) == 1 && (sIx items.size items.size hi - sIx items.size 0 lo) == items.size)=true then _ else _) _ _ s
 rw [if_neg hno,Zl4]
 first
  | exact Pa (m:=Uk _) (Rp (Pd ⟨_,rfl,Pd h⟩) htake)
  | exact Pa (m:=Uk _) (Rp (Pa (Pd (Pd ⟨_,rfl,Pd h⟩))) htake)
  | exact Pa (Pa (m:=Uk _) (Rp (Pd (Pd ⟨_,rfl,Pd h⟩)) htake))
  | exact Pa (Pa (m:=Uk _) (Rp (Pd ⟨_,rfl,Pd h⟩) htake))
end
end HT
namespace L2
open PySem PySem.Spec PyProof.Rows
noncomputable abbrev TO:=St->Hp->(Option Int->Hp->Prop)->Prop
noncomputable def PO (X:Cx)(e:Option Expr)(t:TO):Prop :=
 ∀(pins:List (Addr×Obj))(s:Shared)(σ:St)(H:Hp)(Q:Option Int->Hp->Prop),Inv X pins σ H s->t σ H Q ->
  wpAny (model X.prog X.w) X.A (evalPart e X.env) (fun u s'=>∃ o H',Inv X pins σ H' s'/\IsPart u o/\Q o H') X.xe s
noncomputable def O2:TO:=fun _ H Q=>Q none H
noncomputable def O7 (t:TE):TO:=fun σ H Q=>t σ H fun x H1=>∃ i,x=.int i/\Q (some i) H1
theorem Zfa {ns:List Int}:∀{us:List Value},Vals (ns.map V.int) us->IntsAre us ns:=by
 induction ns with
 | nil=>intro us r;rw [Vb] at r;cases r;exact .nil
 | cons n ns ih =>
  intro us r
  rw [Qg] at r
  cases r with
  | cons r1 r2 =>
   obtain ⟨t,e⟩:=r1
   subst e
   exact .cons n t (ih r2)
section
variable {X:Cx}{e:Expr}{te:TE}{lo hi:Option Expr}{tl th:TO}{pos p2:Pos}
theorem Zk7:PO X none O2:=by
 intro pins s σ H Q I h
 rw [evalPart_none]
 exact Pd ⟨none,H,I,.none,h⟩
theorem Zmq (h:PE X e te):PO X (some e) (O7 te):=by
 intro pins s σ H Q I hw
 rw [evalPart_some]
 refine Ak (h pins s σ H _ I hw) fun u s1 zq=>?_
 obtain ⟨x,H1,I1,r1,q1⟩:=zq
 obtain ⟨i,rfl,q⟩:=q1
 obtain ⟨t,rfl⟩:=r1
 exact ⟨some i,H1,I1,.int i t,q⟩
noncomputable def SlR (X:Cx)(r:V->Option Int->Option Int->Hp->VK->Prop):Prop :=
 ∀(pins:List (Addr×Obj))(s:Shared)(σ:St)(H:Hp)(x:V)(v vl vu:Value)(lo hi:Option Int)(sl:Addr)(Q:VK),Inv X pins σ H s->RelV x v->s.heap.IsSliceOf sl vl vu .none->IsPart vl lo->IsPart vu hi->r x lo hi H Q ->
  ∃ T id,typeLookup (.type T) "__getitem__" = pure (some (.builtin id))/\s.TypeIs v T/\wpAny (model X.prog X.w) X.A (getItem v (.ref sl)) (EP X pins σ Q) X.xe s
theorem SlR.or {r r':V->Option Int->Option Int->Hp->VK->Prop}(h:SlR X r)(h':SlR X r'):SlR X (fun x lo hi H Q=>r x lo hi H Q\/r' x lo hi H Q):=by
 intro pins s σ H x v vl vu lo hi sl Q I rx hs pl pu q
 rcases q with q | q
 ·exact h pins s σ H x v vl vu lo hi sl Q I rx hs pl pu q
 ·exact h' pins s σ H x v vl vu lo hi sl Q I rx hs pl pu q
noncomputable def tSl (r:V->Option Int->Option Int->Hp->VK->Prop)(te:TE)(tl th:TO):TE:=fun σ H Q=>te σ H fun x H1=>tl σ H1 fun l H2=>th σ H2 fun u H3=>r x l u H3 Q
theorem Zmf {r:V->Option Int->Option Int->Hp->VK->Prop}(hr:SlR X r)(he:PE X e te)(hl:PO X lo tl)(hu:PO X hi th):PE X (.Subscript e (.Slice lo hi none p2) pos) (tSl r te tl th):=by
 intro pins s σ H Q I h
 refine Subscript_ (Ak (he pins s σ H _ I h) fun v s1 zq=>?_)
 obtain ⟨x,H1,I1,r1,q1⟩:=zq
 refine wpAny_Slice (Ak (hl pins s1 σ H1 _ I1 q1) fun vl s2 zq=>?_)
 obtain ⟨l,H2,I2,pl,q2⟩:=zq
 refine Ak (hu pins s2 σ H2 _ I2 q2) fun vu s3 zq=>?_
 obtain ⟨u,H3,I3,pu,q3⟩:=zq
 rw [evalPart_none]
 refine Pd ?_
 have I4:Inv X pins σ H3 { s3 with heap:=s3.heap.push { cls:=.type "slice",data:=.fields #[vl,vu,.none] } }:=I3.kept (t':=s3.toks) fun b ob q=>Pk _ q
 obtain ⟨T,id,hT,ht,hg⟩:=hr pins { s3 with heap:=s3.heap.push { cls:=.type "slice",data:=.fields #[vl,vu,.none] } } σ H3 x v vl vu l u s3.heap.objs.size Q I4 r1 (Heap.IsSliceOf.new ..) pl pu q3
 show wpAny (model X.prog X.w) X.A (subscriptTail e (.Slice lo hi none p2) v (.ref s3.heap.objs.size)) (EP X pins σ Q) X.xe { s3 with heap:=s3.heap.push { cls:=.type "slice",data:=.fields #[vl,vu,.none] } }
 exact tail_any (ops:=[.ref s3.heap.objs.size,v]) ht hT hg (by with_unfolding_all rfl)
noncomputable def Bq (xs:List V)(lo hi:Option Int):List V:=(xs.drop (HT.sIx xs.length 0 lo)).take (HT.sIx xs.length xs.length hi - HT.sIx xs.length 0 lo)
theorem Zci (xs:List V)(lo hi:Option Int):(Bq xs lo hi).length<=xs.length:=by
 unfold Bq
 rw [Pt,Tt]
 omega
noncomputable def rSlT (K:O9):V->Option Int->Option Int->Hp->VK->Prop:=fun x lo hi H Q=>∃ a xs,x=.ref a/\SqT K H a xs /\
 ¬ (HT.sIx xs.length 0 lo=0/\HT.sIx xs.length xs.length hi=xs.length)/\∀ p,H p=none->Q (.ref p) (upd H p (.tup (Bq xs lo hi)))
theorem Zdb:SlR X (rSlT X.K):=by
 intro pins s σ H x v vl vu lo hi sl Q I rx hs pl pu h
 obtain ⟨a,xs,rfl,hx,hw,q⟩:=h
 cases rx
 obtain ⟨its,r,ht,hz⟩:=I.tuple hx
 have hlen:its.toArray.size=xs.length:=by rw [Pf];exact r.length.symm
 refine ⟨"tuple",_,Sa.lookup,ht.typeIs,?_⟩
 refine HT.getItem_tuple_cut ht hs pl pu (by rw [hlen];exact hw) ?_ (by rw [hlen];exact hz)
 rw [hlen]
 refine ⟨.ref s.heap.objs.size,_,I.laid (t':=s.toks) (o:=.tup (Bq xs lo hi)) (fun b ob q=>Pk _ q) (Pc _) ?_,rfl,q _ (I.hok.fresh (Pc _))⟩
 exact ⟨P5 (Zci xs lo hi) hz,_,(r.drop (HT.sIx xs.length 0 lo)).take (HT.sIx xs.length xs.length hi - HT.sIx xs.length 0 lo),IsTup.new _ _⟩
noncomputable def rLtT (K:O9):R2:=fun x y H Q=>∃ a b ns ms,x=.ref a/\y=.ref b/\SqT K H a (ns.map V.int)/\SqT K H b (ms.map V.int)/\Q (.bl (HT.lexLt ns ms)) H
theorem Zgv (hu:X.A.units < cLine):OpR X (compareOp .Lt) (rLtT X.K):=by
 intro pins s σ H x y v u Q I rx ry h
 obtain ⟨a,b,ns,ms,rfl,rfl,ha,hb,q⟩:=h
 cases rx
 cases ry
 obtain ⟨its,r1,p1,_⟩:=I.tuple ha
 obtain ⟨its2,r2,p2,_⟩:=I.tuple hb
 have i1:IntsAre its.toArray.toList ns:=Zfa r1
 have i2:IntsAre its2.toArray.toList ms:=Zfa r2
 exact HT.lt_tupInts p1 p2 i1 i2 hu ⟨.bl (HT.lexLt ns ms),H,I,rfl,q⟩
noncomputable def Znf (K:O9):R2:=fun x y H Q=>∃ a b xs ys,x=.ref a/\y=.ref b/\SqT K H a xs/\SqT K H b ys/\xs≠[]/\xs.length+ys.length<=sizeLine /\
 (ys=[]->Q (.ref a) H)/\(ys≠[]->∀ p,H p=none->Q (.ref p) (upd H p (.tup (xs++ys))))
theorem Vals.nil_iff {xs:List V}{us:List Value}(r:Vals xs us):us=[]↔xs=[]:=by
 cases r with
 | nil=>simp
 | cons _ _=>simp
theorem Zcx:OpR X (binaryOp .Add) (Znf X.K):=by
 intro pins s σ H x y v u Q I rx ry h
 obtain ⟨a,b,xs,ys,rfl,rfl,ha,hb,hx,hz,q1,q2⟩:=h
 cases rx
 cases ry
 obtain ⟨its,r1,p1,_⟩:=I.tuple ha
 obtain ⟨its2,r2,p2,_⟩:=I.tuple hb
 refine HT.cat_tup p1 p2 (fun z=>hx (r1.nil_iff.mp z)) (fun z=>⟨.ref a,H,I,rfl,q1 (r2.nil_iff.mp z)⟩) (fun z=>?_) (by rw [<- r1.length,<- r2.length];exact hz)
 refine ⟨.ref s.heap.objs.size,_,I.laid (t':=s.toks) (o:=.tup (xs++ys)) (fun b ob q=>Pk _ q) (Pc _) ?_,rfl,q2 (fun w=>z (r2.nil_iff.mpr w)) _ (I.hok.fresh (Pc _))⟩
 exact ⟨by rw [Pl];exact hz,_,r1.append r2,IsTup.new _ _⟩
end
noncomputable def Da (n:Nat)(i:Int):Option Nat:=if 0<=i then (if i < n then some i.toNat else none) else if -(n:Int)<=i then some (i+n).toNat else none
noncomputable def B5 {α:Type}(xs:List α)(i:Int):Option α:=(Da xs.length i).bind fun j=>xs[j]?
theorem Zbw {n:Nat}{i:Int}{j:Nat}(h:Da n i=some j):seqIndex? i n=some j/\j < n/\-(n:Int)<=i/\i < n:=by
 unfold Da at h
 by_cases h0:0<=i
 ·rw [if_pos h0] at h
  by_cases h1:i < n
  ·rw [if_pos h1] at h
   have e:i.toNat=j:=Po h
   exact ⟨by rw [seqIndex_of h0 h1,e],by omega,by omega,h1⟩
  ·rw [if_neg h1] at h;cases h
 ·rw [if_neg h0] at h
  by_cases h1:-(n:Int)<=i
  ·rw [if_pos h1] at h
   have e:(i+n).toNat=j:=Po h
   exact ⟨by rw [seqIndex_neg (by omega) h1,e],by omega,h1,by omega⟩
  ·rw [if_neg h1] at h;cases h
theorem O4 {α:Type}{xs:List α}{i:Int}{v:α}(h:B5 xs i=some v):∃ j,seqIndex? i xs.length=some j/\xs[j]?=some v/\j < xs.length/\-(xs.length:Int)<=i/\i < xs.length:=by
 unfold B5 at h
 cases e:Da xs.length i with
 | none=>rw [e] at h;cases h
 | some j =>
  rw [e] at h
  obtain ⟨h1,h2,h3,h4⟩:=Zbw e
  exact ⟨j,h1,h,h2,h3,h4⟩
theorem Cy {α:Type}{xs:List α}{j:Nat}{v:α}(h:xs[j]?=some v):B5 xs (j:Int)=some v:=by
 have hj:j < xs.length:=(Pg.mp h).1
 have e:Da xs.length (j:Int)=some j:=by
  unfold Da
  rw [if_pos (by omega),if_pos (by omega)];simp
 unfold B5;rw [e];exact h
theorem Ii {α:Type}(xs:List α)(v:α):B5 (xs++[v]) (-1)=some v:=by
 have hl:(xs++[v]).length=xs.length+1:=by simp
 have e:Da (xs++[v]).length (-1)=some xs.length:=by
  unfold Da
  rw [hl,if_neg (by decide),if_pos (by omega)]
  congr 1
  omega
 unfold B5
 rw [e]
 show (xs++[v])[xs.length]?=some v
 simp
noncomputable def Os (b:Expr):Prop:=∀ o i,subscripted b false o i=operate [o,i] (getItem o i)
noncomputable def IxR (X:Cx)(r:R2):Prop :=
 ∀(value slice:Expr)(pins:List (Addr×Obj))(s:Shared)(σ:St)(H:Hp)(x y:V)(v u:Value)(Q:VK),Inv X pins σ H s->RelV x v->RelV y u->r x y H Q ->
  subscripted slice false v u=operate [v,u] (getItem v u)->wpAny (model X.prog X.w) X.A (subscriptTail value slice v u) (EP X pins σ Q) X.xe s
noncomputable def Gz (X:Cx)(id:String)(r:V->List V->Hp->VK->Prop):Prop :=
 ∀(pins:List (Addr×Obj))(s:Shared)(σ:St)(H:Hp)(x:V)(xs:List V)(v:Value)(us:List Value)(Q:VK),Inv X pins σ H s->RelV x v->Vals xs us->r x xs H Q ->
  wpAny (model X.prog X.w) X.A (call (.builtin id) (v::us)) (EP X pins σ Q) X.xe s
section
variable {X:Cx}{a b:Expr}{ta tb:TE}{pos:Pos}
theorem IxR.or {r r':R2}(h:IxR X r)(h':IxR X r'):IxR X (fun x y H Q=>r x y H Q\/r' x y H Q):=by
 intro value slice pins s σ H x y v u Q I rx ry q hs
 rcases q with q | q
 ·exact h value slice pins s σ H x y v u Q I rx ry q hs
 ·exact h' value slice pins s σ H x y v u Q I rx ry q hs
theorem Zjc {r:R2}(hr:IxR X r)(ha:PE X a ta)(hb:PE X b tb)(hs:Os b):PE X (.Subscript a b pos) (E3 r ta tb):=by
 intro pins s σ H Q I h
 exact Subscript_ (Nt ha hb I h fun v u s2 x y H2 I2 rx ry q=>hr a b pins s2 σ H2 x y v u Q I2 rx ry q (hs _ _))
noncomputable def rIxL (K:O9):R2:=fun x y H Q=>∃ p xs i v,x=.ref p/\y=.int i/\SqL K H p xs/\B5 xs i=some v/\Q v H
noncomputable def rIxT (K:O9):R2:=fun x y H Q=>∃ p xs i v,x=.ref p/\y=.int i/\SqT K H p xs/\B5 xs i=some v/\Q v H
noncomputable def rIxS:R2:=fun x y H Q=>∃ z i c,x=.str z/\y=.int i/\z.length<=sizeLine/\B5 z.cps.toList i=some c/\Q (.str ⟨#[c]⟩) H
theorem ix_list:IxR X (rIxL X.K):=by
 intro value slice pins s σ H x y v u Q I rx ry h hs
 obtain ⟨p,xs,i,z,rfl,rfl,hq,he,q⟩:=h
 cases rx
 obtain ⟨t,rfl⟩:=ry
 obtain ⟨its,r,pl,hz⟩:=I.list hq
 obtain ⟨j,h1,h2,h3,h4,h5⟩:=O4 he
 obtain ⟨w,ew,rw'⟩:=r.get h2
 have hl:=r.length
 have hn:=Hn
 have fin:EP X pins σ Q w s:=⟨z,H,I,rw',q⟩
 by_cases h0:0<=i
 ·have hj:i.toNat=j:=by
   rw [seqIndex_of h0 h5] at h1
   exact Po h1
  exact item_listR pl.isList h0 (by omega) (by rw [hj];simpa using ew) fin hs
 ·have hj:(i+(its.toArray.size:Int)).toNat=j:=by
   rw [seqIndex_neg (by omega) h4] at h1
   rw [Pf,<- hl]
   exact Po h1
  exact subscriptTail_builtinR (x:=w) pl.isList.typeIs slot_list_getitem.lookup
   (wpAny_getItem_list_neg (Q:=fun r s'=>r=w/\EP X pins σ Q r s') pl.isList (by omega) (by rw [Pf] <;> omega) (by omega) (by rw [hj];simpa using ew) ⟨rfl,fin⟩) hs
theorem ix_tup:IxR X (rIxT X.K):=by
 intro value slice pins s σ H x y v u Q I rx ry h hs
 obtain ⟨p,xs,i,z,rfl,rfl,hq,he,q⟩:=h
 cases rx
 obtain ⟨t,rfl⟩:=ry
 obtain ⟨its,r,pl,hz⟩:=I.tuple hq
 obtain ⟨j,h1,h2,h3,h4,h5⟩:=O4 he
 obtain ⟨w,ew,rw'⟩:=r.get h2
 have hl:=r.length
 have hn:=Hn
 have fin:EP X pins σ Q w s:=⟨z,H,I,rw',q⟩
 exact subscriptTail_builtinR (x:=w) pl.typeIs slot_tuple_getitem.lookup
  (getItem_tuple (j:=j) (Q:=fun r s'=>r=w/\EP X pins σ Q r s') pl (by omega) (by omega) (by rw [Pf,<- hl];exact h1) (by simpa using ew) ⟨rfl,fin⟩) hs
theorem Zm0:IxR X rIxS:=by
 intro value slice pins s σ H x y v u Q I rx ry h hs
 obtain ⟨z,i,c,rfl,rfl,hz,he,q⟩:=h
 obtain ⟨t,rfl⟩:=rx
 obtain ⟨t',rfl⟩:=ry
 obtain ⟨j,h1,h2,h3,h4,h5⟩:=O4 he
 have hl:z.cps.toList.length=z.length:=by simp [Str.length]
 rw [hl] at h1 h4 h5
 have hn:=Hn
 exact tail_any (typeIs_str s z t) slot_str_getitem.lookup (getItem_str (c:=c) (by
  have e1:decide (i < -(2 ^ 63:Int))=false:=decide_eq_false (by omega)
  have e2:decide (i ≥ 2 ^ 63)=false:=decide_eq_false (by omega)
  rw [e1,e2,U4]) (by rw [h1];simpa using h2) ⟨.str ⟨#[c]⟩,H,I.tok _,⟨_,rfl⟩,q⟩) hs
noncomputable def Hh (K:O9):R2:=fun x y H Q=>rIxL K x y H Q\/rIxT K x y H Q\/rIxS x y H Q
theorem Zh3:IxR X (Hh X.K):=ix_list.or (ix_tup.or Zm0)
theorem Znk (its:List Value)(n j:Nat)(u:Value):Qj (·.setIfInBounds j u) { cls:=.type "list",data:=.seq its.toArray n }={ cls:=.type "list",data:=.seq (its.set j u).toArray n }:=by
 simp [Qj]
theorem Inv.lst {pins:List (Addr×Obj)}{σ:St}{H:Hp}{s:Shared}{p:Addr}{xs:List V}(I:Inv X pins σ H s)(h:H p=some (.lst xs)) :
  ∃(its:List Value)(n:Nat),Vals xs its/\s.heap.get? p=some { cls:=.type "list",data:=.seq its.toArray n }/\xs.length<=sizeLine:=by
 obtain ⟨z,its,n,r,e⟩:=I.hok p _ h
 exact ⟨its,n,r,e,z⟩
theorem Inv.lstUpd {pins:List (Addr×Obj)}{σ:St}{H:Hp}{s:Shared}{p:Addr}{xs ys:List V}{its its':List Value}{n n':Nat}{f:Obj->Obj}(I:Inv X pins σ H s)(h:H p=some (.lst xs))
  (ho:s.heap.get? p=some { cls:=.type "list",data:=.seq its.toArray n }) (hf:f { cls:=.type "list",data:=.seq its.toArray n }={ cls:=.type "list",data:=.seq its'.toArray n' }) (r:Vals ys its') (hz:ys.length<=sizeLine) (t:Nat) :
  Inv X pins σ (upd H p (.lst ys)) { s with heap:=s.heap.update p f,toks:=t }:=by
 have e:(s.heap.update p f).get? p=some { cls:=.type "list",data:=.seq its'.toArray n' }:=by
  rw [Se f ho (by rw [hf] <;> rfl),hf]
 refine I.write (x:=p) (e:=p) (by rw [h];trivial) (.inl rfl) (fun b u hb q=>(Sc _ _ (P9 hb)).trans q) ⟨_,e⟩ ?_
 exact ⟨hz,its',n',r,e⟩
noncomputable def Zem:V->V->V->Hp->(Hp->Prop)->Prop:=fun o i v H Q=>∃ p xs k j,o=.ref p/\i=.int k/\H p=some (.lst xs)/\Da xs.length k=some j/\Q (upd H p (.lst (xs.set j v)))
theorem Zbb:Zap X Zem:=by
 intro pins s σ H o i v ov iv u Q I ro ri rv h
 obtain ⟨p,xs,k,j,rfl,rfl,hp,hj,q⟩:=h
 cases ro
 obtain ⟨t,rfl⟩:=ri
 obtain ⟨its,n,r,ho,hz⟩:=I.lst hp
 obtain ⟨h1,h2,h3,h4⟩:=Zbw hj
 have hl:=r.length
 have hn:=Hn
 have I':Inv X pins σ (upd H p (.lst (xs.set j v))) { s with heap:=s.heap.update p (Qj (·.setIfInBounds j u)) } :=
  I.lstUpd hp ho (Znk its n j u) (r.set rv j) (by rw [Qd];exact hz) s.toks
 by_cases h0:0<=k
 ·have hk:k.toNat=j:=by
   rw [seqIndex_of h0 h4] at h1
   exact Po h1
  exact PySem.W.ki_setAt ho h0 (by omega) (by rw [Pf,<- hl];exact h4) (by rw [hk];exact ⟨_,I',q⟩)
 ·have hk:(k+(its.toArray.size:Int)).toNat=j:=by
   rw [seqIndex_neg (by omega) h3] at h1
   rw [Pf,<- hl]
   exact Po h1
  exact PySem.W.ki_setBack ho (by omega) (by rw [Pf,<- hl];exact h3) (by omega) (by rw [hk];exact ⟨_,I',q⟩)
theorem Zlt (lo hi:Option Int)(n:Nat):(sliceBounds lo hi none n).1=((HT.sIx n 0 lo:Nat):Int)/\(sliceBounds lo hi none n).2.1=((HT.sIx n n hi:Nat):Int)/\(sliceBounds lo hi none n).2.2=1:=by
 refine ⟨?_,?_,rfl⟩
 ·cases lo with
  | none=>simp [sliceBounds,HT.sIx]
  | some i =>
   simp only [sliceBounds,HT.sIx,Option.getD_none,show (1:Int) > 0 by decide,if_true]
   by_cases h:i < 0
   ·simp only [h,if_true] <;> omega
   ·simp only [h,if_false] <;> omega
 ·cases hi with
  | none=>simp [sliceBounds,HT.sIx]
  | some i =>
   simp only [sliceBounds,HT.sIx,Option.getD_none,show (1:Int) > 0 by decide,if_true]
   by_cases h:i < 0
   ·simp only [h,if_true] <;> omega
   ·simp only [h,if_false] <;> omega
theorem Zn0 (its:List Value)(lo hi:Option Int):slicePick its.toArray lo hi none=((its.drop (HT.sIx its.length 0 lo)).take (HT.sIx its.length its.length hi - HT.sIx its.length 0 lo)).toArray:=by
 obtain ⟨h1,h2,h3⟩:=Zlt lo hi its.toArray.size
 unfold slicePick
 rw [h1,h2,h3]
 simp only [sliceRange_one,pick_run,Pf] <;> rfl
noncomputable def N5 (K:O9):V->Option Int->Option Int->Hp->VK->Prop:=fun x lo hi H Q=>∃ a xs,x=.ref a/\SqL K H a xs/\∀ p,H p=none->Q (.ref p) (upd H p (.lst (Bq xs lo hi)))
theorem sl_list:SlR X (N5 X.K):=by
 intro pins s σ H x v vl vu lo hi sl Q I rx hs pl pu h
 obtain ⟨a,xs,rfl,hx,q⟩:=h
 cases rx
 obtain ⟨its,r,ht,hz⟩:=I.list hx
 have hlen:=r.length
 refine ⟨"list",_,slot_list_getitem.lookup,ht.isList.typeIs,?_⟩
 refine wpAny_getItem_list_slice ht.isList hs pl pu .none (by simp) ?_ (by rw [Pf] <;> omega)
 rw [Zn0,<- hlen]
 refine ⟨.ref s.heap.objs.size,_,I.laid (t':=s.toks) (o:=.lst (Bq xs lo hi)) (fun b ob q=>Pk _ q) (Pc _) ?_,rfl,q _ (I.hok.fresh (Pc _))⟩
 exact ⟨P5 (Zci xs lo hi) hz,_,0,(r.drop (HT.sIx xs.length 0 lo)).take (HT.sIx xs.length xs.length hi - HT.sIx xs.length 0 lo),P0 _ rfl⟩
noncomputable def C2:V->Bool
 | .non=>true
 | .bl _=>true
 | .int _=>true
 | .str _=>true
 | _=>false
noncomputable def Ea:V->V->Bool
 | .non,.non=>true
 | .bl a,.bl b=>a == b
 | .bl a,.int b=>(if a then 1 else 0) == b
 | .int a,.bl b=>a == (if b then 1 else 0)
 | .int a,.int b=>a == b
 | .str a,.str b=>a == b
 | _,_=>false
theorem Oc {A:Around}{s:Shared}{y x:V}{u v:Value}(ry:RelV y u)(rx:RelV x v)(fy:C2 y=true)(fx:C2 x=true):Pn A s u v (Ea y x):=by
 cases y with
 | non =>
  cases ry
  cases x with
  | non=>cases rx;exact Uz _
  | bl b=>cases rx;exact Pn.none_bool b
  | int b=>obtain ⟨t,rfl⟩:=rx;exact Pn.none_int b t
  | str b=>obtain ⟨t,rfl⟩:=rx;exact Pn.none_str b t
  | _=>exact absurd (show false=true from fx) Pp
 | bl a =>
  cases ry
  cases x with
  | non=>cases rx;exact Pn.bool_none a
  | bl b=>cases rx;exact Pn.bool_bool a b
  | int b=>obtain ⟨t,rfl⟩:=rx;exact Pn.bool_int a b t
  | str b=>obtain ⟨t,rfl⟩:=rx;exact Pn.bool_str a b t
  | _=>exact absurd (show false=true from fx) Pp
 | int a =>
  obtain ⟨t',rfl⟩:=ry
  cases x with
  | non=>cases rx;exact Pn.int_none a t'
  | bl b=>cases rx;exact Pn.int_bool a t' b
  | int b=>obtain ⟨t,rfl⟩:=rx;exact Tl a t' b t
  | str b=>obtain ⟨t,rfl⟩:=rx;exact Pn.int_str a t' b t
  | _=>exact absurd (show false=true from fx) Pp
 | str a =>
  obtain ⟨t',rfl⟩:=ry
  cases x with
  | non=>cases rx;exact Pn.str_none a t'
  | bl b=>cases rx;exact Pn.str_bool a t' b
  | int b=>obtain ⟨t,rfl⟩:=rx;exact Pn.str_int a t' b t
  | str b=>obtain ⟨t,rfl⟩:=rx;exact Pn.str_str a t' b t
  | _=>exact absurd (show false=true from fx) Pp
 | _=>exact absurd (show false=true from fy) Pp
noncomputable def E8 (x:V)(u:Value):Bool:=match u with
 | .none=>Ea .non x
 | .bool b=>Ea (.bl b) x
 | .int i _=>Ea (.int i) x
 | .str z _=>Ea (.str z) x
 | _=>false
theorem Zbh {x y:V}{u:Value}(r:RelV y u)(f:C2 y=true):E8 x u=Ea y x:=by
 cases y with
 | non=>cases r;rfl
 | bl b=>cases r;rfl
 | int i=>obtain ⟨t,rfl⟩:=r;rfl
 | str z=>obtain ⟨t,rfl⟩:=r;rfl
 | _=>exact absurd (show false=true from f) Pp
theorem Ob {x:V}:∀{xs:List V}{us:List Value},Vals xs us->xs.all C2=true->us.any (E8 x)=xs.any fun y=>Ea y x
 | _,_,.nil,_=>rfl
 | y::xs,u::us,.cons r t,f=>by
  rw [U5,Rr] at f
  rw [Ua,Ua,Zbh r f.1,Ob t f.2]
theorem Oe {A:Around}{s:Shared}{x:V}{v:Value}(rx:RelV x v)(fx:C2 x=true):∀{xs:List V}{us:List Value},Vals xs us->xs.all C2=true->∀ u∈us,Pn A s u v (E8 x u)
 | _,_,.nil,_=>fun u hu=>by cases hu
 | y::xs,u::us,.cons r t,f=>fun u' hu=>by
  rw [U5,Rr] at f
  rcases Ph.mp hu with rfl | hu
  ·rw [Zbh r f.1];exact Oc r rx f.1 fx
  ·exact Oe rx fx t f.2 u' hu
noncomputable def E7 (x:V)(xs:List V):Bool:=xs.any fun y=>Ea y x
noncomputable def rIn (K:O9)(neg:Bool):R2:=fun x y H Q=>∃ p xs,y=.ref p/\(SqL K H p xs\/SqT K H p xs)/\C2 x=true/\xs.all C2=true/\Q (.bl (if neg then !E7 x xs else E7 x xs)) H
theorem op_in_seq:OpR X (compareOp .In) (rIn X.K false):=by
 intro pins s σ H x y v u Q I rx ry h
 obtain ⟨p,xs,rfl,hq,fx,fs,q⟩:=h
 cases ry
 rcases hq with hq | hq
 ·obtain ⟨its,r,pl,hz⟩:=I.list hq
  refine SeqAt.in_listAt (E8 x) pl.isList (fun w hw=>Oe rx fx r fs w (by simpa using hw)) ⟨.bl _,H,I,rfl,?_⟩
  rw [show its.toArray.any (E8 x)=its.any (E8 x) by simp,Ob r fs]
  exact q
 ·obtain ⟨its,r,pl,hz⟩:=I.tuple hq
  refine SeqAt.in_tupleAt (E8 x) pl (fun w hw=>Oe rx fx r fs w (by simpa using hw)) ⟨.bl _,H,I,rfl,?_⟩
  rw [show its.toArray.any (E8 x)=its.any (E8 x) by simp,Ob r fs]
  exact q
theorem Zjy:C3 X (.type "list") (fun xs H Q=>∃ p ys,xs=[.ref p]/\(SqL X.K H p ys\/SqT X.K H p ys)/\∀ l,H l=none->Q (.ref l) (upd H l (.lst ys))):=by
 intro pins s σ H xs us Q I r h
 obtain ⟨p,ys,rfl,hq,q⟩:=h
 obtain ⟨u,rfl,rx⟩:=Je r
 cases rx
 have fin:∀(its:List Value),Vals ys its->ys.length<=sizeLine->∀(h':Heap)(c':Nat),(∀ b o',s.heap.get? b=some o'->h'.get? b=some o') ->
   h'.get? s.heap.objs.size=some { cls:=.type "list",dict:=none,data:=.seq its.toArray c',slots:=#[] }->EP X pins σ Q (.ref s.heap.objs.size) { s with heap:=h' }:=fun its r' hz h' c' kp e =>
  ⟨.ref s.heap.objs.size,_,I.laid (t':=s.toks) kp (Pc _) (show ObjOk X.prog X.w _ h' _ (.lst ys) from ⟨hz,its,c',r',e⟩),rfl,q _ (I.hok.fresh (Pc _))⟩
 rcases hq with hq | hq
 ·obtain ⟨its,r',pl,hz⟩:=I.list hq
  have hlen:=r'.length
  obtain ⟨o,ho,hc,n,hd⟩:=pl.isList
  exact call_list_seq p (.inl rfl) ho hc hd (fun h' c' kp e=>fin its r' hz h' c' kp e) (by simp only [Pf] <;> omega)
 ·obtain ⟨its,r',pl,hz⟩:=I.tuple hq
  have hlen:=r'.length
  obtain ⟨o,ho,hc,n,hd⟩:=pl
  exact call_list_seq p (.inr rfl) ho hc hd (fun h' c' kp e=>fin its r' hz h' c' kp e) (by simp only [Pf] <;> omega)
theorem Zh8:C3 X (.type "tuple") (fun xs H Q=>∃ p ys,xs=[.ref p]/\((SqL X.K H p ys/\∀ l,H l=none->Q (.ref l) (upd H l (.tup ys)))\/(SqT X.K H p ys/\Q (.ref p) H))):=by
 intro pins s σ H xs us Q I r h
 obtain ⟨p,ys,rfl,h⟩:=h
 obtain ⟨u,rfl,rx⟩:=Je r
 cases rx
 rcases h with ⟨hq,q⟩ | ⟨hq,q⟩
 ·obtain ⟨its,r',pl,hz⟩:=I.list hq
  have hlen:=r'.length
  refine call_tuple_list pl.isList (fun h' kp=>?_) (by simp only [Pf] <;> omega)
  have I1:Inv X pins σ H { s with heap:=h' }:=I.kept (t':=s.toks) kp
  have I2:Inv X pins σ (upd H h'.objs.size (.tup ys)) { s with heap:=h'.push { cls:=.type "tuple",data:=.seq its.toArray } } :=
   I1.laid (t':=s.toks) (fun b o e=>Pk _ e) (Pc _) (show ObjOk X.prog X.w _ _ _ (.tup ys) from ⟨hz,its,r',IsTup.new _ _⟩)
  exact ⟨.ref h'.objs.size,_,I2,rfl,q _ (I1.hok.fresh (Pc _))⟩
 ·obtain ⟨its,r',pl,hz⟩:=I.tuple hq
  exact call_tuple_same pl ⟨.ref p,H,I,rfl,q⟩
noncomputable def Gx (K:O9)(T:String)(x:V)(H:Hp):Prop:=match x with
 | .str _=>T = "str"
 | .int _=>T = "int"
 | .ref p=>(T = "list" /\ ∃ xs,SqL K H p xs)\/(T = "tuple" /\ ∃ o,K.lookup p=some o/\o.cls=.type "tuple" /\ o.dict=none) \/
   (T = "dict" /\ ((∃ kvs,H p=some (.dK kvs))\/∃ kvs,H p=some (.dT kvs)))\/(T = "set" /\ ∃ S n,H p=some (.set S n))
 | _=>False
theorem Zb7 {pins:List (Addr×Obj)}{σ:St}{H:Hp}{s:Shared}{T:String}{x:V}{v:Value}(I:Inv X pins σ H s)(r:RelV x v)(ty:Gx X.K T x H) :
  s.TypeIs v T/\∀ a,v=.ref a->∃ ob,s.heap.get? a=some ob/\ob.dict=none:=by
 cases x with
 | str z =>
  obtain ⟨t,rfl⟩:=r
  cases (show T = "str" from ty)
  exact ⟨typeIs_str s z t,fun _ e=>nomatch e⟩
 | int i =>
  obtain ⟨t,rfl⟩:=r
  cases (show T = "int" from ty)
  exact ⟨typeIs_int s i t,fun _ e=>nomatch e⟩
 | ref p =>
  cases r
  rcases ty with ⟨rfl,xs,hq⟩ | ⟨rfl,o,hk,hc,hd⟩ | ⟨rfl,hk⟩ | ⟨rfl,S,n,hk⟩
  ·obtain ⟨its,_,pl,_⟩:=I.list hq
   refine ⟨pl.isList.typeIs,fun a e=>?_⟩
   cases e
   obtain ⟨o,n,e,c,hd,_⟩:=pl
   exact ⟨o,e,hd⟩
  ·refine ⟨⟨o,I.kIn p o hk,hc⟩,fun a e=>?_⟩
   cases e
   exact ⟨o,I.kIn _ o hk,hd⟩
  ·have z:∃ o,s.heap.get? p=some o/\o.ExactDict:=by
    rcases hk with ⟨kvs,hk⟩ | ⟨kvs,hk⟩
    ·obtain ⟨_,_,_,_,o,_,_,e,ex,_⟩:=I.hok p _ hk
     exact ⟨o,e,ex⟩
    ·obtain ⟨_,_,_,_,o,_,_,e,ex,_⟩:=I.hok p _ hk
     exact ⟨o,e,ex⟩
   obtain ⟨o,e,ex⟩:=z
   refine ⟨⟨o,e,ex.1⟩,fun a e2=>?_⟩
   cases e2
   exact ⟨o,e,ex.2.1⟩
  ·obtain ⟨o,_,_,_,e,ex,_⟩:=I.hok p _ hk
   refine ⟨⟨o,e,ex.1⟩,fun a e2=>?_⟩
   cases e2
   exact ⟨o,e,ex.2.1⟩
 | _=>exact Ra ty
noncomputable def L3 (K:O9)(T:String)(r:V->List V->Hp->VK->Prop)(to:TE):TE:=fun σ H Q=>to σ H fun x H1=>Gx K T x H1/\r x [] H1 Q
noncomputable def tBM (K:O9)(T:String)(r:V->List V->Hp->VK->Prop)(to:TE)(t:TA):TE:=fun σ H Q=>to σ H fun x H1=>Gx K T x H1/\t σ H1 fun xs H2=>r x xs H2 Q
variable {o e:Expr}{es:List Expr}{to:TE}{t:TA}{name:Str}{apos cpos:Pos}{T id:String}{r:V->List V->Hp->VK->Prop}
theorem Zlf (pa:PlainAttrs T)(slot:Slot T name id)(hty:typeOf (.builtin id)=pure (.type "method_descriptor"))(hm:Gz X id r)(ho:PE X o to)
  (hbase:attributeBase o name X.env (eval o X.env)=eval o X.env:=by rfl) (hline:(apos.endLine == cpos.line)=true:=by rfl):PE X (.Call (.Attribute o name apos) [] [] cpos) (L3 X.K T r to):=by
 intro pins s σ H Q I h
 refine wpAny_Call_method0_late hbase hline (Ak (ho pins s σ H _ I h) fun v s1 zq=>?_)
 obtain ⟨x,H1,I1,r1,ty,q1⟩:=zq
 obtain ⟨h1,h2⟩:=Zb7 I1 r1 ty
 exact ⟨T,id,pa,slot,hty,h1,h2,Uq rfl (PySem.evalArgs_none (hm pins s1 σ H1 x [] v [] Q I1 r1 .nil q1))⟩
theorem Zom (pa:PlainAttrs T)(slot:Slot T name id)(hty:typeOf (.builtin id)=pure (.type "method_descriptor"))(hm:Gz X id r)(ho:PE X o to)(ha:PA X (e::es) t)
  (hbase:attributeBase o name X.env (eval o X.env)=eval o X.env:=by rfl)
  (hfew:((backTo cpos (starEach (e::es) X.env)).all (fun x=>!x.1) && (backToKw cpos (keywordEach [] X.env)).all (fun x=>x.1.isSome)
   && decide ((e::es).length+([]:List Keyword).length+(if ([]:List Keyword).isEmpty then 0 else 1) < 30))=true:=by rfl)
  (hline:(apos.endLine == cpos.line)=true:=by rfl) (hs:starEach (e::es) X.env=(false,eval e X.env)::starEach es X.env:=by rfl) (hplain:(backTo cpos (starEach es X.env)).any (·.1)=false:=by rfl) :
  PE X (.Call (.Attribute o name apos) (e::es) [] cpos) (tBM X.K T r to t):=by
 intro pins s σ H Q I h
 refine wpAny_Call_method_late hbase hfew hline rfl (Ak (ho pins s σ H _ I h) fun v s1 zq=>?_)
 obtain ⟨x,H1,I1,r1,ty,q1⟩:=zq
 obtain ⟨h1,h2⟩:=Zb7 I1 r1 ty
 refine ⟨T,id,pa,slot,hty,h1,h2,?_⟩
 have hA:=ha cpos pins s1 σ H1 _ I1 q1
 rw [hs] at hA ⊢
 refine Uq (by show (false || (backTo cpos (starEach es X.env)).any (·.1))=false;rw [hplain] <;> rfl) (Vo ?_)
 exact Ak hA fun us s2 ⟨vs,H2,I2,r2,q2⟩=>hm pins s2 σ H2 x vs v us Q I2 r1 r2 q2
end
noncomputable def MtM (X:Cx)(id:String)(r:V->List V->Hp->VK->Prop):Prop :=
 ∀(pins:List (Addr×Obj))(s:Shared)(σ:St)(H:Hp)(x:V)(xs:List V)(v:Value)(us:List Value)(Q:VK),Inv X pins σ H s->RelV x v->Vals xs us->r x xs H Q ->
  wpAny (model X.prog X.w) X.A (call (.builtin id) (v::us)) (EP X pins σ Q) X.xe s
theorem Vals.one:∀{x:V}{us:List Value},Vals [x] us->∃ u,us=[u]/\RelV x u
 := fun h=>by
 cases h with
 | cons r t =>
 cases t
 exact ⟨_,rfl,r⟩
theorem Vals.two:∀{x y:V}{us:List Value},Vals [x,y] us->∃ u v,us=[u,v]/\RelV x u/\RelV y v
 := fun h=>by
 cases h with
 | cons r t =>
 cases t with
 | cons q z =>
 cases z
 exact ⟨_,_,rfl,r,q⟩
theorem Vals.zero:∀{us:List Value},Vals [] us->us=[]
 | _,.nil=>rfl
theorem Vals.dropLast {xs:List V}{us:List Value}(h:Vals xs us):Vals xs.dropLast us.dropLast:=by
 induction h with
 | nil=>exact .nil
 | cons r t ih =>
  cases t with
  | nil=>exact .nil
  | cons q t'=>exact .cons r ih
theorem Vals.rep {xs:List V}{us:List Value}(h:Vals xs us):∀ k:Nat,Vals (Qq k xs).flatten (Qq k us).flatten
 | 0=>.nil
 | k+1=>by
  rw [Tj,Tj,Ts,Ts]
  exact Vals.append h (Vals.rep h k)
theorem Zpz {α:Type}(l:List α):l.eraseIdx (l.length - 1)=l.dropLast:=by
 induction l with
 | nil=>rfl
 | cons a r ih =>
  cases r with
  | nil=>rfl
  | cons b r =>
   have e:(a::b::r).length - 1=((b::r).length - 1)+1:=by
    have h1:(a::b::r).length=r.length+2:=rfl
    have h2:(b::r).length=r.length+1:=rfl
    omega
   rw [e,List.eraseIdx_cons_succ,ih]
   all_goals rfl
theorem Zgk (its:List Value):∀(k:Nat)(acc:List Value),
  List.foldl (fun x1 x2=>x1++x2) acc.toArray (Qq k its.toArray)=(acc++(Qq k its).flatten).toArray
 | 0,acc=>by simp
 | k+1,acc=>by
  have e:acc.toArray++its.toArray=(acc++its).toArray:=by simp
  have e2:(acc++its)++(Qq k its).flatten=acc++(Qq (k+1) its).flatten:=by
   rw [Tj,Ts,Qi]
  rw [<- e2,<- Zgk its k (acc++its),<- e,Tj,List.foldl_cons]
section
variable {X:Cx}{pins:List (Addr×Obj)}{σ:St}{H:Hp}{s:Shared}{l b:Addr}{xs ys zs:List V}
theorem Inv.lset {its its':List Value}{n:Nat}{f:Array Value->Array Value}{t':Nat}(I:Inv X pins σ H s)(hH:H l=some (.lst xs))
  (e:s.heap.get? l=some { cls:=.type "list",data:=.seq its.toArray n }) (hf:f its.toArray=its'.toArray) (hv:Vals ys its') (hz:ys.length<=sizeLine) :
  Inv X pins σ (upd H l (.lst ys)) { s with heap:=s.heap.update l (Qj f),toks:=t' }:=by
 have q:=PySem.IsL.update e f
 rw [hf] at q
 refine I.write (x:=l) (e:=l) (by rw [hH];exact trivial) (.inl rfl) (fun b' u hb hu=>(Sc s.heap (Qj f) (P9 hb)).trans hu) ⟨_,q⟩ ?_
 exact ⟨hz,its',_,hv,q⟩
theorem Inv.lnew {its:List Value}{t':Nat}(I:Inv X pins σ H s)(hv:Vals ys its)(hz:ys.length<=sizeLine) :
  Inv X pins σ (upd H s.heap.objs.size (.lst ys)) { s with heap:=s.heap.push { cls:=.type "list",data:=.seq its.toArray },toks:=t' } :=
 I.laid (fun _ _ q=>Pk _ q) (Pc _) ⟨hz,its,0,hv,P0 _ rfl⟩
theorem Inv.fresh (I:Inv X pins σ H s):H s.heap.objs.size=none:=I.hok.fresh (Pc _)
theorem Inv.lstM (I:Inv X pins σ H s)(hH:H l=some (.lst xs)):xs.length<=sizeLine/\∃(its:List Value)(n:Nat),Vals xs its/\xs.length=its.length/\s.heap.get? l=some { cls:=.type "list",data:=.seq its.toArray n }:=by
 obtain ⟨z,its,n,r,e⟩:=I.hok l _ hH
 exact ⟨z,its,n,r,r.length,e⟩
theorem Zac {n:Nat}(h:n<=sizeLine):Sb n=false:=by
 unfold Sb
 exact decide_eq_false (by omega)
end
section
variable {X:Cx}
noncomputable def Zco:V->List V->Hp->VK->Prop:=fun x vs H Q=>∃ l xs y,x=.ref l/\vs=[y]/\H l=some (.lst xs)/\xs.length < sizeLine/\Q .non (upd H l (.lst (xs++[y])))
theorem Di:MtM X "list.append" Zco:=by
 intro pins s σ H x vs v us Q I rx rv h
 obtain ⟨l,xs,y,rfl,rfl,hH,hz,q⟩:=h
 cases rx
 obtain ⟨u,rfl,ru⟩:=rv.one
 obtain ⟨z,its,n,r,hl,e⟩:=I.lstM hH
 refine Ta F.slot_list_append ⟨_,e,rfl⟩ F.entry_list_append (F.args_list_append_2 _ _) (PySem.list_append l its.toArray n u (by rw [Pf];omega)) ⟨e,?_⟩
 refine ⟨.non,_,I.lset (its':=its++[u]) hH e (by simp) (r.append (.cons ru .nil)) ?_,rfl,q⟩
 rw [Pl,Qa]
 omega
noncomputable def Zeu:V->List V->Hp->VK->Prop:=fun x vs H Q=>∃ l b xs zs,x=.ref l/\vs=[.ref b]/\H l=some (.lst xs)/\H b=some (.lst zs)/\xs.length+zs.length<=sizeLine/\Q .non (upd H l (.lst (xs++zs)))
theorem Zit:MtM X "list.extend" Zeu:=by
 intro pins s σ H x vs v us Q I rx rv h
 obtain ⟨l,b,xs,zs,rfl,rfl,hH,hB,hz,q⟩:=h
 cases rx
 obtain ⟨u,rfl,ru⟩:=rv.one
 cases ru
 obtain ⟨z,its,n,r,hl,e⟩:=I.lstM hH
 obtain ⟨z2,its2,n2,r2,hl2,e2⟩:=I.lstM hB
 have hsz:its.toArray.size+its2.toArray.size<=sizeLine:=by rw [Pf,Pf];omega
 have hlong:¬ (!its.toArray.isEmpty && Sb (its.toArray.size+its2.toArray.size))=true:=by
  rw [Zac hsz,Bool.and_false]
  exact Pp
 refine Ta F.slot_list_extend ⟨_,e,rfl⟩ F.entry_list_extend (F.args_list_extend_2 _ _)
  (AutoSeq1.list_extend_list_list_0 l its.toArray n b its2.toArray n2 hlong (by rw [Pf];omega) (by omega)) ⟨e,e2,?_⟩
 refine ⟨.non,_,I.lset (its':=its++its2) hH e (by simp) (r.append r2) ?_,rfl,q⟩
 rw [Pl]
 omega
noncomputable def rPop:V->List V->Hp->VK->Prop:=fun x vs H Q=>∃ l xs y,x=.ref l/\vs=[]/\H l=some (.lst xs)/\xs[xs.length - 1]?=some y/\Q y (upd H l (.lst xs.dropLast))
theorem Jv:MtM X "list.pop" rPop:=by
 intro pins s σ H x vs v us Q I rx rv h
 obtain ⟨l,xs,y,rfl,rfl,hH,hy,q⟩:=h
 cases rx
 have hus:=rv.zero
 subst hus
 obtain ⟨z,its,n,r,hl,e⟩:=I.lstM hH
 obtain ⟨u,hu,ru⟩:=r.get hy
 have hy':its.toArray[its.toArray.size - 1]?=some u:=by
  show its.toArray[its.length - 1]?=some u
  rw [<- Array.getElem?_toList,<- hl]
  exact hu
 refine Ta F.slot_list_pop ⟨_,e,rfl⟩ F.entry_list_pop (F.args_list_pop_1 _) (MeetsSeq.list_pop_last l its.toArray n u hy' (by rw [Pf];omega)) ⟨e,?_⟩
 refine ⟨y,_,I.lset (its':=its.dropLast) hH e ?_ r.dropLast ?_,ru,q⟩
 ·show its.toArray.eraseIdxIfInBounds (its.toArray.size - 1)=its.dropLast.toArray
  rw [Pf,List.eraseIdxIfInBounds_toArray,Zpz]
 ·rw [List.length_dropLast]
  omega
noncomputable def rCat:R2:=fun x y H Q=>∃ l b xs zs,x=.ref l/\y=.ref b/\H l=some (.lst xs)/\H b=some (.lst zs)/\xs.length+zs.length<=sizeLine/\∀ p,H p=none->Q (.ref p) (upd H p (.lst (xs++zs)))
theorem op_cat:OpR X (binaryOp .Add) rCat:=by
 intro pins s σ H x y v u Q I rx ry h
 obtain ⟨l,b,xs,zs,rfl,rfl,hH,hB,hz,q⟩:=h
 cases rx
 cases ry
 obtain ⟨z,its,n,r,hl,e⟩:=I.lstM hH
 obtain ⟨z2,its2,n2,r2,hl2,e2⟩:=I.lstM hB
 refine PySem.P.add_list e e2 ?_ (by rw [Pf,Pf];omega)
 have ea:its.toArray++its2.toArray=(its++its2).toArray:=by simp
 rw [ea]
 exact ⟨.ref _,_,I.lnew (t':=s.toks) (r.append r2) (by rw [Pl];omega),rfl,q _ I.fresh⟩
noncomputable def rRep:R2:=fun x y H Q=>∃ l k xs,x=.ref l/\y=.int k/\H l=some (.lst xs)/\-(2 ^ 63)<=k/\k < 2 ^ 63/\xs.length * k.toNat<=sizeLine /\
 ∀ p,H p=none->Q (.ref p) (upd H p (.lst (Qq k.toNat xs).flatten))
theorem Zhb {α:Type}(xs:List α)(k:Nat):(Qq k xs).flatten.length=k * xs.length:=by
 induction k with
 | zero=>simp
 | succ k ih=>rw [Tj,Ts,Pl,ih,Nat.succ_mul,Nat.add_comm]
theorem Zjf:OpR X (binaryOp .Mult) rRep:=by
 intro pins s σ H x y v u Q I rx ry h
 obtain ⟨l,k,xs,rfl,rfl,hH,h1,h2,hz,q⟩:=h
 cases rx
 obtain ⟨t,rfl⟩:=ry
 obtain ⟨z,its,n,r,hl,e⟩:=I.lstM hH
 have hlen:its.toArray.size * k.toNat<=sizeLine:=by rw [Pf,<- hl];exact hz
 have hcap:¬ its.toArray.size * k.toNat > (2 ^ 63 - 1) / 8:=by
  have:(sizeLine:Nat)<=(2 ^ 63 - 1) / 8:=by decide
  omega
 have hfit:¬ (!Builtin.List.listFitsIndex k)=true:=by
  rw [fitsIndex_both h1 h2]
  exact Pp
 have hlong:¬ Sb (its.toArray.size * k.toNat)=true:=by
  rw [Zac hlen]
  exact Pp
 have hnew:List.foldl (fun x1 x2=>x1++x2) #[] (Qq (if its.toArray.isEmpty=true then 0 else k.toNat) its.toArray)=(Qq k.toNat its).flatten.toArray:=by
  have f0:∀ m:Nat,List.foldl (fun x1 x2=>x1++x2) #[] (Qq m its.toArray)=(Qq m its).flatten.toArray:=fun m=>by
   have:=Zgk its m []
   rw [Ru] at this
   exact this
  rw [f0]
  cases its with
  | nil=>simp
  | cons a r'=>rw [if_neg (by simp)]
 refine wpAny_binaryOp_repeat_ref (T := "list") (U := "int") (by decide) ⟨_,e,rfl⟩ (fun s'=>typeIs_int s' k t) noFill_list_mul F.fills_int_mul F.slot_int_rmul repeat_list F.slot_int_index.lookup
  (Ta F.slot_int_rmul (typeIs_int s k t) F.entry_int_rmul (F.args_int_rmul_2 _ _) (int___rmul___int_list k t l its.toArray n)
   ⟨e,rfl,⟨_,e,rfl⟩,Ta F.slot_list_mul ⟨_,e,rfl⟩ F.entry_list_mul (F.args_list_mul_2 _ _) (AutoListH.list___mul___list_int_3 l its.toArray n k t hfit hcap hlong) ⟨e,?_⟩⟩)
 rw [hnew]
 exact ⟨.ref _,_,I.lnew (t':=s.toks) (r.rep k.toNat) (by rw [Zhb,Nat.mul_comm];exact hz),rfl,q _ I.fresh⟩
end
section
variable {prog:Program}{w:World}{A:Around}{E:Value->Shared->Prop}{s:Shared}
end
section
variable {X:Cx}
end
end L2
namespace Att
open PySem PySem.W PySem.Calls PyProof.Rows
theorem Zid {P:Params}{h:Heap}:∀(ns:List Int)(vs:List Value),WellAll P h vs (ns.map WData.int)->IntsAre vs ns:=by
 intro ns
 induction ns with
 | nil =>
  intro vs w
  rw [Vb] at w
  cases w
  exact .nil
 | cons n ns ih =>
  intro vs w
  rw [Qg] at w
  cases w with
  | cons a b =>
   cases a
   exact .cons _ _ (ih _ b)
theorem Zl2 {l:OpenLaw}{n:Nat}(hn:l.most=some n){P:Params}{h:Heap}{args:List WData}{vals:List Value}
  (hpre:l.row.toRowW.claim.pre args=true) (hwl:WellAll P h vals args) :
  ∃ a vs ns,vals=[Value.ref a]/\args=[WData.list (ns.map WData.int)]/\h.get? a=some { cls:=.type "list",data:=.seq vs.toArray }/\IntsAre vs ns/\ns.length<=n:=by
 have hsh:WShape.hasAll [] args [.list .int]=true:=(pre_splitW hpre).1
 have hc:l.pre.holds [] { args:=args }=true:=(pre_splitW hpre).2
 obtain ⟨d,r,rfl,h1,h2⟩:=hasAllW_cons hsh
 obtain rfl:=hasAllW_nil h2
 obtain ⟨xs,rfl,h3⟩:=hasW_list h1
 obtain ⟨ns,rfl⟩:=items_int h3
 have hlen:ns.length<=n:=by
  unfold OpenLaw.pre at hc
  have h4:(WTm.not (.lt (.lit (.int (n:Int))) (.len (.arg 0)))).holds [] { args:=[.list (ns.map .int)] }=true:=by
   have h4:=(holds_andW hc).1
   rw [hn] at h4
   exact h4
  have h5:=condW_of h4 (w_not (w_lt w_lit (w_len_list (w_arg rfl))))
  rw [Pe] at h5
  refine Nat.le_of_not_lt fun q=>?_
  have q':(n:Int) < ((ns.length:Nat):Int):=by omega
  first
   | (rw [decide_eq_true q'] at h5;exact absurd h5 (by decide))
   | (simp at h5;omega)
 cases hwl with
 | cons w1 w2 =>
  cases w2
  cases w1 with
  | list ho hall=>exact ⟨_,_,ns,rfl,rfl,ho,Zid ns _ hall,hlen⟩
theorem Zp1 (l:OpenLaw)(args:List WData):l.row.toRowW.claim.post args (.bool true) args=true :=
 postW_of (r:=l.row.toRowW) (X:=(true == true))
  (show WShape.has [] (.bool true) .bool=true by first | rfl | decide | simp [WShape.has,WShape.arms,WShape.armsAll])
  (show (WTm.eq .res (.lit (.bool true))).value [] { args:=args,res:=some (.bool true),after:=args }=some (.bool (true == true)) from w_eq_bool (w_res rfl) w_lit) rfl
theorem attach_call {l:OpenLaw}{n:Nat}{q:Program}{loose:List Str}{XP:(Str->Option Value)->Heap->Prop}{YP:World->Heap->Prop}{d:DefRec}
  (hn:l.most=some n) (hdf:d.params.defaults=[])
  (call:∀(w:World)(s₀ s₁:Shared)(mg mb:Str->Option Value)(fa:Addr)(o:Obj)(pm cd doc:Value)(a:Addr)(vs:List Value)(ns:List Int),
   Ground q loose [] XP w s₀ mg mb s₁.heap->YP w s₁.heap ->
   s₁.heap.get? fa=some o->o.data=.func (docDef d.name d.params d.body d.scope pm cd doc)->s₁.heap.CodeRec cd d.name->mg d.name=some (.ref fa) ->
   s₁.heap.get? a=some { cls:=.type "list",data:=.seq vs.toArray }->IntsAre vs ns->ns.length<=n->s₁.gens=#[] ->
   codeAny (model l.prog w) callerA (.call (.ref fa) ⟨[.ref a],[]⟩) (fun r s'=>r=.ok (.ret (.bool true))/\OldK s₁.heap s'.heap/\s'.os=s₁.os/\AllBare s'.gens) s₁) :
  WalkO q loose XP YP l.row.toRowW d [] (fun f vs=>PySem.call f vs):=by
 intro w s₀ s₁ mg mb G Y fa o pm cd doc dV kV ho hd hcd hD hmg hg args vals as hpre hlay hrd hwl hlo
 obtain rfl:dV=.none:=Dflts.none hD hdf
 obtain rfl:kV=.none:=Dflts.noKw hD
 obtain ⟨a,vs,ns,rfl,rfl,hobj,hints,hlen⟩:=Zl2 hn hpre hwl
 refine enter_call (codeAny_mono (call w s₀ s₁ mg mb fa o pm cd doc a vs ns G Y ho (fd_plain hd) hcd hmg hobj hints hlen hg) fun r s' hq=>?_)
 obtain ⟨rfl,h2,h3,h4⟩:=hq
 exact ⟨.inl ⟨.bool true,.bool true,[],rfl,fun _=>rfl,.bool true,Zp1 l _,fun _=>⟨List.Pairwise.nil,fun _ hm=>(nomatch hm)⟩⟩,h2,h3,h4⟩
section
variable {prog:Program}{w:World}{A:Around}{E:Value->Shared->Prop}{s:Shared}{K:Frag}
end
end Att
namespace L2
open PySem PySem.Spec PyProof.Rows
theorem Zep:∀{vs:List Value}{ns:List Int},IntsAre vs ns->Vals (ns.map V.int) vs
 | _,_,.nil=>.nil
 | _,_,.cons n t h=>.cons ⟨t,rfl⟩ (Zep h)
noncomputable def Mk (H:Hp):Prop:=∀ b,H b=none\/∃ o xs,H b=some (.frz o (.lst xs))
theorem Zhy {P:Program}{w:World}{K:O9}{mg mb:Str->Option Value}{CX:Dp}{k:Nat}{fa a:Addr}{fd:FuncData}{x:Str}{sp:Sp}{s₁:Shared}{vs:List Value}{ns:List Int}
  (KX:K.In s₁.heap) (hns:s₁.heap.Ns mainGlobals mg) (hb:s₁.heap.Ns builtinsNs mb) (hbb:∀ x:Str,x ≠ "__name__" -> mb x=bootBuiltins x) (hlim:s₁.heap.NoLimit) (hg:s₁.gens=#[])
  (ha:s₁.heap.get? a=some { cls:=.type "list",data:=.seq vs.toArray }) (hi:IntsAre vs ns) (hl:ns.length<=sizeLine) (hr:Room k callerA)
  (F:∀ base:Heap,K.In base->base.Ns mainGlobals mg->Bb P w K mg base CX k fa fd [x] sp) (hbind:∀(s:Shared)(u:Value),BindsTo s fd ⟨[u],[]⟩ [(x,u)])
  (hsp:∀ H:Hp,Mk H->SqL K H a (ns.map V.int)->sp [.ref a] H (fun v _=>v=.bl true) fun _ _ _=>False)
  (hCX:∀ H e s',CX [] H s₁ (fun _ _ _=>False) e s'->False) :
  codeAny (model P w) callerA (.call (.ref fa) ⟨[.ref a],[]⟩) (fun r s'=>r=.ok (.ret (.bool true))/\OldK s₁.heap s'.heap/\s'.os=s₁.os/\AllBare s'.gens) s₁:=by
 have rv:=Zep hi
 have lenV:=hi.length
 have core:∀ H:Hp,Mk H->SqL K H a (ns.map V.int)->HOk P w H s₁.heap->(∀ b,H b≠none->b=a)->(H a≠none->K.lookup a=none) ->
   codeAny (model P w) callerA (.call (.ref fa) ⟨[.ref a],[]⟩) (fun r s'=>r=.ok (.ret (.bool true))/\OldK s₁.heap s'.heap/\s'.os=s₁.os/\AllBare s'.gens) s₁:=by
  intro H hO hS hok hA hK
  have base_of:∀{b:Addr}{o:Obj},s₁.heap.get? b=some o->H b=none->(Fb s₁.heap H).get? b=some o:=fun e n=>Zjh e n
  have noA:∀{b:Addr}{o:Obj}{es:Array DictEntry}{ep:Nat},s₁.heap.get? b=some o->o.data=.dict es ep->H b=none:=fun {b o es ep} e d=>by
   cases q:H b with
   | none=>rfl
   | some u =>
    have e':b=a:=hA b (by rw [q];simp)
    subst e'
    rw [ha] at e;cases e
    have d':Data.seq vs.toArray _=Data.dict es ep:=d
    cases d'
  have nsK:∀{b:Addr}{m:Str->Option Value},s₁.heap.Ns b m->(Fb s₁.heap H).Ns b m:=fun {b m} ⟨o,es,ep,e,d,r⟩=>⟨o,es,ep,base_of e (noA e d),d,r⟩
  have hKb:K.In (Fb s₁.heap H):=fun b o e=>base_of (KX b o e) (by
   cases q:H b with
   | none=>rfl
   | some u =>
    have e':b=a:=hA b (by rw [q];simp)
    subst e'
    rw [hK (by rw [q];simp)] at e;cases e)
  have hM:Mod K mg (Fb s₁.heap H):=⟨hKb,nsK hns,⟨mb,nsK hb,hbb⟩,let ⟨mc,h1,h2⟩:=hlim;⟨mc,nsK h1,h2⟩⟩
  have e0:Lc P w K mg (Fb s₁.heap H) callerA [] s₁ H:=⟨rfl,hM,fun b o e=>Zoh e,Nat.le_of_eq (Zoe _ _),trivial,fun b hb=>absurd (show b∈([]:List Addr) from hb) (by simp),hok,.of_eq hg⟩
  refine codeAny_mono ((F _ hKb (nsK hns)).run callerA [] s₁ H ⟨[.ref a],[]⟩ [.ref a] [.ref a] _ _ hr e0 (hbind s₁ (.ref a)) (.cons rfl .nil) (hsp H hO hS)) fun r s' h=>?_
  cases r with
  | error e=>exact (hCX H e s' h).elim
  | ok fl =>
   cases fl with
   | next=>exact Ra h
   | brk=>exact Ra h
   | cont=>exact Ra h
   | ret u =>
    obtain ⟨v,H',os,bare,un,hok',r',q⟩:=h
    have q':v=.bl true:=q
    subst q'
    obtain rfl:u=Value.bool true:=r'
    refine ⟨rfl,OldK.of_keep fun b o e=>?_,os,bare⟩
    cases q:H b with
    | none=>exact un.keep b o e q (by intro z;exact absurd (show b∈([]:List Addr) from z) (by simp)) (by simp)
    | some u =>
     rcases hO b with z | ⟨ob,xs,z⟩
     ·rw [q] at z;cases z
     ·have z2:=un.frzs b ob _ z
      obtain ⟨e1,_⟩:=hok b _ z
      obtain ⟨e2,_⟩:=hok' b _ z2
      rw [e] at e1;cases e1
      exact e2
 cases hk:K.lookup a with
 | some o =>
  have e:=KX a o hk
  rw [ha] at e
  cases e
  refine core (fun _=>none) (fun _=>.inl rfl) (.inr ⟨_,vs.toArray,_,hk,rfl,rfl,rfl,by rw [Pf,lenV];exact hl,by simpa using rv⟩) (fun b u z=>by have z':(none:Option HO)=some u:=z;cases z') (fun b z=>absurd rfl z) fun z=>absurd rfl z
 | none =>
  refine core (fun b=>if b=a then some (.frz { cls:=.type "list",data:=.seq vs.toArray } (.lst (ns.map V.int))) else none) (fun b=>?_) (.inl (.inr ⟨{ cls:=.type "list",data:=.seq vs.toArray },if_pos rfl⟩)) (fun b u z=>?_) (fun b z=>?_) fun _=>hk
  ·by_cases hb:b=a
   ·exact .inr ⟨_,_,if_pos hb⟩
   ·exact .inl (if_neg hb)
  ·by_cases hb:b=a
   ·have z':=(if_pos hb).symm.trans z
    cases z'
    subst hb
    exact ⟨ha,by rw [Pe];exact hl,vs,_,rv,ha⟩
   ·have z':=(if_neg hb).symm.trans z
    cases z'
  ·by_cases hb:b=a
   ·exact hb
   ·exact absurd (if_neg hb) z
theorem walk_of {l:Wc}{n k:Nat}{q:Program}{loose:List Str}{XP:(Str->Option Value)->Heap->Prop}{YP:World->Heap->Prop}{d:DefRec}{K:Params->O9}{CX:World->Dp}{sp:World->Sp}{x:Str}
  (hn:l.most=some n) (hn2:n<=sizeLine) (hdf:d.params.defaults=[]) (hr:Room k callerA)
  (hY:∀(w:World)(h:Heap),YP w h->(K w.params).In h)
  (F:∀(w:World)(mg:Str->Option Value)(fa:Addr)(h:Heap),(K w.params).In h->h.Ns mainGlobals mg->mg d.name=some (.ref fa) ->
   ∃ fd:FuncData,(∀(s:Shared)(u:Value),BindsTo s fd ⟨[u],[]⟩ [(x,u)]) /\
    ∀ base:Heap,(K w.params).In base->base.Ns mainGlobals mg->Bb l.prog w (K w.params) mg base (CX w) k fa fd [x] (sp w))
  (hsp:∀(w:World)(H:Hp)(a:Addr)(ns:List Int),ns.length<=n->Mk H->SqL (K w.params) H a (ns.map V.int)->sp w [.ref a] H (fun v _=>v=.bl true) fun _ _ _=>False)
  (hCX:∀(w:World)(H:Hp)(s:Shared)(e:Value)(s':Shared),CX w [] H s (fun _ _ _=>False) e s'->False) :
  PySem.W.WalkO q loose XP YP l.row.toRowW d [] (fun f vs=>PySem.call f vs):=by
 refine Att.attach_call hn hdf fun w s₀ s₁ mg mb fa o pm cd doc a vs ns G Y ho hd hcd hmg hobj hints hlen hg=>?_
 have KX:=hY w _ Y
 obtain ⟨fd,hb,hF⟩:=F w mg fa _ KX G.T.g hmg
 exact Zhy KX G.T.g G.T.b G.T.builtins G.T.nolimit hg hobj hints (P5 hlen hn2) hr hF hb (fun H hO hS=>hsp w H a ns hlen hO hS) fun H e s'=>hCX w H s₁ e s'
noncomputable def Gm (s:Stmt):Arguments:=match s with
 | .FunctionDef _ a _ _ _ _ _ _ _ _=>a
 | _=>{ posonlyargs:=[],args:=[],vararg:=none,kwonlyargs:=[],kw_defaults:=[],kwarg:=none,defaults:=[] }
noncomputable def Fq (s:Stmt):List Stmt:=match s with
 | .FunctionDef _ _ b _ _ _ _ _ _ _=>b
 | _=>[]
noncomputable def Bh (s:Stmt):Scope:=match s with
 | .FunctionDef _ _ _ _ _ _ sc _ _ _=>sc
 | _=>{ kind:=.function,names:=[],isGenerator:=false,isCoroutine:=false }
noncomputable abbrev Bc:Dp:=fun _ _ _ _ _ _=>False
noncomputable abbrev E0:XK:=fun _ _ _=>False
theorem Zkr {X:Cx}:Ox Bc X E0:=fun _ _ _ _ _ _ _ h=>h.elim
structure Fun (K:O9)(x qual:Str)(st:Stmt)(f:Addr)(fd:FuncData):Prop where
 ex:∃(oc:Value)(od:Option Addr)(kV doc pm:Value)(an:Option Addr)(cdv ct:Value)(osl:Array (Option Value)),
  fd=Rx x qual (Gm st) (Fq st) (Bh st) .none kV doc pm an cdv ct/\K.lookup f=some ⟨oc,od,.func fd,osl⟩/\PySem.W.codeIn K cdv qual=true
 kp:T4 K (.ref f)=true
section
variable {P:Program}{w:World}{K:O9}{mg:Str->Option Value}{base:Heap}
theorem Fun.ok {x qual:Str}{st:Stmt}{f:Addr}{fd:FuncData}{N ps:List Str}{k:Nat}{sp:Sp}(F:Fun K x qual st f fd)(S:Bp N ps (Bh st))(len:∀ vs H Q E,sp vs H Q E->vs.length=ps.length)
  (hbody:∀(cdv:Value)(A:Around)(outer:List Env)(s:Shared)(H:Hp)(vs:List V)(Q:VK)(E:XK),Room k (A.deeper (envOfC qual (Bh st) s.heap.objs.size f cdv))->sp vs H Q E ->
   ∃ t,PSs (Ge Bc P w K mg base N qual (Bh st) f cdv A outer s H E).nox (Fq st) t/\t { nx:=fun _ H'=>Q .non H',rt:=Q } (Fg N vs) H):Bb P w K mg base Bc (k+1) f fd ps sp:=by
 obtain ⟨oc,od,kV,doc,pm,an,cdv,ct,osl,rfl,lk,hcd⟩:=F.ex
 refine Zh2 lk hcd S len fun A outer s H vs Q E hr hsp=>?_
 obtain ⟨t,h,q⟩:=hbody cdv A outer s H vs Q E hr hsp
 exact ⟨t,h.nox,q⟩
theorem Fun.binds {x qual:Str}{st:Stmt}{f:Addr}{fd:FuncData}{ps:List Str}(F:Fun K x qual st f fd)
  (h:∀(kV doc pm:Value)(an:Option Addr)(cdv ct:Value)(us:List Value),us.length=ps.length->bindArgs (Rx x qual (Gm st) (Fq st) (Bh st) .none kV doc pm an cdv ct) ⟨us,[]⟩=pure (ps.zip us)):Binds K fd ps []:=by
 obtain ⟨oc,od,kV,doc,pm,an,cdv,ct,osl,rfl,lk,hcd⟩:=F.ex
 exact .all (h kV doc pm an cdv ct)
theorem fun_mk {x qual:Str}{st:Stmt}{f:Addr}{oc:Value}{od an:Option Addr}{osl:Array (Option Value)}{kV doc pm cdv ct:Value}(l:K.lookup f=some ⟨oc,od,.func (Rx x qual (Gm st) (Fq st) (Bh st) .none kV doc pm an cdv ct),osl⟩)
  (c:PySem.W.codeIn K cdv qual=true) (k:T4 K (.ref f)=true):Fun K x qual st f (Rx x qual (Gm st) (Fq st) (Bh st) .none kV doc pm an cdv ct):=⟨⟨oc,od,kV,doc,pm,an,cdv,ct,osl,rfl,l,c⟩,k⟩
end
section
variable {X:Cx}
end
theorem iteF {A B:Prop}(h:B):if false=true then A else B:=by
 rw [if_neg Pp]
 exact h
theorem iteT {A B:Prop}(h:A):if true=true then A else B:=by
 rw [if_pos rfl]
 exact h
theorem Bv {c A B:Prop}[Decidable c](h1:c->A)(h2:¬ c->B):if c then A else B:=by
 by_cases h:c
 ·rw [if_pos h]
  exact h1 h
 ·rw [if_neg h]
  exact h2 h
noncomputable def Same (H H':Hp):Prop:=∀ b o,H b=some o->H' b=some o
theorem Same.refl (H:Hp):Same H H:=fun _ _ h=>h
theorem Same.trans {H H1 H2:Hp}(a:Same H H1)(b:Same H1 H2):Same H H2:=fun c o h=>b c o (a c o h)
theorem Same.free {H H':Hp}(e:Same H H'){l:Addr}(h:H' l=Option.none):H l=Option.none:=by
 cases q:H l with
 | none=>rfl
 | some o =>
  rw [e l o q] at h
  cases h
theorem Same.seq {K:O9}{H H':Hp}{a:Addr}{xs:List V}(e:Same H H')(h:SqL K H a xs):SqL K H' a xs:=by
 rcases h with (h | ⟨o,h⟩) | h
 ·exact .inl (.inl (e _ _ h))
 ·exact .inl (.inr ⟨o,e _ _ h⟩)
 ·exact .inr h
end L2
set_option maxHeartbeats 8000000
namespace L2
open PySem PySem.Spec PyProof.Rows
noncomputable def Dz (env:Env):List (Str×NameKind)->List (Str×Addr)->List (Str×Addr)
 | [],acc=>acc
 | (n,k)::r,acc=>Dz env r (if k == .free then (match env.cells.lookup n with | some a=>(n,a)::acc | none=>acc) else acc)
theorem Nf {env:Env}:∀{ns:List (Str×NameKind)}{acc:List (Str×Addr)}{x:Str}{c:Addr},(∀ x c,acc.lookup x=some c->env.cells.lookup x=some c)->(Dz env ns acc).lookup x=some c->env.cells.lookup x=some c
 | [],acc,x,c,h,e=>h x c e
 | (n,k)::r,acc,x,c,h,e=>by
  refine Nf (ns:=r) ?_ e
  intro y d
  split
  ·split
   ·rename_i a ha
    intro q
    rw [Rs] at q
    split at q
    ·rename_i hy
     have hy':y=n:=by simpa using hy
     subst hy'
     rw [ha];exact q
    ·exact h y d q
   ·exact h y d
  ·exact h y d
theorem Ze6 {env:Env}:∀{ns:List (Str×NameKind)}{acc:List (Str×Addr)}{x:Str},(acc.lookup x).isSome=true->((Dz env ns acc).lookup x).isSome=true
 | [],acc,x,h=>h
 | (n,k)::r,acc,x,h=>by
  refine Ze6 (ns:=r) ?_
  split
  ·split
   ·rw [Rs]
    split
    ·rfl
    ·exact h
   ·exact h
  ·exact h
theorem Ze3 {env:Env}:∀{ns:List (Str×NameKind)}{acc:List (Str×Addr)}{x:Str},(x,NameKind.free)∈ns->(env.cells.lookup x).isSome=true->((Dz env ns acc).lookup x).isSome=true
 | [],acc,x,h,_=>by cases h
 | (n,k)::r,acc,x,h,hc=>by
  rcases Ph.mp h with e | e
  ·cases e
   refine Ze6 (ns:=r) ?_
   obtain ⟨a,ha⟩:=Re.mp hc
   rw [if_pos (by rfl),ha]
   show (List.lookup n ((n,a)::acc)).isSome=true
   rw [Rs]
   simp
  ·exact Ze3 (ns:=r) e hc
theorem Zfr {scope:Scope}{env:Env}(h:∀ x∈scope.names,x.2=.free->(env.cells.lookup x.1).isSome=true):closureFor scope env=pure (Dz env scope.names []):=by
 have all:∀(ns:List (Str×NameKind))(acc:List (Str×Addr)),(∀ x∈ns,x.2=.free->(env.cells.lookup x.1).isSome=true) ->
   (forIn ns acc fun (x:Str×NameKind) (cs:List (Str×Addr))=>(if (x.2 == NameKind.free)=true then do let a <- cellOf env x.1;pure (ForInStep.yield ((x.1,a)::cs)) else pure (ForInStep.yield cs):Sem (ForInStep (List (Str×Addr)))))=pure (Dz env ns acc):=by
  intro ns
  induction ns with
  | nil=>intro acc _;rfl
  | cons x r ih =>
   intro acc hx
   obtain ⟨n,k⟩:=x
   rw [So]
   by_cases hk:(k == NameKind.free)=true
   ·obtain ⟨a,ha⟩:=Re.mp (hx (n,k) Sj (by simpa using hk))
    have ha:env.cells.lookup n=some a:=ha
    have hcell:cellOf env n=pure a:=by unfold cellOf;rw [ha]
    simp only [hk,if_true,hcell]
    refine Eq.trans (ih ((n,a)::acc) fun y hy=>hx y (Qy _ hy)) ?_
    conv=>rhs;unfold Dz
    simp only [hk,if_true,ha]
   ·simp only [hk]
    refine Eq.trans (ih acc fun y hy=>hx y (Qy _ hy)) ?_
    conv=>rhs;unfold Dz
    simp only [hk]
    rfl
 unfold closureFor
 exact (by
  have:=all scope.names [] h
  first | exact this | (simp only [bind_pure] ;exact this) | simpa using this)
noncomputable def Ct (X:Cx)(scope:Scope)(C:Addr)(N:List Str)(s₀:Shared)(H₀:Hp)(ex:List Addr):Cx where
 prog:=X.prog
 w:=X.w
 K:=X.K
 mg:=X.mg
 base:=X.base
 A:=X.A
 N:=N
 s₀:=s₀
 H₀:=H₀
 env:=compEnvC scope (Dz X.env scope.names []) C X.env
 outer:=X.stack
 stack:=X.stack
 ex:=ex
 fn:=fun _=>false
 calm:=X.calm
 pn:=[]
 xe:=fun _ _=>False
structure Gp (sc:Scope)(env:Env):Prop where
 kind:sc.kind=.function
 nocell:∀ y∈sc.names,y.2≠.cell
 loc:∀ y∈sc.names,y.2=.local->sc.names.lookup y.1=some .local
 free:∀ x∈sc.names,x.2=.free->(env.cells.lookup x.1).isSome=true
theorem Kt {env:Env}:∀{names:List (Str×NameKind)}{x:Str}{k:NameKind},((names.map fun (n,k)=>if (k == NameKind.free && env.scope.kind == .function && env.kindOf n == some .cell) then (n,NameKind.cell) else (n,k)).lookup x=some k) ->
  ∃ k',names.lookup x=some k'/\(k'=k\/(k'=.free/\k=.cell))
 | [],x,k,h=>by simp at h
 | (n,q)::r,x,k,h=>by
  have ih:=@Kt env r x k
  have h:List.lookup x ((if (q == NameKind.free && env.scope.kind == .function && env.kindOf n == some .cell)=true then (n,NameKind.cell) else (n,q))::_)=some k:=h
  rw [Rs]
  cases hx:x == n with
  | true =>
   by_cases hc:(q == NameKind.free && env.scope.kind == .function && env.kindOf n == some .cell)=true
   ·rw [if_pos hc] at h
    simp only [Rs,hx] at h
    refine ⟨q,rfl,.inr ⟨?_,(Po h).symm⟩⟩
    simp only [Rr] at hc
    simpa using hc.1.1
   ·rw [if_neg hc] at h
    simp only [Rs,hx] at h
    exact ⟨q,rfl,.inl (Po h)⟩
  | false =>
   by_cases hc:(q == NameKind.free && env.scope.kind == .function && env.kindOf n == some .cell)=true
   ·rw [if_pos hc] at h
    simp only [Rs,hx] at h
    exact ih h
   ·rw [if_neg hc] at h
    simp only [Rs,hx] at h
    exact ih h
noncomputable def F0 (X:Cx)(scope:Scope)(N:List Str)(σ σ0:St):Prop :=
 σ0.length=N.length/\∀(i:Nat)(x:Str)(v:V),N[i]?=some x->σ0[i]?=some (some v)->∃ j:Nat,X.N[j]?=some x/\σ[j]?=some (some v)/\scope.names.lookup x=some .free/\(X.env.kindOf x=some .cell\/X.env.kindOf x=some .free)
section
variable {X:Cx}
theorem Zgt {scope:Scope}{N:List Str}{pins:List (Addr×Obj)}{σ σ0:St}{H:Hp}{s:Shared}{h':Heap}{tk:Nat}{fp:List Addr}(I:Inv X pins σ H s)(S:Gp scope X.env)(hf:∀ b∈fp,FpOk X pins H b)(hlt:∀ b∈fp,b < s.heap.objs.size)
  (T:F0 X scope N σ σ0) (hn:h'.Ns s.heap.objs.size (fun _=>none)) (hk:∀ b o,s.heap.get? b=some o->h'.get? b=some o) :
  Inv (Ct X scope s.heap.objs.size N s H fp) [] σ0 H { s with heap:=h',toks:=tk }:=by
 have subC:∀ x c,(Dz X.env scope.names []).lookup x=some c->X.env.cells.lookup x=some c:=fun x c e=>Nf (ns:=scope.names) (acc:=[]) (fun y d z=>by simp at z) e
 have hasC:∀ x,scope.names.lookup x=some .free->∃ c,(Dz X.env scope.names []).lookup x=some c:=fun x e=>by
  have m:=R1 e
  exact Re.mp (Ze3 m (S.free _ m rfl))
 have fsN:∀ b∈fp,b ∉ C5 X.stack:=fun b hb z=>by
  obtain ⟨_,f1,f2,_⟩:=hf b hb
  rcases Ph.mp (I.stkSub b z) with e | e
  ·exact f1 e
  ·exact f2 e
 have kinds:∀ x,((relabel scope X.env).names.lookup x=some .cell\/(relabel scope X.env).names.lookup x=some .free)->scope.names.lookup x=some .free:=fun x hx=>by
  rcases hx with hx | hx
  ·obtain ⟨k',e,q⟩:=Kt hx
   rcases q with q | ⟨q,_⟩
   ·subst q
    exact absurd rfl (S.nocell _ (R1 e))
   ·rw [e,q]
  ·obtain ⟨k',e,q⟩:=Kt hx
   rcases q with q | ⟨_,q⟩
   ·rw [e,q]
   ·cases q
 have noex:∀ b o,X.base.get? b=some o->b ∉ fp:=fun b o e hb=>by
  obtain ⟨_,_,_,f3,_⟩:=hf b hb
  rcases f3 with z | z
  ·exact I.ok.noex b o e z
  ·exact absurd (Pz (Pi e) (P5 I.ok.bsz z)) (Qw _)
 refine ⟨⟨I.ok.mod,S.kind,I.ok.glob,I.ok.blt,Pc _,fun x y c e1 e2=>I.ok.inj x y c (subC x c e1) (subC y c e2),fun x hx=>hasC x (kinds x hx),fun x c z=>absurd (show false=true from z) Pp,I.ok.hd,I.ok.frames,.inl rfl,
   fun b hb=>⟨Pr (hlt b hb),fun x c e=>(hf b hb).2.2.2.2.1 x c (subC x c e)⟩,I.bs,P5 I.ok.bsz I.sz,noex,fsN,I.stack,I.stkFree⟩,
  rfl,I.bare,Un.kept hk,⟨_,hn,fun i x v e1 e2 e3=>?_⟩,fun x c e=>?_,I.hok.fresh (Pc _),fun x c e=>I.freeC x c (subC x c e),fun p hp=>absurd (show p∈([]:List (Addr×Obj)) from hp) (by simp),I.hok.kept hk,T.1⟩
 ·obtain ⟨j,hj,hs,hfr,hkd⟩:=T.2 i x v e1 e2
  obtain ⟨m,_,hl⟩:=I.loc
  obtain ⟨u,r,l⟩:=hl j x v hj hs (hkd.elim (fun z=>Or.inr (Or.inl z)) fun z=>Or.inr (Or.inr z))
  refine ⟨u,r,.inr ⟨?_,?_⟩⟩
  ·show (relabel scope X.env).names.lookup x=some .cell\/(relabel scope X.env).names.lookup x=some .free
   rcases e3 with z | z | z
   ·obtain ⟨k',e,q⟩:=Kt (show (relabel scope X.env).names.lookup x=some .local from z)
    rw [hfr] at e
    cases e
    rcases q with q | ⟨_,q⟩ <;> cases q
   ·exact .inl z
   ·exact .inr z
  ·obtain ⟨c,hc⟩:=hasC x hfr
   refine ⟨c,hc,?_⟩
   rcases l with ⟨k,_⟩ | ⟨_,c',e,z⟩
   ·rcases hkd with hkd | hkd <;> (rw [hkd] at k;cases k)
   ·have e':=subC x c hc
    rw [e] at e'
    cases e'
    obtain ⟨o,ho,hd⟩:=z
    exact ⟨o,hk _ o ho,hd⟩
 ·obtain ⟨v,o,ho,hd⟩:=I.cell x c (subC x c e)
  exact ⟨v,o,hk _ o ho,hd⟩
theorem Zm4 {scope:Scope}{N:List Str}{pins pins':List (Addr×Obj)}{σ σ':St}{H H':Hp}{s s':Shared}{h':Heap}{fp:List Addr}(I:Inv X pins σ H s)(hf:∀ b∈fp,FpOk X pins H b)
  (I':Inv (Ct X scope s.heap.objs.size N s H fp) pins' σ' H' s') (hs:Pu s.heap.objs.size s'.heap h'):Inv X pins σ H' { s' with heap:=h' }:=by
 have hC:H' s.heap.objs.size=none:=I'.free
 have ne:∀ b o,s.heap.get? b=some o->b≠s.heap.objs.size:=fun b o e=>Pr (Pi e)
 have B:Un (C5 X.stack) fp H H' s.heap s'.heap:=I'.base
 refine I.call' (s':={ s' with heap:=h' }) (ch:=fp) I'.os ⟨fun b o e n hb hx=>?_,fun b o e n hb hx=>?_,B.free,fun b o e hx=>?_,B.tups,B.frzs,B.tbls⟩ (fun b o e=>?_) I'.bare (fun b hb=>?_)
 ·exact (hs.2 b (ne b o e)).trans (B.keep b o e n hb hx)
 ·obtain ⟨sl,q⟩:=B.slot b o e n hb hx
  exact ⟨sl,(hs.2 b (ne b o e)).trans q⟩
 ·obtain ⟨o',q⟩:=B.there b o e hx
  exact ⟨o',(hs.2 b (ne b o e)).trans q⟩
 ·refine (I'.hok b o e).stay (fun c w' hc q=>(hs.2 c ?_).trans q) (fun _ q=>q) fun _ _ q=>q
  rintro rfl
  rcases hc with rfl | hc
  ·rw [hC] at e;cases e
  ·rw [hC] at hc;cases hc
 ·obtain ⟨_,f1,_,f3,f4,f5⟩:=hf b hb
  exact ⟨f3,f1,f4,f5⟩
end
section
variable {prog:Program}{w:World}{A:Around}{R:Result->Shared->Prop}{s:Shared}
theorem Znp {elt target iter:Expr}{ifs:List Expr}{scope:Scope}{pos:Pos}{it acc:Value}{env:Env}(I:Nat->Shared->Prop)
  (turn:∀ n s,I n s->wpAny (model prog w) A (pyNext it) (fun r s₁=>match r with
   | none=>R (.ok .next) s₁
   | some v=>wpAny (model prog w) A (letOwnedTupleGo target it v) (fun _ s₁'=>wpAny (model prog w) A (assign target env v) (fun _ s₂ =>
     wpAny (model prog w) A (forIn ifs true fun c r=>if r=true then do let ok <- isTrue c env (eval c env);pure (ForInStep.yield ok) else pure (ForInStep.yield r)) (fun ok s₃ =>
      if ok=true then wpAny (model prog w) A (eval elt env) (fun x s₄ =>
       wpAny (model prog w) A (call (.builtin "list.append") [acc,x]) (fun _ s₅=>∃ m,m < n/\I m s₅) (fun _ _=>False) s₄) (fun _ _=>False) s₃
      else ∃ m,m < n/\I m s₃) (fun _ _=>False) s₂) (fun _ _=>False) s₁') (fun _ _=>False) s₁) (fun _ _=>False) s)
  (n:Nat) (h:I n s):codeAny (model prog w) A (.compLoop (.ListComp elt [⟨target,iter,ifs,0⟩] scope pos) 0 it acc env) R s:=by
 refine codeAny_loop rfl I (fun n s hI=>?_) n h
 show wpAny _ A ((compTurn (.ListComp elt [⟨target,iter,ifs,0⟩] scope pos) 0 it acc env).onRaise (fun x=>do noteFrame x env;theTreesLotGoes x)) _ _ s
 refine wpAny_noted ?_
 rw [compTurn_list]
 have up:∀{α:Type}{t:Sem α}{Q:α->Shared->Prop}{s:Shared}{E:Value->Shared->Prop},wpAny (model prog w) A t Q (fun _ _=>False) s->wpAny (model prog w) A t Q E s:=fun h=>wpAny_noRaise h
 refine Pa (T9 (Pa (up (Ak (turn n s hI) fun r s₁ h₁=>?_))))
 cases r with
 | none=>exact Pd h₁
 | some v =>
  refine Pa (up (Ak h₁ fun _ s₁' h₁'=>?_))
  refine Pa (up (Ak h₁' fun _ s₂ h₂=>Pa (up (Ak h₂ fun ok s₃ h₃=>?_))))
  cases ok with
  | false=>exact Pd ⟨rfl,h₃⟩
  | true =>
   exact Pa (Pa (up (Ak h₃ fun x s₄ h₄=>Pa (up (Ak h₄ fun _ s₅ h₅=>Pd (Pd ⟨rfl,h₅⟩))))))
end
noncomputable def Ja (J:It)(g:TG)(tt:TT)(te:TE)(σ0:St)(H1:Hp)(D:Addr)(Q:VK):Prop :=
 ∃ W:Nat->Nat->St->Hp->Prop,(∃ m,W 0 m σ0 (upd H1 D (.lst [])))/\∀ i m σ' H',W i m σ' H' ->
  (J.stop i H'/\Q (.ref D) H')\/(J.go i H'/\∃ N:St->Hp->Prop,(∀ σ2 H2,N σ2 H2->∃ m',m' < m/\W (i+1) m' σ2 H2)/\∀ x H2,J.yld i H' x H2->g x σ' H2 fun σ2 H3=>tt σ2 H3 fun b H4 =>
   if b=true then te σ2 H4 fun y H5=>∃ ys,H5 D=some (.lst ys)/\ys.length < sizeLine/\N σ2 (upd H5 D (.lst (ys++[y]))) else N σ2 H4)
noncomputable def Hz (wi:TI)(σ0:St->St)(g:TG)(tt:TT)(te:TE):TE:=fun σ H Q=>wi σ H fun J H1=>∀ D,H1 D=none->Ja J g tt te (σ0 σ) H1 D Q
noncomputable def Ga (X:Cx)(ifs:List Expr)(t:TT):Prop :=
 ∀(pins:List (Addr×Obj))(s:Shared)(σ:St)(H:Hp)(Q:Bool->Hp->Prop),Inv X pins σ H s->t σ H Q ->
  wpAny (model X.prog X.w) X.A (forIn ifs true fun c r=>if r=true then do let ok <- isTrue c X.env (eval c X.env);pure (ForInStep.yield ok) else pure (ForInStep.yield r)) (TP X pins σ Q) X.xe s
noncomputable def Ma:TT:=fun _ H Q=>Q true H
theorem Zi0 {X:Cx}:Ga X [] Ma:=fun _ _ _ H _ I h=>wpAny_tests_nil ⟨H,I,h⟩
theorem Zld {X:Cx}{c:Expr}{t:TT}(h:PT X c t):Ga X [c] t:=fun pins s σ H Q I hw=>wpAny_tests_one (h pins s σ H Q I hw)
section
variable {X:Cx}{elt target iter:Expr}{ifs:List Expr}{scope:Scope}{pos:Pos}{N:List Str}{wi:TI}{σ0:St->St}{g:TG}{tt:TT}{te:TE}
theorem Zf7 {pins:List (Addr×Obj)}{σ:St}{H:Hp}{s:Shared}{it:Addr}{fp:List Addr}{tn:Nat->Heap->Prop}{J:It}{Q:Addr->Hp->Prop}{RR:Value->Addr->Result->Shared->Prop}{E:Value->Shared->Prop}
  (hc:X.calm=true) (S:Gp scope X.env) (T:F0 X scope N σ (σ0 σ)) (I:Inv X pins σ H s) (Tn:Fp X.prog X.w X.K target J fp it tn) (st:tn 0 s.heap) (hf:∀ b∈fp,FpOk X pins H b)
  (hg:∀ C s H fp,PG (Ct X scope C N s H fp) target g) (ht:∀ C s H fp,Ga (Ct X scope C N s H fp) ifs tt) (he:∀ C s H fp,PE (Ct X scope C N s H fp) elt te)
  (hw:∀ D,H D=none->∃ W:Nat->Nat->St->Hp->Prop,(∃ m,W 0 m (σ0 σ) (upd H D (.lst [])))/\∀ i m σ' H',W i m σ' H' ->
   (J.stop i H'/\Q D H')\/(J.go i H'/\∃ N:St->Hp->Prop,(∀ σ2 H2,N σ2 H2->∃ m',m' < m/\W (i+1) m' σ2 H2)/\∀ x H2,J.yld i H' x H2->g x σ' H2 fun σ2 H3=>tt σ2 H3 fun b H4 =>
    if b=true then te σ2 H4 fun y H5=>∃ ys,H5 D=some (.lst ys)/\ys.length < sizeLine/\N σ2 (upd H5 D (.lst (ys++[y]))) else N σ2 H4))
  (hR:∀(D C:Addr)(H':Hp)(s':Shared)(m:Str->Option Value),s.heap.objs.size<=C->H' C=none->s'.heap.Ns C m->(∀ h',Pu C s'.heap h'->Inv X pins σ H' { s' with heap:=h' })->Q D H'->RR (.ref D) C (.ok .next) s') :
  wpAny (model X.prog X.w) X.A (newList []) (fun acc s₃=>wpAny (model X.prog X.w) X.A (newFunctionEnv scope X.env.globals (Dz X.env scope.names []) [] X.env.qual none .none (some X.env)) (fun cenv s₄ =>
   codeAny (model X.prog X.w) X.A (.compStart (.ListComp elt [⟨target,iter,ifs,0⟩] scope pos) 0 (.ref it) acc { cenv with scope:=relabel scope X.env }) (RR acc cenv.locals) s₄) E s₃) E s:=by
 refine Rp (wpAny_newFunctionEnv S.nocell (by intro y hy;simp at hy) (fun h₁ hns₁ hsb₁=>?_) S.kind)
 have hD:H s.heap.objs.size=none:=I.hok.fresh (Pc _)
 have I3:Inv X pins σ (upd H s.heap.objs.size (.lst [])) { s with heap:=s.heap.push { cls:=.type "list",dict:=none,data:=.seq ([]:List Value).toArray } }:=I.lnew (ys:=[]) (its:=[]) (t':=s.toks) .nil (by simp)
 have hlt:∀ b∈fp,b < s.heap.objs.size:=fun b hb=>by obtain ⟨o,e,_⟩:=Tn.obj _ _ st b hb;exact Pi e
 have hf3:∀ b∈fp,FpOk X pins (upd H s.heap.objs.size (.lst [])) b:=fun b hb=>⟨by rw [Ai (Pr (hlt b hb))];exact (hf b hb).1,(hf b hb).2⟩
 have hlt3:∀ b∈fp,b < ({ s with heap:=s.heap.push { cls:=.type "list",dict:=none,data:=.seq ([]:List Value).toArray } }:Shared).heap.objs.size:=fun b hb=>by
  show b < (s.heap.push _).objs.size
  rw [Qu]
  exact V3 (hlt b hb)
 have hk1:∀ b o,({ s with heap:=s.heap.push { cls:=.type "list",dict:=none,data:=.seq ([]:List Value).toArray } }:Shared).heap.get? b=some o->h₁.get? b=some o:=fun b o e =>
  hsb₁.extBut b o (Pr (Pi e)) (Pk _ e)
 have I4:=Zgt (N:=N) (tk:=s.toks+([]:List (Str×Value)).length) I3 S hf3 hlt3 T hns₁ hk1
 have st4:tn 0 h₁:=Tn.keep _ _ _ st fun b hb o e=>hk1 b o (Pk _ e)
 obtain ⟨W,⟨m0,w0⟩,turn⟩:=hw _ hD
 generalize hX:Ct X scope ({ s with heap:=s.heap.push { cls:=.type "list",dict:=none,data:=.seq ([]:List Value).toArray } }:Shared).heap.objs.size N { s with heap:=s.heap.push { cls:=.type "list",dict:=none,data:=.seq ([]:List Value).toArray } } (upd H s.heap.objs.size (.lst [])) fp=X' at I4
 have eP:X'.prog=X.prog:=by rw [<- hX];rfl
 have eW:X'.w=X.w:=by rw [<- hX];rfl
 have eK:X'.K=X.K:=by rw [<- hX];rfl
 have eA:X'.A=X.A:=by rw [<- hX];rfl
 have eC:X'.calm=true:=by rw [<- hX];exact hc
 have eX:X'.xe=fun _ _=>False:=by rw [<- hX];rfl
 have eEx:X'.ex=fp:=by rw [<- hX];rfl
 have hg':PG X' target g:=by rw [<- hX];exact hg _ _ _ _
 have ht':Ga X' ifs tt:=by rw [<- hX];exact ht _ _ _ _
 have he':PE X' elt te:=by rw [<- hX];exact he _ _ _ _
 have eE:X'.env=compEnvC scope (Dz X.env scope.names []) ({ s with heap:=s.heap.push { cls:=.type "list",dict:=none,data:=.seq ([]:List Value).toArray } }:Shared).heap.objs.size X.env:=by rw [<- hX];rfl
 have fpIn:∀{H':Hp},(∀ b∈fp,H' b=none)->∀ b∈fp,FpOk X' [] H' b:=fun {H'} hn b hb=>by
  obtain ⟨f0,f1,f2,f3,f4,f5⟩:=hf3 b hb
  rw [<- hX]
  refine ⟨hn b hb,Pr (hlt3 b hb),fun z=>?_,.inl hb,fun x c e=>f4 x c (Nf (ns:=scope.names) (acc:=[]) (fun y d z=>by simp at z) e),fun p hp=>absurd (show p∈([]:List (Addr×Obj)) from hp) (by simp)⟩
  rcases Ph.mp (I3.stkSub b z) with e | e
  ·exact f1 e
  ·exact f2 e
 have fr0:∀ b∈fp,upd H s.heap.objs.size (.lst []) b=none:=fun b hb=>(hf3 b hb).1
 have loop:codeAny (model X.prog X.w) X.A (.compLoop (.ListComp elt [⟨target,iter,ifs,0⟩] scope pos) 0 (.ref it) (.ref s.heap.objs.size) X'.env)
   (RR (.ref s.heap.objs.size) ({ s with heap:=s.heap.push { cls:=.type "list",dict:=none,data:=.seq ([]:List Value).toArray } }:Shared).heap.objs.size)
   { s with heap:=h₁,toks:=s.toks+([]:List (Str×Value)).length }:=by
  refine Znp (fun n s'=>∃ i σ' H',Inv X' [] σ' H' s'/\tn i s'.heap/\(∀ b∈fp,H' b=none)/\W i n σ' H') ?_ m0 ⟨0,σ0 σ,_,I4,st4,fr0,w0⟩
  rintro n s5 ⟨i,σ5,H5,I5,st5,fr5,w5⟩
  rcases turn i n σ5 H5 w5 with ⟨stop,qn⟩ | ⟨go,Nx,hN,step⟩
  ·have q:=Tn.done X' eP eW eK eC i [] s5 σ5 H5 (fun _ _=>False) I5 (fpIn fr5) st5 stop
   rw [eA] at q
   refine Ak q fun r s6 zq=>?_
   obtain ⟨hr,I6⟩:=zq
   subst hr
   obtain ⟨mm,hns6,_⟩:=I6.loc
   rw [eE] at hns6
   have fr6:=I6.free
   rw [eE] at fr6
   refine hR _ _ H5 s6 mm ?_ fr6 hns6 (fun h' hs=>?_) qn
   ·show s.heap.objs.size<=(s.heap.push _).objs.size
    rw [Qu]
    exact Uc _
   ·rw [<- hX] at I6
    exact Zm4 I3 hf3 I6 hs
  ·have q:=Tn.item X' eP eW eK eC i [] s5 σ5 H5 (fun _ _=>False) I5 (fpIn fr5) st5 go
   rw [eA] at q
   refine Ak q fun r s6 zq=>?_
   obtain ⟨u,hr,h6⟩:=zq
   subst hr
   refine Ak h6 fun _ s7 zq=>?_
   obtain ⟨x,H7,I7,r7,y7,st7,fr7⟩:=zq
   have I7':=I7.pinned (fpIn fr7) (Tn.obj _ _ st7)
   have q8:=hg' _ s7 σ5 H7 x u _ I7' r7 (step x H7 y7)
   rw [eP,eW,eA,eX] at q8
   refine Ak q8 fun _ s8 zq=>?_
   obtain ⟨σ8,H8,I8,q8⟩:=zq
   have q9:=ht' _ s8 σ8 H8 _ I8 q8
   rw [eP,eW,eA,eX] at q9
   refine Ak q9 fun ok s9 zq=>?_
   obtain ⟨H9,I9,q9⟩:=zq
   have again:∀{σ10:St}{H10:Hp}{s10:Shared},Inv X' ([]++Hy fp s7.heap) σ10 H10 s10->Nx σ10 H10->∃ m,m < n/\∃ i σ' H',Inv X' [] σ' H' s10/\tn i s10.heap/\(∀ b∈fp,H' b=none)/\W i m σ' H':=fun {σ10 H10 s10} J10 n10=>by
    obtain ⟨m',hm,Eb⟩:=hN σ10 H10 n10
    refine ⟨m',hm,i+1,σ10,H10,J10.unpinned,Tn.keep _ _ _ st7 fun b hb o e=>(J10.pin (b,o) (Qs _ (Qs _ (Kp hb e)))).1,fun b hb=>?_,Eb⟩
    obtain ⟨o,e,d⟩:=Tn.obj _ _ st7 b hb
    exact (J10.pin (b,o) (Qs _ (Qs _ (Kp hb e)))).2.1
   cases ok with
   | false =>
    have q9':Nx σ8 H9:=q9
    exact again I9 q9'
   | true =>
    have q9':te σ8 H9 _:=q9
    have q10:=he' _ s9 σ8 H9 _ I9 q9'
    rw [eP,eW,eA,eX] at q10
    refine Ak q10 fun y s10 zq=>?_
    obtain ⟨yv,H10,I10,r10,ys,hys,hz,n10⟩:=zq
    have q11:=(Di (X:=X')) _ s10 σ8 H10 (.ref s.heap.objs.size) [yv] (.ref s.heap.objs.size) [y] (fun _ H11=>Nx σ8 H11) I10 rfl (.cons r10 .nil) ⟨_,ys,yv,rfl,rfl,hys,hz,n10⟩
    rw [eP,eW,eA,eX] at q11
    exact Ak q11 fun _ s11 ⟨_,H11,I11,_,n11⟩=>again I11 n11
 rw [eE] at loop
 exact codeAny_compStart_list loop (Tn.self _ 0 _ _ _ st4 loop)
theorem Zm3 (hc:X.calm=true)(S:Gp scope X.env)(hi:PI X target iter wi)(T:∀ σ,σ.length=X.N.length->F0 X scope N σ (σ0 σ))
  (hg:∀ C s H fp,PG (Ct X scope C N s H fp) target g) (ht:∀ C s H fp,Ga (Ct X scope C N s H fp) ifs tt) (he:∀ C s H fp,PE (Ct X scope C N s H fp) elt te)
  (hs:∀ x,foldedSetIterable iter X.env x=pure x:=by intro _;rfl):PE X (.ListComp elt [⟨target,iter,ifs,0⟩] scope pos) (Hz wi σ0 g tt te):=by
 intro pins s σ H Q I h
 rw [eval_ListComp]
 refine wpAny_comprehension_free (use:=none) rfl hs (Zfr S.free) S.kind S.loc (Ak (hi pins s σ H _ I h) fun xv s₁ h₁=>Ak h₁ fun itv s₂ h₂=>?_)
 obtain ⟨it,fp,tn,J,H2,rfl,I2,Tn,st2,f2,hw⟩:=h₂
 refine Zf7 (Q:=fun D H'=>Q (.ref D) H') (RR:=fun acc C=>compPost (model X.prog X.w) X.A X.xe none (EP X pins σ Q) acc C) hc S (T σ I.len) I2 Tn st2 f2 hg ht he hw ?_
 intro D C H' s' m hC _ hn hI hq
 exact ⟨m,hn,fun h' hs'=>⟨.ref D,H',hI h' hs',rfl,hq⟩⟩
theorem Zg6 {i:Nat}{y:Str}{py spos:Pos}(hc:X.calm=true)(S:Gp scope X.env)(hi:PI X target iter wi)(T:∀ σ,σ.length=X.N.length->F0 X scope N σ (σ0 σ))
  (hg:∀ C s H fp,PG (Ct X scope C N s H fp) target g) (ht:∀ C s H fp,Ga (Ct X scope C N s H fp) ifs tt) (he:∀ C s H fp,PE (Ct X scope C N s H fp) elt te)
  (hN:X.N.Nodup) (hy:X.N[i]?=some y) (hx:Eo X.env.scope y)
  (hsw:swapsWith (.ListComp elt [⟨target,iter,ifs,0⟩] scope pos) (some (.Name y py)) spos.line X.env=pure true:=by rfl)
  (hf:X.fn y=true\/X.env.scope.names.lookup y=some .local:=by first | exact .inl rfl | exact .inr rfl | assumption)
  (hs:∀ x,foldedSetIterable iter X.env x=pure x:=by intro _;rfl):PS X (.Assign [.Name y py] (.ListComp elt [⟨target,iter,ifs,0⟩] scope pos) spos) (F5 (Hz wi σ0 g tt te) (F1 i)):=by
 intro pins s σ H D I h
 rw [exec_Assign_Name_used _ _ _ _ hsw]
 refine Pa (T9 (Pa ?_))
 show wpAny _ X.A (do let _ <- comprehension (.ListComp elt [⟨target,iter,ifs,0⟩] scope pos) scope X.env _ (newList []) false (eval iter X.env) (some (assign (.Name y py) X.env))) _ _ s
 refine Pa (Ak (wpAny_comprehension_free (use:=some (assign (.Name y py) X.env)) (Q:=fun _ s'=>SP X pins D .next s') rfl hs (Zfr S.free) S.kind S.loc
  (Ak (hi pins s σ H _ I h) fun xv s₁ h₁=>Ak h₁ fun itv s₂ h₂=>?_)) fun _ s' hq=>Pd (Pd hq))
 obtain ⟨it,fp,tn,J,H2,rfl,I2,Tn,st2,f2,hw⟩:=h₂
 refine Zf7 (Q:=fun L H'=>D.nx (σ.set i (some (.ref L))) H') (RR:=fun acc C=>compPost (model X.prog X.w) X.A X.xe (some (assign (.Name y py) X.env)) (fun _ s'=>SP X pins D .next s') acc C) hc S (T σ I.len) I2 Tn st2 f2 hg ht he hw ?_
 intro L C H' s' m hC hfree hn hI hq
 have I3:Inv X pins σ H' s':=hI s'.heap (.refl ..)
 refine wpAny_assign_Name (Zd7 I3 hN hy hx (v:=.ref L) rfl (fun s4 I4 hch=>?_) hf)
 obtain ⟨a,hsb,ha⟩:=hch
 have haC:C≠a:=by
  rintro rfl
  rcases ha with e | e
  ·have:=I2.lt
   rw [<- e] at this
   exact absurd (Pz this hC) (Qw _)
  ·obtain ⟨v,z⟩:=I2.cell y _ e
   exact absurd (Pz z.lt hC) (Qw _)
 refine ⟨m,hn.sameBut hsb haC,fun h' hs'=>⟨_,H',?_,hq⟩⟩
 have e4:({ s4 with heap:=h' }:Shared)={ s4 with heap:=h',toks:=s4.toks }:=rfl
 rw [e4]
 refine I4.turned (it:=C) (fun b o hb e=>(hs'.2 b hb).trans e) hfree ?_ (.inr (P5 I2.sz hC)) ?_ ?_
 ·exact Q1 (Pz I2.lt hC)
 ·rintro x c e rfl
  obtain ⟨v,z⟩:=I2.cell x _ e
  exact absurd (Pz z.lt hC) (Qw _)
 ·rintro p hp e
  exact absurd (Pz (Pi (I2.pin p hp).1) (by rw [e];exact hC)) (Qw _)
end
section
variable {X:Cx}
theorem Zl8 {K:O9}{T:String}:Q9 K (.type T) (.type T)=some true:=by
 unfold Q9
 rw [if_pos (by simp)]
theorem Zln {K:O9}{T U:String}{b:Bool}{l:List Value}(hm:PySem.W.kitMeta U=true)(hn:¬ T=U)(hl:fastBuiltinMro T=some l)(hb:l.contains (.type U)=b):Q9 K (.type T) (.type U)=some b:=by
 unfold Q9
 rw [if_neg (by simp [hn])]
 show (if PySem.W.kitMeta U=true then PySem.W.subIn K (.type T) (.type U) else none)=some b
 rw [if_pos hm]
 show (fastBuiltinMro T).map (·.contains (.type U))=some b
 rw [hl,<- hb]
 rfl
theorem Zjk:OpR X (compareOp .LtE) (fun x y H Q=>∃ i j,x=.str i/\y=.str j/\Q (.bl (!(decide (j.cps.toList < i.cps.toList)))) H):=by
 intro pins s σ H x y v u Q I rx ry h
 obtain ⟨i,j,rfl,rfl,q⟩:=h
 obtain ⟨t,rfl⟩:=rx
 obtain ⟨t',rfl⟩:=ry
 exact PySem.P.le_str (Bw I q rfl)
theorem Zhz:OpR X (compareOp .In) (fun x y H Q=>∃(c:Nat)(j:Str),x=.str ⟨#[c]⟩/\y=.str j/\Q (.bl (decide (c∈j.cps.toList))) H):=by
 intro pins s σ H x y v u Q I rx ry h
 obtain ⟨c,j,rfl,rfl,q⟩:=h
 exact Zjo pins s σ H _ _ v u Q I rx ry ⟨_,_,rfl,rfl,by rw [StrLaws.found_one];exact q⟩
noncomputable def O6:V->Option Int->Option Int->Hp->VK->Prop:=fun x lo hi H Q=>∃ z,x=.str z/\z.length<=sizeLine/\Q (.str (Ue z lo hi)) H
theorem sl_str:SlR X O6:=by
 intro pins s σ H x v vl vu lo hi sl Q I rx hs pl pu h
 obtain ⟨z,rfl,hz,q⟩:=h
 obtain ⟨t,rfl⟩:=rx
 obtain ⟨o,ho,hc,hd⟩:=hs
 refine ⟨"str",_,slot_str_getitem.lookup,typeIs_str _ _ _,?_⟩
 cases pl with
 | none =>
  cases pu with
  | none=>exact Um (l:=none) (u:=none) (st:=none) ⟨_,ho,hc,hd⟩ rfl (U0 ⟨P5 (Vc z _ _) hz,fun t' k=>⟨.str (Ue z _ _),H,I.tok k,⟨t',rfl⟩,q⟩⟩)
  | int j u=>exact Um (l:=none) (u:=some (j,u)) (st:=none) ⟨_,ho,hc,hd⟩ rfl (U0 ⟨P5 (Vc z _ _) hz,fun t' k=>⟨.str (Ue z _ _),H,I.tok k,⟨t',rfl⟩,q⟩⟩)
 | int i ti =>
  cases pu with
  | none=>exact Um (l:=some (i,ti)) (u:=none) (st:=none) ⟨_,ho,hc,hd⟩ rfl (U0 ⟨P5 (Vc z _ _) hz,fun t' k=>⟨.str (Ue z _ _),H,I.tok k,⟨t',rfl⟩,q⟩⟩)
  | int j u=>exact Um (l:=some (i,ti)) (u:=some (j,u)) (st:=none) ⟨_,ho,hc,hd⟩ rfl (U0 ⟨P5 (Vc z _ _) hz,fun t' k=>⟨.str (Ue z _ _),H,I.tok k,⟨t',rfl⟩,q⟩⟩)
end
noncomputable def Its (z:Str):It:=⟨fun i _=>i < z.cps.size,fun i H x H'=>H'=H/\∃ c,z.cps.toList[i]?=some c/\x=.str ⟨#[c]⟩,fun i _=>i=z.cps.size⟩
theorem Zj4 (z:Str):["enumerate", "zip", "dict_itemiterator", "dict_reverseitemiterator", "odict_iterator", "itertools.zip_longest", "itertools.pairwise"].contains (strIterType z)=false:=by
 unfold strIterType
 cases z.cps.all (· < 128) <;> decide
theorem Zf9 {P:Program}{w:World}{A:Around}(hh:A.handled=none)(it:Addr)(z:Str)(t:Tok):Walks P w A it [it] [it] z.cps.size (SignAt z) (fun i h=>h.IsStrIter it (strIterType z) z t i):=by
 unfold strIterType
 cases z.cps.all (· < 128)
 ·exact Walks.strWide hh it z t
 ·exact Walks.strAscii hh it z t
theorem Znt {P:Program}{w:World}{K:O9}{tg:Expr}(it:Addr)(z:Str)(t:Tok):Fp P w K tg (Its z) [it] it (fun i h=>h.IsStrIter it (strIterType z) z t i) where
 mem:=by simp
 obj:=fun i h st b hb=>by
  have e:b=it:=by simpa using hb
  subst e
  obtain ⟨o,e,c,d⟩:=st
  exact ⟨o,e,fun v z=>by rw [d] at z;cases z⟩
 keep:=fun i h h' st k=>let ⟨o,e,r⟩:=st;⟨o,k it (by simp) o e,r⟩
 item:=by
  intro X hP hw hK hc i pins s σ H E I hf st hg
  subst hP hw hK
  obtain ⟨f0,f1,f2,f3,f4,f5⟩:=hf it (by simp)
  refine (Zf9 (P:=X.prog) (w:=X.w) (I.ok.hd hc) it z t).item i s _ _ hg st fun v h' tk hv st' kk=>?_
  obtain ⟨c,u,hcu,rfl⟩:=hv
  have I1:Inv X pins σ H { s with heap:=h',toks:=tk }:=I.turned (fun b o hb e=>kk b o (by simpa using hb) e) f0 f1 f3 f4 f5
  obtain ⟨o,e,cc,d⟩:=id st'
  exact ⟨_,rfl,Jp (s:={ s with heap:=h',toks:=tk }) e cc d (Zj4 z) ⟨.str ⟨#[c]⟩,H,I1,⟨u,rfl⟩,⟨rfl,c,by simpa using hcu,rfl⟩,st',fun b hb=>(hf b hb).1⟩⟩
 done:=by
  intro X hP hw hK hc i pins s σ H E I hf st hg
  subst hP hw hK
  obtain ⟨f0,f1,f2,f3,f4,f5⟩:=hf it (by simp)
  have hg:i=z.cps.size:=hg
  subst hg
  exact (Zf9 (P:=X.prog) (w:=X.w) (I.ok.hd hc) it z t).done s _ _ st fun h' tk kk=>⟨rfl,I.turned (fun b o hb e=>kk b o (by simpa using hb) e) f0 f1 f3 f4 f5⟩
 self:=fun A i s Q E st h=>by
  obtain ⟨o,e,c,d⟩:=st
  unfold strIterType at c
  cases ha:z.cps.all (· < 128)
  ·rw [ha] at c;exact wpAny_pyIter_striter_wide ⟨o,e,c,d⟩ h
  ·rw [ha] at c;exact wpAny_pyIter_striter_ascii ⟨o,e,c,d⟩ h
section
variable {X:Cx}{tg:Expr}
end
section
variable {g:TG}{tt:TT}{te:TE}{σ0:St}{H1:Hp}{D:Addr}{Q:VK}
noncomputable def Kl (g:TG)(tt:TT)(te:TE)(D:Addr)(Nx:List V->St->Hp->Prop)(x:V)(σ:St)(H:Hp):Prop :=
 g x σ H fun σ2 H3=>tt σ2 H3 fun b H4=>if b=true then te σ2 H4 fun y H5=>∃ ys,H5 D=some (.lst ys)/\ys.length < sizeLine/\(∃ zs,upd H5 D (.lst (ys++[y])) D=some (.lst zs)/\Nx zs σ2 (upd H5 D (.lst (ys++[y])))) else ∃ zs,H4 D=some (.lst zs)/\Nx zs σ2 H4
theorem N8 {lo:Int}{n:Nat}(Pv:Nat->List V->St->Hp->Prop)(h0:Pv 0 [] σ0 (upd H1 D (.lst [])))
  (hs:∀ i ys σ H,i < n->H D=some (.lst ys)->Pv i ys σ H->Kl g tt te D (Pv (i+1)) (.int (lo+i)) σ H)
  (hd:∀ ys σ H,H D=some (.lst ys)->Pv n ys σ H->Q (.ref D) H):Ja (Fx lo n) g tt te σ0 H1 D Q:=by
 refine ⟨fun i m σ H=>m=n - i/\i<=n/\∃ ys,H D=some (.lst ys)/\Pv i ys σ H,⟨n,by simp,P6 _,[],Ad,h0⟩,?_⟩
 rintro i m σ H ⟨rfl,hi,ys,hD,p⟩
 by_cases hlt:i < n
 ·refine .inr ⟨hlt,fun σ2 H2=>∃ zs,H2 D=some (.lst zs)/\Pv (i+1) zs σ2 H2,fun σ' H' p'=>⟨n - (i+1),by omega,rfl,hlt,p'⟩,fun x H' y=>?_⟩
  obtain ⟨e,y⟩:=y
  subst e y
  exact hs i ys σ _ hlt hD p
 ·have e:i=n:=by omega
  subst e
  exact .inl ⟨Pc _,hd ys σ H hD p⟩
theorem E4 {K:O9}{a:Addr}{xs:List V}(Pv:Nat->List V->St->Hp->Prop)(h0:Pv 0 [] σ0 (upd H1 D (.lst [])))(hl:∀ i ys σ H,i<=xs.length->Pv i ys σ H->SqL K H a xs)
  (hs:∀ i x ys σ H,xs[i]?=some x->H D=some (.lst ys)->Pv i ys σ H->Kl g tt te D (Pv (i+1)) x σ H)
  (hd:∀ ys σ H,H D=some (.lst ys)->Pv xs.length ys σ H->Q (.ref D) H):Ja (Gb K a) g tt te σ0 H1 D Q:=by
 refine ⟨fun i m σ H=>m=xs.length - i/\i<=xs.length/\∃ ys,H D=some (.lst ys)/\Pv i ys σ H,⟨xs.length,by simp,P6 _,[],Ad,h0⟩,?_⟩
 rintro i m σ H ⟨rfl,hi,ys,hD,p⟩
 have q:=hl i ys σ H hi p
 by_cases hlt:i < xs.length
 ·refine .inr ⟨⟨xs,xs[i],q,by simp [hlt]⟩,fun σ2 H2=>∃ zs,H2 D=some (.lst zs)/\Pv (i+1) zs σ2 H2,fun σ' H' p'=>⟨xs.length - (i+1),by omega,rfl,hlt,p'⟩,fun x H' y=>?_⟩
  obtain ⟨e,y⟩:=y
  subst e
  exact hs i x ys σ _ (y xs q) hD p
 ·have e:i=xs.length:=by omega
  subst e
  exact .inl ⟨⟨xs,q,Pc _⟩,hd ys σ H hD p⟩
end
section
variable {X:Cx}
end
theorem Same.upd {H:Hp}{p:Addr}{o:HO}(h:H p=none):Same H (upd H p o):=fun b u e=>by rw [Ai (Ax e h)];exact e
theorem Hg {H:Hp}{a:Addr}(h:H a=none)(o:HO):∃ H1,Same H H1/\H1 a=some o/\upd H a o=H1:=⟨_,Same.upd h,Ad,rfl⟩
theorem Same.put {H0 H:Hp}{p:Addr}{o:HO}(s:Same H0 H)(h:H p=none):Same H0 (L2.upd H p o):=s.trans (Same.upd h)
theorem Same.over {H0 H:Hp}{p:Addr}{o:HO}(s:Same H0 H)(h:H0 p=none):Same H0 (L2.upd H p o):=fun b u e=>by rw [Ai (Ax e h)];exact s b u e
theorem Same.tup {K:O9}{H H':Hp}{a:Addr}{xs:List V}(e:Same H H')(h:SqT K H a xs):SqT K H' a xs:=by
 rcases h with (h | ⟨o,h⟩) | h
 ·exact .inl (.inl (e _ _ h))
 ·exact .inl (.inr ⟨o,e _ _ h⟩)
 ·exact .inr h
theorem Dl {sc out:Scope}{qual:Str}{n:Nat}{f:Addr}{cd:Value}(hk:sc.kind=.function)(hc:(sc.names.all fun y=>y.2 != .cell)=true)
  (hl:(sc.names.all fun y=>y.2 != .local || sc.names.lookup y.1 == some .local)=true) (hf:(sc.names.all fun y=>y.2 != .free || out.names.lookup y.1 == some .cell)=true):Gp sc (envOfC qual out n f cd) where
 kind:=hk
 nocell:=fun y hy e=>by have:=Tu.mp hc y hy;rw [e] at this;cases this
 loc:=fun y hy e=>by
  have:=Tu.mp hl y hy
  rw [e] at this
  simpa using this
 free:=fun y hy e=>by
  have h:=Tu.mp hf y hy
  rw [e] at h
  have h:out.names.lookup y.1=some .cell:=by simpa using h
  obtain ⟨c,hc⟩:=Oh (n:=n+1) h
  show ((cellsFrom (n+1) out.names []).lookup y.1).isSome=true
  rw [hc]
  rfl
noncomputable def Cq (k:Nat)(cap:List Nat)(σ:St):St:=Qq k none++cap.map fun j=>(σ[j]?).join
theorem Zmr {X:Cx}{scope:Scope}{N:List Str}{k:Nat}{cap:List Nat}{σ:St}(hl:k+cap.length=N.length)
  (h:∀(i j:Nat)(x:Str),cap[i]?=some j->N[k+i]?=some x->X.N[j]?=some x/\scope.names.lookup x=some .free/\(X.env.kindOf x=some .cell\/X.env.kindOf x=some .free)):F0 X scope N σ (Cq k cap σ):=by
 refine ⟨by unfold Cq;simp [hl],fun i x v hx hv=>?_⟩
 unfold Cq at hv
 by_cases hi:i < k
 ·rw [Qe (by simpa using hi),List.getElem?_replicate,if_pos hi] at hv
  cases hv
 ·rw [Qm (by simpa using hi),List.length_replicate,Pq] at hv
  cases hj:cap[i - k]? with
  | none=>rw [hj] at hv;cases hv
  | some j =>
   rw [hj] at hv
   have hv:(σ[j]?).join=some v:=Po hv
   obtain ⟨h1,h2,h3⟩:=h (i - k) j x hj (by rw [show k+(i - k)=i by omega];exact hx)
   refine ⟨j,h1,?_,h2,h3⟩
   cases e:σ[j]? with
   | none=>rw [e] at hv;cases hv
   | some o=>rw [e] at hv;exact congrArg some hv
theorem Dq {X:Cx}{scope:Scope}{N:List Str}{k:Nat}{cap:List Nat}(hl:k+cap.length=N.length)
  (h:((cap.zip (N.drop k)).all fun p=>X.N[p.1]? == some p.2 && scope.names.lookup p.2 == some .free && (X.env.kindOf p.2 == some .cell || X.env.kindOf p.2 == some .free))=true):∀ σ,σ.length=X.N.length->F0 X scope N σ (Cq k cap σ):=fun σ _ =>
 Zmr hl fun i j x hj hx=>by
  have m:(j,x)∈cap.zip (N.drop k):=by
   refine Qb (i:=i) ?_
   rw [List.getElem?_zip_eq_some]
   exact ⟨hj,by rw [List.getElem?_drop];exact hx⟩
  have:=Tu.mp h _ m
  simp only [Rr,Bool.or_eq_true,beq_iff_eq] at this
  exact ⟨this.1.1,this.1.2,this.2⟩
theorem Fc {α:Type}{xs:List α}{i:Int}(h0:0<=i)(h1:i < xs.length):∃ v,B5 xs i=some v/\v∈xs:=by
 have hj:i.toNat < xs.length:=by omega
 refine ⟨xs[i.toNat],?_,Tv hj⟩
 have:=Cy (xs:=xs) (j:=i.toNat) (v:=xs[i.toNat]) (by simp [hj])
 rwa [Int.toNat_of_nonneg h0] at this
noncomputable def Zaz:Expr->Option V
 | .Constant (.str x) _ _=>some (.str x)
 | .Constant (.int i) _ _=>some (.int i)
 | .Constant (.bool b) _ _=>some (.bl b)
 | .Constant .none _ _=>some .non
 | _=>none
noncomputable def Lh:List Expr->Option (List V)
 | []=>some []
 | e::es=>match Zaz e,Lh es with
  | some v,some vs=>some (v::vs)
  | _,_=>none
noncomputable def N4 (xs:List V):TA:=fun _ H Q=>Q xs H
theorem Zqo {X:Cx}{e:Expr}{v:V}(h:Zaz e=some v):PE X e (tC v)/\∀ es,starEach (e::es) X.env=(false,eval e X.env)::starEach es X.env:=by
 unfold Zaz at h
 split at h
 ·cases h;exact ⟨Zdy,fun _=>rfl⟩
 ·cases h;exact ⟨Zdk,fun _=>rfl⟩
 ·cases h;exact ⟨Za3,fun _=>rfl⟩
 ·cases h;exact ⟨Zbe,fun _=>rfl⟩
 ·cases h
theorem Zcr {X:Cx}:∀{es:List Expr}{xs:List V},Lh es=some xs->PA X es (N4 xs)
 | [],xs,h=>by
  have h:some []=some xs:=h
  cases h
  exact Zft
 | e::es,xs,h=>by
  unfold Lh at h
  split at h
  ·rename_i v vs h1 h2
   cases h
   obtain ⟨p,hs⟩:=Zqo (X:=X) h1
   exact Zeh p (Zcr h2) (hs es)
  ·cases h
structure Be (P:Program)(w:World)(K:O9)(mg:Str->Option Value)(base:Heap)(k:Nat)(x:Str)(ps:List Str)(sp:Sp):Prop where
 ex:∃(f:Addr)(fd:FuncData),Bb P w K mg base Bc k f fd ps sp/\mg x=some (.ref f)/\T4 K (.ref f)=true/\Binds K fd ps []
section
variable {X:Cx}{k:Nat}{x:Str}{ps:List Str}{sp:Sp}{p pos:Pos}{e:Expr}{es:List Expr}{t:TA}
theorem Zmb (C:Be X.prog X.w X.K X.mg X.base k x ps sp)(hr:Room k X.A)(ha:PA X (e::es) t)(hg:Gl X x:=by rfl)(hdb:(x == ("__debug__" : Str))=false:=by decide)
  (he:starEach (e::es) X.env=(false,eval e X.env)::starEach es X.env:=by rfl) (hpl:(backTo pos (starEach es X.env)).any (·.1)=false:=by rfl):PE X (.Call (.Name x p) (e::es) [] pos) (K4 sp [] E0 t):=by
 obtain ⟨f,fd,F,hm,hk,hb⟩:=C.ex
 exact Zml F hr hg hm hk hb .nil Zkr ha hdb he hpl
end
end L2
namespace L2
open PySem
theorem Zic {x:V}{u:Value}(h:K1 u=some x):RelV x u:=by
 cases u <;> simp only [K1] at h <;> first | (cases h;first | rfl | exact ⟨_,rfl⟩) | cases h
noncomputable def Gu:List Value->Option (List V)
 | []=>some []
 | u::r=>match K1 u,Gu r with
  | some x,some xs=>some (x::xs)
  | _,_=>none
theorem Zfw:∀{us:List Value}{xs:List V},Gu us=some xs->Vals xs us
 | [],xs,h=>by
  have h:some []=some xs:=h
  cases h
  exact .nil
 | u::r,xs,h=>by
  unfold Gu at h
  split at h
  ·rename_i x ys h1 h2
   cases h
   exact .cons (Zic h1) (Zfw h2)
  ·cases h
theorem Za2 {K:O9}{a:Addr}{od:Option Addr}{its:Array Value}{n:Nat}{sl:Array (Option Value)}{xs:List V}(l:K.lookup a=some ⟨.type "tuple",od,.seq its n,sl⟩)(h:Gu its.toList=some xs)(hz:xs.length<=1000):∀ H,SqT K H a xs:=fun H=>by
 have v:=Zfw h
 refine .inr ⟨_,its,n,l,rfl,rfl,?_,v⟩
 have e:=v.length
 have b:1000<=sizeLine:=by decide
 have e2:its.toList.length=its.size:=Ti
 omega
theorem Lp {P:Program}{w:World}{K:O9}{mg:Str->Option Value}{base:Heap}{k:Nat}{x:Str}{ps:List Str}{sp:Sp}{f:Addr}{fd:FuncData}(F:Bb P w K mg base Bc k f fd ps sp)(m:mg x=some (.ref f))(kp:T4 K (.ref f)=true)(b:Binds K fd ps []):Be P w K mg base k x ps sp:=⟨f,fd,F,m,kp,b⟩
section
variable {P:Program}{w:World}{K:O9}{mg:Str->Option Value}{base:Heap}
end
end L2
set_option autoImplicit true
namespace L2
open PySem PySem.Spec PyProof.Rows
structure QE (X:Cx)(e:Expr)(t:TE):Prop where
 run:PE X e t
structure QT (X:Cx)(e:Expr)(t:TT):Prop where
 run:PT X e t
structure QW (X:Cx)(e:Expr)(t:TT):Prop where
 run:PW X e t
structure QA (X:Cx)(es:List Expr)(t:TA):Prop where
 run:PA X es t
structure QS (X:Cx)(st:Stmt)(t:TS):Prop where
 run:PS X st t
structure E9 (X:Cx)(sts:List Stmt)(t:TS):Prop where
 run:PSs X sts t
structure QG (X:Cx)(e:Expr)(g:TG):Prop where
 run:PG X e g
structure QGs (X:Cx)(es:List Expr)(g:D7):Prop where
 run:PGs X es g
structure QI (X:Cx)(tg iter:Expr)(wi:TI):Prop where
 run:PI X tg iter wi
structure QC (X:Cx)(op:CmpOp)(a b:Expr)(t:TE):Prop where
 run:PC X op a b t
structure QO (X:Cx)(e:Option Expr)(t:TO):Prop where
 run:PO X e t
structure QTs (X:Cx)(ifs:List Expr)(t:TT):Prop where
 run:Ga X ifs t
theorem Ah {i j pos}:QE X (.Constant (.int i) j pos) (tC (.int i)):=⟨Zdk⟩
theorem Ef {b j pos}:QE X (.Constant (.bool b) j pos) (tC (.bl b)):=⟨Za3⟩
theorem Dx {j pos}:QE X (.Constant .none j pos) (tC .non):=⟨Zbe⟩
theorem Av {x j pos}:QE X (.Constant (.str x) j pos) (tC (.str x)):=⟨Zdy⟩
theorem Ee {x:Str}{v:V}{u:Value}{pos:Pos}(hg:Gl X x)(hm:X.mg x=none)(hv:bootBuiltins x=some u)(r:RelV v u)(hn:x ≠ "__name__" := by decide)(hd:(x == ("__debug__" : Str))=false:=by decide):QE X (.Name x pos) (tC v):=⟨Znd hg hm hv r hn hd⟩
theorem A0 {op:Operator}{r:R2}(ho:OpR X (binaryOp op) r)(ha:QE X a ta)(hb:QE X b tb):QE X (.BinOp a op b pos) (E3 r ta tb):=⟨Znu ho ha.run hb.run⟩
theorem Io {op:UnaryOp}{r:V->Hp->VK->Prop}(ho:UnR X (unaryOp op) r)(ha:QE X a ta):QE X (.UnaryOp op a pos) (tUn r ta):=⟨Znn ho ha.run⟩
theorem Zez {op:CmpOp}{t:TE}(h:QC X op a b t)(h1:behindInMarks op b=false:=by first | exact K3 _ (by decide) (by decide) | rfl):QE X (.Compare a [op] [b] pos) t:=⟨Ziq h.run h1⟩
theorem Hm {op:CmpOp}{t:TE}(h:QC X op a b t)(h1:behindInMarks op b=false:=by first | exact K3 _ (by decide) (by decide) | rfl):QT X (.Compare a [op] [b] pos) (tB t):=⟨Zg7 h.run h1⟩
theorem Ir {op:CmpOp}{r:R2}(ho:OpR X (compareOp op) r)(ha:QE X a ta)(hb:QE X b tb)(hm:behindInMarks op b=false):QE X (.Compare a [op] [b] pos) (E3 r ta tb):=⟨Znc ho ha.run hb.run hm⟩
theorem A6 {op:CmpOp}{r:R2}(ho:OpR X (compareOp op) r)(ha:QE X a ta)(hb:QE X b tb)(hm:behindInMarks op b=false):QT X (.Compare a [op] [b] pos) (Zae (E3 r ta tb)):=⟨Zku ho ha.run hb.run hm⟩
theorem Zhm {op op':CmpOp}{r r':R2}(ho:OpR X (compareOp op) r)(ho':OpR X (compareOp op') r')(ha:QE X a ta)(hb:QE X b tb)(hc:QE X c tc)(hm:lastMarks [op,op'] [b,c]=false:=by with_unfolding_all rfl):QE X (.Compare a [op,op'] [b,c] pos) (Nz r r' ta tb tc):=⟨Zlw ho ho' ha.run hb.run hc.run hm⟩
theorem Ex {e:Expr}{t:TE}(h:QE X e t)(he:∀ whole,isTrue e X.env whole=(do let v <- whole;standAt e.pos;holding [v] (truthy v)):=by intro _;rfl):QT X e (tB t):=⟨Zqs h.run he⟩
theorem Lf (ha:QT X a tA):QW X (.BoolOp .And [a] pos) tA:=⟨pw_and1 ha.run⟩
theorem Lq {rest:List Expr}(ha:QT X a tA)(hb:QW X (.BoolOp .And (b::rest) pos) tB'):QW X (.BoolOp .And (a::b::rest) pos) (M8 tA tB'):=⟨pw_and ha.run hb.run⟩
theorem Hi (ha:QT X a tA):QT X (.UnaryOp .Not a pos) (Oy tA):=⟨Zh1 ha.run⟩
theorem Kf {op}{t:TE}(h:QE X a t):QE X (.BoolOp op [a] pos) t:=⟨Zp0 h.run⟩
theorem Hr {rest:List Expr}(ha:QE X a ta)(hb:QE X (.BoolOp .And (b::rest) pos) tb):QE X (.BoolOp .And (a::b::rest) pos) (Ot ta tb):=⟨Zo5 ha.run hb.run⟩
theorem Ze0 (ha:QE X a ta):QE X (.UnaryOp .Not a pos) (Mp ta):=⟨Zoa ha.run⟩
theorem Lb {c:Expr}(hc:QT X c tA)(ha:QE X a ta)(hb:QE X b tb):QE X (.IfExp c a b pos) (tIf tA ta tb):=⟨Zmv hc.run ha.run hb.run⟩
theorem A8  : E9 X [] O1:=⟨Zin⟩
theorem Af {st:Stmt}{rest:List Stmt}{t u:TS}(h1:QS X st t)(h2:E9 X rest u):E9 X (st::rest) (O0 t u):=⟨Zgo h1.run h2.run⟩
theorem Aj {st:Stmt}{t:TS}(h1:QS X st t):E9 X [st] t:=⟨Zn4 h1.run⟩
theorem Zdw  : QS X (.Continue pos) Zgj:=⟨Zmm⟩
theorem Co {e:Expr}{te:TE}(he:QE X e te)(hs:swapsWith e none pos.line X.env=pure false:=by rfl):QS X (.Expr e pos) (Om te):=⟨Zp6 he.run hs⟩
theorem Aw {e:Expr}{te:TE}(he:QE X e te):QS X (.Return (some e) pos) (On te):=⟨Zof he.run⟩
theorem Ay {t u:TS}{c:Expr}{a b:List Stmt}{tc:TT}(hc:QT X c tc)(ha:E9 X a t)(hb:E9 X b u):QS X (.If c a b pos) (Fm tc t u):=⟨Zq5 hc.run ha.run hb.run⟩
theorem C9  : QGs X [] Mn:=⟨Zk1⟩
theorem Bx {e:Expr}{es:List Expr}{t:TG}{u:D7}(h1:QG X e t)(h2:QGs X es u)(hs:(assignEach (e::es) X.env).map (·.2)=assign e X.env::(assignEach es X.env).map (·.2):=by rfl):QGs X (e::es) (Mb t u):=⟨Zn1 h1.run h2.run hs⟩
theorem A1 {i:Nat}{x:Str}(hN:X.N.Nodup)(hi:X.N[i]?=some x)(hx:Eo X.env.scope x)(hf:X.fn x=true\/X.env.scope.names.lookup x=some .local:=by first | exact .inl rfl | exact .inr rfl | assumption):QG X (.Name x pos) (F1 i):=⟨Zmt hN hi hx hf⟩
theorem Zhw {es:List Expr}{k:Nat}{t:D7}{n:Nat}(hc:X.calm=true)(h:QGs X es t)(hn:(assignEach es X.env).length=n:=by rfl)(hst:(assignEach es X.env).findIdx? (·.1)=none:=by rfl):QG X (.Tuple es k pos) (Le X.K n t):=⟨Zl6 hc h.run hn hst⟩
theorem Zd6 {o i:Expr}{to ti:TE}{t:Ij}(ho:QE X o to)(hi:QE X i ti)(hs:Zap X t)(ha:∀ v,assign (.Subscript o i pos) X.env v=(do
   let ov <- holding [v] (eval o X.env)
   let iv <- holding [v,ov] (eval i X.env)
   standAt pos
   holding [v,ov,iv] (setItem ov iv v)
   release [v,ov,iv] []):=by intro _;rfl):QG X (.Subscript o i pos) (Mq to ti t):=⟨Zgl ho.run hi.run hs ha⟩
theorem Hl {tg e:Expr}{te:TE}{g:TG}(he:QE X e te)(hg:QG X tg g)(hs:swapsWithSole [tg] e pos.line X.env=pure false:=by rfl)(hw:swappedStores [tg] e X.env=pure none:=by rfl)(h1:(assignEach [tg] X.env).map (·.2)=[assign tg X.env]:=by rfl):QS X (.Assign [tg] e pos) (F5 te g):=⟨Zll he.run hg.run hs hw h1⟩
theorem Hs {i:Nat}{x:Str}{e:Expr}{te:TE}{pos':Pos}(hN:X.N.Nodup)(hi:X.N[i]?=some x)(hx:Eo X.env.scope x)(he:QE X e te)(hs:swapsWith e (some (.Name x pos')) pos.line X.env=pure false:=by rfl)(hf:X.fn x=true\/X.env.scope.names.lookup x=some .local:=by first | exact .inl rfl | exact .inr rfl | assumption):QS X (.Assign [.Name x pos'] e pos) (F5 te (F1 i)):=⟨Znr hN hi hx he.run hs hf⟩
theorem Zhk {i:Nat}{x:Str}{e:Expr}{te:TE}{op:Operator}{ti:Hq}{pos':Pos}(hN:X.N.Nodup)(hi:X.N[i]?=some x)(hx:Eo X.env.scope x)(he:QE X e te)(ho:PIp X op ti)(hf:X.fn x=true\/X.env.scope.names.lookup x=some .local:=by first | exact .inl rfl | exact .inr rfl | assumption):QS X (.AugAssign (.Name x pos') op e pos) (Zay i te ti):=⟨Zjr hN hi hx he.run ho hf⟩
theorem Hk {c:Expr}{body:List Stmt}{tc:TT}{tb:TS}(hp:PassesOwn (model X.prog X.w) X.A X.env X.xe)(hc:QT X c tc)(hb:E9 X body tb):QS X (.While c body [] pos) (Zcb tc tb):=⟨Zmk hp hc.run hb.run⟩
theorem Gh {a:Expr}{ta:TA}{p pos:Pos}(hg:Gl X "range")(hm:X.mg "range" = none)(ha:QA X [a] ta)(hs:starEach [a] X.env=[(false,eval a X.env)]:=by rfl):QI X tg (.Call (.Name "range" p) [a] [] pos) (M6 ta):=⟨Ziy hg hm ha.run hs⟩
theorem Cw {iter:Expr}{body:List Stmt}{wi:TI}{g:TG}{tb:TS}{pos:Pos}(hp:PassesOwn (model X.prog X.w) X.A X.env X.xe)(hc:X.calm=true)(hi:QI X tg iter wi)(hg:QG X tg g)(hb:E9 X body tb)(hs:∀ x,foldedSetIterable iter X.env x=pure x:=by intro _;rfl):QS X (.For tg iter body [] pos) (Nb wi g tb):=⟨Zm8 hp hc hi.run hg.run hb.run hs⟩
theorem Ab  : QA X [] Ov:=⟨Zft⟩
theorem Aa (ha:QE X e te)(hr:QA X es t)(hs:starEach (e::es) X.env=(false,eval e X.env)::starEach es X.env:=by rfl):QA X (e::es) (Np te t):=⟨Zeh ha.run hr.run hs⟩
theorem Ap {x1}(h:QA X es t):QE X (.Tuple es x1 pos) (Zat t):=⟨Zix h.run⟩
theorem Bf (h:QA X es t):QE X (.List es pos) (L9 t):=⟨Zi9 h.run⟩
theorem A5 (C:Be X.prog X.w X.K X.mg X.base k x ps sp)(hr:Room k X.A)(ha:QA X (e::es) t)(hg:Gl X x:=by rfl)(hdb:(x == ("__debug__" : Str))=false:=by decide)(he:starEach (e::es) X.env=(false,eval e X.env)::starEach es X.env:=by rfl)(hpl:(backTo pos (starEach es X.env)).any (·.1)=false:=by rfl):QE X (.Call (.Name x p) (e::es) [] pos) (K4 sp [] E0 t):=⟨Zmb C hr ha.run hg hdb he hpl⟩
theorem B1 {id:String}(hc:C3 X (.builtin id) r)(hg:Gl X x)(hm:X.mg x=none)(hv:bootBuiltins x=some (.builtin id))(ha:QA X (e::es) t)(hn:x ≠ "__name__" := by decide)(hdb:(x == ("__debug__" : Str))=false:=by decide)(he:starEach (e::es) X.env=(false,eval e X.env)::starEach es X.env:=by rfl)(hpl:(backTo pos (starEach es X.env)).any (·.1)=false:=by rfl):QE X (.Call (.Name x p) (e::es) [] pos) (tCB r t):=⟨Zgz hc hg hm hv ha.run hn hdb he hpl⟩
theorem Fl {T:String}(hc:C3 X (.type T) r)(hg:Gl X x)(hm:X.mg x=none)(hv:bootBuiltins x=some (.type T))(ha:QA X (e::es) t)(hn:x ≠ "__name__" := by decide)(hdb:(x == ("__debug__" : Str))=false:=by decide)(he:starEach (e::es) X.env=(false,eval e X.env)::starEach es X.env:=by rfl)(hpl:(backTo pos (starEach es X.env)).any (·.1)=false:=by rfl):QE X (.Call (.Name x p) (e::es) [] pos) (tCB r t):=⟨Ziv hc hg hm hv ha.run hn hdb he hpl⟩
theorem Ew  : QO X none O2:=⟨Zk7⟩
theorem Cd (h:QE X e te):QO X (some e) (O7 te):=⟨Zmq h.run⟩
theorem C1 {lo hi:Option Expr}{r:V->Option Int->Option Int->Hp->VK->Prop}(hr:SlR X r)(he:QE X e te)(hl:QO X lo tl)(hu:QO X hi th):QE X (.Subscript e (.Slice lo hi none p2) pos) (tSl r te tl th):=⟨Zmf hr he.run hl.run hu.run⟩
theorem Na {r:R2}(hr:IxR X r)(ha:QE X a ta)(hb:QE X b tb)(hs:Os b):QE X (.Subscript a b pos) (E3 r ta tb):=⟨Zjc hr ha.run hb.run hs⟩
theorem Zkz {T id:String}(pa:PlainAttrs T)(slot:Slot T name id)(hty:typeOf (.builtin id)=pure (.type "method_descriptor"))(hm:Gz X id r)(ho:QE X o to)(ha:QA X (e::es) t)(hbase:attributeBase o name X.env (eval o X.env)=eval o X.env:=by rfl)(hfew:((backTo cpos (starEach (e::es) X.env)).all (fun x=>!x.1) && (backToKw cpos (keywordEach [] X.env)).all (fun x=>x.1.isSome)
   && decide ((e::es).length+([]:List Keyword).length+(if ([]:List Keyword).isEmpty then 0 else 1) < 30))=true:=by rfl) (hline:(apos.endLine == cpos.line)=true:=by rfl) (hs:starEach (e::es) X.env=(false,eval e X.env)::starEach es X.env:=by rfl) (hplain:(backTo cpos (starEach es X.env)).any (·.1)=false:=by rfl):QE X (.Call (.Attribute o name apos) (e::es) [] cpos) (tBM X.K T r to t):=⟨Zom pa slot hty hm ho.run ha.run hbase hfew hline hs hplain⟩
theorem Zqq {T id:String}(pa:PlainAttrs T)(slot:Slot T name id)(hty:typeOf (.builtin id)=pure (.type "method_descriptor"))(hm:Gz X id r)(ho:QE X o to)(hbase:attributeBase o name X.env (eval o X.env)=eval o X.env:=by rfl)(hline:(apos.endLine == cpos.line)=true:=by rfl):QE X (.Call (.Attribute o name apos) [] [] cpos) (L3 X.K T r to):=⟨Zlf pa slot hty hm ho.run hbase hline⟩
theorem Ey (hc:X.calm=true)(S:Gp scope X.env)(hi:QI X target iter wi)(T:∀ σ,σ.length=X.N.length->F0 X scope N σ (σ0 σ))(hg:∀ C s H fp,QG (Ct X scope C N s H fp) target g)(ht:∀ C s H fp,QTs (Ct X scope C N s H fp) ifs tt)(he:∀ C s H fp,QE (Ct X scope C N s H fp) elt te)(hs:∀ x,foldedSetIterable iter X.env x=pure x:=by intro _;rfl):QE X (.ListComp elt [⟨target,iter,ifs,0⟩] scope pos) (Hz wi σ0 g tt te):=⟨Zm3 hc S hi.run T (fun C s H fp=>(hg C s H fp).run) (fun C s H fp=>(ht C s H fp).run) (fun C s H fp=>(he C s H fp).run) hs⟩
theorem La {i:Nat}{y:Str}{py spos:Pos}(hc:X.calm=true)(S:Gp scope X.env)(hi:QI X target iter wi)(T:∀ σ,σ.length=X.N.length->F0 X scope N σ (σ0 σ))(hg:∀ C s H fp,QG (Ct X scope C N s H fp) target g)(ht:∀ C s H fp,QTs (Ct X scope C N s H fp) ifs tt)(he:∀ C s H fp,QE (Ct X scope C N s H fp) elt te)(hN:X.N.Nodup)(hy:X.N[i]?=some y)(hx:Eo X.env.scope y)(hsw:swapsWith (.ListComp elt [⟨target,iter,ifs,0⟩] scope pos) (some (.Name y py)) spos.line X.env=pure true:=by rfl)(hf:X.fn y=true\/X.env.scope.names.lookup y=some .local:=by first | exact .inl rfl | exact .inr rfl | assumption)(hs:∀ x,foldedSetIterable iter X.env x=pure x:=by intro _;rfl):QS X (.Assign [.Name y py] (.ListComp elt [⟨target,iter,ifs,0⟩] scope pos) spos) (F5 (Hz wi σ0 g tt te) (F1 i)):=⟨Zg6 hc S hi.run T (fun C s H fp=>(hg C s H fp).run) (fun C s H fp=>(ht C s H fp).run) (fun C s H fp=>(he C s H fp).run) hN hy hx hsw hf hs⟩
theorem Fa {X:Cx}:QTs X [] Ma:=⟨Zi0⟩
theorem Kb {X:Cx}{c:Expr}{t:TT}(h:QT X c t):QTs X [c] t:=⟨Zld h.run⟩
theorem Ky {j pos'}(ha:QE X a ta):QC X .Is a (.Constant .none j pos') (L6 ta):=⟨Zki ha.run⟩
theorem Zh7 {j pos'}(ha:QE X a ta):QC X .IsNot a (.Constant .none j pos') (Of ta):=⟨Zni ha.run⟩
theorem Ku {X:Cx}{es:List Expr}{xs:List V}(h:Lh es=some xs):QA X es (N4 xs):=⟨Zcr h⟩
theorem qv {X:Cx}(i:Nat){x:Str}{pos:Pos}(hN:X.N[i]?=some x:=by rfl)(hv:Vis X.env.scope x:=by first | exact Or.inl rfl | exact Or.inr (Or.inl rfl) | exact Or.inr (Or.inr rfl))(hd:(x == ("__debug__" : Str))=false:=by decide)
  (hcd:(x == ("__classdict__" : Str))=false:=by decide):QE X (.Name x pos) (Mh i):=⟨Zmc hN hv hd hcd⟩
theorem QW.qt {X:Cx}{e:Expr}{t:TT}(h:QW X e t):QT X e t:=⟨h.run.pt⟩
section
variable {P:Program}{w:World}{K:O9}{mg:Str->Option Value}{base:Heap}
theorem Fun.okq {x qual:Str}{st:Stmt}{f:Addr}{fd:FuncData}{N ps:List Str}{k:Nat}{sp:Sp}(F:Fun K x qual st f fd)(S:Bp N ps (Bh st))(len:∀ vs H Q E,sp vs H Q E->vs.length=ps.length)
  (hbody:∀(cdv:Value)(A:Around)(outer:List Env)(s:Shared)(H:Hp)(vs:List V)(Q:VK)(E:XK),Room k (A.deeper (envOfC qual (Bh st) s.heap.objs.size f cdv))->sp vs H Q E ->
   ∃ t,E9 (Ge Bc P w K mg base N qual (Bh st) f cdv A outer s H E).nox (Fq st) t/\t { nx:=fun _ H'=>Q .non H',rt:=Q } (Fg N vs) H):Bb P w K mg base Bc (k+1) f fd ps sp :=
 F.ok S len fun cdv A outer s H vs Q E hr h=>by
  obtain ⟨t,q,r⟩:=hbody cdv A outer s H vs Q E hr h
  exact ⟨t,q.run,r⟩
end
section
variable {X:Cx}
noncomputable def Zhq:R2:=fun x y H Q=>∃ i j,x=.str i/\y=.str j/\i.length+j.length<=sizeLine/\Q (.str (i++j)) H
noncomputable def Zds (K:O9):R2:=fun x y H Q=>∃ a b xs ys,x=.ref a/\y=.ref b/\SqT K H a xs/\SqT K H b ys/\xs.length+ys.length<=sizeLine /\
 ∀ r H',Same H H'->SqT K H' r (xs++ys)->Q (.ref r) H'
theorem Zhs:OpR X (binaryOp .Add) (Zds X.K):=by
 intro pins s σ H x y v u Q I rx ry h
 obtain ⟨a,b,xs,ys,rfl,rfl,ha,hb,hz,q⟩:=h
 by_cases hx:xs=[]
 ·subst hx
  cases rx
  cases ry
  obtain ⟨its,r1,p1,_⟩:=I.tuple ha
  obtain ⟨its2,r2,p2,_⟩:=I.tuple hb
  cases r1
  obtain ⟨⟨cls,dd,data,sl⟩,ho,hc,n,hd⟩:=id p1
  obtain ⟨⟨cls2,dd2,data2,sl2⟩,ho2,hc2,n2,hd2⟩:=id p2
  simp only at hc hd hc2 hd2
  subst hc hd hc2 hd2
  exact U9 ⟨_,ho,rfl⟩ ⟨_,ho2,rfl⟩ Uv U3 Up Ul (Uj _ _)
   (tuple_addW0 a b _ _ n n2 dd dd2 sl sl2 (by simp)) ⟨ho,ho2,⟨.ref b,H,I,rfl,q b H (Same.refl H) hb⟩⟩
 ·refine Zcx pins s σ H _ _ v u Q I rx ry ⟨a,b,xs,ys,rfl,rfl,ha,hb,hx,hz,fun e=>?_,fun _ p hp=>q p _ (fun c o e=>by rw [Ai (Ax e hp)];exact e) (.inl (.inl Ad))⟩
  subst e
  exact q a H (Same.refl H) (by rw [Qc];exact ha)
noncomputable def Gr (K:O9):R2:=fun x y H Q=>En (fun i j=>.int (i+j)) x y H Q\/Zhq x y H Q\/rCat x y H Q\/Zds K x y H Q
theorem op_addA:OpR X (binaryOp .Add) (Gr X.K):=op_add.or (op_add_str.or (op_cat.or Zhs))
theorem s_add_int {K:O9}{i j:Int}{H:Hp}{Q:VK}(h:Q (.int (i+j)) H):Gr K (.int i) (.int j) H Q:=.inl ⟨i,j,rfl,rfl,h⟩
theorem Zar {K:O9}{i j:Str}{H:Hp}{Q:VK}(hl:i.length+j.length<=sizeLine)(h:Q (.str (i++j)) H):Gr K (.str i) (.str j) H Q:=.inr (.inl ⟨i,j,rfl,rfl,hl,h⟩)
theorem Zon {K:O9}{a b:Addr}{xs ys:List V}{H:Hp}{Q:VK}(ha:SqT K H a xs)(hb:SqT K H b ys)(hz:xs.length+ys.length<=sizeLine)(h:∀ r H',Same H H'->SqT K H' r (xs++ys)->Q (.ref r) H'):Gr K (.ref a) (.ref b) H Q:=.inr (.inr (.inr ⟨a,b,xs,ys,rfl,rfl,ha,hb,hz,h⟩))
noncomputable def Ow:R2:=fun x y H Q=>rI CMul (fun i j=>.int (i * j)) x y H Q\/rRep x y H Q
theorem Gq:OpR X (binaryOp .Mult) Ow:=op_mul.or Zjf
theorem s_mul_l {i j:Int}{H:Hp}{Q:VK}(h1:-(2 ^ 64) < i)(h2:i < 2 ^ 64)(h:Q (.int (i * j)) H):Ow (.int i) (.int j) H Q:=.inl ⟨i,j,rfl,rfl,.inl ⟨h1,h2⟩,h⟩
theorem s_mul_r {i j:Int}{H:Hp}{Q:VK}(h1:-(2 ^ 64) < j)(h2:j < 2 ^ 64)(h:Q (.int (i * j)) H):Ow (.int i) (.int j) H Q:=.inl ⟨i,j,rfl,rfl,.inr ⟨h1,h2⟩,h⟩
theorem s_rI {C:Int->Int->Prop}{g:Int->Int->V}{i j:Int}{H:Hp}{Q:VK}(hc:C i j)(h:Q (g i j) H):rI C g (.int i) (.int j) H Q:=⟨i,j,rfl,rfl,hc,h⟩
theorem s_rI0 {g:Int->Int->V}{i j:Int}{H:Hp}{Q:VK}(h:Q (g i j) H):En g (.int i) (.int j) H Q:=⟨i,j,rfl,rfl,h⟩
theorem s_rU {g:Int->V}{i:Int}{H:Hp}{Q:VK}(h:Q (g i) H):rU g (.int i) H Q:=⟨i,rfl,h⟩
noncomputable def rLtA:R2:=fun x y H Q=>En (fun i j=>.bl (decide (i < j))) x y H Q\/∃ i j,x=.str i/\y=.str j/\Q (.bl (decide (i.cps.toList < j.cps.toList))) H
theorem Zdr:OpR X (compareOp .Lt) rLtA:=op_lt.or Ziw
noncomputable def rLeA:R2:=fun x y H Q=>En (fun i j=>.bl (decide (i<=j))) x y H Q\/∃ i j,x=.str i/\y=.str j/\Q (.bl (!(decide (j.cps.toList < i.cps.toList)))) H
theorem Zlg:OpR X (compareOp .LtE) rLeA:=op_le.or Zjk
theorem s_lt {i j:Int}{H:Hp}{Q:VK}(h:Q (.bl (decide (i < j))) H):rLtA (.int i) (.int j) H Q:=.inl ⟨i,j,rfl,rfl,h⟩
theorem s_le {i j:Int}{H:Hp}{Q:VK}(h:Q (.bl (decide (i<=j))) H):rLeA (.int i) (.int j) H Q:=.inl ⟨i,j,rfl,rfl,h⟩
noncomputable def rInS (neg:Bool):R2:=fun x y H Q=>∃(c:Nat)(j:Str),x=.str ⟨#[c]⟩/\y=.str j/\Q (.bl (if neg then !decide (c∈j.cps.toList) else decide (c∈j.cps.toList))) H
theorem Zpk:OpR X (compareOp .In) (rInS false):=Zhz
noncomputable def M0 (K:O9)(neg:Bool):R2:=fun x y H Q=>rIn K neg x y H Q\/rInS neg x y H Q
theorem Zpe:OpR X (compareOp .In) (M0 X.K false):=op_in_seq.or Zpk
theorem I0 {K:O9}{neg:Bool}{x:V}{p:Addr}{xs:List V}{H:Hp}{Q:VK}(hq:SqL K H p xs\/SqT K H p xs)(hx:C2 x=true)(hxs:xs.all C2=true)(h:Q (.bl (if neg then !E7 x xs else E7 x xs)) H):M0 K neg x (.ref p) H Q:=.inl ⟨p,xs,rfl,hq,hx,hxs,h⟩
noncomputable def Nm (K:O9):V->Option Int->Option Int->Hp->VK->Prop:=fun x lo hi H Q=>N5 K x lo hi H Q\/O6 x lo hi H Q\/rSlT K x lo hi H Q
theorem Zle:SlR X (Nm X.K):=sl_list.or (sl_str.or Zdb)
theorem F6 {K:O9}{a:Addr}{xs:List V}{lo hi:Option Int}{H:Hp}{Q:VK}(ha:SqL K H a xs)(h:∀ p,H p=none->Q (.ref p) (upd H p (.lst (Bq xs lo hi)))):Nm K (.ref a) lo hi H Q:=.inl ⟨a,xs,rfl,ha,h⟩
theorem Bk {K:O9}{a:Addr}{xs:List V}{i:Int}{v:V}{H:Hp}{Q:VK}(ha:SqL K H a xs)(hv:B5 xs i=some v)(h:Q v H):Hh K (.ref a) (.int i) H Q:=.inl ⟨a,xs,i,v,rfl,rfl,ha,hv,h⟩
theorem Az {K:O9}{a:Addr}{xs:List V}{i:Int}{v:V}{H:Hp}{Q:VK}(ha:SqT K H a xs)(hv:B5 xs i=some v)(h:Q v H):Hh K (.ref a) (.int i) H Q:=.inr (.inl ⟨a,xs,i,v,rfl,rfl,ha,hv,h⟩)
theorem Zie {K:O9}{z:Str}{i:Int}{c:Nat}{H:Hp}{Q:VK}(hl:z.length<=sizeLine)(hv:B5 z.cps.toList i=some c)(h:Q (.str ⟨#[c]⟩) H):Hh K (.str z) (.int i) H Q:=.inr (.inr ⟨z,i,c,rfl,rfl,hl,hv,h⟩)
noncomputable def L5 (K:O9):List V->Hp->VK->Prop:=fun xs H Q=>∃ x n,xs=[x]/\LenV K x H n/\Q (.int n) H
theorem Zjw:C3 X (.builtin "len") (L5 X.K):=Zqj
theorem Dv {K:O9}{a:Addr}{xs:List V}{H:Hp}{Q:VK}(ha:SqL K H a xs)(h:Q (.int xs.length) H):L5 K [.ref a] H Q:=⟨_,_,rfl,.inl ⟨xs,ha,rfl⟩,h⟩
theorem Fs {K:O9}{a:Addr}{xs:List V}{H:Hp}{Q:VK}(ha:SqT K H a xs)(h:Q (.int xs.length) H):L5 K [.ref a] H Q:=⟨_,_,rfl,.inr ⟨xs,ha,rfl⟩,h⟩
structure Fk (mg:Str->Option Value)(x:Str)(v:V):Prop where
 ex:∃ u,mg x=some u/\RelV v u
theorem Et {x:Str}{v:V}{pos:Pos}(G:Fk X.mg x v)(hg:Gl X x:=by rfl)(hd:(x == ("__debug__" : Str))=false:=by decide):QE X (.Name x pos) (tC v):=by
 obtain ⟨u,h,r⟩:=G.ex
 exact ⟨Zlh hg h r hd⟩
noncomputable def Nk (K:O9)(tl:TE):TI:=fun σ H R=>tl σ H fun x H1=>(∃ a,x=.ref a/\(∃ xs,SqL K H1 a xs)/\R (Gb K a) H1)\/(∃ a,x=.ref a/\(∃ xs,SqT K H1 a xs)/\R (Go K a) H1)\/∃ z,x=.str z/\R (Its z) H1
theorem Zi5 {tg l:Expr}{tl:TE}(hl:QE X l tl):QI X tg l (Nk X.K tl):=by
 refine ⟨fun pins s σ H R I h=>?_⟩
 refine Ak (hl.run pins s σ H _ I h) fun v s1 zq=>?_
 obtain ⟨x,H1,I1,r1,q1⟩:=zq
 have one:∀(l:Expr)(t:TE),PE X l t->True:=fun _ _ _=>trivial
 rcases q1 with ⟨a,e,⟨xs,hq⟩,q⟩ | ⟨a,e,⟨xs,hq⟩,q⟩ | ⟨z,e,q⟩
 ·subst e
  cases r1
  obtain ⟨its,rv,p,hz⟩:=I1.list hq
  refine wpAny_pyIter_list p.isList ?_
  refine ⟨s1.heap.objs.size,[s1.heap.objs.size],_,_,H1,rfl,I1.kept (t':=s1.toks) fun b o e=>Pk _ e,Zpt a _,⟨_,P0 _ rfl,rfl,rfl⟩,fun b hb=>?_,q⟩
  have e:b=s1.heap.objs.size:=by simpa using hb
  subst e
  exact I1.fpOk (Pc _) (I1.hok.fresh (Pc _))
 ·subst e
  cases r1
  obtain ⟨its,rv,p,hz⟩:=I1.tuple hq
  refine To (show s1.heap.IsTuple a its.toArray from p) ?_
  refine ⟨s1.heap.objs.size,[s1.heap.objs.size],_,_,H1,rfl,I1.kept (t':=s1.toks) fun b o e=>Pk _ e,Zmn a _,⟨_,P0 _ rfl,rfl,rfl⟩,fun b hb=>?_,q⟩
  have e:b=s1.heap.objs.size:=by simpa using hb
  subst e
  exact I1.fpOk (Pc _) (I1.hok.fresh (Pc _))
 ·subst e
  obtain ⟨t,rfl⟩:=r1
  refine wpAny_pyIter_strU ?_
  refine ⟨s1.heap.objs.size,[s1.heap.objs.size],_,_,H1,rfl,I1.kept (t':=s1.toks) fun b o e=>Pk _ e,Znt _ z t,⟨_,P0 _ rfl,rfl,rfl⟩,fun b hb=>?_,q⟩
  have e:b=s1.heap.objs.size:=by simpa using hb
  subst e
  exact I1.fpOk (Pc _) (I1.hok.fresh (Pc _))
end
section
variable {X:Cx}{tg:Expr}
end
noncomputable def G5 (K:O9)(a:Addr)(n:Nat):It :=
 ⟨fun i H=>∃ xs,SqL K H a xs/\xs.length=n/\i < n,fun i H x H'=>H'=H/\∀ xs,SqL K H a xs->xs[n - 1 - i]?=some x,fun i _=>i=n⟩
theorem Zod {P:Program}{w:World}{K:O9}{tg:Expr}(a it:Addr)(n:Nat):Fp P w K tg (G5 K a n) [it] it (fun i h=>i<=n/\h.IsRevIter it a ((n:Int) - 1 - (i:Int))) where
 mem:=by simp
 obj:=fun i h st b hb=>by
  have e:b=it:=by simpa using hb
  subst e
  obtain ⟨o,e,c,d⟩:=st.2
  exact ⟨o,e,fun v z=>by rw [d] at z;cases z⟩
 keep:=fun i h h' st k=>⟨st.1,st.2.at fun o e=>k it (by simp) o e⟩
 item:=by
  intro X hP hw hK hc i pins s σ H E I hf st hg
  subst hP hw hK
  obtain ⟨xs,hq,hl,hi⟩:=hg
  obtain ⟨its,rv,p,hz⟩:=I.list hq
  have hx:xs[n - 1 - i]?=some (xs[n - 1 - i]'(by omega)):=Pb (by omega)
  obtain ⟨u,hu,ru⟩:=rv.get hx
  obtain ⟨f0,f1,f2,f3,f4,f5⟩:=hf it (by simp)
  have e:(n:Int) - 1 - (i:Int)=((n - 1 - i:Nat):Int):=by omega
  have hit:=st.2
  rw [e] at hit
  refine wpAny_pyNext_rev_item hit p.isList (x:=u) (by simpa using hu) fun h' st' sb=>?_
  have I1:Inv X pins σ H { s with heap:=h' }:=I.turned (t':=s.toks) (fun b o hb e=>(sb.2 b hb).trans e) f0 f1 f3 f4 f5
  have e2:((n - 1 - i:Nat):Int) - 1=(n:Int) - 1 - ((i+1:Nat):Int):=by omega
  rw [e2] at st'
  obtain ⟨o,eo,c,d⟩:=id st'
  exact ⟨u,rfl,Jp (s:={ s with heap:=h' }) eo c d (by decide) ⟨_,H,I1,ru,⟨rfl,fun ys hy=>by rw [I.list_inj hy hq];exact hx⟩,⟨hi,st'⟩,fun b hb=>(hf b hb).1⟩⟩
 done:=by
  intro X hP hw hK hc i pins s σ H E I hf st hg
  subst hP hw hK
  have hg:i=n:=hg
  subst hg
  obtain ⟨f0,f1,f2,f3,f4,f5⟩:=hf it (by simp)
  have e:(i:Int) - 1 - (i:Int)=-1:=by omega
  have hit:=st.2
  rw [e] at hit
  exact wpAny_pyNext_rev_end (I.ok.hd hc) hit fun h' eb=>⟨rfl,I.turned (t':=s.toks) (fun b o hb e=>eb b o hb e) f0 f1 f3 f4 f5⟩
 self:=fun _ _ _ _ _ st h=>Vp st.2 h
theorem Zdj:bootBuiltins "reversed" = some (.type "reversed"):=by decide +kernel
section
variable {X:Cx}{tg:Expr}
noncomputable def Zag (K:O9)(ta:TA):TI:=fun σ H R=>ta σ H fun vs H1=>∃ a xs,vs=[.ref a]/\SqL K H1 a xs/\R (G5 K a xs.length) H1
theorem Zk4 {a:Expr}{ta:TA}{p pos:Pos}(hg:Gl X "reversed")(hm:X.mg "reversed" = none)(ha:QA X [a] ta)(hs:starEach [a] X.env=[(false,eval a X.env)]:=by rfl):QI X tg (.Call (.Name "reversed" p) [a] [] pos) (Zag X.K ta):=by
 refine ⟨fun pins s σ H R I h=>?_⟩
 refine Call_ (Dw I hg hm Zdj (Q2 (Ak (ha.run pos pins s σ H _ I h) fun us s1 zq=>?_) hs rfl))
 obtain ⟨vs,H1,I1,r1,q1⟩:=zq
 obtain ⟨l,xs,e,hq,q⟩:=q1
 subst e
 cases r1 with
 | cons r rr =>
  cases rr
  cases r
  obtain ⟨its,rv,pl,hz⟩:=I1.list hq
  refine call_reversed_list pl.isList ?_
  have hl:=rv.length
  have st0:(s1.heap.push (Vd l (((its.toArray).size:Int) - 1))).IsRevIter s1.heap.objs.size l ((xs.length:Int) - 1 - ((0:Nat):Int)):=by
   refine ⟨_,P0 _ rfl,rfl,?_⟩
   have e:((its.toArray).size:Int) - 1=(xs.length:Int) - 1 - ((0:Nat):Int):=by simp [hl]
   rw [<- e]
   rfl
  refine Vp (it:=s1.heap.objs.size) (l:=l) (i:=(xs.length:Int) - 1 - ((0:Nat):Int)) st0 ?_
  refine ⟨s1.heap.objs.size,[s1.heap.objs.size],_,_,H1,rfl,I1.kept (t':=s1.toks) fun b o e=>Pk _ e,Zod l _ xs.length,⟨P6 _,st0⟩,fun b hb=>?_,q⟩
  have e:b=s1.heap.objs.size:=by simpa using hb
  subst e
  exact I1.fpOk (Pc _) (I1.hok.fresh (Pc _))
theorem Zlj {K:O9}{a:Addr}{xs:List V}{g:TG}{tb:TS}{D:C0}{σ:St}{H:Hp}(Pv:Nat->St->Hp->Prop)(h0:Pv 0 σ H)(hl:∀ i σ H,i<=xs.length->Pv i σ H->SqL K H a xs)
  (hs:∀ i x σ H,i < xs.length->xs[xs.length - 1 - i]?=some x->Pv i σ H->g x σ H fun σ2 H2=>tb { D with nx:=Pv (i+1),ct:=Pv (i+1),bk:=D.nx } σ2 H2) (hd:∀ σ H,Pv xs.length σ H->D.nx σ H) :
  ∃ W:Nat->Nat->St->Hp->Prop,(∃ m,W 0 m σ H)/\∀ i m σ H,W i m σ H ->
   ((G5 K a xs.length).stop i H/\D.nx σ H)\/((G5 K a xs.length).go i H/\∃ N:St->Hp->Prop,(∀ σ' H',N σ' H'->∃ m',m' < m/\W (i+1) m' σ' H')/\∀ x H',(G5 K a xs.length).yld i H x H'->g x σ H' fun σ2 H2=>tb { D with nx:=N,ct:=N,bk:=D.nx } σ2 H2):=by
 refine ⟨fun i m σ H=>m=xs.length - i/\i<=xs.length/\Pv i σ H,⟨xs.length,by simp,P6 _,h0⟩,?_⟩
 rintro i m σ H ⟨rfl,hi,p⟩
 have q:=hl i σ H hi p
 by_cases hlt:i < xs.length
 ·refine .inr ⟨⟨xs,q,rfl,hlt⟩,Pv (i+1),fun σ' H' p'=>⟨xs.length - (i+1),by omega,rfl,hlt,p'⟩,fun x H' y=>?_⟩
  obtain ⟨e,y⟩:=y
  subst e
  exact hs i x σ _ hlt (y xs q) p
 ·have e:i=xs.length:=by omega
  subst e
  exact .inl ⟨rfl,hd σ H p⟩
end
section
variable {prog:Program}{w:World}{A:Around}{E:Value->Shared->Prop}{s:Shared}
theorem Zmg {it t:Addr}{i:Nat}{items:Array Value}{x:Value}{Q:Value->Shared->Prop}(hit:s.heap.IsTupleIter it t i)(ht:s.heap.IsTuple t items)(hx:items[i]?=some x)
  (hQ:∀ h',h'.IsTupleIter it t (i+1)->Pu it s.heap h'->Q x { s with heap:=h' }):wpAny (model prog w) A (Qx (.ref it)) Q E s:=by
 obtain ⟨o,ho,hc,hd⟩:=id hit
 obtain ⟨ol,hol,_,nl,hdl⟩:=ht
 unfold Qx
 refine Pa (Q5 (name:=Ql "__next__") hit.typeIs Uf
  (Q7 Uf hit.typeIs Wf ?_ (We _)))
 show wpAny _ _ (field (.ref it) 0 >>= _) _ _ s
 refine Pa (Px ho hd (x:=.ref t) rfl ?_)
 show wpAny _ _ (if (Value.ref t == Value.none)=true then _ else _) _ _ s
 rw [if_neg (show ¬ ((Value.ref t == Value.none)=true) from Pp)]
 show wpAny _ _ (field (.ref it) 1 >>= _) _ _ s
 refine Pa (Px ho hd (x:=.int i 0) rfl ?_)
 show wpAny _ _ (seqItems? (.ref t) >>= _) _ _ s
 refine Pa (Q3 hol hdl ?_)
 simp only [Rq,hx]
 refine Pa (wpAny_setField ho hd (by simp) (Pd ⟨x,rfl,Pd (hQ _ ?_ (Pu.update ..))⟩))
 exact ⟨_,Se _ ho (Obj.isFreed_of_fields (Obj.data_mapFields hd _)),(Obj.cls_mapFields ..).trans hc,by
  rw [Obj.data_mapFields hd];simp [rawInt]⟩
theorem Zj2 {it t:Addr}{i:Nat}{items:Array Value}{Q:Value->Shared->Prop}(hh:A.handled=none)(hit:s.heap.IsTupleIter it t i)(ht:s.heap.IsTuple t items)(hx:items[i]?=none)
  (hE:∀ h' e,Sw it s.heap h'->(∃ o,h'.get? e=some o/\o.cls=.type "StopIteration")->E (.ref e) { s with heap:=h' }):wpAny (model prog w) A (Qx (.ref it)) Q E s:=by
 obtain ⟨o,ho,hc,hd⟩:=id hit
 obtain ⟨ol,hol,_,nl,hdl⟩:=ht
 unfold Qx
 refine Pa (Q5 (name:=Ql "__next__") hit.typeIs Uf
  (Q7 Uf hit.typeIs Wf ?_ (We _)))
 show wpAny _ _ (field (.ref it) 0 >>= _) _ _ s
 refine Pa (Px ho hd (x:=.ref t) rfl ?_)
 show wpAny _ _ (if (Value.ref t == Value.none)=true then _ else _) _ _ s
 rw [if_neg (show ¬ ((Value.ref t == Value.none)=true) from Pp)]
 show wpAny _ _ (field (.ref it) 1 >>= _) _ _ s
 refine Pa (Px ho hd (x:=.int i 0) rfl ?_)
 show wpAny _ _ (seqItems? (.ref t) >>= _) _ _ s
 refine Pa (Q3 hol hdl ?_)
 simp only [Rq,hx]
 refine Pa (Sz (Pa (wpAny_setField ho hd (by simp) ?_)))
 show wpAny _ _ (newExc (.type "StopIteration") [] >>= _) _ _ _
 refine Pa ?_
 simp only [newExc,newTuple]
 refine Pa (Rp ?_ (by size_fits))
 refine Pa (m:=firstArgMember _ _) (wpAny_of_eq (a:=Value.none) (by first | rfl | (simp only [firstArgMember];rfl)) ?_)
 refine Rp ?_ (by size_fits)
 simp only [raiseNew]
 refine Pa (wpAny_handled ?_)
 first | rw [show A.in1.handled=none from hh] | rw [hh]
 refine Pa (Pd (wpAny_throw ?_))
 exact hE _ _ (((Pu.update ..).extBut.push _).push _) ⟨_,P0 _ rfl,rfl⟩
end
theorem L7 {prog:Program}{w:World}{A:Around}(hh:A.handled=none)(it l:Addr)(hne:l≠it)(items:Array Value) :
  Draws prog w A it [it,l] items.size (fun i v=>items[i]?=some v) (fun i h=>h.IsTupleIter it l i/\h.IsTuple l items) where
 live:=fun _ _ st=>let ⟨o,ho,_⟩:=st.1;⟨o,ho⟩
 frame:=fun _ _ _ st hk=>⟨st.1.at fun o e=>hk it (by simp) o e,let ⟨o,e,r⟩:=st.2;⟨o,hk l (by simp) o e,r⟩⟩
 item:=fun i s Q E hi st hQ=>by
  refine Zmg st.1 st.2 (x:=items[i]) (by simp [hi]) fun h' hit' hs'=>?_
  exact hQ _ h' s.toks (by simp [hi]) ⟨hit',st.2.extBut hs'.extBut hne⟩ hs'
 done:=fun s Q E st hE=>Zj2 hh st.1 st.2 (by simp) hE
theorem Zoi (l:Addr)(items:Array Value)(n:Nat)(dct:Option Addr)(sl:Array (Option Value)) :
  Meets (Builtin.«enumerate.__new__» ⟨[.type "enumerate",.ref l],[]⟩) (fun _ R s=>s.heap.get? l=some { cls:=.type "tuple",dict:=dct,data:=.seq items n,slots:=sl } /\
   R (.ok (.ret (.ref (s.heap.push { cls:=.type "tuple_iterator",data:=.fields #[.ref l,.int 0 0] }).objs.size)))
    { s with heap:=(s.heap.push { cls:=.type "tuple_iterator",data:=.fields #[.ref l,.int 0 0] }).push { cls:=.type "enumerate",data:=.fields #[.none,.bool false,.ref s.heap.objs.size,rawInt 0,.none,.none] } }) :=
 .of_wp fun prog w A R s h=>by
  obtain ⟨hp,g,d,tk,os⟩:=s;obtain ⟨hl,h⟩:=h
  have hsub:=sub_enumerate
  have hL:Heap.IsTuple (Shared.heap ⟨hp,g,d,tk,os⟩) l items:=⟨_,hl,rfl,n,rfl⟩
  wp_walk using Ug hl
  refine wpAny_stack_any fun st=>Pd ?_
  split
  ·rename_i c _ _ _ _ _
   cases (c == Value.type "enumerate")
   ·wp_walk using Ug hl,To hL
    exact ⟨_,rfl,h⟩
   ·wp_walk using Ug hl,To hL
    exact ⟨_,rfl,h⟩
  ·wp_walk using Ug hl,To hL
   exact ⟨_,rfl,h⟩
section
variable {prog:Program}{w:World}{A:Around}{E:Value->Shared->Prop}{s:Shared}
theorem Znw {l:Addr}{items:Array Value}{Q:Value->Shared->Prop}(hL:s.heap.IsTuple l items)
  (h:∀ h',IsEnum h' (s.heap.objs.size+1) s.heap.objs.size 0 .none->h'.IsTupleIter s.heap.objs.size l 0->h'.objs.size=s.heap.objs.size+2 ->
   (∀ b o,s.heap.get? b=some o->h'.get? b=some o)->Q (.ref (s.heap.objs.size+1)) { s with heap:=h' }) :
  wpAny (model prog w) A (call (.type "enumerate") [.ref l]) Q E s:=by
 obtain ⟨⟨c,dct,dt,sl⟩,hl,hc,n,hd⟩:=hL
 replace hc:c=.type "tuple" := hc
 replace hd:dt=.seq items n:=hd
 subst hc hd
 refine callType_new PySem.F.called_enumerate (by decide) (PySem.F.typeCall_enumerate_1 _) (PySem.F.newCall_enumerate_1 _) (fun obj=>PySem.F.args_object_init_2 obj _) PySem.F.entry_enumerate_new
  (Zoi l items n dct sl) ⟨hl,?_⟩
 have hz:(s.heap.push { cls:=.type "tuple_iterator",data:=.fields #[.ref l,.int 0 0] }).objs.size=s.heap.objs.size+1:=Qu ..
 show _/\_
 rw [hz]
 have he:IsEnum ((s.heap.push { cls:=.type "tuple_iterator",data:=.fields #[.ref l,.int 0 0] }).push
   { cls:=.type "enumerate",data:=.fields #[.none,.bool false,.ref s.heap.objs.size,rawInt 0,.none,.none] }) (s.heap.objs.size+1) s.heap.objs.size 0 .none:=by
  unfold IsEnum
  rw [<- hz]
  exact P0 _ rfl
 refine ⟨⟨_,he,rfl⟩,h _ he ⟨_,Pk _ (P0 _ rfl),rfl,rfl⟩ (by rw [Qu,hz]) fun b o e=>Pk _ (Pk _ e)⟩
noncomputable def Kx (h:Heap)(e it:Addr)(i:Int):Prop:=∃(a:Addr)(oa:Obj)(f1 old:Value),h.get? e=some { cls:=.type "enumerate",dict:=none,data:=.fields #[rawInt a,f1,.ref it,rawInt i,.none,old],slots:=#[] }/\h.get? a=some oa/\a≠e/\a≠it
theorem Zbt {a:Addr}{Q:Option Obj->Shared->Prop}(h:Q (s.heap.get? a) s):wpAny (model prog w) A (loadIfAlive a) Q E s:=by
 intro Γ p hΓ
 show Sem.wp _ Γ (.loadIfAlive a .pure) _ _ p s
 rw [Sem.wp_loadIfAlive]
 exact h
theorem Zhr {e it:Addr}{fp:List Addr}{n i:Nat}{P:Nat->Value->Prop}{St:Nat->Heap->Prop}{Q:Value->Shared->Prop}
  (D:Draws prog w A it fp n P St) (he0:Kx s.heap e it i) (hst:St i s.heap) (hlt:i < n) (hne:e≠it) (hef:e ∉ fp)
  (hQ:∀ x h' tk,P i x->Kx h' e it ((i:Int)+1)->St (i+1) h' ->
   h'.get? s.heap.objs.size=some { cls:=.type "tuple",data:=.seq #[.int i tk,x] }->h'.objs.size=s.heap.objs.size+1 ->
   (∀ b o,b≠e->b≠it->s.heap.get? b=some o->h'.get? b=some o)->Q (.ref s.heap.objs.size) { s with heap:=h',toks:=tk+1 }) :
  wpAny (model prog w) A (Builtin.«enumerate.__next__» ⟨[.ref e],[]⟩) (fun fin s'=>∃ v,fin=.done (.ret v)/\Q v s') E s:=by
 obtain ⟨a,oa,f1,old,he,hoa,hae,hai⟩:=he0
 obtain ⟨hp,g,d,tk₀,os⟩:=s
 show wpAny _ _ (field (.ref e) 2 >>= _) _ _ _
 refine Pa (Px he rfl (x:=.ref it) rfl ?_)
 refine Pa (D.item i _ _ _ hlt hst fun x h₁ tk hPx hit₁ hs₁=>?_)
 replace hs₁:Pu it hp h₁:=hs₁
 have he₁:=(hs₁.2 e hne).trans he
 have ha₁:=hs₁.extBut a oa hai hoa
 show wpAny _ _ (field (.ref e) 3 >>= _) _ _ ⟨h₁,g,d,tk,os⟩
 refine Pa (Px he₁ rfl (x:=rawInt i) rfl ?_)
 show wpAny _ _ (field (.ref e) 4 >>= _) _ _ ⟨h₁,g,d,tk,os⟩
 refine Pa (Px he₁ rfl (x:=.none) rfl ?_)
 show wpAny _ _ (mkInt i >>= _) _ _ ⟨h₁,g,d,tk,os⟩
 refine Pa (wpAny_mkInt ?_)
 show wpAny _ _ (setField (.ref e) 3 (rawInt ((i:Int)+1)) >>= _) _ _ ⟨h₁,g,d,tk+1,os⟩
 refine Pa (Q6 he₁ (by simp) fun h₂ he₂ hs₂=>?_)
 replace hs₂:Pu e h₁ h₂:=hs₂
 have ha₂:=hs₂.extBut a oa hae ha₁
 replace he₂:h₂.get? e=some { cls:=.type "enumerate",dict:=none,data:=.fields #[rawInt a,f1,.ref it,rawInt ((i:Int)+1),.none,old],slots:=#[] }:=he₂
 show wpAny _ _ (setField (.ref e) 4 .none >>= _) _ _ ⟨h₂,g,d,tk+1,os⟩
 refine Pa (Q6 he₂ (by simp) fun h₃ he₃ hs₃=>?_)
 replace hs₃:Pu e h₂ h₃:=hs₃
 have ha₃:=hs₃.extBut a oa hae ha₂
 replace he₃:h₃.get? e=some { cls:=.type "enumerate",dict:=none,data:=.fields #[rawInt a,f1,.ref it,rawInt ((i:Int)+1),.none,old],slots:=#[] }:=he₃
 show wpAny _ _ (newTuple [.int i tk,x] >>= _) _ _ ⟨h₃,g,d,tk+1,os⟩
 refine Pa (wpAny_newTuple ?_)
 have he₄:(h₃.push { cls:=.type "tuple",data:=.seq #[.int i tk,x] }).get? e=some { cls:=.type "enumerate",dict:=none,data:=.fields #[rawInt a,f1,.ref it,rawInt ((i:Int)+1),.none,old],slots:=#[] }:=Pk _ he₃
 have ha₄:(h₃.push { cls:=.type "tuple",data:=.seq #[.int i tk,x] }).get? a=some oa:=Pk _ ha₃
 generalize hh₄:h₃.push { cls:=.type "tuple",data:=.seq #[.int i tk,x] }=h₄ at he₄ ha₄
 have hsz:h₃.objs.size=hp.objs.size:=by rw [hs₃.1,hs₂.1,hs₁.1]
 have hel:e < hp.objs.size:=Pi he
 have ht₄:h₄.get? hp.objs.size=some { cls:=.type "tuple",data:=.seq #[.int i tk,x] }:=by rw [<- hh₄,<- hsz];exact P0 _ rfl
 have hz₄:h₄.objs.size=hp.objs.size+1:=by rw [<- hh₄,Qu,hsz]
 have hk₄:∀ b o,b≠e->b≠it->hp.get? b=some o->h₄.get? b=some o:=fun b o hbe hbi hb=>by
  rw [<- hh₄];exact Pk _ (hs₃.extBut b o hbe (hs₂.extBut b o hbe (hs₁.extBut b o hbi hb)))
 have hit₄:St (i+1) h₄:=D.frame _ _ _ hit₁ fun b hb o y=>by
  have hbe:b≠e:=fun q=>hef (q ▸ hb)
  rw [<- hh₄];exact Pk _ (hs₃.extBut b o hbe (hs₂.extBut b o hbe y))
 show wpAny _ _ (Q4 (.ref e) >>= _) _ _ ⟨h₄,g,d,tk+1,os⟩
 rw [hsz]
 clear hh₄ ha₃ ha₂ ha₁ he₃ hs₃ he₂ hs₂ he₁ hs₁ hit₁ hsz h₃ h₂ h₁
 refine Pa ?_
 unfold Q4
 refine Pa (Px he₄ rfl (x:=rawInt a) rfl ?_)
 show wpAny _ _ (loadIfAlive ((a:Int).toNat) >>= _) _ _ ⟨h₄,g,d,tk+1,os⟩
 refine Pa (Zbt ?_)
 rw [Rq]
 show wpAny _ _ (if (h₄.get? a).isNone=true then _ else _) _ _ ⟨h₄,g,d,tk+1,os⟩
 rw [ha₄]
 rw [if_neg (by simp)]
 refine Pa (Px he₄ rfl (x:=f1) rfl ?_)
 have fin:∀ h₅,Kx h₅ e it ((i:Int)+1)->Pu e h₄ h₅->Q (.ref hp.objs.size) ⟨h₅,g,d,tk+1,os⟩:=fun h₅ hl hs₅ =>
  hQ x h₅ tk hPx hl (D.frame _ _ _ hit₄ fun b hb o y=>hs₅.extBut b o (fun q=>hef (q ▸ hb)) y) (hs₅.extBut _ _ (Q1 hel) ht₄) (by rw [hs₅.1,hz₄]) fun b o hbe hbi hb=>hs₅.extBut b o hbe (hk₄ b o hbe hbi hb)
 by_cases hf:(f1 != Value.bool true)=true
 ·simp only [hf,if_true]
  refine Pa (Q6 he₄ (by simp) fun h₅ he₅ hs₅=>?_)
  replace hs₅:Pu e h₄ h₅:=hs₅
  refine Pd ?_
  simp only [Tp,if_false]
  refine Pd ⟨_,rfl,fin h₅ ⟨a,oa,.bool true,old,he₅,hs₅.extBut a oa hae ha₄,hae,hai⟩ hs₅⟩
 ·simp only [hf]
  refine Pd ?_
  simp only [Tp,if_false]
  exact Pd ⟨_,rfl,fin h₄ ⟨a,oa,f1,old,he₄,ha₄,hae,hai⟩ (Pu.refl ..)⟩
noncomputable def EnSt (h:Heap)(e it:Addr)(i:Nat):Prop:=(i=0/\∃ old,IsEnum h e it 0 old)\/(0 < i/\Kx h e it i)
theorem EnSt.obj {h:Heap}{e it:Addr}{i:Nat}(x:EnSt h e it i):∃ vs,h.get? e=some { cls:=.type "enumerate",dict:=none,data:=.fields vs,slots:=#[] }:=by
 rcases x with ⟨_,old,x⟩ | ⟨_,_,_,_,_,x,_⟩
 ·exact ⟨_,x⟩
 ·exact ⟨_,x⟩
theorem Zio {e it:Addr}{fp:List Addr}{n i:Nat}{P:Nat->Value->Prop}{St:Nat->Heap->Prop}{Q:Option Value->Shared->Prop}
  (D:Draws prog w A.in1 it fp n P St) (he:EnSt s.heap e it i) (hst:St i s.heap) (hlt:i < n) (hne:e≠it) (hef:e ∉ fp)
  (hQ:∀ x h' tk,P i x->EnSt h' e it (i+1)->St (i+1) h' ->
   h'.get? s.heap.objs.size=some { cls:=.type "tuple",data:=.seq #[.int i tk,x] }->h'.objs.size=s.heap.objs.size+1 ->
   (∀ b o,b≠e->b≠it->s.heap.get? b=some o->h'.get? b=some o)->Q (some (.ref s.heap.objs.size)) { s with heap:=h',toks:=tk+1 }) :
  wpAny (model prog w) A (pyNext (.ref e)) Q E s:=by
 obtain ⟨vs,ho⟩:=he.obj
 have hT:s.TypeIs (.ref e) "enumerate" := ⟨_,ho,rfl⟩
 have hel:e < s.heap.objs.size:=Pi ho
 have hil:it < s.heap.objs.size:=by obtain ⟨_,y⟩:=D.live _ _ hst;exact Pi y
 rcases he with ⟨rfl,old,he⟩ | ⟨_,he⟩
 ·refine wpAny_pyNext_enum_itemD D he hst hlt hne hef fun x h' tk a b c z k q=>?_
  exact hQ x h' tk a (.inr ⟨Ve _,_,_,_,_,b,z,Q1 hel,Q1 hil⟩) c z k q
 ·unfold pyNext
  exact Pa (Su (Q5 (name:=Ql "__next__") hT Uh
   (Q7 Uh hT Wi
    (Zhr D he hst hlt hne hef fun x h' tk a b c z k q=>Pd (hQ x h' tk a (.inr ⟨Ve _,b⟩) c z k q)) (Wh _))))
theorem Zja {e it:Addr}{fp:List Addr}{n:Nat}{P:Nat->Value->Prop}{St:Nat->Heap->Prop}{Q:Option Value->Shared->Prop}
  (D:Draws prog w A.in1 it fp n P St) (he:EnSt s.heap e it n) (hst:St n s.heap)
  (hQ:∀ h',Sw it s.heap h'->Q none { s with heap:=h' }):wpAny (model prog w) A (pyNext (.ref e)) Q E s:=by
 obtain ⟨vs,ho⟩:=he.obj
 have hT:s.TypeIs (.ref e) "enumerate" := ⟨_,ho,rfl⟩
 have h2:vs[2]?=some (.ref it):=by
  rcases he with ⟨rfl,old,he⟩ | ⟨_,a,oa,f1,old,he,_⟩
  ·unfold IsEnum at he
   rw [ho] at he
   injection he with he
   injection he with _ _ he _
   injection he with he
   rw [he];rfl
  ·rw [ho] at he
   injection he with he
   injection he with _ _ he _
   injection he with he
   rw [he];rfl
 unfold pyNext
 refine Pa (Su (Q5 (name:=Ql "__next__") hT Uh
  (Q7 Uh hT Wi ?_ (Wh _))))
 show wpAny _ _ (field (.ref e) 2 >>= _) _ _ _
 refine Pa (Px ho rfl (x:=.ref it) h2 ?_)
 refine Pa (D.done _ _ _ hst fun h' x he' hx'=>?_)
 obtain ⟨o,ho',hc⟩:=hx'
 refine Pa (Uw (T := "StopIteration") (b:=true) ⟨o,ho',hc⟩ isSubtype_stop ?_)
 exact Pd (hQ _ he')
end
theorem Za7 {prog:Program}{w:World}{A:Around}{E:Value->Shared->Prop}{s:Shared}{it:Addr}{T:String}{Q:Bool->Shared->Prop}(hT:s.TypeIs (.ref it) T)(n1:typeLookup (.type T) "__len__" = pure none)(n2:typeLookup (.type T) "__length_hint__" = pure none)(h:Q true s):wpAny (model prog w) A (Tc (.ref it)) Q E s:=by
 unfold Tc
 refine Pa (Tz hT n1 ?_)
 show wpAny _ A (specialOf (Value.ref it) (Ql "__length_hint__") >>= _) _ _ _
 refine Pa (Tz hT n2 ?_)
 exact Pd h
structure Src (X:Cx)(pins:List (Addr×Obj))(σ:St)(it:Addr)(T:String)(n:Nat)(H0:Hp)(J:Nat->List V->Hp->Heap->Prop):Prop where
 ty:∀ i ys H h,J i ys H h->∃ o,h.get? it=some o/\o.cls=.type T
 nl:(Value.type T == Value.type "list")=false/\(Value.type T == Value.type "tuple")=false
 hint:∃ mr:Bool,∀(A:Around)(s:Shared)(Q:Bool->Shared->Prop)(E:Value->Shared->Prop),s.TypeIs (.ref it) T->Q mr s->wpAny (model X.prog X.w) A (Tc (.ref it)) Q E s
 self:∀(A:Around)(s:Shared)(ys:List V)(H:Hp)(Q:Value->Shared->Prop)(E:Value->Shared->Prop),J 0 ys H s.heap->Q (.ref it) s->wpAny (model X.prog X.w) A (pyIter (.ref it)) Q E s
 keep:∀ i ys H h h' S zs zs',H0 S=none->H S=some (.lst zs)->J i ys H h->(∀ b o,b≠S->h.get? b=some o->h'.get? b=some o)->(∃ o,h'.get? S=some o)->J i ys (upd H S (.lst zs')) h'
 fresh:∀ i ys H h,J i ys H h->H it=none
 item:∀(A:Around)(i:Nat)(s:Shared)(H:Hp)(ys:List V)(E:Value->Shared->Prop),A.handled=none->i < n->Inv X pins σ H s->J i ys H s.heap ->
  wpAny (model X.prog X.w) A (pyNext (.ref it)) (fun r s'=>∃ u x H',r=some u/\RelV x u/\Inv X pins σ H' s'/\J (i+1) (ys++[x]) H' s'.heap/\∀ S zs,H S=some (.lst zs)->H' S=some (.lst zs)) E s
 done:∀(A:Around)(s:Shared)(H:Hp)(ys:List V)(E:Value->Shared->Prop),A.handled=none->Inv X pins σ H s->J n ys H s.heap ->
  wpAny (model X.prog X.w) A (pyNext (.ref it)) (fun r s'=>r=none/\Inv X pins σ H s') E s
section
variable {X:Cx}{pins:List (Addr×Obj)}{σ:St}{it:Addr}{T:String}{n:Nat}{H0:Hp}{J:Nat->List V->Hp->Heap->Prop}
theorem Zcy (C:Src X pins σ it T n H0 J)(hn:n<=sizeLine){A:Around}(hh:A.handled=none){R:Result->Shared->Prop}(S:Addr)(hS0:H0 S=none)(res:Value)
  (fin:∀ s' H' ys',Inv X pins σ H' s'->H' S=some (.lst ys')->ys'.length=n->(∃ h,J n ys' H' h)->R (.ok (.ret res)) s') :
  ∀(k i:Nat)(s:Shared)(H:Hp)(ys:List V),n - i=k->i<=n->Inv X pins σ H s->J i ys H s.heap->H S=some (.lst ys)->ys.length=i ->
  codeAny (model X.prog X.w) A (.builtin "list.extend.loop" ⟨[.ref S,.ref it,res],[]⟩) R s:=by
 intro k
 induction k with
 | zero =>
  intro i s H ys hk hi I j hS hl
  have hin:i=n:=by omega
  subst hin
  refine U1 PySem.F.entry_extend_loop ?_
  rw [Ut Te _]
  show wpAny _ A.in1 (pyNext (.ref it) >>= _) _ _ s
  refine Pa (Ak (C.done A.in1 s H ys _ hh I j) fun r s' zq=>?_)
  obtain ⟨hr,I'⟩:=zq
  subst hr
  exact Pd (fin s' H ys I' hS hl ⟨_,j⟩)
 | succ k ih =>
  intro i s H ys hk hi I j hS hl
  have hlt:i < n:=by omega
  refine U1 PySem.F.entry_extend_loop ?_
  rw [Ut Te _]
  show wpAny _ A.in1 (pyNext (.ref it) >>= _) _ _ s
  refine Pa (Ak (C.item A.in1 i s H ys _ hh hlt I j) fun r s' zq=>?_)
  obtain ⟨u,x,H',hr,rx,I',j',kS⟩:=zq
  subst hr
  have hS':=kS S ys hS
  obtain ⟨z,its,m,rv,hl',e⟩:=I'.lstM hS'
  show wpAny _ A.in1 (updateSeq S (·.push u) >>= _) _ _ _
  refine Pa ?_
  have hu:(its.toArray.push u)=(its++[u]).toArray:=by simp
  have I2:=I'.lset (f:=(·.push u)) (its':=its++[u]) (ys:=ys++[x]) (t':=s'.toks) hS' e hu (rv.append (.cons rx .nil)) (by rw [Pl,Qa];omega)
  refine T2 e rfl (Pd ⟨Ub Te _,ih (i+1) _ _ (ys++[x]) (by omega) hlt I2 ?_ Ad (by simp [hl])⟩)
   (by rw [Pf];omega) (by show (its.toArray.push u).size<=sizeLine+1;rw [Array.size_push,Pf];omega)
  exact C.keep _ _ _ _ _ S ys (ys++[x]) hS0 hS' j' (fun b o hb eb=>(Sc _ _ (P9 hb)).trans eb) ⟨_,Se _ e rfl⟩
theorem Me {H:Hp}(C:Src X pins σ it T n H J)(hn:n<=sizeLine){A:Around}(hh:A.handled=none){s:Shared}{Q:VK}{E:Value->Shared->Prop}(I:Inv X pins σ H s)(j:J 0 [] H s.heap)
  (jn:∀ S,s.heap.objs.size<=S->H S=none->∀ h',(∀ b o,s.heap.get? b=some o->h'.get? b=some o)->J 0 [] (upd H S (.lst [])) h')
  (q:∀ S H' ys,H S=none->H' S=some (.lst ys)->ys.length=n->(∃ h,J n ys H' h)->Q (.ref S) H') :
  wpAny (model X.prog X.w) A (call (.type "list") [.ref it]) (EP X pins σ Q) E s:=by
 have hf:H s.heap.objs.size=none:=I.hok.fresh (Pc _)
 have hne:s.heap.objs.size≠it:=by
  obtain ⟨o,e,_⟩:=C.ty _ _ _ _ j
  exact Q1 (Pi e)
 refine callType_codes (Q₁:=fun obj s₁=>obj=.ref s.heap.objs.size/\s₁={ s with heap:=s.heap.push { cls:=.type "list",data:=.seq #[] } }) PySem.F.called_list (PySem.F.typeCall_list_1 _) PySem.F.entry_list_init
  (code_list_new _ ⟨rfl,rfl⟩) fun obj s₁ h₁=>?_
 obtain ⟨rfl,rfl⟩:=h₁
 have hS:(s.heap.push { cls:=.type "list",data:=.seq #[] }).get? s.heap.objs.size=some { cls:=.type "list",data:=.seq #[] }:=P0 _ rfl
 have I1:Inv X pins σ (upd H s.heap.objs.size (.lst [])) { s with heap:=s.heap.push { cls:=.type "list",data:=.seq ([]:List Value).toArray } }:=I.lnew (ys:=[]) (its:=[]) (t':=s.toks) .nil (by simp)
 have j1:J 0 [] (upd H s.heap.objs.size (.lst [])) (s.heap.push { cls:=.type "list",data:=.seq ([]:List Value).toArray })   := jn _ (Pc _) hf _ fun b o e=>Pk _ e
 refine ⟨⟨_,hS,rfl⟩,PySem.F.args_list_init_2 _ _,?_⟩
 generalize hs1:({ s with heap:=s.heap.push { cls:=.type "list",data:=.seq ([]:List Value).toArray } }:Shared)=s1 at I1
 have hS1:s1.heap.get? s.heap.objs.size=some { cls:=.type "list",data:=.seq ([]:List Value).toArray }:=by rw [<- hs1];exact hS
 replace j1:J 0 [] (upd H s.heap.objs.size (.lst [])) s1.heap:=by rw [<- hs1];exact j1
 have hs1':({ s with heap:=s.heap.push { cls:=.type "list",data:=.seq #[] } }:Shared)=s1:=hs1
 first | rw [hs1'] | skip
 show wpAny _ A.in1.in1 (do let old <- Builtin.List.listItems (.ref s.heap.objs.size);Builtin.List.listUpdate (.ref s.heap.objs.size) (fun _=>#[]);letGo old.toList.reverse;Vj (.ref s.heap.objs.size) (.ref it) .none) _ _ s1
 generalize s.heap.objs.size=S at *
 refine Pa ?_
 unfold Builtin.List.listItems
 refine Pa (Q3 hS1 rfl (Pd ?_))
 show wpAny _ A.in1.in1 (updateSeq S (fun _=>#[]) >>= fun _=>letGo (#[]:Array Value).toList.reverse >>= fun _=>Vj (.ref S) (.ref it) .none) _ _ s1
 refine Pa (T2 hS1 rfl ?_)
 have I2:=I1.lset (f:=fun _=>#[]) (its':=[]) (ys:=[]) (t':=s1.toks) Ad hS1 rfl .nil (by simp)
 have hS2:=Se (Qj (fun _=>(#[]:Array Value))) hS1 rfl
 have j2:=C.keep _ _ _ _ (s1.heap.update S (Qj fun _=>#[])) S [] [] hf Ad j1 (fun b o hb eb=>(Sc _ _ (P9 hb)).trans eb) ⟨_,hS2⟩
 rw [Mv] at I2 j2
 generalize hs2:({ s1 with heap:=s1.heap.update S (Qj fun _=>#[]),toks:=s1.toks }:Shared)=s2 at I2
 replace j2:J 0 [] (upd H S (.lst [])) s2.heap:=by rw [<- hs2];exact j2
 have hs2':({ s1 with heap:=s1.heap.update S (Qj fun _=>#[]) }:Shared)=s2:=hs2
 first | rw [hs2'] | skip
 refine Pa (Vi ?_)
 obtain ⟨oi,ei,ci⟩:=C.ty _ _ _ _ j2
 have hT:s2.TypeIs (.ref it) T:=⟨oi,ei,ci⟩
 unfold Vj
 refine Pa (Va hT ?_)
 have h1:Builtin.List.listSameRef (.ref S) (.ref it)=false:=by simp [Builtin.List.listSameRef,hne]
 have h2:=C.nl.1
 have h3:=C.nl.2
 simp only [h1,h2,h3,U4,Tp,if_false]
 refine Pa (C.self _ s2 _ _ _ _ j2 ?_)
 refine Pa (Q0 ?_)
 obtain ⟨mr,hmr⟩:=C.hint
 refine hmr _ _ _ _ hT ?_
 split
 ·show wpAny _ A.in1.in1 (rule "list.extend.makes-room" >>= fun _=>Builtin.List.listTouch (.ref S) >>= fun _ =>
   again (.builtin "list.extend.loop" ⟨[.ref S,.ref it,.none],[]⟩)) _ _ _
  refine Pa (Sz ?_)
  refine Pa ?_
  show wpAny _ A.in1.in1 (updateSeq S (·.push .none) >>= fun _=>updateSeq S (·.pop)) _ _ _
  obtain ⟨_,its2,m2,rv2,_,e2⟩:=I2.lstM Ad
  cases rv2
  refine Pa (T2 e2 rfl ?_)
  have I3:=I2.lset (f:=(·.push Value.none)) (its':=[.none]) (ys:=[.non]) (t':=s2.toks) Ad e2 (by simp) (.cons rfl .nil) (by show 1<=sizeLine;decide)
  have hS3:=Se (Qj (·.push Value.none)) e2 rfl
  have j3:=C.keep _ _ _ _ (s2.heap.update S (Qj (·.push Value.none))) S [] [.non] hf Ad j2 (fun b o hb eb=>(Sc _ _ (P9 hb)).trans eb) ⟨_,hS3⟩
  rw [Mv] at I3 j3
  generalize hs3:({ s2 with heap:=s2.heap.update S (Qj (·.push Value.none)),toks:=s2.toks }:Shared)=s3 at I3
  replace j3:J 0 [] (upd H S (.lst [.non])) s3.heap:=by rw [<- hs3];exact j3
  have hs3':({ s2 with heap:=s2.heap.update S (Qj (·.push Value.none)) }:Shared)=s3:=hs3
  first | rw [hs3'] | skip
  obtain ⟨_,its3,m3,rv3,hl3,e3⟩:=I3.lstM Ad
  have hl3':its3.length=1:=hl3.symm
  refine T2 e3 rfl ?_ (by rw [Pf,hl3'];decide) (by show its3.toArray.pop.size<=sizeLine+1;rw [Array.size_pop,Pf,hl3'];decide)
  have I4:=I3.lset (f:=(·.pop)) (its':=[]) (ys:=[]) (t':=s3.toks) Ad e3 (by
   cases its3 with
   | nil=>simp at hl3'
   | cons a r=>cases r with
    | nil=>simp
    | cons b r'=>simp at hl3') .nil (by simp)
  have hS4:=Se (Qj (·.pop)) e3 rfl
  have j4:=C.keep _ _ _ _ (s3.heap.update S (Qj (·.pop))) S [.non] [] hf Ad j3 (fun b o hb eb=>(Sc _ _ (P9 hb)).trans eb) ⟨_,hS4⟩
  rw [Mv] at I4 j4
  refine Pd ⟨Ub Te _,Zcy C hn (A:=A.in1) hh S hf .none ?_ n 0 _ _ [] rfl (P6 _) I4 j4 Ad rfl⟩
  intro s' H' ys' I' hS' hl' hj'
  exact ⟨rfl,.ref S,H',I',rfl,q S H' ys' hf hS' hl' hj'⟩
 ·refine Pd ⟨Ub Te _,Zcy C hn (A:=A.in1) hh S hf .none ?_ n 0 _ _ [] rfl (P6 _) I2 j2 Ad rfl⟩
  intro s' H' ys' I' hS' hl' hj'
  exact ⟨rfl,.ref S,H',I',rfl,q S H' ys' hf hS' hl' hj'⟩
end
section
variable {X:Cx}{pins:List (Addr×Obj)}{σ:St}{H:Hp}{s:Shared}{h':Heap}
theorem Inv.turned2 {t':Nat}{i1 i2:Addr}(I:Inv X pins σ H s)(k:∀ b o,b≠i1->b≠i2->s.heap.get? b=some o->h'.get? b=some o)(f1:FpOk X pins H i1)(f2:FpOk X pins H i2):Inv X pins σ H { s with heap:=h',toks:=t' }:=by
 obtain ⟨n1,l1,_,e1,c1,p1⟩:=f1
 obtain ⟨n2,l2,_,e2,c2,p2⟩:=f2
 have nit:∀ b u,H b=some u->b≠i1/\b≠i2:=fun b u e=>⟨(fun z=>by rw [z,n1] at e;exact nomatch e),(fun z=>by rw [z,n2] at e;exact nomatch e)⟩
 refine I.step (g':=s.gens) (d':=s.drawn) (ch:=[i1,i2]) (fun b hb=>?_) (fun b o _ _ hc e _=>k b o (fun z=>hc (by simp [z])) (fun z=>hc (by simp [z])) e) (fun b o _ _ hc e _=>⟨o.slots,k b o (fun z=>hc (by simp [z])) (fun z=>hc (by simp [z])) e⟩) (fun _ _ _ _ n=>n)
  (fun b o hc e=>⟨o,k b o (fun z=>hc (by simp [z])) (fun z=>hc (by simp [z])) e⟩) (fun _ _ e=>e) (fun _ _ _ e=>e) (fun b ps e=>⟨#[],by rw [e];simp⟩) (fun m hm=>?_) (fun b u e=>?_) I.bare
 ·rcases Ph.mp hb with rfl | hb
  ·exact ⟨e1,l1,c1,p1⟩
  ·rw [P7.mp hb]
   exact ⟨e2,l2,c2,p2⟩
 ·obtain ⟨o,es,ep,ho,r⟩:=hm
  exact ⟨o,es,ep,k _ o (P9 l1) (P9 l2) ho,r⟩
 ·refine (I.hok b u e).stay (fun c v hc q=>k c v ?_ ?_ q) (fun _ q=>q) fun _ _ q=>q
  ·rcases hc with z | z
   ·rw [z];exact (nit b u e).1
   ·exact (nit c _ z).1
  ·rcases hc with z | z
   ·rw [z];exact (nit b u e).2
   ·exact (nit c _ z).2
end
theorem FpOk.of {X:Cx}{pins:List (Addr×Obj)}{H H':Hp}{b:Addr}(f:FpOk X pins H b)(h:H' b=none):FpOk X pins H' b:=⟨h,f.2⟩
theorem SqT.kept {K:O9}{H:Hp}{S a:Addr}{zs zs' xs:List V}(hS:H S=some (.lst zs))(h:SqT K H a xs):SqT K (upd H S (.lst zs')) a xs:=by
 rcases h with (h | ⟨o,h⟩) | h
 ·exact .inl (.inl (by rw [Ai (Eu h hS (by intro z;cases z))];exact h))
 ·exact .inl (.inr ⟨o,by rw [Ai (Eu h hS (by intro z;cases z))];exact h⟩)
 ·exact .inr h
theorem SqT.same {K:O9}{H H':Hp}{a:Addr}{xs:List V}(h:SqT K H a xs)(e:Same H H'):SqT K H' a xs:=e.tup h
noncomputable def N2 (H:Hp)(xs:List V)(ys:List V):Prop:=∀(j:Nat)(y:V),ys[j]?=some y->∃(t:Addr)(x:V),y=V.ref t/\xs[j]?=some x/\H t=some (.tup [.int j,x])
noncomputable def JEn (K:O9)(H0:Hp)(en it a:Addr)(xs:List V):Nat->List V->Hp->Heap->Prop:=fun i ys H h =>
 EnSt h en it i/\h.IsTupleIter it a i/\(H en=none/\H it=none)/\SqT K H a xs/\ys.length=i/\N2 H xs ys/\Same H0 H
theorem Zhu:typeLookup (.type "enumerate") "__len__" = pure none:=by rw [Sq,Sf];kernel_rfl
theorem Zhj:typeLookup (.type "enumerate") "__length_hint__" = pure none:=by rw [Sq,Sf];kernel_rfl
theorem Zgw {X:Cx}{pins:List (Addr×Obj)}{σ:St}{H0:Hp}{en it a:Addr}{xs:List V}(fe:FpOk X pins H0 en)(fi:FpOk X pins H0 it)(hne:en≠it)(hae:a≠en)(hai:a≠it):Src X pins σ en "enumerate" xs.length H0 (JEn X.K H0 en it a xs) where
 ty:=fun i ys H h j=>by
  obtain ⟨vs,e⟩:=j.1.obj
  exact ⟨_,e,rfl⟩
 nl:=by decide
 hint:=⟨_,fun A s Q E hT h=>Za7 hT Zhu Zhj h⟩
 self:=fun A s ys H Q E j q=>by
  rcases j.1 with ⟨_,old,e⟩ | ⟨z,_⟩
  ·exact V4 e q
  ·exact absurd z (Qw _)
 keep:=fun i ys H h h' S zs zs' h0 hS j k al=>by
  obtain ⟨j1,j2,⟨j3,j4⟩,j5,j6,j7,j8⟩:=j
  have ne1:en≠S:=fun z=>by rw [z,hS] at j3;cases j3
  have ne2:it≠S:=fun z=>by rw [z,hS] at j4;cases j4
  refine ⟨?_,?_,⟨by rw [Ai ne1];exact j3,by rw [Ai ne2];exact j4⟩,j5.kept hS,j6,fun m y hy=>?_,fun b o e=>?_⟩
  ·rcases j1 with ⟨z,old,e⟩ | ⟨z,a0,oa,f1,old,e,ea,x1,x2⟩
   ·exact .inl ⟨z,old,k _ _ ne1 e⟩
   ·by_cases hs:a0=S
    ·subst hs
     obtain ⟨o,eo⟩:=al
     exact .inr ⟨z,a0,o,f1,old,k _ _ ne1 e,eo,x1,x2⟩
    ·exact .inr ⟨z,a0,oa,f1,old,k _ _ ne1 e,k _ _ hs ea,x1,x2⟩
  ·exact j2.at fun o e=>k _ _ ne2 e
  ·obtain ⟨t,x,e1,e2,e3⟩:=j7 m y hy
   exact ⟨t,x,e1,e2,by rw [Ai (Eu e3 hS (by intro z;cases z))];exact e3⟩
  ·have:b≠S:=fun z=>by rw [z,h0] at e;cases e
   rw [Ai this]
   exact j8 b o e
 fresh:=fun i ys H h j=>j.2.2.1.1
 item:=fun A i s H ys E hh hi I j=>by
  obtain ⟨j1,j2,⟨j3,j4⟩,j5,j6,j7,j8⟩:=j
  obtain ⟨its,rv,p,hz⟩:=I.tuple j5
  have hl:=rv.length
  have D:=L7 (prog:=X.prog) (w:=X.w) (A:=A.in1) hh it a hai its.toArray
  refine Zio D j1 ⟨j2,p⟩ (by rw [Pf];omega) hne (by simp [hne,P9 hae]) fun x h' tk hx st' it' ht hsz kk=>?_
  have I1:Inv X pins σ H { s with heap:=h',toks:=tk+1 }:=I.turned2 (fun b o h1 h2 e=>kk b o h1 h2 e) (fe.of j3) (fi.of j4)
  have hx':its[i]?=some x:=by simpa using hx
  have hxs:i < xs.length:=hi
  obtain ⟨u,hu,ru⟩:=rv.get (Pb hxs)
  rw [hx'] at hu
  cases hu
  have hf:H s.heap.objs.size=none:=I.hok.fresh (Pc _)
  have I2:Inv X pins σ (upd H s.heap.objs.size (.tup [.int i,xs[i]])) { s with heap:=h',toks:=tk+1 }:=by
   have hokN:HOk X.prog X.w (upd H s.heap.objs.size (.tup [.int i,xs[i]])) h':=fun b o e=>by
    by_cases hb:b=s.heap.objs.size
    ·subst hb
     rw [Ad] at e
     cases e
     exact ⟨by show 2<=sizeLine;decide,[.int i tk,x],.cons ⟨tk,rfl⟩ (.cons ru .nil),⟨_,ht,rfl,_,rfl⟩⟩
    ·rw [Ai hb] at e
     refine (I1.hok b o e).stay (fun c v _ q=>q) (fun c q=>?_) fun c zs q=>?_
     ·rw [Ai (Ax q hf)];exact q
     ·rw [Ai (Ax q hf)];exact q
   have u:Un (C5 X.stack) [en,it] H (upd H s.heap.objs.size (.tup [.int i,xs[i]])) s.heap h':={
    keep:=fun b o e n _ hx=>kk b o (fun z=>hx (by simp [z])) (fun z=>hx (by simp [z])) e
    slot:=fun b o e n _ hx=>⟨o.slots,kk b o (fun z=>hx (by simp [z])) (fun z=>hx (by simp [z])) e⟩
    free:=fun b o e n _=>by rw [Ai (Pr (Pi e))];exact n
    there:=fun b o e hx=>⟨o,kk b o (fun z=>hx (by simp [z])) (fun z=>hx (by simp [z])) e⟩
    tups:=fun b zs e=>by rw [Ai (Ax e hf)];exact e
    frzs:=fun b o u e=>by rw [Ai (Ax e hf)];exact e
    tbls:=fun b ps e=>⟨#[],by rw [Ai (Ax e hf),e];simp⟩ }
   refine I.call (g':=s.gens) (d':=s.drawn) (t':=tk+1) u hokN I.bare fun b hb=>?_
   rcases Ph.mp hb with rfl | hb
   ·exact ⟨fe.2.2.2.1,fe.2.1,fe.2.2.2.2.1,fe.2.2.2.2.2⟩
   ·rw [P7.mp hb]
    exact ⟨fi.2.2.2.1,fi.2.1,fi.2.2.2.2.1,fi.2.2.2.2.2⟩
  have sm:Same H (upd H s.heap.objs.size (.tup [.int i,xs[i]])):=Same.upd hf
  have ne1:en≠s.heap.objs.size:=by obtain ⟨_,e⟩:=j1.obj;exact Pr (Pi e)
  have ne2:it≠s.heap.objs.size:=by obtain ⟨_,e,_⟩:=j2;exact Pr (Pi e)
  refine ⟨_,.ref s.heap.objs.size,_,rfl,rfl,I2,⟨st',it'.1,⟨by rw [Ai ne1];exact j3,by rw [Ai ne2];exact j4⟩,j5.same sm,by simp [j6],fun m y hy=>?_,j8.trans sm⟩,fun S zs e=>sm S _ e⟩
  by_cases hm:m < i
  ·rw [Qe (by omega)] at hy
   obtain ⟨t,z,e1,e2,e3⟩:=j7 m y hy
   exact ⟨t,z,e1,e2,sm _ _ e3⟩
  ·have hlen:=(Pg.mp hy).1
   rw [Pl,Qa] at hlen
   have:m=i:=by omega
   subst this
   rw [Qm (by omega),j6,R6] at hy
   have hy:V.ref s.heap.objs.size=y:=by simpa using hy
   exact ⟨_,xs[m],hy.symm,Pb hxs,Ad⟩
 done:=fun A s H ys E hh I j=>by
  obtain ⟨j1,j2,⟨j3,j4⟩,j5,j6,j7,j8⟩:=j
  obtain ⟨its,rv,p,hz⟩:=I.tuple j5
  have hl:=rv.length
  have D:=L7 (prog:=X.prog) (w:=X.w) (A:=A.in1) hh it a hai its.toArray
  have e:xs.length=its.toArray.size:=by rw [Pf];omega
  rw [e] at j1 j2
  refine Zja D j1 ⟨j2,p⟩ fun h' eb=>⟨rfl,?_⟩
  obtain ⟨g0,g1,g2,g3,g4,g5⟩:=fi.of j4
  exact I.turned (t':=s.toks) (fun b o hb e=>eb b o hb e) g0 g1 g3 g4 g5
section
variable {X:Cx}
theorem Ny:bootBuiltins "list" = some (.type "list"):=by decide +kernel
noncomputable def M4 (K:O9)(ta:TA):TE:=fun σ H Q=>ta σ H fun vs H1=>∃ a xs,vs=[.ref a]/\SqT K H1 a xs /\
 ∀(S:Addr)(ys:List V)(H2:Hp),H1 S=none->Same H1 H2->ys.length=xs.length->N2 H2 xs ys->H2 S=some (.lst ys)->Q (.ref S) H2
theorem Zj6 {e:Expr}{ta:TA}{p p2 pos pos2:Pos}(hg:Gl X "list")(hm:X.mg "list" = none)(hg2:Gl X "enumerate")(hm2:X.mg "enumerate" = none)(ha:QA X [e] ta)(hc:X.calm=true:=by rfl)
  (hs:starEach [.Call (.Name "enumerate" p2) [e] [] pos2] X.env=[(false,eval (.Call (.Name "enumerate" p2) [e] [] pos2) X.env)]:=by rfl) (hs2:starEach [e] X.env=[(false,eval e X.env)]:=by rfl) :
  QE X (.Call (.Name "list" p) [.Call (.Name "enumerate" p2) [e] [] pos2] [] pos) (M4 X.K ta):=by
 refine ⟨fun pins s σ H Q I h=>?_⟩
 refine Call_ (Dw I hg hm Ny (Q2 ?_ hs rfl))
 rw [hs]
 show wpAny _ _ (spliced ((false,eval (.Call (.Name "enumerate" p2) [e] [] pos2) X.env)::[])) _ _ s
 refine R3 ?_
 refine Call_ (Dw I hg2 hm2 Wk (Q2 (Ak (ha.run pos2 pins s σ H _ I h) fun us s1 zq=>?_) hs2 rfl))
 obtain ⟨vs,H1,I1,r1,q1⟩:=zq
 obtain ⟨a,xs,e1,hq,q⟩:=q1
 subst e1
 cases r1 with
 | cons r rr =>
  cases rr
  cases r
  obtain ⟨its,rv,pt,hz⟩:=I1.tuple hq
  have hlt:a < s1.heap.objs.size:=by obtain ⟨o,e,_⟩:=id pt;exact Pi e
  refine Znw (show s1.heap.IsTuple a its.toArray from pt) fun h' hen hit hsz hk=>?_
  refine Sl ?_
  have I2:Inv X pins σ H1 { s1 with heap:=h' }:=I1.kept (t':=s1.toks) hk
  have fe:=I1.fpOk (b:=s1.heap.objs.size+1) (Uc _) (I1.hok.fresh (Uc _))
  have fi:=I1.fpOk (b:=s1.heap.objs.size) (Pc _) (I1.hok.fresh (Pc _))
  have C:=Zgw (X:=X) (pins:=pins) (σ:=σ) (H0:=H1) (en:=s1.heap.objs.size+1) (it:=s1.heap.objs.size) (a:=a) (xs:=xs) fe fi (Nat.succ_ne_self _) (Pr (V3 hlt)) (Pr hlt)
  refine Me C (by omega) (I1.ok.hd hc) I2 ⟨.inl ⟨rfl,_,hen⟩,hit,⟨fe.1,fi.1⟩,hq,rfl,fun j y hy=>by simp at hy,Same.refl _⟩ (fun S hge hS h2 k2=>?_) fun S H' ys hS hS' hl' hj=>?_
  ·have sm:Same H1 (upd H1 S (.lst [])):=Same.upd hS
   refine ⟨.inl ⟨rfl,_,k2 _ _ hen⟩,hit.at fun o e=>k2 _ _ e,⟨?_,?_⟩,hq.same sm,rfl,fun j y hy=>by simp at hy,sm⟩
   ·rw [Ai (show s1.heap.objs.size+1≠S from fun z=>?_)]
    ·exact fe.1
    ·have hge:h'.objs.size<=S:=hge
     omega
   ·rw [Ai (show s1.heap.objs.size≠S from fun z=>?_)]
    ·exact fi.1
    ·have hge:h'.objs.size<=S:=hge
     omega
  ·obtain ⟨h,j⟩:=hj
   exact q S ys H' hS j.2.2.2.2.2.2 hl' j.2.2.2.2.2.1 hS'
end
noncomputable def G8 (K:O9)(a:Addr)(n:Nat):It :=
 ⟨fun i H=>∃ xs,SqL K H a xs/\xs.length=n/\i < n,fun i H x H'=>∃(t:Addr)(y:V),H t=none/\(∀ xs,SqL K H a xs->xs[i]?=some y)/\x=.ref t/\H'=upd H t (.tup [.int i,y]),fun i H=>i=n/\∃ xs,SqL K H a xs/\xs.length=n⟩
theorem Inv.pair {X:Cx}{pins:List (Addr×Obj)}{σ:St}{H:Hp}{s:Shared}{h':Heap}{tk:Nat}{i1 i2 T:Addr}{xs:List V}{its:List Value}(I:Inv X pins σ H s)(f1:FpOk X pins H i1)(f2:FpOk X pins H i2)
  (kk:∀ b o,b≠i1->b≠i2->s.heap.get? b=some o->h'.get? b=some o) (hT:s.heap.objs.size<=T) (rv:Vals xs its) (hz:xs.length<=sizeLine) (ht:h'.IsTuple T its.toArray):Inv X pins σ (upd H T (.tup xs)) { s with heap:=h',toks:=tk }:=by
 have hf:H T=none:=I.hok.fresh hT
 have I1:Inv X pins σ H { s with heap:=h',toks:=tk }:=I.turned2 kk f1 f2
 have hokN:HOk X.prog X.w (upd H T (.tup xs)) h':=fun b o e=>by
  by_cases hb:b=T
  ·subst hb
   rw [Ad] at e
   cases e
   exact ⟨hz,its,rv,ht⟩
  ·rw [Ai hb] at e
   refine (I1.hok b o e).stay (fun c v _ q=>q) (fun c q=>?_) fun c zs q=>?_
   ·rw [Ai (Ax q hf)];exact q
   ·rw [Ai (Ax q hf)];exact q
 have u:Un (C5 X.stack) [i1,i2] H (upd H T (.tup xs)) s.heap h':={
  keep:=fun b o e n _ hx=>kk b o (fun z=>hx (by simp [z])) (fun z=>hx (by simp [z])) e
  slot:=fun b o e n _ hx=>⟨o.slots,kk b o (fun z=>hx (by simp [z])) (fun z=>hx (by simp [z])) e⟩
  free:=fun b o e n _=>by rw [Ai (Pr (Pz (Pi e) hT))];exact n
  there:=fun b o e hx=>⟨o,kk b o (fun z=>hx (by simp [z])) (fun z=>hx (by simp [z])) e⟩
  tups:=fun b zs e=>by rw [Ai (Ax e hf)];exact e
  frzs:=fun b o u e=>by rw [Ai (Ax e hf)];exact e
  tbls:=fun b ps e=>⟨#[],by rw [Ai (Ax e hf),e];simp⟩ }
 refine I.call (g':=s.gens) (d':=s.drawn) (t':=tk) u hokN I.bare fun b hb=>?_
 rcases Ph.mp hb with rfl | hb
 ·exact ⟨f1.2.2.2.1,f1.2.1,f1.2.2.2.2.1,f1.2.2.2.2.2⟩
 ·rw [P7.mp hb]
  exact ⟨f2.2.2.2.1,f2.2.1,f2.2.2.2.2.1,f2.2.2.2.2.2⟩
theorem Zh6 {P:Program}{w:World}{K:O9}{elts:List Expr}{kt:Nat}{pt:Pos}(a en it:Addr)(n:Nat)(hne:en≠it)(hae:a≠en)(hai:a≠it):Fp P w K (.Tuple elts kt pt) (G8 K a n) [en,it] en (fun i h=>(∃ old,IsEnum h en it i old)/\h.IsListIter it a i) where
 mem:=by simp
 obj:=fun i h st b hb=>by
  rcases Ph.mp hb with rfl | hb
  ·obtain ⟨old,e⟩:=st.1
   exact ⟨_,e,fun v z=>by
    have z':Data.fields _=Data.cell v:=z
    cases z'⟩
  ·rw [P7.mp hb]
   obtain ⟨o,e,c,d⟩:=st.2
   exact ⟨o,e,fun v z=>by rw [d] at z;cases z⟩
 keep:=fun i h h' st k=>⟨let ⟨old,e⟩:=st.1;⟨old,k en (by simp) _ e⟩,st.2.at fun o e=>k it (by simp) o e⟩
 item:=by
  intro X hP hw hK hc i pins s σ H E I hf st hg
  subst hP hw hK
  obtain ⟨xs,hq,hl,hi⟩:=hg
  obtain ⟨its,rv,p,hz⟩:=I.list hq
  have hlen:=rv.length
  have fe:=hf en (by simp)
  have fi:=hf it (by simp)
  have W:=WalksT.enumerateD (prog:=X.prog) (w:=X.w) (A:=X.A) (R7 (A:=X.A.in1) (I.ok.hd hc) it a hai its.toArray) en hne (by simp [hne,P9 hae]) (by simp)
  refine W.item i s _ _ (by rw [Pf];omega) ⟨st.1,st.2,p.isList⟩ fun T vals h1 tk hP hT ht He k1=>?_
  obtain ⟨t,x,hx,rfl⟩:=hP
  refine ⟨_,rfl,W.go elts kt pt i T _ _ _ He fun h2 st2 k2=>?_⟩
  have hx':its[i]?=some x:=by simpa using hx
  have hxs:i < xs.length:=by omega
  obtain ⟨u,hu,ru⟩:=rv.get (Pb hxs)
  rw [hx'] at hu
  cases hu
  have hTw:T ∉ [en,it]:=W.apart i T _ He
  have ht2:h2.IsTuple T ([.int i t,x]:List Value).toArray:=by
   obtain ⟨o,eo,r⟩:=ht
   exact ⟨o,k2 T o hTw eo,r⟩
  have kk:∀ b o,b≠en->b≠it->s.heap.get? b=some o->h2.get? b=some o:=fun b o h1 h3 e=>k2 b o (by simp [h1,h3]) (k1 b o (by simp [h1,h3]) e)
  have I2:=I.pair (tk:=tk) (T:=T) (xs:=[.int i,xs[i]]) fe fi kk hT (.cons ⟨t,rfl⟩ (.cons ru .nil)) (by show 2<=sizeLine;decide) ht2
  refine ⟨.ref T,_,I2,rfl,⟨T,xs[i],I.hok.fresh hT,fun ys hy=>by rw [I.list_inj hy hq];exact Pb hxs,rfl,rfl⟩,⟨st2.1,st2.2.1⟩,fun b hb=>?_⟩
  have hb':b≠T:=fun z=>hTw (z ▸ hb)
  rw [Ai hb']
  exact (hf b hb).1
 done:=by
  intro X hP hw hK hc i pins s σ H E I hf st hg
  subst hP hw hK
  obtain ⟨rfl,xs,hq,hl⟩:=hg
  obtain ⟨its,rv,p,hz⟩:=I.list hq
  have hlen:=rv.length
  have fe:=hf en (by simp)
  have fi:=hf it (by simp)
  have W:=WalksT.enumerateD (prog:=X.prog) (w:=X.w) (A:=X.A) (R7 (A:=X.A.in1) (I.ok.hd hc) it a hai its.toArray) en hne (by simp [hne,P9 hae]) (by simp)
  have e:i=its.toArray.size:=by rw [Pf];omega
  rw [e] at st
  exact W.done s _ _ ⟨st.1,st.2,p.isList⟩ fun h' tk kk=>⟨rfl,I.turned2 (fun b o h1 h2 e=>kk b o (by simp [h1,h2]) e) fe fi⟩
 self:=fun A i s Q E st h=>by
  obtain ⟨old,e⟩:=st.1
  exact V4 e h
section
variable {X:Cx}
noncomputable def Ol (K:O9)(ta:TA):TI:=fun σ H R=>ta σ H fun vs H1=>∃ a xs,vs=[.ref a]/\SqL K H1 a xs/\R (G8 K a xs.length) H1
theorem Zkg {elts:List Expr}{kt:Nat}{pt:Pos}{e:Expr}{ta:TA}{p pos:Pos}(hg:Gl X "enumerate")(hm:X.mg "enumerate" = none)(ha:QA X [e] ta)(hs:starEach [e] X.env=[(false,eval e X.env)]:=by rfl):QI X (.Tuple elts kt pt) (.Call (.Name "enumerate" p) [e] [] pos) (Ol X.K ta):=by
 refine ⟨fun pins s σ H R I h=>?_⟩
 refine Call_ (Dw I hg hm Wk (Q2 (Ak (ha.run pos pins s σ H _ I h) fun us s1 zq=>?_) hs rfl))
 obtain ⟨vs,H1,I1,r1,q1⟩:=zq
 obtain ⟨l,xs,e1,hq,q⟩:=q1
 subst e1
 cases r1 with
 | cons r rr =>
  cases rr
  cases r
  obtain ⟨its,rv,pl,hz⟩:=I1.list hq
  have hlt:l < s1.heap.objs.size:=by obtain ⟨o,e,_⟩:=pl.isList;exact Pi e
  refine call_enumerate_list pl.isList fun h' hen hit hsz hk=>?_
  refine V4 hen ?_
  have fe:=I1.fpOk (b:=s1.heap.objs.size+1) (Uc _) (I1.hok.fresh (Uc _))
  have fi:=I1.fpOk (b:=s1.heap.objs.size) (Pc _) (I1.hok.fresh (Pc _))
  refine ⟨s1.heap.objs.size+1,[s1.heap.objs.size+1,s1.heap.objs.size],_,_,H1,rfl,I1.kept (t':=s1.toks) hk,Zh6 l _ _ xs.length (Nat.succ_ne_self _) (Pr (V3 hlt)) (Pr hlt),⟨⟨_,hen⟩,hit⟩,fun b hb=>?_,q⟩
  rcases Ph.mp hb with rfl | hb
  ·exact fe
  ·rw [P7.mp hb]
   exact fi
theorem L4 {K:O9}{a:Addr}{xs:List V}{g:TG}{tb:TS}{D:C0}{σ:St}{H:Hp}(Pv:Nat->St->Hp->Prop)(h0:Pv 0 σ H)(hl:∀ i σ H,i<=xs.length->Pv i σ H->SqL K H a xs)
  (hs:∀ i x t σ H,xs[i]?=some x->H t=none->Pv i σ H->g (.ref t) σ (upd H t (.tup [.int i,x])) fun σ2 H2=>tb { D with nx:=Pv (i+1),ct:=Pv (i+1),bk:=D.nx } σ2 H2) (hd:∀ σ H,Pv xs.length σ H->D.nx σ H) :
  ∃ W:Nat->Nat->St->Hp->Prop,(∃ m,W 0 m σ H)/\∀ i m σ H,W i m σ H ->
   ((G8 K a xs.length).stop i H/\D.nx σ H)\/((G8 K a xs.length).go i H/\∃ N:St->Hp->Prop,(∀ σ' H',N σ' H'->∃ m',m' < m/\W (i+1) m' σ' H')/\∀ x H',(G8 K a xs.length).yld i H x H'->g x σ H' fun σ2 H2=>tb { D with nx:=N,ct:=N,bk:=D.nx } σ2 H2):=by
 refine ⟨fun i m σ H=>m=xs.length - i/\i<=xs.length/\Pv i σ H,⟨xs.length,by simp,P6 _,h0⟩,?_⟩
 rintro i m σ H ⟨rfl,hi,p⟩
 have q:=hl i σ H hi p
 by_cases hlt:i < xs.length
 ·refine .inr ⟨⟨xs,q,rfl,hlt⟩,Pv (i+1),fun σ' H' p'=>⟨xs.length - (i+1),by omega,rfl,hlt,p'⟩,fun x H' y=>?_⟩
  obtain ⟨t,y,ht,hy,rfl,rfl⟩:=y
  exact hs i y t σ _ (hy xs q) ht p
 ·have e:i=xs.length:=by omega
  subst e
  exact .inl ⟨⟨rfl,xs,q,rfl⟩,hd σ H p⟩
end
end L2
namespace L2
open PySem PySem.SeqAt
open PySem.AutoSeq1 (wpAny_loadPart')
open PySem.MeetsSeq PySem.MeetsSeq2 PySem.MeetsSeq3 PySem.SeqRoads2
theorem Zpf (l b:Addr)(items items2:Array Value)(n n2:Nat)(dd dd2:Option Addr)(sl sl2:Array (Option Value))(hsz:items.size=items2.size)(e:Nat->Bool)(k:Nat) :
  ∀ i:Nat,items.size - i=k->Meets (Builtin.«list.__eq__.loop» ⟨[.ref l,.ref b,rawInt i,rawInt 3],[]⟩)
   (fun A R s=>s.heap.get? l=some { cls:=.type "list",dict:=dd,data:=.seq items n,slots:=sl }/\s.heap.get? b=some { cls:=.type "list",dict:=dd2,data:=.seq items2 n2,slots:=sl2 } /\
    (∀ j (h1:j < items.size) (h2:j < items2.size),EqAt A.in1 s items[j] items2[j] (e j)) /\
    R (.ok (.ret (.bool (!((Py items.size).drop i).all e)))) s):=by
 induction k with
 | zero =>
  intro i hk prog w A R s h
  obtain ⟨hp,g,d,tk,os⟩:=s;obtain ⟨hl,hb,he,h⟩:=h
  wp_walk using wpAny_loadPart' hl,wpAny_loadPart' hb
  have hi1:items[((i:Nat):Int).toNat]?=none:=by simp;omega
  have hi2:items2[((i:Nat):Int).toNat]?=none:=by simp;omega
  have hd:(Py items.size).drop i=[]:=by simp;omega
  rw [hd] at h
  rw [hi1,hi2]
  wp_walk using wpAny_loadPart' hl,wpAny_loadPart' hb
  show R (.ok (.ret (.bool (items.size != items2.size)))) _
  rw [hsz]
  simpa using h
 | succ k ih =>
  intro i hk prog w A R s h
  obtain ⟨hp,g,d,tk,os⟩:=s;obtain ⟨hl,hb,he,h⟩:=h
  wp_walk using wpAny_loadPart' hl,wpAny_loadPart' hb
  have hlt:i < items.size:=by omega
  have hlt2:i < items2.size:=by omega
  have hi1:items[((i:Nat):Int).toNat]?=some items[i]:=by simp [hlt]
  have hi2:items2[((i:Nat):Int).toNat]?=some items2[i]:=by simp [hlt2]
  have hd:(Py items.size).drop i=i::(Py items.size).drop (i+1):=by simp [Rc,hlt]
  have hc:((i:Int)+1)=((i+1:Nat):Int):=by push_cast;rfl
  rw [hd,U5] at h
  rw [hi1,hi2]
  refine Pa (he i hlt hlt2 prog w _ _ ?_)
  cases hb':e i with
  | true =>
   rw [hb'] at h
   wp_walk
   rw [hc]
   exact ⟨Ub plain_eq_loop _,U1 entry_eq_loop (by
    rw [Ut plain_eq_loop _]
    exact ih (i+1) (by omega) prog w A R _ ⟨hl,hb,he,by simpa using h⟩)⟩
  | false =>
   rw [hb'] at h
   wp_walk using wpAny_loadPart' hl,wpAny_loadPart' hb
   rw [hi1,hi2]
   wp_walk
   simpa using h
theorem Zpm (l b:Addr)(items items2:Array Value)(n n2:Nat)(dd dd2:Option Addr)(sl sl2:Array (Option Value))(hsz:items.size=items2.size)(e:Nat->Bool) :
  Meets (Builtin.«list.__ne__» ⟨[.ref l,.ref b],[]⟩)
   (fun A R s=>s.heap.get? l=some { cls:=.type "list",dict:=dd,data:=.seq items n,slots:=sl }/\s.heap.get? b=some { cls:=.type "list",dict:=dd2,data:=.seq items2 n2,slots:=sl2 } /\
    (∀ j (h1:j < items.size) (h2:j < items2.size),EqAt A.in1 s items[j] items2[j] (e j)) /\
    R (.ok (.ret (.bool (!(Py items.size).all e)))) s):=by
 intro prog w A R s h
 obtain ⟨hp,g,d,tk,os⟩:=s;obtain ⟨hl,hb,he,h⟩:=h
 have f3:=PySem.AutoSeq1.sub_list_list
 have hne:¬ (items.size != items2.size)=true:=by simp [hsz]
 wp_walk using wpAny_loadPart' hl,wpAny_loadPart' hb
 exact ⟨Ub plain_eq_loop _,U1 entry_eq_loop (by
  rw [Ut plain_eq_loop _]
  exact Zpf l b items items2 n n2 dd dd2 sl sl2 hsz e _ 0 rfl prog w A R _ ⟨hl,hb,he,by simpa using h⟩)⟩
theorem Zkl (l b:Addr)(items items2:Array Value)(n n2:Nat)(dd dd2:Option Addr)(sl sl2:Array (Option Value))(e:Nat->Bool) :
  Meets (Builtin.«tuple.__ne__» ⟨[.ref l,.ref b],[]⟩)
   (fun A R s=>s.heap.get? l=some { cls:=.type "tuple",dict:=dd,data:=.seq items n,slots:=sl }/\s.heap.get? b=some { cls:=.type "tuple",dict:=dd2,data:=.seq items2 n2,slots:=sl2 } /\
    (∀ j (h1:j < items.size) (h2:j < items2.size),EqAt A.in1 s items[j] items2[j] (e j)) /\
    R (.ok (.ret (.bool (!((Py (min items.size items2.size)).all e && items.size == items2.size))))) s) :=
 .of_wp fun prog w A R s h=>by
  obtain ⟨hp,g,d,tk,os⟩:=s;obtain ⟨hl,hb,he,h⟩:=h
  have f2:=PySem.AutoSeq1.sub_tuple_tuple
  have hZ:(items.toList.zip items2.toList).length=min items.size items2.size:=by simp
  wp_walk using wpAny_loadPart' hl,wpAny_loadPart' hb,wpAny_forIn_list _ (fun rest b s'=>b.1=none/\s'=⟨hp,g,d,tk,os⟩/\∃ i,rest=(items.toList.zip items2.toList).drop i /\
   R (.ok (.ret (.bool (!(((Py (min items.size items2.size)).drop i).all e && items.size == items2.size))))) ⟨hp,g,d,tk,os⟩) _
  case turn =>
   rintro ⟨y,x⟩ rest b s' ⟨hb',rfl,i,hz,hR⟩
   have hlt:i < (items.toList.zip items2.toList).length:=by
    rcases Nat.lt_or_ge i (items.toList.zip items2.toList).length with h' | h'
    ·exact h'
    ·rw [Sd h'] at hz;cases hz
   have hm:i < min items.size items2.size:=hZ ▸ hlt
   have h1:i < items.size:=Pz hm (Nat.min_le_left _ _)
   have h2:i < items2.size:=Pz hm (Nat.min_le_right _ _)
   rw [Rc hlt] at hz
   injection hz with hyx hrest
   have hy:y=items[i]:=by have:=congrArg Prod.fst hyx;simpa using this
   have hx:x=items2[i]:=by have:=congrArg Prod.snd hyx;simpa using this
   subst hy hx
   have hd:(Py (min items.size items2.size)).drop i=i::(Py (min items.size items2.size)).drop (i+1):=by simp [Rc,hm]
   rw [hd,U5] at hR
   refine Pa (he i h1 h2 prog w _ _ ?_)
   cases hy:e i with
   | true =>
    rw [hy] at hR
    wp_walk
    exact ⟨rfl,rfl,i+1,hrest,by simpa using hR⟩
   | false =>
    rw [hy] at hR
    wp_walk
    exact ⟨_,rfl,by simpa using hR⟩
  case fin =>
   rintro ⟨b1,b2⟩ s' ⟨hb',rfl,i,hz,hR⟩
   simp only at hb'
   subst hb'
   have hge:min items.size items2.size<=i:=by
    rcases Nat.lt_or_ge i (items.toList.zip items2.toList).length with h' | h'
    ·rw [Rc h'] at hz;cases hz
    ·exact hZ ▸ h'
   rw [Sd (by simpa using hge)] at hR
   wp_walk
   exact ⟨_,rfl,by simpa [Wg,bne] using hR⟩
  case h =>
   exact ⟨rfl,rfl,0,rfl,by simpa using h⟩
section
variable {prog:Program}{w:World}{A:Around}{E:Value->Shared->Prop}{s:Shared}
theorem Zo3 {l b:Addr}{items items2:Array Value}{e:Nat->Bool}{Q:Value->Shared->Prop}(hl:s.heap.IsList l items)(hb:s.heap.IsList b items2)(hsz:items.size=items2.size)(hu:A.units < cLine)
  (he:∀ j (h1:j < items.size) (h2:j < items2.size),EqAt A.in1 s items[j] items2[j] (e j)) (h:Q (.bool (!(Py items.size).all e)) s):wpAny (model prog w) A (compareOp .NotEq (.ref l) (.ref b)) Q E s:=by
 obtain ⟨⟨cls,dd,data,sl⟩,ho,hc,n,hd⟩:=id hl
 obtain ⟨⟨cls2,dd2,data2,sl2⟩,ho2,hc2,n2,hd2⟩:=id hb
 simp only at hc hd hc2 hd2
 subst hc hd hc2 hd2
 exact Vm (op:=.NotEq) ⟨_,ho,rfl⟩ ⟨_,ho2,rfl⟩ F.slot_list_ne F.entry_list_ne (F.args_list_ne_2 _ _) (Zpm l b items items2 n n2 dd dd2 sl sl2 hsz e)
  ⟨ho,ho2,he,show Value.bool (!(Py items.size).all e)≠Value.notImplemented/\Q (.bool (!(Py items.size).all e)) s from ⟨(fun x=>nomatch x),h⟩⟩ hu
theorem Zbz {l b:Addr}{items items2:Array Value}{e:Nat->Bool}{Q:Value->Shared->Prop}(hl:s.heap.IsTuple l items)(hb:s.heap.IsTuple b items2)(hu:A.units < cLine)
  (he:∀ j (h1:j < items.size) (h2:j < items2.size),EqAt A.in1 s items[j] items2[j] (e j)) (h:Q (.bool (!((Py (min items.size items2.size)).all e && items.size == items2.size))) s):wpAny (model prog w) A (compareOp .NotEq (.ref l) (.ref b)) Q E s:=by
 obtain ⟨⟨cls,dd,data,sl⟩,ho,hc,n,hd⟩:=id hl
 obtain ⟨⟨cls2,dd2,data2,sl2⟩,ho2,hc2,n2,hd2⟩:=id hb
 simp only at hc hd hc2 hd2
 subst hc hd hc2 hd2
 exact Vm (op:=.NotEq) ⟨_,ho,rfl⟩ ⟨_,ho2,rfl⟩ F.slot_tuple_ne F.entry_tuple_ne (F.args_tuple_ne_2 _ _) (Zkl l b items items2 n n2 dd dd2 sl sl2 e)
  ⟨ho,ho2,he,show Value.bool (!((Py (min items.size items2.size)).all e && items.size == items2.size))≠Value.notImplemented/\Q (.bool (!((Py (min items.size items2.size)).all e && items.size == items2.size))) s from ⟨(fun x=>nomatch x),h⟩⟩ hu
end
end L2
namespace L2
open PySem PySem.Spec PyProof.Rows
inductive Dt where
 | flat (v:V)
 | tup (ds:List Dt)
 | lst (ds:List Dt)
inductive IsD (K:O9)(H:Hp):Nat->V->Dt->Prop where
 | flat {n:Nat} {v:V} (h:C2 v=true):IsD K H n v (.flat v)
 | tup {n:Nat} {a:Addr} {vs:List V} {ds:List Dt} (q:SqT K H a vs) (l:vs.length=ds.length) (h:∀(j:Nat)(v:V)(d:Dt),vs[j]?=some v->ds[j]?=some d->IsD K H n v d):IsD K H (n+1) (.ref a) (.tup ds)
 | lst {n:Nat} {a:Addr} {vs:List V} {ds:List Dt} (q:SqL K H a vs) (l:vs.length=ds.length) (h:∀(j:Nat)(v:V)(d:Dt),vs[j]?=some v->ds[j]?=some d->IsD K H n v d):IsD K H (n+1) (.ref a) (.lst ds)
theorem IsD.same {K:O9}{H H':Hp}{n:Nat}{v:V}{d:Dt}(h:IsD K H n v d)(e:Same H H'):IsD K H' n v d:=by
 induction h with
 | flat h=>exact .flat h
 | tup q l _ ih=>exact .tup (e.tup q) l ih
 | lst q l _ ih=>exact .lst (e.seq q) l ih
theorem Zd2 {v:V}(h:C2 v=true):Ea v v=true:=by
 cases v with
 | non=>rfl
 | bl b=>simp [Ea]
 | int i=>simp [Ea]
 | str x=>simp [Ea]
 | byt _=>cases h
 | flt _=>cases h
 | ref _=>cases h
 | ty _=>cases h
section
variable {X:Cx}{pins:List (Addr×Obj)}{σ:St}{H:Hp}{s:Shared}
theorem Zpa (I:Inv X pins σ H s):∀{n:Nat}{x y:V}{d:Dt},IsD X.K H n x d->IsD X.K H n y d->∀{A:Around}{u v:Value},RelV x u->RelV y v->A.units+n < cLine->Pn A s u v true:=by
 intro n
 induction n with
 | zero =>
  intro x y d hx hy A u v rx ry hu
  cases hx with
  | flat fx =>
   cases hy with
   | flat fy =>
    have:=Oc (A:=A) (s:=s) rx ry fx fy
    rw [Zd2 fx] at this
    exact this
 | succ n ih =>
  intro x y d hx hy A u v rx ry hu
  cases hx with
  | flat fx =>
   cases hy with
   | flat fy =>
    have:=Oc (A:=A) (s:=s) rx ry fx fy
    rw [Zd2 fx] at this
    exact this
  | @tup _ a vs ds q l h =>
   cases hy with
   | @tup _ b ws _ q' l' h' =>
    cases rx
    cases ry
    by_cases hab:a=b
    ·subst hab
     exact Uz _
    obtain ⟨its,r1,p1,_⟩:=I.tuple q
    obtain ⟨its2,r2,p2,_⟩:=I.tuple q'
    have l1:=r1.length
    have l2:=r2.length
    have:=SeqAt.RcAt.tuples (A:=A) (e:=fun _=>true) (show s.heap.IsTuple a its.toArray from p1) (show s.heap.IsTuple b its2.toArray from p2) (by omega) fun j h1 h2=>by
     have h1':j < vs.length:=by simp only [Pf] at h1;omega
     have h2':j < ws.length:=by simp only [Pf] at h2;omega
     obtain ⟨u1,g1,k1⟩:=r1.get (Pb h1')
     obtain ⟨u2,g2,k2⟩:=r2.get (Pb h2')
     have e1:its.toArray[j]=u1:=by
      have:its[j]?=some its[j]:=by simp
      rw [this] at g1
      simpa using g1
     have e2:its2.toArray[j]=u2:=by
      have:its2[j]?=some its2[j]:=by simp
      rw [this] at g2
      simpa using g2
     rw [e1,e2]
     have hd:j < ds.length:=by omega
     exact ih (h j _ _ (Pb h1') (Pb hd)) (h' j _ _ (Pb h2') (Pb hd)) k1 k2 (by show A.units+1+n < cLine;omega)
    have e:((Py (min its.toArray.size its2.toArray.size)).all (fun _=>true) && its.toArray.size == its2.toArray.size)=true:=by
     have:its.toArray.size=its2.toArray.size:=by simp only [Pf];omega
     rw [this]
     simp
    rw [e] at this
    exact Vy hab this
  | @lst _ a vs ds q l h =>
   cases hy with
   | @lst _ b ws _ q' l' h' =>
    cases rx
    cases ry
    by_cases hab:a=b
    ·subst hab
     exact Uz _
    obtain ⟨its,r1,p1,_⟩:=I.list q
    obtain ⟨its2,r2,p2,_⟩:=I.list q'
    have l1:=r1.length
    have l2:=r2.length
    have:=SeqAt.RcAt.lists (A:=A) (e:=fun _=>true) p1.isList p2.isList (by simp only [Pf];omega) (by omega) fun j h1 h2=>by
     have h1':j < vs.length:=by simp only [Pf] at h1;omega
     have h2':j < ws.length:=by simp only [Pf] at h2;omega
     obtain ⟨u1,g1,k1⟩:=r1.get (Pb h1')
     obtain ⟨u2,g2,k2⟩:=r2.get (Pb h2')
     have e1:its.toArray[j]=u1:=by
      have:its[j]?=some its[j]:=by simp
      rw [this] at g1
      simpa using g1
     have e2:its2.toArray[j]=u2:=by
      have:its2[j]?=some its2[j]:=by simp
      rw [this] at g2
      simpa using g2
     rw [e1,e2]
     have hd:j < ds.length:=by omega
     exact ih (h j _ _ (Pb h1') (Pb hd)) (h' j _ _ (Pb h2') (Pb hd)) k1 k2 (by show A.units+1+n < cLine;omega)
    have e:(Py its.toArray.size).all (fun _=>true)=true:=by simp
    rw [e] at this
    exact Vy hab this
theorem L0 (I:Inv X pins σ H s){n:Nat}{A:Around}{vs ws:List V}{its its2:List Value}{ds:List Dt}(r1:Vals vs its)(r2:Vals ws its2)(l:vs.length=ds.length)(l':ws.length=ds.length)
  (h:∀(j:Nat)(v:V)(d:Dt),vs[j]?=some v->ds[j]?=some d->IsD X.K H n v d) (h':∀(j:Nat)(v:V)(d:Dt),ws[j]?=some v->ds[j]?=some d->IsD X.K H n v d) (hu:A.units+n < cLine) :
  ∀ j (h1:j < its.toArray.size) (h2:j < its2.toArray.size),Pn A s its.toArray[j] its2.toArray[j] ((fun _=>true) j):=fun j h1 h2=>by
 have l1:=r1.length
 have l2:=r2.length
 have h1':j < vs.length:=by simp only [Pf] at h1;omega
 have h2':j < ws.length:=by simp only [Pf] at h2;omega
 obtain ⟨u1,g1,k1⟩:=r1.get (Pb h1')
 obtain ⟨u2,g2,k2⟩:=r2.get (Pb h2')
 have e1:its.toArray[j]=u1:=by
  have:its[j]?=some its[j]:=by simp
  rw [this] at g1
  simpa using g1
 have e2:its2.toArray[j]=u2:=by
  have:its2[j]?=some its2[j]:=by simp
  rw [this] at g2
  simpa using g2
 rw [e1,e2]
 have hd:j < ds.length:=by omega
 exact Zpa I (h j _ _ (Pb h1') (Pb hd)) (h' j _ _ (Pb h2') (Pb hd)) k1 k2 hu
end
section
variable {X:Cx}
noncomputable def Lw (K:O9)(b:Bool):R2:=fun x y H Q=>∃(a c:Addr)(n:Nat)(d:Dt),x=.ref a/\y=.ref c/\n<=190/\IsD K H n x d/\IsD K H n y d/\Q (.bl b) H
theorem Zi7 (hu:X.A.units+200 < cLine):OpR X (compareOp .Eq) (Lw X.K true):=by
 intro pins s σ H x y v u Q I rx ry h
 obtain ⟨a,c,n,d,rfl,rfl,hn,hx,hy,q⟩:=h
 cases rx
 cases ry
 cases hx with
 | flat fx=>cases fx
 | @tup n _ vs ds qx l hd =>
  cases hy with
  | @tup _ _ ws _ qy l' hd' =>
   obtain ⟨its,r1,p1,_⟩:=I.tuple qx
   obtain ⟨its2,r2,p2,_⟩:=I.tuple qy
   have l1:=r1.length
   have l2:=r2.length
   refine SeqAt.eq_tupleAt (e:=fun _=>true) (show s.heap.IsTuple a its.toArray from p1) (show s.heap.IsTuple c its2.toArray from p2) (by omega) (L0 I r1 r2 l l' hd hd' (by show X.A.units+1+n < cLine;omega)) ?_
   have e:((Py (min its.toArray.size its2.toArray.size)).all (fun _=>true) && its.toArray.size == its2.toArray.size)=true:=by
    have:its.toArray.size=its2.toArray.size:=by simp only [Pf];omega
    rw [this]
    simp
   rw [e]
   exact ⟨.bl true,H,I,rfl,q⟩
 | @lst n _ vs ds qx l hd =>
  cases hy with
  | @lst _ _ ws _ qy l' hd' =>
   obtain ⟨its,r1,p1,_⟩:=I.list qx
   obtain ⟨its2,r2,p2,_⟩:=I.list qy
   have l1:=r1.length
   have l2:=r2.length
   refine SeqAt.eq_listAt (e:=fun _=>true) p1.isList p2.isList (by simp only [Pf];omega) (by omega) (L0 I r1 r2 l l' hd hd' (by show X.A.units+1+n < cLine;omega)) ?_
   have e:(Py its.toArray.size).all (fun _=>true)=true:=by simp
   rw [e]
   exact ⟨.bl true,H,I,rfl,q⟩
theorem Zg2 (hu:X.A.units+200 < cLine):OpR X (compareOp .NotEq) (Lw X.K false):=by
 intro pins s σ H x y v u Q I rx ry h
 obtain ⟨a,c,n,d,rfl,rfl,hn,hx,hy,q⟩:=h
 cases rx
 cases ry
 cases hx with
 | flat fx=>cases fx
 | @tup n _ vs ds qx l hd =>
  cases hy with
  | @tup _ _ ws _ qy l' hd' =>
   obtain ⟨its,r1,p1,_⟩:=I.tuple qx
   obtain ⟨its2,r2,p2,_⟩:=I.tuple qy
   have l1:=r1.length
   have l2:=r2.length
   refine Zbz (e:=fun _=>true) (show s.heap.IsTuple a its.toArray from p1) (show s.heap.IsTuple c its2.toArray from p2) (by omega) (L0 I r1 r2 l l' hd hd' (by show X.A.units+1+n < cLine;omega)) ?_
   have e:(!((Py (min its.toArray.size its2.toArray.size)).all (fun _=>true) && its.toArray.size == its2.toArray.size))=false:=by
    have:its.toArray.size=its2.toArray.size:=by simp only [Pf];omega
    rw [this]
    simp
   rw [e]
   exact ⟨.bl false,H,I,rfl,q⟩
 | @lst n _ vs ds qx l hd =>
  cases hy with
  | @lst _ _ ws _ qy l' hd' =>
   obtain ⟨its,r1,p1,_⟩:=I.list qx
   obtain ⟨its2,r2,p2,_⟩:=I.list qy
   have l1:=r1.length
   have l2:=r2.length
   refine Zo3 (e:=fun _=>true) p1.isList p2.isList (by simp only [Pf];omega) (by omega) (L0 I r1 r2 l l' hd hd' (by show X.A.units+1+n < cLine;omega)) ?_
   have e:(!(Py its.toArray.size).all (fun _=>true))=false:=by simp
   rw [e]
   exact ⟨.bl false,H,I,rfl,q⟩
noncomputable def K9 (K:O9):R2:=fun x y H Q=>rEq x y H Q\/Lw K true x y H Q
noncomputable def K0 (K:O9):R2:=fun x y H Q=>rNe x y H Q\/Lw K false x y H Q
theorem Zca (hu:X.A.units+200 < cLine):OpR X (compareOp .Eq) (K9 X.K):=op_eq.or (Zi7 hu)
theorem Zfj (hu:X.A.units+200 < cLine):OpR X (compareOp .NotEq) (K0 X.K):=op_ne.or (Zg2 hu)
theorem s_eq {K:O9}{x y:V}{H:Hp}{Q:VK}(hs:Jb x y=true)(h:Q (.bl (decide (x=y))) H):K9 K x y H Q:=.inl ⟨hs,h⟩
theorem s_ne {K:O9}{x y:V}{H:Hp}{Q:VK}(hs:Jb x y=true)(h:Q (.bl (!decide (x=y))) H):K0 K x y H Q:=.inl ⟨hs,h⟩
theorem Room.u200 {k:Nat}{A:Around}(r:Room k A):A.units+200 < cLine:=by have:=r.un;omega
end
section
variable {t u:TS}{c d:TT}{te ta tb tc:TE}{g:TG}{gs:D7}{ts:TA}{D:C0}{σ:St}{H:Hp}{Q:VK}{QB:Bool->Hp->Prop}{QA':List V->Hp->Prop}
theorem s_seq (h:t { D with nx:=u D } σ H):O0 t u D σ H:=h
theorem s_asg (h:te σ H fun x H1=>g x σ H1 D.nx):F5 te g D σ H:=h
theorem s_ret (h:te σ H D.rt):On te D σ H:=h
theorem s_drop (h:te σ H fun _ H1=>D.nx σ H1):Om te D σ H:=h
theorem s_next (h:D.nx σ H):O1 D σ H:=h
theorem s_ifS (h:c σ H fun b H1=>if b=true then t D σ H1 else u D σ H1):Fm c t u D σ H:=h
theorem s_var {i:Nat}{v:V}(e:σ[i]?=some (some v))(h:Q v H):Mh i σ H Q:=⟨v,e,h⟩
theorem s_c {v:V}(h:Q v H):tC v σ H Q:=h
theorem s_op {r:R2}(h:ta σ H fun x H1=>tb σ H1 fun y H2=>r x y H2 Q):E3 r ta tb σ H Q:=h
theorem s_un {r:V->Hp->VK->Prop}(h:ta σ H fun x H1=>r x H1 Q):tUn r ta σ H Q:=h
theorem s_test (h:te σ H fun x H'=>∃ k,x=.bl k/\QB k H'):Zae te σ H QB:=h
theorem s_tB (h:te σ H fun x H'=>∃ k,x=.bl k/\QB k H'):tB te σ H QB:=h
theorem s_ex {b:Bool}{P:Bool->Prop}(h:P b):∃ k,V.bl b=V.bl k/\P k:=⟨b,rfl,h⟩
theorem s_exi {i:Int}{P:Int->Prop}(h:P i):∃ k,V.int i=V.int k/\P k:=⟨i,rfl,h⟩
theorem s_not (h:c σ H fun b H1=>QB (!b) H1):Oy c σ H QB:=h
theorem s_and (h:c σ H fun b H1=>if b=true then d σ H1 QB else QB false H1):M8 c d σ H QB:=h
theorem s_andV (h:ta σ H fun x H1=>∃ k,x=.bl k/\if k=true then tb σ H1 Q else Q (.bl false) H1):Ot ta tb σ H Q:=h
theorem s_notV (h:ta σ H fun x H1=>∃ k,x=.bl k/\Q (.bl (!k)) H1):Mp ta σ H Q:=h
theorem s_nil (h:QA' [] H):Ov σ H QA':=h
theorem s_cons (h:te σ H fun x H1=>ts σ H1 fun xs H2=>QA' (x::xs) H2):Np te ts σ H QA':=h
theorem s_vals {xs:List V}(h:QA' xs H):N4 xs σ H QA':=h
theorem s_tup (h:ts σ H fun xs H1=>xs.length<=sizeLine/\∀ p,H1 p=none->Q (.ref p) (upd H1 p (.tup xs))):Zat ts σ H Q:=h
theorem s_lst (h:ts σ H fun xs H1=>xs.length<=sizeLine/\∀ p,H1 p=none->Q (.ref p) (upd H1 p (.lst xs))):L9 ts σ H Q:=h
theorem s_call {sp:Sp}{dvs:List V}{E:XK}(h:ts σ H fun vs H1=>sp (vs++dvs) H1 Q E):K4 sp dvs E ts σ H Q:=h
theorem s_cb {r:List V->Hp->VK->Prop}(h:ts σ H fun vs H1=>r vs H1 Q):tCB r ts σ H Q:=h
theorem s_bm {K:O9}{T:String}{r:V->List V->Hp->VK->Prop}(h:te σ H fun x H1=>Gx K T x H1/\ts σ H1 fun xs H2=>r x xs H2 Q):tBM K T r te ts σ H Q:=h
theorem s_bm0 {K:O9}{T:String}{r:V->List V->Hp->VK->Prop}(h:te σ H fun x H1=>Gx K T x H1/\r x [] H1 Q):L3 K T r te σ H Q:=h
theorem s_sl {r:V->Option Int->Option Int->Hp->VK->Prop}{tl th:TO}(h:te σ H fun x H1=>tl σ H1 fun l H2=>th σ H2 fun u H3=>r x l u H3 Q):tSl r te tl th σ H Q:=h
theorem s_po {QO':Option Int->Hp->Prop}(h:te σ H fun x H1=>∃ i,x=.int i/\QO' (some i) H1):O7 te σ H QO':=h
theorem s_po0 {QO':Option Int->Hp->Prop}(h:QO' none H):O2 σ H QO':=h
theorem s_gname {i:Nat}{v:V}{QS':St->Hp->Prop}(h:QS' (σ.set i (some v)) H):F1 i v σ H QS':=h
theorem Dj {K:O9}{n:Nat}{a:Addr}{xs:List V}{QS':St->Hp->Prop}(q:SqT K H a xs)(l:xs.length=n)(h:gs xs σ H QS'):Le K n gs (.ref a) σ H QS':=⟨a,xs,rfl,q,l,h⟩
theorem s_gcons {v:V}{r:List V}{QS':St->Hp->Prop}(h:g v σ H fun σ' H'=>gs r σ' H' QS'):Mb g gs (v::r) σ H QS':=⟨v,r,rfl,h⟩
theorem s_gnil {QS':St->Hp->Prop}(h:QS' σ H):Mn [] σ H QS':=⟨rfl,h⟩
theorem s_gsub {to ti:TE}{tt:Ij}{v:V}{QS':St->Hp->Prop}(h:to σ H fun o H1=>ti σ H1 fun i H2=>tt o i v H2 fun H3=>QS' σ H3):Mq to ti tt v σ H QS':=h
theorem s_isN (h:ta σ H fun x H1=>Q (.bl (decide (x=.non))) H1):L6 ta σ H Q:=h
theorem s_notN (h:ta σ H fun x H1=>Q (.bl (!decide (x=.non))) H1):Of ta σ H Q:=h
end
section
variable {wi:TI}{σ0:St->St}{g:TG}{tt:TT}{te:TE}{ta:TA}{tb:TS}{D:C0}{σ:St}{H:Hp}{Q:VK}{R:It->Hp->Prop}{K:O9}
theorem s_comp (h:wi σ H fun J H1=>∀ L,H1 L=none->Ja J g tt te (σ0 σ) H1 L Q):Hz wi σ0 g tt te σ H Q:=h
theorem s_for (h:wi σ H fun J H1=>∃ W:Nat->Nat->St->Hp->Prop,(∃ m,W 0 m σ H1)/\∀ i m σ H,W i m σ H ->
 (J.stop i H/\D.nx σ H)\/(J.go i H/\∃ N:St->Hp->Prop,(∀ σ' H',N σ' H'->∃ m',m' < m/\W (i+1) m' σ' H')/\∀ x H',J.yld i H x H'->g x σ H' fun σ2 H2=>tb { D with nx:=N,ct:=N,bk:=D.nx } σ2 H2)):Nb wi g tb D σ H:=h
theorem s_rng1 (h:ta σ H fun vs H1=>∃ j:Int,vs=[.int j]/\-(2 ^ 62)<=j/\j < 2 ^ 62/\R (Fx 0 j.toNat) H1):M6 ta σ H R:=h
theorem s_exr {i:Int}{P:Int->Prop}(h:P i):∃ j,([V.int i]:List V)=[.int j]/\P j:=⟨i,rfl,h⟩
theorem s_iany (h:te σ H fun x H1=>(∃ a,x=.ref a/\(∃ xs,SqL K H1 a xs)/\R (Gb K a) H1)\/(∃ a,x=.ref a/\(∃ xs,SqT K H1 a xs)/\R (Go K a) H1)\/∃ z,x=.str z/\R (Its z) H1):Nk K te σ H R:=h
theorem s_irev (h:ta σ H fun vs H1=>∃ a xs,vs=[.ref a]/\SqL K H1 a xs/\R (G5 K a xs.length) H1):Zag K ta σ H R:=h
theorem s_ienum (h:ta σ H fun vs H1=>∃ a xs,vs=[.ref a]/\SqL K H1 a xs/\R (G8 K a xs.length) H1):Ol K ta σ H R:=h
theorem s_listen (h:ta σ H fun vs H1=>∃ a xs,vs=[.ref a]/\SqT K H1 a xs/\∀(S:Addr)(ys:List V)(H2:Hp),H1 S=none->Same H1 H2->ys.length=xs.length->N2 H2 xs ys->H2 S=some (.lst ys)->Q (.ref S) H2):M4 K ta σ H Q:=h
theorem s_yes {QB:Bool->Hp->Prop}(h:QB true H):Ma σ H QB:=h
theorem s_turn {L:Addr}{Nx:List V->St->Hp->Prop}{x:V}(h:g x σ H fun σ2 H3=>tt σ2 H3 fun b H4=>if b=true then te σ2 H4 fun y H5=>∃ ys,H5 L=some (.lst ys)/\ys.length < sizeLine/\(∃ zs,upd H5 L (.lst (ys++[y])) L=some (.lst zs)/\Nx zs σ2 (upd H5 L (.lst (ys++[y])))) else ∃ zs,H4 L=some (.lst zs)/\Nx zs σ2 H4):Kl g tt te L Nx x σ H:=h
theorem C8 {l:Addr}{xs:List V}{y:V}(e:H l=some (.lst xs))(z:xs.length < sizeLine)(h:Q .non (upd H l (.lst (xs++[y])))):Zco (.ref l) [y] H Q:=⟨l,xs,y,rfl,rfl,e,z,h⟩
theorem Ki {l:Addr}{xs:List V}{y:V}(e:H l=some (.lst (xs++[y])))(h:Q y (upd H l (.lst xs))):rPop (.ref l) [] H Q:=⟨l,xs++[y],y,rfl,rfl,e,by simp,by simpa using h⟩
theorem Oq {p:Addr}{xs:List V}{k:Int}{j:Nat}{v:V}{QH:Hp->Prop}(e:H p=some (.lst xs))(hj:Da xs.length k=some j)(h:QH (upd H p (.lst (xs.set j v)))):Zem (.ref p) (.int k) v H QH:=⟨p,xs,k,j,rfl,rfl,e,hj,h⟩
end
section
variable {X:Cx}(K:O9)
theorem F4 (hK:X.K=K:=by rfl):OpR X (binaryOp .Add) (Gr K):=by subst hK;exact op_addA
theorem Bl (hu:X.A.units+200 < cLine)(hK:X.K=K:=by rfl):OpR X (compareOp .Eq) (K9 K):=by subst hK;exact Zca hu
theorem k_ne (hu:X.A.units+200 < cLine)(hK:X.K=K:=by rfl):OpR X (compareOp .NotEq) (K0 K):=by subst hK;exact Zfj hu
theorem Ju (hK:X.K=K:=by rfl):OpR X (compareOp .In) (M0 K false):=by subst hK;exact Zpe
theorem Mx (hK:X.K=K:=by rfl):IxR X (Hh K):=by subst hK;exact Zh3
theorem Ed (hK:X.K=K:=by rfl):SlR X (Nm K):=by subst hK;exact Zle
theorem Cn (hK:X.K=K:=by rfl):C3 X (.builtin "len") (L5 K):=by subst hK;exact Zjw
inductive TyQ (K:O9)(H:Hp):V->Value->Prop where
 | ty {x:V} {t:Value} (h:Du K H x t):TyQ K H x t
 | tup {a:Addr} {xs:List V} (q:SqT K H a xs):TyQ K H (.ref a) (.type "tuple")
 | lst {a:Addr} {xs:List V} (q:SqL K H a xs):TyQ K H (.ref a) (.type "list")
noncomputable def J7 (K:O9)(T:String):List V->Hp->VK->Prop:=fun xs H Q=>∃ x t b,xs=[x,.ty T]/\TyQ K H x t/\Q9 K t (.type T)=some b/\Q (.bl b) H
theorem Zim {T:String}:C3 X (.builtin "isinstance") (J7 X.K T):=by
 intro pins s σ H xs us Q I r h
 obtain ⟨x,t,b,rfl,ty,e,q⟩:=h
 obtain ⟨u,v,rfl,ru,rv⟩:=r.two
 obtain rfl:v=Value.type T:=rv
 cases ty with
 | ty ty=>exact Zlu I ru ty e fun tk=>⟨.bl b,H,I.tok tk,rfl,q⟩
 | tup hq =>
  cases ru
  obtain ⟨its,_,p,_⟩:=I.tuple hq
  obtain ⟨o,h1,h2,_⟩:=p
  exact Qt PySem.W.kitx_tuple I.kIn ⟨o,h1,h2⟩ e (fun z=>nomatch z) fun tk=>⟨.bl b,H,I.tok tk,rfl,q⟩
 | lst hq =>
  cases ru
  obtain ⟨its,_,p,_⟩:=I.list hq
  obtain ⟨o,n,h1,h2,_⟩:=p
  exact Qt V2 I.kIn ⟨o,h1,h2⟩ e (fun z=>nomatch z) fun tk=>⟨.bl b,H,I.tok tk,rfl,q⟩
theorem D8 (T:String)(hK:X.K=K:=by rfl):C3 X (.builtin "isinstance") (J7 K T):=by subst hK;exact Zim
noncomputable def Zka (K:O9):List V->Hp->VK->Prop:=fun xs H Q=>∃ p ys,xs=[.ref p]/\(SqL K H p ys\/SqT K H p ys)/\∀ l,H l=none->Q (.ref l) (upd H l (.lst ys))
theorem Lg (hK:X.K=K:=by rfl):C3 X (.type "list") (Zka K):=by subst hK;exact Zjy
noncomputable def Zbp (K:O9):List V->Hp->VK->Prop:=fun xs H Q=>∃ p ys,xs=[.ref p]/\((SqL K H p ys/\∀ l,H l=none->Q (.ref l) (upd H l (.tup ys)))\/(SqT K H p ys/\Q (.ref p) H))
theorem Mc (hK:X.K=K:=by rfl):C3 X (.type "tuple") (Zbp K):=by subst hK;exact Zh8
noncomputable def rInt:List V->Hp->VK->Prop:=fun xs H Q=>(∃ i,xs=[.int i]/\Q (.int i) H)\/∃ k,xs=[.bl k]/\Q (.int (if k then 1 else 0)) H
theorem Zha:C3 X (.type "int") rInt:=Zjl
theorem s_intb {k:Bool}{H:Hp}{Q:VK}(h:Q (.int (if k=true then 1 else 0)) H):rInt [.bl k] H Q:=.inr ⟨k,rfl,h⟩
theorem Cp {tg l:Expr}{tl:TE}(hl:QE X l tl)(hK:X.K=K:=by rfl):QI X tg l (Nk K tl):=by subst hK;exact Zi5 hl
theorem Zk0 {tg a:Expr}{ta:TA}{p pos:Pos}(hg:Gl X "reversed")(hm:X.mg "reversed" = none)(ha:QA X [a] ta)(hK:X.K=K:=by rfl)(hs:starEach [a] X.env=[(false,eval a X.env)]:=by rfl):QI X tg (.Call (.Name "reversed" p) [a] [] pos) (Zag K ta):=by subst hK;exact Zk4 hg hm ha hs
theorem Kq {elts:List Expr}{kt:Nat}{pt:Pos}{e:Expr}{ta:TA}{p pos:Pos}(hg:Gl X "enumerate")(hm:X.mg "enumerate" = none)(ha:QA X [e] ta)(hK:X.K=K:=by rfl)(hs:starEach [e] X.env=[(false,eval e X.env)]:=by rfl):QI X (.Tuple elts kt pt) (.Call (.Name "enumerate" p) [e] [] pos) (Ol K ta):=by subst hK;exact Zkg hg hm ha hs
theorem Zjx {e:Expr}{ta:TA}{p p2 pos pos2:Pos}(hg:Gl X "list")(hm:X.mg "list" = none)(hg2:Gl X "enumerate")(hm2:X.mg "enumerate" = none)(ha:QA X [e] ta)(hK:X.K=K:=by rfl)(hc:X.calm=true:=by rfl)
  (hs:starEach [.Call (.Name "enumerate" p2) [e] [] pos2] X.env=[(false,eval (.Call (.Name "enumerate" p2) [e] [] pos2) X.env)]:=by rfl) (hs2:starEach [e] X.env=[(false,eval e X.env)]:=by rfl) :
  QE X (.Call (.Name "list" p) [.Call (.Name "enumerate" p2) [e] [] pos2] [] pos) (M4 K ta):=by subst hK;exact Zj6 hg hm hg2 hm2 ha hc hs hs2
theorem Df {es:List Expr}{k:Nat}{pos:Pos}{t:D7}{n:Nat}(hc:X.calm=true)(h:QGs X es t)(hK:X.K=K:=by rfl)(hn:(assignEach es X.env).length=n:=by rfl)(hst:(assignEach es X.env).findIdx? (·.1)=none:=by rfl):QG X (.Tuple es k pos) (Le K n t):=by subst hK;exact Zhw hc h hn hst
noncomputable def Zcc (K:O9)(ta:TE):TT:=fun σ H Q=>ta σ H fun x H'=>∃ k,Ka K x H' k/\Q k H'
theorem F9 {a:Expr}{ta:TE}(ha:QE X a ta)(he:∀ whole,isTrue a X.env whole=(do let v <- whole;standAt a.pos;holding [v] (truthy v)))(hK:X.K=K:=by rfl):QT X a (Zcc K ta):=by subst hK;exact ⟨Zih ha.run he⟩
theorem C4 {o e:Expr}{es:List Expr}{to:TE}{t:TA}{name:Str}{apos cpos:Pos}{T id:String}{r:V->List V->Hp->VK->Prop}(pa:PlainAttrs T)(slot:Slot T name id)(hty:typeOf (.builtin id)=pure (.type "method_descriptor"))(hm:Gz X id r)(ho:QE X o to)(ha:QA X (e::es) t)(hK:X.K=K:=by rfl)
  (hbase:attributeBase o name X.env (eval o X.env)=eval o X.env:=by rfl) (hfew:((backTo cpos (starEach (e::es) X.env)).all (fun x=>!x.1) && (backToKw cpos (keywordEach [] X.env)).all (fun x=>x.1.isSome)
   && decide ((e::es).length+([]:List Keyword).length+(if ([]:List Keyword).isEmpty then 0 else 1) < 30))=true:=by rfl) (hline:(apos.endLine == cpos.line)=true:=by rfl) (hs:starEach (e::es) X.env=(false,eval e X.env)::starEach es X.env:=by rfl) (hplain:(backTo cpos (starEach es X.env)).any (·.1)=false:=by rfl):QE X (.Call (.Attribute o name apos) (e::es) [] cpos) (tBM K T r to t):=by subst hK;exact Zkz pa slot hty hm ho ha hbase hfew hline hs hplain
theorem Jr {o:Expr}{to:TE}{name:Str}{apos cpos:Pos}{T id:String}{r:V->List V->Hp->VK->Prop}(pa:PlainAttrs T)(slot:Slot T name id)(hty:typeOf (.builtin id)=pure (.type "method_descriptor"))(hm:Gz X id r)(ho:QE X o to)(hK:X.K=K:=by rfl)(hbase:attributeBase o name X.env (eval o X.env)=eval o X.env:=by rfl)(hline:(apos.endLine == cpos.line)=true:=by rfl):QE X (.Call (.Attribute o name apos) [] [] cpos) (L3 K T r to):=by subst hK;exact Zqq pa slot hty hm ho hbase hline
end
section
variable {K:O9}{σ:St}{H:Hp}{Q:VK}{QB:Bool->Hp->Prop}{ta:TE}
theorem s_truth (h:ta σ H fun x H'=>∃ k,Ka K x H' k/\QB k H'):Zcc K ta σ H QB:=h
theorem Gf {a:Addr}{xs:List V}{P:Bool->Prop}(q:SqL K H a xs)(h:P (!xs.isEmpty)):∃ k,Ka K (.ref a) H k/\P k:=⟨_,.inl ⟨xs,q,rfl⟩,h⟩
theorem Dc {T:String}{x:V}{t:Value}{b:Bool}(ty:Du K H x t)(e:Q9 K t (.type T)=some b)(h:Q (.bl b) H):J7 K T [x,.ty T] H Q:=⟨x,t,b,rfl,.ty ty,e,h⟩
theorem Ia {T:String}{a:Addr}{xs:List V}{b:Bool}(q:SqT K H a xs)(e:Q9 K (.type "tuple") (.type T)=some b)(h:Q (.bl b) H):J7 K T [.ref a,.ty T] H Q:=⟨_,_,b,rfl,.tup q,e,h⟩
theorem Kg {T:String}{a:Addr}{xs:List V}{b:Bool}(q:SqL K H a xs)(e:Q9 K (.type "list") (.type T)=some b)(h:Q (.bl b) H):J7 K T [.ref a,.ty T] H Q:=⟨_,_,b,rfl,.lst q,e,h⟩
theorem Zq3 {K:O9}:Q9 K (.type "int") (.type "bool")=some false:=Zln (l:=(fastBuiltinMro "int").get (by decide +kernel)) (by decide +kernel) (by decide) (by simp) (by decide +kernel)
theorem M7 {p:Addr}{ys:List V}(q:SqL K H p ys)(h:∀ l,H l=none->Q (.ref l) (upd H l (.tup ys))):Zbp K [.ref p] H Q:=⟨p,ys,rfl,.inl ⟨q,h⟩⟩
theorem Ca {a:Addr}{xs:List V}{P:Prop}(q:SqL K H a xs)(h:P):Gx K "list" (.ref a) H/\P:=⟨.inl ⟨rfl,_,q⟩,h⟩
end
theorem s_nt {A B:Prop}(h:B):if (!true)=true then A else B:=by simpa using h
theorem s_nf {A B:Prop}(h:A):if (!false)=true then A else B:=by simpa using h
end L2
namespace L2
open PySem
inductive Tr where
 | mk (wd:Str) (note:Dt) (ps:List Tr)
noncomputable def Tr.wd:Tr->Str
 | .mk w _ _=>w
noncomputable def Tr.ps:Tr->List Tr
 | .mk _ _ ps=>ps
mutual
noncomputable def Tr.size:Tr->Nat
 | .mk _ _ ps=>1+Bu ps
noncomputable def Bu:List Tr->Nat
 | []=>0
 | t::r=>t.size+Bu r
end
theorem Tr.size_eq (t:Tr):t.size=1+Bu t.ps:=by
 cases t with
 | mk w n ps=>rw [Tr.size];rfl
theorem Lk (a b:List Tr):Bu (a++b)=Bu a+Bu b:=by
 induction a with
 | nil=>simp [Bu]
 | cons t r ih=>rw [Rh,Bu,Bu,ih];omega
theorem Zn7 (ts:List Tr):ts.length<=Bu ts:=by
 induction ts with
 | nil=>simp [Bu]
 | cons t r ih =>
  have:=t.size_eq
  rw [Bu,Pj]
  omega
noncomputable def SameT (H H':Hp):Prop:=∀ b,(∀ xs,H b=some (.tup xs)->H' b=some (.tup xs))/\∀ o u,H b=some (.frz o u)->H' b=some (.frz o u)
theorem Same.t {H H':Hp}(e:Same H H'):SameT H H':=fun b=>⟨fun xs h=>e b _ h,fun o u h=>e b _ h⟩
theorem SameT.refl (H:Hp):SameT H H:=fun _=>⟨fun _ h=>h,fun _ _ h=>h⟩
theorem SameT.trans {H H1 H2:Hp}(a:SameT H H1)(b:SameT H1 H2):SameT H H2:=fun c=>⟨fun xs h=>(b c).1 xs ((a c).1 xs h),fun o u h=>(b c).2 o u ((a c).2 o u h)⟩
theorem SameT.set {H:Hp}{S:Addr}{zs:List V}{o:HO}(h:H S=some (.lst zs)):SameT H (upd H S o):=fun b =>
 ⟨fun xs e=>by rw [Ai (Eu e h (by intro z;cases z))];exact e,fun o' u e=>by rw [Ai (Eu e h (by intro z;cases z))];exact e⟩
theorem SameT.new {H:Hp}{S:Addr}{o:HO}(h:H S=none):SameT H (upd H S o):=(Same.upd h).t
theorem SameT.tup {K:O9}{H H':Hp}{a:Addr}{xs:List V}(e:SameT H H')(h:SqT K H a xs):SqT K H' a xs:=by
 rcases h with (h | ⟨o,h⟩) | h
 ·exact .inl (.inl ((e a).1 _ h))
 ·exact .inl (.inr ⟨o,(e a).2 _ _ h⟩)
 ·exact .inr h
noncomputable def IsN (K:O9)(H:Hp)(v:V)(n:Dt):Prop:=(C2 v=true/\n=.flat v)\/∃(a:Addr)(vs:List V),v=.ref a/\SqT K H a vs/\vs.all C2=true/\n=.tup (vs.map .flat)
theorem IsN.same {K:O9}{H H':Hp}{v:V}{n:Dt}(h:IsN K H v n)(e:SameT H H'):IsN K H' v n:=by
 rcases h with h | ⟨a,vs,h1,h2,h3⟩
 ·exact .inl h
 ·exact .inr ⟨a,vs,h1,e.tup h2,h3⟩
inductive TrAt (K:O9)(H:Hp):V->Tr->Prop where
 | mk {a p:Addr} {wd:Str} {nv:V} {n:Dt} {vs:List V} {ts:List Tr} (q:SqT K H a [.str wd,nv,.ref p]) (hn:IsN K H nv n) (qp:SqT K H p vs) (l:vs.length=ts.length)
   (h:∀(j:Nat)(v:V)(t:Tr),vs[j]?=some v->ts[j]?=some t->TrAt K H v t):TrAt K H (.ref a) (.mk wd n ts)
theorem TrAt.sameT {K:O9}{H H':Hp}{v:V}{t:Tr}(h:TrAt K H v t)(e:SameT H H'):TrAt K H' v t:=by
 induction h with
 | mk q hn qp l _ ih=>exact .mk (e.tup q) (hn.same e) (e.tup qp) l ih
theorem TrAt.same {K:O9}{H H':Hp}{v:V}{t:Tr}(h:TrAt K H v t)(e:Same H H'):TrAt K H' v t:=h.sameT e.t
noncomputable def Al {α:Type}(R:V->α->Prop)(vs:List V)(xs:List α):Prop:=vs.length=xs.length/\∀(j:Nat)(v:V)(x:α),vs[j]?=some v->xs[j]?=some x->R v x
section
variable {α:Type}{R R':V->α->Prop}{vs:List V}{xs:List α}{v:V}{x:α}
theorem Al.mono (h:Al R vs xs)(f:∀ v x,R v x->R' v x):Al R' vs xs:=⟨h.1,fun j v x a b=>f v x (h.2 j v x a b)⟩
theorem Al.nil:Al R [] []:=⟨rfl,fun j v x a _=>by simp at a⟩
theorem Al.snoc (h:Al R vs xs)(a:R v x):Al R (vs++[v]) (xs++[x]):=by
 refine ⟨by simp [h.1],fun j y z e1 e2=>?_⟩
 by_cases hj:j < vs.length
 ·rw [Qe hj] at e1
  rw [Qe (by have:=h.1;omega)] at e2
  exact h.2 j y z e1 e2
 ·have hl:=(Pg.mp e1).1
  rw [Pl,Qa] at hl
  have hj':j=vs.length:=by omega
  subst hj'
  rw [Qm (Pc _),R6] at e1
  rw [h.1,Qm (Pc _),R6] at e2
  have e1:v=y:=by simpa using e1
  have e2:x=z:=by simpa using e2
  rw [<- e1,<- e2]
  exact a
theorem Al.split (h:Al R (vs++[v]) xs):∃ ys x,xs=ys++[x]/\Al R vs ys/\R v x:=by
 have hl:xs.length=vs.length+1:=by have:=h.1;simp at this;omega
 have hne:xs≠[]:=fun z=>by rw [z] at hl;simp at hl
 refine ⟨xs.dropLast,xs.getLast hne,(Wj hne).symm,⟨by simp [hl],fun j y z e1 e2=>?_⟩,?_⟩
 ·have hj:=(Pg.mp e1).1
  refine h.2 j y z (by rw [Qe hj];exact e1) ?_
  rw [List.getElem?_dropLast] at e2
  split at e2
  ·exact e2
  ·cases e2
 ·refine h.2 vs.length v _ (by simp) ?_
  rw [List.getLast_eq_getElem,Pb (by omega)]
  congr 1
  simp [hl]
theorem Al.last (h:Al R vs xs)(hn:vs≠[]):∃ vs' v xs' x,vs=vs'++[v]/\xs=xs'++[x]/\Al R vs' xs'/\R v x:=by
 have e:=(Wj hn).symm
 rw [e] at h
 obtain ⟨ys,x,e2,a,r⟩:=h.split
 exact ⟨_,_,ys,x,e,e2,a,r⟩
theorem Al.get {j:Nat}(h:Al R vs xs)(e:vs[j]?=some v):∃ x,xs[j]?=some x/\R v x:=by
 have hj:=(Pg.mp e).1
 have hx:j < xs.length:=by have:=h.1;omega
 exact ⟨xs[j],Pb hx,h.2 j v _ e (Pb hx)⟩
theorem Al.get' {j:Nat}(h:Al R vs xs)(e:xs[j]?=some x):∃ v,vs[j]?=some v/\R v x:=by
 have hj:=(Pg.mp e).1
 have hv:j < vs.length:=by have:=h.1;omega
 exact ⟨vs[j],Pb hv,h.2 j _ x (Pb hv) e⟩
end
noncomputable def gapT:Tr:=.mk "gap" (.flat .non) []
theorem TrAt.gap {K:O9}{H:Hp}{a p:Addr}(q:SqT K H a [.str "gap",.non,.ref p])(qp:SqT K H p []):TrAt K H (.ref a) gapT:=.mk q (.inl ⟨rfl,rfl⟩) qp rfl fun j v t e _=>by simp at e
mutual
noncomputable def walk:List Nat->Tr->List (List Nat×Tr)
 | pl,.mk w n ps=>(pl,.mk w n ps)::A4 pl 0 ps
noncomputable def A4:List Nat->Nat->List Tr->List (List Nat×Tr)
 | _,_,[]=>[]
 | pl,i,t::r=>walk (pl++[i]) t++A4 pl (i+1) r
end
theorem Zfm (pl:List Nat)(t:Tr):walk pl t=(pl,t)::A4 pl 0 t.ps:=by
 cases t with
 | mk w n ps=>rw [walk];rfl
mutual
theorem Ep:∀(pl:List Nat)(t:Tr),(walk pl t).length=t.size
 | pl,.mk w n ps=>by rw [walk,Tr.size,Pj,Zbx pl 0 ps];omega
theorem Zbx:∀(pl:List Nat)(i:Nat)(ts:List Tr),(A4 pl i ts).length=Bu ts
 | _,_,[]=>by rw [A4,Bu];rfl
 | pl,i,t::r=>by rw [A4,Bu,Pl,Ep,Zbx]
end
mutual
theorem Hf:∀(pl:List Nat)(t:Tr)(x:List Nat×Tr),x∈walk pl t->x.1.length+1<=pl.length+t.size
 | pl,.mk w n ps,x,h=>by
  rw [walk] at h
  rw [Tr.size]
  rcases Ph.mp h with h | h
  ·subst h;show pl.length+1<=_;omega
  ·have:=Ze7 pl 0 ps x h;omega
theorem Ze7:∀(pl:List Nat)(i:Nat)(ts:List Tr)(x:List Nat×Tr),x∈A4 pl i ts->x.1.length<=pl.length+Bu ts
 | _,_,[],x,h=>by rw [A4] at h;cases h
 | pl,i,t::r,x,h=>by
  rw [A4] at h
  rw [Bu]
  rcases Pw.mp h with h | h
  ·have:=Hf (pl++[i]) t x h
   rw [Pl,Qa] at this
   omega
  ·have:=Ze7 pl (i+1) r x h;omega
end
noncomputable def Ba (pl:List Nat):List V:=pl.map fun i=>V.int ((i:Nat):Int)
noncomputable def kids:List Nat->Nat->List Tr->List (List Nat×Tr)
 | _,_,[]=>[]
 | pl,i,t::r=>(pl++[i],t)::kids pl (i+1) r
theorem Md (pl:List Nat):∀(i:Nat)(ts:List Tr),(kids pl i ts).length=ts.length
 | _,[]=>rfl
 | i,t::r=>by rw [kids,Pj,Pj,Md pl (i+1) r]
theorem Zad (pl:List Nat):∀(i j:Nat)(ts:List Tr),(kids pl i ts)[j]?=(ts[j]?).map fun t=>(pl++[i+j],t)
 | _,_,[]=>by simp [kids]
 | i,0,t::r=>by simp [kids]
 | i,j+1,t::r=>by
  rw [kids,List.getElem?_cons_succ,List.getElem?_cons_succ,Zad pl (i+1) j r]
  congr 1
  funext t
  rw [show i+1+j=i+(j+1) by omega]
theorem Zf3 (pl:List Nat):∀(i:Nat)(ts:List Tr),(kids pl i ts).flatMap (fun x=>walk x.1 x.2)=A4 pl i ts
 | _,[]=>by simp [kids,A4]
 | i,t::r=>by rw [kids,List.flatMap_cons,A4,Zf3 pl (i+1) r]
noncomputable def Ez (st:List (List Nat×Tr)):List (List Nat×Tr):=st.reverse.flatMap fun x=>walk x.1 x.2
theorem Zdf:Ez []=[]:=rfl
theorem Iv (st:List (List Nat×Tr))(x:List Nat×Tr):Ez (st++[x])=x::Ez (st++(kids x.1 0 x.2.ps).reverse):=by
 unfold Ez
 rw [List.reverse_append,List.reverse_append,List.reverse_reverse,Vt,Vt,Zf3]
 rw [List.reverse_singleton,List.flatMap_singleton,Zfm]
 rfl
noncomputable def load (st:List (List Nat×Tr)):Nat:=(Ez st).length
theorem Zd3 (st:List (List Nat×Tr))(x:List Nat×Tr):load (st++(kids x.1 0 x.2.ps).reverse) < load (st++[x]):=by
 unfold load
 rw [Iv]
 exact Nat.lt_succ_self _
theorem Zfy (st:List (List Nat×Tr)):st.length<=load st:=by
 unfold load Ez
 have:∀ l:List (List Nat×Tr),l.length<=(l.flatMap fun x=>walk x.1 x.2).length:=fun l=>by
  induction l with
  | nil=>simp
  | cons x r ih =>
   rw [List.flatMap_cons,Pl,Ep,Pj]
   have:=x.2.size_eq
   omega
 have:=this st.reverse
 rw [Tk] at this
 exact this
theorem Zcd {α:Type}{l:List α}{n i:Nat}{x:α}(hl:l.length=n)(hi:i < n)(hx:l[n - 1 - i]?=some x):(l.drop (n - (i+1))).reverse=(l.drop (n - i)).reverse++[x]:=by
 have hk:n - 1 - i < l.length:=by omega
 have e:l.drop (n - (i+1))=x::l.drop (n - i):=by
  have h1:n - (i+1)=n - 1 - i:=by omega
  rw [h1,Rc hk,show n - 1 - i+1=n - i by omega]
  rw [Pb hk] at hx
  rw [Po hx]
 rw [e,List.reverse_cons]
mutual
theorem My:∀(pl:List Nat)(t:Tr),walk pl t=(walk [] t).map fun x=>(pl++x.1,x.2)
 | pl,.mk w n ps=>by
  have e:=Zd8 pl [] 0 ps
  rw [Qc] at e
  rw [walk,walk,Qg,e]
  simp
theorem Zd8:∀(pl q:List Nat)(i:Nat)(ts:List Tr),A4 (pl++q) i ts=(A4 q i ts).map fun x=>(pl++x.1,x.2)
 | _,_,_,[]=>by rw [A4,A4];rfl
 | pl,q,i,t::r=>by
  rw [A4,A4,Qf,<- Zd8 pl q (i+1) r,My (pl++q++[i]) t,My (q++[i]) t]
  simp
end
end L2
namespace L2
open PySem PySem.Spec PyProof.Rows
section
open PySem.AutoSeq1
theorem Zjv (l:Addr)(items:Array Value)(n:Nat)(b:Addr)(items2:Array Value)(n2:Nat)(od:Option Addr)(sl:Array (Option Value))(hs0:¬(!items.isEmpty && Sb (items.size+items2.size))=true)(hs1:items.size<=sizeLine)(hs2:items.size+items2.size<=sizeLine+1) :
  Meets (Builtin.«list.extend» ⟨[.ref l,.ref b],[]⟩) (fun _ R s=>s.heap.get? l=some { cls:=.type "list",dict:=none,data:=.seq items n,slots:=#[] }/\s.heap.get? b=some { cls:=.type "tuple",dict:=od,data:=.seq items2 n2,slots:=sl }/\R (.ok (.ret Value.none)) { s with heap:=s.heap.update l (Qj fun x=>x++items2),toks:=s.toks }) :=
 .of_wp fun prog w A R s h=>by
  obtain ⟨hp,g,d,tk,os⟩:=s;obtain ⟨hl,hb,h⟩:=h;have f1:=AutoSeq1.idx_int;have f2:=AutoSeq1.sub_tuple_tuple;have f3:=AutoSeq1.sub_list_list;have f4:=AutoSeq1.sub_tuple_list;have f5:=AutoSeq1.sub_list_tuple;
  have hz':(items++items2).size<=sizeLine+1:=by rw [Array.size_append];exact hs2
  wp_walk using (T2 hl rfl (hz:=hs1) (_hz':=hz')),AutoSeq1.wpAny_loadPart' hl,AutoSeq1.wpAny_loadPart' hb;exact ⟨_,rfl,h⟩
end
noncomputable def Zf1 (K:O9):V->List V->Hp->VK->Prop:=fun x vs H Q=>∃ l b xs zs,x=.ref l/\vs=[.ref b]/\H l=some (.lst xs)/\SqT K H b zs/\xs.length+zs.length<=sizeLine/\Q .non (upd H l (.lst (xs++zs)))
section
variable {X:Cx}
theorem Znj:MtM X "list.extend" (Zf1 X.K):=by
 intro pins s σ H x vs v us Q I rx rv h
 obtain ⟨l,b,xs,zs,rfl,rfl,hH,hB,hz,q⟩:=h
 cases rx
 obtain ⟨u,rfl,ru⟩:=rv.one
 cases ru
 obtain ⟨z,its,n,r,hl,e⟩:=I.lstM hH
 obtain ⟨its2,r2,⟨o2,e2,hc2,n2,hd2⟩,hz2⟩:=I.tuple hB
 obtain ⟨oc,od,odata,sl⟩:=o2
 simp only at hc2 hd2
 subst hc2 hd2
 have hl2:=r2.length
 have hsz:its.toArray.size+its2.toArray.size<=sizeLine:=by rw [Pf,Pf];omega
 have hlong:¬ (!its.toArray.isEmpty && Sb (its.toArray.size+its2.toArray.size))=true:=by
  rw [Zac hsz,Bool.and_false]
  exact Pp
 refine Ta F.slot_list_extend ⟨_,e,rfl⟩ F.entry_list_extend (F.args_list_extend_2 _ _)
  (Zjv l its.toArray n b its2.toArray n2 od sl hlong (by rw [Pf];omega) (by omega)) ⟨e,e2,?_⟩
 refine ⟨.non,_,I.lset (its':=its++its2) hH e (by simp) (r.append r2) ?_,rfl,q⟩
 rw [Pl]
 omega
noncomputable def rIsB:R2:=fun x y H Q=>∃ b,y=.bl b/\Q (.bl (decide (x=.bl b))) H
theorem Zow:OpR X (compareOp .Is) rIsB:=by
 intro pins s σ H x y v u Q I rx ry h
 obtain ⟨b,rfl,q⟩:=h
 cases ry
 refine wpAny_is_plain ?_ (Bw I q ?_)
 ·cases x <;> first | (cases rx;rfl) | (obtain ⟨t,rfl⟩:=rx;rfl)
 ·cases x <;> first
   | (cases rx;rfl)
   | (obtain ⟨t,rfl⟩:=rx;rfl)
   | (rename_i c;cases rx;cases c <;> cases b <;> rfl)
end
section
variable {X:Cx}(P:Program)(w:World)(K:O9)
theorem Zoz (hK:X.K=K:=by rfl):MtM X "list.extend" (Zf1 K):=by subst hK;exact Znj
end
theorem s_chain {r r':R2}{ta tb tc:TE}{σ:St}{H:Hp}{Q:VK}(h:ta σ H fun x H1=>tb σ H1 fun y H2=>r x y H2 fun z H3=>∃ k,z=.bl k/\(if k=true then tc σ H3 fun w' H4=>r' y w' H4 Q else Q (.bl false) H3)):Nz r r' ta tb tc σ H Q:=h
theorem Zpl:typeLookup (.type "list_reverseiterator") "__len__" = pure none:=by rw [Sq,Sf];kernel_rfl
theorem Zm5:typeLookup (.type "list_reverseiterator") "__length_hint__" = pure (some (.builtin "list_reverseiterator.__length_hint__")):=by rw [Sq,Sf];kernel_rfl
theorem Zjn {prog:Program}{w:World}{A:Around}{E:Value->Shared->Prop}{s:Shared}{it:Addr}{Q:Bool->Shared->Prop}(hT:s.TypeIs (.ref it) "list_reverseiterator")(h:Q false s):wpAny (model prog w) A (Tc (.ref it)) Q E s:=by
 unfold Tc
 refine Pa (Tz hT Zpl ?_)
 show wpAny _ _ (specialOf (Value.ref it) (Ql "__length_hint__") >>= _) _ _ _
 refine Pa (Tz hT Zm5 ?_)
 (generalize hid:("list_reverseiterator.__length_hint__" : String)=id0;(fail_if_success (clear hid id0));wp_delta;rw [show splitId id0=some ("list_reverseiterator", "__length_hint__") from by subst hid;decide +kernel];subst hid)
 refine Pa (Uw (b:=true) hT (by rw [isSubtype_type];kernel_rfl) ?_)
 exact Pd h
noncomputable def JRev (H0:Hp)(it a:Addr)(xs:List V):Nat->List V->Hp->Heap->Prop:=fun i ys H h =>
 i<=xs.length/\h.IsRevIter it a ((xs.length:Int) - 1 - (i:Int))/\H it=none/\ys=xs.reverse.take i/\Same H0 H
theorem Zoy {X:Cx}{pins:List (Addr×Obj)}{σ:St}{H0:Hp}{it a:Addr}{xs:List V}(fi:FpOk X pins H0 it)(hq:SqL X.K H0 a xs):Src X pins σ it "list_reverseiterator" xs.length H0 (JRev H0 it a xs) where
 ty:=fun i ys H h j=>by
  obtain ⟨o,e,c,_⟩:=j.2.1
  exact ⟨o,e,c⟩
 nl:=by decide
 hint:=⟨_,fun A s Q E hT h=>Zjn hT h⟩
 self:=fun A s ys H Q E j q=>Vp j.2.1 q
 keep:=fun i ys H h h' S zs zs' h0 hS j k al=>by
  obtain ⟨j1,j2,j3,j4,j5⟩:=j
  have ne1:it≠S:=fun z=>by rw [z,hS] at j3;cases j3
  exact ⟨j1,j2.at fun o e=>k it o ne1 e,by rw [Ai ne1];exact j3,j4,j5.over h0⟩
 fresh:=fun i ys H h j=>j.2.2.1
 item:=fun A i s H ys E hh hi I j=>by
  obtain ⟨j1,j2,j3,j4,j5⟩:=j
  have hqH:=j5.seq hq
  obtain ⟨its,rv,p,hz⟩:=I.list hqH
  have hx:xs[xs.length - 1 - i]?=some (xs[xs.length - 1 - i]'(by omega)):=Pb (by omega)
  obtain ⟨u,hu,ru⟩:=rv.get hx
  obtain ⟨f0,f1,f2,f3,f4,f5⟩:=fi.of j3
  have e:(xs.length:Int) - 1 - (i:Int)=((xs.length - 1 - i:Nat):Int):=by omega
  have hit:=j2
  rw [e] at hit
  refine wpAny_pyNext_rev_item hit p.isList (x:=u) (by simpa using hu) fun h' st' sb=>?_
  have I1:Inv X pins σ H { s with heap:=h' }:=I.turned (t':=s.toks) (fun b o hb e=>(sb.2 b hb).trans e) f0 f1 f3 f4 f5
  have e2:((xs.length - 1 - i:Nat):Int) - 1=(xs.length:Int) - 1 - ((i+1:Nat):Int):=by omega
  rw [e2] at st'
  refine ⟨u,_,H,rfl,ru,I1,⟨hi,st',j3,?_,j5⟩,fun S zs e=>e⟩
  rw [j4,Sm]
  congr 1
  rw [List.getElem?_reverse (by simpa using hi),hx]
  rfl
 done:=fun A s H ys E hh I j=>by
  obtain ⟨j1,j2,j3,j4,j5⟩:=j
  obtain ⟨f0,f1,f2,f3,f4,f5⟩:=fi.of j3
  have e:(xs.length:Int) - 1 - (xs.length:Int)=-1:=by omega
  have hit:=j2
  rw [e] at hit
  exact wpAny_pyNext_rev_end hh hit fun h' eb=>⟨rfl,I.turned (t':=s.toks) (fun b o hb e=>eb b o hb e) f0 f1 f3 f4 f5⟩
section
variable {X:Cx}
noncomputable def Oi (K:O9)(ta:TA):TE:=fun σ H Q=>ta σ H fun vs H1=>∃ a xs,vs=[.ref a]/\SqL K H1 a xs /\
 ∀(S:Addr)(H2:Hp),H1 S=none->Same H1 H2->H2 S=some (.lst xs.reverse)->Q (.ref S) H2
theorem Zn3 {e:Expr}{ta:TA}{p p2 pos pos2:Pos}(hg:Gl X "list")(hm:X.mg "list" = none)(hg2:Gl X "reversed")(hm2:X.mg "reversed" = none)(ha:QA X [e] ta)(hc:X.calm=true:=by rfl)
  (hs:starEach [.Call (.Name "reversed" p2) [e] [] pos2] X.env=[(false,eval (.Call (.Name "reversed" p2) [e] [] pos2) X.env)]:=by rfl) (hs2:starEach [e] X.env=[(false,eval e X.env)]:=by rfl) :
  QE X (.Call (.Name "list" p) [.Call (.Name "reversed" p2) [e] [] pos2] [] pos) (Oi X.K ta):=by
 refine ⟨fun pins s σ H Q I h=>?_⟩
 refine Call_ (Dw I hg hm Ny (Q2 ?_ hs rfl))
 rw [hs]
 show wpAny _ _ (spliced ((false,eval (.Call (.Name "reversed" p2) [e] [] pos2) X.env)::[])) _ _ s
 refine R3 ?_
 refine Call_ (Dw I hg2 hm2 Zdj (Q2 (Ak (ha.run pos2 pins s σ H _ I h) fun us s1 zq=>?_) hs2 rfl))
 obtain ⟨vs,H1,I1,r1,q1⟩:=zq
 obtain ⟨a,xs,e1,hq,q⟩:=q1
 subst e1
 cases r1 with
 | cons r rr =>
  cases rr
  cases r
  obtain ⟨its,rv,pl,hz⟩:=I1.list hq
  have hl:=rv.length
  refine call_reversed_list pl.isList ?_
  refine Sl ?_
  have st0:(s1.heap.push (Vd a (((its.toArray).size:Int) - 1))).IsRevIter s1.heap.objs.size a ((xs.length:Int) - 1 - ((0:Nat):Int)):=by
   refine ⟨_,P0 _ rfl,rfl,?_⟩
   have e:((its.toArray).size:Int) - 1=(xs.length:Int) - 1 - ((0:Nat):Int):=by simp [hl]
   rw [<- e]
   rfl
  have I2:Inv X pins σ H1 { s1 with heap:=s1.heap.push (Vd a (((its.toArray).size:Int) - 1)) }:=I1.kept (t':=s1.toks) fun b o e=>Pk _ e
  have fi:=I1.fpOk (b:=s1.heap.objs.size) (Pc _) (I1.hok.fresh (Pc _))
  have C:=Zoy (X:=X) (pins:=pins) (σ:=σ) (H0:=H1) (it:=s1.heap.objs.size) (a:=a) (xs:=xs) fi hq
  refine Me C (by omega) (I1.ok.hd hc) I2 ⟨P6 _,st0,fi.1,rfl,Same.refl _⟩ (fun S hge hS h2 k2=>?_) fun S H' ys hS hS' hl' hj=>?_
  ·refine ⟨P6 _,st0.at fun o e=>k2 _ _ e,?_,rfl,Same.upd hS⟩
   rw [Ai (show s1.heap.objs.size≠S from fun z=>?_)]
   ·exact fi.1
   ·have hge:(s1.heap.push (Vd a (((its.toArray).size:Int) - 1))).objs.size<=S:=hge
    rw [Qu] at hge
    omega
  ·obtain ⟨h,j⟩:=hj
   obtain ⟨_,_,_,j4,j5⟩:=j
   rw [Qp (by simp)] at j4
   subst j4
   exact q S H' hS j5 hS'
theorem Zox (K:O9){e:Expr}{ta:TA}{p p2 pos pos2:Pos}(hg:Gl X "list")(hm:X.mg "list" = none)(hg2:Gl X "reversed")(hm2:X.mg "reversed" = none)(ha:QA X [e] ta)(hK:X.K=K:=by rfl)(hc:X.calm=true:=by rfl)
  (hs:starEach [.Call (.Name "reversed" p2) [e] [] pos2] X.env=[(false,eval (.Call (.Name "reversed" p2) [e] [] pos2) X.env)]:=by rfl) (hs2:starEach [e] X.env=[(false,eval e X.env)]:=by rfl) :
  QE X (.Call (.Name "list" p) [.Call (.Name "reversed" p2) [e] [] pos2] [] pos) (Oi K ta):=by subst hK;exact Zn3 hg hm hg2 hm2 ha hc hs hs2
theorem s_listrev {K:O9}{ta:TA}{σ:St}{H:Hp}{Q:VK}(h:ta σ H fun vs H1=>∃ a xs,vs=[.ref a]/\SqL K H1 a xs/\∀(S:Addr)(H2:Hp),H1 S=none->Same H1 H2->H2 S=some (.lst xs.reverse)->Q (.ref S) H2):Oi K ta σ H Q:=h
theorem Zp8 {l b:Addr}{xs zs:List V}{H:Hp}{Q:VK}(e:H l=some (.lst xs))(e2:H b=some (.lst zs))(hz:xs.length+zs.length<=sizeLine)(h:Q .non (upd H l (.lst (xs++zs)))):Zeu (.ref l) [.ref b] H Q:=⟨l,b,xs,zs,rfl,rfl,e,e2,hz,h⟩
theorem Fo:∀{ns:List Int}{us:List Value},Vals (ns.map V.int) us->∃ xs:List (Int×Tok),us=xs.map (fun p=>Value.int p.1 p.2)/\xs.map (·.1)=ns
 | [],_,.nil=>⟨[],rfl,rfl⟩
 | n::ns,_,.cons r t=>by
  obtain ⟨u,rfl⟩:=r
  obtain ⟨xs,e1,e2⟩:=Fo t
  exact ⟨(n,u)::xs,by rw [e1];rfl,by simp [e2]⟩
end
structure ZA (z TI TO i1 i2:Addr)(fp1 fp2:List Addr):Prop where
 TIz:TI≠z
 TOz:TO≠z
 TITO:TI≠TO
 z1:z ∉ fp1
 z2:z ∉ fp2
 TI1:TI≠i1
 TI2:TI≠i2
 TO1:TO ∉ fp1
 TO2:TO ∉ fp2
 m1:i1∈fp1
 m2:i2∈fp2
 n1:i1 ∉ fp2
 n2:i2 ∉ fp1
theorem ZA.i1z {z TI TO i1 i2:Addr}{fp1 fp2:List Addr}(D:ZA z TI TO i1 i2 fp1 fp2):i1≠z:=fun e=>D.z1 (e ▸ D.m1)
theorem ZA.i2z {z TI TO i1 i2:Addr}{fp1 fp2:List Addr}(D:ZA z TI TO i1 i2 fp1 fp2):i2≠z:=fun e=>D.z2 (e ▸ D.m2)
theorem ZA.TOi1 {z TI TO i1 i2:Addr}{fp1 fp2:List Addr}(D:ZA z TI TO i1 i2 fp1 fp2):TO≠i1:=fun e=>D.TO1 (e ▸ D.m1)
theorem ZA.TOi2 {z TI TO i1 i2:Addr}{fp1 fp2:List Addr}(D:ZA z TI TO i1 i2 fp1 fp2):TO≠i2:=fun e=>D.TO2 (e ▸ D.m2)
theorem Ce {prog:Program}{w:World}{A:Around}{it c:Addr}{fp:List Addr}{n i:Nat}{P:Nat->Value->Prop}{St:Nat->Heap->Prop}(D:Draws prog w A it fp n P St){h h':Heap}(st:St i h)(e:Pu c h h')(hc:c ∉ fp):St i h' :=
 D.frame i h h' st fun b hb o eo=>e.extBut b o (fun z=>hc (z ▸ hb)) eo
section
variable {prog:Program}{w:World}{A:Around}{E:Value->Shared->Prop}{s:Shared}{z TI TO i1 i2:Addr}{fp1 fp2:List Addr}{n1 n2 i:Nat}{P1 P2:Nat->Value->Prop}{St1 St2:Nat->Heap->Prop}{a b:Value}
theorem Zg9 {Q:Value->Shared->Prop}(D1:Draws prog w A i1 fp1 n1 P1 St1)(D2:Draws prog w A i2 fp2 n2 P2 St2)(D:ZA z TI TO i1 i2 fp1 fp2)(hz:IsZip s.heap z TI TO .none)(hTI:IsPair s.heap TI (.ref i1) (.ref i2))(hTO:IsPair s.heap TO a b)
  (st1:St1 i s.heap) (st2:St2 i s.heap) (l1:i < n1) (l2:i < n2)
  (hQ:∀ x y h' tk,P1 i x->P2 i y->IsZip h' z TI TO (rawInt s.heap.objs.size)->IsPair h' TO x y->St1 (i+1) h'->St2 (i+1) h'->IsPair h' s.heap.objs.size x y->h'.objs.size=s.heap.objs.size+1 ->
   (∀ c o,c≠z->c≠TO->c≠i1->c≠i2->s.heap.get? c=some o->h'.get? c=some o)->Q (.ref s.heap.objs.size) { s with heap:=h',toks:=tk }) :
  wpAny (model prog w) A (Builtin.«zip.__next__» ⟨[.ref z],[]⟩) (fun fin s'=>∃ v,fin=.done (.ret v)/\Q v s') E s:=by
 show wpAny _ _ (field (.ref z) 2 >>= _) _ _ s
 refine Pa (Px hz rfl (x:=Value.bool false) rfl ?_)
 show wpAny _ _ (field (.ref z) 3 >>= _) _ _ s
 refine Pa (Px hz rfl (x:=Value.ref TI) rfl (Pa (Q3 hTI rfl ?_)))
 show wpAny _ _ (Q4 (.ref z) >>= _) _ _ s
 refine Pa ?_
 unfold Q4
 refine Pa (Px hz rfl (x:=Value.none) rfl (Pd ?_))
 simp only [if_true]
 refine Pa (Sz (Pa (Px hz rfl (x:=Value.ref TO) rfl ?_)))
 refine Pa (Q6 hz (by simp) fun h₁ hz₁ e1=>?_)
 replace hz₁:IsZip h₁ z TI TO Value.ellipsis:=hz₁
 refine Pa ?_
 simp only [List.zipIdx_cons,List.zipIdx_nil,So,T6]
 refine Pa (Pa (U6 ?_))
 show wpAny _ _ (Qx (.ref i1) >>= _) _ _ _
 refine Pa (D1.item i _ _ _ l1 (Ce D1 st1 e1 D.z1) fun x h₂ tk₂ px s12 e2=>Pd ?_)
 replace e2:Pu i1 h₁ h₂:=e2
 have p2:IsPair h₂ TO a b:=e2.extBut _ _ D.TOi1 (e1.extBut _ _ D.TOz hTO)
 refine Pa (Q3 p2 rfl (Pa (Vq p2 fun h₃ p3 e3=>?_)))
 replace p3:IsPair h₃ TO x b:=p3
 replace e3:Pu TO h₂ h₃:=e3
 refine Pa (Vi (Pd (Pa (Pa (U6 ?_)))))
 show wpAny _ _ (Qx (.ref i2) >>= _) _ _ _
 have s22:St2 i h₃:=Ce D2 (Ce D2 (Ce D2 st2 e1 D.z2) e2 D.n1) e3 D.TO2
 refine Pa (D2.item i _ _ _ l2 s22 fun y h₄ tk₄ py s24 e4=>Pd ?_)
 replace e4:Pu i2 h₃ h₄:=e4
 have p4:IsPair h₄ TO x b:=e4.extBut _ _ D.TOi2 p3
 refine Pa (Q3 p4 rfl (Pa (Vq p4 fun h₅ p5 e5=>?_)))
 replace p5:IsPair h₅ TO x y:=p5
 replace e5:Pu TO h₄ h₅:=e5
 refine Pa (Vi (Pd (Pd (Pa (Q3 p5 rfl (Pa (wpAny_newTuple ?_)))))))
 have sz:h₅.objs.size=s.heap.objs.size:=by rw [e5.1,e4.1,e3.1,e2.1,e1.1]
 have z5:IsZip h₅ z TI TO Value.ellipsis:=e5.extBut _ _ D.TOz.symm (e4.extBut _ _ D.i2z.symm (e3.extBut _ _ D.TOz.symm (e2.extBut _ _ D.i1z.symm hz₁)))
 have k5:∀ c o,c≠z->c≠TO->c≠i1->c≠i2->s.heap.get? c=some o->h₅.get? c=some o:=fun c o c1 c2 c3 c4 e=>e5.extBut _ _ c2 (e4.extBut _ _ c4 (e3.extBut _ _ c2 (e2.extBut _ _ c3 (e1.extBut _ _ c1 e))))
 have t1:St1 (i+1) h₅:=Ce D1 (Ce D1 (Ce D1 s12 e3 D.TO1) e4 D.n2) e5 D.TO1
 have t2:St2 (i+1) h₅:=Ce D2 s24 e5 D.TO2
 have zlt:z < h₅.objs.size:=Pi z5
 show wpAny _ _ (Wd (.ref z) (.ref h₅.objs.size) >>= _) _ _ _
 refine Pa ?_
 unfold Wd
 have z6:IsZip (h₅.push { cls:=.type "tuple",data:=.seq #[x,y] }) z TI TO Value.ellipsis:=Pk _ z5
 refine Pa (Q6 z6 (by simp) fun h₇ z7 e7=>?_)
 replace z7:IsZip h₇ z TI TO (rawInt h₅.objs.size):=z7
 refine Q6 z7 (by simp) fun h₈ z8 e8=>?_
 replace z8:IsZip h₈ z TI TO (rawInt h₅.objs.size):=z8
 have up:∀ c o,c≠z->h₅.get? c=some o->h₈.get? c=some o:=fun c o c1 e=>e8.extBut _ _ c1 (e7.extBut _ _ c1 (Pk _ e))
 have t8:IsPair h₈ h₅.objs.size x y:=e8.extBut _ _ (Q1 zlt) (e7.extBut _ _ (Q1 zlt) (P0 _ rfl))
 have sz8:h₈.objs.size=h₅.objs.size+1:=by rw [e8.1,e7.1,Qu]
 rw [sz] at z8 t8 sz8
 refine Pd ⟨_,rfl,?_⟩
 show Q (.ref h₅.objs.size) _
 rw [sz]
 exact hQ x y h₈ tk₄ px py z8 (up _ _ D.TOz p5) (D1.frame _ _ _ t1 fun c hc o e=>up c o (fun q=>D.z1 (q ▸ hc)) e) (D2.frame _ _ _ t2 fun c hc o e=>up c o (fun q=>D.z2 (q ▸ hc)) e) t8 sz8 fun c o c1 c2 c3 c4 e=>up c o c1 (k5 c o c1 c2 c3 c4 e)
theorem Zh9 {Q:Fin->Shared->Prop}(D1:Draws prog w A i1 fp1 n1 P1 St1)(D2:Draws prog w A i2 fp2 n2 P2 St2)(D:ZA z TI TO i1 i2 fp1 fp2)(hz:IsZip s.heap z TI TO .none)(hTI:IsPair s.heap TI (.ref i1) (.ref i2))(hTO:IsPair s.heap TO a b)
  (st1:St1 i s.heap) (st2:St2 i s.heap) (hend:i=n1\/(i < n1/\i=n2))
  (hE:∀ h' e tk,(∀ c o,c≠z->c≠TO->c≠i1->c≠i2->s.heap.get? c=some o->h'.get? c=some o)->(∃ o,h'.get? e=some o/\o.cls=.type "StopIteration")->E (.ref e) { s with heap:=h',toks:=tk }) :
  wpAny (model prog w) A (Builtin.«zip.__next__» ⟨[.ref z],[]⟩) Q E s:=by
 show wpAny _ _ (field (.ref z) 2 >>= _) _ _ s
 refine Pa (Px hz rfl (x:=Value.bool false) rfl ?_)
 show wpAny _ _ (field (.ref z) 3 >>= _) _ _ s
 refine Pa (Px hz rfl (x:=Value.ref TI) rfl (Pa (Q3 hTI rfl ?_)))
 show wpAny _ _ (Q4 (.ref z) >>= _) _ _ s
 refine Pa ?_
 unfold Q4
 refine Pa (Px hz rfl (x:=Value.none) rfl (Pd ?_))
 simp only [if_true]
 refine Pa (Sz (Pa (Px hz rfl (x:=Value.ref TO) rfl ?_)))
 refine Pa (Q6 hz (by simp) fun h₁ hz₁ e1=>?_)
 replace hz₁:IsZip h₁ z TI TO Value.ellipsis:=hz₁
 refine Pa ?_
 simp only [List.zipIdx_cons,List.zipIdx_nil,So,T6]
 refine Pa (Pa (U6 ?_))
 show wpAny _ _ (Qx (.ref i1) >>= _) _ _ _
 rcases hend with rfl | ⟨l1,rfl⟩
 ·refine Pa (D1.done _ _ _ (Ce D1 st1 e1 D.z1) fun h₂ e e2 he=>?_)
  obtain ⟨oe,hoe,hce⟩:=he
  replace e2:Sw i1 h₁ h₂:=e2
  have z2:IsZip h₂ z TI TO Value.ellipsis:=e2 _ _ D.i1z.symm hz₁
  have hez:e≠z:=fun x=>by subst x;rw [z2] at hoe;cases hoe;simp at hce
  refine Q6 z2 (by simp) fun h₃ _ e3=>hE h₃ e s.toks (fun c o c1 _ c3 _ x=>e3.extBut _ _ c1 (e2 _ _ c3 (e1.extBut _ _ c1 x))) ⟨oe,e3.extBut _ _ hez hoe,hce⟩
 ·refine Pa (D1.item i _ _ _ l1 (Ce D1 st1 e1 D.z1) fun x h₂ tk₂ px s12 e2=>Pd ?_)
  replace e2:Pu i1 h₁ h₂:=e2
  have p2:IsPair h₂ TO a b:=e2.extBut _ _ D.TOi1 (e1.extBut _ _ D.TOz hTO)
  refine Pa (Q3 p2 rfl (Pa (Vq p2 fun h₃ p3 e3=>?_)))
  replace e3:Pu TO h₂ h₃:=e3
  refine Pa (Vi (Pd (Pa (Pa (U6 ?_)))))
  show wpAny _ _ (Qx (.ref i2) >>= _) _ _ _
  have s22:St2 i h₃:=Ce D2 (Ce D2 (Ce D2 st2 e1 D.z2) e2 D.n1) e3 D.TO2
  refine Pa (D2.done _ _ _ s22 fun h₄ e e4 he=>?_)
  obtain ⟨oe,hoe,hce⟩:=he
  replace e4:Sw i2 h₃ h₄:=e4
  have z4:IsZip h₄ z TI TO Value.ellipsis:=e4 _ _ D.i2z.symm (e3.extBut _ _ D.TOz.symm (e2.extBut _ _ D.i1z.symm hz₁))
  have hez:e≠z:=fun x=>by subst x;rw [z4] at hoe;cases hoe;simp at hce
  refine Q6 z4 (by simp) fun h₅ _ e5=>hE h₅ e tk₂ (fun c o c1 c2 c3 c4 x=>e5.extBut _ _ c1 (e4 _ _ c4 (e3.extBut _ _ c2 (e2.extBut _ _ c3 (e1.extBut _ _ c1 x))))) ⟨oe,e5.extBut _ _ hez hoe,hce⟩
theorem Zek {Q:Option Value->Shared->Prop}(D1:Draws prog w A.in1 i1 fp1 n1 P1 St1)(D2:Draws prog w A.in1 i2 fp2 n2 P2 St2)(D:ZA z TI TO i1 i2 fp1 fp2)(hz:IsZip s.heap z TI TO .none)(hTI:IsPair s.heap TI (.ref i1) (.ref i2))(hTO:IsPair s.heap TO a b)
  (st1:St1 i s.heap) (st2:St2 i s.heap) (l1:i < n1) (l2:i < n2)
  (hQ:∀ x y h' tk,P1 i x->P2 i y->IsZip h' z TI TO (rawInt s.heap.objs.size)->IsPair h' TO x y->St1 (i+1) h'->St2 (i+1) h'->IsPair h' s.heap.objs.size x y->h'.objs.size=s.heap.objs.size+1 ->
   (∀ c o,c≠z->c≠TO->c≠i1->c≠i2->s.heap.get? c=some o->h'.get? c=some o)->Q (some (.ref s.heap.objs.size)) { s with heap:=h',toks:=tk }) :
  wpAny (model prog w) A (pyNext (.ref z)) Q E s:=by
 have hT:s.TypeIs (.ref z) "zip" := ⟨_,hz,rfl⟩
 unfold pyNext
 exact Pa (Su (Q5 (name:=Ql "__next__") hT Rm
  (Q7 Rm hT Ur (Zg9 D1 D2 D hz hTI hTO st1 st2 l1 l2 fun x y h' tk a1 a2 a3 a4 a5 a6 a7 a8 a9=>Pd (hQ x y h' tk a1 a2 a3 a4 a5 a6 a7 a8 a9)) (Uo _))))
theorem Zee {Q:Option Value->Shared->Prop}(D1:Draws prog w A.in1 i1 fp1 n1 P1 St1)(D2:Draws prog w A.in1 i2 fp2 n2 P2 St2)(D:ZA z TI TO i1 i2 fp1 fp2)(hz:IsZip s.heap z TI TO .none)(hTI:IsPair s.heap TI (.ref i1) (.ref i2))(hTO:IsPair s.heap TO a b)
  (st1:St1 i s.heap) (st2:St2 i s.heap) (hend:i=n1\/(i < n1/\i=n2))
  (hQ:∀ h' tk,(∀ c o,c≠z->c≠TO->c≠i1->c≠i2->s.heap.get? c=some o->h'.get? c=some o)->Q none { s with heap:=h',toks:=tk }):wpAny (model prog w) A (pyNext (.ref z)) Q E s:=by
 have hT:s.TypeIs (.ref z) "zip" := ⟨_,hz,rfl⟩
 unfold pyNext
 refine Pa (Su (Q5 (name:=Ql "__next__") hT Rm
  (Q7 Rm hT Ur (Zh9 D1 D2 D hz hTI hTO st1 st2 hend fun h' e tk hk he=>?_) (Uo _))))
 obtain ⟨o,ho,hc⟩:=he
 exact Pa (Uw (T := "StopIteration") (b:=true) ⟨o,ho,hc⟩ isSubtype_stop (Pd (hQ _ _ hk)))
end
section
variable {prog:Program}{w:World}{A:Around}{E:Value->Shared->Prop}{s:Shared}
end
section
variable {X:Cx}{pins:List (Addr×Obj)}{σ:St}{H:Hp}{s:Shared}{h':Heap}
theorem Inv.turnedL {t':Nat}{fp:List Addr}(I:Inv X pins σ H s)(k:∀ b o,b ∉ fp->s.heap.get? b=some o->h'.get? b=some o)(f:∀ b∈fp,FpOk X pins H b):Inv X pins σ H { s with heap:=h',toks:=t' }:=by
 have nit:∀ b u,H b=some u->b ∉ fp:=fun b u e hb=>by rw [(f b hb).1] at e;exact nomatch e
 refine I.step (g':=s.gens) (d':=s.drawn) (ch:=fp) (fun b hb=>?_) (fun b o _ _ hc e _=>k b o hc e) (fun b o _ _ hc e _=>⟨o.slots,k b o hc e⟩) (fun _ _ _ _ n=>n)
  (fun b o hc e=>⟨o,k b o hc e⟩) (fun _ _ e=>e) (fun _ _ _ e=>e) (fun b ps e=>⟨#[],by rw [e];simp⟩) (fun m hm=>?_) (fun b u e=>?_) I.bare
 ·obtain ⟨n1,l1,_,e1,c1,p1⟩:=f b hb
  exact ⟨e1,l1,c1,p1⟩
 ·obtain ⟨o,es,ep,ho,r⟩:=hm
  exact ⟨o,es,ep,k _ o (fun hb=>(f _ hb).2.1 rfl) ho,r⟩
 ·refine (I.hok b u e).stay (fun c v hc q=>k c v ?_ q) (fun _ q=>q) fun _ _ q=>q
  rcases hc with z | z
  ·rw [z];exact nit b u e
  ·exact nit c _ z
theorem Inv.pairL {tk:Nat}{fp:List Addr}{T:Addr}{xs:List V}{its:List Value}(I:Inv X pins σ H s)(f:∀ b∈fp,FpOk X pins H b)
  (kk:∀ b o,b ∉ fp->s.heap.get? b=some o->h'.get? b=some o) (hT:s.heap.objs.size<=T) (rv:Vals xs its) (hz:xs.length<=sizeLine) (ht:h'.IsTuple T its.toArray):Inv X pins σ (upd H T (.tup xs)) { s with heap:=h',toks:=tk }:=by
 have hf:H T=none:=I.hok.fresh hT
 have I1:Inv X pins σ H { s with heap:=h',toks:=tk }:=I.turnedL kk f
 have hokN:HOk X.prog X.w (upd H T (.tup xs)) h':=fun b o e=>by
  by_cases hb:b=T
  ·subst hb
   rw [Ad] at e
   cases e
   exact ⟨hz,its,rv,ht⟩
  ·rw [Ai hb] at e
   refine (I1.hok b o e).stay (fun c v _ q=>q) (fun c q=>?_) fun c zs q=>?_
   ·rw [Ai (Ax q hf)];exact q
   ·rw [Ai (Ax q hf)];exact q
 have u:Un (C5 X.stack) fp H (upd H T (.tup xs)) s.heap h':={
  keep:=fun b o e n _ hx=>kk b o hx e
  slot:=fun b o e n _ hx=>⟨o.slots,kk b o hx e⟩
  free:=fun b o e n _=>by rw [Ai (Pr (Pz (Pi e) hT))];exact n
  there:=fun b o e hx=>⟨o,kk b o hx e⟩
  tups:=fun b zs e=>by rw [Ai (Ax e hf)];exact e
  frzs:=fun b o u e=>by rw [Ai (Ax e hf)];exact e
  tbls:=fun b ps e=>⟨#[],by rw [Ai (Ax e hf),e];simp⟩ }
 refine I.call (g':=s.gens) (d':=s.drawn) (t':=tk) u hokN I.bare fun b hb=>?_
 obtain ⟨n1,l1,_,e1,c1,p1⟩:=f b hb
 exact ⟨e1,l1,c1,p1⟩
end
structure ZB (z TI TO i1 i2 a b:Addr):Prop where
 TIz:TI≠z
 TOz:TO≠z
 TITO:TI≠TO
 i1z:i1≠z
 i2z:i2≠z
 TI1:TI≠i1
 TI2:TI≠i2
 TO1:TO≠i1
 TO2:TO≠i2
 i12:i1≠i2
 az:a≠z
 aTO:a≠TO
 a1:a≠i1
 a2:a≠i2
 bz:b≠z
 bTO:b≠TO
 b1:b≠i1
 b2:b≠i2
theorem ZB.za {z TI TO i1 i2 a b:Addr}(D:ZB z TI TO i1 i2 a b):ZA z TI TO i1 i2 [i1,a] [i2,b] where
 TIz:=D.TIz
 TOz:=D.TOz
 TITO:=D.TITO
 z1:=by simp [D.i1z.symm,D.az.symm]
 z2:=by simp [D.i2z.symm,D.bz.symm]
 TI1:=D.TI1
 TI2:=D.TI2
 TO1:=by simp [D.TO1,D.aTO.symm]
 TO2:=by simp [D.TO2,D.bTO.symm]
 m1:=by simp
 m2:=by simp
 n1:=by simp [D.i12,D.b1.symm]
 n2:=by simp [D.i12.symm,D.a2.symm]
theorem Zfp {n a b:Nat}(h1:a < n)(h2:b < n):ZB (n+4) (n+2) (n+3) n (n+1) a b:=by
 have f:∀ i j:Nat,i≠j->n+i≠n+j:=fun i j h e=>h (Nat.add_left_cancel e)
 have g:∀ i:Nat,a≠n+i:=fun i e=>absurd h1 (by rw [e];exact Nat.not_lt.mpr (Sn _ _))
 have g':∀ i:Nat,b≠n+i:=fun i e=>absurd h2 (by rw [e];exact Nat.not_lt.mpr (Sn _ _))
 exact ⟨f 2 4 (by decide),f 3 4 (by decide),f 2 3 (by decide),f 0 4 (by decide),f 1 4 (by decide),f 2 0 (by decide),f 2 1 (by decide),f 3 0 (by decide),f 3 1 (by decide),f 0 1 (by decide),g 4,g 3,g 0,g 1,g' 4,g' 3,g' 0,g' 1⟩
section
variable {X:Cx}
end
theorem Zhg {prog:Program}{w:World}{A:Around}{E:Value->Shared->Prop}{s:Shared}{t sl:Addr}{items:Array Value}{vl vu:Value}{lo hi:Option Int}{Q:Value->Shared->Prop}(ht:IsTup s.heap t items)(hs:s.heap.IsSliceOf sl vl vu .none)(pl:IsPart vl lo)(pu:IsPart vu hi)
  (hw:HT.sIx items.size 0 lo=0/\HT.sIx items.size items.size hi=items.size) (h:Q (.ref t) s):wpAny (model prog w) A (getItem (.ref t) (.ref sl)) Q E s:=by
 obtain ⟨os,hos,hcs,hds⟩:=id hs
 have hTs:s.TypeIs (.ref sl) "slice" := ⟨os,hos,hcs⟩
 unfold getItem
 try with_reducible refine Q0 ?_
 first | refine Pa (Pd ?_) | skip
 refine Pa (wpAny_sequenceKey ht.typeIs (by decide) ?_)
 refine Pa (Q5 (name:=Ql "__getitem__") ht.typeIs Sa
  (Q7 Sa ht.typeIs PyProof.Rows.entry_tuple_getitem ?_ (PyProof.Rows.args_tuple_getitem _ _)))
 show wpAny _ _ (Builtin.Tuple.tupleItemsOf (.ref t) >>= _) _ _ s
 refine Pa (PyProof.Rows.tupleItemsOf_ ht ?_)
 refine Pa (Va hTs ?_)
 rw [if_pos (by decide)]
 refine Pa (HT.sliceApplied_gen hs pl pu ?_)
 have hyes:(((HT.sIx items.size 0 lo:Nat):Int) == 0 && (1:Int) == 1 && (HT.sIx items.size items.size hi - HT.sIx items.size 0 lo) == items.size)=true:=by
  rw [hw.1,hw.2]
  simp
 show wpAny _ _ (if (((HT.sIx items.size 0 lo:Nat):Int) == 0 && (1:Int) == 1 && (HT.sIx items.size items.size hi - HT.sIx items.size 0 lo) == items.size)=true then _ else _) _ _ s
 rw [if_pos hyes]
 refine Pa (m:=Builtin.Tuple.tupleIsExact (.ref t)) ?_
 unfold Builtin.Tuple.tupleIsExact
 refine Pa (Va ht.typeIs (Pd ?_))
 rw [if_pos (by decide)]
 refine Pa (Sz ?_)
 exact Pd ⟨_,rfl,Pd h⟩
noncomputable def rSlU (K:O9):V->Option Int->Option Int->Hp->VK->Prop:=fun x lo hi H Q=>∃ a xs,x=.ref a/\SqT K H a xs/\∀ r H',Same H H'->SqT K H' r (Bq xs lo hi)->Q (.ref r) H'
theorem Zoj {X:Cx}:SlR X (rSlU X.K):=by
 intro pins s σ H x v vl vu lo hi sl Q I rx hs pl pu h
 obtain ⟨a,xs,rfl,hx,q⟩:=h
 by_cases hw:HT.sIx xs.length 0 lo=0/\HT.sIx xs.length xs.length hi=xs.length
 ·cases rx
  obtain ⟨its,r,ht,hz⟩:=I.tuple hx
  have hlen:its.toArray.size=xs.length:=by rw [Pf];exact r.length.symm
  refine ⟨"tuple",_,Sa.lookup,ht.typeIs,?_⟩
  refine Zhg ht hs pl pu (by rw [hlen];exact hw) ⟨.ref a,H,I,rfl,q a H (Same.refl H) ?_⟩
  have e:Bq xs lo hi=xs:=by unfold Bq;rw [hw.1,hw.2];simp
  rw [e]
  exact hx
 ·exact Zdb pins s σ H _ v vl vu lo hi sl Q I rx hs pl pu ⟨a,xs,rfl,hx,hw,fun p hp=>q p _ (Same.upd hp) (.of Ad)⟩
noncomputable def Mr (K:O9):V->Option Int->Option Int->Hp->VK->Prop:=fun x lo hi H Q=>N5 K x lo hi H Q\/O6 x lo hi H Q\/rSlU K x lo hi H Q
theorem Lo {X:Cx}(K:O9)(hK:X.K=K:=by rfl):SlR X (Mr K):=by subst hK;exact sl_list.or (sl_str.or Zoj)
theorem Zqk {K:O9}{a:Addr}{xs:List V}{lo hi:Option Int}{H:Hp}{Q:VK}(ha:SqL K H a xs)(h:∀ p,H p=none->Q (.ref p) (upd H p (.lst (Bq xs lo hi)))):Mr K (.ref a) lo hi H Q:=.inl ⟨a,xs,rfl,ha,h⟩
theorem Zaq {K:O9}{a:Addr}{xs:List V}{lo hi:Option Int}{H:Hp}{Q:VK}(ha:SqT K H a xs)(h:∀ r H',Same H H'->SqT K H' r (Bq xs lo hi)->Q (.ref r) H'):Mr K (.ref a) lo hi H Q:=.inr (.inr ⟨a,xs,rfl,ha,h⟩)
theorem s_aug {i:Nat}{te:TE}{ti:Hq}{D:C0}{σ:St}{H:Hp}{x:V}(e:σ[i]?=some (some x))(h:te σ H fun y H1=>ti x y H1 fun z H2=>D.nx (σ.set i (some z)) H2):Zay i te ti D σ H:=⟨x,e,h⟩
theorem s_ipI {g:Int->Int->Int}{i j:Int}{H:Hp}{Q:VK}(h:Q (.int (g i j)) H):ipI g (.int i) (.int j) H Q:=⟨i,j,rfl,rfl,h⟩
theorem Zce (xs:List V)(k:Nat):Bq xs none (some (k:Int))=xs.take k:=by
 unfold Bq
 rw [HT.sIx_none,HT.sIx_nat,Vf,T7]
 by_cases h:k<=xs.length
 ·rw [Sr h]
 ·rw [V7 (by omega),Qp (Pc _),Qp (by omega)]
theorem Ziu (xs:List V)(k:Nat):Bq xs (some (k:Int)) none=xs.drop k:=by
 unfold Bq
 rw [HT.sIx_none,HT.sIx_nat]
 by_cases h:k<=xs.length
 ·rw [Sr h,Qp (by simp)]
 ·rw [V7 (by omega),Sd (Pc _),Sd (by omega)]
  simp
theorem Zo6 (xs:List V):Bq xs none (some (-1))=xs.take (xs.length - 1):=by
 unfold Bq
 rw [HT.sIx_none,T7]
 show xs.take ((if (-1:Int) < 0 then ((-1:Int)+(xs.length:Int)).toNat else min (-1:Int).toNat xs.length) - 0)=_
 rw [if_pos (by decide)]
 congr 1
 omega
section
variable {M:Model}{A:Around}{E:Value->Shared->Prop}{s:Shared}
end
theorem Zc7 {X:Cx}{st:Stmt}:QS X st (fun _ _ _=>False):=⟨fun _ _ _ _ _ _ h=>h.elim⟩
noncomputable def Ha (h:Heap)(z TI TO i1 i2:Addr):Prop:=∃(a:Addr)(oa:Obj)(f1:Value),h.get? z=some { cls:=.type "zip",dict:=none,data:=.fields #[rawInt a,f1,.bool false,.ref TI,.ref TO],slots:=#[] }/\h.get? a=some oa/\a≠z/\a≠i1/\a≠i2
section
variable {prog:Program}{w:World}{A:Around}{E:Value->Shared->Prop}{s:Shared}{z TI TO i1 i2:Addr}{fp1 fp2:List Addr}{n1 n2 i:Nat}{P1 P2:Nat->Value->Prop}{St1 St2:Nat->Heap->Prop}{a b:Value}
theorem Zf2 {Q:Bool->Shared->Prop}(hz:Ha s.heap z TI TO i1 i2)(h:∀ h',Ha h' z TI TO i1 i2->Pu z s.heap h'->Q false { s with heap:=h' }):wpAny (model prog w) A (Q4 (.ref z)) Q E s:=by
 obtain ⟨a,oa,f1,e,ea,n0,n1,n2⟩:=hz
 unfold Q4
 refine Pa (Px e rfl (x:=rawInt a) rfl ?_)
 show wpAny _ _ (loadIfAlive ((a:Int).toNat) >>= _) _ _ s
 refine Pa (Zbt ?_)
 rw [Rq,ea]
 rw [if_neg (by simp)]
 refine Pa (Px e rfl (x:=f1) rfl ?_)
 by_cases hf:(f1 != Value.bool true)=true
 ·simp only [hf,if_true]
  refine Pa (Q6 e (by simp) fun h₅ e5 s5=>?_)
  replace s5:Pu z s.heap h₅:=s5
  exact Pd (h h₅ ⟨a,oa,.bool true,e5,s5.extBut a oa n0 ea,n0,n1,n2⟩ s5)
 ·simp only [hf]
  exact Pd (h s.heap ⟨a,oa,f1,e,ea,n0,n1,n2⟩ (Pu.refl ..))
theorem Zig {Q:Value->Shared->Prop}(D1:Draws prog w A i1 fp1 n1 P1 St1)(D2:Draws prog w A i2 fp2 n2 P2 St2)(D:ZA z TI TO i1 i2 fp1 fp2)(hz:Ha s.heap z TI TO i1 i2)(hTI:IsPair s.heap TI (.ref i1) (.ref i2))
  (st1:St1 i s.heap) (st2:St2 i s.heap) (l1:i < n1) (l2:i < n2)
  (hQ:∀ x y h' tk,P1 i x->P2 i y->Ha h' z TI TO i1 i2->St1 (i+1) h'->St2 (i+1) h'->IsPair h' s.heap.objs.size x y->h'.objs.size=s.heap.objs.size+1 ->
   (∀ c o,c≠z->c≠i1->c≠i2->s.heap.get? c=some o->h'.get? c=some o)->Q (.ref s.heap.objs.size) { s with heap:=h',toks:=tk }) :
  wpAny (model prog w) A (Builtin.«zip.__next__» ⟨[.ref z],[]⟩) (fun fin s'=>∃ v,fin=.done (.ret v)/\Q v s') E s:=by
 obtain ⟨a0,oa0,f10,e0,_⟩:=id hz
 show wpAny _ _ (field (.ref z) 2 >>= _) _ _ s
 refine Pa (Px e0 rfl (x:=Value.bool false) rfl ?_)
 show wpAny _ _ (field (.ref z) 3 >>= _) _ _ s
 refine Pa (Px e0 rfl (x:=Value.ref TI) rfl (Pa (Q3 hTI rfl ?_)))
 show wpAny _ _ (Q4 (.ref z) >>= _) _ _ s
 refine Pa (Zf2 hz fun h₁ hz₁ e1=>?_)
 simp only [Tp,if_false]
 refine Pa ?_
 simp only [List.forIn_toArray,So,T6]
 refine Pa (Pa (Q0 ?_))
 show wpAny _ _ (Qx (.ref i1) >>= _) _ _ _
 refine Pa (D1.item i _ _ _ l1 (Ce D1 st1 e1 D.z1) fun x h₂ tk₂ px s12 e2=>Pd (Pd ?_))
 replace e2:Pu i1 h₁ h₂:=e2
 refine Pa (Pa (Q0 ?_))
 show wpAny _ _ (Qx (.ref i2) >>= _) _ _ _
 have s22:St2 i h₂:=Ce D2 (Ce D2 st2 e1 D.z2) e2 D.n1
 refine Pa (D2.item i _ _ _ l2 s22 fun y h₄ tk₄ py s24 e4=>Pd (Pd (Pd ?_)))
 replace e4:Pu i2 h₂ h₄:=e4
 show wpAny _ _ (newTuple [x,y] >>= _) _ _ _
 refine Pa (wpAny_newTuple (Pd ⟨_,rfl,?_⟩))
 have sz:h₄.objs.size=s.heap.objs.size:=by rw [e4.1,e2.1,e1.1]
 show Q (.ref h₄.objs.size) { s with heap:=h₄.push { cls:=.type "tuple",data:=.seq #[x,y] },toks:=tk₄ }
 have up:∀ c o,h₄.get? c=some o->(h₄.push { cls:=.type "tuple",data:=.seq #[x,y] }).get? c=some o:=fun c o e=>Pk _ e
 have k4:∀ c o,c≠z->c≠i1->c≠i2->s.heap.get? c=some o->h₄.get? c=some o:=fun c o c1 c3 c4 e=>e4.extBut _ _ c4 (e2.extBut _ _ c3 (e1.extBut _ _ c1 e))
 have t8:IsPair (h₄.push { cls:=.type "tuple",data:=.seq #[x,y] }) h₄.objs.size x y:=P0 _ rfl
 rw [sz] at t8
 rw [sz]
 obtain ⟨a1,oa1,f1,g1,g2,g3,g4,g5⟩:=hz₁
 refine hQ x y _ tk₄ px py ⟨a1,oa1,f1,up _ _ (e4.extBut _ _ D.i2z.symm (e2.extBut _ _ D.i1z.symm g1)),up _ _ (e4.extBut _ _ g5 (e2.extBut _ _ g4 g2)),g3,g4,g5⟩ ?_ ?_ t8 (by rw [Qu,sz]) fun c o c1 c3 c4 e=>up c o (k4 c o c1 c3 c4 e)
 ·exact D1.frame _ _ _ (Ce D1 s12 e4 D.n2) fun c _ o e=>up c o e
 ·exact D2.frame _ _ _ s24 fun c _ o e=>up c o e
theorem Zne {Q:Fin->Shared->Prop}(D1:Draws prog w A i1 fp1 n1 P1 St1)(D2:Draws prog w A i2 fp2 n2 P2 St2)(D:ZA z TI TO i1 i2 fp1 fp2)(hz:Ha s.heap z TI TO i1 i2)(hTI:IsPair s.heap TI (.ref i1) (.ref i2))
  (st1:St1 i s.heap) (st2:St2 i s.heap) (hend:i=n1\/(i < n1/\i=n2))
  (hE:∀ h' e tk,(∀ c o,c≠z->c≠i1->c≠i2->s.heap.get? c=some o->h'.get? c=some o)->(∃ o,h'.get? e=some o/\o.cls=.type "StopIteration")->E (.ref e) { s with heap:=h',toks:=tk }) :
  wpAny (model prog w) A (Builtin.«zip.__next__» ⟨[.ref z],[]⟩) Q E s:=by
 obtain ⟨a0,oa0,f10,e0,_⟩:=id hz
 show wpAny _ _ (field (.ref z) 2 >>= _) _ _ s
 refine Pa (Px e0 rfl (x:=Value.bool false) rfl ?_)
 show wpAny _ _ (field (.ref z) 3 >>= _) _ _ s
 refine Pa (Px e0 rfl (x:=Value.ref TI) rfl (Pa (Q3 hTI rfl ?_)))
 show wpAny _ _ (Q4 (.ref z) >>= _) _ _ s
 refine Pa (Zf2 hz fun h₁ hz₁ e1=>?_)
 simp only [Tp,if_false]
 refine Pa ?_
 simp only [List.forIn_toArray,So,T6]
 refine Pa (Pa (Q0 ?_))
 show wpAny _ _ (Qx (.ref i1) >>= _) _ _ _
 rcases hend with rfl | ⟨l1,rfl⟩
 ·refine Pa (D1.done _ _ _ (Ce D1 st1 e1 D.z1) fun h₂ e e2 he=>?_)
  replace e2:Sw i1 h₁ h₂:=e2
  exact hE h₂ e s.toks (fun c o c1 c3 _ x=>e2 _ _ c3 (e1.extBut _ _ c1 x)) he
 ·refine Pa (D1.item i _ _ _ l1 (Ce D1 st1 e1 D.z1) fun x h₂ tk₂ px s12 e2=>Pd (Pd ?_))
  replace e2:Pu i1 h₁ h₂:=e2
  refine Pa (Pa (Q0 ?_))
  show wpAny _ _ (Qx (.ref i2) >>= _) _ _ _
  have s22:St2 i h₂:=Ce D2 (Ce D2 st2 e1 D.z2) e2 D.n1
  refine Pa (D2.done _ _ _ s22 fun h₄ e e4 he=>?_)
  replace e4:Sw i2 h₂ h₄:=e4
  exact hE h₄ e tk₂ (fun c o c1 c3 c4 x=>e4 _ _ c4 (e2.extBut _ _ c3 (e1.extBut _ _ c1 x))) he
noncomputable def ZpSt (h:Heap)(z TI TO i1 i2:Addr)(i:Nat):Prop:=(i=0/\IsZip h z TI TO .none/\∃ u v,IsPair h TO u v)\/(0 < i/\Ha h z TI TO i1 i2)
theorem ZpSt.obj {h:Heap}{z TI TO i1 i2:Addr}{i:Nat}(x:ZpSt h z TI TO i1 i2 i):∃ vs,h.get? z=some { cls:=.type "zip",dict:=none,data:=.fields vs,slots:=#[] }:=by
 rcases x with ⟨_,x,_⟩ | ⟨_,_,_,_,x,_⟩
 ·exact ⟨_,x⟩
 ·exact ⟨_,x⟩
theorem Zjj {Q:Option Value->Shared->Prop}(D1:Draws prog w A.in1 i1 fp1 n1 P1 St1)(D2:Draws prog w A.in1 i2 fp2 n2 P2 St2)(D:ZA z TI TO i1 i2 fp1 fp2)(hz:ZpSt s.heap z TI TO i1 i2 i)(hTI:IsPair s.heap TI (.ref i1) (.ref i2))(eTO:∃ o,s.heap.get? TO=some o)
  (st1:St1 i s.heap) (st2:St2 i s.heap) (l1:i < n1) (l2:i < n2)
  (hQ:∀ x y h' tk,P1 i x->P2 i y->ZpSt h' z TI TO i1 i2 (i+1)->(∃ o,h'.get? TO=some o)->St1 (i+1) h'->St2 (i+1) h'->IsPair h' s.heap.objs.size x y->h'.objs.size=s.heap.objs.size+1 ->
   (∀ c o,c≠z->c≠TO->c≠i1->c≠i2->s.heap.get? c=some o->h'.get? c=some o)->Q (some (.ref s.heap.objs.size)) { s with heap:=h',toks:=tk }) :
  wpAny (model prog w) A (pyNext (.ref z)) Q E s:=by
 obtain ⟨vs,ho⟩:=hz.obj
 have hT:s.TypeIs (.ref z) "zip" := ⟨_,ho,rfl⟩
 have zl:z < s.heap.objs.size:=Pi ho
 have l1':i1 < s.heap.objs.size:=by obtain ⟨_,y⟩:=D1.live _ _ st1;exact Pi y
 have l2':i2 < s.heap.objs.size:=by obtain ⟨_,y⟩:=D2.live _ _ st2;exact Pi y
 rcases hz with ⟨rfl,hz,u,v,hTO⟩ | ⟨hi,hz⟩
 ·exact Zek D1 D2 D hz hTI hTO st1 st2 l1 l2 fun x y h' tk a1 a2 a3 a4 a5 a6 a7 a8 a9=>hQ x y h' tk a1 a2 (.inr ⟨Ve _,_,_,_,a3,a7,Q1 zl,Q1 l1',Q1 l2'⟩) ⟨_,a4⟩ a5 a6 a7 a8 a9
 ·unfold pyNext
  exact Pa (Su (Q5 (name:=Ql "__next__") hT Rm
   (Q7 Rm hT Ur (Zig D1 D2 D hz hTI st1 st2 l1 l2 fun x y h' tk a1 a2 a3 a4 a5 a6 a7 a8=>Pd (hQ x y h' tk a1 a2 (.inr ⟨Ve _,a3⟩) (let ⟨o,e⟩:=eTO;⟨o,a8 _ o D.TOz D.TOi1 D.TOi2 e⟩) a4 a5 a6 a7 fun c o c1 _ c3 c4 e=>a8 c o c1 c3 c4 e)) (Uo _))))
theorem Zh4 {Q:Option Value->Shared->Prop}(D1:Draws prog w A.in1 i1 fp1 n1 P1 St1)(D2:Draws prog w A.in1 i2 fp2 n2 P2 St2)(D:ZA z TI TO i1 i2 fp1 fp2)(hz:ZpSt s.heap z TI TO i1 i2 i)(hTI:IsPair s.heap TI (.ref i1) (.ref i2))
  (st1:St1 i s.heap) (st2:St2 i s.heap) (hend:i=n1\/(i < n1/\i=n2))
  (hQ:∀ h' tk,(∀ c o,c≠z->c≠TO->c≠i1->c≠i2->s.heap.get? c=some o->h'.get? c=some o)->Q none { s with heap:=h',toks:=tk }):wpAny (model prog w) A (pyNext (.ref z)) Q E s:=by
 obtain ⟨vs,ho⟩:=hz.obj
 have hT:s.TypeIs (.ref z) "zip" := ⟨_,ho,rfl⟩
 rcases hz with ⟨rfl,hz,u,v,hTO⟩ | ⟨hi,hz⟩
 ·exact Zee D1 D2 D hz hTI hTO st1 st2 hend hQ
 ·unfold pyNext
  refine Pa (Su (Q5 (name:=Ql "__next__") hT Rm
   (Q7 Rm hT Ur (Zne D1 D2 D hz hTI st1 st2 hend fun h' e tk hk he=>?_) (Uo _))))
  obtain ⟨o,ho,hc⟩:=he
  exact Pa (Uw (T := "StopIteration") (b:=true) ⟨o,ho,hc⟩ isSubtype_stop (Pd (hQ _ _ fun c o c1 _ c3 c4 e=>hk c o c1 c3 c4 e)))
end
noncomputable abbrev itZ (b:Bool)(l:Addr):Obj:={ cls:=.type (cond b "tuple_iterator" "list_iterator"),data:=.fields #[.ref l,.int 0 0] }
noncomputable def ZIt (b:Bool)(h:Heap)(a l:Addr)(i:Nat):Prop:=∃ o,h.get? a=some o/\o.cls=.type (cond b "tuple_iterator" "list_iterator")/\o.data=.fields #[.ref l,.int i 0]
theorem ZIt.at {b:Bool}{h h':Heap}{a l:Addr}{i:Nat}(x:ZIt b h a l i)(k:∀ o,h.get? a=some o->h'.get? a=some o):ZIt b h' a l i:=let ⟨o,e,r⟩:=x;⟨o,k o e,r⟩
noncomputable def ZIn (b:Bool)(h:Heap)(a:Addr)(xs:Array Value):Prop:=cond b (h.IsTuple a xs) (h.IsList a xs)
noncomputable def Fi (b:Bool)(K:O9)(H:Hp)(a:Addr)(xs:List V):Prop:=cond b (SqT K H a xs) (SqL K H a xs)
theorem ZIn.lt {b:Bool}{h:Heap}{a:Addr}{xs:Array Value}(x:ZIn b h a xs):a < h.objs.size:=by
 cases b <;> exact let ⟨_,e,_⟩:=id x;Pi e
theorem ZIn.push {b:Bool}{h:Heap}{a:Addr}{xs:Array Value}(x:ZIn b h a xs)(o:Obj):ZIn b (h.push o) a xs:=by
 cases b
 ·exact Heap.IsList.push x _
 ·obtain ⟨o,e,r⟩:=id x
  exact ⟨o,Pk _ e,r⟩
theorem Same.sqZ {b:Bool}{K:O9}{H H':Hp}{a:Addr}{xs:List V}(m:Same H H')(x:Fi b K H a xs):Fi b K H' a xs:=by
 cases b
 ·exact m.seq x
 ·exact m.tup x
theorem Inv.zin {X:Cx}{pins:List (Addr×Obj)}{σ:St}{H:Hp}{s:Shared}{b:Bool}{a:Addr}{xs:List V}(I:Inv X pins σ H s)(x:Fi b X.K H a xs):∃ its,Vals xs its/\ZIn b s.heap a its.toArray:=by
 cases b
 ·obtain ⟨its,rv,pl,hz⟩:=I.list x
  exact ⟨its,rv,pl.isList⟩
 ·obtain ⟨its,rv,pl,hz⟩:=I.tuple x
  exact ⟨its,rv,pl⟩
theorem Inv.zsz {X:Cx}{pins:List (Addr×Obj)}{σ:St}{H:Hp}{s:Shared}{b:Bool}{a:Addr}{xs:List V}(I:Inv X pins σ H s)(x:Fi b X.K H a xs):xs.length<=sizeLine:=by
 cases b
 ·obtain ⟨its,rv,pl,hz⟩:=I.list x
  have:=rv.length
  omega
 ·obtain ⟨its,rv,pl,hz⟩:=I.tuple x
  have:=rv.length
  omega
theorem Kv {prog:Program}{w:World}{A:Around}(b:Bool)(hh:A.handled=none)(it l:Addr)(hne:l≠it)(items:Array Value) :
  Draws prog w A it [it,l] items.size (fun i v=>items[i]?=some v) (fun i h=>ZIt b h it l i/\ZIn b h l items):=by
 cases b
 ·exact R7 hh it l hne items
 ·exact L7 hh it l hne items
theorem Zd4 {prog:Program}{w:World}{A:Around}{E:Value->Shared->Prop}{s:Shared}{b:Bool}{a:Addr}{xs:Array Value}{Q:Value->Shared->Prop}(q:ZIn b s.heap a xs)
  (h:Q (.ref s.heap.objs.size) { s with heap:=s.heap.push (itZ b a) }):wpAny (model prog w) A (pyIter (.ref a)) Q E s:=by
 cases b
 ·exact wpAny_pyIter_list q h
 ·exact To q h
noncomputable abbrev zl1 (b:Bool)(h:Heap)(l1:Addr):Heap:=h.push (itZ b l1)
noncomputable abbrev zl2 (b gg:Bool)(h:Heap)(l1 l2:Addr):Heap:=(zl1 b h l1).push (itZ gg l2)
noncomputable abbrev zl3 (b gg:Bool)(h:Heap)(l1 l2:Addr):Heap:=(zl2 b gg h l1 l2).push { cls:=.type "tuple",data:=.seq #[.ref h.objs.size,.ref (zl1 b h l1).objs.size] }
noncomputable abbrev zl4 (b gg:Bool)(h:Heap)(l1 l2:Addr):Heap:=(zl3 b gg h l1 l2).push { cls:=.type "tuple",data:=.seq #[.none,.none] }
noncomputable abbrev F7 (b gg:Bool)(h:Heap)(l1 l2:Addr):Heap:=(zl4 b gg h l1 l2).push { cls:=.type "zip",data:=.fields #[.none,.bool false,.bool false,.ref (zl2 b gg h l1 l2).objs.size,.ref (zl3 b gg h l1 l2).objs.size] }
theorem Zkt (b gg:Bool)(l1 l2:Addr)(xs ys:Array Value) :
  Meets (Builtin.«zip.__new__» ⟨[.type "zip",.ref l1,.ref l2],[]⟩) (fun _ R s=>ZIn b s.heap l1 xs/\ZIn gg s.heap l2 ys/\R (.ok (.ret (.ref (zl4 b gg s.heap l1 l2).objs.size))) { s with heap:=F7 b gg s.heap l1 l2 }) :=
 .of_wp fun prog w A R s h=>by
  obtain ⟨hp,g,d,tk,os⟩:=s;obtain ⟨hl1,hl2,h⟩:=h
  have hsub:=sub_zip
  have q1:ZIn b (Shared.heap ⟨hp,g,d,tk,os⟩) l1 xs:=hl1
  have q2:ZIn gg (Shared.heap ⟨hp.push (itZ b l1),g,d,tk,os⟩) l2 ys:=hl2.push _
  wp_walk using Zd4 q1,Zd4 q2
  exact ⟨_,rfl,h⟩
theorem Ze9 {b gg:Bool}{prog:Program}{w:World}{A:Around}{E:Value->Shared->Prop}{s:Shared}{l1 l2:Addr}{xs ys:Array Value}{Q:Value->Shared->Prop}(hl1:ZIn b s.heap l1 xs)(hl2:ZIn gg s.heap l2 ys)
  (h:∀ h',IsZip h' (s.heap.objs.size+4) (s.heap.objs.size+2) (s.heap.objs.size+3) .none->IsPair h' (s.heap.objs.size+2) (.ref s.heap.objs.size) (.ref (s.heap.objs.size+1)) ->
   IsPair h' (s.heap.objs.size+3) .none .none->ZIt b h' s.heap.objs.size l1 0->ZIt gg h' (s.heap.objs.size+1) l2 0->h'.objs.size=s.heap.objs.size+5 ->
   (∀ c o,s.heap.get? c=some o->h'.get? c=some o)->Q (.ref (s.heap.objs.size+4)) { s with heap:=h' }) :
  wpAny (model prog w) A (call (.type "zip") [.ref l1,.ref l2]) Q E s:=by
 refine callType_new PySem.F.called_zip (by decide) (PySem.F.typeCall_zip_2 _ _) (PySem.F.newCall_zip_2 _ _) (fun obj=>PySem.F.args_object_init_3 obj _ _) PySem.F.entry_zip_new (Zkt b gg l1 l2 xs ys) ⟨hl1,hl2,?_⟩
 have y1:(zl1 b s.heap l1).objs.size=s.heap.objs.size+1:=Qu ..
 have y2:(zl2 b gg s.heap l1 l2).objs.size=s.heap.objs.size+2:=by rw [Qu,y1]
 have y3:(zl3 b gg s.heap l1 l2).objs.size=s.heap.objs.size+3:=by rw [Qu,y2]
 have y4:(zl4 b gg s.heap l1 l2).objs.size=s.heap.objs.size+4:=by rw [Qu,y3]
 have y5:(F7 b gg s.heap l1 l2).objs.size=s.heap.objs.size+5:=by rw [Qu,y4]
 have u5:(F7 b gg s.heap l1 l2).get? (zl4 b gg s.heap l1 l2).objs.size=some _:=P0 _ rfl
 have u4:(F7 b gg s.heap l1 l2).get? (zl3 b gg s.heap l1 l2).objs.size=some _:=Pk _ (P0 _ rfl)
 have u3:(F7 b gg s.heap l1 l2).get? (zl2 b gg s.heap l1 l2).objs.size=some _:=Pk _ (Pk _ (P0 _ rfl))
 have u2:(F7 b gg s.heap l1 l2).get? (zl1 b s.heap l1).objs.size=some _:=Pk _ (Pk _ (Pk _ (P0 _ rfl)))
 have u1:(F7 b gg s.heap l1 l2).get? s.heap.objs.size=some _:=Pk _ (Pk _ (Pk _ (Pk _ (P0 _ rfl))))
 show _/\_
 rw [y2,y3,y4] at u5
 rw [y1,y2] at u3
 rw [y3] at u4
 rw [y1] at u2
 rw [y4]
 exact ⟨⟨_,u5,rfl⟩,h _ u5 u3 u4 ⟨_,u1,rfl,rfl⟩ ⟨_,u2,rfl,rfl⟩ y5 fun c o x=>Pk _ (Pk _ (Pk _ (Pk _ (Pk _ x))))⟩
noncomputable def L8 (H:Hp)(xs ys zs:List V):Prop:=∀(j:Nat)(z:V),zs[j]?=some z->∃(t:Addr)(x y:V),z=V.ref t/\xs[j]?=some x/\ys[j]?=some y/\H t=some (.tup [x,y])
noncomputable def JZp (f gg:Bool)(K:O9)(H0:Hp)(z TI TO i1 i2 a b:Addr)(xs ys:List V):Nat->List V->Hp->Heap->Prop:=fun i zs H h =>
 ZpSt h z TI TO i1 i2 i/\(IsPair h TI (.ref i1) (.ref i2)/\∃ o,h.get? TO=some o)/\ZIt f h i1 a i/\ZIt gg h i2 b i/\(∀ c∈[z,TI,TO,i1,i2],H c=none)/\zs.length=i/\L8 H xs ys zs/\Same H0 H
theorem Zia:typeLookup (.type "zip") "__len__" = pure none:=by rw [Sq,Sf];kernel_rfl
theorem Zph:typeLookup (.type "zip") "__length_hint__" = pure none:=by rw [Sq,Sf];kernel_rfl
theorem Zlv {f gg:Bool}{X:Cx}{pins:List (Addr×Obj)}{σ:St}{H0:Hp}{z TI TO i1 i2 a b:Addr}{xs ys:List V}(fp:∀ c∈[z,TI,TO,i1,i2],FpOk X pins H0 c)(D:ZB z TI TO i1 i2 a b)(ha:Fi f X.K H0 a xs)(hb:Fi gg X.K H0 b ys) :
  Src X pins σ z "zip" (min xs.length ys.length) H0 (JZp f gg X.K H0 z TI TO i1 i2 a b xs ys) where
 ty:=fun i zs H h j=>by
  obtain ⟨vs,e⟩:=j.1.obj
  exact ⟨_,e,rfl⟩
 nl:=by decide
 hint:=⟨_,fun A s Q E hT h=>Za7 hT Zia Zph h⟩
 self:=fun A s zs H Q E j q=>by
  rcases j.1 with ⟨_,e,_⟩ | ⟨z,_⟩
  ·exact V8 e q
  ·exact absurd z (Qw _)
 keep:=fun i zs H h h' S us us' h0 hS j k al=>by
  obtain ⟨j1,⟨j2,jT⟩,j3,j4,j5,j6,j7,j8⟩:=j
  have ne:∀ c∈[z,TI,TO,i1,i2],c≠S:=fun c hc e=>by
   have:=j5 c hc
   rw [e,hS] at this
   cases this
  refine ⟨?_,⟨k _ _ (ne TI (by simp)) j2,let ⟨o,e⟩:=jT;⟨o,k _ _ (ne TO (by simp)) e⟩⟩,j3.at fun o e=>k _ _ (ne i1 (by simp)) e,j4.at fun o e=>k _ _ (ne i2 (by simp)) e,fun c hc=>by rw [Ai (ne c hc)];exact j5 c hc,j6,fun m y hy=>?_,j8.over h0⟩
  ·rcases j1 with ⟨z0,e,u,v,e2⟩ | ⟨z0,a0,oa,f1,e,ea,x1,x2,x3⟩
   ·exact .inl ⟨z0,k _ _ (ne z (by simp)) e,u,v,k _ _ (ne TO (by simp)) e2⟩
   ·by_cases hs:a0=S
    ·subst hs
     obtain ⟨o,eo⟩:=al
     exact .inr ⟨z0,a0,o,f1,k _ _ (ne z (by simp)) e,eo,x1,x2,x3⟩
    ·exact .inr ⟨z0,a0,oa,f1,k _ _ (ne z (by simp)) e,k _ _ hs ea,x1,x2,x3⟩
  ·obtain ⟨t,x,y',e1,e2,e3,e4⟩:=j7 m y hy
   exact ⟨t,x,y',e1,e2,e3,by rw [Ai (Eu e4 hS (by intro z;cases z))];exact e4⟩
 fresh:=fun i zs H h j=>j.2.2.2.2.1 z (by simp)
 item:=fun A i s H zs E hh hi I j=>by
  obtain ⟨j1,⟨j2,jT⟩,j3,j4,j5,j6,j7,j8⟩:=j
  obtain ⟨its,rv,p⟩:=I.zin (j8.sqZ ha)
  obtain ⟨its2,rv2,p2⟩:=I.zin (j8.sqZ hb)
  have g1:=rv.length
  have g2:=rv2.length
  have l1:i < xs.length:=by omega
  have l2:i < ys.length:=by omega
  have D1:=Kv (prog:=X.prog) (w:=X.w) (A:=A.in1) f hh i1 a D.a1 its.toArray
  have D2:=Kv (prog:=X.prog) (w:=X.w) (A:=A.in1) gg hh i2 b D.b2 its2.toArray
  refine Zjj D1 D2 D.za j1 j2 jT ⟨j3,p⟩ ⟨j4,p2⟩ (by rw [Pf];omega) (by rw [Pf];omega) fun x y h' tk px py a1 aT a2 a3 a4 a5 a6=>?_
  have hx':its[i]?=some x:=by simpa using px
  have hy':its2[i]?=some y:=by simpa using py
  obtain ⟨u1,hu1,ru1⟩:=rv.get (Pb l1)
  obtain ⟨u2,hu2,ru2⟩:=rv2.get (Pb l2)
  rw [hx'] at hu1
  cases hu1
  rw [hy'] at hu2
  cases hu2
  have hf:H s.heap.objs.size=none:=I.hok.fresh (Pc _)
  have fpH:∀ c∈[z,TI,TO,i1,i2],FpOk X pins H c:=fun c hc=>(fp c hc).of (j5 c hc)
  have kk:∀ c o,c ∉ [z,TI,TO,i1,i2]->s.heap.get? c=some o->h'.get? c=some o:=fun c o hc e=>by
   simp only [Ph,P3,or_false,not_or] at hc
   exact a6 c o hc.1 hc.2.2.1 hc.2.2.2.1 hc.2.2.2.2 e
  have I2:=I.pairL (tk:=tk) (T:=s.heap.objs.size) (xs:=[xs[i],ys[i]]) (its:=[x,y]) fpH kk (Pc _) (.cons ru1 (.cons ru2 .nil)) (by show 2<=sizeLine;decide) ⟨_,a4,rfl,_,rfl⟩
  have sm:Same H (upd H s.heap.objs.size (.tup [xs[i],ys[i]])):=Same.upd hf
  have lt:∀{c o},s.heap.get? c=some o->c≠s.heap.objs.size:=fun e=>Pr (Pi e)
  have nw:∀ c∈[z,TI,TO,i1,i2],c≠s.heap.objs.size:=fun c hc=>by
   simp only [Ph,P3,or_false] at hc
   rcases hc with rfl | rfl | rfl | rfl | rfl
   ·obtain ⟨_,e⟩:=j1.obj;exact lt e
   ·exact lt j2
   ·obtain ⟨_,e⟩:=jT;exact lt e
   ·obtain ⟨_,e,_⟩:=j3;exact lt e
   ·obtain ⟨_,e,_⟩:=j4;exact lt e
  refine ⟨_,.ref s.heap.objs.size,_,rfl,rfl,I2,⟨a1,⟨a6 _ _ D.TIz D.TITO D.TI1 D.TI2 j2,aT⟩,a2.1,a3.1,fun c hc=>by rw [Ai (nw c hc)];exact j5 c hc,by simp [j6],fun m y hy=>?_,j8.trans sm⟩,fun S us e=>sm S _ e⟩
  by_cases hm:m < i
  ·rw [Qe (by omega)] at hy
   obtain ⟨t,x,y',e1,e2,e3,e4⟩:=j7 m y hy
   exact ⟨t,x,y',e1,e2,e3,sm _ _ e4⟩
  ·have hlen:=(Pg.mp hy).1
   rw [Pl,Qa] at hlen
   have:m=i:=by omega
   subst this
   rw [Qm (by omega),j6,R6] at hy
   have hy:V.ref s.heap.objs.size=y:=by simpa using hy
   exact ⟨_,xs[m],ys[m],hy.symm,Pb l1,Pb l2,Ad⟩
 done:=fun A s H zs E hh I j=>by
  obtain ⟨j1,⟨j2,jT⟩,j3,j4,j5,j6,j7,j8⟩:=j
  obtain ⟨its,rv,p⟩:=I.zin (j8.sqZ ha)
  obtain ⟨its2,rv2,p2⟩:=I.zin (j8.sqZ hb)
  have g1:=rv.length
  have g2:=rv2.length
  have D1:=Kv (prog:=X.prog) (w:=X.w) (A:=A.in1) f hh i1 a D.a1 its.toArray
  have D2:=Kv (prog:=X.prog) (w:=X.w) (A:=A.in1) gg hh i2 b D.b2 its2.toArray
  have fpH:∀ c∈[z,TI,TO,i1,i2],FpOk X pins H c:=fun c hc=>(fp c hc).of (j5 c hc)
  refine Zh4 D1 D2 D.za j1 j2 ⟨j3,p⟩ ⟨j4,p2⟩ (by simp only [Pf];omega) fun h' tk kk=>⟨rfl,I.turnedL (fun c o hc e=>?_) fpH⟩
  simp only [Ph,P3,or_false,not_or] at hc
  exact kk c o hc.1 hc.2.2.1 hc.2.2.2.1 hc.2.2.2.2 e
section
variable {X:Cx}
noncomputable def Zb9 (f gg:Bool)(K:O9)(ta:TA):TE:=fun σ H Q=>ta σ H fun vs H1=>∃ a b xs ys,vs=[.ref a,.ref b]/\Fi f K H1 a xs/\Fi gg K H1 b ys /\
 ∀(S:Addr)(zs:List V)(H2:Hp),H1 S=none->Same H1 H2->zs.length=min xs.length ys.length->L8 H2 xs ys zs->H2 S=some (.lst zs)->Q (.ref S) H2
theorem Zl9 (f gg:Bool)(K:O9){e e2:Expr}{ta:TA}{p p2 pos pos2:Pos}(hg:Gl X "list")(hm:X.mg "list" = none)(hg2:Gl X "zip")(hm2:X.mg "zip" = none)(ha:QA X [e,e2] ta)(hK:X.K=K:=by rfl)(hc:X.calm=true:=by rfl)
  (hs:starEach [.Call (.Name "zip" p2) [e,e2] [] pos2] X.env=[(false,eval (.Call (.Name "zip" p2) [e,e2] [] pos2) X.env)]:=by rfl) (hs2:starEach [e,e2] X.env=[(false,eval e X.env),(false,eval e2 X.env)]:=by rfl) (hs3:starEach [e2] X.env=[(false,eval e2 X.env)]:=by rfl) :
  QE X (.Call (.Name "list" p) [.Call (.Name "zip" p2) [e,e2] [] pos2] [] pos) (Zb9 f gg K ta):=by
 subst hK
 refine ⟨fun pins s σ H Q I h=>?_⟩
 refine Call_ (Dw I hg hm Ny (Q2 ?_ hs rfl))
 rw [hs]
 show wpAny _ _ (spliced ((false,eval (.Call (.Name "zip" p2) [e,e2] [] pos2) X.env)::[])) _ _ s
 refine R3 ?_
 refine Call_ (Dw I hg2 hm2 PyProof.Rows.boot_zip (Q2 (Ak (ha.run pos2 pins s σ H _ I h) fun us s1 ⟨vs,H1,I1,r1,q1⟩=>?_) (by rw [hs2,hs3]) (by rw [hs3];rfl)))
 obtain ⟨a,b,xs,ys,e1,hq,hq2,q⟩:=q1
 subst e1
 obtain ⟨u,v,rfl,ru,rv⟩:=r1.two
 cases ru
 cases rv
 obtain ⟨its,rv,pl⟩:=I1.zin hq
 obtain ⟨its2,rv2,pl2⟩:=I1.zin hq2
 have hz2:=I1.zsz hq2
 have lt1:a < s1.heap.objs.size:=pl.lt
 have lt2:b < s1.heap.objs.size:=pl2.lt
 refine Ze9 pl pl2 fun h' a1 a2 a3 a4 a5 a6 hk=>?_
 refine Sl ?_
 have fr:∀ k,FpOk X pins H1 (s1.heap.objs.size+k):=fun k=>I1.fpOk (Sn _ _) (I1.hok.fresh (Sn _ _))
 have fp:∀ c∈[s1.heap.objs.size+4,s1.heap.objs.size+2,s1.heap.objs.size+3,s1.heap.objs.size,s1.heap.objs.size+1],FpOk X pins H1 c:=fun c hc=>by
  simp only [Ph,P3,or_false] at hc
  rcases hc with rfl | rfl | rfl | rfl | rfl
  ·exact fr 4
  ·exact fr 2
  ·exact fr 3
  ·exact fr 0
  ·exact fr 1
 have C:=Zlv (X:=X) (pins:=pins) (σ:=σ) (H0:=H1) fp (Zfp lt1 lt2) hq hq2
 have I2:Inv X pins σ H1 { s1 with heap:=h' }:=I1.kept (t':=s1.toks) hk
 refine Me C (by omega) (I1.ok.hd hc) I2 ⟨.inl ⟨rfl,a1,_,_,a3⟩,⟨a2,_,a3⟩,a4,a5,fun c hc=>(fp c hc).1,rfl,fun j y hy=>by simp at hy,Same.refl _⟩ (fun S hge hS h2 k2=>?_) fun S H' zs hS hS' hl' hj=>?_
 ·have sm:Same H1 (upd H1 S (.lst [])):=Same.upd hS
  refine ⟨.inl ⟨rfl,k2 _ _ a1,_,_,k2 _ _ a3⟩,⟨k2 _ _ a2,_,k2 _ _ a3⟩,a4.at fun o e=>k2 _ _ e,a5.at fun o e=>k2 _ _ e,fun c hc=>?_,rfl,fun j y hy=>by simp at hy,sm⟩
  have hge:h'.objs.size<=S:=hge
  rw [Ai (show c≠S from fun z=>?_)]
  ·exact (fp c hc).1
  ·simp only [Ph,P3,or_false] at hc
   rcases hc with rfl | rfl | rfl | rfl | rfl <;> exact absurd z (Pr (Pz (by omega) hge))
 ·obtain ⟨h,j⟩:=hj
  exact q S zs H' hS j.2.2.2.2.2.2.2 hl' j.2.2.2.2.2.2.1 hS'
end
theorem Zam:∀(xs ys:List Int),((Py (min xs.length ys.length)).all (fun j=>xs.getD j 0 == ys.getD j 0) && xs.length == ys.length)=decide (xs=ys):=by
 intro xs ys
 rw [Rt,Rr,Tu,beq_iff_eq,decide_eq_true_iff]
 constructor
 ·rintro ⟨h1,h2⟩
  apply List.ext_getElem h2
  intro i g1 g2
  have:=h1 i (List.mem_range.mpr (by omega))
  rw [beq_iff_eq,Qk,Qk,Pb g1,Pb g2] at this
  exact this
 ·rintro rfl
  exact ⟨fun j _=>by simp,rfl⟩
section
variable {X:Cx}
noncomputable def rNeI (K:O9):R2:=fun x y H Q=>∃(a c:Addr)(xs ys:List Int),x=.ref a/\y=.ref c/\SqT K H a (xs.map V.int)/\SqT K H c (ys.map V.int)/\Q (.bl (!decide (xs=ys))) H
theorem Zpx (hu:X.A.units+200 < cLine):OpR X (compareOp .NotEq) (rNeI X.K):=by
 intro pins s σ H x y v u Q I rx ry h
 obtain ⟨a,c,xs,ys,rfl,rfl,hx,hy,q⟩:=h
 cases rx
 cases ry
 obtain ⟨its,r1,p1,_⟩:=I.tuple hx
 obtain ⟨its2,r2,p2,_⟩:=I.tuple hy
 obtain ⟨us,e1,f1⟩:=Fo r1
 obtain ⟨vs,e2,f2⟩:=Fo r2
 have l1:us.length=xs.length:=by rw [<- f1,Pe]
 have l2:vs.length=ys.length:=by rw [<- f2,Pe]
 refine Zbz (e:=fun j=>xs.getD j 0 == ys.getD j 0) (show s.heap.IsTuple a its.toArray from p1) (show s.heap.IsTuple c its2.toArray from p2) (by omega) (fun j h1 h2=>?_) ?_
 ·subst e1 e2
  simp only [Pf,Pe] at h1 h2
  have g1:xs.getD j 0=us[j].1:=by rw [<- f1,Qk,Pq,Pb h1];rfl
  have g2:ys.getD j 0=vs[j].1:=by rw [<- f2,Qk,Pq,Pb h2];rfl
  rw [g1,g2]
  simp only [Vr,V9]
  exact Tl _ _ _ _
 ·have e:(!((Py (min its.toArray.size its2.toArray.size)).all (fun j=>xs.getD j 0 == ys.getD j 0) && its.toArray.size == its2.toArray.size))=!decide (xs=ys):=by
   have z1:its.toArray.size=xs.length:=by rw [Pf,e1,Pe,l1]
   have z2:its2.toArray.size=ys.length:=by rw [Pf,e2,Pe,l2]
   rw [z1,z2,Zam]
  rw [e]
  exact ⟨.bl _,H,I,rfl,q⟩
noncomputable def Nd (K:O9):R2:=fun x y H Q=>K0 K x y H Q\/rNeI K x y H Q
theorem Zbj (K:O9)(hu:X.A.units+200 < cLine)(hK:X.K=K:=by rfl):OpR X (compareOp .NotEq) (Nd K):=by subst hK;exact (Zfj hu).or (Zpx hu)
theorem s_neb {K:O9}{x y:V}{H:Hp}{Q:VK}(hs:Jb x y=true)(h:Q (.bl (!decide (x=y))) H):Nd K x y H Q:=.inl (.inl ⟨hs,h⟩)
theorem Znq {K:O9}{a c:Addr}{xs ys:List Int}{H:Hp}{Q:VK}(hx:SqT K H a (xs.map V.int))(hy:SqT K H c (ys.map V.int))(h:Q (.bl (!decide (xs=ys))) H):Nd K (.ref a) (.ref c) H Q:=.inr ⟨a,c,xs,ys,rfl,rfl,hx,hy,h⟩
end
section
variable {X:Cx}
end
section
variable {X:Cx}{pins:List (Addr×Obj)}{σ:St}{H:Hp}{s:Shared}
end
section
variable {P:Program}{w:World}{K:O9}{mg:Str->Option Value}{base:Heap}{N:List Str}{qual:Str}{scope:Scope}{f:Addr}{cd:Value}{A:Around}{outer:List Env}{s0:Shared}{H0:Hp}{E:XK}
end
section
variable {P:Program}{w:World}{K:O9}{mg:Str->Option Value}{base:Heap}
end
section
variable {X:Cx}{k:Nat}{x:Str}{ps:List Str}{sp:Sp}{p pos np cpos:Pos}{e:Expr}{es:List Expr}{t:TA}{E:XK}
end
section
variable {X:Cx}{pins:List (Addr×Obj)}{σ:St}{H:Hp}{s:Shared}
end
section
variable {X:Cx}{k:Nat}{x:Str}{ps:List Str}{sp:Sp}{p pos np cpos:Pos}{e:Expr}{es:List Expr}{t:TA}
end
section
variable {X:Cx}{pins:List (Addr×Obj)}{σ:St}{H:Hp}{s:Shared}
end
section
variable {X:Cx}{c n:Str}{np hpos pos:Pos}{body hbody:List Stmt}{b₀:Stmt}{tb:TXS}{th:TS}{i:Nat}{C:Addr}
end
section
open PySem.W PySem.Builtin PySem.Builtin.ObjectAttr
variable {prog:Program}{w:World}{A:Around}{E:Value->Shared->Prop}{s:Shared}{K:Frag}{x C:Addr}{ox:Obj}{od:Option Obj}{name:Str}{R:Result->Shared->Prop}
end
section
variable {X:Cx}{pins:List (Addr×Obj)}{σ:St}{H:Hp}{s:Shared}
end
section
variable {X:Cx}{pins:List (Addr×Obj)}{σ:St}{H:Hp}{s:Shared}{a C:Addr}{f:Str}{A:Around}{E:Value->Shared->Prop}
open PySem.W PySem.Builtin PySem.Builtin.ObjectAttr
end
section
variable {X:Cx}{o e value:Expr}{f:Str}{pos pos':Pos}{ta tv:TE}
end
section
open PySem.W
end
section
variable {prog:Program}{w:World}{A:Around}{E:Value->Shared->Prop}{h:Heap}{g:Array GenState}{d:Drawn}{t:Nat}{os:OsState}
variable {nm q:Str}{C N:Addr}{bs bm bmB:List Value}{hdct:Bool}{sn:List Str}{sub:List Value}{ab:Bool}{col:Option Bool}{dd:Option Addr}{k0 k1 k2 k3 k5:Option Value}{B Bn newId nid initId inN:String}{bmN:List Value}
end
section
variable {X:Cx}{k:Nat}{x:Str}{sp:Sp}{ps:List Str}{C f:Addr}{fd:FuncData}{np cpos pos:Pos}{a:Expr}{t:TA}{E:XK}
end
section
variable {P:Program}{w:World}{K:O9}{mg:Str->Option Value}{base:Heap}
end
section
variable {X:Cx}{k:Nat}{x:Str}{ps:List Str}{sp:Sp}{p pos:Pos}{e:Expr}{es:List Expr}{t:TA}
end
section
open PySem.W PySem.Builtin PySem.Builtin.ObjectAttr
variable {prog:Program}{w:World}{A:Around}{E:Value->Shared->Prop}{s:Shared}{K:Frag}{x D:Addr}{ox:Obj}{od:Option Obj}
end
section
variable {X:Cx}{pins:List (Addr×Obj)}{σ:St}{H:Hp}{s:Shared}{a C':Addr}{od:Option Addr}
end
section
variable {X:Cx}
noncomputable def rEqI (K:O9):R2:=fun x y H Q=>∃(a c:Addr)(xs ys:List Int),x=.ref a/\y=.ref c/\SqT K H a (xs.map V.int)/\SqT K H c (ys.map V.int)/\Q (.bl (decide (xs=ys))) H
theorem Zqc (hu:X.A.units+200 < cLine):OpR X (compareOp .Eq) (rEqI X.K):=by
 intro pins s σ H x y v u Q I rx ry h
 obtain ⟨a,c,xs,ys,rfl,rfl,hx,hy,q⟩:=h
 cases rx
 cases ry
 obtain ⟨its,r1,p1,_⟩:=I.tuple hx
 obtain ⟨its2,r2,p2,_⟩:=I.tuple hy
 obtain ⟨us,e1,f1⟩:=Fo r1
 obtain ⟨vs,e2,f2⟩:=Fo r2
 have l1:us.length=xs.length:=by rw [<- f1,Pe]
 have l2:vs.length=ys.length:=by rw [<- f2,Pe]
 refine SeqAt.eq_tupleAt (e:=fun j=>xs.getD j 0 == ys.getD j 0) (show s.heap.IsTuple a its.toArray from p1) (show s.heap.IsTuple c its2.toArray from p2) (by omega) (fun j h1 h2=>?_) ?_
 ·subst e1 e2
  simp only [Pf,Pe] at h1 h2
  have g1:xs.getD j 0=us[j].1:=by rw [<- f1,Qk,Pq,Pb h1];rfl
  have g2:ys.getD j 0=vs[j].1:=by rw [<- f2,Qk,Pq,Pb h2];rfl
  rw [g1,g2]
  simp only [Vr,V9]
  exact Tl _ _ _ _
 ·have e:((Py (min its.toArray.size its2.toArray.size)).all (fun j=>xs.getD j 0 == ys.getD j 0) && its.toArray.size == its2.toArray.size)=decide (xs=ys):=by
   have z1:its.toArray.size=xs.length:=by rw [Pf,e1,Pe,l1]
   have z2:its2.toArray.size=ys.length:=by rw [Pf,e2,Pe,l2]
   rw [z1,z2,Zam]
  rw [e]
  exact ⟨.bl _,H,I,rfl,q⟩
noncomputable def rEqB (K:O9):R2:=fun x y H Q=>K9 K x y H Q\/rEqI K x y H Q
theorem Zo4 (K:O9)(hu:X.A.units+200 < cLine)(hK:X.K=K:=by rfl):OpR X (compareOp .Eq) (rEqB K):=by subst hK;exact (Zca hu).or (Zqc hu)
theorem Zjp {K:O9}{a c:Addr}{xs ys:List Int}{H:Hp}{Q:VK}(hx:SqT K H a (xs.map V.int))(hy:SqT K H c (ys.map V.int))(h:Q (.bl (decide (xs=ys))) H):rEqB K (.ref a) (.ref c) H Q:=.inr ⟨a,c,xs,ys,rfl,rfl,hx,hy,h⟩
end
end L2
namespace L2
open PySem
inductive F2:Dt->Prop where
 | flat (v:V):F2 (.flat v)
 | tup {ds:List Dt} (l:ds.length<=5000) (h:∀ d∈ds,F2 d):F2 (.tup ds)
 | lst {ds:List Dt} (l:ds.length<=5000) (h:∀ d∈ds,F2 d):F2 (.lst ds)
theorem Zkc {K:O9}{H:Hp}{n:Nat}{p:Addr}{pl:List Int}(q:SqT K H p (pl.map V.int)):IsD K H (n+1) (.ref p) (.tup (pl.map fun i=>.flat (.int i))):=by
 refine .tup q (by simp) fun j v d h1 h2=>?_
 rw [Pq] at h1 h2
 obtain ⟨k,hk,rfl⟩:=Vn.mp h1
 rw [hk] at h2
 cases h2
 exact .flat rfl
section
variable {g:TG}{tt:TT}{te:TE}{σ0:St}{H1:Hp}{D:Addr}{Q:VK}
end
end L2
namespace L2
open PySem PySem.Spec PyProof.Rows
section
variable {X:Cx}
end
section
variable {prog:Program}{w:World}{A:Around}{E:Value->Shared->Prop}{s:Shared}
end
section
variable {X:Cx}
end
section
variable {g:TG}{tt:TT}{te:TE}{σ0:St}{H1:Hp}{D:Addr}{Q:VK}
end
section
variable {X:Cx}
open PySem.Builtin PySem.Builtin.Str in
end
section
variable {prog:Program}{w:World}{A:Around}{E:Value->Shared->Prop}{s:Shared}
end
section
variable {X:Cx}
end
section
variable {X:Cx}{k:Nat}{x:Str}{ps:List Str}{sp:Sp}{p pos:Pos}
end
section
variable {X:Cx}{k:Nat}{x m:Str}{ps:List Str}{sp:Sp}{E:XK}{C:Addr}{p pos apos:Pos}{e o:Expr}{es:List Expr}{ta:TE}{t:TA}{CX:Dp}{P:Program}{w:World}{mg:Str->Option Value}{base:Heap}
end
section
variable {X:Cx}{e o value:Expr}{f:Str}{pos pos':Pos}{ta tv:TE}{pins:List (Addr×Obj)}{σ:St}{H:Hp}{s:Shared}
end
section
variable {X:Cx}{pins:List (Addr×Obj)}{σ:St}{H:Hp}{s:Shared}
end
section
variable {P:Program}{w:World}{K:O9}{mg:Str->Option Value}{base:Heap}
end
section
variable {X:Cx}{k:Nat}{x:Str}{ps ks:List Str}{gV:List V->List V->List V}{sp:Sp}{E:XK}{C:Addr}{p pos kpos:Pos}{e:Expr}{es:List Expr}{kws:List Keyword}{te:TE}{t tk:TA}{CX:Dp}{nm:Option Str}{f:Addr}{fd:FuncData}{g:List Value->List Value->List Value}
end
section
variable {X:Cx}{pins:List (Addr×Obj)}{σ:St}{H:Hp}{s:Shared}
end
section
variable {κ:Type}[DecidableEq κ]
noncomputable def Bz (kvs:List (κ×V))(k:κ):Option V:=(kvs.find? fun kv=>decide (kv.1=k)).map (·.2)
noncomputable def Bm (kvs:List (κ×V))(k:κ)(v:V):List (κ×V) :=
 if (kvs.any fun kv=>decide (kv.1=k))=true then kvs.map (fun kv=>if kv.1=k then (kv.1,v) else kv) else kvs++[(k,v)]
theorem Er {p:κ×V}{r:List (κ×V)}{k:κ}(e:p.1=k):Bz (p::r) k=some p.2:=by simp [Bz,Ss,e]
theorem Ek {p:κ×V}{r:List (κ×V)}{k:κ}(e:¬ p.1=k):Bz (p::r) k=Bz r k:=by simp [Bz,Ss,e]
theorem Kr (k:κ):∀ kvs:List (κ×V),(kvs.any fun kv=>decide (kv.1=k))=(Bz kvs k).isSome
 | []=>rfl
 | p::r=>by
  rw [Ua]
  by_cases e:p.1=k
  ·simp only [Er e,decide_eq_true e,Bool.true_or,Option.isSome_some]
  ·rw [Ek e,decide_eq_false e,Bool.false_or];exact Kr k r
theorem Zcn (k j:κ)(y:V):∀ kvs:List (κ×V),Bz (kvs.map fun kv=>if kv.1=k then (kv.1,y) else kv) j=(Bz kvs j).map fun x=>if j=k then y else x
 | []=>rfl
 | p::r=>by
  have ih:=Zcn k j y r
  rw [Qg]
  by_cases h:p.1=k
  ·rw [if_pos h]
   by_cases e:p.1=j
   ·rw [Er (p:=(p.1,y)) e,Er e,U2,if_pos (e.symm.trans h)]
   ·rw [Ek (p:=(p.1,y)) e,Ek e,ih]
  ·rw [if_neg h]
   by_cases e:p.1=j
   ·rw [Er (p:=p) e,Er e,U2,if_neg (fun z=>h (e.trans z))]
   ·rw [Ek (p:=p) e,Ek e,ih]
theorem Zdn (k j:κ)(y:V):∀ kvs:List (κ×V),Bz kvs k=none->Bz (kvs++[(k,y)]) j=if j=k then some y else Bz kvs j
 | [],_=>by
  by_cases e:k=j
  ·rw [if_pos e.symm];exact Er (p:=(k,y)) e
  ·rw [if_neg (fun z=>e z.symm)];exact Ek (p:=(k,y)) e
 | p::r,hn=>by
  rw [Rh]
  have hk:¬ p.1=k:=fun z=>by rw [Er z] at hn;cases hn
  rw [Ek hk] at hn
  have ih:=Zdn k j y r hn
  by_cases e:p.1=j
  ·rw [Er e,Er e,if_neg (fun z=>hk (e.trans z))]
  ·rw [Ek e,Ek e,ih]
theorem Li (kvs:List (κ×V))(k j:κ)(y:V):Bz (Bm kvs k y) j=if j=k then some y else Bz kvs j:=by
 unfold Bm
 by_cases a:(kvs.any fun kv=>decide (kv.1=k))=true
 ·rw [if_pos a,Zcn]
  rw [Kr] at a
  by_cases e:j=k
  ·obtain ⟨x,hx⟩:=Re.mp a
   rw [if_pos e,e,hx,U2,if_pos rfl]
  ·rw [if_neg e]
   cases Bz kvs j with
   | none=>rfl
   | some x=>rw [U2,if_neg e]
 ·rw [if_neg a]
  refine Zdn k j y kvs ?_
  rw [Kr] at a
  cases q:Bz kvs k with
  | none=>rfl
  | some x=>rw [q] at a;exact (a rfl).elim
theorem Ej (kvs:List (κ×V))(k:κ)(v:V):(Bm kvs k v).length<=kvs.length+1:=by
 unfold Bm
 split
 ·rw [Pe];omega
 ·rw [Pl,Pj,Tx];omega
theorem RelO.isSome_eq {o:Option V}{u:Option Value}(r:RelO o u):o.isSome=u.isSome:=by
 cases o with
 | none=>cases u with
  | none=>rfl
  | some _=>exact (show False from r).elim
 | some _=>cases u with
  | none=>exact (show False from r).elim
  | some _=>rfl
theorem RelO.getD {o:Option V}{u:Option Value}{d:V}{d':Value}(r:RelO o u)(rd:RelV d d'):RelV (o.getD d) (u.getD d'):=by
 cases o with
 | none=>cases u with
  | none=>exact rd
  | some _=>exact (show False from r).elim
 | some _=>cases u with
  | none=>exact (show False from r).elim
  | some _=>exact r
theorem KV.val {kvs:List (κ×V)}{vs:List (κ×Value)}(r:KV kvs vs)(k:κ):RelO (Bz kvs k) (valueAt vs k):=by
 unfold KV at r
 induction r with
 | nil=>exact True.intro
 | @cons p q ps qs h t ih =>
  obtain ⟨h1,h2⟩:=h
  by_cases e:p.1=k
  ·have e':q.1=k:=h1.symm.trans e
   have b:valueAt (q::qs) k=some q.2:=by simp [valueAt,Ss,e']
   rw [Er e,b];exact h2
  ·have e':¬ q.1=k:=fun z=>e (h1.trans z)
   have b:valueAt (q::qs) k=valueAt qs k:=by simp [valueAt,Ss,e']
   rw [Ek e,b];exact ih
theorem KV.any {kvs:List (κ×V)}{vs:List (κ×Value)}(r:KV kvs vs)(k:κ):(kvs.any fun kv=>decide (kv.1=k))=vs.any fun kv=>decide (kv.1=k):=by
 unfold KV at r
 induction r with
 | nil=>rfl
 | cons h t ih=>rw [Ua,Ua,ih,h.1]
theorem KV.repl {kvs:List (κ×V)}{vs:List (κ×Value)}(r:KV kvs vs)(k:κ){y:V}{u:Value}(ry:RelV y u) :
  KV (kvs.map fun kv=>if kv.1=k then (kv.1,y) else kv) (vs.map fun kv=>if kv.1=k then (kv.1,u) else kv):=by
 unfold KV at r ⊢
 induction r with
 | nil=>exact .nil
 | @cons p q ps qs h t ih =>
  rw [Qg,Qg]
  refine .cons ?_ ih
  obtain ⟨h1,h2⟩:=h
  by_cases e:p.1=k
  ·rw [if_pos e,if_pos (h1.symm.trans e)];exact ⟨h1,ry⟩
  ·rw [if_neg e,if_neg (fun z=>e (h1.trans z))];exact ⟨h1,h2⟩
theorem KV.put {kvs:List (κ×V)}{vs:List (κ×Value)}(r:KV kvs vs)(k:κ){y:V}{u:Value}(ry:RelV y u):KV (Bm kvs k y) (stored vs k u):=by
 unfold Bm stored
 rw [r.any k]
 by_cases e:(vs.any fun kv=>decide (kv.1=k))=true
 ·rw [if_pos e,if_pos e];exact r.repl k ry
 ·rw [if_neg e,if_neg e];exact Paired.snoc r ⟨rfl,ry⟩
theorem KV.length {kvs:List (κ×V)}{vs:List (κ×Value)}(r:KV kvs vs):kvs.length=vs.length:=T8 r
end
theorem Ft {P:Program}{w:World}{k:Au}{u:Value}(r:RelV (kV k) u):(Cr P w).is k u=true:=by
 cases k with
 | inl i=>obtain ⟨t,e⟩:=(show ∃ t,u=Value.int i t from r);subst e;exact Zo0 P w i t
 | inr x=>obtain ⟨t,e⟩:=(show ∃ t,u=Value.str x t from r);subst e;exact Zoo P w x t
theorem Zef {P:Program}{w:World}:∀{ks:List Au}{us:List Value},Vals (ks.map kV) us->ItemsAre (Cr P w) ks us
 | [],_,r=>by rw [Vb] at r;cases r;exact .nil
 | k::ks,_,r=>by
  rw [Qg] at r
  cases r with
  | cons h t=>exact .cons (Ft h) (Zef t)
noncomputable abbrev KT (H:Hp):List (List Au×V)->List (List Au×Addr×Value)->Prop:=Paired fun p q=>p.1=q.1/\H q.2.1=some (.tup (p.1.map kV))/\RelV p.2 q.2.2
theorem KT.val {H:Hp}{kvs:List (List Au×V)}{xs:List (List Au×Addr×Value)}(r:KT H kvs xs)(k:List Au):RelO (Bz kvs k) ((atKey xs k).map (·.2)):=by
 induction r with
 | nil=>exact True.intro
 | @cons p q ps qs h t ih =>
  obtain ⟨h1,_,h2⟩:=h
  by_cases e:p.1=k
  ·have e':q.1=k:=h1.symm.trans e
   have b:atKey (q::qs) k=some q.2:=by simp [atKey,Ss,e']
   rw [Er e,b];exact h2
  ·have e':¬ q.1=k:=fun z=>e (h1.trans z)
   have b:atKey (q::qs) k=atKey qs k:=by simp [atKey,Ss,e']
   rw [Ek e,b];exact ih
theorem KT.repl {H:Hp}{kvs:List (List Au×V)}{xs:List (List Au×Addr×Value)}(r:KT H kvs xs)(k:List Au){y:V}{u:Value}(ry:RelV y u) :
  KT H (kvs.map fun kv=>if kv.1=k then (kv.1,y) else kv) (xs.map (putAt k u)):=by
 induction r with
 | nil=>exact .nil
 | @cons p q ps qs h t ih =>
  rw [Qg,Qg]
  refine .cons ?_ ih
  obtain ⟨h1,h2,h3⟩:=h
  unfold putAt
  by_cases e:p.1=k
  ·rw [if_pos e,if_pos (h1.symm.trans e)];exact ⟨h1,h2,ry⟩
  ·rw [if_neg e,if_neg (fun z=>e (h1.trans z))];exact ⟨h1,h2,h3⟩
theorem KT.put {H:Hp}{kvs:List (List Au×V)}{xs:List (List Au×Addr×Value)}(r:KT H kvs xs)(k:List Au){b:Addr}{y:V}{u:Value}(hb:H b=some (.tup (k.map kV)))(ry:RelV y u) :
  KT H (Bm kvs k y) (storedH xs k b u):=by
 have e:(kvs.any fun kv=>decide (kv.1=k))=(atKey xs k).isSome:=by
  rw [Kr,(r.val k).isSome_eq,V5]
 unfold Bm storedH
 rw [e]
 by_cases q:(atKey xs k).isSome=true
 ·rw [if_pos q,if_pos q];exact r.repl k ry
 ·rw [if_neg q,if_neg q];exact Paired.snoc r ⟨rfl,hb,ry⟩
theorem KT.keeps {H H':Hp}{kvs:List (List Au×V)}{xs:List (List Au×Addr×Value)}(r:KT H kvs xs)(ht:∀ b ys,H b=some (.tup ys)->H' b=some (.tup ys)):KT H' kvs xs :=
 Paired.mapP r fun _ _ z=>⟨z.1,ht _ _ z.2.1,z.2.2⟩
section
variable {P:Program}{w:World}{H:Hp}{h:Heap}{a:Addr}
theorem Zcv {u:HO}(ok:HOk P w H h)(e:Rd H a u):ObjOk P w H h a u:=e.ok ok
theorem Fh {kvs:List (Au×V)}(ok:HOk P w H h)(e:Rd H a (.dK kvs)):kvs.length<=sizeLine/\(a == sysModules)=false/\∃ vs,KV kvs vs/\h.DictOf (Cr P w) a vs :=
 show ObjOk P w H h a (.dK kvs) from Zcv ok e
theorem Zfh {kvs:List (Au×V)}(ok:HOk P w H h)(e:H a=some (.dK kvs)):kvs.length<=sizeLine/\(a == sysModules)=false/\∃ vs,KV kvs vs/\h.DictOf (Cr P w) a vs:=Fh ok (.inl e)
theorem Fz {ks:List Au}(ok:HOk P w H h)(e:H a=some (.tup (ks.map kV))):(tupleKind (Cr P w)).is h ks a:=by
 obtain ⟨_,its,r,o,h1,h2,n,h3⟩:=(show ObjOk P w H h a (.tup (ks.map kV)) from ok a _ e)
 exact ⟨o,its.toArray,n,h1,h2,h3,by simpa using Zef r⟩
theorem Fy {kvs:List (List Au×V)}(ok:HOk P w H h)(e:Rd H a (.dT kvs)):kvs.length<=sizeLine/\(a == sysModules)=false /\
  ∃ xs,KT H kvs xs/\h.DictOfH (tupleKind (Cr P w)) a xs:=by
 obtain ⟨z,y,xs,r,o,es,ep,h1,h2,h3,h4,h5⟩:=(show ObjOk P w H h a (.dT kvs) from Zcv ok e)
 refine ⟨z,y,xs,r,o,es,ep,h1,h2,h3,h4,fun x hx=>?_,h5⟩
 have all:∀{l:List (List Au×V)}{m:List (List Au×Addr×Value)},KT H l m->∀ x∈m,(tupleKind (Cr P w)).is h x.1 x.2.1:=by
  intro l m q
  induction q with
  | nil=>intro x hx;exact nomatch hx
  | @cons p q ps qs hq t ih =>
   intro x hx
   rcases Ph.mp hx with e | hx
   ·subst e
    exact Fz ok (by rw [<- hq.1];exact hq.2.1)
   ·exact ih x hx
 exact all r x hx
theorem Zfs {kvs:List (List Au×V)}(ok:HOk P w H h)(e:H a=some (.dT kvs)):kvs.length<=sizeLine/\(a == sysModules)=false /\
  ∃ xs,KT H kvs xs/\h.DictOfH (tupleKind (Cr P w)) a xs:=Fy ok (.inl e)
end
noncomputable def DGet (H:Hp)(a:Addr)(y:V)(r:Option V):Prop :=
 (∃ kvs k,Rd H a (.dK kvs)/\y=kV k/\r=Bz kvs k)\/∃ kvs k b,Rd H a (.dT kvs)/\y=.ref b/\H b=some (.tup (k.map kV))/\r=Bz kvs k
noncomputable def DPut (H:Hp)(a:Addr)(y v:V)(H':Hp):Prop :=
 (∃ kvs k,H a=some (.dK kvs)/\y=kV k/\kvs.length < sizeLine/\H'=upd H a (.dK (Bm kvs k v))) \/
 ∃ kvs k b,H a=some (.dT kvs)/\y=.ref b/\H b=some (.tup (k.map kV))/\kvs.length < sizeLine/\H'=upd H a (.dT (Bm kvs k v))
theorem DGet.k {H:Hp}{a:Addr}{kvs:List (Au×V)}{k:Au}(e:H a=some (.dK kvs)):DGet H a (kV k) (Bz kvs k):=.inl ⟨kvs,k,.inl e,rfl,rfl⟩
theorem DGet.t {H:Hp}{a b:Addr}{kvs:List (List Au×V)}{k:List Au}(e:H a=some (.dT kvs))(eb:H b=some (.tup (k.map kV))):DGet H a (.ref b) (Bz kvs k):=.inr ⟨kvs,k,b,.inl e,rfl,eb,rfl⟩
theorem DPut.k {H:Hp}{a:Addr}{kvs:List (Au×V)}{k:Au}{v:V}(e:H a=some (.dK kvs))(hl:kvs.length < sizeLine):DPut H a (kV k) v (upd H a (.dK (Bm kvs k v))):=.inl ⟨kvs,k,e,rfl,hl,rfl⟩
theorem DPut.t {H:Hp}{a b:Addr}{kvs:List (List Au×V)}{k:List Au}{v:V}(e:H a=some (.dT kvs))(eb:H b=some (.tup (k.map kV)))(hl:kvs.length < sizeLine) :
  DPut H a (.ref b) v (upd H a (.dT (Bm kvs k v))):=.inr ⟨kvs,k,b,e,rfl,eb,hl,rfl⟩
section
variable {X:Cx}{pins:List (Addr×Obj)}{σ:St}{H:Hp}{s:Shared}{a:Addr}{y v:V}{u r:Value}{o:Option V}{A:Around}{E:Value->Shared->Prop}
theorem Inv.big (I:Inv X pins σ H s):sysModules < s.heap.objs.size:=by
 have h:mainGlobals < s.heap.objs.size:=(I.mod.glob.keeps I.bk).lt
 exact Nat.lt_trans (by decide) h
theorem Zk9 {Q:Value->Shared->Prop}(hu:A.units+1 < cLine)(I:Inv X pins σ H s)(g:DGet H a y (some v))(ry:RelV y u)(h:∀ w' s',Inv X pins σ H s'->RelV v w'->Q w' s') :
  wpAny (model X.prog X.w) A (getItem (.ref a) u) Q E s:=by
 rcases g with ⟨kvs,k,e,ey,l⟩ | ⟨kvs,k,b,e,ey,eb,l⟩
 ·subst ey
  obtain ⟨z,hd,vs,rel,dd⟩:=Fh I.hok e
  obtain ⟨w',hw,rw'⟩:=RelO.some_of (v:=v) (o:=valueAt vs k) (by rw [l];exact rel.val k)
  exact wpAny_getItem_of (Ft ry) dd.mapOf hw (h w' _ (I.tok _) rw')
 ·subst ey
  cases (show u=Value.ref b from ry)
  obtain ⟨z,hd,xs,rel,dd⟩:=Fy I.hok e
  obtain ⟨w',hw,rw'⟩:=RelO.some_of (v:=v) (o:=(atKey xs k).map (·.2)) (by rw [l];exact rel.val k)
  obtain ⟨p,hp,hp2⟩:=Vn.mp hw
  refine wpAny_getItem_heap (Sk hu) (Fz I.hok eb) dd hp ?_
  rw [hp2]
  exact h w' _ (I.tok _) rw'
theorem d_in {Q:Value->Shared->Prop}(hu:A.units+1 < cLine)(I:Inv X pins σ H s)(g:DGet H a y o)(ry:RelV y u)(h:∀ s',Inv X pins σ H s'->Q (.bool o.isSome) s') :
  wpAny (model X.prog X.w) A (compareOp .In u (.ref a)) Q E s:=by
 rcases g with ⟨kvs,k,e,ey,l⟩ | ⟨kvs,k,b,e,ey,eb,l⟩
 ·subst ey
  obtain ⟨z,hd,vs,rel,dd⟩:=Fh I.hok e
  refine wpAny_in_of (Ft ry) hd dd.mapOf ?_
  rw [<- (rel.val k).isSome_eq,<- l]
  exact h _ (I.tok _)
 ·subst ey
  cases (show u=Value.ref b from ry)
  obtain ⟨z,hd,xs,rel,dd⟩:=Fy I.hok e
  refine wpAny_in_heap (Sk hu) (Fz I.hok eb) hd dd ?_
  have q:=(rel.val k).isSome_eq
  rw [V5] at q
  rw [<- q,<- l]
  exact h _ (I.tok _)
theorem Zol {Q:Value->Shared->Prop}(hu:A.units+1 < cLine)(I:Inv X pins σ H s)(g:DGet H a y o)(ry:RelV y u)(h:∀ s',Inv X pins σ H s'->Q (.bool (!o.isSome)) s') :
  wpAny (model X.prog X.w) A (compareOp .NotIn u (.ref a)) Q E s:=by
 rcases g with ⟨kvs,k,e,ey,l⟩ | ⟨kvs,k,b,e,ey,eb,l⟩
 ·subst ey
  obtain ⟨z,hd,vs,rel,dd⟩:=Fh I.hok e
  refine wpAny_notIn_of (Ft ry) hd dd.mapOf ?_
  rw [<- (rel.val k).isSome_eq,<- l]
  exact h _ (I.tok _)
 ·subst ey
  cases (show u=Value.ref b from ry)
  obtain ⟨z,hd,xs,rel,dd⟩:=Fy I.hok e
  refine wpAny_notIn_heap (Sk hu) (Fz I.hok eb) hd dd ?_
  have q:=(rel.val k).isSome_eq
  rw [V5] at q
  rw [<- q,<- l]
  exact h _ (I.tok _)
theorem K8 {h':Heap}{t':Nat}{ob:HO}(I:Inv X pins σ H s)(mu:Mut (H a))(hs:Pu a s.heap h')(he:∃ q,h'.get? a=some q)(new:ObjOk X.prog X.w (upd H a ob) h' a ob) :
  Inv X pins σ (upd H a ob) { s with heap:=h',toks:=t' } :=
 I.write (x:=a) (e:=a) mu (.inl rfl) (fun b q hb z=>(hs.2 b hb).trans z) he new
theorem N1 {P:Program}{w:World}{H':Hp}{h':Heap}{kvs:List (Au×V)}{vs:List (Au×Value)}(z:kvs.length<=sizeLine)(hd:(a == sysModules)=false)(rel:KV kvs vs)(dd:h'.DictOf (Cr P w) a vs) :
  ObjOk P w H' h' a (.dK kvs):=⟨z,hd,vs,rel,dd⟩
theorem Zgm {H':Hp}{Q:Unit->Shared->Prop}(hu:A.units+1 < cLine)(I:Inv X pins σ H s)(g:DPut H a y v H')(ry:RelV y u)(rv:RelV v r)(h:∀ s',Inv X pins σ H' s'->Q () s') :
  wpAny (model X.prog X.w) A (setItem (.ref a) u r) Q E s:=by
 rcases g with ⟨kvs,k,e,ey,l,eH⟩ | ⟨kvs,k,b,e,ey,eb,l,eH⟩
 ·subst ey eH
  obtain ⟨z,hd,vs,rel,dd⟩:=Zfh I.hok e
  have hz:vs.length<=sizeLine:=by rw [<- rel.length];exact z
  have hl:(Bm kvs k v).length<=sizeLine:=by have:=Ej kvs k v;omega
  refine wpAny_setItem_pairs (hsz:=hz) (Ft ry) dd fun h' dd' hs=>h _ ?_
  have he:∃ q,h'.get? a=some q:=let ⟨q,_,_,hq,_⟩:=dd';⟨q,hq⟩
  exact K8 I (by rw [e];exact True.intro) hs he (N1 hl hd (rel.put k rv) dd')
 ·subst ey eH
  cases (show u=Value.ref b from ry)
  obtain ⟨z,hd,xs,rel,dd⟩:=Zfs I.hok e
  have hz:xs.length<=sizeLine:=by rw [<- T8 rel];exact z
  have hl:(Bm kvs k v).length<=sizeLine:=by have:=Ej kvs k v;omega
  refine wpAny_setItem_heap (hsz:=hz) (Sk hu) (Fz I.hok eb) dd fun h' dd' hs=>h _ ?_
  obtain ⟨q,es,ep,hq,h2,h3,h4,_,h5⟩:=dd'
  refine K8 I (by rw [e];exact True.intro) hs ⟨q,hq⟩ ⟨hl,hd,_,(rel.put k eb rv).keeps fun c ys ec=>?_,q,es,ep,hq,h2,h3,h4,h5⟩
  rw [Ai (Eu ec e (fun z=>nomatch z))]
  exact ec
end
section
variable {X:Cx}{pins:List (Addr×Obj)}{σ:St}{H:Hp}{s:Shared}{a:Addr}{kvs:List (Au×V)}{k:Au}{u:Value}{A:Around}{E:Value->Shared->Prop}
end
noncomputable def M5 (i:Expr):Prop:=∀ ov iv,subscripted i false ov iv=operate [ov,iv] (getItem ov iv)
theorem Zjs {prog:Program}{w:World}{A:Around}{E:Value->Shared->Prop}{s:Shared}{env:Env}{value slice:Expr}{pos:Pos}{T id:String}{Q:Value->Shared->Prop}
  (hl:typeLookup (.type T) "__getitem__" = pure (some (.builtin id))) (hs:M5 slice)
  (h:wpAny (model prog w) A (eval value env) (fun o s₁=>wpAny (model prog w) A (eval slice env) (fun i s₂=>s₂.TypeIs o T/\wpAny (model prog w) A (getItem o i) Q E s₂) E s₁) E s) :
  wpAny (model prog w) A (eval (.Subscript value slice pos) env) Q E s:=by
 refine Subscript_ (Sy h (fun o s₁ h₁=>Sy h₁ (fun i s₂ h₂=>?_) fun _ _ x=>x) fun _ _ x=>x)
 obtain ⟨hT,h₂⟩:=h₂
 unfold subscriptTail
 refine Pa ?_
 rw [getitemInPython_of_ne hT.not_modules]
 refine Pa (Tz hT hl ?_)
 have fin:wpAny (model prog w) A (subscripted slice false o i) (fun r s₃=>wpAny (model prog w) A (letTemporaryGo value o r >>= fun _=>pure r) Q E s₃) E s₂:=by
  rw [hs o i]
  exact wpAny_operating (Sy h₂ (fun r s₃ h₃=>Pa (wpAny_letTemporaryGo (Pd h₃))) fun _ _ x=>x)
 first
  | exact Pd (Pa fin)
  | exact Pa (Pd (Pa fin))
  | exact Pa fin
theorem Zn5 {X:Cx}{pins:List (Addr×Obj)}{σ:St}{H:Hp}{s:Shared}{a:Addr}{y:V}{o:Option V}(I:Inv X pins σ H s)(g:DGet H a y o):s.TypeIs (.ref a) "dict" := by
 rcases g with ⟨kvs,k,e,_,_⟩ | ⟨kvs,k,b,e,_,_,_⟩
 ·obtain ⟨_,_,vs,_,dd⟩:=Fh I.hok e
  exact dd.typeIs
 ·obtain ⟨_,_,xs,_,dd⟩:=Fy I.hok e
  exact dd.typeIs
noncomputable def Mj (td ty:TE):TE:=fun σ H Q=>td σ H fun x H1=>ty σ H1 fun y H2=>∃ a v,x=.ref a/\DGet H2 a y (some v)/\Q v H2
noncomputable def Od (ty td:TE):TE:=fun σ H Q=>ty σ H fun y H1=>td σ H1 fun x H2=>∃ a o,x=.ref a/\DGet H2 a y o/\Q (.bl o.isSome) H2
noncomputable def N3 (ty td:TE):TE:=fun σ H Q=>ty σ H fun y H1=>td σ H1 fun x H2=>∃ a o,x=.ref a/\DGet H2 a y o/\Q (.bl (!o.isSome)) H2
noncomputable def Zah (td ty tv:TE):TS:=fun D σ H=>tv σ H fun v H1=>td σ H1 fun x H2=>ty σ H2 fun y H3=>∃ a H4,x=.ref a/\DPut H3 a y v H4/\D.nx σ H4
section
variable {X:Cx}{o i e value:Expr}{pos pos' tpos:Pos}{td ty tv:TE}
theorem Zk3 (hu:X.A.units+1 < cLine)(ho:PE X o td)(hi:PE X i ty)(hs:M5 i):PE X (.Subscript o i pos) (Mj td ty):=by
 intro pins s σ H Q I h
 refine Zjs PySem.F.slot_dict_getitem.lookup hs (Ak (ho pins s σ H _ I h) fun u s1 zq=>?_)
 obtain ⟨x,H1,I1,rx,q1⟩:=zq
 refine Ak (hi pins s1 σ H1 _ I1 q1) fun iv s2 zq=>?_
 obtain ⟨y,H2,I2,ry,a,v,ex,g,q2⟩:=zq
 subst ex
 obtain rfl:u=Value.ref a:=rx
 exact ⟨Zn5 I2 g,Zk9 hu I2 g ry fun w' s3 I3 rw'=>⟨v,H2,I3,rw',q2⟩⟩
theorem Zqt (hu:X.A.units+1 < cLine)(hi:PE X i ty)(ho:PE X o td):PC X .In i o (Od ty td):=by
 intro pins s σ H Q I h
 refine Ak (hi pins s σ H _ I h) fun iv s1 zq=>?_
 obtain ⟨y,H1,I1,ry,q1⟩:=zq
 refine Ak (ho pins s1 σ H1 _ I1 q1) fun u s2 zq=>?_
 obtain ⟨x,H2,I2,rx,a,ov,ex,g,q2⟩:=zq
 subst ex
 obtain rfl:u=Value.ref a:=rx
 exact d_in hu I2 g ry fun s3 I3=>⟨.bl ov.isSome,H2,I3,rfl,q2⟩
theorem Zil (hu:X.A.units+1 < cLine)(hi:PE X i ty)(ho:PE X o td):PC X .NotIn i o (N3 ty td):=by
 intro pins s σ H Q I h
 refine Ak (hi pins s σ H _ I h) fun iv s1 zq=>?_
 obtain ⟨y,H1,I1,ry,q1⟩:=zq
 refine Ak (ho pins s1 σ H1 _ I1 q1) fun u s2 zq=>?_
 obtain ⟨x,H2,I2,rx,a,ov,ex,g,q2⟩:=zq
 subst ex
 obtain rfl:u=Value.ref a:=rx
 exact Zol hu I2 g ry fun s3 I3=>⟨.bl (!ov.isSome),H2,I3,rfl,q2⟩
theorem Zjd (hu:X.A.units+1 < cLine)(ho:PE X o td)(hi:PE X i ty)(hv:PE X value tv)(hs:swapsWith value (some (.Subscript o i pos')) pos.line X.env=pure false) :
  PS X (.Assign [.Subscript o i pos'] value pos) (Zah td ty tv):=by
 intro pins s σ H D I h
 refine wpAny_Assign_Subscript (Ak (hv pins s σ H _ I h) fun r s1 zq=>?_) hs
 obtain ⟨v,H1,I1,rv,q1⟩:=zq
 refine Ak (ho pins s1 σ H1 _ I1 q1) fun u s2 zq=>?_
 obtain ⟨x,H2,I2,rx,q2⟩:=zq
 refine Ak (hi pins s2 σ H2 _ I2 q2) fun iv s3 zq=>?_
 obtain ⟨y,H3,I3,ry,a,H4,ex,g,q3⟩:=zq
 subst ex
 obtain rfl:u=Value.ref a:=rx
 exact Zgm hu I3 g ry rv fun s4 I4=>⟨σ,H4,I4,q3⟩
end
theorem Zoq {P:Program}{w:World}{H:Hp}(h:Heap)(hb:sysModules < h.objs.size):ObjOk P w H (h.push { cls:=.type "dict",data:=.dict #[] }) h.objs.size (.dK []) :=
 ⟨P6 _,beq_eq_false_iff_ne.mpr (P9 (Pr hb)),[],.nil,Heap.DictOf.new h⟩
theorem Zel {P:Program}{w:World}{H:Hp}(h:Heap)(hb:sysModules < h.objs.size):ObjOk P w H (h.push { cls:=.type "dict",data:=.dict #[] }) h.objs.size (.dT []) :=
 ⟨P6 _,beq_eq_false_iff_ne.mpr (P9 (Pr hb)),[],.nil,_,#[],0,P0 _ rfl,⟨rfl,rfl,rfl⟩,rfl,rfl,List.nodup_nil⟩
noncomputable def Zc3:TE:=fun _ H Q=>∀ p,H p=none->Q (.ref p) (upd H p (.dK []))
noncomputable def Zf5:TE:=fun _ H Q=>∀ p,H p=none->Q (.ref p) (upd H p (.dT []))
section
variable {X:Cx}{pos:Pos}
theorem Zmw:PE X (.Dict [] [] pos) Zc3:=fun pins s σ H Q I h =>
 wpAny_Dict_empty ⟨.ref s.heap.objs.size,_,I.laid (a:=s.heap.objs.size) (o:=.dK []) (t':=s.toks) (fun _ _ q=>Pk _ q) (Pc _) (Zoq s.heap I.big),rfl,h _ (I.hok.fresh (Pc _))⟩
theorem Zn6:PE X (.Dict [] [] pos) Zf5:=fun pins s σ H Q I h =>
 wpAny_Dict_empty ⟨.ref s.heap.objs.size,_,I.laid (a:=s.heap.objs.size) (o:=.dT []) (t':=s.toks) (fun _ _ q=>Pk _ q) (Pc _) (Zel s.heap I.big),rfl,h _ (I.hok.fresh (Pc _))⟩
end
structure M1 (X:Cx)(o:Expr)(m:Str)(apos:Pos)(e:Expr)(cpos:Pos):Prop where
 base:attributeBase o m X.env (eval o X.env)=eval o X.env
 few:((backTo cpos (starEach [e] X.env)).all (fun x=>!x.1) && (backToKw cpos (keywordEach [] X.env)).all (fun x=>x.1.isSome)
  && decide (([e]:List Expr).length+([]:List Keyword).length+(if ([]:List Keyword).isEmpty then 0 else 1) < 30))=true
 line:(apos.endLine == cpos.line)=true
 trees:backTo cpos (starEach [e] X.env)=[(false,eval e X.env)]
structure M2 (X:Cx)(o:Expr)(m:Str)(apos:Pos)(e f:Expr)(cpos:Pos):Prop where
 base:attributeBase o m X.env (eval o X.env)=eval o X.env
 few:((backTo cpos (starEach [e,f] X.env)).all (fun x=>!x.1) && (backToKw cpos (keywordEach [] X.env)).all (fun x=>x.1.isSome)
  && decide (([e,f]:List Expr).length+([]:List Keyword).length+(if ([]:List Keyword).isEmpty then 0 else 1) < 30))=true
 line:(apos.endLine == cpos.line)=true
 trees:backTo cpos (starEach [e,f] X.env)=[(false,eval e X.env),(false,eval f X.env)]
noncomputable def DcD (H:Hp)(a:Addr):Prop:=(∃ kvs,Rd H a (.dK kvs))\/∃ kvs,Rd H a (.dT kvs)
theorem Zfl {X:Cx}{pins:List (Addr×Obj)}{σ:St}{H:Hp}{s:Shared}{a:Addr}(I:Inv X pins σ H s)(d:DcD H a) :
  s.TypeIs (.ref a) "dict" /\ (∀ b,Value.ref a=.ref b->∃ ob,s.heap.get? b=some ob/\ob.dict=none)/\(a == sysModules)=false:=by
 rcases d with ⟨kvs,e⟩ | ⟨kvs,e⟩
 ·obtain ⟨_,hd,vs,_,dd⟩:=Fh I.hok e
  refine ⟨dd.typeIs,fun b q=>?_,hd⟩
  cases q
  obtain ⟨ob,_,_,h1,h2,_⟩:=dd
  exact ⟨ob,h1,h2.2.1⟩
 ·obtain ⟨_,hd,xs,_,dd⟩:=Fy I.hok e
  refine ⟨dd.typeIs,fun b q=>?_,hd⟩
  cases q
  obtain ⟨ob,_,_,h1,h2,_⟩:=dd
  exact ⟨ob,h1,h2.2.1⟩
section
variable {X:Cx}{pins:List (Addr×Obj)}{σ:St}{H:Hp}{s:Shared}{a:Addr}{y d:V}{u r:Value}{o:Option V}{A:Around}{E:Value->Shared->Prop}
theorem Zho {Q:Value->Shared->Prop}(hu:A.units+1 < cLine)(I:Inv X pins σ H s)(g:DGet H a y o)(ry:RelV y u)(h:∀ w' s',Inv X pins σ H s'->RelV (o.getD .non) w'->Q w' s') :
  wpAny (model X.prog X.w) A (call (.builtin "dict.get") [.ref a,u]) Q E s:=by
 rcases g with ⟨kvs,k,e,ey,l⟩ | ⟨kvs,k,b,e,ey,eb,l⟩
 ·subst ey
  obtain ⟨z,hd,vs,rel,dd⟩:=Fh I.hok e
  refine Vg Sg dd.typeIs Us (PySem.F.args_dict_get_2 _ _) (meets_dict_get (Cr X.prog X.w) a (Ft ry) hd) ⟨_,dd.mapOf,h _ _ (I.tok _) ?_⟩
  rw [l]
  exact (rel.val k).getD rfl
 ·subst ey
  cases (show u=Value.ref b from ry)
  obtain ⟨z,hd,xs,rel,dd⟩:=Fy I.hok e
  refine Vg Sg dd.typeIs Us (PySem.F.args_dict_get_2 _ _) (meetsH_dict_get (tupleKind (Cr X.prog X.w)) a b hd) ⟨Sk hu,k,xs,Fz I.hok eb,dd,h _ _ (I.tok _) ?_⟩
  rw [l]
  exact (rel.val k).getD rfl
theorem Zhx {Q:Value->Shared->Prop}(hu:A.units+1 < cLine)(I:Inv X pins σ H s)(g:DGet H a y o)(ry:RelV y u)(rd:RelV d r)(h:∀ w' s',Inv X pins σ H s'->RelV (o.getD d) w'->Q w' s') :
  wpAny (model X.prog X.w) A (call (.builtin "dict.get") [.ref a,u,r]) Q E s:=by
 rcases g with ⟨kvs,k,e,ey,l⟩ | ⟨kvs,k,b,e,ey,eb,l⟩
 ·subst ey
  obtain ⟨z,hd,vs,rel,dd⟩:=Fh I.hok e
  refine Vg Sg dd.typeIs Us (PySem.F.args_dict_get_3 _ _ _) (meets_dict_get_default (Cr X.prog X.w) a (Ft ry) hd r) ⟨_,dd.mapOf,h _ _ (I.tok _) ?_⟩
  rw [l]
  exact (rel.val k).getD rd
 ·subst ey
  cases (show u=Value.ref b from ry)
  obtain ⟨z,hd,xs,rel,dd⟩:=Fy I.hok e
  refine Vg Sg dd.typeIs Us (PySem.F.args_dict_get_3 _ _ _) (meetsH_dict_get_default (tupleKind (Cr X.prog X.w)) a b hd r) ⟨Sk hu,k,xs,Fz I.hok eb,dd,h _ _ (I.tok _) ?_⟩
  rw [l]
  exact (rel.val k).getD rd
end
noncomputable def Nr (td ty:TE):TE:=fun σ H Q=>td σ H fun x H1=>∃ a,x=.ref a/\DcD H1 a/\ty σ H1 fun y H2=>∃ o,DGet H2 a y o/\Q (o.getD .non) H2
noncomputable def Zax (td ty tx:TE):TE:=fun σ H Q=>td σ H fun x H1=>∃ a,x=.ref a/\DcD H1 a/\ty σ H1 fun y H2=>tx σ H2 fun z H3=>∃ o,DGet H3 a y o/\Q (o.getD z) H3
section
variable {X:Cx}{o e f:Expr}{apos cpos:Pos}{td ty tx:TE}
theorem Zji (hu:X.A.units+1 < cLine)(ho:PE X o td)(he:PE X e ty)(m:M1 X o "get" apos e cpos):PE X (.Call (.Attribute o "get" apos) [e] [] cpos) (Nr td ty):=by
 intro pins s σ H Q I h
 refine wpAny_Call_method m.base m.few m.line PySem.F.plainAttrs_dict Sg PySem.F.type_dict_get (Ak (ho pins s σ H _ I h) fun u s1 zq=>?_)
 obtain ⟨x,H1,I1,rx,a,ex,d,q1⟩:=zq
 subst ex
 obtain rfl:u=Value.ref a:=rx
 obtain ⟨t1,t2,_⟩:=Zfl I1 d
 refine ⟨t1,t2,?_⟩
 rw [m.trees]
 refine Uq rfl (Vo (R3 (Ak (he pins s1 σ H1 _ I1 q1) fun iv s2 zq=>?_)))
 obtain ⟨y,H2,I2,ry,ov,g,q2⟩:=zq
 refine Sl ?_
 exact Zho hu I2 g ry fun w' s3 I3 rw'=>⟨_,H2,I3,rw',q2⟩
theorem Zi2 (hu:X.A.units+1 < cLine)(ho:PE X o td)(he:PE X e ty)(hf:PE X f tx)(m:M2 X o "get" apos e f cpos):PE X (.Call (.Attribute o "get" apos) [e,f] [] cpos) (Zax td ty tx):=by
 intro pins s σ H Q I h
 refine wpAny_Call_method m.base m.few m.line PySem.F.plainAttrs_dict Sg PySem.F.type_dict_get (Ak (ho pins s σ H _ I h) fun u s1 zq=>?_)
 obtain ⟨x,H1,I1,rx,a,ex,d,q1⟩:=zq
 subst ex
 obtain rfl:u=Value.ref a:=rx
 obtain ⟨t1,t2,_⟩:=Zfl I1 d
 refine ⟨t1,t2,?_⟩
 rw [m.trees]
 refine Uq rfl (Vo (R3 (Ak (he pins s1 σ H1 _ I1 q1) fun iv s2 ⟨y,H2,I2,ry,q2⟩ =>
  R3 (Ak (hf pins s2 σ H2 _ I2 q2) fun fv s3 ⟨z,H3,I3,rz,ov,g,q3⟩=>Sl ?_))))
 exact Zhx hu I3 g ry rz fun w' s4 I4 rw'=>⟨_,H3,I4,rw',q3⟩
end
section
variable {X:Cx}{pins:List (Addr×Obj)}{σ:St}{H:Hp}{s:Shared}{a:Addr}{kvs:List (Au×V)}{A:Around}{E:Value->Shared->Prop}
theorem Zpg {Q:Value->Shared->Prop}(I:Inv X pins σ H s)(e:Rd H a (.dK kvs))(h:∀ p s',H p=none->Inv X pins σ (upd H p (.dK kvs)) s'->Q (.ref p) s'):wpAny (model X.prog X.w) A (call (.type "dict") [.ref a]) Q E s:=by
 obtain ⟨z,hd,vs,rel,dd⟩:=Fh I.hok e
 refine kt_call_dict hd dd (by rw [<- rel.length];exact z) fun h' dd' hs=>?_
 refine h _ _ (I.hok.fresh (Pc _)) (I.laid (a:=s.heap.objs.size) (o:=.dK kvs) (t':=s.toks) (fun b q hq=>?_) (Pc _) (N1 z (beq_eq_false_iff_ne.mpr (P9 (Pr I.big))) rel dd'))
 exact (hs.2 b (Pr (Pi hq))).trans (Pk _ hq)
end
section
variable {X:Cx}{pins:List (Addr×Obj)}{σ:St}{H:Hp}{s:Shared}{a:Addr}{y:V}{u:Value}{A:Around}{E:Value->Shared->Prop}
end
end L2
namespace PySem
namespace F
end F
end PySem
namespace L2
open PySem PySem.Spec PyProof.Rows
section
variable {X:Cx}{pins:List (Addr×Obj)}{σ:St}{H:Hp}{s:Shared}{a:Addr}{y v:V}{u r:Value}{A:Around}{E:Value->Shared->Prop}
theorem Zng {H':Hp}{Q:Unit->Shared->Prop}(hu:A.units < cLine)(I:Inv X pins σ H s)(g:DPut H a y v H')(ry:RelV y u)(rv:RelV v r)(h:∀ s',Inv X pins σ H' s'->Pu a s.heap s'.heap->Q () s') :
  wpAny (model X.prog X.w) A (dictSet a u r) Q E s:=by
 rcases g with ⟨kvs,k,e,ey,l,eH⟩ | ⟨kvs,k,b,e,ey,eb,l,eH⟩
 ·subst ey eH
  obtain ⟨z,hd,vs,rel,dd⟩:=Zfh I.hok e
  have hz:vs.length<=sizeLine:=by rw [<- rel.length];exact z
  have hl:(Bm kvs k v).length<=sizeLine:=by have:=Ej kvs k v;omega
  refine wpAny_dictSet_pairs (hsz:=hz) (Ft ry) dd fun h' dd' hs=>h _ ?_ hs
  have he:∃ q,h'.get? a=some q:=let ⟨q,_,_,hq,_⟩:=dd';⟨q,hq⟩
  exact K8 I (by rw [e];exact True.intro) hs he (N1 hl hd (rel.put k rv) dd')
 ·subst ey eH
  cases (show u=Value.ref b from ry)
  obtain ⟨z,hd,xs,rel,dd⟩:=Zfs I.hok e
  have hz:xs.length<=sizeLine:=by rw [<- T8 rel];exact z
  have hl:(Bm kvs k v).length<=sizeLine:=by have:=Ej kvs k v;omega
  refine wpAny_dictSet_heap (hsz:=hz) hu (Fz I.hok eb) dd fun h' dd' hs=>h _ ?_ hs
  obtain ⟨q,es,ep,hq,h2,h3,h4,_,h5⟩:=dd'
  refine K8 I (by rw [e];exact True.intro) hs ⟨q,hq⟩ ⟨hl,hd,_,(rel.put k eb rv).keeps fun c ys ec=>?_,q,es,ep,hq,h2,h3,h4,h5⟩
  rw [Ai (Eu ec e (fun z=>nomatch z))]
  exact ec
end
theorem Room.u1 {k:Nat}{A:Around}(r:Room k A):A.units+1 < cLine:=by have:=r.u200;omega
section
variable {X:Cx}{k:Nat}{x m f:Str}{ps:List Str}{sp:Sp}{E:XK}{C:Addr}{p pos pos' tpos apos:Pos}{e o i value:Expr}{es:List Expr}{ta tv td ty:TE}{t:TA}{CX:Dp}{P:Program}{w:World}{mg:Str->Option Value}{base:Heap}{K:O9}
theorem Lz (hu:X.A.units+1 < cLine)(ho:QE X o td)(hi:QE X i ty)(hs:M5 i):QE X (.Subscript o i pos) (Mj td ty):=⟨Zk3 hu ho.run hi.run hs⟩
theorem Zfd (hu:X.A.units+1 < cLine)(hi:QE X i ty)(ho:QE X o td):QC X .In i o (Od ty td):=⟨Zqt hu hi.run ho.run⟩
noncomputable def O8 (K:O9):R2:=fun x y H Q=>Gr K x y H Q\/∃(a b:Addr)(xs ys:List V),x=.ref a/\y=.ref b/\H a=some (.tup xs)/\H b=some (.tup ys)/\xs.length+ys.length<=sizeLine/\∀ p H',Same H H'->H' p=some (.tup (xs++ys))->Q (.ref p) H'
theorem Zk5:OpR X (binaryOp .Add) (O8 X.K):=by
 refine op_addA.or ?_
 intro pins s σ H x y v u Q I rx ry h
 obtain ⟨a,b,xs,ys,rfl,rfl,ha,hb,hz,q⟩:=h
 have ha':SqT X.K H a xs:=SqT.of ha
 have hb':SqT X.K H b ys:=SqT.of hb
 by_cases hx:xs=[]
 ·subst hx
  cases rx
  cases ry
  obtain ⟨its,r1,p1,_⟩:=I.tuple ha'
  obtain ⟨its2,r2,p2,_⟩:=I.tuple hb'
  cases r1
  obtain ⟨⟨cls,dd,data,sl⟩,ho,hc,n,hd⟩:=id p1
  obtain ⟨⟨cls2,dd2,data2,sl2⟩,ho2,hc2,n2,hd2⟩:=id p2
  simp only at hc hd hc2 hd2
  subst hc hd hc2 hd2
  exact U9 ⟨_,ho,rfl⟩ ⟨_,ho2,rfl⟩ Uv U3 Up Ul (Uj _ _)
   (tuple_addW0 a b _ _ n n2 dd dd2 sl sl2 (by simp)) ⟨ho,ho2,⟨.ref b,H,I,rfl,q b H (Same.refl H) hb⟩⟩
 ·refine Zcx pins s σ H _ _ v u Q I rx ry ⟨a,b,xs,ys,rfl,rfl,ha',hb',hx,hz,fun e=>?_,fun _ p hp=>q p _ (fun c o e=>by rw [Ai (Ax e hp)];exact e) Ad⟩
  subst e
  exact q a H (Same.refl H) (by rw [Qc];exact ha)
theorem Nv (K:O9)(hK:X.K=K:=by rfl):OpR X (binaryOp .Add) (O8 K):=by subst hK;exact Zk5
theorem Zks {a b:Addr}{xs ys:List V}{H:Hp}{Q:VK}(ha:H a=some (.tup xs))(hb:H b=some (.tup ys))(hz:xs.length+ys.length<=sizeLine)(h:∀ p H',Same H H'->H' p=some (.tup (xs++ys))->Q (.ref p) H'):O8 K (.ref a) (.ref b) H Q:=.inr ⟨a,b,xs,ys,rfl,rfl,ha,hb,hz,h⟩
theorem s_dget {td ty:TE}{σ:St}{H:Hp}{Q:VK}(h:td σ H fun x H1=>ty σ H1 fun y H2=>∃ a v,x=.ref a/\DGet H2 a y (some v)/\Q v H2):Mj td ty σ H Q:=h
theorem s_din {td ty:TE}{σ:St}{H:Hp}{Q:VK}(h:ty σ H fun y H1=>td σ H1 fun x H2=>∃ a o,x=.ref a/\DGet H2 a y o/\Q (.bl o.isSome) H2):Od ty td σ H Q:=h
end
end L2
namespace L2
open PySem
noncomputable def RowT (K:O9)(H:Hp)(v:V)(x:List Nat×Tr):Prop:=∃(a p:Addr)(u:V),v=.ref a/\SqT K H a [.ref p,u]/\H p=some (.tup (Ba x.1))/\TrAt K H u x.2
theorem RowT.same {K:O9}{H H':Hp}(e:SameT H H')(v:V)(x:List Nat×Tr)(h:RowT K H v x):RowT K H' v x:=by
 obtain ⟨a,p,u,r,q,qp,t⟩:=h
 exact ⟨a,p,u,r,e.tup q,(e p).1 _ qp,t.sameT e⟩
noncomputable def B2 (pl:List Nat):List Au:=pl.map fun i:Nat=>Sum.inl ((i:Nat):Int)
theorem Mo (pl:List Nat):(B2 pl).map kV=Ba pl:=by unfold B2 Ba;rw [Vh];rfl
section
variable {K:O9}{HB H H':Hp}{C:Addr}{kvs:List (List Au×V)}{L:Ml}{S:MS}
end
section
variable {g:TG}{tt:TT}{te:TE}{σ0:St}{H1:Hp}{D:Addr}{Q:VK}
theorem Zp7 {K:O9}{a:Addr}{xs:List V}(Pv:Nat->List V->St->Hp->Prop)(h0:Pv 0 [] σ0 (upd H1 D (.lst [])))(hl:∀ i ys σ H,i<=xs.length->Pv i ys σ H->SqT K H a xs)
  (hs:∀ i x ys σ H,xs[i]?=some x->H D=some (.lst ys)->Pv i ys σ H->Kl g tt te D (Pv (i+1)) x σ H)
  (hd:∀ ys σ H,H D=some (.lst ys)->Pv xs.length ys σ H->Q (.ref D) H):Ja (Go K a) g tt te σ0 H1 D Q:=by
 refine ⟨fun i m σ H=>m=xs.length - i/\i<=xs.length/\∃ ys,H D=some (.lst ys)/\Pv i ys σ H,⟨xs.length,by simp,P6 _,[],Ad,h0⟩,?_⟩
 rintro i m σ H ⟨rfl,hi,ys,hD,p⟩
 have q:=hl i ys σ H hi p
 by_cases hlt:i < xs.length
 ·refine .inr ⟨⟨xs,xs[i],q,by simp [hlt]⟩,fun σ2 H2=>∃ zs,H2 D=some (.lst zs)/\Pv (i+1) zs σ2 H2,fun σ' H' p'=>⟨xs.length - (i+1),by omega,rfl,hlt,p'⟩,fun x H' y=>?_⟩
  obtain ⟨e,y⟩:=y
  subst e
  exact hs i x ys σ _ (y xs q) hD p
 ·have e:i=xs.length:=by omega
  subst e
  exact .inl ⟨⟨xs,q,Pc _⟩,hd ys σ H hD p⟩
end
theorem Zlr {a b:List Nat}(h:B2 a=B2 b):a=b:=by
 unfold B2 at h
 induction a generalizing b with
 | nil=>cases b with
  | nil=>rfl
  | cons y r=>simp at h
 | cons x l ih=>cases b with
  | nil=>simp at h
  | cons y r =>
   simp only [Qg,List.cons.injEq] at h
   have h1:x=y:=by have:=Sum.inl.inj h.1;omega
   rw [h1,ih h.2]
end L2
namespace L2
open PySem PySem.Spec PyProof.Rows
section
variable {X:Cx}
end
end L2
namespace L2
open PySem PySem.Spec PySem.Calls PySem.W PyProof.Rows
section
variable {X:Cx}
end
end L2
namespace L2
open PySem PySem.Spec PyProof.Rows
section
variable {X:Cx}{c n:Str}{np hpos pos:Pos}{body hbody:List Stmt}{b₀:Stmt}{tb:TXS}{th:TS}{i:Nat}{C:Addr}
end
noncomputable def Zgi (tk tv:TE):TE:=fun σ H Q=>∀ p,H p=none->tk σ (upd H p (.dT [])) fun x H1=>tv σ H1 fun y H2=>∃ H3,DPut H2 p x y H3/\Q (.ref p) H3
section
variable {X:Cx}{o i e f k v value:Expr}{pos pos' apos cpos:Pos}{td ty tx tk tv:TE}
theorem Zqb (hu:X.A.units+1 < cLine)(hk:PE X k tk)(hv:PE X v tv):PE X (.Dict [some k] [v] pos) (Zgi tk tv):=by
 intro pins s σ H Q I q
 have hn:=I.hok.fresh (Pc s.heap.objs.size)
 have I1:=I.laid (a:=s.heap.objs.size) (o:=.dT []) (h':=s.heap.push { cls:=.type "dict",data:=.dict #[] }) (t':=s.toks) (fun _ _ q=>Pk _ q) (Pc _) (Zel s.heap I.big)
 show wpAny _ _ (eval (.Dict [some k] [v] pos) X.env) _ _ s
 rw [arm_eval_Dict,zip_pairTrees [some k] [v] X.env pos rfl rfl,dictDisplay_pairs _ (by simp [pairTrees]) (by simp [pairTrees])]
 refine Pa (T9 (Pa ?_))
 unfold subDict
 refine Pa (wpAny_alloc ?_)
 refine Pa (Q0 ?_)
 rw [if_pos (by simp [pairTrees])]
 refine Pa (pairTrees_cons_walk (Ak (hk pins _ σ _ _ I1 (q _ hn)) fun kv s1 zq=>?_))
 obtain ⟨x,H1,I2,rx,q1⟩:=zq
 refine Ak (hv pins s1 σ H1 _ I2 q1) fun vv s2 zq=>?_
 obtain ⟨y,H2,I3,ry,H3,g,q2⟩:=zq
 refine pairTrees_nil_walk ?_
 refine Q0 ?_
 rw [So]
 refine Pa (Pa (Pa (Zng (by omega) I3 g rx ry fun s4 I4 _=>Pd ?_)))
 dsimp only
 rw [T6]
 exact Pd (Pd (Pd (Pd ⟨.ref s.heap.objs.size,H3,I4,rfl,q2⟩)))
theorem Zkq (hu:X.A.units+1 < cLine)(hk:QE X k tk)(hv:QE X v tv):QE X (.Dict [some k] [v] pos) (Zgi tk tv):=⟨Zqb hu hk.run hv.run⟩
theorem N9:QE X (.Dict [] [] pos) Zc3:=⟨Zmw⟩
theorem Zp4:QE X (.Dict [] [] pos) Zf5:=⟨Zn6⟩
theorem Zj1 (hu:X.A.units+1 < cLine)(hi:QE X i ty)(ho:QE X o td):QC X .NotIn i o (N3 ty td):=⟨Zil hu hi.run ho.run⟩
theorem Gk (hu:X.A.units+1 < cLine)(ho:QE X o td)(hi:QE X i ty)(hv:QE X value tv)(hs:swapsWith value (some (.Subscript o i pos')) pos.line X.env=pure false:=by rfl):QS X (.Assign [.Subscript o i pos'] value pos) (Zah td ty tv):=⟨Zjd hu ho.run hi.run hv.run hs⟩
theorem Zmz (hu:X.A.units+1 < cLine)(ho:QE X o td)(he:QE X e ty)(h1:attributeBase o "get" X.env (eval o X.env)=eval o X.env:=by rfl)(h2:((backTo cpos (starEach [e] X.env)).all (fun x=>!x.1) && (backToKw cpos (keywordEach [] X.env)).all (fun x=>x.1.isSome) && decide (([e]:List Expr).length+([]:List Keyword).length+(if ([]:List Keyword).isEmpty then 0 else 1) < 30))=true:=by rfl)(h3:(apos.endLine == cpos.line)=true:=by rfl)(h4:backTo cpos (starEach [e] X.env)=[(false,eval e X.env)]:=by rfl):QE X (.Call (.Attribute o "get" apos) [e] [] cpos) (Nr td ty):=⟨Zji hu ho.run he.run ⟨h1,h2,h3,h4⟩⟩
theorem Ze5 (hu:X.A.units+1 < cLine)(ho:QE X o td)(he:QE X e ty)(hf:QE X f tx)(h1:attributeBase o "get" X.env (eval o X.env)=eval o X.env:=by rfl)(h2:((backTo cpos (starEach [e,f] X.env)).all (fun x=>!x.1) && (backToKw cpos (keywordEach [] X.env)).all (fun x=>x.1.isSome) && decide (([e,f]:List Expr).length+([]:List Keyword).length+(if ([]:List Keyword).isEmpty then 0 else 1) < 30))=true:=by rfl)(h3:(apos.endLine == cpos.line)=true:=by rfl)(h4:backTo cpos (starEach [e,f] X.env)=[(false,eval e X.env),(false,eval f X.env)]:=by rfl):QE X (.Call (.Attribute o "get" apos) [e,f] [] cpos) (Zax td ty tx):=⟨Zi2 hu ho.run he.run hf.run ⟨h1,h2,h3,h4⟩⟩
end
noncomputable def Zqw:List V->Hp->VK->Prop:=fun xs H Q=>∃ a kvs,xs=[.ref a]/\H a=some (.dK kvs)/\∀ p,H p=none->Q (.ref p) (upd H p (.dK kvs))
theorem Zpd {X:Cx}:C3 X (.type "dict") Zqw:=by
 intro pins s σ H xs us Q I r h
 obtain ⟨a,kvs,rfl,e,q⟩:=h
 obtain ⟨u,rfl,ru⟩:=r.one
 obtain rfl:u=Value.ref a:=ru
 exact Zpg I (.inl e) fun p s' hp I'=>⟨.ref p,_,I',rfl,q p hp⟩
theorem Za1 {X:Cx}{pos:Pos}{i j:Nat}{x y:Str}{a b:Expr}{ta:TA}{px py pt:Pos}{kt k2 pt2}(hc:X.calm=true)(hN:X.N.Nodup)(hi:X.N[i]?=some x)(hj:X.N[j]?=some y)(hij:i≠j)
  (hx:X.env.scope.names.lookup x=some .local) (hy:X.env.scope.names.lookup y=some .local) (ha:QA X [a,b] ta)
  (hw:swappedStores [.Tuple [.Name x px,.Name y py] kt pt] (.Tuple [a,b] k2 pt2) X.env=pure (some [x,y]):=by rfl)
  (hs:swapsWithSole [.Tuple [.Name x px,.Name y py] kt pt] (.Tuple [a,b] k2 pt2) pos.line X.env=pure false:=by rfl) :
  QS X (.Assign [.Tuple [.Name x px,.Name y py] kt pt] (.Tuple [a,b] k2 pt2) pos) (Zao i j ta):=⟨Zpq hc hN hi hj hij hx hy ha.run hw hs⟩
theorem s_par {i j:Nat}{ta:TA}{D:C0}{σ:St}{H:Hp}(h:ta σ H fun vs H1=>∃ v w,vs=[v,w]/\D.nx ((σ.set i (some v)).set j (some w)) H1):Zao i j ta D σ H:=h
theorem s_ifE {c:TT}{ta tb:TE}{σ:St}{H:Hp}{Q:VK}(h:c σ H fun b H1=>if b=true then ta σ H1 Q else tb σ H1 Q):tIf c ta tb σ H Q:=h
theorem Zkw {b:Bool}{P Q:Prop}(hb:b=false)(h:Q):if b=true then P else Q:=by rw [if_neg (by rw [hb];decide)];exact h
theorem s_dput {td ty tv:TE}{D:C0}{σ:St}{H:Hp}(h:tv σ H fun v H1=>td σ H1 fun x H2=>ty σ H2 fun y H3=>∃ a H4,x=.ref a/\DPut H3 a y v H4/\D.nx σ H4):Zah td ty tv D σ H:=h
theorem s_dget2 {td ty tx:TE}{σ:St}{H:Hp}{Q:VK}(h:td σ H fun x H1=>∃ a,x=.ref a/\DcD H1 a/\ty σ H1 fun y H2=>tx σ H2 fun z H3=>∃ o,DGet H3 a y o/\Q (o.getD z) H3):Zax td ty tx σ H Q:=h
theorem Fu {t:TS}{X:St->Hp->Prop}{rt:VK}{bk ct:St->Hp->Prop}{σ:St}{H:Hp}(R:St->Hp->Prop)(h1:∀ Y:St->Hp->Prop,(∀ σ' H',R σ' H'->Y σ' H')->t ⟨Y,rt,bk,ct⟩ σ H)(h2:∀ σ' H',R σ' H'->X σ' H'):t ⟨X,rt,bk,ct⟩ σ H:=h1 X h2
theorem viaE {t:TE}{Q:VK}{σ:St}{H:Hp}(R:V->Hp->Prop)(h1:∀ Y:VK,(∀ v H',R v H'->Y v H')->t σ H Y)(h2:∀ v H',R v H'->Q v H'):t σ H Q:=h1 Q h2
section
variable {X:Cx}
end
section
variable {X:Cx}
end
section
variable {g:TG}{tt:TT}{te:TE}{σ0:St}{H1:Hp}{D:Addr}{Q:VK}
end
noncomputable def Ho (K:O9)(a b:Addr):It :=
 ⟨fun i H=>∃ xs ys,SqL K H a xs/\SqL K H b ys/\i < xs.length/\i < ys.length,
   fun i H x H'=>∃(t:Addr)(y z:V),H t=none/\(∀ xs,SqL K H a xs->xs[i]?=some y)/\(∀ ys,SqL K H b ys->ys[i]?=some z)/\x=.ref t/\H'=upd H t (.tup [y,z]),
   fun i H=>∃ xs ys,SqL K H a xs/\SqL K H b ys/\i=min xs.length ys.length⟩
theorem Zps {P:Program}{w:World}{K:O9}{elts:List Expr}{kt:Nat}{pt:Pos}(a b z TI TO i1 i2:Addr)(D:ZB z TI TO i1 i2 a b) :
  Fp P w K (.Tuple elts kt pt) (Ho K a b) [z,TI,TO,i1,i2] z (fun i h=>IsZip h z TI TO .none/\IsPair h TI (.ref i1) (.ref i2)/\(∃ u v,IsPair h TO u v)/\h.IsListIter i1 a i/\h.IsListIter i2 b i) where
 mem:=by simp
 obj:=fun i h st c hc=>by
  obtain ⟨q1,q2,⟨u,v,q3⟩,q4,q5⟩:=st
  simp only [Ph,P3,or_false] at hc
  rcases hc with rfl | rfl | rfl | rfl | rfl
  ·exact ⟨_,q1,fun v z=>by cases z⟩
  ·exact ⟨_,q2,fun v z=>by cases z⟩
  ·exact ⟨_,q3,fun v z=>by cases z⟩
  ·obtain ⟨o,e,c,d⟩:=q4
   exact ⟨o,e,fun v z=>by rw [d] at z;cases z⟩
  ·obtain ⟨o,e,c,d⟩:=q5
   exact ⟨o,e,fun v z=>by rw [d] at z;cases z⟩
 keep:=fun i h h' st k=>by
  obtain ⟨q1,q2,⟨u,v,q3⟩,q4,q5⟩:=st
  exact ⟨k z (by simp) _ q1,k TI (by simp) _ q2,⟨u,v,k TO (by simp) _ q3⟩,q4.at fun o e=>k i1 (by simp) o e,q5.at fun o e=>k i2 (by simp) o e⟩
 item:=by
  intro X hP hw hK hc i pins s σ H E I hf st hg
  subst hP hw hK
  obtain ⟨xs,ys,hx,hy,l1,l2⟩:=hg
  obtain ⟨its,rv,p,hz⟩:=I.list hx
  obtain ⟨its2,rv2,p2,hz2⟩:=I.list hy
  have g1:=rv.length
  have g2:=rv2.length
  obtain ⟨q1,q2,⟨u,v,q3⟩,q4,q5⟩:=st
  have hh:X.A.in1.handled=none:=I.ok.hd hc
  have D1:=R7 (prog:=X.prog) (w:=X.w) (A:=X.A.in1) hh i1 a D.a1 its.toArray
  have D2:=R7 (prog:=X.prog) (w:=X.w) (A:=X.A.in1) hh i2 b D.b2 its2.toArray
  refine Zek D1 D2 D.za q1 q2 q3 ⟨q4,p.isList⟩ ⟨q5,p2.isList⟩ (by rw [Pf];omega) (by rw [Pf];omega) fun x y h1 tk px py a1 a2 a3 a4 a5 a6 a7=>?_
  refine ⟨_,rfl,wpAny_letOwnedTupleGo_zip a1 fun h2 a8 a9=>?_⟩
  replace a9:Pu z h1 h2:=a9
  have hx':its[i]?=some x:=by simpa using px
  have hy':its2[i]?=some y:=by simpa using py
  obtain ⟨u1,hu1,ru1⟩:=rv.get (Pb l1)
  obtain ⟨u2,hu2,ru2⟩:=rv2.get (Pb l2)
  rw [hx'] at hu1
  cases hu1
  rw [hy'] at hu2
  cases hu2
  have lt:∀{c o},s.heap.get? c=some o->s.heap.objs.size≠c:=fun e=>Q1 (Pi e)
  have nz:s.heap.objs.size≠z:=lt q1
  have ht2:h2.IsTuple s.heap.objs.size ([x,y]:List Value).toArray:=⟨_,a9.extBut _ _ nz a5,rfl,_,rfl⟩
  have kk:∀ b o,b ∉ [z,TI,TO,i1,i2]->s.heap.get? b=some o->h2.get? b=some o:=fun b o hb e=>by
   simp only [Ph,P3,or_false,not_or] at hb
   exact a9.extBut _ _ hb.1 (a7 b o hb.1 hb.2.2.1 hb.2.2.2.1 hb.2.2.2.2 e)
  have I2:=I.pairL (tk:=tk) (T:=s.heap.objs.size) (xs:=[xs[i],ys[i]]) hf kk (Pc _) (.cons ru1 (.cons ru2 .nil)) (by show 2<=sizeLine;decide) ht2
  refine ⟨.ref s.heap.objs.size,_,I2,rfl,⟨_,xs[i],ys[i],I.hok.fresh (Pc _),fun zs hz=>by rw [I.list_inj hz hx];exact Pb l1,fun zs hz=>by rw [I.list_inj hz hy];exact Pb l2,rfl,rfl⟩,
   ⟨a8,a9.extBut _ _ D.TIz (a7 _ _ D.TIz D.TITO D.TI1 D.TI2 q2),⟨_,_,a9.extBut _ _ D.TOz a2⟩,a3.1.at fun o e=>a9.extBut _ _ D.i1z e,a4.1.at fun o e=>a9.extBut _ _ D.i2z e⟩,fun c hc=>?_⟩
  have hb':c≠s.heap.objs.size:=by
   simp only [Ph,P3,or_false] at hc
   rcases hc with rfl | rfl | rfl | rfl | rfl
   ·exact (lt q1).symm
   ·exact (lt q2).symm
   ·exact (lt q3).symm
   ·obtain ⟨_,e,_⟩:=q4;exact (lt e).symm
   ·obtain ⟨_,e,_⟩:=q5;exact (lt e).symm
  rw [Ai hb']
  exact (hf c hc).1
 done:=by
  intro X hP hw hK hc i pins s σ H E I hf st hg
  subst hP hw hK
  obtain ⟨xs,ys,hx,hy,rfl⟩:=hg
  obtain ⟨its,rv,p,hz⟩:=I.list hx
  obtain ⟨its2,rv2,p2,hz2⟩:=I.list hy
  have g1:=rv.length
  have g2:=rv2.length
  obtain ⟨q1,q2,⟨u,v,q3⟩,q4,q5⟩:=st
  have hh:X.A.in1.handled=none:=I.ok.hd hc
  have D1:=R7 (prog:=X.prog) (w:=X.w) (A:=X.A.in1) hh i1 a D.a1 its.toArray
  have D2:=R7 (prog:=X.prog) (w:=X.w) (A:=X.A.in1) hh i2 b D.b2 its2.toArray
  refine Zee D1 D2 D.za q1 q2 q3 ⟨q4,p.isList⟩ ⟨q5,p2.isList⟩ (by simp only [Pf];omega) fun h' tk kk=>⟨rfl,I.turnedL (fun b o hb e=>?_) hf⟩
  simp only [Ph,P3,or_false,not_or] at hb
  exact kk b o hb.1 hb.2.2.1 hb.2.2.2.1 hb.2.2.2.2 e
 self:=fun A i s Q E st h=>V8 st.1 h
section
variable {X:Cx}
noncomputable def Zfk (K:O9)(ta:TA):TI:=fun σ H R=>ta σ H fun vs H1=>∃ a b xs ys,vs=[.ref a,.ref b]/\SqL K H1 a xs/\SqL K H1 b ys/\R (Ho K a b) H1
theorem Zmo (K:O9){elts:List Expr}{kt:Nat}{pt:Pos}{e e2:Expr}{ta:TA}{p pos:Pos}(hg:Gl X "zip")(hm:X.mg "zip" = none)(ha:QA X [e,e2] ta)(hK:X.K=K:=by rfl)
  (hs:starEach [e,e2] X.env=[(false,eval e X.env),(false,eval e2 X.env)]:=by rfl) (hs2:starEach [e2] X.env=[(false,eval e2 X.env)]:=by rfl):QI X (.Tuple elts kt pt) (.Call (.Name "zip" p) [e,e2] [] pos) (Zfk K ta):=by
 subst hK
 refine ⟨fun pins s σ H R I h=>?_⟩
 refine Call_ (Dw I hg hm PyProof.Rows.boot_zip (Q2 (Ak (ha.run pos pins s σ H _ I h) fun us s1 ⟨vs,H1,I1,r1,q1⟩=>?_) (by rw [hs,hs2]) (by rw [hs2];rfl)))
 obtain ⟨a,b,xs,ys,e1,hq,hq2,q⟩:=q1
 subst e1
 obtain ⟨u,v,rfl,ru,rv⟩:=r1.two
 cases ru
 cases rv
 obtain ⟨its,rv,pl,hz⟩:=I1.list hq
 obtain ⟨its2,rv2,pl2,hz2⟩:=I1.list hq2
 have lt1:a < s1.heap.objs.size:=by obtain ⟨o,e,_⟩:=id pl.isList;exact Pi e
 have lt2:b < s1.heap.objs.size:=by obtain ⟨o,e,_⟩:=id pl2.isList;exact Pi e
 refine Ze9 (b:=false) (gg:=false) (show ZIn false s1.heap a its.toArray from pl.isList) (show ZIn false s1.heap b its2.toArray from pl2.isList) fun h' a1 a2 a3 a4 a5 a6 hk=>?_
 refine V8 a1 ?_
 have fr:∀ k,FpOk X pins H1 (s1.heap.objs.size+k):=fun k=>I1.fpOk (Sn _ _) (I1.hok.fresh (Sn _ _))
 refine ⟨_,[s1.heap.objs.size+4,s1.heap.objs.size+2,s1.heap.objs.size+3,s1.heap.objs.size,s1.heap.objs.size+1],_,_,H1,rfl,I1.kept (t':=s1.toks) hk,Zps a b _ _ _ _ _ (Zfp lt1 lt2),⟨a1,a2,⟨_,_,a3⟩,a4,a5⟩,fun c hc=>?_,q⟩
 simp only [Ph,P3,or_false] at hc
 rcases hc with rfl | rfl | rfl | rfl | rfl
 ·exact fr 4
 ·exact fr 2
 ·exact fr 3
 ·exact fr 0
 ·exact fr 1
theorem s_izipm {K:O9}{ta:TA}{σ:St}{H:Hp}{R:It->Hp->Prop}(h:ta σ H fun vs H1=>∃ a b xs ys,vs=[.ref a,.ref b]/\SqL K H1 a xs/\SqL K H1 b ys/\R (Ho K a b) H1):Zfk K ta σ H R:=h
theorem Zif {K:O9}{a b:Addr}{xs ys:List V}{g:TG}{tb:TS}{D:C0}{σ:St}{H:Hp}(Pv:Nat->St->Hp->Prop)(h0:Pv 0 σ H)(hl:∀ i σ H,i<=min xs.length ys.length->Pv i σ H->SqL K H a xs/\SqL K H b ys)
  (hs:∀ i x y t σ H,xs[i]?=some x->ys[i]?=some y->H t=none->Pv i σ H->g (.ref t) σ (upd H t (.tup [x,y])) fun σ2 H2=>tb { D with nx:=Pv (i+1),ct:=Pv (i+1),bk:=D.nx } σ2 H2) (hd:∀ σ H,Pv (min xs.length ys.length) σ H->D.nx σ H) :
  ∃ W:Nat->Nat->St->Hp->Prop,(∃ m,W 0 m σ H)/\∀ i m σ H,W i m σ H ->
   ((Ho K a b).stop i H/\D.nx σ H)\/((Ho K a b).go i H/\∃ N:St->Hp->Prop,(∀ σ' H',N σ' H'->∃ m',m' < m/\W (i+1) m' σ' H')/\∀ x H',(Ho K a b).yld i H x H'->g x σ H' fun σ2 H2=>tb { D with nx:=N,ct:=N,bk:=D.nx } σ2 H2):=by
 refine ⟨fun i m σ H=>m=min xs.length ys.length - i/\i<=min xs.length ys.length/\Pv i σ H,⟨min xs.length ys.length,by simp,P6 _,h0⟩,?_⟩
 rintro i m σ H ⟨rfl,hi,p⟩
 obtain ⟨q,q'⟩:=hl i σ H hi p
 by_cases hlt:i < min xs.length ys.length
 ·refine .inr ⟨⟨xs,ys,q,q',by omega,by omega⟩,Pv (i+1),fun σ' H' p'=>⟨min xs.length ys.length - (i+1),by omega,rfl,hlt,p'⟩,fun x H' y=>?_⟩
  obtain ⟨t,y,z,ht,hy,hz,rfl,rfl⟩:=y
  exact hs i y z t σ _ (hy xs q) (hz ys q') ht p
 ·have e:i=min xs.length ys.length:=by omega
  subst e
  exact .inl ⟨⟨xs,ys,q,q',rfl⟩,hd σ H p⟩
end
theorem s_dget1 {td ty:TE}{σ:St}{H:Hp}{Q:VK}(h:td σ H fun x H1=>∃ a,x=.ref a/\DcD H1 a/\ty σ H1 fun y H2=>∃ o,DGet H2 a y o/\Q (o.getD .non) H2):Nr td ty σ H Q:=h
theorem s_isB {x:V}{b:Bool}{H:Hp}{Q:VK}(h:Q (.bl (decide (x=.bl b))) H):rIsB x (.bl b) H Q:=⟨b,rfl,h⟩
theorem s_dnotin {td ty:TE}{σ:St}{H:Hp}{Q:VK}(h:ty σ H fun y H1=>td σ H1 fun x H2=>∃ a o,x=.ref a/\DGet H2 a y o/\Q (.bl (!o.isSome)) H2):N3 ty td σ H Q:=h
section
variable {X:Cx}
noncomputable abbrev Za6 (f:Bool):=Zb9 f true
theorem Zpj (f:Bool)(K:O9){e e2:Expr}{ta:TA}{p p2 pos pos2:Pos}(hg:Gl X "list")(hm:X.mg "list" = none)(hg2:Gl X "zip")(hm2:X.mg "zip" = none)(ha:QA X [e,e2] ta)(hK:X.K=K:=by rfl)(hc:X.calm=true:=by rfl)
  (hs:starEach [.Call (.Name "zip" p2) [e,e2] [] pos2] X.env=[(false,eval (.Call (.Name "zip" p2) [e,e2] [] pos2) X.env)]:=by rfl) (hs2:starEach [e,e2] X.env=[(false,eval e X.env),(false,eval e2 X.env)]:=by rfl) (hs3:starEach [e2] X.env=[(false,eval e2 X.env)]:=by rfl) :
  QE X (.Call (.Name "list" p) [.Call (.Name "zip" p2) [e,e2] [] pos2] [] pos) (Za6 f K ta):=Zl9 f true K hg hm hg2 hm2 ha hK hc hs hs2 hs3
theorem s_listzt {f:Bool}{K:O9}{ta:TA}{σ:St}{H:Hp}{Q:VK}(h:ta σ H fun vs H1=>∃ a b xs ys,vs=[.ref a,.ref b]/\Fi f K H1 a xs/\SqT K H1 b ys /\
 ∀(S:Addr)(zs:List V)(H2:Hp),H1 S=none->Same H1 H2->zs.length=min xs.length ys.length->L8 H2 xs ys zs->H2 S=some (.lst zs)->Q (.ref S) H2):Za6 f K ta σ H Q:=h
end
section
variable {prog:Program}{w:World}{A:Around}{E:Value->Shared->Prop}{s:Shared}
end
section
variable {X:Cx}{tg:Expr}
end
section
variable {X:Cx}{c n:Str}{np hpos pos:Pos}{body hbody:List Stmt}{b₀:Stmt}{tb:TXS}{th:Addr->TS}{i:Nat}{C:Addr}
end
section
variable {P:Program}{w:World}{K:O9}{mg:Str->Option Value}{base:Heap}
end
section
variable {X:Cx}{k:Nat}{x:Str}{ps:List Str}{sp:Addr->Sp}{p pos:Pos}{e:Expr}{es:List Expr}{t:TA}
end
section
variable {X:Cx}{tg:Expr}
end
section
variable {X:Cx}
end
section
variable {X:Cx}
end
section
variable {X:Cx}{pins:List (Addr×Obj)}{σ:St}{H:Hp}{s:Shared}
theorem Ze4:∀{us vs:List (Int×Tok)},us.map (fun p=>Value.int p.1 p.2)=vs.map (fun p=>Value.int p.1 p.2)->us=vs
 | [],[],_=>rfl
 | [],_::_,h=>by cases h
 | _::_,[],h=>by cases h
 | (a,b)::us,(c,d)::vs,h=>by
  injection h with h1 h2
  injection h1 with h3 h4
  have h3:a=c:=h3
  have h4:b=d:=h4
  subst h3 h4
  rw [Ze4 h2]
theorem M9 (I:Inv X pins σ H s){a:Addr}{xs ys:List Int}(hx:SqT X.K H a (xs.map V.int))(hy:SqT X.K H a (ys.map V.int)):xs=ys:=by
 obtain ⟨its,r1,p1,_⟩:=I.tuple hx
 obtain ⟨its2,r2,p2,_⟩:=I.tuple hy
 obtain ⟨us,e1,f1⟩:=Fo r1
 obtain ⟨vs,e2,f2⟩:=Fo r2
 have hh:its=its2:=by
  have q1:s.heap.IsTuple a its.toArray:=p1
  have q2:s.heap.IsTuple a its2.toArray:=p2
  obtain ⟨o,g1,c1,n1,d1⟩:=q1
  obtain ⟨o2,g2,c2,n2,d2⟩:=q2
  rw [g1] at g2
  cases g2
  rw [d1] at d2
  injection d2 with d3
  exact congrArg Array.toList d3
 subst hh
 rw [<- f1,<- f2]
 congr 1
 rw [e1] at e2
 exact Ze4 e2
theorem Zpp (I:Inv X pins σ H s){a c:Addr}{xs ys:List Int}(hx:SqT X.K H a (xs.map V.int))(hy:SqT X.K H c (ys.map V.int)){A:Around}(hu:A.units < cLine):Pn A s (.ref a) (.ref c) (decide (xs=ys)):=by
 by_cases z:a=c
 ·subst z
  rw [decide_eq_true (M9 I hx hy)]
  exact Uz _
 ·obtain ⟨its,r1,p1,_⟩:=I.tuple hx
  obtain ⟨its2,r2,p2,_⟩:=I.tuple hy
  obtain ⟨us,e1,f1⟩:=Fo r1
  obtain ⟨vs,e2,f2⟩:=Fo r2
  have l1:us.length=xs.length:=by rw [<- f1,Pe]
  have l2:vs.length=ys.length:=by rw [<- f2,Pe]
  have T:=SeqAt.RcAt.tuples (A:=A) (e:=fun j=>xs.getD j 0 == ys.getD j 0) (show s.heap.IsTuple a its.toArray from p1) (show s.heap.IsTuple c its2.toArray from p2) hu (fun j h1 h2=>by
   subst e1 e2
   simp only [Pf,Pe] at h1 h2
   have g1:xs.getD j 0=us[j].1:=by rw [<- f1,Qk,Pq,Pb h1];rfl
   have g2:ys.getD j 0=vs[j].1:=by rw [<- f2,Qk,Pq,Pb h2];rfl
   rw [g1,g2]
   simp only [Vr,V9]
   exact Tl _ _ _ _)
  have e:((Py (min its.toArray.size its2.toArray.size)).all (fun j=>xs.getD j 0 == ys.getD j 0) && its.toArray.size == its2.toArray.size)=decide (xs=ys):=by
   have z1:its.toArray.size=xs.length:=by rw [Pf,e1,Pe,l1]
   have z2:its2.toArray.size=ys.length:=by rw [Pf,e2,Pe,l2]
   rw [z1,z2,Zam]
  rw [e] at T
  exact Vy z T
end
section
variable {X:Cx}
noncomputable def rInP (K:O9):R2:=fun x y H Q=>∃(a p:Addr)(xs:List Int)(vs:List V)(yss:List (List Int)),x=.ref a/\y=.ref p/\SqT K H a (xs.map V.int)/\SqL K H p vs/\Al (fun v ys=>∃ c,v=.ref c/\SqT K H c (ys.map V.int)) vs yss/\Q (.bl (decide (xs∈yss))) H
open Classical in
theorem Zlp (hu:X.A.units+200 < cLine):OpR X (compareOp .In) (rInP X.K):=by
 intro pins s σ H x y v u Q I rx ry h
 obtain ⟨a,p,xs,vs,yss,rfl,rfl,hx,hq,al,q⟩:=h
 cases rx
 cases ry
 obtain ⟨its,r,pl,hz⟩:=I.list hq
 have key:∀(j:Nat)(w:Value),its[j]?=some w->∃ c ys,w=.ref c/\yss[j]?=some ys/\SqT X.K H c (ys.map V.int):=fun j w hw=>by
  have hj:=(Pg.mp hw).1
  have hv:vs[j]?=some (vs[j]'(by have:=r.length;omega)):=Pb _
  obtain ⟨w',hw',rr⟩:=r.get hv
  rw [hw] at hw'
  cases hw'
  obtain ⟨ys,hys,c,ec,hc⟩:=al.get hv
  rw [ec] at rr
  cases rr
  exact ⟨c,ys,rfl,hys,hc⟩
 refine SeqAt.in_listAt (fun w=>decide (∃ c,w=Value.ref c/\SqT X.K H c (xs.map V.int))) pl.isList (fun w hw=>?_) ⟨.bl _,H,I,rfl,?_⟩
 ·obtain ⟨j,hj,ej⟩:=Vu (show w∈its by simpa using hw)
  obtain ⟨c,ys,rfl,hys,hc⟩:=key j w (by rw [Pb hj,ej])
  have E:=Zpp I hc hx (A:=X.A.in1) (by show X.A.units+1 < cLine;omega)
  have e:decide (∃ c',Value.ref c=Value.ref c'/\SqT X.K H c' (xs.map V.int))=decide (ys=xs):=by
   by_cases hh:ys=xs
   ·rw [decide_eq_true hh,decide_eq_true ⟨c,rfl,by rw [<- hh];exact hc⟩]
   ·rw [decide_eq_false hh,decide_eq_false]
    rintro ⟨c',e',h'⟩
    cases e'
    exact hh (M9 I hc h')
  rw [e]
  exact E
 ·have e:its.toArray.any (fun w=>decide (∃ c,w=Value.ref c/\SqT X.K H c (xs.map V.int)))=decide (xs∈yss):=by
   rw [Rt,decide_eq_true_iff]
   simp only [List.any_toArray,List.any_eq_true,decide_eq_true_eq]
   constructor
   ·rintro ⟨w,hw,c,rfl,hc⟩
    obtain ⟨j,hj,ej⟩:=Vu hw
    obtain ⟨c',ys,e',hys,hc'⟩:=key j _ (by rw [Pb hj,ej])
    cases e'
    rw [M9 I hc hc']
    exact Qb hys
   ·intro hm
    obtain ⟨j,hj,ej⟩:=Vu hm
    have hjv:j < vs.length:=by rw [al.1];exact hj
    have hji:j < its.length:=by have:=r.length;omega
    obtain ⟨c,ys,ew,hys,hc⟩:=key j _ (Pb hji)
    rw [Pb hj,ej] at hys
    cases hys
    exact ⟨_,Tv hji,c,ew,hc⟩
  rw [e]
  exact q
theorem Zqv (K:O9)(hu:X.A.units+200 < cLine)(hK:X.K=K:=by rfl):OpR X (compareOp .In) (rInP K):=by subst hK;exact Zlp hu
theorem Zcj (K:O9)(hu:X.A.units+200 < cLine)(hK:X.K=K:=by rfl):OpR X (compareOp .Lt) (rLtT K):=by subst hK;exact Zgv (by omega)
end
end L2
local macro_rules | `(tactic| walk_at "sc")=>`(tactic| exact ⟨rfl,rfl,rfl,by decide +kernel,rfl,by decide +kernel,by decide +kernel⟩)
namespace L2
open PySem PySem.Spec PyProof.Rows
theorem Bo:0<=sizeLine:=by decide
theorem Cm:1<=sizeLine:=by decide
theorem sz13:13<=sizeLine:=by decide
theorem B6:2<=sizeLine:=by decide
theorem B0:3<=sizeLine:=by decide
theorem sz4:4<=sizeLine:=by decide
theorem sz5:5<=sizeLine:=by decide
theorem sz8:8<=sizeLine:=by decide
theorem sz9:9<=sizeLine:=by decide
theorem Room.m {j k:Nat}{A:Around}(r:Room k A)(h:j<=k:=by decide):Room j A:=r.mono h
section
variable {X:Cx}{a b:Expr}{ta tb:TE}{pos:Pos}{K:O9}
theorem Ar (i:Nat){ps:List Str}{sc:Scope}{x:Str}{e:Expr}{te:TE}{pos':Pos}(S:Bp X.N ps sc)(he:QE X e te)(hi:X.N[i]?=some x:=by rfl)(hx:Eo X.env.scope x:=by exact Or.inl rfl)(hs:swapsWith e (some (.Name x pos')) pos.line X.env=pure false:=by rfl)(hf:X.fn x=true\/X.env.scope.names.lookup x=some .local:=by first | exact .inl rfl | exact .inr rfl | assumption):QS X (.Assign [.Name x pos'] e pos) (F5 te (F1 i)):=Hs S.nd hi hx he hs hf
theorem Ao (K:O9)(ha:QE X a ta)(hb:QE X b tb)(hs:Os b:=by exact fun _ _=>rfl)(hK:X.K=K:=by rfl):QE X (.Subscript a b pos) (E3 (Hh K) ta tb):=Na (Mx K hK) ha hb hs
end
end L2
namespace K36
theorem lz1 {α:Type}{vs:List α}(h:vs.length=1):∃ u,vs=[u]:=by
 cases vs with
 | nil=>cases h
 | cons u r=>cases Rb (Nat.succ.inj h);exact ⟨u,rfl⟩
theorem lz2 {α:Type}{vs:List α}(h:vs.length=2):∃ u v,vs=[u,v]:=by
 cases vs with
 | nil=>cases h
 | cons u r=>obtain ⟨v,rfl⟩:=lz1 (Nat.succ.inj h);exact ⟨u,v,rfl⟩
end K36
namespace K36
open PySem L2
noncomputable def Ac (i:Nat):Stmt:=R9.main.body.getD i (.Pass ⟨0,0,0,0⟩)
noncomputable abbrev Jj:Stmt:=Ac 5
noncomputable abbrev Jm:Stmt:=Ac 7
noncomputable abbrev Jf:Stmt:=Ac 8
noncomputable abbrev Jo:Stmt:=Ac 9
noncomputable abbrev Hw:Stmt:=Ac 11
noncomputable abbrev Jc:Stmt:=Ac 12
noncomputable abbrev Jz:Stmt:=Ac 13
noncomputable abbrev Kh:Stmt:=Ac 14
noncomputable abbrev Jy:Stmt:=Ac 19
noncomputable abbrev Kj:Stmt:=Ac 20
noncomputable abbrev J2:Stmt:=Ac 21
noncomputable abbrev Jl:Stmt:=Ac 22
noncomputable abbrev Ic:Stmt:=Ac 23
noncomputable abbrev Hv:Stmt:=Ac 24
noncomputable abbrev Jx:Stmt:=Ac 25
noncomputable abbrev Iz:Stmt:=Ac 26
noncomputable abbrev Ih:Stmt:=Ac 27
noncomputable abbrev Iu:Stmt:=Ac 30
noncomputable abbrev Jh:Stmt:=Ac 31
noncomputable abbrev Jd:Stmt:=Ac 32
noncomputable abbrev Jw:Stmt:=Ac 34
noncomputable abbrev Iw:Stmt:=Ac 35
noncomputable abbrev Hj:Stmt:=Ac 36
noncomputable abbrev Js:Stmt:=Ac 37
noncomputable abbrev Jg:Stmt:=Ac 38
noncomputable abbrev G9:Stmt:=Ac 39
noncomputable abbrev Jt:Stmt:=Ac 40
noncomputable abbrev G2:Stmt:=Ac 41
noncomputable abbrev Il:Stmt:=Ac 42
noncomputable abbrev Iy:Stmt:=Ac 43
structure Txt (K:O9)(mg:Str->Option Value):Prop where
 isinstance:mg "isinstance" = none
 int:mg "int" = none
 bool:mg "bool" = none
 reversed:mg "reversed" = none
 list:mg "list" = none
 enumerate:mg "enumerate" = none
 len:mg "len" = none
 dict:mg "dict" = none
 zip:mg "zip" = none
 tuple:mg "tuple" = none
 range:mg "range" = none
 str:mg "str" = none
structure Script (K:O9)(H:Hp)(a:Addr):Prop where
 ex:∃ ns:List Int,SqL K H a (ns.map V.int)/\ns.length<=63
theorem Script.same {K:O9}{H H':Hp}{a:Addr}(S:Script K H a)(h:Same H H'):Script K H' a:=by
 obtain ⟨ns,q,l⟩:=S.ex
 exact ⟨ns,h.seq q,l⟩
theorem big:100000<=sizeLine:=by decide
inductive Sh where
 | num | truth | any | to (a b:Nat) | same (k:Nat)
 deriving DecidableEq
noncomputable def shV:Sh->List V
 | .num=>[.str "num"]
 | .truth=>[.str "truth"]
 | .any=>[.str "any"]
 | .to a b=>[.str "to",.int (a:Nat),.int (b:Nat)]
 | .same k=>[.str "same",.int (k:Nat)]
noncomputable def Sh.parts:Sh->List Nat
 | .to a b=>[a,b]
 | .same k=>[k]
 | _=>[]
noncomputable def Sh.wd:Sh->Str
 | .num => "num"
 | .truth => "truth"
 | .any => "any"
 | .to _ _ => "to"
 | .same _ => "same"
theorem Zhf (s:Sh):shV s=.str s.wd::s.parts.map fun n=>V.int ((n:Nat):Int):=by cases s <;> rfl
noncomputable def Sh.isSame:Sh->Bool
 | .same _=>true
 | _=>false
noncomputable abbrev Ae:=List Sh
inductive LastN (sh:Ae):Nat->Nat->Nat->Prop where
 | root {i:Nat} {s:Sh} (h:sh[i]?=some s) (hs:s.isSame=false):LastN sh 0 i i
 | step {n i k r:Nat} (h:sh[i]?=some (.same k)) (t:LastN sh n k r):LastN sh (n+1) i r
noncomputable def Last (sh:Ae)(i r:Nat):Prop:=∃ n,LastN sh n i r
theorem LastN.at {sh:Ae}{n i r:Nat}(h:LastN sh n i r):∃ s,sh[r]?=some s/\s.isSame=false:=by
 induction h with
 | root h hs=>exact ⟨_,h,hs⟩
 | step _ _ ih=>exact ih
theorem Last.at {sh:Ae}{i r:Nat}(h:Last sh i r):∃ s,sh[r]?=some s/\s.isSame=false:=let ⟨_,h⟩:=h;h.at
theorem LastN.uniq {sh:Ae}{n m i r r':Nat}(h:LastN sh n i r)(h':LastN sh m i r'):r=r':=by
 induction h generalizing m r' with
 | root h hs =>
  cases h' with
  | root=>rfl
  | step h2 _=>rw [h] at h2;cases h2;cases hs
 | step h _ ih =>
  cases h' with
  | root h2 hs=>rw [h] at h2;cases h2;cases hs
  | step h2 t=>rw [h] at h2;cases h2;exact ih t
theorem Last.uniq {sh:Ae}{i r r':Nat}(h:Last sh i r)(h':Last sh i r'):r=r':=let ⟨_,h⟩:=h;let ⟨_,h'⟩:=h';h.uniq h'
noncomputable abbrev Ps:=Nat->Option Bool
noncomputable def Bj (ps:Ps)(i:Nat)(b:Bool):Ps:=fun j=>if j=i then some b else ps j
inductive Dk (sh:Ae)(ps:Ps):List Nat->List Nat->Option (List Nat)->Prop where
 | nil {w:List Nat}:Dk sh ps [] w (some w)
 | hit {p r:Nat} {rest w:List Nat} (h:Last sh p r) (h2:ps r=some false):Dk sh ps (p::rest) w none
 | go {p r:Nat} {rest w:List Nat} {o:Option (List Nat)} (h:Last sh p r) (h2:ps r≠some false) (t:Dk sh ps rest (w++[r]) o):Dk sh ps (p::rest) w o
inductive HoldsN (sh:Ae):Nat->Ps->List Nat->Bool->Prop where
 | nil {ps:Ps}:HoldsN sh 0 ps [] false
 | seen {n:Nat} {ps:Ps} {w:List Nat} {Ac:Nat} {x b:Bool} (h:ps Ac=some x) (t:HoldsN sh n (Bj ps Ac true) w b):HoldsN sh (n+1) ps (w++[Ac]) b
 | hit {ps:Ps} {w:List Nat} {Ac:Nat} {s:Sh} (h:ps Ac=none) (hs:sh[Ac]?=some s) (hp:Dk sh (Bj ps Ac false) s.parts (w++[Ac]) none):HoldsN sh 1 ps (w++[Ac]) true
 | go {n:Nat} {ps:Ps} {w w':List Nat} {Ac:Nat} {s:Sh} {b:Bool} (h:ps Ac=none) (hs:sh[Ac]?=some s) (hp:Dk sh (Bj ps Ac false) s.parts (w++[Ac]) (some w')) (t:HoldsN sh n (Bj ps Ac false) w' b):HoldsN sh (n+1) ps (w++[Ac]) b
inductive JoinN:Nat->Ae->List (Nat×Nat)->Option Ae->Prop where
 | nil {m:Ae}:JoinN 0 m [] (some m)
 | eq {n:Nat} {m:Ae} {w:List (Nat×Nat)} {p:Nat×Nat} {l:Nat} {o:Option Ae} (h1:Last m p.1 l) (h2:Last m p.2 l) (t:JoinN n m w o):JoinN (n+1) m (w++[p]) o
 | anyR {n:Nat} {m:Ae} {w:List (Nat×Nat)} {p:Nat×Nat} {l r:Nat} {o:Option Ae} (h1:Last m p.1 l) (h2:Last m p.2 r) (ne:l≠r) (hr:m[r]?=some .any) (t:JoinN n (m.set r (.same l)) w o):JoinN (n+1) m (w++[p]) o
 | anyL {n:Nat} {m:Ae} {w:List (Nat×Nat)} {p:Nat×Nat} {l r:Nat} {sr:Sh} {o:Option Ae} (h1:Last m p.1 l) (h2:Last m p.2 r) (ne:l≠r) (hr:m[r]?=some sr) (hn:sr≠.any) (hl:m[l]?=some .any) (t:JoinN n (m.set l (.same r)) w o):JoinN (n+1) m (w++[p]) o
 | to {n:Nat} {m:Ae} {w:List (Nat×Nat)} {p:Nat×Nat} {l r a b c d:Nat} {o:Option Ae} (h1:Last m p.1 l) (h2:Last m p.2 r) (ne:l≠r) (hl:m[l]?=some (.to a b)) (hr:m[r]?=some (.to c d)) (t:JoinN n (m.set l (.same r)) (w++[(a,c),(b,d)]) o):JoinN (n+1) m (w++[p]) o
 | clash {m:Ae} {w:List (Nat×Nat)} {p:Nat×Nat} {l r:Nat} {sl sr:Sh} (h1:Last m p.1 l) (h2:Last m p.2 r) (ne:l≠r) (hl:m[l]?=some sl) (hr:m[r]?=some sr) (nl:sl≠.any) (nr:sr≠.any) (nt:sl.wd ≠ "to" \/ sr.wd ≠ "to"):JoinN 1 m (w++[p]) none
inductive FitG:List (Nat×Nat)->Ae->List Bool->Ae->Prop where
 | nil {m:Ae}:FitG [] m [] m
 | ok {g a n k r:Nat} {m m1 m':Ae} {ps:List (Nat×Nat)} {fs:List Bool} (j:JoinN n m [(g,a)] (some m1)) (hn:n<=1000) (l:Last m1 g r) (h:HoldsN m1 k (fun _=>none) [r] false) (hk:k<=1000) (t:FitG ps m1 fs m'):FitG ((g,a)::ps) m (true::fs) m'
 | clash {g a n:Nat} {m m':Ae} {ps:List (Nat×Nat)} {fs:List Bool} (j:JoinN n m [(g,a)] none) (hn:n<=1000) (t:FitG ps m fs m'):FitG ((g,a)::ps) m (false::fs) m'
 | loop {g a n k r:Nat} {m m1 m':Ae} {ps:List (Nat×Nat)} {fs:List Bool} (j:JoinN n m [(g,a)] (some m1)) (hn:n<=1000) (l:Last m1 g r) (h:HoldsN m1 k (fun _=>none) [r] true) (hk:k<=1000) (t:FitG ps m fs m'):FitG ((g,a)::ps) m (false::fs) m'
end K36
local macro_rules | `(tactic| walk_at "r1")=>`(tactic| (first | (with_reducible first | refine L2.s_seq ?_ | refine L2.s_asg ?_ | refine L2.s_ret ?_ | refine L2.s_ifS ?_ | refine L2.s_ifE ?_ | refine L2.s_dget ?_ | refine L2.s_din ?_ | refine L2.s_dput ?_ | refine L2.s_dget2 ?_ | refine L2.s_izipm ?_ | refine L2.s_dnotin ?_ | refine L2.s_listzt ?_ | refine L2.s_listr ?_ | refine L2.s_dget1 ?_ | refine L2.s_isB ?_ | refine L2.s_par ?_ | refine L2.s_test ?_ | refine L2.s_op ?_ | refine L2.s_c ?_ | refine L2.s_cons ?_ | refine L2.s_nil ?_ | refine L2.s_call ?_ | refine L2.s_cb ?_ | refine L2.s_gname ?_ | refine L2.s_ex ?_ | refine L2.s_exi ?_ | refine L2.s_drop ?_ | refine L2.s_next ?_ | refine L2.s_un ?_ | refine L2.s_tB ?_ | refine L2.s_not ?_ | refine L2.s_and ?_ | refine L2.s_or ?_ | refine L2.s_andV ?_ | refine L2.s_orV ?_ | refine L2.s_notV ?_ | refine L2.s_vals ?_ | refine L2.s_tup ?_ | refine L2.s_lst ?_ | refine L2.s_bm ?_ | refine L2.s_bm0 ?_ | refine L2.s_sl ?_ | refine L2.s_po ?_ | refine L2.s_po0 ?_ | refine L2.s_gcons ?_ | refine L2.s_gnil ?_ | refine L2.s_gsub ?_ | refine L2.s_isN ?_ | refine L2.s_notN ?_ | refine L2.s_rI0 ?_ | refine L2.s_rU ?_ | refine L2.s_add_int ?_ | refine L2.s_lt ?_ | refine L2.s_le ?_ | refine L2.iteT ?_ | refine L2.iteF ?_ | refine L2.s_comp ?_ | refine L2.s_for ?_ | refine L2.s_rng1 ?_ | refine L2.s_rng3 ?_ | refine L2.s_exr ?_ | refine L2.s_iany ?_ | refine L2.s_irev ?_ | refine L2.s_ienum ?_ | refine L2.s_listen ?_ | refine L2.s_listrev ?_ | refine L2.s_izip ?_ | refine L2.s_ienumT ?_ | refine L2.s_listzp ?_ | refine L2.s_ipI ?_ | refine L2.s_yes ?_ | refine L2.s_turn ?_ | refine L2.s_int_b ?_ | refine L2.s_intb ?_ | refine L2.s_truth ?_ | refine L2.s_chain ?_ | refine L2.s_nt ?_ | refine L2.s_nf ?_) | ((with_reducible refine' L2.s_var ?e ?_); (case e=>exact rfl)) | ((with_reducible refine' L2.s_aug ?e ?_); (case e=>exact rfl)) | ((with_reducible refine' L2.s_eq ?e ?_); (case e=>exact rfl)) | ((with_reducible refine' L2.s_ne ?e ?_); (case e=>exact rfl)) | ((with_reducible refine' L2.s_neb ?e ?_); (case e=>exact rfl)) | ((with_reducible refine' L2.s_eqy ?e ?_); (case e=>exact rfl)) | ((with_reducible refine' L2.s_rI ?c ?_); (case c=>first | decide | exact ⟨by decide,by decide⟩ | exact ⟨by decide,by decide,by decide⟩)) | ((with_reducible refine' L2.s_mul_r ?a ?b ?_); (case a=>decide); (case b=>decide)) | ((with_reducible refine' L2.s_mul_l ?a ?b ?_); (case a=>decide); (case b=>decide)) | ((with_reducible refine' L2.s_exr3 ?e ?_); (case e=>decide))))
local macro_rules | `(tactic| walk_at "r")=>`(tactic| (repeat walk_at "r1"))
local macro_rules | `(tactic| walk_at "q")=>`(tactic| (repeat (first | (with_reducible first | refine L2.s_gcons ?_ | refine L2.s_gname ?_ | refine L2.s_gnil ?_ | refine L2.s_seq ?_ | refine L2.s_asg ?_ | refine L2.s_c ?_ | refine L2.s_lst ?_ | refine L2.s_tup ?_ | refine L2.s_cons ?_ | refine L2.s_nil ?_) | ((with_reducible refine' L2.s_var ?e ?_); (case e=>exact rfl)))))
namespace K36
open PySem L2
section
variable {P:Program}{w:World}{K:O9}{mg:Str->Option Value}{base:Heap}
noncomputable def ShE (K:O9)(H:Hp)(u:V)(s:Sh):Prop:=∃ p,u=.ref p/\SqT K H p (shV s)
structure ShG (K:O9)(H:Hp)(a:Addr)(sh:Ae):Prop where
 ex:∃ us:List V,H a=some (.lst us)/\Al (ShE K H) us sh
theorem ShE.same {H H':Hp}(e:SameT H H')(u:V)(s:Sh)(h:ShE K H u s):ShE K H' u s:=let ⟨p,e1,q⟩:=h;⟨p,e1,e.tup q⟩
theorem ShG.same {H H':Hp}{a:Addr}{sh:Ae}(h:ShG K H a sh)(s:Same H H'):ShG K H' a sh:=let ⟨us,e,al⟩:=h.ex;⟨us,s _ _ e,al.mono (ShE.same s.t)⟩
theorem ShG.at {H:Hp}{a:Addr}{sh:Ae}{i:Nat}{s:Sh}(h:ShG K H a sh)(hi:sh[i]?=some s):∃ us p,H a=some (.lst us)/\B5 us ((i:Nat):Int)=some (.ref p)/\SqT K H p (.str s.wd::s.parts.map fun n=>V.int ((n:Nat):Int)):=by
 obtain ⟨us,e,al⟩:=h.ex
 obtain ⟨u,hu,p,rfl,q⟩:=al.get' hi
 rw [Zhf] at q
 exact ⟨us,p,e,Cy hu,q⟩
theorem Zcz (s:Sh):decide (V.str s.wd=V.str "same")=s.isSame:=by
 cases s with
 | to a b=>exact (by decide:decide (V.str "to" = V.str "same")=false)
 | same k=>exact (by decide:decide (V.str "same" = V.str "same")=true)
 | _=>decide
theorem D0 {x:V}{xs:List V}:B5 (x::xs) 0=some x:=by
 have h:B5 (x::xs) ((0:Nat):Int)=some x:=Cy rfl
 exact h
noncomputable def Lu (K:O9):Sp:=fun vs H Q _=>∃(a:Addr)(sh:Ae)(i r:Nat),vs=[.ref a,.int (i:Nat)]/\ShG K H a sh/\Last sh i r/\Q (.int (r:Nat)) H
theorem O5:Bp ["shapes", "kind", "last"] ["shapes", "kind"] (Bh Ic):=by walk_at "sc"
theorem Ziz {f:Addr}{fd:FuncData}(F:Fun K "last_same" "last_same" Ic f fd)(T:Txt K mg):Bb P w K mg base Bc 1 f fd ["shapes", "kind"] (Lu K):=by
 refine F.okq O5 (fun vs H Q E h=>?_) (fun cdv A outer s H vs Q E hr h=>?_)
 ·obtain ⟨a,sh,i,r,rfl,_⟩:=h
  rfl
 ·obtain ⟨a,sh,i,r,rfl,S,⟨n0,L⟩,q⟩:=h
  refine ⟨_,Af (Ar 2 O5 (qv 1))
   (Af (Hk P4 (A6 (Bl K hr.u200) (Ao K (Ao K (qv 0) (qv 2)) Ah) Av (A7 _)) (Aj (Ar 2 O5 (Ao K (Ao K (qv 0) (qv 2)) Ah))))
   (Aj (Aw (qv 2)))),?_⟩
  walk_at "r"
  refine ⟨fun n σ' H'=>H'=H/\∃ j:Nat,σ'=[some (.ref a),some (.int (i:Nat)),some (.int (j:Nat))]/\LastN sh n j r,⟨n0,rfl,i,rfl,L⟩,?_⟩
  rintro n σ' H' ⟨rfl,j,rfl,L⟩
  walk_at "r"
  cases L with
  | @root _ s h hs =>
   obtain ⟨us,p,e,eu,qp⟩:=S.at h
   refine Bk (SqL.of e) eu ?_
   walk_at "r"
   refine Az qp D0 ?_
   walk_at "r"
   rw [Zcz,hs]
   walk_at "r"
   exact q
  | @step n _ k _ h t =>
   obtain ⟨us,p,e,eu,qp⟩:=S.at h
   refine Bk (SqL.of e) eu ?_
   walk_at "r"
   refine Az qp D0 ?_
   walk_at "r"
   rw [Zcz,show (Sh.same k).isSame=true from rfl]
   refine iteT ?_
   refine ⟨fun σ2 H2=>∃ m',m' < n+1/\H2=H'/\∃ j':Nat,σ2=[some (.ref a),some (.int (i:Nat)),some (.int (j':Nat))]/\LastN sh m' j' r,fun _ _ h=>h,?_⟩
   walk_at "r"
   refine Bk (SqL.of e) eu ?_
   walk_at "r"
   refine Az qp rfl ?_
   walk_at "r"
   exact ⟨n,by omega,rfl,k,rfl,t⟩
noncomputable def Am (ns:List Nat):List V:=ns.map fun n=>V.int ((n:Nat):Int)
theorem Fv (a b:List Nat):Am (a++b)=Am a++Am b:=by unfold Am;exact Qf ..
noncomputable def DcN {α:Type}(kvs:List (Au×V))(ps:Nat->Option α)(g:α->V):Prop:=∀ i:Nat,Bz kvs (.inl ((i:Nat):Int))=(ps i).map g
theorem Zea {i j:Nat}(h:(Sum.inl ((i:Nat):Int):Au)=.inl ((j:Nat):Int)):i=j:=by have:=Sum.inl.inj h;omega
theorem DcN.put {α:Type}{kvs:List (Au×V)}{ps:Nat->Option α}{g:α->V}(h:DcN kvs ps g)(i:Nat)(x:α):DcN (Bm kvs (.inl ((i:Nat):Int)) (g x)) (fun j=>if j=i then some x else ps j) g:=fun j=>by
 rw [Li]
 show _=Option.map g (if j=i then some x else ps j)
 by_cases hj:j=i
 ·rw [if_pos (by rw [hj]),if_pos hj]
  rfl
 ·rw [if_neg fun z=>hj (Zea z),if_neg hj]
  exact h j
theorem Kn {s:Sh}:Bq (V.str s.wd::s.parts.map fun n=>V.int ((n:Nat):Int)) (some 1) none=Am s.parts:=by
 cases s <;> rfl
theorem Ls {s:Sh}:¬ (HT.sIx (V.str s.wd::s.parts.map fun n=>V.int ((n:Nat):Int)).length 0 (some 1)=0/\HT.sIx (V.str s.wd::s.parts.map fun n=>V.int ((n:Nat):Int)).length (V.str s.wd::s.parts.map fun n=>V.int ((n:Nat):Int)).length none=(V.str s.wd::s.parts.map fun n=>V.int ((n:Nat):Int)).length):=by
 rintro ⟨h,_⟩
 rw [show (1:Int)=((1:Nat):Int) from rfl,HT.sIx_nat,Pj] at h
 omega
theorem Zak (s:Sh):s.parts.length<=2:=by cases s <;> simp [Sh.parts]
theorem HoldsN.inv {sh:Ae}{n:Nat}{ps:Ps}{w:List Nat}{b:Bool}(h:HoldsN sh n ps w b):(w=[]/\b=false)\/(∃ w1 Ac x n',w=w1++[Ac]/\n=n'+1/\ps Ac=some x/\HoldsN sh n' (Bj ps Ac true) w1 b) \/
  ∃ w1 Ac s o n',w=w1++[Ac]/\n=n'+1/\ps Ac=none/\sh[Ac]?=some s/\Dk sh (Bj ps Ac false) s.parts (w1++[Ac]) o/\(o=none->b=true)/\∀ w',o=some w'->HoldsN sh n' (Bj ps Ac false) w' b:=by
 cases h with
 | nil=>exact .inl ⟨rfl,rfl⟩
 | seen h t=>exact .inr (.inl ⟨_,_,_,_,rfl,rfl,h,t⟩)
 | hit h hs hp=>exact .inr (.inr ⟨_,_,_,_,0,rfl,rfl,h,hs,hp,fun _=>rfl,fun _ e=>by cases e⟩)
 | go h hs hp t=>exact .inr (.inr ⟨_,_,_,_,_,rfl,rfl,h,hs,hp,fun e=>(by cases e),fun _ e=>by cases e;exact t⟩)
theorem Zcl {H:Hp}{x y:Addr}{us vs:List V}(h:H x=some (.lst us))(h':H y=some (.tup vs)):y≠x:=fun z=>by rw [z,h] at h';cases h'
noncomputable def Zes (K:O9):Sp:=fun vs H Q _=>∃(a:Addr)(sh:Ae)(i r N:Nat)(b:Bool),vs=[.ref a,.int (i:Nat)]/\ShG K H a sh/\Last sh i r/\HoldsN sh N (fun _=>none) [r] b/\N<=1000/\∀ H',Same H H'->Q (.bl b) H'
structure HoJ (K:O9)(H:Hp)(pd pw:Addr)(N n:Nat)(ps:Ps)(w:List Nat)(H':Hp):Prop where
 ed:∃ kvs,H' pd=some (.dK kvs)/\DcN kvs ps V.bl/\kvs.length+n<=N
 ew:H' pw=some (.lst (Am w))
 wl:w.length+2 * n<=1+2 * N
 sm:Same H H'
theorem sc_holds_itself:Bp ["shapes", "kind", "passed", "waiting", "top", "part", "inner"] ["shapes", "kind"] (Bh Hv):=by walk_at "sc"
theorem Zi1 {f:Addr}{fd:FuncData}(F:Fun K "holds_itself" "holds_itself" Hv f fd)(T:Txt K mg)(C_last_same:Be P w K mg base 1 "last_same" ["shapes", "kind"] (Lu K)):Bb P w K mg base Bc 2 f fd ["shapes", "kind"] (Zes K):=by
 refine F.okq sc_holds_itself (fun vs H Q E h=>?_) (fun cdv A outer s H vs Q E hr h=>?_)
 ·obtain ⟨a,sh,i,r,N,b,rfl,_⟩:=h
  rfl
 ·obtain ⟨a,sh,i,r,N,b,rfl,S,L,HN,hN,q⟩:=h
  refine ⟨_,Af (Ar 2 sc_holds_itself (N9))
   (Af (Ar 3 sc_holds_itself (Bf (Aa (A5 C_last_same hr.m (Aa (qv 0) (Aa (qv 1) Ab))) Ab)))
   (Af (Hk P4 (F9 K (qv 3) (by intro _;rfl)) (Af (Ar 4 sc_holds_itself (Ao K (qv 3) (Io Kc Ah)))
   (Af (Ay (Hm (Zfd hr.u1 (qv 4) (qv 2))) (Af (Gk hr.u1 (qv 2) (qv 4) Ef)
   (Af (Co (Jr K P8 Tg Th Jv (qv 3)))
   (Aj (Zdw)))) A8)
   (Af (Gk hr.u1 (qv 2) (qv 4) Ef)
   (Aj (Cw P4 rfl (Cp K (C1 (Ed K) (Ao K (qv 0) (qv 4)) (Cd Ah) (Ew))) (A1 (i:=5) sc_holds_itself.nd rfl (Or.inl rfl)) (Af (Ar 6 sc_holds_itself (A5 C_last_same hr.m (Aa (qv 0) (Aa (qv 5) Ab))))
   (Af (Ay (A6 Zow (Zmz hr.u1 (qv 2) (qv 6)) Ef (A7 _)) (Aj (Aw Ef)) A8)
   (Aj (Co (C4 K P8 Qn Qo Di (qv 3) (Aa (qv 6) Ab))))))))))))
   (Aj (Aw Ef)))),?_⟩
  have bg:=big
  walk_at "r"
  refine fun pd hpd=>?_
  have s1:=Same.upd (o:=.dK []) hpd
  walk_at "r"
  refine ⟨a,sh,i,r,rfl,S.same s1,L,?_⟩
  walk_at "r"
  refine ⟨Cm,fun pw hpw=>?_⟩
  have s2:=Same.upd (o:=.lst [.int (r:Nat)]) hpw
  have nd:pd≠pw:=Ax Ad hpw
  have hpw0:=s1.free hpw
  walk_at "r"
  refine ⟨fun n σ' H'=>∃ v4 v5 v6 ps w,σ'=[some (.ref a),some (.int (i:Nat)),some (.ref pd),some (.ref pw),v4,v5,v6]/\HoJ K H pd pw N n ps w H'/\HoldsN sh n ps w b,
   ⟨N,none,none,none,fun _=>none,[r],rfl,⟨⟨[],s2 _ _ Ad,fun _=>rfl,by simp⟩,Ad,by simp,s1.trans s2⟩,HN⟩,?_⟩
  rintro n σ' H1 ⟨v4,v5,v6,ps,w0,rfl,J,hh⟩
  obtain ⟨kvs,ed,dc,kl⟩:=J.ed
  have ew:=J.ew
  have wl:=J.wl
  have sm:=J.sm
  walk_at "r"
  refine Gf (SqL.of ew) ?_
  have turn:∀(w':List Nat)(Ac:Nat),w0=w'++[Ac]->(!(Am w0).isEmpty)=true/\Am w0=Am w'++[.int (Ac:Nat)]:=fun w' Ac e=>by
   have:Am w0=Am w'++[.int (Ac:Nat)]:=by rw [e,Fv];rfl
   exact ⟨by rw [this];simp,this⟩
  rcases hh.inv with ⟨rfl,rfl⟩ | ⟨w1,Ac,x,n,rfl,rfl,h,t⟩ | ⟨w1,Ac,s,o,n,rfl,rfl,h,hs,hp,ho,hgo⟩
  ·refine iteF ?_
   walk_at "r"
   exact q _ sm
  ·obtain ⟨e1,e2⟩:=turn w1 Ac rfl
   rw [e1]
   rw [e2] at ew
   refine iteT ?_
   refine ⟨fun σ2 H2=>∃ m',m' < n+1/\∃ v4 v5 v6 ps w,σ2=[some (.ref a),some (.int (i:Nat)),some (.ref pd),some (.ref pw),v4,v5,v6]/\HoJ K H pd pw N m' ps w H2/\HoldsN sh m' ps w b,fun _ _ h=>h,?_⟩
   walk_at "r"
   refine Bk (SqL.of ew) (Ii _ _) ?_
   walk_at "r"
   refine ⟨pd,_,rfl,DGet.k (k:=.inl ((Ac:Nat):Int)) ed,?_⟩
   rw [dc Ac,h]
   refine ⟨true,rfl,?_⟩
   walk_at "r"
   refine ⟨pd,_,rfl,DPut.k (k:=.inl ((Ac:Nat):Int)) ed (by omega),?_⟩
   walk_at "r"
   have ew2:upd H1 pd (.dK (Bm kvs (.inl ((Ac:Nat):Int)) (.bl true))) pw=some (.lst (Am w1++[.int (Ac:Nat)])):=by rw [Ai nd.symm];exact ew
   refine Ca (SqL.of ew2) ?_
   refine Ki ew2 ?_
   have hl:=Ej kvs (.inl ((Ac:Nat):Int)) (.bl true)
   rw [Pl,Qa] at wl
   exact ⟨n,by omega,_,_,_,Bj ps Ac true,w1,rfl,⟨⟨_,by rw [Ai nd];exact Ad,dc.put Ac true,by omega⟩,Ad,by omega,(sm.over hpd).over hpw0⟩,t⟩
  ·obtain ⟨e1,e2⟩:=turn w1 Ac rfl
   rw [e1]
   have ew0:=ew
   rw [e2] at ew
   refine iteT ?_
   refine ⟨fun σ2 H2=>∃ m',m' < n+1/\∃ v4 v5 v6 ps w,σ2=[some (.ref a),some (.int (i:Nat)),some (.ref pd),some (.ref pw),v4,v5,v6]/\HoJ K H pd pw N m' ps w H2/\HoldsN sh m' ps w b,fun _ _ h=>h,?_⟩
   walk_at "r"
   refine Bk (SqL.of ew) (Ii _ _) ?_
   walk_at "r"
   refine ⟨pd,_,rfl,DGet.k (k:=.inl ((Ac:Nat):Int)) ed,?_⟩
   rw [dc Ac,h]
   refine ⟨false,rfl,?_⟩
   walk_at "r"
   refine ⟨pd,_,rfl,DPut.k (k:=.inl ((Ac:Nat):Int)) ed (by omega),?_⟩
   have hl:=Ej kvs (.inl ((Ac:Nat):Int)) (.bl false)
   have dc2:DcN (Bm kvs (.inl ((Ac:Nat):Int)) (.bl false)) (Bj ps Ac false) V.bl:=dc.put Ac false
   have ed2:upd H1 pd (.dK (Bm kvs (.inl ((Ac:Nat):Int)) (.bl false))) pd=some (.dK (Bm kvs (.inl ((Ac:Nat):Int)) (.bl false))):=Ad
   have ew2:upd H1 pd (.dK (Bm kvs (.inl ((Ac:Nat):Int)) (.bl false))) pw=some (.lst (Am (w1++[Ac]))):=by rw [Ai nd.symm];exact ew0
   have sm2:Same H (upd H1 pd (.dK (Bm kvs (.inl ((Ac:Nat):Int)) (.bl false)))):=sm.over hpd
   revert ed2 ew2 sm2
   generalize upd H1 pd (.dK (Bm kvs (.inl ((Ac:Nat):Int)) (.bl false)))=H2
   generalize Bm kvs (.inl ((Ac:Nat):Int)) (.bl false)=kv2 at hl dc2
   intro ed2 ew2 sm2
   obtain ⟨us,p,e,eu,qp⟩:=(S.same sm2).at hs
   walk_at "r"
   refine Bk (SqL.of e) eu ?_
   walk_at "r"
   refine .inr (.inr ⟨p,_,rfl,qp,Ls,fun p3 h3=>?_⟩)
   rw [Kn]
   have s3:=Same.upd (o:=.tup (Am s.parts)) h3
   refine .inr (.inl ⟨p3,rfl,⟨_,SqT.of Ad⟩,?_⟩)
   have hpl:=Zak s
   rw [Pl,Qa] at wl
   refine Zct (K:=K) (a:=p3) (xs:=Am s.parts) (fun j σ' H'=>∃ v5 v6 wj,σ'=[some (.ref a),some (.int (i:Nat)),some (.ref pd),some (.ref pw),some (.int (Ac:Nat)),v5,v6]/\H' pd=some (.dK kv2)/\H' pw=some (.lst (Am wj))/\wj.length=w1.length+1+j/\Same H H'/\H' p3=some (.tup (Am s.parts))/\Dk sh (Bj ps Ac false) (s.parts.drop j) wj o)
    ⟨_,_,w1++[Ac],rfl,s3 _ _ ed2,s3 _ _ ew2,by simp,sm2.trans s3,Ad,hp⟩ ?_ ?_ ?_
   ·rintro j σ' H' _ ⟨_,_,_,_,_,_,_,_,e,_⟩
    exact SqT.of e
   ·rintro j x σ' H3 hx ⟨v5',v6',wj,rfl,ed3,ew3,lw,sm3,ep3,hpu⟩
    have hj:j < s.parts.length:=by have:=(Pg.mp hx).1;unfold Am at this;rwa [Pe] at this
    have hxv:x=.int ((s.parts[j]:Nat):Int):=by unfold Am at hx;rw [Pq,Pb hj] at hx;exact (Po hx).symm
    subst hxv
    rw [Rc hj] at hpu
    have hmem:∃ r2,Last sh s.parts[j] r2/\((Bj ps Ac false r2=some false/\o=none)\/(Bj ps Ac false r2≠some false/\Dk sh (Bj ps Ac false) (s.parts.drop (j+1)) (wj++[r2]) o)):=by
     cases hpu with
     | hit h1 h2=>exact ⟨_,h1,.inl ⟨h2,rfl⟩⟩
     | go h1 h2 t=>exact ⟨_,h1,.inr ⟨h2,t⟩⟩
    obtain ⟨r2,hL2,hc⟩:=hmem
    walk_at "r"
    refine ⟨a,sh,s.parts[j],r2,rfl,S.same sm3,hL2,?_⟩
    walk_at "r"
    refine ⟨pd,rfl,.inl ⟨_,.inl ed3⟩,?_⟩
    walk_at "r"
    refine ⟨_,DGet.k (k:=.inl ((r2:Nat):Int)) ed3,?_⟩
    rw [dc2 r2]
    rcases hc with ⟨h1,h2⟩ | ⟨h1,h2⟩
    ·rw [h1]
     walk_at "r"
     rw [show (decide ((Option.map V.bl (some false)).getD V.non=V.bl false))=true from rfl]
     walk_at "r"
     have:=ho h2
     subst this
     exact q _ sm3
    ·have hd:decide (((Bj ps Ac false r2).map V.bl).getD .non=V.bl false)=false:=by
      generalize Bj ps Ac false r2=z at h1
      match z,h1 with
      | none,_=>rfl
      | some true,_=>rfl
      | some false,h=>exact absurd rfl h
     walk_at "r"
     rw [hd]
     walk_at "r"
     refine Ca (SqL.of ew3) ?_
     walk_at "r"
     have hwl:(Am wj).length < sizeLine:=by unfold Am;rw [Pe];omega
     refine C8 ew3 hwl ?_
     refine ⟨_,_,wj++[r2],rfl,by rw [Ai nd];exact ed3,by rw [Ad,Fv];rfl,by simp [lw];omega,sm3.over hpw0,by rw [Ai (Zcl ew3 ep3)];exact ep3,h2⟩
   ·rintro σ' H3 ⟨v5',v6',wj,rfl,ed3,ew3,lw,sm3,ep3,hpu⟩
    have e9:(Am s.parts).length=s.parts.length:=by unfold Am;exact Pe ..
    rw [e9,Wa] at hpu
    cases hpu
    refine ⟨n,by omega,_,_,_,Bj ps Ac false,wj,rfl,⟨⟨kv2,ed3,dc2,by omega⟩,ew3,by omega,sm3⟩,hgo wj rfl⟩
theorem ShG.off {H:Hp}{a x:Addr}{sh:Ae}{zs:List V}{o:HO}(h:ShG K H a sh)(n:a≠x)(e:H x=some (.lst zs)):ShG K (upd H x o) a sh:=by
 obtain ⟨us,e1,al⟩:=h.ex
 exact ⟨us,by rw [Ai n];exact e1,al.mono (ShE.same (SameT.set e))⟩
theorem ShG.set {H:Hp}{a p:Addr}{sh:Ae}{us:List V}{i:Nat}{s:Sh}(e:H a=some (.lst us))(al:Al (ShE K H) us sh)(hp:SqT K H p (shV s)):ShG K (upd H a (.lst (us.set i (.ref p)))) a (sh.set i s):=by
 have st:SameT H (upd H a (.lst (us.set i (.ref p)))):=SameT.set e
 refine ⟨us.set i (.ref p),Ad,by rw [Qd,Qd];exact al.1,fun k u x hu hx=>?_⟩
 by_cases hki:k=i
 ·subst hki
  have hl:=(Pg.mp hu).1
  rw [Qd] at hl
  rw [Rf hl] at hu
  rw [Rf (by rw [<- al.1];exact hl)] at hx
  have hu:V.ref p=u:=by simpa using hu
  have hx:s=x:=by simpa using hx
  subst hx
  exact ⟨p,hu.symm,st.tup hp⟩
 ·rw [Si (fun z=>hki z.symm)] at hu hx
  exact ShE.same st _ _ (al.2 k u x hu hx)
noncomputable def PaAt (K:O9)(H:Hp)(v:V)(x:Nat×Nat):Prop:=∃ a,v=.ref a/\SqT K H a [.int (x.1:Nat),.int (x.2:Nat)]
theorem PaAt.same {H H':Hp}(e:SameT H H')(v:V)(x:Nat×Nat)(h:PaAt K H v x):PaAt K H' v x:=let ⟨a,e1,q⟩:=h;⟨a,e1,e.tup q⟩
noncomputable def Zbr (m:Ae)(g a:Nat):Option Ae->Prop
 | none=>(∃ n,n<=1000/\JoinN n m [(g,a)] none)\/∃ n k r m1,n<=1000/\JoinN n m [(g,a)] (some m1)/\Last m1 g r/\HoldsN m1 k (fun _=>none) [r] true/\k<=1000
 | some m1=>∃ n k r,n<=1000/\JoinN n m [(g,a)] (some m1)/\Last m1 g r/\HoldsN m1 k (fun _=>none) [r] false/\k<=1000
noncomputable def Zeo (K:O9):Sp:=fun vs H Q _=>∃(a:Addr)(sh:Ae)(i j:Nat)(o:Option Ae),vs=[.ref a,.int (i:Nat),.int (j:Nat)]/\ShG K H a sh/\Zbr sh i j o /\
 (∀ a' m1 H',o=some m1->Same H H'->H a'=none->ShG K H' a' m1->Q (.ref a') H')/\(∀ H',o=none->Same H H'->Q .non H')
theorem G3 (s:Sh):decide (V.str s.wd=V.str "any")=decide (s=.any):=by
 cases s with
 | to a b=>exact (by decide:decide (V.str "to" = V.str "any")=false)
 | same k=>exact (by decide:decide (V.str "same" = V.str "any")=false)
 | _=>decide
theorem Mm (s:Sh):decide (V.str s.wd=V.str "to")=decide (s.wd = "to"):=by
 by_cases h:s.wd = "to"
 ·rw [h];decide
 ·rw [decide_eq_false h,decide_eq_false (fun e=>h (by injection e))]
theorem Zdl {s:Sh}(h:s.wd = "to"):∃ a b,s=.to a b:=by
 cases s with
 | to a b=>exact ⟨a,b,rfl⟩
 | num=>exact absurd h (by decide)
 | truth=>exact absurd h (by decide)
 | any=>exact absurd h (by decide)
 | same k=>exact absurd h (by show ¬ (("same" : Str) = "to");decide)
theorem Zgn {α:Type}{R:V->α->Prop}{vs us:List V}{xs ys:List α}(h:Al R vs xs)(h2:Al R us ys):Al R (vs++us) (xs++ys):=by
 refine ⟨by rw [Pl,Pl,h.1,h2.1],fun j v x e1 e2=>?_⟩
 by_cases hj:j < vs.length
 ·rw [Qe hj] at e1
  rw [Qe (by rw [<- h.1];exact hj)] at e2
  exact h.2 j v x e1 e2
 ·rw [Qm (by omega)] at e1
  rw [Qm (by rw [<- h.1];omega),<- h.1] at e2
  exact h2.2 _ v x e1 e2
structure JoJ (K:O9)(H:Hp)(am pw:Addr)(N n:Nat)(m:Ae)(w:List (Nat×Nat))(H':Hp):Prop where
 sh:ShG K H' am m
 ew:∃ wv,H' pw=some (.lst wv)/\Al (PaAt K H') wv w
 wl:w.length+n<=1+N
 sm:Same H H'
theorem JoinN.inv {n:Nat}{m:Ae}{w:List (Nat×Nat)}{o:Option Ae}(h:JoinN n m w o):(w=[]/\o=some m)\/∃ w1 p l r,w=w1++[p]/\Last m p.1 l/\Last m p.2 r/\((l=r/\∃ n',n=n'+1/\JoinN n' m w1 o)\/(l≠r/\∃ sl sr,m[l]?=some sl/\m[r]?=some sr /\
  ((sr=.any/\∃ n',n=n'+1/\JoinN n' (m.set r (.same l)) w1 o)\/(sr≠.any/\sl=.any/\∃ n',n=n'+1/\JoinN n' (m.set l (.same r)) w1 o)\/(∃ a b c d n',sl=.to a b/\sr=.to c d/\n=n'+1/\JoinN n' (m.set l (.same r)) (w1++[(a,c),(b,d)]) o) \/
   (sl≠.any/\sr≠.any/\(sl.wd ≠ "to" \/ sr.wd ≠ "to")/\o=none)))):=by
 cases h with
 | nil=>exact .inl ⟨rfl,rfl⟩
 | eq h1 h2 t=>exact .inr ⟨_,_,_,_,rfl,h1,h2,.inl ⟨rfl,_,rfl,t⟩⟩
 | @anyR _ _ _ _ l r _ h1 h2 ne hr t =>
  obtain ⟨sl,hl,_⟩:=h1.at
  exact .inr ⟨_,_,_,_,rfl,h1,h2,.inr ⟨ne,sl,.any,hl,hr,.inl ⟨rfl,_,rfl,t⟩⟩⟩
 | anyL h1 h2 ne hr hn hl t=>exact .inr ⟨_,_,_,_,rfl,h1,h2,.inr ⟨ne,_,_,hl,hr,.inr (.inl ⟨hn,rfl,_,rfl,t⟩)⟩⟩
 | to h1 h2 ne hl hr t=>exact .inr ⟨_,_,_,_,rfl,h1,h2,.inr ⟨ne,_,_,hl,hr,.inr (.inr (.inl ⟨_,_,_,_,_,rfl,rfl,rfl,t⟩))⟩⟩
 | clash h1 h2 ne hl hr nl nr nt=>exact .inr ⟨_,_,_,_,rfl,h1,h2,.inr ⟨ne,_,_,hl,hr,.inr (.inr (.inr ⟨nl,nr,nt,rfl⟩))⟩⟩
theorem sc_joined:Bp ["shapes", "one", "other", "made", "waiting", "pair", "left", "right"] ["shapes", "one", "other"] (Bh Jx):=by walk_at "sc"
theorem Zn2 {f:Addr}{fd:FuncData}(F:Fun K "joined" "joined" Jx f fd)(T:Txt K mg)(C_last_same:Be P w K mg base 1 "last_same" ["shapes", "kind"] (Lu K))(C_holds_itself:Be P w K mg base 2 "holds_itself" ["shapes", "kind"] (Zes K)):Bb P w K mg base Bc 3 f fd ["shapes", "one", "other"] (Zeo K):=by
 refine F.okq sc_joined (fun vs H Q E h=>?_) (fun cdv A outer s H vs Q E hr h=>?_)
 ·obtain ⟨a,sh,i,j,o,rfl,_⟩:=h
  rfl
 ·obtain ⟨a,sh,i,j,o,rfl,S,hJ,q,qn⟩:=h
  refine ⟨_,Af (Ar 3 sc_joined (Fl (Lg K) (by rfl) T.list (by decide +kernel) (Aa (qv 0) Ab)))
   (Af (Ar 4 sc_joined (Bf (Aa (Ap (Aa (qv 1) (Aa (qv 2) Ab))) Ab)))
   (Af (Hk P4 (F9 K (qv 4) (by intro _;rfl)) (Af (Ar 5 sc_joined (Jr K P8 Tg Th Jv (qv 4)))
   (Af (Za1 (i:=6) (j:=7) rfl sc_joined.nd rfl rfl (by decide) rfl rfl (Aa (A5 C_last_same hr.m (Aa (qv 3) (Aa (Ao K (qv 5) Ah) Ab))) (Aa (A5 C_last_same hr.m (Aa (qv 3) (Aa (Ao K (qv 5) Ah) Ab))) Ab)))
   (Af (Ay (A6 (Bl K hr.u200) (qv 6) (qv 7) (A7 _)) (Aj (Zdw)) A8)
   (Af (Ay (A6 (Bl K hr.u200) (Ao K (Ao K (qv 3) (qv 7)) Ah) Av (A7 _)) (Aj (Za1 (i:=6) (j:=7) rfl sc_joined.nd rfl rfl (by decide) rfl rfl (Aa (qv 7) (Aa (qv 6) Ab)))) A8)
   (Af (Ay (QW.qt (Lq (A6 (Bl K hr.u200) (Ao K (Ao K (qv 3) (qv 6)) Ah) Av (A7 _)) (Lf (A6 (Bl K hr.u200) (Ao K (Ao K (qv 3) (qv 7)) Ah) Av (A7 _))))) (Aj (Co (C4 K P8 PySem.F.slot_list_extend PySem.F.type_list_extend Zit (qv 4) (Aa (Zpj true K (by rfl) T.list (by rfl) T.zip (Aa (C1 (Ed K) (Ao K (qv 3) (qv 6)) (Cd Ah) (Ew)) (Aa (C1 (Ed K) (Ao K (qv 3) (qv 7)) (Cd Ah) (Ew)) Ab))) Ab)))) (Aj (Ay (A6 (k_ne K hr.u200) (Ao K (Ao K (qv 3) (qv 6)) Ah) Av (A7 _)) (Aj (Aw Dx)) A8)))
   (Aj (Hl (Ap (Aa Av (Aa (qv 7) Ab))) (Zd6 (qv 3) (qv 6) Zbb)))))))))
   (Aj (Aw (Lb (Ex (A5 C_holds_itself hr.m (Aa (qv 3) (Aa (qv 1) Ab)))) Dx (qv 3)))))),?_⟩
  have bg:=big
  obtain ⟨N,oj,hN,hJN,hfin,hno⟩:∃ N oj,N<=1000/\JoinN N sh [(i,j)] oj/\(∀ m1,oj=some m1->∃ k r b,Last m1 i r/\HoldsN m1 k (fun _=>none) [r] b/\k<=1000/\o=cond b none (some m1))/\(oj=none->o=none):=by
   cases o with
   | none =>
    rcases hJ with ⟨n,h1,h2⟩ | ⟨n,k,r,m1,h1,h2,h3,h4,h5⟩
    ·exact ⟨n,none,h1,h2,(fun m1 e=>by cases e),fun _=>rfl⟩
    ·exact ⟨n,some m1,h1,h2,(fun m2 e=>by cases e;exact ⟨k,r,true,h3,h4,h5,rfl⟩),fun e=>by cases e⟩
   | some m1 =>
    obtain ⟨n,k,r,h1,h2,h3,h4,h5⟩:=hJ
    exact ⟨n,some m1,h1,h2,(fun m2 e=>by cases e;exact ⟨k,r,false,h3,h4,h5,rfl⟩),fun e=>by cases e⟩
  obtain ⟨us,ea,ala⟩:=S.ex
  walk_at "r"
  refine ⟨a,us,rfl,.inl (SqL.of ea),fun am ham=>?_⟩
  have s1:=Same.upd (o:=.lst us) ham
  have S1:ShG K (upd H am (.lst us)) am sh:=⟨us,Ad,ala.mono (ShE.same s1.t)⟩
  have em1:upd H am (.lst us) am=some (.lst us):=Ad
  revert s1 S1 em1
  generalize upd H am (.lst us)=H1
  intro s1 S1 em1
  walk_at "r"
  refine ⟨B6,fun pt hpt=>?_⟩
  walk_at "r"
  refine ⟨Cm,fun pw hpw=>?_⟩
  walk_at "r"
  have s2:=Same.upd (o:=.tup [.int (i:Nat),.int (j:Nat)]) hpt
  have s3:=Same.upd (o:=.lst [.ref pt]) hpw
  have npw:am≠pw:=Ax (s2 _ _ em1) hpw
  have hpw0:H pw=none:=(s1.trans s2).free hpw
  have ham0:H am=none:=ham
  refine ⟨fun n σ' H'=>∃ v5 v6 v7 m w,σ'=[some (.ref a),some (.int (i:Nat)),some (.int (j:Nat)),some (.ref am),some (.ref pw),v5,v6,v7]/\JoJ K H am pw N n m w H'/\JoinN n m w oj,
   ⟨N,none,none,none,sh,[(i,j)],rfl,⟨S1.same (s2.trans s3),⟨_,Ad,Al.nil.snoc ⟨pt,rfl,SqT.of (s3 _ _ Ad)⟩⟩,by simp,(s1.trans s2).trans s3⟩,hJN⟩,?_⟩
  rintro n σ' H2 ⟨v5,v6,v7,m,w0,rfl,J,hh⟩
  obtain ⟨wv,ew,alw⟩:=J.ew
  walk_at "r"
  refine Gf (SqL.of ew) ?_
  rcases hh.inv with ⟨rfl,ho⟩ | ⟨w1,pp,l,r,rfl,hl,hr2,hcase⟩
  ·have hwv:wv=[]:=Rb alw.1
   subst hwv
   refine iteF ?_
   obtain ⟨k,r,b,h1,h2,h3,h4⟩:=hfin m ho
   walk_at "r"
   refine ⟨am,m,i,r,k,b,rfl,J.sh,h1,h2,h3,fun H3 s3=>?_⟩
   cases b with
   | true =>
    walk_at "r"
    exact qn H3 h4 (J.sm.trans s3)
   | false =>
    walk_at "r"
    exact q am m H3 h4 (J.sm.trans s3) ham0 (J.sh.same s3)
  obtain ⟨wv',pv,w1',p',rfl,ee,alw',hpv⟩:=alw.last (fun z=>by rw [z] at alw;have:=alw.1;simp at this)
  obtain ⟨rfl,e2⟩:=Q8 ee rfl
  cases e2
  obtain ⟨pq,rfl,qpq⟩:=hpv
  rw [show (!(wv'++[V.ref pq]).isEmpty)=true by simp]
  refine iteT ?_
  refine ⟨fun σ2 H2=>∃ m',m' < n/\∃ v5 v6 v7 m w,σ2=[some (.ref a),some (.int (i:Nat)),some (.int (j:Nat)),some (.ref am),some (.ref pw),v5,v6,v7]/\JoJ K H am pw N m' m w H2/\JoinN m' m w oj,fun _ _ h=>h,?_⟩
  have wl:=J.wl
  rw [Pl,Qa] at wl
  walk_at "r"
  refine Ca (SqL.of ew) ?_
  refine Ki ew ?_
  have ew3:upd H2 pw (.lst wv') pw=some (.lst wv'):=Ad
  have S3:=J.sh.off (o:=.lst wv') npw ew
  have sm3:=J.sm.over (o:=.lst wv') hpw0
  have t3:=SameT.set (o:=.lst wv') ew
  have q3:=t3.tup qpq
  have al3:=alw'.mono (PaAt.same t3)
  revert ew3 S3 sm3 q3 al3
  generalize upd H2 pw (.lst wv')=H3
  intro ew3 S3 sm3 q3 al3
  walk_at "r"
  refine Az q3 rfl ?_
  walk_at "r"
  refine ⟨am,m,pp.1,l,rfl,S3,hl,?_⟩
  walk_at "r"
  refine Az q3 rfl ?_
  walk_at "r"
  refine ⟨am,m,pp.2,r,rfl,S3,hr2,?_⟩
  refine ⟨_,_,rfl,?_⟩
  walk_at "r"
  rcases hcase with ⟨rfl,n',rfl,t⟩ | ⟨ne,sl,sr,esl,esr,hc⟩
  ·rw [decide_eq_true (Eq.refl _)]
   walk_at "r"
   exact ⟨n',by omega,_,_,_,m,w1,rfl,⟨S3,⟨wv',ew3,al3⟩,by omega,sm3⟩,t⟩
  rw [decide_eq_false (show ¬ V.int ((l:Nat):Int)=V.int ((r:Nat):Int) from fun z=>ne (by injection z with z;omega))]
  refine iteF ?_
  with_reducible refine s_next ?_
  walk_at "q"
  refine Fu (R:=fun σ' H'=>H'=H3/\∃ x y sx sy,σ'=[some (.ref a),some (.int (i:Nat)),some (.int (j:Nat)),some (.ref am),some (.ref pw),some (.ref pq),some (.int (x:Nat)),some (.int (y:Nat))]/\m[x]?=some sx/\m[y]?=some sy/\((sx=.any/\∃ n',n=n'+1/\JoinN n' (m.set x (.same y)) w1 oj)\/(∃ a b c d n',sx=.to a b/\sy=.to c d/\n=n'+1/\JoinN n' (m.set x (.same y)) (w1++[(a,c),(b,d)]) oj)\/(sx≠.any/\(sx.wd ≠ "to" \/ sy.wd ≠ "to")/\oj=none))) ?_ ?_
  ·intro Y hY
   obtain ⟨us5,pr,e5,eur,qr⟩:=S3.at esr
   walk_at "r"
   refine Bk (SqL.of e5) eur ?_
   walk_at "r"
   refine Az qr D0 ?_
   walk_at "r"
   rw [G3]
   rcases hc with ⟨rfl,n',rfl,t⟩ | ⟨hn,rfl,n',rfl,t⟩ | ⟨a1,b1,c1,d1,n',rfl,rfl,rfl,t⟩ | ⟨nl,nr,nt,rfl⟩
   ·rw [decide_eq_true (Eq.refl Sh.any)]
    walk_at "r"
    refine ⟨_,_,rfl,?_⟩
    exact hY _ _ ⟨rfl,r,l,.any,sl,rfl,esr,esl,.inl ⟨rfl,n',rfl,t⟩⟩
   ·rw [decide_eq_false hn]
    walk_at "r"
    exact hY _ _ ⟨rfl,l,r,.any,sr,rfl,esl,esr,.inl ⟨rfl,n',rfl,t⟩⟩
   ·rw [decide_eq_false (fun e=>by cases e)]
    walk_at "r"
    exact hY _ _ ⟨rfl,l,r,_,_,rfl,esl,esr,.inr (.inl ⟨a1,b1,c1,d1,n',rfl,rfl,rfl,t⟩)⟩
   ·rw [decide_eq_false nr]
    walk_at "r"
    exact hY _ _ ⟨rfl,l,r,sl,sr,rfl,esl,esr,.inr (.inr ⟨nl,nt,rfl⟩)⟩
  rintro _ _ ⟨rfl,x,y,sx,sy,rfl,hx,hy,hc⟩
  obtain ⟨us3,em3,alm3⟩:=S3.ex
  obtain ⟨us4,px,e4,eux,qx⟩:=S3.at hx
  obtain ⟨us5,py,e5,euy,qy⟩:=S3.at hy
  rw [em3] at e4 e5
  cases e4
  cases e5
  have hxl:x < us3.length:=by rw [alm3.1];exact (Pg.mp hx).1
  walk_at "r"
  refine Bk (SqL.of em3) eux ?_
  walk_at "r"
  refine Az qx D0 ?_
  walk_at "r"
  rw [Mm]
  rcases hc with ⟨rfl,n',rfl,t⟩ | ⟨a1,b1,c1,d1,n',rfl,rfl,rfl,t⟩ | ⟨nl,nt,ho⟩
  ·rw [show decide (Sh.any.wd = "to")=false by decide]
   walk_at "r"
   refine Bk (SqL.of em3) eux ?_
   walk_at "r"
   refine Az qx D0 ?_
   walk_at "r"
   rw [G3,decide_eq_true (Eq.refl Sh.any)]
   walk_at "r"
   refine ⟨B6,fun p7 h7=>?_⟩
   have s7:=Same.upd (o:=.tup [.str "same",.int (y:Nat)]) h7
   walk_at "r"
   refine Oq (j:=x) (s7 _ _ em3) (by unfold Da;simp [hxl]) ?_
   refine ⟨n',by omega,_,_,_,m.set x (.same y),w1,rfl,⟨ShG.set (s7 _ _ em3) (alm3.mono (ShE.same s7.t)) (SqT.of Ad),⟨wv',by rw [Ai npw.symm];exact s7 _ _ ew3,(al3.mono (PaAt.same s7.t)).mono (PaAt.same (SameT.set (s7 _ _ em3)))⟩,by omega,(sm3.trans s7).over ham0⟩,t⟩
  ·rw [show decide ((Sh.to a1 b1).wd = "to")=true from rfl]
   walk_at "r"
   refine Bk (SqL.of em3) euy ?_
   walk_at "r"
   refine Az qy D0 ?_
   walk_at "r"
   rw [Mm,show decide ((Sh.to c1 d1).wd = "to")=true from rfl]
   walk_at "r"
   refine Ca (SqL.of ew3) ?_
   walk_at "r"
   refine Bk (SqL.of em3) eux ?_
   walk_at "r"
   refine .inr (.inr ⟨px,_,rfl,qx,Ls,fun p4 h4=>?_⟩)
   rw [Kn]
   have s4:=Same.upd (o:=.tup (Am (Sh.to a1 b1).parts)) h4
   walk_at "r"
   refine Bk (SqL.of (s4 _ _ em3)) euy ?_
   walk_at "r"
   refine .inr (.inr ⟨py,_,rfl,s4.tup qy,Ls,fun p5 h5=>?_⟩)
   rw [Kn]
   have s5:=Same.upd (o:=.tup (Am (Sh.to c1 d1).parts)) h5
   walk_at "r"
   refine ⟨p4,p5,_,_,rfl,s5.tup (SqT.of Ad),SqT.of Ad,fun zl zs H6 hzl s6 lz hz ezl=>?_⟩
   have s46:=(s4.trans s5).trans s6
   walk_at "r"
   have lz:zs.length=2:=lz
   have hwl:wv'.length<=2000:=by rw [al3.1];omega
   refine Zp8 (s46 _ _ ew3) ezl (by omega) ?_
   have nz:pw≠zl:=Ax ((s4.trans s5) _ _ ew3) hzl
   have alz:Al (PaAt K H6) zs [(a1,c1),(b1,d1)]:=by
    refine ⟨lz,fun k v x e1 e2=>?_⟩
    obtain ⟨tt,x1,y1,rfl,h1,h2,h3⟩:=hz k v e1
    match k,e2,h1,h2 with
    | 0,e2,h1,h2=>cases e2;cases h1;cases h2;exact ⟨tt,rfl,SqT.of h3⟩
    | 1,e2,h1,h2=>cases e2;cases h1;cases h2;exact ⟨tt,rfl,SqT.of h3⟩
   have ew7:upd H6 pw (.lst (wv'++zs)) pw=some (.lst (wv'++zs)):=Ad
   have t7:=SameT.set (o:=.lst (wv'++zs)) (s46 _ _ ew3)
   have em7:upd H6 pw (.lst (wv'++zs)) am=some (.lst us3):=by rw [Ai npw];exact s46 _ _ em3
   have al7:Al (PaAt K (upd H6 pw (.lst (wv'++zs)))) (wv'++zs) (w1++[(a1,c1),(b1,d1)]):=Zgn ((al3.mono (PaAt.same s46.t)).mono (PaAt.same t7)) (alz.mono (PaAt.same t7))
   have alm7:=(alm3.mono (ShE.same s46.t)).mono (ShE.same t7)
   have sm7:Same H (upd H6 pw (.lst (wv'++zs))):=(sm3.trans s46).over hpw0
   revert ew7 em7 al7 alm7 sm7
   generalize upd H6 pw (.lst (wv'++zs))=H7
   intro ew7 em7 al7 alm7 sm7
   walk_at "r"
   refine ⟨B6,fun p8 h8=>?_⟩
   have s8:=Same.upd (o:=.tup [.str "same",.int (y:Nat)]) h8
   walk_at "r"
   refine Oq (j:=x) (s8 _ _ em7) (by unfold Da;simp [hxl]) ?_
   refine ⟨n',by omega,_,_,_,m.set x (.same y),w1++[(a1,c1),(b1,d1)],rfl,⟨ShG.set (s8 _ _ em7) (alm7.mono (ShE.same s8.t)) (SqT.of Ad),⟨_,by rw [Ai npw.symm];exact s8 _ _ ew7,(al7.mono (PaAt.same s8.t)).mono (PaAt.same (SameT.set (s8 _ _ em7)))⟩,by simp;omega,(sm7.trans s8).over ham0⟩,t⟩
  ·by_cases hxt:sx.wd = "to"
   ·have hyt:sy.wd ≠ "to" := nt.resolve_left fun h=>h hxt
    rw [decide_eq_true hxt]
    walk_at "r"
    refine Bk (SqL.of em3) euy ?_
    walk_at "r"
    refine Az qy D0 ?_
    walk_at "r"
    rw [Mm,decide_eq_false hyt]
    walk_at "r"
    refine Bk (SqL.of em3) eux ?_
    walk_at "r"
    refine Az qx D0 ?_
    walk_at "r"
    rw [G3,decide_eq_false nl]
    walk_at "r"
    exact qn _ (hno ho) sm3
   ·rw [decide_eq_false hxt]
    walk_at "r"
    refine Bk (SqL.of em3) eux ?_
    walk_at "r"
    refine Az qx D0 ?_
    walk_at "r"
    rw [G3,decide_eq_false nl]
    walk_at "r"
    exact qn _ (hno ho) sm3
inductive Ig:List (Nat×Nat)->Ae->List Bool->Ae->Prop where
 | nil {m:Ae}:Ig [] m [] m
 | cons {g a:Nat} {m m':Ae} {o:Option Ae} {ps:List (Nat×Nat)} {fs:List Bool} (j:Zbr m g a o) (t:Ig ps (o.getD m) fs m'):Ig ((g,a)::ps) m (o.isSome::fs) m'
theorem FitG.o {ps:List (Nat×Nat)}{m m':Ae}{fs:List Bool}(h:FitG ps m fs m'):Ig ps m fs m':=by
 induction h with
 | nil=>exact .nil
 | ok j hn l h hk _ ih=>exact .cons (o:=some _) ⟨_,_,_,hn,j,l,h,hk⟩ ih
 | clash j hn _ ih=>exact .cons (o:=none) (.inl ⟨_,hn,j⟩) ih
 | loop j hn l h hk _ ih=>exact .cons (o:=none) (.inr ⟨_,_,_,_,hn,j,l,h,hk⟩) ih
noncomputable def Zdu (K:O9):Sp:=fun vs H Q _=>∃(a b:Addr)(m m':Ae)(pv:List V)(ps:List (Nat×Nat))(fs:List Bool),vs=[.ref a,.ref b]/\ShG K H a m/\H b=some (.lst pv)/\Al (PaAt K H) pv ps/\FitG ps m fs m'/\ps.length<=1000 /\
 ∀ r a' c H',Same H H'->SqT K H' r [.ref a',.ref c]->H' c=some (.lst (fs.map V.bl))->ShG K H' a' m'->Q (.ref r) H'
theorem sc_fitted:Bp ["shapes", "pairs", "made", "fits", "given", "asked", "after"] ["shapes", "pairs"] (Bh Iz):=by walk_at "sc"
theorem Zmh {f:Addr}{fd:FuncData}(F:Fun K "fitted" "fitted" Iz f fd)(T:Txt K mg)(C_joined:Be P w K mg base 3 "joined" ["shapes", "one", "other"] (Zeo K)):Bb P w K mg base Bc 4 f fd ["shapes", "pairs"] (Zdu K):=by
 refine F.okq sc_fitted (fun vs H Q E h=>?_) (fun cdv A outer s H vs Q E hr h=>?_)
 ·obtain ⟨a,b,m,m',pv,ps,fs,rfl,_⟩:=h
  rfl
 ·obtain ⟨a,b,m,m',pv,ps,fs,rfl,S,eb,al,hfit,hl,q⟩:=h
  refine ⟨_,Af (Ar 2 sc_fitted (qv 0))
   (Af (Ar 3 sc_fitted (Bf Ab))
   (Af (Cw P4 rfl (Cp K (qv 1)) (Df K (n:=2) rfl (Bx (A1 (i:=4) sc_fitted.nd rfl (Or.inl rfl)) (Bx (A1 (i:=5) sc_fitted.nd rfl (Or.inl rfl)) (C9)))) (Af (Ar 6 sc_fitted (A5 C_joined hr.m (Aa (qv 2) (Aa (qv 4) (Aa (qv 5) Ab)))))
   (Af (Co (C4 K P8 Qn Qo Di (qv 3) (Aa (Zez (Zh7 (qv 6))) Ab)))
   (Aj (Ar 2 sc_fitted (Lb (Hm (Ky (qv 6))) (qv 2) (qv 6)))))))
   (Aj (Aw (Ap (Aa (qv 2) (Aa (qv 3) Ab))))))),?_⟩
  have bg:=big
  have eN:∀ c:Addr,decide (V.ref c=V.non)=false:=fun c=>decide_eq_false (fun z=>by cases z)
  walk_at "r"
  refine ⟨Bo,fun pf hpf=>?_⟩
  have s1:=Same.upd (o:=.lst []) hpf
  obtain ⟨us,ea,_⟩:=S.ex
  walk_at "r"
  refine .inl ⟨b,rfl,⟨_,SqL.of (s1 _ _ eb)⟩,?_⟩
  refine Ie (K:=K) (a:=b) (xs:=pv) (fun i σ' H'=>∃ v4 v5 v6 am m1 fd1 fr,σ'=[some (.ref a),some (.ref b),some (.ref am),some (.ref pf),v4,v5,v6]/\H' pf=some (.lst (fd1.map V.bl))/\fd1.length=i/\ShG K H' am m1/\am≠pf/\Same H H'/\Ig (ps.drop i) m1 fr m'/\fd1++fr=fs)
   ⟨none,none,none,a,m,[],fs,rfl,Ad,rfl,S.same s1,Ax ea hpf,s1,hfit.o,rfl⟩ ?_ ?_ ?_
  ·rintro i σ' H' _ ⟨_,_,_,_,_,_,_,_,_,_,_,_,sm,_⟩
   exact SqL.of (sm _ _ eb)
  ·rintro i x σ' H1 hx ⟨v4,v5,v6,am,m1,fd1,fr,rfl,ef,lf,S1,nf,sm,ft,efs⟩
   obtain ⟨y,hy,p,rfl,qp⟩:=al.get hx
   obtain ⟨g,k⟩:=y
   have hi:=(Pg.mp hy).1
   have hdr:ps.drop i=(g,k)::ps.drop (i+1):=by
    rw [Rc hi]
    rw [Pb hi] at hy
    rw [Po hy]
   rw [hdr] at ft
   have hlen:(fd1.map V.bl).length < sizeLine:=by rw [Pe];omega
   cases ft with
   | @cons _ _ _ _ o _ fs2 j t =>
   have efs2:(fd1++[o.isSome])++fs2=fs:=by rw [<- efs,Qi];rfl
   walk_at "r"
   refine Dj (sm.tup qp) rfl ?_
   walk_at "r"
   refine ⟨am,m1,g,k,o,rfl,S1,j,fun a' m2 H2 ho s2 hn S2=>?_,fun H2 ho s2=>?_⟩
   ·subst ho
    walk_at "r"
    refine Ca (SqL.of (s2 _ _ ef)) ?_
    walk_at "r"
    refine C8 (s2 _ _ ef) hlen ?_
    rw [eN a']
    walk_at "r"
    rw [eN a']
    walk_at "r"
    exact ⟨_,_,_,a',m2,fd1++[true],fs2,rfl,by rw [Ad,Qf];rfl,by simp [lf],S2.off (Ax ef hn).symm (s2 _ _ ef),(Ax ef hn).symm,(sm.trans s2).over hpf,t,efs2⟩
   ·subst ho
    walk_at "r"
    refine Ca (SqL.of (s2 _ _ ef)) ?_
    walk_at "r"
    refine C8 (s2 _ _ ef) hlen ?_
    rw [decide_eq_true (Eq.refl V.non)]
    walk_at "r"
    rw [decide_eq_true (Eq.refl V.non)]
    walk_at "r"
    exact ⟨_,_,_,am,m1,fd1++[false],fs2,rfl,by rw [Ad,Qf];rfl,by simp [lf],(S1.same s2).off nf (s2 _ _ ef),nf,(sm.trans s2).over hpf,t,efs2⟩
  ·rintro σ' H1 ⟨v4,v5,v6,am,m1,fd1,fr,rfl,ef,lf,S1,nf,sm,ft,efs⟩
   rw [al.1,Wa] at ft
   cases ft
   rw [Qc] at efs
   subst efs
   walk_at "r"
   refine ⟨B6,fun r hr'=>?_⟩
   have s2:=Same.upd (o:=.tup [.ref am,.ref pf]) hr'
   exact q r am pf _ (sm.trans s2) (SqT.of Ad) (s2 _ _ ef) (S1.same s2)
inductive Kd where
 | num | truth | any (n:Nat) | to (a b:Kd)
 deriving DecidableEq
inductive KdAt (K:O9)(H:Hp):V->Kd->Prop where
 | num {a:Addr} (q:SqT K H a [.str "num"]):KdAt K H (.ref a) .num
 | truth {a:Addr} (q:SqT K H a [.str "truth"]):KdAt K H (.ref a) .truth
 | any {a:Addr} {n:Nat} (q:SqT K H a [.str "any",.int (n:Nat)]):KdAt K H (.ref a) (.any n)
 | to {a:Addr} {u v:V} {x y:Kd} (q:SqT K H a [.str "to",u,v]) (hx:KdAt K H u x) (hy:KdAt K H v y):KdAt K H (.ref a) (.to x y)
theorem KdAt.same {H H':Hp}{v:V}{k:Kd}(h:KdAt K H v k)(e:SameT H H'):KdAt K H' v k:=by
 induction h with
 | num q=>exact .num (e.tup q)
 | truth q=>exact .truth (e.tup q)
 | any q=>exact .any (e.tup q)
 | to q _ _ ih1 ih2=>exact .to (e.tup q) ih1 ih2
noncomputable abbrev Td:=Nat->Option Kd
noncomputable def Ci (td:Td)(i:Nat)(k:Kd):Td:=fun j=>if j=i then some k else td j
inductive Lasts (sh:Ae):List Nat->List Nat->Prop where
 | nil:Lasts sh [] []
 | cons {p r:Nat} {ps rs:List Nat} (h:Last sh p r) (t:Lasts sh ps rs):Lasts sh (p::ps) (r::rs)
theorem Lasts.at {sh:Ae}{ps rs:List Nat}(h:Lasts sh ps rs):ps.length=rs.length/\∀ j (h1:j < ps.length) (h2:j < rs.length),Last sh ps[j] rs[j]:=by
 induction h with
 | nil=>exact ⟨rfl,fun j h1=>absurd h1 (Rj _)⟩
 | cons h _ ih =>
  refine ⟨by rw [Pj,Pj,ih.1],fun j h1 h2=>?_⟩
  match j,h1,h2 with
  | 0,_,_=>exact h
  | j+1,h1,h2=>exact ih.2 j (by simpa using h1) (by simpa using h2)
inductive MkK (td:Td):Sh->List Nat->Kd->Prop where
 | num:MkK td .num [] .num
 | truth:MkK td .truth [] .truth
 | to {a b r s:Nat} {x y:Kd} (hx:td r=some x) (hy:td s=some y):MkK td (.to a b) [r,s] (.to x y)
noncomputable def Cv (td:Td)(rs:List Nat):List Nat:=rs.filter fun r=>(td r).isNone
inductive ToldN (sh:Ae):Nat->Td->Nat->List Nat->Td->Prop where
 | nil {td:Td} {c:Nat}:ToldN sh 0 td c [] td
 | seen {n c x r:Nat} {td td':Td} {w rs:List Nat} {s:Sh} {k:Kd} (hl:Last sh x r) (hs:sh[r]?=some s) (hp:Lasts sh s.parts rs) (h:td r=some k) (t:ToldN sh n td c w td'):ToldN sh (n+1) td c (w++[x]) td'
 | miss {n c x r p:Nat} {td td':Td} {w rs q:List Nat} {s:Sh} (hl:Last sh x r) (hs:sh[r]?=some s) (hp:Lasts sh s.parts rs) (h:td r=none) (hm:Cv td rs=p::q) (t:ToldN sh n td c (w++[x]++[p]) td'):ToldN sh (n+1) td c (w++[x]) td'
 | any {n c x r:Nat} {td td':Td} {w rs:List Nat} (hl:Last sh x r) (hs:sh[r]?=some .any) (hp:Lasts sh Sh.any.parts rs) (h:td r=none) (t:ToldN sh n (Ci td r (.any c)) (c+1) (w++[x]) td'):ToldN sh (n+1) td c (w++[x]) td'
 | mk {n c x r:Nat} {td td':Td} {w rs:List Nat} {s:Sh} {k:Kd} (hl:Last sh x r) (hs:sh[r]?=some s) (hp:Lasts sh s.parts rs) (h:td r=none) (hm:Cv td rs=[]) (hk:MkK td s rs k) (t:ToldN sh n (Ci td r k) c (w++[x]) td'):ToldN sh (n+1) td c (w++[x]) td'
theorem ToldN.inv {sh:Ae}{n c:Nat}{td td':Td}{w:List Nat}(h:ToldN sh n td c w td'):(w=[]/\td'=td)\/∃ w1 x r s rs n',w=w1++[x]/\n=n'+1/\Last sh x r/\sh[r]?=some s/\Lasts sh s.parts rs /\
  ((∃ k,td r=some k/\ToldN sh n' td c w1 td')\/(∃ p q,td r=none/\Cv td rs=p::q/\ToldN sh n' td c (w1++[x]++[p]) td')\/(td r=none/\Cv td rs=[]/\s=.any/\ToldN sh n' (Ci td r (.any c)) (c+1) (w1++[x]) td')\/(∃ k,td r=none/\Cv td rs=[]/\MkK td s rs k/\ToldN sh n' (Ci td r k) c (w1++[x]) td')):=by
 cases h with
 | nil=>exact .inl ⟨rfl,rfl⟩
 | seen hl hs hp h t=>exact .inr ⟨_,_,_,_,_,_,rfl,rfl,hl,hs,hp,.inl ⟨_,h,t⟩⟩
 | miss hl hs hp h hm t=>exact .inr ⟨_,_,_,_,_,_,rfl,rfl,hl,hs,hp,.inr (.inl ⟨_,_,h,hm,t⟩)⟩
 | any hl hs hp h t=>exact .inr ⟨_,_,_,_,_,_,rfl,rfl,hl,hs,hp,.inr (.inr (.inl ⟨h,by cases hp;rfl,rfl,t⟩))⟩
 | mk hl hs hp h hm hk t=>exact .inr ⟨_,_,_,_,_,_,rfl,rfl,hl,hs,hp,.inr (.inr (.inr ⟨_,h,hm,hk,t⟩))⟩
noncomputable def TdAt (K:O9)(H:Hp)(kvs:List (Au×V))(td:Td):Prop:=∀ i:Nat,(td i=none->Bz kvs (.inl ((i:Nat):Int))=none)/\∀ k,td i=some k->∃ v,Bz kvs (.inl ((i:Nat):Int))=some v/\KdAt K H v k
theorem TdAt.same {H H':Hp}{kvs:List (Au×V)}{td:Td}(h:TdAt K H kvs td)(e:SameT H H'):TdAt K H' kvs td:=fun i=>⟨(h i).1,fun k hk=>let ⟨v,h1,h2⟩:=(h i).2 k hk;⟨v,h1,h2.same e⟩⟩
theorem TdAt.has {H:Hp}{kvs:List (Au×V)}{td:Td}(h:TdAt K H kvs td)(i:Nat):(Bz kvs (.inl ((i:Nat):Int))).isSome=(td i).isSome:=by
 cases e:td i with
 | none=>rw [(h i).1 e];rfl
 | some k=>obtain ⟨v,h1,_⟩:=(h i).2 k e;rw [h1];rfl
theorem TdAt.put {H:Hp}{kvs:List (Au×V)}{td:Td}{v:V}{k:Kd}(h:TdAt K H kvs td)(i:Nat)(hv:KdAt K H v k):TdAt K H (Bm kvs (.inl ((i:Nat):Int)) v) (Ci td i k):=fun j=>by
 rw [Li]
 by_cases hj:j=i
 ·have e1:Ci td i k j=some k:=if_pos hj
  rw [if_pos (by rw [hj]),e1]
  exact ⟨(fun e=>by cases e),fun k' e=>⟨v,rfl,by cases e;exact hv⟩⟩
 ·have e1:Ci td i k j=td j:=if_neg hj
  rw [if_neg fun z=>hj (Zea z),e1]
  exact h j
theorem Zpv (td:Td)(rs:List Nat)(r:Nat):Cv td (rs++[r])=Cv td rs++if (td r).isNone=true then [r] else []:=by
 unfold Cv
 rw [Tq]
 cases e:(td r).isNone with
 | true=>rw [if_pos rfl,Vl (by exact e)];rfl
 | false=>rw [if_neg (by decide),Tf (by rw [e];decide)];rfl
theorem Zqn {td:Td}{rs:List Nat}{r:Nat}(h:Cv td rs=[])(hr:r∈rs):∃ k,td r=some k:=by
 cases e:td r with
 | some k=>exact ⟨k,rfl⟩
 | none =>
  have:r∈Cv td rs:=Ri.mpr ⟨hr,by rw [e];rfl⟩
  rw [h] at this
  cases this
noncomputable def Zev (K:O9):Sp:=fun vs H Q _=>∃(a b:Addr)(sh:Ae)(ws:List Nat)(ks:List Kd)(N:Nat)(td':Td),vs=[.ref a,.ref b]/\ShG K H a sh/\H b=some (.lst (Am ws))/\ToldN sh N (fun _=>none) 0 ws.reverse td'/\N<=2000/\ws.length<=1000/\ks.length=ws.length/\(∀(j x:Nat)(k:Kd),ws[j]?=some x->ks[j]?=some k->∃ r,Last sh x r/\td' r=some k) /\
 ∀ c us H',Same H H'->H c=none->H' c=some (.lst us)->Al (KdAt K H') us ks->Q (.ref c) H'
structure ToJ (K:O9)(H:Hp)(pd pw:Addr)(M n:Nat)(td:Td)(w:List Nat)(H':Hp):Prop where
 ed:∃ kvs,H' pd=some (.dK kvs)/\TdAt K H' kvs td/\kvs.length+n<=M
 ew:H' pw=some (.lst (Am w))
 wl:w.length+n<=M
 sm:Same H H'
theorem dk_t {H:Hp}{S:Addr}{kv:List (Au×V)}{o2:HO}(h:H S=some (.dK kv)):SameT H (upd H S o2):=fun b =>
 ⟨fun xs e=>by rw [Ai (Eu e h (by intro z;cases z))];exact e,fun o' u e=>by rw [Ai (Eu e h (by intro z;cases z))];exact e⟩
theorem Zqx:(["part", "shapes"]:List Str).Nodup:=by decide +kernel
theorem Zq0:(["part", "told"]:List Str).Nodup:=by decide +kernel
theorem Zny:(["part", "told"]:List Str).Nodup:=by decide +kernel
theorem Zl5:(["kind", "told", "shapes"]:List Str).Nodup:=by decide +kernel
theorem sc_kinds_told:Bp ["shapes", "wanted", "told", "many_unknown", "waiting", "kind", "parts", "missing"] ["shapes", "wanted"] (Bh Ih):=by walk_at "sc"
theorem Zkm {f:Addr}{fd:FuncData}(F:Fun K "kinds_told" "kinds_told" Ih f fd)(T:Txt K mg)(C_last_same:Be P w K mg base 1 "last_same" ["shapes", "kind"] (Lu K)):Bb P w K mg base Bc 2 f fd ["shapes", "wanted"] (Zev K):=by
 refine F.okq sc_kinds_told (fun vs H Q E h=>?_) (fun cdv A outer s H vs Q E hr h=>?_)
 ·obtain ⟨a,b,sh,ws,ks,N,td',rfl,_⟩:=h
  rfl
 ·obtain ⟨a,b,sh,ws,ks,N,td',rfl,S,eb,hT,hN,hl,lk,hks,q⟩:=h
  refine ⟨_,Af (Hs (i:=2) sc_kinds_told.nd rfl (Or.inr rfl) (N9))
   (Af (Ar 3 sc_kinds_told Ah)
   (Af (Ar 4 sc_kinds_told (Zox K (by rfl) T.list (by rfl) T.reversed (Aa (qv 1) Ab)))
   (Af (Hk P4 (F9 K (qv 4) (by intro _;rfl)) (Af (Ar 5 sc_kinds_told (A5 C_last_same hr.m (Aa (qv 0) (Aa (Ao K (qv 4) (Io Kc Ah)) Ab))))
   (Af (La (i:=6) (N:=["part", "shapes"]) (σ0:=Cq 1 [0]) rfl (Dl rfl (by decide +kernel) (by decide +kernel) (by decide +kernel)) (Cp K (C1 (Ed K) (Ao K (qv 0) (qv 5)) (Cd Ah) (Ew))) (Dq rfl (by rfl)) (fun _ _ _ _=>A1 (i:=0) Zqx rfl (Or.inl rfl)) (fun _ _ _ _=>Fa) (fun _ _ _ _=>A5 C_last_same hr.m (Aa (qv 1) (Aa (qv 0) Ab))) sc_kinds_told.nd rfl (Or.inl rfl))
   (Af (La (i:=7) (N:=["part", "told"]) (σ0:=Cq 1 [2]) rfl (Dl rfl (by decide +kernel) (by decide +kernel) (by decide +kernel)) (Cp K (qv 6)) (Dq rfl (by rfl)) (fun _ _ _ _=>A1 (i:=0) Zq0 rfl (Or.inl rfl)) (fun _ _ _ _=>Kb (Hm (Zj1 hr.u1 (qv 0) (qv 1)))) (fun _ _ _ _=>qv 0) sc_kinds_told.nd rfl (Or.inl rfl))
   (Aj (Ay (Hm (Zfd hr.u1 (qv 5) (qv 2))) (Aj (Co (Jr K P8 Tg Th Jv (qv 4)))) (Aj (Ay (F9 K (qv 7) (by intro _;rfl)) (Aj (Co (C4 K P8 Qn Qo Di (qv 4) (Aa (Ao K (qv 7) Ah) Ab)))) (Aj (Ay (A6 (Bl K hr.u200) (Ao K (Ao K (qv 0) (qv 5)) Ah) Av (A7 _)) (Af (Gk hr.u1 (qv 2) (qv 5) (Ap (Aa Av (Aa (qv 3) Ab))))
   (Aj (Zhk (i:=3) sc_kinds_told.nd rfl (Or.inl rfl) Ah Zqp))) (Aj (Gk hr.u1 (qv 2) (qv 5) (A0 (F4 K) (Ap (Aa (Ao K (Ao K (qv 0) (qv 5)) Ah) Ab)) (Fl (Mc K) (by rfl) T.tuple (by decide +kernel) (Aa (Ey (N:=["part", "told"]) (σ0:=Cq 1 [2]) rfl (Dl rfl (by decide +kernel) (by decide +kernel) (by decide +kernel)) (Cp K (qv 6)) (Dq rfl (by rfl)) (fun _ _ _ _=>A1 (i:=0) Zny rfl (Or.inl rfl)) (fun _ _ _ _=>Fa) (fun _ _ _ _=>Lz hr.u1 (qv 1) (qv 0) (fun _ _=>rfl))) Ab)))))))))))))))
   (Aj (Aw (Ey (N:=["kind", "told", "shapes"]) (σ0:=Cq 1 [2,0]) rfl (Dl rfl (by decide +kernel) (by decide +kernel) (by decide +kernel)) (Cp K (qv 1)) (Dq rfl (by rfl)) (fun _ _ _ _=>A1 (i:=0) Zl5 rfl (Or.inl rfl)) (fun _ _ _ _=>Fa) (fun _ _ _ _=>Lz hr.u1 (qv 1) (A5 C_last_same hr.m (Aa (qv 2) (Aa (qv 0) Ab))) (fun _ _=>rfl)))))))),?_⟩
  have bg:=big
  walk_at "r"
  refine fun pd hpd=>?_
  have s1:=Same.upd (o:=.dK []) hpd
  walk_at "r"
  refine ⟨b,Am ws,rfl,SqL.of (s1 _ _ eb),fun pw H2 hpw s2 ew=>?_⟩
  have nd:pd≠pw:=Ax Ad hpw
  have hpw0:H pw=none:=s1.free hpw
  have ew:H2 pw=some (.lst (Am ws.reverse)):=by rw [ew];unfold Am;rw [List.map_reverse]
  walk_at "r"
  refine ⟨fun n σ' H'=>∃ v5 v6 v7 td w,∃ c:Nat,σ'=[some (.ref a),some (.ref b),some (.ref pd),some (.int (c:Nat)),some (.ref pw),v5,v6,v7]/\ToJ K H pd pw (N+ws.length) n td w H'/\ToldN sh n td c w td',
   ⟨N,none,none,none,fun _=>none,ws.reverse,0,rfl,⟨⟨[],s2 _ _ Ad,fun i=>⟨fun _=>rfl,fun k e=>by cases e⟩,by simp⟩,ew,by rw [Tk];omega,s1.trans s2⟩,hT⟩,?_⟩
  rintro n σ' H3 ⟨v5,v6,v7,td,w0,c,rfl,J,hh⟩
  obtain ⟨kvs,ed,tda,kl⟩:=J.ed
  have wl:=J.wl
  walk_at "r"
  refine Gf (SqL.of J.ew) ?_
  rcases hh.inv with ⟨rfl,rfl⟩ | ⟨w1,x,r,sp,rs,n,rfl,rfl,hL,hs,hp,hc⟩
  ·refine iteF ?_
   walk_at "r"
   refine .inl ⟨b,rfl,⟨_,SqL.of (J.sm _ _ eb)⟩,fun D hD=>?_⟩
   have hD0:H D=none:=J.sm.free hD
   have nDd:D≠pd:=(Ax ed hD).symm
   refine E4 (K:=K) (a:=b) (xs:=Am ws) (Pv:=fun i ys σ' H'=>∃ x0,σ'=[x0,some (.ref pd),some (.ref a)]/\H' pd=some (.dK kvs)/\Al (KdAt K H') ys (ks.take i)/\TdAt K H' kvs td'/\Same H H') ⟨none,rfl,by rw [Ai nDd.symm];exact ed,.nil,tda.same (SameT.new hD),J.sm.put hD⟩ ?_ ?_ ?_
   ·rintro i ys σ' H' _ ⟨_,_,_,_,_,sm⟩
    exact SqL.of (sm _ _ eb)
   ·rintro i x ys σ' H' hx hys ⟨x0,rfl,ed,aly,td,sm⟩
    have hi:i < ws.length:=by have:=(Pg.mp hx).1;unfold Am at this;rwa [Pe] at this
    have hik:i < ks.length:=by omega
    have hx':x=.int (ws[i]:Nat):=by unfold Am at hx;rw [Pq,Pb hi] at hx;exact (Po hx).symm
    subst hx'
    obtain ⟨r,hr1,hr2⟩:=hks i _ _ (Pb hi) (Pb hik)
    obtain ⟨v,hv,kv⟩:=(td r).2 _ hr2
    walk_at "r"
    refine ⟨a,sh,ws[i],r,rfl,S.same sm,hr1,?_⟩
    refine ⟨pd,v,rfl,by rw [<- hv];exact DGet.k (k:=.inl ((r:Nat):Int)) ed,?_⟩
    have t6:SameT H' (upd H' D (.lst (ys++[v]))):=SameT.set hys
    refine ⟨ys,hys,by rw [aly.1,Pt];omega,_,Ad,_,rfl,by rw [Ai nDd.symm];exact ed,?_,td.same t6,sm.over hD0⟩
    rw [Qv,Pb hik]
    exact (aly.mono fun _ _ h=>h.same t6).snoc (kv.same t6)
   ·rintro ys σ' H' hys ⟨x0,rfl,ed,aly,td,sm⟩
    have e2:(Am ws).length=ks.length:=by unfold Am;rw [Pe,lk]
    rw [e2,Qz] at aly
    exact q D ys H' sm hD0 hys aly
  have ew3:=J.ew
  rw [Pl,Qa] at wl
  have erv:Am (w1++[x])=Am w1++[.int (x:Nat)]:=by rw [Fv];rfl
  rw [erv] at ew3 ⊢
  rw [show (!(Am w1++[V.int ((x:Nat):Int)]).isEmpty)=true by simp]
  refine iteT ?_
  refine ⟨fun σ2 H2=>∃ m',m' < n+1/\∃ v5 v6 v7 td w,∃ c:Nat,σ2=[some (.ref a),some (.ref b),some (.ref pd),some (.int (c:Nat)),some (.ref pw),v5,v6,v7]/\ToJ K H pd pw (N+ws.length) m' td w H2/\ToldN sh m' td c w td',fun _ _ h=>h,?_⟩
  walk_at "r"
  refine Bk (SqL.of ew3) (Ii _ _) ?_
  walk_at "r"
  refine ⟨a,sh,x,r,rfl,S.same J.sm,hL,?_⟩
  walk_at "r"
  obtain ⟨us,p,e,eu,qp⟩:=(S.same J.sm).at hs
  refine Bk (SqL.of e) eu ?_
  walk_at "r"
  refine .inr (.inr ⟨p,_,rfl,qp,Ls,fun p3 h3=>?_⟩)
  rw [Kn]
  have s4:=Same.upd (o:=.tup (Am sp.parts)) h3
  obtain ⟨lp,hpa⟩:=hp.at
  have hpl:=Zak sp
  refine .inr (.inl ⟨p3,rfl,⟨_,SqT.of Ad⟩,fun D hD=>?_⟩)
  refine Zp7 (K:=K) (a:=p3) (xs:=Am sp.parts) (Pv:=fun i ys σ' H'=>∃ x0,σ'=[x0,some (.ref a)]/\ys=Am (rs.take i)/\H' p3=some (.tup (Am sp.parts))/\Same H3 H') ⟨none,rfl,rfl,(Same.upd hD) _ _ Ad,s4.put hD⟩ ?_ ?_ ?_
  ·rintro i ys σ' H' _ ⟨_,_,_,e,_⟩
   exact SqT.of e
  ·rintro i x ys σ' H' hx hys ⟨x0,rfl,rfl,ep3,sm⟩
   have hi:i < sp.parts.length:=by have:=(Pg.mp hx).1;unfold Am at this;rwa [Pe] at this
   have hir:i < rs.length:=by omega
   have hx':x=.int (sp.parts[i]:Nat):=by unfold Am at hx;rw [Pq,Pb hi] at hx;exact (Po hx).symm
   subst hx'
   walk_at "r"
   refine ⟨a,sh,sp.parts[i],rs[i],rfl,S.same (J.sm.trans sm),hpa i hi hir,?_⟩
   refine ⟨_,hys,by unfold Am;rw [Pe,Pt];omega,_,Ad,_,rfl,?_,by rw [Ai (Zcl hys ep3)];exact ep3,sm.over (s4.free hD)⟩
   rw [Qv,Pb hir,Fv]
   rfl
  ·rintro ys σ' H5 hys ⟨x0,rfl,rfl,ep3,sm5⟩
   have e2:(Am sp.parts).length=rs.length:=by unfold Am;rw [Pe,lp]
   rw [e2,Qz] at hys
   walk_at "r"
   have ed5:=sm5 _ _ ed
   have tda5:=tda.same sm5.t
   refine .inl ⟨D,rfl,⟨_,SqL.of hys⟩,fun D2 hD2=>?_⟩
   have nD2:D2≠D:=(Ax hys hD2).symm
   have nD2d:D2≠pd:=(Ax ed5 hD2).symm
   refine E4 (K:=K) (a:=D) (xs:=Am rs) (Pv:=fun i ys σ' H'=>∃ x0,σ'=[x0,some (.ref pd)]/\ys=Am (Cv td (rs.take i))/\H' D=some (.lst (Am rs))/\H' pd=some (.dK kvs)/\Same H5 H') ⟨none,rfl,rfl,by rw [Ai nD2.symm];exact hys,by rw [Ai nD2d.symm];exact ed5,Same.upd hD2⟩ ?_ ?_ ?_
   ·rintro i ys σ' H' _ ⟨_,_,_,e,_⟩
    exact SqL.of e
   ·rintro i x ys σ' H' hx hys2 ⟨x0,rfl,rfl,eD,edd,sm⟩
    have hir:i < rs.length:=by have:=(Pg.mp hx).1;unfold Am at this;rwa [Pe] at this
    have hx':x=.int (rs[i]:Nat):=by unfold Am at hx;rw [Pq,Pb hir] at hx;exact (Po hx).symm
    subst hx'
    have hml:(Cv td (rs.take i)).length<=rs.length:=P5 (Rn _ _) (by rw [Pt];omega)
    have hms:=Zpv td (rs.take i) rs[i]
    rw [show rs.take i++[rs[i]]=rs.take (i+1) by rw [Qv,Pb hir];rfl] at hms
    walk_at "r"
    refine ⟨pd,_,rfl,DGet.k (k:=.inl ((rs[i]:Nat):Int)) edd,?_⟩
    rw [tda.has rs[i]]
    cases et:td rs[i] with
    | some k =>
     rw [et] at hms
     have hms:Cv td (rs.take (i+1))=Cv td (rs.take i):=by rw [hms];exact Qc _
     refine ⟨false,rfl,?_⟩
     refine iteF ?_
     exact ⟨_,hys2,_,rfl,by rw [hms],eD,edd,sm⟩
    | none =>
     rw [et] at hms
     have hms:Cv td (rs.take (i+1))=Cv td (rs.take i)++[rs[i]]:=hms
     refine ⟨true,rfl,?_⟩
     refine iteT ?_
     walk_at "r"
     refine ⟨_,hys2,by unfold Am;rw [Pe];omega,_,Ad,_,rfl,by rw [hms,Fv];rfl,by rw [Ai nD2.symm];exact eD,by rw [Ai nD2d.symm];exact edd,sm.over hD2⟩
   ·rintro ys σ' H6 hys2 ⟨x0,rfl,rfl,eD,edd,sm6⟩
    have e3:(Am rs).length=rs.length:=by unfold Am;exact Pe ..
    rw [e3,Qz] at hys2
    have s36:Same H3 H6:=sm5.trans sm6
    have tda6:=tda.same s36.t
    have ew6:=s36 _ _ ew3
    have e6:=s36 _ _ e
    have qp6:=s36.tup qp
    walk_at "r"
    refine ⟨pd,_,rfl,DGet.k (k:=.inl ((r:Nat):Int)) edd,?_⟩
    rw [tda.has r]
    rcases hc with ⟨k,hk,t⟩ | ⟨p',q',hk,hm,t⟩ | ⟨hk,hm,rfl,t⟩ | ⟨k,hk,hm,hmk,t⟩
    ·rw [hk]
     refine ⟨true,rfl,?_⟩
     walk_at "r"
     refine Ca (SqL.of ew6) ?_
     refine Ki ew6 ?_
     exact ⟨n,by omega,_,_,_,td,w1,c,rfl,⟨⟨kvs,by rw [Ai nd];exact edd,tda6.same (SameT.set ew6),by omega⟩,Ad,by omega,(J.sm.trans s36).over hpw0⟩,t⟩
    ·rw [hk]
     rw [hm] at hys2
     refine ⟨false,rfl,?_⟩
     walk_at "r"
     refine Gf (SqL.of hys2) ?_
     refine iteT ?_
     walk_at "r"
     refine Ca (SqL.of ew6) ?_
     walk_at "r"
     refine Bk (SqL.of hys2) D0 ?_
     walk_at "r"
     have hwl:(Am w1++[V.int ((x:Nat):Int)]).length < sizeLine:=by unfold Am;rw [Pl,Pe,Qa];omega
     refine C8 ew6 hwl ?_
     exact ⟨n,by omega,_,_,_,td,w1++[x]++[p'],c,rfl,⟨⟨kvs,by rw [Ai nd];exact edd,tda6.same (SameT.set ew6),by omega⟩,by rw [Ad,Fv,Fv];rfl,by simp;omega,(J.sm.trans s36).over hpw0⟩,t⟩
    ·rw [hk]
     rw [hm] at hys2
     refine ⟨false,rfl,?_⟩
     walk_at "r"
     refine Gf (SqL.of hys2) ?_
     refine iteF ?_
     walk_at "r"
     refine Bk (SqL.of e6) eu ?_
     walk_at "r"
     refine Az qp6 D0 ?_
     walk_at "r"
     rw [G3,decide_eq_true (Eq.refl Sh.any)]
     walk_at "r"
     refine ⟨B6,fun p8 h8=>?_⟩
     have s8:=Same.upd (o:=.tup [.str "any",.int (c:Nat)]) h8
     walk_at "r"
     refine ⟨pd,_,rfl,DPut.k (k:=.inl ((r:Nat):Int)) (s8 _ _ edd) (by omega),?_⟩
     have t9:=dk_t (o2:=.dK (Bm kvs (.inl ((r:Nat):Int)) (.ref p8))) (s8 _ _ edd)
     have hl9:=Ej kvs (.inl ((r:Nat):Int)) (.ref p8)
     walk_at "r"
     have ec:((c:Nat):Int)+1=((c+1:Nat):Int):=by omega
     rw [ec]
     exact ⟨n,by omega,_,_,_,Ci td r (.any c),w1++[x],c+1,rfl,⟨⟨_,Ad,((tda6.same s8.t).same t9).put r (.any (t9.tup (SqT.of Ad))),by omega⟩,by rw [Ai nd.symm,erv];exact s8 _ _ ew6,by simp;omega,((J.sm.trans s36).trans s8).over hpd⟩,t⟩
    ·rw [hk]
     rw [hm] at hys2
     have hna:sp≠.any:=by cases hmk <;> exact fun z=>by cases z
     refine ⟨false,rfl,?_⟩
     walk_at "r"
     refine Gf (SqL.of hys2) ?_
     refine iteF ?_
     walk_at "r"
     refine Bk (SqL.of e6) eu ?_
     walk_at "r"
     refine Az qp6 D0 ?_
     walk_at "r"
     rw [G3,decide_eq_false hna]
     walk_at "r"
     refine Bk (SqL.of e6) eu ?_
     walk_at "r"
     refine Az qp6 D0 ?_
     walk_at "r"
     refine ⟨Cm,fun p8 h8=>?_⟩
     have s8:=Same.upd (o:=.tup [.str sp.wd]) h8
     walk_at "r"
     refine .inl ⟨D,rfl,⟨_,SqL.of (s8 _ _ eD)⟩,fun D9 h9=>?_⟩
     have eD8:=s8 _ _ eD
     have nD9:D9≠D:=(Ax eD8 h9).symm
     have nD9d:D9≠pd:=(Ax (s8 _ _ edd) h9).symm
     refine E4 (K:=K) (a:=D) (xs:=Am rs) (Pv:=fun i ys σ' H'=>∃ x0,σ'=[x0,some (.ref pd)]/\H' D=some (.lst (Am rs))/\H' pd=some (.dK kvs)/\TdAt K H' kvs td/\Al (fun v i=>∃ k,td i=some k/\KdAt K H' v k) ys (rs.take i)/\Same (upd H6 p8 (.tup [.str sp.wd])) H') ⟨none,rfl,by rw [Ai nD9.symm];exact eD8,by rw [Ai nD9d.symm];exact s8 _ _ edd,(tda6.same s8.t).same (SameT.new h9),.nil,Same.upd h9⟩ ?_ ?_ ?_
     ·rintro i ys σ' H' _ ⟨_,_,e,_⟩
      exact SqL.of e
     ·rintro i x ys σ' H' hx hys3 ⟨x0,rfl,eD',edd',tda',aly,sm⟩
      have hir:i < rs.length:=by have:=(Pg.mp hx).1;unfold Am at this;rwa [Pe] at this
      have hx':x=.int (rs[i]:Nat):=by unfold Am at hx;rw [Pq,Pb hir] at hx;exact (Po hx).symm
      subst hx'
      obtain ⟨k1,hk1⟩:=Zqn hm (Tv hir)
      obtain ⟨v,hv,kv⟩:=(tda' rs[i]).2 k1 hk1
      walk_at "r"
      refine ⟨pd,v,rfl,by rw [<- hv];exact DGet.k (k:=.inl ((rs[i]:Nat):Int)) edd',?_⟩
      have t6:SameT H' (upd H' D9 (.lst (ys++[v]))):=SameT.set hys3
      refine ⟨ys,hys3,by rw [aly.1,Pt];omega,_,Ad,_,rfl,by rw [Ai nD9.symm];exact eD',by rw [Ai nD9d.symm];exact edd',tda'.same t6,?_,sm.over h9⟩
      rw [Qv,Pb hir]
      exact (aly.mono fun _ _ ⟨k,h1,h2⟩=>⟨k,h1,h2.same t6⟩).snoc ⟨k1,hk1,kv.same t6⟩
     ·rintro zs σ' H' hys3 ⟨x0,rfl,eD',edd',tda',aly,sm⟩
      rw [e3,Qz] at aly
      walk_at "r"
      refine M7 (SqL.of hys3) fun pa ha=>?_
      have sa:=Same.upd (o:=.tup zs) ha
      have hzl:zs.length<=2:=by rw [aly.1];omega
      refine Zon ((sm.trans sa).tup (SqT.of Ad)) (SqT.of Ad) (by show 1+zs.length<=sizeLine;omega) fun r9 Hb sb qr=>?_
      have sB:Same H' Hb:=sa.trans sb
      have sAll:Same H3 Hb:=s36.trans ((s8.trans sm).trans sB)
      walk_at "r"
      refine ⟨pd,_,rfl,DPut.k (k:=.inl ((r:Nat):Int)) (sB _ _ edd') (by omega),?_⟩
      have tP:=dk_t (o2:=.dK (Bm kvs (.inl ((r:Nat):Int)) (.ref r9))) (sB _ _ edd')
      have hl9:=Ej kvs (.inl ((r:Nat):Int)) (.ref r9)
      have kr:KdAt K Hb (.ref r9) k:=by
       have aly':=aly.mono fun v i (h:∃ k,td i=some k/\KdAt K H' v k)=>(show ∃ k,td i=some k/\KdAt K Hb v k from let ⟨k,h1,h2⟩:=h;⟨k,h1,h2.same sB.t⟩)
       cases hmk with
       | num =>
        have:zs=[]:=Rb aly.1
        subst this
        exact .num qr
       | truth =>
        have:zs=[]:=Rb aly.1
        subst this
        exact .truth qr
       | @to _ _ r1 r2 x1 y1 hx1 hy1 =>
        obtain ⟨u,v,rfl⟩:=lz2 (vs:=zs) aly'.1
        obtain ⟨k1,h1,h2⟩:=aly'.2 0 u r1 rfl rfl
        obtain ⟨k2,h3,h4⟩:=aly'.2 1 v r2 rfl rfl
        rw [hx1] at h1
        rw [hy1] at h3
        cases h1
        cases h3
        exact .to qr h2 h4
      exact ⟨n,by omega,_,_,_,Ci td r k,w1++[x],c,rfl,⟨⟨_,Ad,((tda'.same sB.t).same tP).put r (kr.same tP),by omega⟩,by rw [Ai nd.symm,erv];exact sAll _ _ ew3,by simp;omega,(J.sm.trans sAll).over hpd⟩,t⟩
noncomputable def Zfo (K:O9):Sp:=fun vs H Q _=>∃(v:V)(t:Tr),vs=[v]/\TrAt K H v t/\t.size<=2000/\∀(p:Addr)(rows:List V)(H':Hp),Same H H'->H p=none->H' p=some (.lst rows)->Al (RowT K H') rows (walk [] t)->Q (.ref p) H'
theorem sc_placed_forms:Bp ["tree", "told", "waiting", "pair", "number", "part"] ["tree"] (Bh Jm):=by walk_at "sc"
noncomputable def PlJ (K:O9)(H:Hp)(v:V)(t:Tr)(pt pw:Addr)(m:Nat)(σ:St)(H':Hp):Prop:=∃(v3 v4 v5:Option V)(tv wv:List V)(dn st:List (List Nat×Tr)),σ=[some v,some (.ref pt),some (.ref pw),v3,v4,v5]/\H' pt=some (.lst tv)/\H' pw=some (.lst wv) /\
 Al (RowT K H') tv dn/\Al (RowT K H') wv st/\dn++Ez st=walk [] t/\m=load st/\Same H H'
theorem Zij {f:Addr}{fd:FuncData}(F:Fun K "placed_forms" "placed_forms" Jm f fd)(T:Txt K mg):Bb P w K mg base Bc 1 f fd ["tree"] (Zfo K):=by
 refine F.okq sc_placed_forms (fun vs H Q E h=>?_) (fun cdv A outer s H vs Q E hr h=>?_)
 ·obtain ⟨v,t,rfl,_⟩:=h
  rfl
 ·obtain ⟨v,t,rfl,ht,hz,q⟩:=h
  refine ⟨_,Af (Ar 1 sc_placed_forms (Bf Ab))
   (Af (Ar 2 sc_placed_forms (Bf (Aa (Ap (Aa (Ap Ab) (Aa (qv 0) Ab))) Ab)))
   (Af (Hk P4 (F9 K (qv 2) (by intro _;rfl)) (Af (Ar 3 sc_placed_forms (Jr K P8 Tg Th Jv (qv 2)))
   (Af (Co (C4 K P8 Qn Qo Di (qv 1) (Aa (qv 3) Ab)))
   (Aj (Cw P4 rfl (Zk0 K rfl T.reversed (Aa (Zjx K (by rfl) T.list (by rfl) T.enumerate (Aa (Ao K (Ao K (qv 3) Ah) Ah) Ab)) Ab)) (Df K (n:=2) rfl (Bx (A1 (i:=4) sc_placed_forms.nd rfl (Or.inl rfl)) (Bx (A1 (i:=5) sc_placed_forms.nd rfl (Or.inl rfl)) (C9)))) (Aj (Co (C4 K P8 Qn Qo Di (qv 2) (Aa (Ap (Aa (A0 (Nv K) (Ao K (qv 3) Ah) (Ap (Aa (qv 4) Ab))) (Aa (qv 5) Ab))) Ab)))))))))
   (Aj (Aw (qv 1))))),?_⟩
  have bg:=big
  walk_at "r"
  refine ⟨Bo,fun pt hpt=>?_⟩
  walk_at "r"
  refine ⟨Bo,fun p0 hp0=>?_⟩
  walk_at "r"
  refine ⟨B6,fun p1 hp1=>?_⟩
  walk_at "r"
  refine ⟨Cm,fun pw hpw=>?_⟩
  walk_at "r"
  have s0:Same (upd H pt (.lst [])) _:=((Same.upd (o:=.tup []) hp0).put (o:=.tup [.ref p0,v]) hp1).put (o:=.lst [.ref p1]) hpw
  have s1:Same (upd (upd H pt (.lst [])) p0 (.tup [])) _:=(Same.upd (o:=.tup [.ref p0,v]) hp1).put (o:=.lst [.ref p1]) hpw
  have s2:=Same.upd (o:=.lst [.ref p1]) hpw
  have sH:=(Same.upd (o:=.lst []) hpt).trans s0
  have ept:=s0 pt _ Ad
  have epw:upd (upd (upd (upd H pt (.lst [])) p0 (.tup [])) p1 (.tup [.ref p0,v])) pw (.lst [.ref p1]) pw=some (.lst [.ref p1]):=Ad
  have ep0:=s1 p0 _ Ad
  have ep1:=s2 p1 _ Ad
  have npw:pt≠pw:=fun z=>by rw [z] at ept;rw [Ad] at ept;cases ept
  have hpw0:H pw=none:=((Same.upd (o:=.lst []) hpt).trans ((Same.upd (o:=.tup []) hp0).put (o:=.tup [.ref p0,v]) hp1)).free hpw
  refine ⟨PlJ K H v t pt pw,⟨_,none,none,none,[],[.ref p1],[],[([],t)],rfl,ept,epw,.nil,Al.nil.snoc ⟨p1,p0,v,rfl,SqT.of ep1,ep0,ht.same sH⟩,by simp [Ez],rfl,sH⟩,?_⟩
  rintro m σ' H' ⟨v3,v4,v5,tv,wv,dn,st,rfl,et,ew,al1,al2,hw,rfl,sm⟩
  have hdl:dn.length+load st=t.size:=by
   have:=congrArg Rl hw
   rw [Pl,Ep] at this
   exact this
  have htl:tv.length=dn.length:=al1.1
  walk_at "r"
  refine Gf (SqL.of ew) ?_
  by_cases hwv:wv=[]
  ·subst hwv
   have hst:st=[]:=Rb al2.1.symm
   subst hst
   refine iteF ?_
   walk_at "r"
   rw [Zdf,Qc] at hw
   rw [hw] at al1
   exact q pt tv H' sm hpt et al1
  obtain ⟨wv',tp,st',x,rfl,rfl,al3,hrow⟩:=al2.last hwv
  have hne:(!(wv'++[tp]).isEmpty)=true:=by simp
  rw [hne]
  refine iteT ?_
  obtain ⟨pl,tx⟩:=x
  have hx:(pl,tx)∈walk [] t:=by rw [<- hw,Iv];simp
  have hpl:pl.length<=2000:=by have:=Hf [] t _ hx;simp at this;omega
  have hload:=Zd3 st' (pl,tx)
  have hll:=Zfy (st'++(kids pl 0 tx.ps).reverse)
  refine ⟨fun σ2 H2=>∃ m',m' < load (st'++[(pl,tx)])/\PlJ K H v t pt pw m' σ2 H2,fun _ _ h=>h,?_⟩
  walk_at "r"
  refine Ca (SqL.of ew) ?_
  refine Ki ew ?_
  have t1:SameT H' (upd H' pw (.lst wv')):=SameT.set ew
  have et2:upd H' pw (.lst wv') pt=some (.lst tv):=by rw [Ai npw];exact et
  walk_at "r"
  refine Ca (SqL.of et2) ?_
  walk_at "r"
  refine C8 et2 (by omega) ?_
  have t2:SameT H' (upd (upd H' pw (.lst wv')) pt (.lst (tv++[tp]))):=t1.trans (SameT.set et2)
  have et3:upd (upd H' pw (.lst wv')) pt (.lst (tv++[tp])) pt=some (.lst (tv++[tp])):=Ad
  have ew3:upd (upd H' pw (.lst wv')) pt (.lst (tv++[tp])) pw=some (.lst wv'):=by rw [Ai npw.symm,Ad]
  have sm3:Same H (upd (upd H' pw (.lst wv')) pt (.lst (tv++[tp]))):=(sm.over hpw0).over hpt
  revert t2 et3 ew3 sm3
  generalize upd (upd H' pw (.lst wv')) pt (.lst (tv++[tp]))=H3
  intro t2 et3 ew3 sm3
  have hrow3:=RowT.same t2 _ _ hrow
  obtain ⟨a,p,u,rfl,qa,qp,hu⟩:=id hrow3
  cases hu with
  | @mk b pp wd nv n vs ts qb hn qpp hl hch =>
  walk_at "r"
  refine Az qa rfl ?_
  walk_at "r"
  refine Az qb rfl ?_
  walk_at "r"
  refine ⟨pp,vs,rfl,qpp,fun S ys H4 hS s4 hl4 hpairs hS4=>?_⟩
  walk_at "r"
  refine ⟨S,ys,rfl,SqL.of hS4,?_⟩
  have nSp:pw≠S:=Ax ew3 hS
  have nSt:pt≠S:=Ax et3 hS
  have al4:Al (RowT K H4) wv' st':=al3.mono (RowT.same (t2.trans s4.t))
  have hkl:(kids pl 0 ts).length=ys.length:=by rw [Md];omega
  refine Zlj (K:=K) (a:=S) (xs:=ys) (fun j σ5 H5=>∃(v4 v5:Option V)(wv5:List V),σ5=[some v,some (.ref pt),some (.ref pw),some (.ref a),v4,v5]/\H5 pt=some (.lst (tv++[.ref a]))/\H5 pw=some (.lst wv5)/\H5 S=some (.lst ys)/\Al (RowT K H5) wv5 (st'++((kids pl 0 ts).drop (ys.length - j)).reverse)/\SameT H4 H5/\Same H H5)
   ⟨_,_,wv',rfl,s4 _ _ et3,s4 _ _ ew3,hS4,by rw [Vf,Sd (by omega)];simpa using al4,SameT.refl _,sm3.trans s4⟩ ?_ ?_ ?_
  ·rintro j σ5 H5 _ ⟨_,_,_,_,_,_,e,_⟩
   exact SqL.of e
  ·rintro i y σ5 H5 hi hy ⟨v4',v5',wv5,rfl,e5t,e5w,e5s,al5,t5,sm5⟩
   obtain ⟨tt,xw,rfl,hxw,htt⟩:=hpairs _ _ hy
   have htt5:=(t5 tt).1 _ htt
   walk_at "r"
   refine Dj (SqT.of htt5) rfl ?_
   walk_at "r"
   refine Ca (SqL.of e5w) ?_
   walk_at "r"
   have T5:SameT H3 H5:=s4.t.trans t5
   refine Az (T5.tup qa) rfl ?_
   walk_at "r"
   refine ⟨Cm,fun p6 h6=>?_⟩
   refine Zks (((T5.trans (SameT.new h6)) p).1 _ qp) Ad (by show (Ba pl).length+1<=sizeLine;unfold Ba;rw [Pe];omega) fun r H7 s7 q7=>?_
   walk_at "r"
   refine ⟨B6,fun p7 h7=>?_⟩
   walk_at "r"
   have s57:Same H5 H7:=(Same.upd h6).trans s7
   have s58:=s57.put (o:=.tup [.ref r,xw]) h7
   have hlw:wv5.length=st'.length+((kids pl 0 ts).drop (ys.length - i)).length:=by have:=al5.1;simp at this ⊢;omega
   have hlk:(st'++(kids pl 0 ts).reverse).length=st'.length+ys.length:=by rw [Pl,Tk,hkl]
   have hll':(st'++(kids pl 0 ts).reverse).length<=2000:=by
    have h1:load (st'++(kids pl 0 (Tr.mk wd n ts).ps).reverse) < load (st'++[(pl,Tr.mk wd n ts)]):=hload
    have h2:(st'++(kids pl 0 (Tr.mk wd n ts).ps).reverse).length<=load (st'++(kids pl 0 (Tr.mk wd n ts).ps).reverse):=hll
    have h3:(Tr.mk wd n ts).ps=ts:=rfl
    rw [h3] at h1 h2
    omega
   have hdr:((kids pl 0 ts).drop (ys.length - i)).length<=ys.length:=by rw [Tt];omega
   refine C8 (s58 _ _ e5w) (by omega) ?_
   have e8w:=s58 _ _ e5w
   have t9:SameT H5 (upd (upd H7 p7 (.tup [.ref r,xw])) pw (.lst (wv5++[.ref p7]))):=s58.t.trans (SameT.set e8w)
   obtain ⟨tk,htk,hat⟩:∃ tk,ts[ys.length - 1 - i]?=some tk/\TrAt K H3 xw tk:=by
    have hj:=(Pg.mp hxw).1
    have hj':ys.length - 1 - i < ts.length:=by omega
    exact ⟨_,Pb hj',hch _ _ _ hxw (Pb hj')⟩
   have hkid:(kids pl 0 ts)[ys.length - 1 - i]?=some (pl++[ys.length - 1 - i],tk):=by
    rw [Zad,htk]
    simp
   refine ⟨_,_,wv5++[.ref p7],rfl,?_,Ad,?_,?_,t5.trans t9,(sm5.trans s58).over hpw0⟩
   ·rw [Ai npw];exact s58 _ _ e5t
   ·rw [Ai nSp.symm];exact s58 _ _ e5s
   ·rw [Zcd hkl hi hkid,<- Qi]
    refine (al5.mono (RowT.same t9)).snoc ⟨p7,r,xw,rfl,(SameT.set e8w).tup (SqT.of Ad),?_,hat.sameT (T5.trans t9)⟩
    have q9:=(((SameT.new (o:=.tup [.ref r,xw]) h7).trans (SameT.set (o:=.lst (wv5++[.ref p7])) e8w)) r).1 _ q7
    have e:Ba (pl++[ys.length - 1 - i])=Ba pl++[.int ((ys.length - 1 - i:Nat):Int)]:=by unfold Ba;rw [Qf];rfl
    show upd _ _ _ r=some (.tup (Ba (pl++[ys.length - 1 - i])))
    rw [e]
    exact q9
  ·rintro σ5 H5 ⟨v4',v5',wv5,rfl,e5t,e5w,e5s,al5,t5,sm5⟩
   rw [R6,T7] at al5
   refine ⟨_,hload,_,_,_,tv++[.ref a],wv5,dn++[(pl,.mk wd n ts)],_,rfl,e5t,e5w,?_,al5,?_,rfl,sm5⟩
   ·exact (al1.mono (RowT.same (t2.trans (s4.t.trans t5)))).snoc (RowT.same (s4.t.trans t5) _ _ hrow3)
   ·rw [<- hw,Iv,Qi]
    rfl
noncomputable def Aq (m:Nat)(w:Str):Nat×List Nat×List Nat×Ae :=
 if w = "num" then (0,[],[],[]) else if w = "truth" then (1,[],[],[]) else if w = "plus" \/ w = "minus" then (0,[0,0],[],[]) else if w = "less" then (1,[0,0],[],[]) else
 if w = "if" then (m,[1,m,m],[],[.any]) else if w = "gap" \/ w = "odd" \/ w = "name" then (m,[],[],[.any]) else if w = "let" then (m+1,[m,m+1],[m],[.any,.any]) else
 if w = "fn" then (m+2,[m+1],[m],[.any,.any,.to m (m+1)]) else if w = "rec" then (m+2,[m+1],[m+2,m],[.any,.any,.to m (m+1)]) else (m+1,[m+2,m],[],[.any,.any,.to m (m+1)])
noncomputable def Bt (a:Addr)(H H':Hp):Prop:=∀ x o,x≠a->H x=some o->H' x=some o
theorem Ht {H H':Hp}(s:Same H H')(a:Addr):Bt a H H':=fun x o _ h=>s x o h
theorem Bt.trans {a:Addr}{H H1 H2:Hp}(h:Bt a H H1)(g:Bt a H1 H2):Bt a H H2:=fun x o n e=>g x o n (h x o n e)
theorem Bt.upd {a:Addr}{H:Hp}{o:HO}:Bt a H (upd H a o):=fun x o' n e=>by rw [Ai n];exact e
theorem Bt.t {a:Addr}{H H':Hp}{us:List V}(h:Bt a H H')(e:H a=some (.lst us)):SameT H H':=fun b =>
 ⟨fun xs e1=>h b _ (fun z=>by rw [z,e] at e1;cases e1) e1,fun o u e1=>h b _ (fun z=>by rw [z,e] at e1;cases e1) e1⟩
theorem ShG.snoc {H:Hp}{a p:Addr}{us:List V}{sh:Ae}{s:Sh}(e:H a=some (.lst us))(al:Al (ShE K H) us sh)(hp:SqT K H p (shV s)):ShG K (upd H a (.lst (us++[.ref p]))) a (sh++[s]) :=
 ⟨us++[.ref p],Ad,(al.mono (ShE.same (SameT.set e))).snoc ⟨p,rfl,(SameT.set e).tup hp⟩⟩
noncomputable def Zcw:Sp:=fun vs H Q _=>∃(a:Addr)(x:V)(us:List V),vs=[.ref a,x]/\H a=some (.lst us)/\us.length < 5000/\Q (.int (us.length:Nat)) (upd H a (.lst (us++[x])))
noncomputable def Zdt (K:O9):Sp:=fun vs H Q _=>∃(a:Addr)(w:Str)(sh:Ae),vs=[.ref a,.str w]/\sh.length<=1000/\ShG K H a sh /\
 ∀(r b c:Addr)(H':Hp),Bt a H H'->ShG K H' a (sh++(Aq sh.length w).2.2.2)->SqT K H' r [.int ((Aq sh.length w).1:Nat),.ref b,.ref c]->H' b=some (.lst (Am (Aq sh.length w).2.1))->H b=none->b≠a->H' c=some (.lst (Am (Aq sh.length w).2.2.1))->H c=none->c≠a->c≠b->Q (.ref r) H'
theorem E6 {x y:Str}:decide (V.str x=V.str y)=decide (x=y):=by
 by_cases h:x=y
 ·subst h;simp
 ·rw [decide_eq_false h,decide_eq_false (fun e=>h (by injection e))]
theorem Zi8 (a b:Str):(a == b)=decide (b=a):=by
 rw [Rt,beq_iff_eq,decide_eq_true_iff]
 exact eq_comm
theorem Ip (a t:Str)(r:List V):E7 (.str t) (.str a::r)=(decide (t=a) || E7 (.str t) r):=by
 show ((a == t) || _)=_
 rw [Zi8]
 rfl
theorem Za4 (x:V):E7 x []=false:=rfl
theorem in2 {w x y:Str}:E7 (.str w) [.str x,.str y]=decide (w=x\/w=y):=by
 rw [Ip,Ip,Za4,U4]
 by_cases h1:w=x <;> by_cases h2:w=y <;> simp [h1,h2]
theorem in3 {w x y z:Str}:E7 (.str w) [.str x,.str y,.str z]=decide (w=x\/w=y\/w=z):=by
 rw [Ip,Ip,Ip,Za4,U4]
 by_cases h1:w=x <;> by_cases h2:w=y <;> by_cases h3:w=z <;> simp [h1,h2,h3]
theorem Lj:Bp ["shapes", "word", "one", "other", "function"] ["shapes", "word"] (Bh Kj):=by walk_at "sc"
theorem Zko {f:Addr}{fd:FuncData}(F:Fun K "kinds_of_word" "kinds_of_word" Kj f fd)(T:Txt K mg)(G_NUM:Fk mg "NUM" (.int 0))(G_TRUTH:Fk mg "TRUTH" (.int 1))(C_new_kind:Be P w K mg base 1 "new_kind" ["shapes", "shape"] Zcw):Bb P w K mg base Bc 2 f fd ["shapes", "word"] (Zdt K):=by
 refine F.okq Lj (fun vs H Q E h=>?_) (fun cdv A outer s H vs Q E hr h=>?_)
 ·obtain ⟨a,w,sh,rfl,_⟩:=h
  rfl
 ·obtain ⟨a,w,sh,rfl,hm2,S,q⟩:=h
  refine ⟨_,Af (Ay (A6 (Bl K hr.u200) (qv 1) Av (A7 _)) (Aj (Aw (Ap (Aa (Et G_NUM) (Aa (Bf Ab) (Aa (Bf Ab) Ab)))))) A8)
   (Af (Ay (A6 (Bl K hr.u200) (qv 1) Av (A7 _)) (Aj (Aw (Ap (Aa (Et G_TRUTH) (Aa (Bf Ab) (Aa (Bf Ab) Ab)))))) A8)
   (Af (Ay (A6 (Ju K) (qv 1) (Ap (Aa Av (Aa Av Ab))) (by rfl)) (Aj (Aw (Ap (Aa (Et G_NUM) (Aa (Bf (Aa (Et G_NUM) (Aa (Et G_NUM) Ab))) (Aa (Bf Ab) Ab)))))) A8)
   (Af (Ay (A6 (Bl K hr.u200) (qv 1) Av (A7 _)) (Aj (Aw (Ap (Aa (Et G_TRUTH) (Aa (Bf (Aa (Et G_NUM) (Aa (Et G_NUM) Ab))) (Aa (Bf Ab) Ab)))))) A8)
   (Af (Ar 2 Lj (A5 C_new_kind hr.m (Aa (qv 0) (Aa (Ap (Aa Av Ab)) Ab))))
   (Af (Ay (A6 (Bl K hr.u200) (qv 1) Av (A7 _)) (Aj (Aw (Ap (Aa (qv 2) (Aa (Bf (Aa (Et G_TRUTH) (Aa (qv 2) (Aa (qv 2) Ab)))) (Aa (Bf Ab) Ab)))))) A8)
   (Af (Ay (A6 (Ju K) (qv 1) (Ap (Aa Av (Aa Av (Aa Av Ab)))) (by rfl)) (Aj (Aw (Ap (Aa (qv 2) (Aa (Bf Ab) (Aa (Bf Ab) Ab)))))) A8)
   (Af (Ar 3 Lj (A5 C_new_kind hr.m (Aa (qv 0) (Aa (Ap (Aa Av Ab)) Ab))))
   (Af (Ay (A6 (Bl K hr.u200) (qv 1) Av (A7 _)) (Aj (Aw (Ap (Aa (qv 3) (Aa (Bf (Aa (qv 2) (Aa (qv 3) Ab))) (Aa (Bf (Aa (qv 2) Ab)) Ab)))))) A8)
   (Af (Ar 4 Lj (A5 C_new_kind hr.m (Aa (qv 0) (Aa (Ap (Aa Av (Aa (qv 2) (Aa (qv 3) Ab)))) Ab))))
   (Af (Ay (A6 (Bl K hr.u200) (qv 1) Av (A7 _)) (Aj (Aw (Ap (Aa (qv 4) (Aa (Bf (Aa (qv 3) Ab)) (Aa (Bf (Aa (qv 2) Ab)) Ab)))))) A8)
   (Af (Ay (A6 (Bl K hr.u200) (qv 1) Av (A7 _)) (Aj (Aw (Ap (Aa (qv 4) (Aa (Bf (Aa (qv 3) Ab)) (Aa (Bf (Aa (qv 4) (Aa (qv 2) Ab))) Ab)))))) A8)
   (Aj (Aw (Ap (Aa (qv 3) (Aa (Bf (Aa (qv 4) (Aa (qv 2) Ab))) (Aa (Bf Ab) Ab))))))))))))))))),?_⟩
  have bg:=big
  obtain ⟨us,ea,ala⟩:=S.ex
  have la:us.length=sh.length:=ala.1
  have fin:∀(H1:Hp)(g:Nat)(xs ys:List Nat)(new:Ae)(us1:List V),Bt a H H1->H1 a=some (.lst us1)->ShG K H1 a (sh++new)->Aq sh.length w=(g,xs,ys,new)->∀ b,H1 b=none->∀ c,upd H1 b (.lst (Am xs)) c=none->∀ r,upd (upd H1 b (.lst (Am xs))) c (.lst (Am ys)) r=none->Q (.ref r) (upd (upd (upd H1 b (.lst (Am xs))) c (.lst (Am ys))) r (.tup [.int (g:Nat),.ref b,.ref c])):=by
   rintro H1 g xs ys new us1 hb e1 S1 hk b h1 c h2 r h3
   rw [hk] at q
   have s1:=Same.upd (o:=.lst (Am xs)) h1
   have s2:=Same.upd (o:=.lst (Am ys)) h2
   have s3:=Same.upd (o:=.tup [.int (g:Nat),.ref b,.ref c]) h3
   have fr:∀{x:Addr},H1 x=none->H x=none:=fun {x} hx=>by
    cases e:H x with
    | none=>rfl
    | some o=>rw [hb x o (fun z=>by rw [z,e1] at hx;cases hx) e] at hx;cases hx
   exact q r b c _ (hb.trans (Ht ((s1.trans s2).trans s3) a)) (S1.same ((s1.trans s2).trans s3)) (SqT.of Ad) ((s2.trans s3) _ _ Ad) (fr h1) (Ax e1 h1).symm (s3 _ _ Ad) (fr (s1.free h2)) (Ax (s1 _ _ e1) h2).symm (Ax Ad h2).symm
  have old:∀(H1:Hp)(g:Nat)(xs ys:List Nat),Same H H1->Aq sh.length w=(g,xs,ys,[])->∀ b,H1 b=none->∀ c,upd H1 b (.lst (Am xs)) c=none->∀ r,upd (upd H1 b (.lst (Am xs))) c (.lst (Am ys)) r=none->Q (.ref r) (upd (upd (upd H1 b (.lst (Am xs))) c (.lst (Am ys))) r (.tup [.int (g:Nat),.ref b,.ref c])):=fun H1 g xs ys s1 hk=>fin H1 g xs ys [] us (Ht s1 a) (s1 _ _ ea) (by rw [Qc];exact S.same s1) hk
  unfold Aq at fin old
  walk_at "r"
  rw [E6]
  refine Bv (fun c=>?_) (fun c=>?_)
  ·have c:=of_decide_eq_true c
   rw [if_pos c] at old
   walk_at "r"
   refine ⟨Bo,fun b hb=>?_⟩
   walk_at "r"
   refine ⟨Bo,fun c hc=>?_⟩
   walk_at "r"
   refine ⟨B0,fun r hr'=>?_⟩
   exact old H 0 [] [] (Same.refl _) rfl b hb c hc r hr'
  have c1:¬ w = "num" := fun e=>c (decide_eq_true e)
  rw [if_neg c1] at fin old
  walk_at "r"
  rw [E6]
  refine Bv (fun c=>?_) (fun c=>?_)
  ·have c:=of_decide_eq_true c
   rw [if_pos c] at old
   walk_at "r"
   refine ⟨Bo,fun b hb=>?_⟩
   walk_at "r"
   refine ⟨Bo,fun c hc=>?_⟩
   walk_at "r"
   refine ⟨B0,fun r hr'=>?_⟩
   exact old H 1 [] [] (Same.refl _) rfl b hb c hc r hr'
  have c1:¬ w = "truth" := fun e=>c (decide_eq_true e)
  rw [if_neg c1] at fin old
  walk_at "r"
  refine ⟨B6,fun p1 h1=>?_⟩
  refine I0 (.inr (SqT.of Ad)) rfl rfl ?_
  rw [if_neg Pp,in2]
  have s1:Same H (upd H p1 (.tup [.str "plus",.str "minus"])):=Same.upd h1
  revert s1
  generalize upd H p1 (.tup [.str "plus",.str "minus"])=H1
  intro s1
  walk_at "r"
  refine Bv (fun c=>?_) (fun c=>?_)
  ·have c:=of_decide_eq_true c
   rw [if_pos c] at old
   walk_at "r"
   refine ⟨B6,fun b hb=>?_⟩
   walk_at "r"
   refine ⟨Bo,fun c hc=>?_⟩
   walk_at "r"
   refine ⟨B0,fun r hr'=>?_⟩
   exact old H1 0 [0,0] [] s1 rfl b hb c hc r hr'
  have c1:¬ (w = "plus" \/ w = "minus"):=fun e=>c (decide_eq_true e)
  rw [if_neg c1] at fin old
  walk_at "r"
  rw [E6]
  refine Bv (fun c=>?_) (fun c=>?_)
  ·have c:=of_decide_eq_true c
   rw [if_pos c] at old
   walk_at "r"
   refine ⟨B6,fun b hb=>?_⟩
   walk_at "r"
   refine ⟨Bo,fun c hc=>?_⟩
   walk_at "r"
   refine ⟨B0,fun r hr'=>?_⟩
   exact old H1 1 [0,0] [] s1 rfl b hb c hc r hr'
  have c1:¬ w = "less" := fun e=>c (decide_eq_true e)
  rw [if_neg c1] at fin
  clear old
  walk_at "r"
  refine ⟨Cm,fun p2 h2=>?_⟩
  walk_at "r"
  have s2:=s1.put (o:=.tup [.str "any"]) h2
  have ea2:=s2 _ _ ea
  refine ⟨a,.ref p2,us,rfl,ea2,by omega,?_⟩
  have S2:=ShG.snoc (K:=K) (s:=.any) ea2 (ala.mono (ShE.same s2.t)) (SqT.of Ad)
  have b2:Bt a H (upd (upd H1 p2 (.tup [.str "any"])) a (.lst (us++[.ref p2]))):=(Ht s2 a).trans Bt.upd
  have ea3:upd (upd H1 p2 (.tup [.str "any"])) a (.lst (us++[.ref p2])) a=some (.lst (us++[.ref p2])):=Ad
  revert S2 b2 ea3
  generalize upd (upd H1 p2 (.tup [.str "any"])) a (.lst (us++[.ref p2]))=H2
  intro S2 b2 ea3
  rw [la]
  walk_at "r"
  rw [E6]
  refine Bv (fun c=>?_) (fun c=>?_)
  ·have c:=of_decide_eq_true c
   rw [if_pos c] at fin
   walk_at "r"
   refine ⟨B0,fun b hb=>?_⟩
   walk_at "r"
   refine ⟨Bo,fun c hc=>?_⟩
   walk_at "r"
   refine ⟨B0,fun r hr'=>?_⟩
   exact fin H2 sh.length [1,sh.length,sh.length] [] [.any] _ b2 ea3 S2 rfl b hb c hc r hr'
  have c1:¬ w = "if" := fun e=>c (decide_eq_true e)
  rw [if_neg c1] at fin
  walk_at "r"
  refine ⟨B0,fun p3 h3=>?_⟩
  refine I0 (.inr (SqT.of Ad)) rfl rfl ?_
  rw [if_neg Pp,in3]
  have s3:=Same.upd (o:=.tup [.str "gap",.str "odd",.str "name"]) h3
  have S3:=S2.same s3
  have b3:=b2.trans (Ht s3 a)
  have ea4:=s3 _ _ ea3
  revert S3 b3 ea4
  generalize upd H2 p3 (.tup [.str "gap",.str "odd",.str "name"])=H3
  intro S3 b3 ea4
  walk_at "r"
  refine Bv (fun c=>?_) (fun c=>?_)
  ·have c:=of_decide_eq_true c
   rw [if_pos c] at fin
   walk_at "r"
   refine ⟨Bo,fun b hb=>?_⟩
   walk_at "r"
   refine ⟨Bo,fun c hc=>?_⟩
   walk_at "r"
   refine ⟨B0,fun r hr'=>?_⟩
   exact fin H3 sh.length [] [] [.any] _ b3 ea4 S3 rfl b hb c hc r hr'
  have c1:¬ (w = "gap" \/ w = "odd" \/ w = "name"):=fun e=>c (decide_eq_true e)
  rw [if_neg c1] at fin
  walk_at "r"
  refine ⟨Cm,fun p4 h4=>?_⟩
  have s4:=Same.upd (o:=.tup [.str "any"]) h4
  walk_at "r"
  obtain ⟨us3,ea3',al3⟩:=S3.ex
  rw [ea4] at ea3'
  cases ea3'
  have l3:(us++[V.ref p2]).length=sh.length+1:=by rw [Pl,la];rfl
  refine ⟨a,.ref p4,_,rfl,s4 _ _ ea4,by omega,?_⟩
  have S4:=ShG.snoc (K:=K) (s:=.any) (s4 _ _ ea4) (al3.mono (ShE.same s4.t)) (SqT.of Ad)
  have b4:Bt a H (upd (upd H3 p4 (.tup [.str "any"])) a (.lst (us++[.ref p2]++[.ref p4]))):=(b3.trans (Ht s4 a)).trans Bt.upd
  have ea5:upd (upd H3 p4 (.tup [.str "any"])) a (.lst (us++[.ref p2]++[.ref p4])) a=some (.lst (us++[.ref p2]++[.ref p4])):=Ad
  revert S4 b4 ea5
  generalize upd (upd H3 p4 (.tup [.str "any"])) a (.lst (us++[.ref p2]++[.ref p4]))=H4
  intro S4 b4 ea5
  rw [l3]
  rw [Qi] at S4
  walk_at "r"
  rw [E6]
  refine Bv (fun c=>?_) (fun c=>?_)
  ·have c:=of_decide_eq_true c
   rw [if_pos c] at fin
   walk_at "r"
   refine ⟨B6,fun b hb=>?_⟩
   walk_at "r"
   refine ⟨Cm,fun c hc=>?_⟩
   walk_at "r"
   refine ⟨B0,fun r hr'=>?_⟩
   exact fin H4 (sh.length+1) [sh.length,sh.length+1] [sh.length] [.any,.any] _ b4 ea5 S4 rfl b hb c hc r hr'
  have c1:¬ w = "let" := fun e=>c (decide_eq_true e)
  rw [if_neg c1] at fin
  walk_at "r"
  refine ⟨B0,fun p6 h6=>?_⟩
  have s6:=Same.upd (o:=.tup [.str "to",.int (sh.length:Nat),.int (sh.length+1:Nat)]) h6
  walk_at "r"
  obtain ⟨us5,ea5',al5⟩:=S4.ex
  rw [ea5] at ea5'
  cases ea5'
  have l5:(us++[V.ref p2]++[V.ref p4]).length=sh.length+2:=by rw [Pl,l3];rfl
  refine ⟨a,.ref p6,_,rfl,s6 _ _ ea5,by omega,?_⟩
  have S6:=ShG.snoc (K:=K) (s:=.to sh.length (sh.length+1)) (s6 _ _ ea5) (al5.mono (ShE.same s6.t)) (SqT.of Ad)
  have b6:Bt a H (upd (upd H4 p6 (.tup [.str "to",.int (sh.length:Nat),.int (sh.length+1:Nat)])) a (.lst (us++[.ref p2]++[.ref p4]++[.ref p6]))):=(b4.trans (Ht s6 a)).trans Bt.upd
  have ea7:upd (upd H4 p6 (.tup [.str "to",.int (sh.length:Nat),.int (sh.length+1:Nat)])) a (.lst (us++[.ref p2]++[.ref p4]++[.ref p6])) a=some (.lst (us++[.ref p2]++[.ref p4]++[.ref p6])):=Ad
  revert S6 b6 ea7
  generalize upd (upd H4 p6 (.tup [.str "to",.int (sh.length:Nat),.int (sh.length+1:Nat)])) a (.lst (us++[.ref p2]++[.ref p4]++[.ref p6]))=H6
  intro S6 b6 ea7
  rw [l5]
  rw [Qi] at S6
  walk_at "r"
  rw [E6]
  refine Bv (fun c=>?_) (fun c=>?_)
  ·have c:=of_decide_eq_true c
   rw [if_pos c] at fin
   walk_at "r"
   refine ⟨Cm,fun b hb=>?_⟩
   walk_at "r"
   refine ⟨Cm,fun c hc=>?_⟩
   walk_at "r"
   refine ⟨B0,fun r hr'=>?_⟩
   exact fin H6 (sh.length+2) [sh.length+1] [sh.length] [.any,.any,.to sh.length (sh.length+1)] _ b6 ea7 S6 rfl b hb c hc r hr'
  have c1:¬ w = "fn" := fun e=>c (decide_eq_true e)
  rw [if_neg c1] at fin
  walk_at "r"
  rw [E6]
  refine Bv (fun c=>?_) (fun c=>?_)
  ·have c:=of_decide_eq_true c
   rw [if_pos c] at fin
   walk_at "r"
   refine ⟨Cm,fun b hb=>?_⟩
   walk_at "r"
   refine ⟨B6,fun c hc=>?_⟩
   walk_at "r"
   refine ⟨B0,fun r hr'=>?_⟩
   exact fin H6 (sh.length+2) [sh.length+1] [sh.length+2,sh.length] [.any,.any,.to sh.length (sh.length+1)] _ b6 ea7 S6 rfl b hb c hc r hr'
  have c1:¬ w = "rec" := fun e=>c (decide_eq_true e)
  rw [if_neg c1] at fin
  walk_at "r"
  refine ⟨B6,fun b hb=>?_⟩
  walk_at "r"
  refine ⟨Bo,fun c hc=>?_⟩
  walk_at "r"
  refine ⟨B0,fun r hr'=>?_⟩
  exact fin H6 (sh.length+1) [sh.length+2,sh.length] [] [.any,.any,.to sh.length (sh.length+1)] _ b6 ea7 S6 rfl b hb c hc r hr'
noncomputable abbrev Ev:=Str->Option Nat
noncomputable def Cj (e:Ev)(ns:List Str)(ks:List Nat):Ev:=(ns.zip ks).foldl (fun e p=>fun s=>if s=p.1 then some p.2 else e s) e
noncomputable def DcS (kvs:List (Au×V))(e:Ev):Prop:=∀ s:Str,Bz kvs (.inr s)=(e s).map fun n=>V.int ((n:Nat):Int)
theorem DcS.put {kvs:List (Au×V)}{e:Ev}(h:DcS kvs e)(s:Str)(n:Nat):DcS (Bm kvs (.inr s) (.int (n:Nat))) (fun t=>if t=s then some n else e t):=fun t=>by
 rw [Li]
 show _=Option.map _ (if t=s then some n else e t)
 by_cases ht:t=s
 ·rw [if_pos (by rw [ht]),if_pos ht]
  rfl
 ·rw [if_neg fun z=>ht (Sum.inr.inj z),if_neg ht]
  exact h t
structure EvAt (H:Hp)(a:Addr)(e:Ev)(m:Nat):Prop where
 ex:∃ kvs,H a=some (.dK kvs)/\DcS kvs e/\kvs.length<=m
theorem EvAt.same {H H':Hp}{a:Addr}{e:Ev}{m:Nat}(h:EvAt H a e m)(s:Same H H'):EvAt H' a e m:=let ⟨kvs,h1,h2,h3⟩:=h.ex;⟨kvs,s _ _ h1,h2,h3⟩
noncomputable def Zdh (K:O9):Sp:=fun vs H Q _=>∃(a n k:Addr)(e:Ev)(ns:List Str)(ks:List Nat)(m:Nat),vs=[.ref a,.ref n,.ref k]/\EvAt H a e m/\m<=5000/\H n=some (.lst (ns.map V.str))/\H k=some (.lst (Am ks))/\ns.length<=2/\∀ p H',Same H H'->H p=none->EvAt H' p (Cj e ns ks) (m+2)->Q (.ref p) H'
theorem Zqa {e:Ev}{ns:List Str}{ks:List Nat}{i:Nat}{s:Str}{n:Nat}(h1:ns[i]?=some s)(h2:ks[i]?=some n):Cj e (ns.take (i+1)) (ks.take (i+1))=fun t=>if t=s then some n else Cj e (ns.take i) (ks.take i) t:=by
 unfold Cj
 have hz:(ns.take (i+1)).zip (ks.take (i+1))=(ns.take i).zip (ks.take i)++[(s,n)]:=by
  rw [Qv,Qv,h1,h2]
  have l1:=(Pg.mp h1).1
  have l2:=(Pg.mp h2).1
  exact List.zip_append (by rw [Pt,Pt];omega)
 rw [hz,List.foldl_append]
 rfl
theorem Zgc:∀(ns:List Str)(ks:List Nat),(ns.take (min ns.length ks.length)).zip (ks.take (min ns.length ks.length))=ns.zip ks
 | [],_=>by simp
 | _::_,[]=>by simp
 | a::r,b::s=>by
  have:=Zgc r s
  rw [Pj,Pj,show min (r.length+1) (s.length+1)=min r.length s.length+1 by omega,Vv,Vv,Uu,Uu,this]
theorem Zmj (e:Ev)(ns:List Str)(ks:List Nat):Cj e (ns.take (min ns.length ks.length)) (ks.take (min ns.length ks.length))=Cj e ns ks:=by
 unfold Cj
 rw [Zgc]
theorem sc_with_names:Bp ["around", "names", "kinds", "made", "name", "kind"] ["around", "names", "kinds"] (Bh J2):=by walk_at "sc"
theorem Zq1 {f:Addr}{fd:FuncData}(F:Fun K "with_names" "with_names" J2 f fd)(T:Txt K mg):Bb P w K mg base Bc 1 f fd ["around", "names", "kinds"] (Zdh K):=by
 refine F.okq sc_with_names (fun vs H Q E h=>?_) (fun cdv A outer s H vs Q E hr h=>?_)
 ·obtain ⟨a,n,k,e,ns,ks,m,rfl,_⟩:=h
  rfl
 ·obtain ⟨a,n,k,e,ns,ks,m,rfl,he,hm,hn,hk,hl,q⟩:=h
  refine ⟨_,Af (Ar 3 sc_with_names (Fl Zpd (by rfl) T.dict (by decide +kernel) (Aa (qv 0) Ab)))
   (Af (Cw P4 rfl (Zmo K rfl T.zip (Aa (qv 1) (Aa (qv 2) Ab))) (Df K (n:=2) rfl (Bx (A1 (i:=4) sc_with_names.nd rfl (Or.inl rfl)) (Bx (A1 (i:=5) sc_with_names.nd rfl (Or.inl rfl)) (C9)))) (Aj (Gk hr.u1 (qv 3) (qv 4) (qv 5))))
   (Aj (Aw (qv 3)))),?_⟩
  have bg:=big
  obtain ⟨kvs,ea,dc,kl⟩:=he.ex
  walk_at "r"
  refine ⟨a,kvs,rfl,ea,fun p hp=>?_⟩
  have s1:=Same.upd (o:=.dK kvs) hp
  walk_at "r"
  refine ⟨n,k,_,_,rfl,SqL.of (s1 _ _ hn),SqL.of (s1 _ _ hk),?_⟩
  refine Zif (K:=K) (a:=n) (b:=k) (xs:=ns.map V.str) (ys:=Am ks) (fun i σ' H'=>∃ v4 v5 kv,σ'=[some (.ref a),some (.ref n),some (.ref k),some (.ref p),v4,v5]/\H' p=some (.dK kv)/\DcS kv (Cj e (ns.take i) (ks.take i))/\kv.length<=m+i/\Same H H')
   ⟨_,_,kvs,rfl,Ad,dc,kl,s1⟩ ?_ ?_ ?_
  ·rintro i σ' H' _ ⟨_,_,_,_,_,_,_,sm⟩
   exact ⟨SqL.of (sm _ _ hn),SqL.of (sm _ _ hk)⟩
  ·rintro i x y t σ' H' hx hy ht ⟨v4,v5,kv,rfl,ep,dcv,lv,sm⟩
   have hi:i < ns.length:=by have:=(Pg.mp hx).1;rwa [Pe] at this
   have hik:i < ks.length:=by have:=(Pg.mp hy).1;unfold Am at this;rwa [Pe] at this
   have hxv:x=.str ns[i]:=by rw [Pq,Pb hi] at hx;exact (Po hx).symm
   have hyv:y=.int ((ks[i]:Nat):Int):=by unfold Am at hy;rw [Pq,Pb hik] at hy;exact (Po hy).symm
   subst hxv hyv
   have s2:=Same.upd (o:=.tup [.str ns[i],.int ((ks[i]:Nat):Int)]) ht
   refine Dj (SqT.of Ad) rfl ?_
   walk_at "r"
   refine ⟨p,_,rfl,DPut.k (k:=.inr ns[i]) (s2 _ _ ep) (by omega),?_⟩
   have hl2:=Ej kv (.inr ns[i]) (.int ((ks[i]:Nat):Int))
   refine ⟨_,_,_,rfl,Ad,?_,by omega,(sm.trans s2).over hp⟩
   rw [Zqa (Pb hi) (Pb hik)]
   exact dcv.put _ _
  ·rintro σ' H' ⟨v4,v5,kv,rfl,ep,dcv,lv,sm⟩
   have e1:min (ns.map V.str).length (Am ks).length=min ns.length ks.length:=by unfold Am;rw [Pe,Pe]
   rw [e1] at dcv lv
   rw [Zmj] at dcv
   walk_at "r"
   exact q p H' sm hp ⟨kv,ep,dcv,by omega⟩
end
end K36
namespace K19
open PySem L2
noncomputable def Ec (w:Str)(n:Dt):Prop:=(w = "fn" \/ w = "let" \/ w = "name" -> ∃ t:Str,n=.flat (.str t))/\(w = "rec" -> ∃ t u:Str,n=.tup [.flat (.str t),.flat (.str u)])
inductive Dh:Tr->Prop where
 | mk {w:Str} {n:Dt} {ts:List Tr} (h:Ec w n) (hs:∀ t∈ts,Dh t):Dh (.mk w n ts)
theorem Ld {w:Str}{n:Dt}(h1:w ≠ "fn")(h2:w ≠ "let")(h3:w ≠ "name")(h4:w ≠ "rec"):Ec w n:=⟨fun h=>by rcases h with h | h | h <;> contradiction,fun h=>absurd h h4⟩
inductive Sub:Tr->List Nat->Prop where
 | nil (t:Tr):Sub t []
 | cons {w:Str} {n:Dt} {ts:List Tr} {j:Nat} {t:Tr} {r:List Nat} (h:ts[j]?=some t) (s:Sub t r):Sub (.mk w n ts) (j::r)
mutual
theorem Ks:∀(t:Tr)(x:List Nat×Tr),x∈walk [] t->Sub t x.1
 | .mk w n ps,x,h=>by
  rw [walk] at h
  rcases Ph.mp h with rfl | h
  ·exact .nil _
  ·obtain ⟨j,t,r,e1,e2,e3⟩:=Zb5 0 ps x h
   rw [e2,Rk]
   exact .cons e1 e3
theorem Zb5:∀(i:Nat)(ts:List Tr)(x:List Nat×Tr),x∈A4 [] i ts->∃(j:Nat)(t:Tr)(r:List Nat),ts[j]?=some t/\x.1=(i+j)::r/\Sub t r
 | _,[],x,h=>by rw [A4] at h;cases h
 | i,t::q,x,h=>by
  rw [A4] at h
  rcases Pw.mp h with h | h
  ·rw [My] at h
   obtain ⟨y,hy,rfl⟩:=Qr.mp h
   exact ⟨0,t,y.1,rfl,rfl,Ks t y hy⟩
  ·obtain ⟨j,t',r,e1,e2,e3⟩:=Zb5 (i+1) q x h
   exact ⟨j+1,t',r,by simpa using e1,by rw [e2];congr 1;omega,e3⟩
end
noncomputable def Cu:Tr->List Nat->List Tr
 | t,[]=>[t]
 | .mk w n ps,k::r=>.mk w n ps::(match ps[k]? with | some u=>Cu u r | none=>[])
theorem Lv {w:Str}{n:Dt}{ts:List Tr}{j:Nat}{t:Tr}{r:List Nat}(h:ts[j]?=some t):Cu (.mk w n ts) (j::r)=.mk w n ts::Cu t r:=by rw [Cu,h]
theorem Op {t:Tr}{pl:List Nat}(s:Sub t pl):(Cu t pl).length=pl.length+1:=by
 induction s with
 | nil t=>cases t;rfl
 | cons h _ ih=>rw [Lv h,Pj,ih,Pj]
theorem Zbv (t:Tr)(pl:List Nat):(Cu t pl)[0]?=some t:=by
 cases t with
 | mk w n ps=>cases pl <;> rfl
theorem Zdi {t:Tr}{pl:List Nat}(s:Sub t pl):∀(i:Nat)(k:Nat),pl[i]?=some k->∃ w n ps u,(Cu t pl)[i]?=some (.mk w n ps)/\ps[k]?=some u/\(Cu t pl)[i+1]?=some u:=by
 induction s with
 | nil t=>intro i k h;simp at h
 | @cons w n ts j u r h s ih =>
  intro i k hk
  rw [Lv h]
  cases i with
  | zero =>
   have:j=k:=by simpa using hk
   subst this
   exact ⟨w,n,ts,u,rfl,h,by simpa using Zbv u r⟩
  | succ i =>
   obtain ⟨w',n',ps,u',a,b,c⟩:=ih i k (by simpa using hk)
   exact ⟨w',n',ps,u',by simpa using a,b,by simpa using c⟩
theorem Zqh {t:Tr}{pl:List Nat}(s:Sub t pl)(h:Dh t):∀ u∈Cu t pl,Dh u:=by
 induction s with
 | nil t=>intro u hu;cases t;rw [Cu,P7] at hu;rw [hu];exact h
 | cons hj _ ih =>
  cases h with
  | mk h1 hs =>
   intro u hu
   rw [Lv hj] at hu
   rcases Ph.mp hu with rfl | hu
   ·exact .mk h1 hs
   ·exact ih (hs _ (Qb hj)) u hu
noncomputable def G7:Dt->List Str
 | .flat (.str t)=>[t]
 | _=>[]
noncomputable def Im:Dt->List Str
 | .tup [.flat (.str t),.flat (.str u)]=>[t,u]
 | _=>[]
noncomputable def nb (w:Str)(n:Dt)(k:Nat):List Str:=if w = "fn" then G7 n else if w = "rec" then Im n else if w = "let" /\ k=1 then G7 n else []
noncomputable def B7:Tr->List Nat->List (List Str)
 | _,[]=>[]
 | .mk w n ps,k::r=>nb w n k::(match ps[k]? with | some u=>B7 u r | none=>[])
theorem Ff {w:Str}{n:Dt}{ts:List Tr}{j:Nat}{t:Tr}{r:List Nat}(h:ts[j]?=some t):B7 (.mk w n ts) (j::r)=nb w n j::B7 t r:=by rw [B7,h]
theorem Zei {t:Tr}{pl:List Nat}(s:Sub t pl):(B7 t pl).length=pl.length:=by
 induction s with
 | nil t=>cases t;rfl
 | cons h _ ih=>rw [Ff h,Pj,ih,Pj]
theorem Zmd {t:Tr}{pl:List Nat}(s:Sub t pl):∀(i k:Nat)(w:Str)(n:Dt)(ps:List Tr),pl[i]?=some k->(Cu t pl)[i]?=some (.mk w n ps)->(B7 t pl)[i]?=some (nb w n k):=by
 induction s with
 | nil t=>intro i k w n ps h;simp at h
 | @cons w n ts j u r h s ih =>
  intro i k w' n' ps hk hp
  rw [Lv h] at hp
  rw [Ff h]
  cases i with
  | zero =>
   have e1:j=k:=by simpa using hk
   have e2:Tr.mk w n ts=Tr.mk w' n' ps:=by simpa using hp
   cases e2
   subst e1
   rfl
  | succ i=>simpa using ih i k w' n' ps (by simpa using hk) (by simpa using hp)
noncomputable def Cz (d:Nat):List (List Str)->List (Str×Nat)
 | []=>[]
 | l::r=>l.map (fun x=>(x,d))++Cz (d+1) r
theorem Zb0:∀(d:Nat)(a b:List (List Str)),Cz d (a++b)=Cz d a++Cz (d+a.length) b
 | d,[],b=>by simp [Cz]
 | d,l::r,b=>by
  rw [Rh,Cz,Cz,Zb0,Qi,Pj]
  congr 3
  omega
theorem Zb3:∀(d:Nat)(ls:List (List Str)),(Cz d ls).map (·.1)=ls.flatten
 | _,[]=>rfl
 | d,l::r=>by
  rw [Cz,Qf,Zb3,Ts,Vh]
  congr 1
  exact List.map_id l
noncomputable def bn (t:Tr)(pl:List Nat):List (Str×Nat):=Cz 0 (B7 t pl)
noncomputable def Br (t:Tr)(pl:List Nat):List Str:=(B7 t pl).flatten
theorem Zk2 (t:Tr)(pl:List Nat):(bn t pl).map (·.1)=Br t pl:=Zb3 0 _
noncomputable def B3 (x:Str):Nat->List Str->Option Nat
 | _,[]=>none
 | d,y::r=>match B3 x (d+1) r with
  | some k=>some k
  | none=>if y=x then some d else none
theorem Zfg (x:Str):∀(d:Nat)(a b:List Str),B3 x d (a++b)=match B3 x (d+a.length) b with | some k=>some k | none=>B3 x d a
 | d,[],b=>by
  rw [Ru,Tx,Nat.add_zero]
  cases B3 x d b <;> rfl
 | d,y::r,b=>by
  rw [Rh,B3,Zfg,Pj,show d+1+r.length=d+(r.length+1) by omega]
  cases B3 x (d+(r.length+1)) b with
  | some k=>rfl
  | none=>rfl
theorem Zhv (x y:Str)(d:Nat)(a:List Str):B3 x d (a++[y])=if y=x then some (d+a.length) else B3 x d a:=by
 rw [Zfg,B3,B3]
 by_cases h:y=x
 ·rw [if_pos h,if_pos h]
 ·rw [if_neg h,if_neg h]
noncomputable def B8:Tr->List Nat->Tr->Tr
 | _,[],f=>f
 | .mk w n ps,k::r,f=>match ps[k]? with
  | some u=>.mk w n (ps.set k (B8 u r f))
  | none=>.mk w n ps
theorem Gw {w:Str}{n:Dt}{ts:List Tr}{j:Nat}{t f:Tr}{r:List Nat}(h:ts[j]?=some t):B8 (.mk w n ts) (j::r) f=.mk w n (ts.set j (B8 t r f)):=by rw [B8,h]
theorem Ke (t f:Tr):B8 t [] f=f:=by cases t;rfl
theorem G6 {ts:List Tr}{j:Nat}{t u:Tr}(h:ts[j]?=some t):(ts.set j u)[j]?=some u:=by
 rw [Rf (Pg.mp h).1]
theorem Zkp {t f:Tr}{sp pl:List Nat}(s:Sub t sp)(s':Sub t pl)(hn:pl.take sp.length≠sp):Sub (B8 t sp f) pl/\B7 (B8 t sp f) pl=B7 t pl:=by
 induction s generalizing pl with
 | nil t=>exact absurd (by simp) hn
 | @cons w n ts j t r h s ih =>
  rw [Gw h]
  cases s' with
  | nil _=>exact ⟨.nil _,rfl⟩
  | @cons _ _ _ j' t' r' h' s' =>
   by_cases e:j'=j
   ·subst e
    rw [h] at h'
    cases h'
    have:=ih s' (fun z=>hn (by rw [Pj,Vv,z]))
    exact ⟨.cons (G6 h) this.1,by rw [Ff (G6 h),this.2,Ff h]⟩
   ·have h2:(ts.set j (B8 t r f))[j']?=some t':=by rw [Si (P9 e)];exact h'
    exact ⟨.cons h2 s',by rw [Ff h2,Ff h']⟩
theorem Zor {t f:Tr}{sp:List Nat}(s:Sub t sp)(h:Dh t)(hf:Dh f):Dh (B8 t sp f):=by
 induction s with
 | nil t=>rw [Ke];exact hf
 | cons hj _ ih =>
  rw [Gw hj]
  cases h with
  | mk h1 hs =>
   refine .mk h1 fun u hu=>?_
   rcases List.mem_or_eq_of_mem_set hu with hu | rfl
   ·exact hs u hu
   ·exact ih (hs _ (Qb hj))
end K19
namespace K36
open PySem L2 K19
section
variable {P:Program}{w:World}{K:O9}{mg:Str->Option Value}{base:Heap}
noncomputable def Zau (K:O9):Sp:=fun vs H Q _=>∃(v:V)(w:Str)(n:Dt)(ps:List Tr)(k:Nat),vs=[v,.int (k:Nat)]/\TrAt K H v (.mk w n ps)/\Ec w n /\
 ∀(q:Addr)(H':Hp),H q=none->Same H H'->H' q=some (.lst ((nb w n k).map V.str))->Q (.ref q) H'
theorem Gg {x y:Str}:decide (V.str x=V.str y)=decide (x=y):=by
 by_cases h:x=y
 ·subst h;simp
 ·rw [decide_eq_false h,decide_eq_false (fun e=>h (by injection e))]
theorem Lr {H:Hp}{nv:V}{t:Str}(h:IsN K H nv (.flat (.str t))):nv=.str t:=by
 rcases h with ⟨_,e⟩ | ⟨a,vs,_,_,_,e⟩
 ·injection e with e
  exact e.symm
 ·cases e
theorem Zql {H:Hp}{nv:V}{t u:Str}(h:IsN K H nv (.tup [.flat (.str t),.flat (.str u)])):∃ a,nv=.ref a/\SqT K H a [.str t,.str u]:=by
 rcases h with ⟨_,e⟩ | ⟨a,vs,e1,q,_,e⟩
 ·cases e
 ·injection e with e
  obtain ⟨x,y,rfl⟩:=lz2 (vs:=vs) (by first | exact e | (have:=congrArg Rl e;rw [Pe] at this;exact this.symm))
  simp only [Qg,Vb,List.cons.injEq,Dt.flat.injEq,and_true] at e
  obtain ⟨rfl,rfl⟩:=e
  exact ⟨a,e1,q⟩
theorem Znx:Bp ["form", "number"] ["form", "number"] (Bh Hw):=by walk_at "sc"
theorem Zj0 {f:Addr}{fd:FuncData}(F:Fun K "names_bound" "names_bound" Hw f fd)(T:Txt K mg):Bb P w K mg base Bc 1 f fd ["form", "number"] (Zau K):=by
 refine F.okq Znx (fun vs H Q E h=>?_) (fun cdv A outer s H vs Q E hr h=>?_)
 ·obtain ⟨v,w,n,ps,k,rfl,_⟩:=h
  rfl
 ·obtain ⟨v,w,n,ps,k,rfl,ht,hsh,q⟩:=h
  refine ⟨_,Af (Ay (A6 (Bl K hr.u200) (Ao K (qv 0) Ah) Av (A7 _)) (Aj (Aw (Bf (Aa (Ao K (qv 0) Ah) Ab)))) A8)
   (Af (Ay (A6 (Bl K hr.u200) (Ao K (qv 0) Ah) Av (A7 _)) (Aj (Aw (Fl (Lg K) (by rfl) T.list (by decide +kernel) (Aa (Ao K (qv 0) Ah) Ab)))) A8)
   (Af (Ay (QW.qt (Lq (A6 (Bl K hr.u200) (Ao K (qv 0) Ah) Av (A7 _)) (Lf (A6 (Bl K hr.u200) (qv 1) Ah (A7 _))))) (Aj (Aw (Bf (Aa (Ao K (qv 0) Ah) Ab)))) A8)
   (Aj (Aw (Bf Ab))))),?_⟩
  cases ht with
  | @mk b pp _ nv _ us _ qb hn qp l hch =>
  walk_at "r"
  refine Az qb rfl ?_
  walk_at "r"
  rw [Gg]
  refine Bv (fun c=>?_) (fun c=>?_)
  ·have c:=of_decide_eq_true c
   obtain ⟨t,rfl⟩:=hsh.1 (.inl c)
   have:=Lr hn
   subst this
   walk_at "r"
   refine Az qb rfl ?_
   walk_at "r"
   refine ⟨Cm,fun p hp=>?_⟩
   refine q p _ hp (Same.upd hp) ?_
   rw [Ad,nb,if_pos c]
   rfl
  have c1:¬ w = "fn" := fun e=>c (decide_eq_true e)
  walk_at "r"
  refine Az qb rfl ?_
  walk_at "r"
  rw [Gg]
  refine Bv (fun c=>?_) (fun c=>?_)
  ·have c:=of_decide_eq_true c
   obtain ⟨t,u,rfl⟩:=hsh.2 c
   obtain ⟨na,rfl,qn⟩:=Zql hn
   walk_at "r"
   refine Az qb rfl ?_
   walk_at "r"
   refine ⟨na,_,rfl,.inr qn,fun p hp=>?_⟩
   refine q p _ hp (Same.upd hp) ?_
   rw [Ad,nb,if_neg c1,if_pos c]
   rfl
  have c2:¬ w = "rec" := fun e=>c (decide_eq_true e)
  have none:¬ (w = "let" /\ k=1)->∀ p,H p=none->Q (.ref p) (upd H p (.lst [])):=fun h p hp=>by
   refine q p _ hp (Same.upd hp) ?_
   rw [Ad,nb,if_neg c1,if_neg c2,if_neg h]
   rfl
  walk_at "r"
  refine Az qb rfl ?_
  walk_at "r"
  rw [Gg]
  refine Bv (fun c=>?_) (fun c=>?_)
  ·have c:=of_decide_eq_true c
   walk_at "r"
   refine Bv (fun c3=>?_) (fun c3=>?_)
   ·have c3:k=1:=by
     have:(k:Int)=1:=by simpa using c3
     omega
    obtain ⟨t,rfl⟩:=hsh.1 (.inr (.inl c))
    have:=Lr hn
    subst this
    walk_at "r"
    refine Az qb rfl ?_
    walk_at "r"
    refine ⟨Cm,fun p hp=>?_⟩
    refine q p _ hp (Same.upd hp) ?_
    rw [Ad,nb,if_neg c1,if_neg c2,if_pos ⟨c,c3⟩]
    rfl
   ·walk_at "r"
    refine ⟨Bo,fun p hp=>none (fun e=>c3 ?_) p hp⟩
    rw [e.2]
    decide
  ·walk_at "r"
   refine ⟨Bo,fun p hp=>none (fun e=>c (decide_eq_true e.1)) p hp⟩
noncomputable def D5:Dt->Str
 | .flat (.str t)=>t
 | _ => ""
noncomputable abbrev An:=List Nat->Option Ev
noncomputable def Dy (A:An)(pl:List Nat)(f:Nat->Ev):Nat->An
 | 0=>A
 | m+1=>fun q=>if q=pl++[m] then some (f m) else Dy A pl f m q
noncomputable abbrev Dn:=List Nat->Option Nat
noncomputable def El (D:Dn)(pl:List Nat):Nat->List Nat->Dn
 | _,[]=>D
 | i,a::r=>El (fun q=>if q=pl++[i] then some a else D q) pl (i+1) r
theorem Zgd (pl:List Nat)(a:Nat):∀(xs:List Nat)(D:Dn)(i:Nat),El D pl i (xs++[a])=fun q=>if q=pl++[i+xs.length] then some a else El D pl i xs q
 | [],D,i=>by simp [El]
 | x::r,D,i=>by
  rw [Rh,El,Zgd pl a r _ (i+1),El,Pj]
  have:i+1+r.length=i+(r.length+1):=by omega
  rw [this]
theorem Zej (A:An)(pl:List Nat)(f:Nat->Ev):∀ m,Dy A pl f m pl=A pl
 | 0=>rfl
 | m+1=>by
  have h:¬ pl=pl++[m]:=fun e=>by have:=congrArg Rl e;simp at this
  show (if pl=pl++[m] then _ else _)=_
  rw [if_neg h]
  exact Zej A pl f m
theorem nbl3 (w:Str)(n:Dt)(k:Nat):(nb w n k).length<=2:=by
 have h1:(G7 n).length<=2:=by unfold G7;split <;> simp
 have h2:(Im n).length<=2:=by unfold Im;split <;> simp
 unfold nb
 split
 ·exact h1
 ·split
  ·exact h2
  ·split
   ·exact h1
   ·simp
noncomputable def Cc (m:Nat)(w:Str)(n:Dt)(e:Ev):Nat:=if w = "name" then (e (D5 n)).getD (Aq m w).1 else (Aq m w).1
inductive KinG:List (List Nat×Tr)->Ae->Dn->An->List (Nat×Nat)->Ae->Prop where
 | nil {sh:Ae} {D:Dn} {A:An}:KinG [] sh D A [] sh
 | cons {pl:List Nat} {w:Str} {n:Dt} {ts:List Tr} {rs:List (List Nat×Tr)} {sh sh':Ae} {D:Dn} {A:An} {e:Ev} {ps:List (Nat×Nat)} (hA:A pl=some e) (hsh:Ec w n)
   (k:KinG rs (sh++(Aq sh.length w).2.2.2) (El D pl 0 (Aq sh.length w).2.1) (Dy A pl (fun j=>Cj e (nb w n j) (Aq sh.length w).2.2.1) (Aq sh.length w).2.1.length) ps sh'):KinG ((pl,.mk w n ts)::rs) sh D A ((Cc sh.length w n e,(D pl).getD (Cc sh.length w n e))::ps) sh'
noncomputable def Zdd (K:O9):Sp:=fun vs H Q _=>∃(p:Addr)(rows:List V)(rs:List (List Nat×Tr))(ps:List (Nat×Nat))(sh':Ae),vs=[.ref p]/\H p=some (.lst rows)/\Al (RowT K H) rows rs/\rs.length<=40/\(∀ r∈rs,r.1.length<=40)/\KinG rs [.num,.truth] (fun _=>none) (fun q=>if q=[] then some (fun _=>none) else none) ps sh' /\
 ∀ r a b pv H',Same H H'->SqT K H' r [.ref a,.ref b]->ShG K H' a sh'->H' b=some (.lst pv)->Al (PaAt K H') pv ps->Q (.ref r) H'
structure KiF (H:Hp)(a b c d:Addr):Prop where
 ha:H a=none
 hb:H b=none
 hc:H c=none
 hd:H d=none
 ab:a≠b
 cd:c≠d
structure KiJ (K:O9)(H:Hp)(a b c d:Addr)(sh:Ae)(x:Nat)(D:Dn)(E:An)(ps:List (Nat×Nat))(H':Hp):Prop where
 sg:ShG K H' a sh
 pr:∃ pv,H' b=some (.lst pv)/\Al (PaAt K H') pv ps
 ac:∃ kc,H' c=some (.dT kc)/\kc.length<=x/\∀ q,Bz kc (B2 q)=(D q).map fun n=>V.int ((n:Nat):Int)
 ad:∃ kd,H' d=some (.dT kd)/\kd.length<=x+1/\∀ q e,E q=some e->∃ y,Bz kd (B2 q)=some (.ref y)/\EvAt H' y e (2 * q.length)
 sm:Same H H'
theorem C7 {H:Hp}{x y:Addr}{o o':HO}(h:H x=some o)(h':H y=some o')(n:o≠o'):x≠y:=fun z=>by rw [z,h'] at h;exact n (Po h).symm
theorem SameT.dt {H:Hp}{S:Addr}{kv:List (List Au×V)}{o2:HO}(h:H S=some (.dT kv)):SameT H (upd H S o2):=fun b =>
 ⟨fun xs e=>by rw [Ai (C7 e h (fun z=>by cases z))];exact e,fun o' u e=>by rw [Ai (C7 e h (fun z=>by cases z))];exact e⟩
theorem EvAt.off {H:Hp}{a S:Addr}{e:Ev}{m:Nat}{o o2:HO}(h:EvAt H a e m)(hs:H S=some o)(n:∀ kv,o≠.dK kv):EvAt (upd H S o2) a e m:=by
 obtain ⟨kvs,h1,h2,h3⟩:=h.ex
 exact ⟨kvs,by rw [Ai (C7 h1 hs (fun z=>n _ z.symm))];exact h1,h2,h3⟩
theorem KiJ.keep {H H1 H2:Hp}{a b c d:Addr}{sh:Ae}{x:Nat}{D:Dn}{E:An}{ps:List (Nat×Nat)}(J:KiJ K H a b c d sh x D E ps H1)(s:Same H1 H2):KiJ K H a b c d sh x D E ps H2:=by
 obtain ⟨pv,e1,al⟩:=J.pr
 obtain ⟨kc,e2,l2,v2⟩:=J.ac
 obtain ⟨kd,e3,l3,v3⟩:=J.ad
 exact ⟨J.sg.same s,⟨pv,s _ _ e1,al.mono (PaAt.same s.t)⟩,⟨kc,s _ _ e2,l2,v2⟩,⟨kd,s _ _ e3,l3,fun q e hq=>let ⟨y,h1,h2⟩:=v3 q e hq;⟨y,h1,h2.same s⟩⟩,J.sm.trans s⟩
theorem KiJ.kind {H H1 H2:Hp}{a b c d:Addr}{sh sh':Ae}{x:Nat}{D:Dn}{E:An}{ps:List (Nat×Nat)}(J:KiJ K H a b c d sh x D E ps H1)(F:KiF H a b c d)(h:Bt a H1 H2)(S:ShG K H2 a sh'):KiJ K H a b c d sh' x D E ps H2:=by
 obtain ⟨pv,e1,al⟩:=J.pr
 obtain ⟨kc,e2,l2,v2⟩:=J.ac
 obtain ⟨kd,e3,l3,v3⟩:=J.ad
 obtain ⟨us,ea,_⟩:=J.sg.ex
 have t:=h.t ea
 refine ⟨S,⟨pv,h _ _ F.ab.symm e1,al.mono (PaAt.same t)⟩,⟨kc,h _ _ (C7 e2 ea (fun z=>by cases z)) e2,l2,v2⟩,⟨kd,h _ _ (C7 e3 ea (fun z=>by cases z)) e3,l3,fun q e hq=>?_⟩,fun y o e=>h y o (fun z=>by rw [z,F.ha] at e;cases e) (J.sm y o e)⟩
 obtain ⟨y,h1,ev⟩:=v3 q e hq
 obtain ⟨kvs,h2,h3,h4⟩:=ev.ex
 exact ⟨y,h1,kvs,h _ _ (C7 h2 ea (fun z=>by cases z)) h2,h3,h4⟩
theorem KiJ.pair {H H1:Hp}{a b c d:Addr}{sh:Ae}{x:Nat}{D:Dn}{E:An}{ps:List (Nat×Nat)}{pv:List V}{v:V}{y:Nat×Nat}(J:KiJ K H a b c d sh x D E ps H1)(F:KiF H a b c d)(eb:H1 b=some (.lst pv))(al:Al (PaAt K H1) pv ps)(hv:PaAt K H1 v y):KiJ K H a b c d sh x D E (ps++[y]) (upd H1 b (.lst (pv++[v]))):=by
 obtain ⟨kc,e2,l2,v2⟩:=J.ac
 obtain ⟨kd,e3,l3,v3⟩:=J.ad
 have t:=SameT.set (o:=.lst (pv++[v])) eb
 refine ⟨J.sg.off F.ab eb,⟨_,Ad,(al.mono (PaAt.same t)).snoc (PaAt.same t _ _ hv)⟩,⟨kc,by rw [Ai (C7 e2 eb (fun z=>by cases z))];exact e2,l2,v2⟩,⟨kd,by rw [Ai (C7 e3 eb (fun z=>by cases z))];exact e3,l3,fun q e hq=>?_⟩,J.sm.over F.hb⟩
 obtain ⟨y,h1,h2⟩:=v3 q e hq
 exact ⟨y,h1,h2.off eb (fun kv z=>by cases z)⟩
theorem Zed {kv:List (List Au×V)}{q z:List Nat}{v:V}:Bz (Bm kv (B2 q) v) (B2 z)=if z=q then some v else Bz kv (B2 z):=by
 rw [Li]
 by_cases h:z=q
 ·rw [if_pos h,if_pos (by rw [h])]
 ·rw [if_neg h,if_neg fun e=>h (Zlr e)]
theorem KiJ.ask {H H1:Hp}{a b c d:Addr}{sh:Ae}{x n:Nat}{D:Dn}{E:An}{ps:List (Nat×Nat)}{kc:List (List Au×V)}{q:List Nat}(J:KiJ K H a b c d sh x D E ps H1)(F:KiF H a b c d)(ec:H1 c=some (.dT kc))(lc:kc.length<=x)(vc:∀ q,Bz kc (B2 q)=(D q).map fun n=>V.int ((n:Nat):Int)):KiJ K H a b c d sh (x+1) (fun z=>if z=q then some n else D z) E ps (upd H1 c (.dT (Bm kc (B2 q) (.int (n:Nat))))):=by
 obtain ⟨pv,e1,al⟩:=J.pr
 obtain ⟨kd,e3,l3,v3⟩:=J.ad
 obtain ⟨us,ea,ala⟩:=J.sg.ex
 have t:=SameT.dt (o2:=.dT (Bm kc (B2 q) (.int (n:Nat)))) ec
 refine ⟨⟨us,by rw [Ai (C7 ea ec (fun z=>by cases z))];exact ea,ala.mono (ShE.same t)⟩,⟨pv,by rw [Ai (C7 e1 ec (fun z=>by cases z))];exact e1,al.mono (PaAt.same t)⟩,⟨_,Ad,?_,fun z=>?_⟩,⟨kd,by rw [Ai F.cd.symm];exact e3,by omega,fun q e hq=>?_⟩,J.sm.over F.hc⟩
 ·have:=Ej kc (B2 q) (.int (n:Nat))
  omega
 ·rw [Zed,vc z]
  split <;> rfl
 ·obtain ⟨y,h1,h2⟩:=v3 q e hq
  exact ⟨y,h1,h2.off ec (fun kv z=>by cases z)⟩
theorem KiJ.name {H H1:Hp}{a b c d y:Addr}{sh:Ae}{x:Nat}{D:Dn}{E:An}{ps:List (Nat×Nat)}{kd:List (List Au×V)}{q:List Nat}{e:Ev}(J:KiJ K H a b c d sh (x+1) D E ps H1)(F:KiF H a b c d)(ed:H1 d=some (.dT kd))(ld:kd.length<=x+1)(vd:∀ q e,E q=some e->∃ y,Bz kd (B2 q)=some (.ref y)/\EvAt H1 y e (2 * q.length))(he:EvAt H1 y e (2 * q.length)):KiJ K H a b c d sh (x+1) D (fun z=>if z=q then some e else E z) ps (upd H1 d (.dT (Bm kd (B2 q) (.ref y)))):=by
 obtain ⟨pv,e1,al⟩:=J.pr
 obtain ⟨kc,e2,l2,v2⟩:=J.ac
 obtain ⟨us,ea,ala⟩:=J.sg.ex
 have t:=SameT.dt (o2:=.dT (Bm kd (B2 q) (.ref y))) ed
 refine ⟨⟨us,by rw [Ai (C7 ea ed (fun z=>by cases z))];exact ea,ala.mono (ShE.same t)⟩,⟨pv,by rw [Ai (C7 e1 ed (fun z=>by cases z))];exact e1,al.mono (PaAt.same t)⟩,⟨kc,by rw [Ai F.cd];exact e2,l2,v2⟩,⟨_,Ad,?_,fun z e' hz=>?_⟩,J.sm.over F.hd⟩
 ·have:=Ej kd (B2 q) (.ref y)
  omega
 ·rw [Zed]
  have hz:(if z=q then some e else E z)=some e':=hz
  by_cases h:z=q
  ·rw [if_pos h] at hz ⊢
   cases hz
   exact ⟨y,rfl,by rw [h];exact he.off ed (fun kv z=>by cases z)⟩
  ·rw [if_neg h] at hz ⊢
   obtain ⟨y',h1,h2⟩:=vd z e' hz
   exact ⟨y',h1,h2.off ed (fun kv z=>by cases z)⟩
theorem KiJ.imp {H H1:Hp}{a b c d:Addr}{sh:Ae}{x x':Nat}{D D':Dn}{E E':An}{ps:List (Nat×Nat)}(J:KiJ K H a b c d sh x D E ps H1)(hx:x<=x')(hD:D=D')(hE:∀ q e,E' q=some e->E q=some e):KiJ K H a b c d sh x' D' E' ps H1:=by
 subst hD
 obtain ⟨kc,e2,l2,v2⟩:=J.ac
 obtain ⟨kd,e3,l3,v3⟩:=J.ad
 exact ⟨J.sg,J.pr,⟨kc,e2,by omega,v2⟩,⟨kd,e3,by omega,fun q e hq=>v3 q e (hE q e hq)⟩,J.sm⟩
theorem Zd1 (m:Nat)(w:Str):(Aq m w).2.1.length<=3/\(Aq m w).2.2.2.length<=3:=by
 unfold Aq
 repeat (first | split | exact ⟨by decide,by decide⟩ | (constructor <;> simp))
theorem Zch (pl:List Nat)(j:Nat):Ba (pl++[j])=Ba pl++[.int ((j:Nat):Int)]:=by unfold Ba;rw [Qf];rfl
theorem sc_kinds_in:Bp ["placed", "shapes", "pairs", "asked_at", "around_at", "place", "form", "given", "asked", "bound", "number", "kind", "part"] ["placed"] (Bh Jl):=by walk_at "sc"
theorem Zh5 {f:Addr}{fd:FuncData}(F:Fun K "kinds_in" "kinds_in" Jl f fd)(T:Txt K mg){fs s0 s1:Addr}(G_FIRST_SHAPES:Fk mg "FIRST_SHAPES" (.ref fs))(hfs:∀ H,SqT K H fs [.ref s0,.ref s1])(hs0:∀ H,SqT K H s0 [.str "num"])(hs1:∀ H,SqT K H s1 [.str "truth"])
  (C_kinds_of_word:Be P w K mg base 2 "kinds_of_word" ["shapes", "word"] (Zdt K)) (C_with_names:Be P w K mg base 1 "with_names" ["around", "names", "kinds"] (Zdh K)) (C_names_bound:Be P w K mg base 1 "names_bound" ["form", "number"] (Zau K)):Bb P w K mg base Bc 3 f fd ["placed"] (Zdd K):=by
 refine F.okq sc_kinds_in (fun vs H Q E h=>?_) (fun cdv A outer s H vs Q E hr h=>?_)
 ·obtain ⟨p,rows,rs,ps,sh',rfl,_⟩:=h
  rfl
 ·obtain ⟨p,rows,rs,ps,sh',rfl,ep,al,hl,hpl,hK,q⟩:=h
  refine ⟨_,Af (Ar 1 sc_kinds_in (Fl (Lg K) (by rfl) T.list (by decide +kernel) (Aa (Et G_FIRST_SHAPES) Ab)))
   (Af (Ar 2 sc_kinds_in (Bf Ab))
   (Af (Ar 3 sc_kinds_in (Zp4))
   (Af (Ar 4 sc_kinds_in (Zkq hr.u1 (Ap Ab) (N9)))
   (Af (Cw P4 rfl (Cp K (qv 0)) (Df K (n:=2) rfl (Bx (A1 (i:=5) sc_kinds_in.nd rfl (Or.inl rfl)) (Bx (A1 (i:=6) sc_kinds_in.nd rfl (Or.inl rfl)) (C9)))) (Af (Hl (A5 C_kinds_of_word hr.m (Aa (qv 1) (Aa (Ao K (qv 6) Ah) Ab))) (Df K (n:=3) rfl (Bx (A1 (i:=7) sc_kinds_in.nd rfl (Or.inl rfl)) (Bx (A1 (i:=8) sc_kinds_in.nd rfl (Or.inl rfl)) (Bx (A1 (i:=9) sc_kinds_in.nd rfl (Or.inl rfl)) (C9))))))
   (Af (Ay (A6 (Bl K hr.u200) (Ao K (qv 6) Ah) Av (A7 _)) (Aj (Ar 7 sc_kinds_in (Ze5 hr.u1 (Lz hr.u1 (qv 4) (qv 5) (fun _ _=>rfl)) (Ao K (qv 6) Ah) (qv 7)))) A8)
   (Af (Co (C4 K P8 Qn Qo Di (qv 2) (Aa (Ap (Aa (qv 7) (Aa (Ze5 hr.u1 (qv 3) (qv 5) (qv 7)) Ab))) Ab)))
   (Aj (Cw P4 rfl (Kq K rfl T.enumerate (Aa (qv 8) Ab)) (Df K (n:=2) rfl (Bx (A1 (i:=10) sc_kinds_in.nd rfl (Or.inl rfl)) (Bx (A1 (i:=11) sc_kinds_in.nd rfl (Or.inl rfl)) (C9)))) (Af (Ar 12 sc_kinds_in (A0 (Nv K) (qv 5) (Ap (Aa (qv 10) Ab))))
   (Af (Gk hr.u1 (qv 3) (qv 12) (qv 11))
   (Aj (Gk hr.u1 (qv 4) (qv 12) (A5 C_with_names hr.m (Aa (Lz hr.u1 (qv 4) (qv 5) (fun _ _=>rfl)) (Aa (A5 C_names_bound hr.m (Aa (qv 6) (Aa (qv 10) Ab))) (Aa (qv 9) Ab))))))))))))))
   (Aj (Aw (Ap (Aa (qv 1) (Aa (qv 2) Ab))))))))),?_⟩
  have bg:=big
  walk_at "r"
  refine ⟨fs,_,rfl,.inr (hfs H),fun a ha=>?_⟩
  have t1:=Same.upd (o:=.lst [.ref s0,.ref s1]) ha
  walk_at "r"
  refine ⟨Bo,fun b hb=>?_⟩
  have t2:=Same.upd (o:=.lst []) hb
  walk_at "r"
  refine fun c hc=>?_
  have t3:=Same.upd (o:=.dT []) hc
  walk_at "r"
  refine fun d hd=>?_
  have t4:=Same.upd (o:=.dT []) hd
  walk_at "r"
  refine ⟨Bo,fun e0 he0=>?_⟩
  have t5:=Same.upd (o:=.tup []) he0
  refine fun e1 he1=>?_
  have t6:=Same.upd (o:=.dK []) he1
  have ed:=(t5.trans t6) d _ Ad
  have ee0:=t6 e0 _ Ad
  refine ⟨_,DPut.t (k:=B2 []) ed (by show _=some (HO.tup []);exact ee0) (by show 0 < sizeLine;decide),?_⟩
  have sH:=((((t1.trans t2).trans t3).trans t4).trans t5).trans t6
  have fK:KiF H a b c d:=⟨ha,t1.free hb,(t1.trans t2).free hc,((t1.trans t2).trans t3).free hd,Ax Ad hb,Ax Ad hd⟩
  have J0:KiJ K H a b c d [.num,.truth] 0 (fun _=>none) (fun _=>none) [] _:=⟨⟨[.ref s0,.ref s1],((((t2.trans t3).trans t4).trans t5).trans t6) a _ Ad,(Al.nil.snoc (x:=Sh.num) ⟨s0,rfl,hs0 _⟩).snoc (x:=Sh.truth) ⟨s1,rfl,hs1 _⟩⟩,⟨[],(((t3.trans t4).trans t5).trans t6) b _ Ad,.nil⟩,⟨[],((t4.trans t5).trans t6) c _ Ad,Pc _,fun q=>rfl⟩,⟨[],ed,P6 _,fun q e h=>by cases h⟩,sH⟩
  have J1:=((J0.imp (x':=1) (by decide) rfl (fun _ _ h=>h)).name (x:=0) (q:=[]) (y:=e1) (e:=fun _=>none) fK ed (P6 _) (fun q e h=>by cases h) ⟨[],Ad,fun _=>rfl,Pc _⟩)
  revert J1
  generalize upd _ d _=H1
  intro J1
  walk_at "r"
  refine .inl ⟨p,rfl,⟨_,SqL.of (J1.sm _ _ ep)⟩,?_⟩
  refine Ie (K:=K) (a:=p) (xs:=rows) (fun i σ' H'=>∃ v5 v6 v7 v8 v9 v10 v11 v12 sh D E ps1 ps2,σ'=[some (.ref p),some (.ref a),some (.ref b),some (.ref c),some (.ref d),v5,v6,v7,v8,v9,v10,v11,v12]/\KiJ K H a b c d sh (1+3 * i) D E ps1 H'/\sh.length<=2+3 * i/\ps1.length=i/\KinG (rs.drop i) sh D E ps2 sh'/\ps1++ps2=ps)
   ⟨_,_,_,_,_,_,_,_,[.num,.truth],fun _=>none,fun q=>if q=[] then some (fun _=>none) else none,[],ps,rfl,J1.imp (by decide) rfl (fun q e h=>h),Pc _,rfl,hK,rfl⟩ ?_ ?_ ?_
  ·rintro i σ' H' _ ⟨_,_,_,_,_,_,_,_,_,_,_,_,_,_,J,_⟩
   exact SqL.of (J.sm _ _ ep)
  ·rintro i x σ' H2 hx ⟨v5,v6,v7,v8,v9,v10,v11,v12,sh,D,E1,ps1,ps2,rfl,J,hm,hpn,hKi,hps⟩
   obtain ⟨y,hy,hrow⟩:=al.get hx
   have hi:=(Pg.mp hy).1
   obtain ⟨pl,t⟩:=y
   have hplen:pl.length<=40:=hpl _ (Qb hy)
   have hdr:rs.drop i=(pl,t)::rs.drop (i+1):=by
    rw [Rc hi]
    rw [Pb hi] at hy
    rw [Po hy]
   rw [hdr] at hKi
   cases hKi with
   | @cons _ wd n ts _ _ _ _ _ ev ps3 hA hsh hK2 =>
   obtain ⟨ra,pp,u,rfl,qra,epp,hu⟩:=hrow
   have hu0:=hu
   cases hu with
   | @mk bq pq _ nv _ us _ qb hno qpp hul hch =>
   obtain ⟨kl1,kl2⟩:=Zd1 sh.length wd
   walk_at "r"
   refine Dj (J.sm.tup qra) rfl ?_
   walk_at "r"
   refine Az (J.sm.tup qb) rfl ?_
   walk_at "r"
   refine ⟨a,wd,sh,rfl,by omega,J.sg,fun r bb cc H3 hbt S3 qr ebb hbb nbb ecc hcc ncc ncb=>?_⟩
   have J3:=J.kind fK hbt S3
   obtain ⟨pv,eb3,alp⟩:=J3.pr
   obtain ⟨kc,ec3,lc3,vc3⟩:=J3.ac
   obtain ⟨kd3,ed3,_,vd3⟩:=J3.ad
   have hbb0:b≠bb:=by
    obtain ⟨pv0,eb0,_⟩:=J.pr
    exact Ax eb0 hbb
   have hbc0:b≠cc:=by
    obtain ⟨pv0,eb0,_⟩:=J.pr
    exact Ax eb0 hcc
   have epp3:H3 pp=some (.tup ((B2 pl).map kV)):=by rw [Mo];exact J3.sm _ _ epp
   refine Dj qr rfl ?_
   walk_at "q"
   refine Fu (R:=fun σ' H'=>H'=H3/\σ'=[some (.ref p),some (.ref a),some (.ref b),some (.ref c),some (.ref d),some (.ref pp),some (.ref bq),some (.int (Cc sh.length wd n ev:Nat)),some (.ref bb),some (.ref cc),v10,v11,v12]) ?_ ?_
   ·intro Y hY
    walk_at "r"
    refine Az (J3.sm.tup qb) rfl ?_
    walk_at "r"
    rw [E6]
    refine Bv (fun cn=>?_) (fun cn=>?_)
    ·have cn:=of_decide_eq_true cn
     obtain ⟨y,vy,evy⟩:=vd3 pl ev hA
     obtain ⟨kvy,ey,dcy,_⟩:=evy.ex
     obtain ⟨tn,rfl⟩:=hsh.1 (.inr (.inr cn))
     have hnv:=Lr hno
     subst hnv
     walk_at "r"
     refine ⟨d,.ref y,rfl,by rw [<- vy];exact DGet.t ed3 epp3,?_⟩
     refine ⟨y,rfl,.inl ⟨_,.inl ey⟩,?_⟩
     walk_at "r"
     refine Az (J3.sm.tup qb) rfl ?_
     walk_at "r"
     refine ⟨_,DGet.k (k:=.inr tn) ey,?_⟩
     rw [dcy tn]
     have eg:((ev tn).map fun n=>V.int ((n:Nat):Int)).getD (.int ((Aq sh.length wd).1:Nat))=.int (Cc sh.length wd (.flat (.str tn)) ev:Nat):=by
      unfold Cc
      rw [if_pos cn]
      show _=V.int (((ev tn).getD _:Nat):Int)
      cases ev tn <;> rfl
     rw [eg]
     walk_at "r"
     exact hY _ _ ⟨rfl,rfl⟩
    ·have cn:¬ wd = "name" := fun e=>cn (decide_eq_true e)
     have eg:Cc sh.length wd n ev=(Aq sh.length wd).1:=if_neg cn
     rw [eg] at hY
     exact hY _ _ ⟨rfl,rfl⟩
   rintro _ H3x ⟨hHx,rfl⟩
   rw [hHx]
   clear hHx
   walk_at "r"
   refine Ca (SqL.of eb3) ?_
   walk_at "r"
   refine ⟨c,rfl,.inr ⟨_,.inl ec3⟩,?_⟩
   walk_at "r"
   refine ⟨_,DGet.t ec3 epp3,?_⟩
   generalize hgv:Cc sh.length wd n ev=gv
   have eg:(Bz kc (B2 pl)).getD (.int (gv:Nat))=.int (((D pl).getD gv:Nat):Int):=by
    rw [vc3]
    cases D pl <;> rfl
   rw [eg]
   walk_at "r"
   refine ⟨B6,fun pt hpt=>?_⟩
   have s4:=Same.upd (o:=.tup [.int (gv:Nat),.int (((D pl).getD gv:Nat):Int)]) hpt
   walk_at "r"
   have hpvl:pv.length < sizeLine:=by rw [alp.1,hpn];omega
   refine C8 (s4 _ _ eb3) hpvl ?_
   have J4:=(J3.keep s4).pair (v:=.ref pt) (y:=(gv,(D pl).getD gv)) fK (s4 _ _ eb3) (alp.mono (PaAt.same s4.t)) ⟨pt,rfl,SqT.of Ad⟩
   have ebb4:upd (upd H3 pt (.tup [.int (gv:Nat),.int (((D pl).getD gv:Nat):Int)])) b (.lst (pv++[.ref pt])) bb=some (.lst (Am (Aq sh.length wd).2.1)):=by rw [Ai hbb0.symm];exact s4 _ _ ebb
   have ecc4:upd (upd H3 pt (.tup [.int (gv:Nat),.int (((D pl).getD gv:Nat):Int)])) b (.lst (pv++[.ref pt])) cc=some (.lst (Am (Aq sh.length wd).2.2.1)):=by rw [Ai hbc0.symm];exact s4 _ _ ecc
   revert J4 ebb4 ecc4
   generalize upd (upd H3 pt (.tup [.int (gv:Nat),.int (((D pl).getD gv:Nat):Int)])) b (.lst (pv++[.ref pt]))=H4
   intro J4 ebb4 ecc4
   generalize has:(Aq sh.length wd).2.1=as at ebb4 kl1 hK2 ebb
   generalize hbd:(Aq sh.length wd).2.2.1=bd at ecc4 hK2 ecc
   walk_at "r"
   refine ⟨bb,_,rfl,SqL.of ebb4,?_⟩
   have hasl:(Am as).length=as.length:=by unfold Am;exact Pe ..
   refine L4 (K:=K) (a:=bb) (xs:=Am as) (fun j σ5 H5=>∃ Eb Em Gc,σ5=[some (.ref p),some (.ref a),some (.ref b),some (.ref c),some (.ref d),some (.ref pp),some (.ref bq),some (.int (gv:Nat)),some (.ref bb),some (.ref cc),Eb,Em,Gc]/\KiJ K H a b c d (sh++(Aq sh.length wd).2.2.2) (1+3 * i+j) (El D pl 0 (as.take j)) (Dy E1 pl (fun j=>Cj ev (nb wd n j) bd) j) (ps1++[(gv,(D pl).getD gv)]) H5/\H5 bb=some (.lst (Am as))/\H5 cc=some (.lst (Am bd)))
    ⟨_,_,_,rfl,J4.imp (Pc _) (by rw [List.take_zero];rfl) (fun q e hq=>hq),ebb4,ecc4⟩ ?_ ?_ ?_
   ·rintro j σ5 H5 _ ⟨_,_,_,_,_,e,_⟩
    exact SqL.of e
   ·rintro j x tt σ5 H5 hx2 htt ⟨Eb,Em,Gc,rfl,J5,ebb5,ecc5⟩
    have hj:j < as.length:=by have:=(Pg.mp hx2).1;rwa [hasl] at this
    have hxv:x=.int ((as[j]:Nat):Int):=by unfold Am at hx2;rw [Pq,Pb hj] at hx2;exact (Po hx2).symm
    subst hxv
    have s6:=Same.upd (o:=.tup [.int (j:Nat),.int ((as[j]:Nat):Int)]) htt
    have J6:=J5.keep s6
    refine Dj (SqT.of Ad) rfl ?_
    have ebb6:=s6 _ _ ebb5
    have ecc6:=s6 _ _ ecc5
    revert J6 ebb6 ecc6
    generalize upd H5 tt (.tup [.int (j:Nat),.int ((as[j]:Nat):Int)])=H6
    intro J6 ebb6 ecc6
    walk_at "r"
    refine ⟨Cm,fun p7 h7=>?_⟩
    have s7:=Same.upd (o:=.tup [.int (j:Nat)]) h7
    refine .inr ⟨pp,p7,_,_,rfl,rfl,s7 _ _ (J6.sm _ _ epp),Ad,by show (Ba pl).length+1<=sizeLine;unfold Ba;rw [Pe];omega,fun pa H8 s8 epa=>?_⟩
    have s78:=s7.trans s8
    have J8:=J6.keep s78
    have ebb8:=s78 _ _ ebb6
    have ecc8:=s78 _ _ ecc6
    rw [<- Zch] at epa
    have epa8:H8 pa=some (.tup ((B2 (pl++[j])).map kV)):=by rw [Mo];exact epa
    obtain ⟨kc8,ec8,lc8,vc8⟩:=J8.ac
    obtain ⟨kd8,ed8,ld8,_⟩:=J8.ad
    walk_at "r"
    refine ⟨c,_,rfl,DPut.t (k:=B2 (pl++[j])) ec8 epa8 (by omega),?_⟩
    have J9:=J8.ask (n:=as[j]) (q:=pl++[j]) fK ec8 lc8 vc8
    have t9:=SameT.dt (o2:=.dT (Bm kc8 (B2 (pl++[j])) (.int ((as[j]:Nat):Int)))) ec8
    have epa9:=(t9 pa).1 _ epa8
    have ebb9:upd H8 c (.dT (Bm kc8 (B2 (pl++[j])) (.int ((as[j]:Nat):Int)))) bb=some (.lst (Am as)):=by rw [Ai (C7 ebb8 ec8 (fun z=>by cases z))];exact ebb8
    have ecc9:upd H8 c (.dT (Bm kc8 (B2 (pl++[j])) (.int ((as[j]:Nat):Int)))) cc=some (.lst (Am bd)):=by rw [Ai (C7 ecc8 ec8 (fun z=>by cases z))];exact ecc8
    have ed98:upd H8 c (.dT (Bm kc8 (B2 (pl++[j])) (.int ((as[j]:Nat):Int)))) d=some (.dT kd8):=by rw [Ai fK.cd.symm];exact ed8
    revert J9 epa9 ebb9 ecc9 ed98
    generalize upd H8 c (.dT (Bm kc8 (B2 (pl++[j])) (.int ((as[j]:Nat):Int))))=H9
    intro J9 epa9 ebb9 ecc9 ed98
    obtain ⟨kd9,ed9,_,vd9⟩:=J9.ad
    rw [ed9] at ed98
    cases ed98
    have hApl:Dy E1 pl (fun j=>Cj ev (nb wd n j) bd) j pl=some ev:=by rw [Zej];exact hA
    obtain ⟨e9,ve9,he9⟩:=vd9 pl ev hApl
    have epp9:H9 pp=some (.tup ((B2 pl).map kV)):=by rw [Mo];exact J9.sm _ _ epp
    walk_at "r"
    refine ⟨d,.ref e9,rfl,by rw [<- ve9];exact DGet.t ed9 epp9,?_⟩
    walk_at "r"
    refine ⟨.ref bq,wd,n,ts,j,rfl,hu0.same J9.sm,hsh,fun pn HA hpn sA epn=>?_⟩
    walk_at "r"
    refine ⟨e9,pn,cc,ev,nb wd n j,bd,2 * pl.length,rfl,he9.same sA,by omega,epn,sA _ _ ecc9,nbl3 _ _ _,fun pz HB sB' hpz evz=>?_⟩
    have sB:=sA.trans sB'
    walk_at "r"
    have JB:=J9.keep sB
    have lda:kd8.length < sizeLine:=by omega
    have edB:=sB _ _ ed9
    refine ⟨d,_,rfl,DPut.t (k:=B2 (pl++[j])) edB (sB _ _ epa9) lda,?_⟩
    have evz':EvAt HB pz (Cj ev (nb wd n j) bd) (2 * (pl++[j]).length):=by rw [Pl,Qa];exact evz
    refine ⟨_,_,_,rfl,(JB.name (x:=1+3 * i+j) (q:=pl++[j]) (y:=pz) fK edB (by omega) (fun q e hq=>let ⟨y,h1,h2⟩:=vd9 q e hq;⟨y,h1,h2.same sB⟩) evz').imp (by omega) ?_ (fun q e hq=>hq),?_,?_⟩
    ·rw [Qv,Pb hj]
     show _=El D pl 0 (as.take j++[as[j]])
     rw [Zgd,Pt,Sr (U8 hj),Rk]
    ·rw [Ai (C7 (sB _ _ ebb9) edB (fun z=>by cases z))]
     exact sB _ _ ebb9
    ·rw [Ai (C7 (sB _ _ ecc9) edB (fun z=>by cases z))]
     exact sB _ _ ecc9
   ·rintro σ5 H5 ⟨Eb,Em,Gc,rfl,J5,ebb5,ecc5⟩
    rw [hasl] at J5
    rw [hgv] at hps
    refine ⟨_,_,_,_,_,_,_,_,_,_,_,ps1++[(gv,(D pl).getD gv)],ps3,rfl,J5.imp (by omega) (by rw [Qp (Pc _)]) (fun q e hq=>hq),by rw [Pl];omega,by simp [hpn],hK2,by rw [<- hps,Qi];rfl⟩
  ·rintro σ' H2 ⟨v5,v6,v7,v8,v9,v10,v11,v12,sh,D,E1,ps1,ps2,rfl,J,hm,hpn,hKi,hps⟩
   rw [al.1,Wa] at hKi
   cases hKi
   rw [Qc] at hps
   subst hps
   obtain ⟨pv,eb,alp⟩:=J.pr
   walk_at "r"
   refine ⟨B6,fun r hr'=>?_⟩
   have s3:=Same.upd (o:=.tup [.ref a,.ref b]) hr'
   exact q r a b pv _ (J.sm.trans s3) (SqT.of Ad) (J.sg.same s3) (s3 _ _ eb) (alp.mono (PaAt.same s3.t))
noncomputable def Za9:Sp:=fun vs H Q _=>∃ k:Int,vs=[.int k]/\Q (.bl true) H
theorem Zpw:Bp ["thing"] ["thing"] (Bh Jj):=by walk_at "sc"
theorem Zjz {f:Addr}{fd:FuncData}(F:Fun K "is_whole" "is_whole" Jj f fd)(T:Txt K mg):Bb P w K mg base Bc 1 f fd ["thing"] Za9:=by
 refine F.okq Zpw (fun vs H Q E h=>?_) (fun cdv A outer s H vs Q E hr h=>?_)
 ·obtain ⟨k,rfl,_⟩:=h
  rfl
 ·obtain ⟨k,rfl,q⟩:=h
  refine ⟨_,Aj (Aw (Hr (B1 (D8 K "int") (by rfl) T.isinstance (by decide +kernel) (Aa (qv 0) (Aa (Ee (v:=.ty "int") (by rfl) T.int (by decide +kernel) rfl) Ab))) (Kf (Ze0 (B1 (D8 K "bool") (by rfl) T.isinstance (by decide +kernel) (Aa (qv 0) (Aa (Ee (v:=.ty "bool") (by rfl) T.bool (by decide +kernel) rfl) Ab))))))),?_⟩
  walk_at "r"
  refine Dc (.int _) Zl8 ?_
  walk_at "r"
  refine Dc (.int _) Zq3 ?_
  walk_at "r"
  exact q
noncomputable def Zec (K:O9):Sp:=fun vs H Q _=>∃(v:V)(w:Str)(n:Dt)(ps:List Tr)(k:Nat),vs=[v,.int (k:Nat)]/\TrAt K H v (.mk w n ps)/\k < ps.length/\Q (.bl true) H
theorem Zg0:Bp ["form", "number"] ["form", "number"] (Bh Jf):=by walk_at "sc"
theorem Zqd {f:Addr}{fd:FuncData}(F:Fun K "has_part" "has_part" Jf f fd)(T:Txt K mg)(C_is_whole:Be P w K mg base 1 "is_whole" ["thing"] Za9):Bb P w K mg base Bc 2 f fd ["form", "number"] (Zec K):=by
 refine F.okq Zg0 (fun vs H Q E h=>?_) (fun cdv A outer s H vs Q E hr h=>?_)
 ·obtain ⟨v,w,n,ps,k,rfl,_⟩:=h
  rfl
 ·obtain ⟨v,w,n,ps,k,rfl,ht,hk,q⟩:=h
  refine ⟨_,Aj (Aw (Hr (A5 C_is_whole hr.m (Aa (qv 1) Ab)) (Kf (Zhm Zlg Zdr Ah (qv 1) (B1 (Cn K) (by rfl) T.len (by decide +kernel) (Aa (Ao K (qv 0) Ah) Ab)))))),?_⟩
  cases ht with
  | @mk b pp _ nv _ us _ qb hn qp l hch =>
  walk_at "r"
  refine ⟨_,rfl,?_⟩
  walk_at "r"
  refine Bv (fun _=>?_) (fun c=>absurd (decide_eq_true (by omega)) c)
  walk_at "r"
  refine Az qb rfl ?_
  walk_at "r"
  refine Fs qp ?_
  walk_at "r"
  have e:decide ((k:Int) < (us.length:Int))=true:=decide_eq_true (by omega)
  rw [e]
  exact q
theorem Ii {α:Type}{xs:List α}{x:α}(h:xs[xs.length - 1]?=some x):B5 xs (-1)=some x:=by
 have hl:=(Pg.mp h).1
 unfold B5 Da
 rw [if_neg (by omega),if_pos (by omega)]
 have e:((-1:Int)+(xs.length:Int)).toNat=xs.length - 1:=by omega
 simpa [e] using h
theorem Zck {α:Type}{xs:List α}{i:Int}{x:α}(j:Nat)(hj:(j:Int)=i)(h:xs[j]?=some x):B5 xs i=some x:=by
 have hl:=(Pg.mp h).1
 subst hj
 unfold B5 Da
 rw [if_pos (by omega),if_pos (by omega)]
 simpa using h
theorem Zok {pl:List Nat}{i:Nat}{v:V}(h:(Ba pl)[i]?=some v):∃ k,v=.int (k:Nat)/\pl[i]?=some k:=by
 unfold Ba at h
 rw [Pq] at h
 cases e:pl[i]? with
 | none=>rw [e] at h;cases h
 | some x=>rw [e] at h;exact ⟨x,(Po h).symm,rfl⟩
theorem Zly (pl:List Nat):(Ba pl).length=pl.length:=by unfold Ba;simp
noncomputable def Zdx (K:O9):Sp:=fun vs H Q _=>∃(v:V)(t:Tr)(p:Addr)(pl:List Nat),vs=[v,.ref p]/\TrAt K H v t/\SqT K H p (Ba pl)/\Sub t pl/\pl.length<=1000 /\
 ∀(q:Addr)(ws:List V)(H':Hp),H q=none->Same H H'->H' q=some (.lst ws)->Al (TrAt K H') ws (Cu t pl)->Q (.ref q) H'
theorem sc_forms_down_to:Bp ["tree", "place", "passed", "number"] ["tree", "place"] (Bh Jo):=by walk_at "sc"
theorem Zkd {f:Addr}{fd:FuncData}(F:Fun K "forms_down_to" "forms_down_to" Jo f fd)(T:Txt K mg)(C_has_part:Be P w K mg base 2 "has_part" ["form", "number"] (Zec K)):Bb P w K mg base Bc 3 f fd ["tree", "place"] (Zdx K):=by
 refine F.okq sc_forms_down_to (fun vs H Q E h=>?_) (fun cdv A outer s H vs Q E hr h=>?_)
 ·obtain ⟨v,t,p,pl,rfl,_⟩:=h
  rfl
 ·obtain ⟨v,t,p,pl,rfl,ht,hp,hs,hl,q⟩:=h
  refine ⟨_,Af (Ar 2 sc_forms_down_to (Bf (Aa (qv 0) Ab)))
   (Af (Cw P4 rfl (Cp K (qv 1)) (A1 (i:=3) sc_forms_down_to.nd rfl (Or.inl rfl)) (Af (Ay (Hi (Ex (A5 C_has_part hr.m (Aa (Ao K (qv 2) (Io Kc Ah)) (Aa (qv 3) Ab))))) (Aj Zc7) A8)
   (Aj (Co (C4 K P8 Qn Qo Di (qv 2) (Aa (Ao K (Ao K (Ao K (qv 2) (Io Kc Ah)) Ah) (qv 3)) Ab))))))
   (Aj (Aw (qv 2)))),?_⟩
  have bg:=big
  walk_at "r"
  refine ⟨Cm,fun q0 hq0=>?_⟩
  obtain ⟨H1,s1,e1,z9⟩:=Hg hq0 (.lst [v])
  rw [z9]
  walk_at "r"
  refine .inr (.inl ⟨p,rfl,⟨_,s1.tup hp⟩,?_⟩)
  have p0:(Cu t pl).take 1=[t]:=by
   have:=Zbv t pl
   cases e:Cu t pl with
   | nil=>rw [e] at this;cases this
   | cons a r =>
    rw [e] at this
    have h:a=t:=by simpa using this
    rw [h]
    rfl
  refine Zct (K:=K) (a:=p) (xs:=Ba pl) (fun i σ' H'=>∃ w3 ws,σ'=[some v,some (.ref p),some (.ref q0),w3]/\H' q0=some (.lst ws)/\Al (TrAt K H') ws ((Cu t pl).take (i+1))/\Same H H') ⟨none,[v],rfl,e1,by rw [p0];exact Al.nil.snoc (ht.same s1),s1⟩ ?_ ?_ ?_
  ·rintro i σ' H' _ ⟨_,_,_,_,_,sm⟩
   exact sm.tup hp
  ·rintro i x σ' H' hx ⟨w3,ws,rfl,e2,al,sm⟩
   obtain ⟨k,rfl,hk⟩:=Zok hx
   obtain ⟨w',n',ps,u,a1,a2,a3⟩:=Zdi hs i k hk
   have hi:=(Pg.mp hk).1
   have hpl:=Op hs
   have hwl:ws.length=i+1:=by rw [al.1,Pt];omega
   have hx1:((Cu t pl).take (i+1))[i]?=some (.mk w' n' ps):=by rw [List.getElem?_take,if_pos (by omega)];exact a1
   obtain ⟨vi,hvi,hti⟩:=al.get' hx1
   have hlast:B5 ws (-1)=some vi:=Ii (by rw [hwl];exact hvi)
   cases hti with
   | @mk b pp _ nv _ us _ qb hn qp l hch =>
   have hku:k < us.length:=by rw [l];exact (Pg.mp a2).1
   walk_at "r"
   refine Bk (SqL.of e2) hlast ?_
   walk_at "r"
   refine ⟨_,w',n',ps,k,rfl,.mk qb hn qp l hch,by omega,?_⟩
   walk_at "r"
   refine Ca (SqL.of e2) ?_
   walk_at "r"
   refine Bk (SqL.of e2) hlast ?_
   walk_at "r"
   refine Az qb rfl ?_
   walk_at "r"
   refine Az qp (Zck k rfl (Pb hku)) ?_
   walk_at "r"
   refine C8 e2 (by omega) ?_
   walk_at "r"
   have t3:SameT H' (upd H' q0 (.lst (ws++[us[k]]))):=SameT.set e2
   refine ⟨_,ws++[us[k]],rfl,Ad,?_,sm.over hq0⟩
   have e3:(Cu t pl).take (i+1+1)=(Cu t pl).take (i+1)++[u]:=by rw [Sm,a3];rfl
   rw [e3]
   exact (al.mono fun _ _ z=>z.sameT t3).snoc ((hch k _ u (Pb hku) a2).sameT t3)
  ·rintro σ' H' ⟨w3,ws,rfl,e2,al,sm⟩
   rw [Zly,Qp (by rw [Op hs];omega)] at al
   walk_at "r"
   exact q q0 ws H' hq0 sm e2 al
noncomputable def BdAt (K:O9)(H:Hp)(pl:List Nat)(v:V)(x:Str×Nat):Prop:=∃(a b:Addr),v=.ref a/\SqT K H a [.str x.1,.ref b]/\SqT K H b (Ba (pl.take x.2))
theorem BdAt.same {H H':Hp}{pl:List Nat}(e:SameT H H')(v:V)(x:Str×Nat)(h:BdAt K H pl v x):BdAt K H' pl v x:=by
 obtain ⟨a,b,h1,h2,h3⟩:=h
 exact ⟨a,b,h1,e.tup h2,e.tup h3⟩
theorem Zeb (w:Str)(n:Dt)(k:Nat):(nb w n k).length<=2:=by
 have h1:(G7 n).length<=2:=by unfold G7;split <;> simp
 have h2:(Im n).length<=2:=by unfold Im;split <;> simp
 unfold nb
 split
 ·exact h1
 ·split
  ·exact h2
  ·split
   ·exact h1
   ·simp
theorem Zey {t:Tr}{pl:List Nat}(s:Sub t pl):∀ l∈B7 t pl,l.length<=2:=by
 induction s with
 | nil t=>intro l h;cases t;cases h
 | cons h _ ih =>
  intro l hl
  rw [Ff h] at hl
  rcases Ph.mp hl with rfl | hl
  ·exact Zeb _ _ _
  ·exact ih l hl
theorem Nh:∀(d:Nat)(ls:List (List Str)),(∀ l∈ls,l.length<=2)->(Cz d ls).length<=2 * ls.length
 | _,[],_=>by simp [Cz]
 | d,l::r,h=>by
  have h1:=h l Sj
  have h2:=Nh (d+1) r fun x hx=>h x (Qy _ hx)
  rw [Cz,Pl,Pe,Pj]
  omega
theorem Zdz {t:Tr}{pl:List Nat}(s:Sub t pl):(bn t pl).length<=2 * pl.length:=by
 have:=Nh 0 (B7 t pl) (Zey s)
 rw [Zei s] at this
 exact this
theorem Zg4 (pl:List Nat)(k:Nat):(Ba pl).take k=Ba (pl.take k):=by unfold Ba;rw [U7]
noncomputable def Zeg (K:O9):Sp:=fun vs H Q _=>∃(v:V)(t:Tr)(p:Addr)(pl:List Nat),vs=[v,.ref p]/\TrAt K H v t/\Dh t/\SqT K H p (Ba pl)/\Sub t pl/\pl.length<=1000 /\
 ∀(q:Addr)(ws:List V)(H':Hp),H q=none->Same H H'->H' q=some (.lst ws)->Al (BdAt K H' pl) ws (bn t pl)->Q (.ref q) H'
theorem sc_bindings_at:Bp ["tree", "place", "told", "depth", "above", "name"] ["tree", "place"] (Bh Jc):=by walk_at "sc"
theorem Zg8 {f:Addr}{fd:FuncData}(F:Fun K "bindings_at" "bindings_at" Jc f fd)(T:Txt K mg)(C_forms_down_to:Be P w K mg base 3 "forms_down_to" ["tree", "place"] (Zdx K))(C_names_bound:Be P w K mg base 1 "names_bound" ["form", "number"] (Zau K)):Bb P w K mg base Bc 4 f fd ["tree", "place"] (Zeg K):=by
 refine F.okq sc_bindings_at (fun vs H Q E h=>?_) (fun cdv A outer s H vs Q E hr h=>?_)
 ·obtain ⟨v,t,p,pl,rfl,_⟩:=h
  rfl
 ·obtain ⟨v,t,p,pl,rfl,ht,hsh,hp,hs,hl,q⟩:=h
  refine ⟨_,Af (Ar 2 sc_bindings_at (Bf Ab))
   (Af (Cw P4 rfl (Kq K rfl T.enumerate (Aa (C1 (Lo K) (A5 C_forms_down_to hr.m (Aa (qv 0) (Aa (qv 1) Ab))) (Ew) (Cd (Io Kc Ah))) Ab)) (Df K (n:=2) rfl (Bx (A1 (i:=3) sc_bindings_at.nd rfl (Or.inl rfl)) (Bx (A1 (i:=4) sc_bindings_at.nd rfl (Or.inl rfl)) (C9)))) (Aj (Cw P4 rfl (Cp K (A5 C_names_bound hr.m (Aa (qv 4) (Aa (Ao K (qv 1) (qv 3)) Ab)))) (A1 (i:=5) sc_bindings_at.nd rfl (Or.inl rfl)) (Aj (Co (C4 K P8 Qn Qo Di (qv 2) (Aa (Ap (Aa (qv 5) (Aa (C1 (Lo K) (qv 1) (Ew) (Cd (qv 3))) Ab))) Ab)))))))
   (Aj (Aw (qv 2)))),?_⟩
  have bg:=big
  have hpl:=Op hs
  have hll:=Zei hs
  have hbl:=Zdz hs
  walk_at "r"
  refine ⟨Bo,fun q0 hq0=>?_⟩
  obtain ⟨H1,s1,e1,z9⟩:=Hg hq0 (.lst [])
  rw [z9]
  walk_at "r"
  refine ⟨v,t,p,pl,rfl,ht.same s1,s1.tup hp,hs,hl,fun q2 ws H2 hq2 s2 e2 al=>?_⟩
  walk_at "r"
  refine Zqk (SqL.of e2) fun q3 hq3=>?_
  have ec:Bq ws none (some (-1))=ws.take pl.length:=by rw [Zo6,al.1,hpl];rfl
  rw [ec]
  obtain ⟨H3,s3,e3,z9⟩:=Hg hq3 (.lst (ws.take pl.length))
  rw [z9]
  walk_at "r"
  refine ⟨q3,_,rfl,SqL.of e3,?_⟩
  have s13:=s1.trans (s2.trans s3)
  have hwl:(ws.take pl.length).length=pl.length:=by rw [Pt,al.1];omega
  have n3:q0≠q3:=Ax ((s2 _ _ e1)) hq3
  refine L4 (K:=K) (a:=q3) (xs:=ws.take pl.length) (fun i σ' H'=>∃ w3 w4 w5 vs,σ'=[some v,some (.ref p),some (.ref q0),w3,w4,w5]/\H' q0=some (.lst vs)/\H' q3=some (.lst (ws.take pl.length))/\Al (BdAt K H' pl) vs (Cz 0 ((B7 t pl).take i))/\SameT H3 H'/\Same H H') ⟨none,none,none,[],rfl,(s2.trans s3) _ _ e1,e3,Al.nil,SameT.refl _,s13⟩ ?_ ?_ ?_
  ·rintro i σ' H' _ ⟨_,_,_,_,_,_,e,_⟩
   exact SqL.of e
  ·rintro i x tt σ' H' hx htt ⟨w3,w4,w5,vs,rfl,e4,e5,al4,t4,sm4⟩
   have hi:i < pl.length:=by have:=(Pg.mp hx).1;rw [hwl] at this;exact this
   have hk:pl[i]?=some pl[i]:=Pb hi
   have hx':ws[i]?=some x:=by rw [List.getElem?_take,if_pos hi] at hx;exact hx
   obtain ⟨w',n',ps,u,a1,a2,a3⟩:=Zdi hs i _ hk
   obtain ⟨ti,hti,hat⟩:=al.get hx'
   rw [a1] at hti
   cases hti
   have hsi:Ec w' n':=by
    cases Zqh hs hsh _ (Qb a1) with
    | mk h _=>exact h
   have hla:=Zmd hs i _ w' n' ps hk a1
   obtain ⟨H6,s6,e6,z9⟩:=Hg htt (.tup [.int i,x])
   rw [z9]
   walk_at "r"
   refine Dj (SqT.of e6) rfl ?_
   walk_at "r"
   refine Az (s6.tup (sm4.tup hp)) (v:=.int (pl[i]:Nat)) (Zck i rfl (by unfold Ba;rw [Pq,hk];rfl)) ?_
   walk_at "r"
   refine ⟨x,w',n',ps,pl[i],rfl,(hat.sameT (s3.t.trans t4)).same s6,hsi,fun q7 H7 hq7 s7 e7=>?_⟩
   refine .inl ⟨q7,rfl,⟨_,SqL.of e7⟩,?_⟩
   have s67:=s6.trans s7
   have n07:q0≠q7:=Ax (s6 _ _ e4) hq7
   have n37:q3≠q7:=Ax (s6 _ _ e5) hq7
   refine Ie (K:=K) (a:=q7) (xs:=(nb w' n' pl[i]).map V.str) (fun j σ' H'=>∃ w5 us,σ'=[some v,some (.ref p),some (.ref q0),some (.int i),some x,w5]/\H' q0=some (.lst us)/\H' q3=some (.lst (ws.take pl.length))/\H' q7=some (.lst ((nb w' n' pl[i]).map V.str))/\Al (BdAt K H' pl) us (Cz 0 ((B7 t pl).take i)++((nb w' n' pl[i]).take j).map fun y=>(y,i))/\SameT H3 H'/\Same H H') ⟨_,vs,rfl,s67 _ _ e4,s67 _ _ e5,e7,by simpa using al4.mono (BdAt.same s67.t),t4.trans s67.t,sm4.trans s67⟩ ?_ ?_ ?_
   ·rintro j σ' H' _ ⟨_,_,_,_,_,e,_⟩
    exact SqL.of e
   ·rintro j y σ' H8 hy ⟨w5',us,rfl,e8,e8b,e8c,al8,t8,sm8⟩
    rw [Pq] at hy
    cases hyy:(nb w' n' pl[i])[j]? with
    | none=>rw [hyy] at hy;cases hy
    | some yy =>
    rw [hyy] at hy
    have hy:V.str yy=y:=by simpa using hy
    subst hy
    have hnl:=Zeb w' n' pl[i]
    have hul:us.length<=2 * pl.length+2:=by
     rw [al8.1,Pl,Pe,Pt]
     have:=Nh 0 ((B7 t pl).take i) (fun l hl=>Zey hs l (List.mem_of_mem_take hl))
     rw [Pt] at this
     omega
    walk_at "r"
    refine Ca (SqL.of e8) ?_
    walk_at "r"
    refine Zaq (sm8.tup hp) fun r9 H9 s9 q9=>?_
    rw [Zce,Zg4] at q9
    walk_at "r"
    refine ⟨B6,fun p10 h10=>?_⟩
    have s10:Same H8 (upd H9 p10 (.tup [.str yy,.ref r9])):=s9.put h10
    have e10:=s10 _ _ e8
    walk_at "r"
    refine C8 e10 (by omega) ?_
    walk_at "r"
    have t11:SameT H8 (upd (upd H9 p10 (.tup [.str yy,.ref r9])) q0 (.lst (us++[.ref p10]))):=s10.t.trans (SameT.set e10)
    refine ⟨_,us++[.ref p10],rfl,Ad,by rw [Ai n3.symm];exact s10 _ _ e8b,by rw [Ai n07.symm];exact s10 _ _ e8c,?_,t8.trans t11,(sm8.trans s10).over hq0⟩
    rw [Sm,hyy,Qf,<- Qi]
    refine (al8.mono (BdAt.same t11)).snoc ⟨p10,r9,rfl,(SameT.set e10).tup (SqT.of Ad),?_⟩
    exact ((Same.upd (o:=.tup [.str yy,.ref r9]) h10).t.trans (SameT.set e10)).tup q9
   ·rintro σ' H8 ⟨w5',us,rfl,e8,e8b,e8c,al8,t8,sm8⟩
    rw [Pe,Qz] at al8
    refine ⟨_,_,_,us,rfl,e8,e8b,?_,t8,sm8⟩
    rw [Sm,hla,Zb0]
    have e9:Cz (0+((B7 t pl).take i).length) (some (nb w' n' pl[i])).toList=(nb w' n' pl[i]).map fun y=>(y,i):=by
     rw [Pt,hll,Rk,Sr (by omega)]
     simp [Cz]
    rw [e9]
    exact al8
  ·rintro σ' H' ⟨w3,w4,w5,vs,rfl,e4,e5,al4,t4,sm4⟩
   rw [hwl,Qp (by omega)] at al4
   walk_at "r"
   exact q q0 vs H' hq0 sm4 e4 al4
noncomputable def Zdc (K:O9):Sp:=fun vs H Q _=>∃(v:V)(t:Tr)(p:Addr)(pl:List Nat),vs=[v,.ref p]/\TrAt K H v t/\Dh t/\SqT K H p (Ba pl)/\Sub t pl/\pl.length<=1000 /\
 ∀(q:Addr)(H':Hp),H q=none->Same H H'->H' q=some (.lst ((Br t pl).map V.str))->Q (.ref q) H'
theorem Zcm:(["name", "where"]:List Str).Nodup:=by decide +kernel
theorem Zna:Bp ["tree", "place"] ["tree", "place"] (Bh Jz):=by walk_at "sc"
theorem Zmx {f:Addr}{fd:FuncData}(F:Fun K "names_at" "names_at" Jz f fd)(T:Txt K mg)(C_bindings_at:Be P w K mg base 4 "bindings_at" ["tree", "place"] (Zeg K)):Bb P w K mg base Bc 5 f fd ["tree", "place"] (Zdc K):=by
 refine F.okq Zna (fun vs H Q E h=>?_) (fun cdv A outer s H vs Q E hr h=>?_)
 ·obtain ⟨v,t,p,pl,rfl,_⟩:=h
  rfl
 ·obtain ⟨v,t,p,pl,rfl,ht,hsh,hp,hs,hl,q⟩:=h
  refine ⟨_,Aj (Aw (Ey (N:=["name", "where"]) (σ0:=Cq 2 []) rfl (Dl rfl (by decide +kernel) (by decide +kernel) (by decide +kernel)) (Cp K (A5 C_bindings_at hr.m (Aa (qv 0) (Aa (qv 1) Ab)))) (Dq rfl (by rfl)) (fun _ _ _ _=>Df K (n:=2) rfl (Bx (A1 (i:=0) Zcm rfl (Or.inl rfl)) (Bx (A1 (i:=1) Zcm rfl (Or.inl rfl)) (C9)))) (fun _ _ _ _=>Fa) (fun _ _ _ _=>qv 0))),?_⟩
  have bg:=big
  have hbl:=Zdz hs
  walk_at "r"
  refine ⟨v,t,p,pl,rfl,ht,hsh,hp,hs,hl,fun q1 ws H1 hq1 s1 e1 al=>?_⟩
  refine .inl ⟨q1,rfl,⟨_,SqL.of e1⟩,fun D hD=>?_⟩
  have nD:q1≠D:=Ax e1 hD
  refine E4 (K:=K) (a:=q1) (xs:=ws) (Pv:=fun i ys σ' H'=>∃ v0 v1,σ'=[v0,v1]/\H' q1=some (.lst ws)/\ys=(((bn t pl).take i).map fun x=>V.str x.1)/\SameT H1 H'/\Same H1 H') ⟨none,none,rfl,by rw [Ai nD];exact e1,rfl,SameT.new hD,Same.upd hD⟩ ?_ ?_ ?_
  ·rintro i ys σ' H' _ ⟨_,_,_,e,_⟩
   exact SqL.of e
  ·rintro i x ys σ' H' hx hys ⟨v0,v1,rfl,e,rfl,t2,sm⟩
   obtain ⟨y,hy,a,b,rfl,g1,g2⟩:=al.get hx
   have hi:=(Pg.mp hx).1
   have hwl:ws.length<=2000:=by rw [al.1];omega
   walk_at "r"
   refine Dj (t2.tup g1) rfl ?_
   walk_at "r"
   refine ⟨_,hys,by rw [Pe,Pt];omega,_,Ad,?_⟩
   refine ⟨_,_,rfl,by rw [Ai nD];exact e,?_,t2.trans (SameT.set hys),sm.over hD⟩
   rw [Sm,hy,Qf]
   rfl
  ·rintro ys σ' H' hys ⟨v0,v1,rfl,e,rfl,t2,sm⟩
   rw [al.1,Qz] at hys
   refine q D H' (s1.free hD) (s1.trans sm) ?_
   rw [hys,<- Zk2,Vh]
   rfl
noncomputable def Kw:Option Nat->V
 | none=>.non
 | some i=>.int (i:Nat)
noncomputable def Zbo (K:O9):Sp:=fun vs H Q _=>∃(v:V)(t:Tr)(p:Addr)(pl:List Nat)(x:Str),vs=[v,.ref p,.str x]/\TrAt K H v t/\Dh t/\SqT K H p (Ba pl)/\Sub t pl/\pl.length<=1000 /\
 ∀(H':Hp),Same H H'->Q (Kw (B3 x 0 (Br t pl))) H'
theorem sc_binding_at:Bp ["tree", "place", "name", "last", "number", "bound"] ["tree", "place", "name"] (Bh Kh):=by walk_at "sc"
theorem Zpy {f:Addr}{fd:FuncData}(F:Fun K "binding_at" "binding_at" Kh f fd)(T:Txt K mg)(C_names_at:Be P w K mg base 5 "names_at" ["tree", "place"] (Zdc K)):Bb P w K mg base Bc 6 f fd ["tree", "place", "name"] (Zbo K):=by
 refine F.okq sc_binding_at (fun vs H Q E h=>?_) (fun cdv A outer s H vs Q E hr h=>?_)
 ·obtain ⟨v,t,p,pl,x,rfl,_⟩:=h
  rfl
 ·obtain ⟨v,t,p,pl,x,rfl,ht,hsh,hp,hs,hl,q⟩:=h
  refine ⟨_,Af (Ar 3 sc_binding_at Dx)
   (Af (Cw P4 rfl (Kq K rfl T.enumerate (Aa (A5 C_names_at hr.m (Aa (qv 0) (Aa (qv 1) Ab))) Ab)) (Df K (n:=2) rfl (Bx (A1 (i:=4) sc_binding_at.nd rfl (Or.inl rfl)) (Bx (A1 (i:=5) sc_binding_at.nd rfl (Or.inl rfl)) (C9)))) (Aj (Ay (A6 (Bl K hr.u200) (qv 5) (qv 2) (A7 _)) (Aj (Ar 3 sc_binding_at (qv 4))) A8)))
   (Aj (Aw (qv 3)))),?_⟩
  walk_at "r"
  refine ⟨v,t,p,pl,rfl,ht,hsh,hp,hs,hl,fun q1 H1 hq1 s1 e1=>?_⟩
  walk_at "r"
  refine ⟨q1,_,rfl,SqL.of e1,?_⟩
  refine L4 (K:=K) (a:=q1) (xs:=(Br t pl).map V.str) (fun i σ' H'=>∃ w4 w5,σ'=[some v,some (.ref p),some (.str x),some (Kw (B3 x 0 ((Br t pl).take i))),w4,w5]/\Same H1 H') ⟨none,none,rfl,Same.refl _⟩ ?_ ?_ ?_
  ·rintro i σ' H' _ ⟨_,_,_,sm⟩
   exact SqL.of (sm _ _ e1)
  ·rintro i y tt σ' H' hy htt ⟨w4,w5,rfl,sm⟩
   rw [Pq] at hy
   cases hyy:(Br t pl)[i]? with
   | none=>rw [hyy] at hy;cases hy
   | some yy =>
   rw [hyy] at hy
   have hy:V.str yy=y:=by simpa using hy
   subst hy
   have hi:=(Pg.mp hyy).1
   have e2:B3 x 0 ((Br t pl).take (i+1))=if yy=x then some i else B3 x 0 ((Br t pl).take i):=by
    rw [Sm,hyy]
    show B3 x 0 (_++[yy])=_
    rw [Zhv,Pt,Rk,Sr (by omega)]
   obtain ⟨H3,s3,e3,z9⟩:=Hg htt (.tup [.int i,.str yy])
   rw [z9]
   walk_at "r"
   refine Dj (SqT.of e3) rfl ?_
   walk_at "r"
   rw [Gg]
   refine Bv (fun c=>?_) (fun c=>?_)
   ·have c:=of_decide_eq_true c
    walk_at "r"
    refine ⟨some (.int i),some (.str yy),?_,sm.trans s3⟩
    rw [e2,if_pos c]
    rfl
   ·have c:¬ yy=x:=fun e=>c (decide_eq_true e)
    walk_at "r"
    refine ⟨some (.int i),some (.str yy),?_,sm.trans s3⟩
    rw [e2,if_neg c]
    rfl
  ·rintro σ' H' ⟨w4,w5,rfl,sm⟩
   rw [Pe,Qz]
   walk_at "r"
   exact q H' (s1.trans sm)
noncomputable def B4 (t:Tr)(pl:List Nat)(f:Tr)(fb:Bool):Str:=match f with
 | .mk w n _=>if fb=false then "unlike" else if w = "odd" then "odd" else if w = "name" /\ B3 (D5 n) 0 (Br t pl)=none then "free" else ""
noncomputable def Zb8 (K:O9):Sp:=fun vs H Q _=>∃(v:V)(t:Tr)(p:Addr)(pl:List Nat)(u:V)(w:Str)(n:Dt)(ps:List Tr)(fb:Bool),vs=[v,.ref p,u,.bl fb]/\TrAt K H v t/\Dh t/\SqT K H p (Ba pl)/\Sub t pl/\pl.length<=1000/\TrAt K H u (.mk w n ps)/\Ec w n/\∀ H',Same H H'->Q (.str (B4 t pl (.mk w n ps) fb)) H'
theorem Zi6:Bp ["tree", "place", "form", "fits"] ["tree", "place", "form", "fits"] (Bh Iu):=by walk_at "sc"
theorem Zkh {f:Addr}{fd:FuncData}(F:Fun K "mark_of" "mark_of" Iu f fd)(T:Txt K mg)(C_binding_at:Be P w K mg base 6 "binding_at" ["tree", "place", "name"] (Zbo K)):Bb P w K mg base Bc 7 f fd ["tree", "place", "form", "fits"] (Zb8 K):=by
 refine F.okq Zi6 (fun vs H Q E h=>?_) (fun cdv A outer s H vs Q E hr h=>?_)
 ·obtain ⟨v,t,p,pl,u,w,n,ps,fb,rfl,_⟩:=h
  rfl
 ·obtain ⟨v,t,p,pl,u,w,n,ps,fb,rfl,htv,hts,hp,hsub,hpl,ht,hsh,q⟩:=h
  refine ⟨_,Af (Ay (Hi (F9 K (qv 3) (by intro _;rfl))) (Aj (Aw Av)) A8)
   (Af (Ay (A6 (Bl K hr.u200) (Ao K (qv 2) Ah) Av (A7 _)) (Aj (Aw Av)) A8)
   (Af (Ay (QW.qt (Lq (A6 (Bl K hr.u200) (Ao K (qv 2) Ah) Av (A7 _)) (Lf (Hm (Ky (A5 C_binding_at hr.m (Aa (qv 0) (Aa (qv 1) (Aa (Ao K (qv 2) Ah) Ab))))))))) (Aj (Aw Av)) A8)
   (Aj (Aw Av)))),?_⟩
  have htu:=ht
  cases ht with
  | @mk bq pp _ nv _ us _ qb hn qp l hch =>
  have q:∀ H',Same H H'->Q (.str (if fb=false then "unlike" else if w = "odd" then "odd" else if w = "name" /\ B3 (D5 n) 0 (Br t pl)=none then "free" else "")) H':=q
  walk_at "r"
  refine ⟨fb,by show fb=fb;rfl,?_⟩
  cases fb with
  | false =>
   rw [if_pos rfl] at q
   walk_at "r"
   exact q _ (Same.refl _)
  | true =>
   rw [if_neg (by decide)] at q
   walk_at "r"
   refine Az qb rfl ?_
   walk_at "r"
   rw [E6]
   refine Bv (fun c=>?_) (fun c=>?_)
   ·rw [if_pos (of_decide_eq_true c)] at q
    walk_at "r"
    exact q _ (Same.refl _)
   rw [if_neg (fun e=>c (decide_eq_true e))] at q
   walk_at "r"
   refine Az qb rfl ?_
   walk_at "r"
   rw [E6]
   by_cases cn:w = "name"
   ·rw [decide_eq_true cn]
    obtain ⟨tn,rfl⟩:=hsh.1 (.inr (.inr cn))
    have hnv:=Lr hn
    subst hnv
    walk_at "r"
    refine Az qb rfl ?_
    walk_at "r"
    refine ⟨v,t,p,pl,tn,rfl,htv,hts,hp,hsub,hpl,fun H1 s1=>?_⟩
    have q:∀ H',Same H H'->Q (.str (if w = "name" /\ B3 tn 0 (Br t pl)=none then "free" else "")) H':=q
    cases e:B3 tn 0 (Br t pl) with
    | none =>
     rw [if_pos ⟨cn,e⟩] at q
     walk_at "r"
     rw [show decide (Kw none=V.non)=true from rfl]
     walk_at "r"
     exact q _ s1
    | some k =>
     rw [if_neg (fun z=>by rw [e] at z;cases z.2)] at q
     walk_at "r"
     rw [show decide (Kw (some k)=V.non)=false from rfl]
     walk_at "r"
     exact q _ s1
   ·rw [decide_eq_false cn]
    rw [if_neg (fun z=>cn z.1)] at q
    walk_at "r"
    exact q _ (Same.refl _)
noncomputable def flat (ps:List (Nat×Nat)):List Nat:=ps.flatMap fun p=>[p.1,p.2]
theorem Ko:∀ ps:List (Nat×Nat),(flat ps).length=2 * ps.length
 | []=>rfl
 | p::r=>by
  have:=Ko r
  have e:flat (p::r)=p.1::p.2::flat r:=rfl
  rw [e,Pj,Pj,Pj,this]
  omega
theorem Zj8 (ps:List (Nat×Nat))(p:Nat×Nat):flat (ps++[p])=flat ps++[p.1,p.2]:=by unfold flat;rw [Vt];rfl
theorem KinG.len {rs:List (List Nat×Tr)}{sh sh':Ae}{D:Dn}{A:An}{ps:List (Nat×Nat)}(h:KinG rs sh D A ps sh'):ps.length=rs.length:=by
 induction h with
 | nil=>rfl
 | cons _ _ _ ih=>rw [Pj,Pj,ih]
theorem FitG.len {ps:List (Nat×Nat)}{m m':Ae}{fs:List Bool}(h:FitG ps m fs m'):fs.length=ps.length:=by
 induction h with
 | nil=>rfl
 | ok _ _ _ _ _ _ ih=>rw [Pj,Pj,ih]
 | clash _ _ _ ih=>rw [Pj,Pj,ih]
 | loop _ _ _ _ _ _ ih=>rw [Pj,Pj,ih]
structure Fe (t:Tr)(ks:List Kd)(fs:List Bool):Prop where
 ex:∃ ps sh1 sh2 N td',KinG (walk [] t) [.num,.truth] (fun _=>none) (fun q=>if q=[] then some (fun _=>none) else none) ps sh1/\FitG ps sh1 fs sh2/\ToldN sh2 N (fun _=>none) 0 (flat ps).reverse td'/\N<=2000/\ks.length=(flat ps).length/\∀(j x:Nat)(k:Kd),(flat ps)[j]?=some x->ks[j]?=some k->∃ r,Last sh2 x r/\td' r=some k
noncomputable abbrev Rw:=List Nat×Kd×Option Kd×Str
noncomputable def G4 (t:Tr)(ks:List Kd)(fs:List Bool)(i:Nat)(x:List Nat×Tr):Rw:=(x.1,ks.getD (2 * i) .num,(if x.1=[] then none else some (ks.getD (2 * i+1) .num)),B4 t x.1 x.2 (fs.getD i false))
noncomputable def Ck (t:Tr)(ks:List Kd)(fs:List Bool):List Rw:=(walk [] t).mapIdx (G4 t ks fs)
noncomputable def AkD (K:O9)(H:Hp)(v:V)(a:Option Kd):Prop:=(a=none/\v=.non)\/∃ k,a=some k/\KdAt K H v k
theorem AkD.same {H H':Hp}{v:V}{a:Option Kd}(h:AkD K H v a)(e:SameT H H'):AkD K H' v a:=by
 rcases h with h | ⟨k,h1,h2⟩
 ·exact .inl h
 ·exact .inr ⟨k,h1,h2.same e⟩
noncomputable def LkAt (K:O9)(H:Hp)(v:V)(r:Rw):Prop:=∃(e p:Addr)(g a:V),v=.ref e/\SqT K H e [.ref p,g,a,.str r.2.2.2]/\H p=some (.tup (Ba r.1))/\KdAt K H g r.2.1/\AkD K H a r.2.2.1
theorem LkAt.same {H H':Hp}(e:SameT H H')(v:V)(r:Rw)(h:LkAt K H v r):LkAt K H' v r:=by
 obtain ⟨c,p,g,a,h1,h2,h3,h4,h5⟩:=h
 exact ⟨c,p,g,a,h1,e.tup h2,(e p).1 _ h3,h4.same e,h5.same e⟩
noncomputable def Zc8 (K:O9):Sp:=fun vs H Q _=>∃(v:V)(t:Tr)(ks:List Kd)(fs:List Bool),vs=[v]/\TrAt K H v t/\Dh t/\t.size<=40/\Fe t ks fs/\∀(p:Addr)(rows:List V)(H':Hp),Same H H'->H p=none->H' p=some (.lst rows)->Al (LkAt K H') rows (Ck t ks fs)->Q (.ref p) H'
theorem E2 (pl:List Nat):Ba pl=(pl.map fun i=>((i:Nat):Int)).map V.int:=by unfold Ba;rw [Vh];rfl
theorem Zqg {rs:List (List Nat×Tr)}{sh sh':Ae}{D:Dn}{A:An}{ps:List (Nat×Nat)}(h:KinG rs sh D A ps sh'):∀ x∈rs,∃ w n ts,x.2=.mk w n ts/\Ec w n:=by
 induction h with
 | nil=>intro x hx;cases hx
 | cons _ hsh _ ih =>
  intro x hx
  rcases Ph.mp hx with rfl | hx
  ·exact ⟨_,_,_,rfl,hsh⟩
  ·exact ih x hx
theorem sc_looks:Bp ["tree", "placed", "shapes", "pairs", "settled", "fits", "wanted", "pair", "kinds", "rows", "number", "asked"] ["tree"] (Bh Jh):=by walk_at "sc"
theorem Zg1 {f:Addr}{fd:FuncData}(F:Fun K "looks" "looks" Jh f fd)(T:Txt K mg)(G_MOST_FORMS:Fk mg "MOST_FORMS" (.int 40))(C_placed_forms:Be P w K mg base 1 "placed_forms" ["tree"] (Zfo K))(C_kinds_in:Be P w K mg base 3 "kinds_in" ["placed"] (Zdd K))(C_fitted:Be P w K mg base 4 "fitted" ["shapes", "pairs"] (Zdu K))(C_kinds_told:Be P w K mg base 2 "kinds_told" ["shapes", "wanted"] (Zev K))(C_mark_of:Be P w K mg base 7 "mark_of" ["tree", "place", "form", "fits"] (Zb8 K)):Bb P w K mg base Bc 8 f fd ["tree"] (Zc8 K):=by
 refine F.okq sc_looks (fun vs H Q E h=>?_) (fun cdv A outer s H vs Q E hr h=>?_)
 ·obtain ⟨v,t,ks,fs,rfl,_⟩:=h
  rfl
 ·obtain ⟨v,t,ks,fs,rfl,ht,hts,hsz,⟨ps,sh1,sh2,N,td',hK,hF,hT,hN,hkl,hks⟩,q⟩:=h
  refine ⟨_,Af (Ar 1 sc_looks (A5 C_placed_forms hr.m (Aa (qv 0) Ab)))
   (Af (Ay (A6 Zbm (B1 (Cn K) (by rfl) T.len (by decide +kernel) (Aa (qv 1) Ab)) (Et G_MOST_FORMS) (A7 _)) (Aj Zc7) A8)
   (Af (Hl (A5 C_kinds_in hr.m (Aa (qv 1) Ab)) (Df K (n:=2) rfl (Bx (A1 (i:=2) sc_looks.nd rfl (Or.inl rfl)) (Bx (A1 (i:=3) sc_looks.nd rfl (Or.inl rfl)) (C9)))))
   (Af (Hl (A5 C_fitted hr.m (Aa (qv 2) (Aa (qv 3) Ab))) (Df K (n:=2) rfl (Bx (A1 (i:=4) sc_looks.nd rfl (Or.inl rfl)) (Bx (A1 (i:=5) sc_looks.nd rfl (Or.inl rfl)) (C9)))))
   (Af (Ar 6 sc_looks (Bf Ab))
   (Af (Cw P4 rfl (Cp K (qv 3)) (A1 (i:=7) sc_looks.nd rfl (Or.inl rfl)) (Aj (Co (C4 K P8 PySem.F.slot_list_extend PySem.F.type_list_extend (Zoz K) (qv 6) (Aa (qv 7) Ab)))))
   (Af (Ar 8 sc_looks (A5 C_kinds_told hr.m (Aa (qv 4) (Aa (qv 6) Ab))))
   (Af (Ar 9 sc_looks (Bf Ab))
   (Af (Cw P4 rfl (Kq K rfl T.enumerate (Aa (qv 1) Ab)) (Df K (n:=2) rfl (Bx (A1 (i:=10) sc_looks.nd rfl (Or.inl rfl)) (Bx (A1 (i:=7) sc_looks.nd rfl (Or.inl rfl)) (C9)))) (Af (Ar 11 sc_looks (Lb (A6 (Zo4 K hr.u200) (Ao K (qv 7) Ah) (Ap Ab) (A7 _)) Dx (Ao K (qv 8) (A0 (F4 K) (A0 Gq Ah (qv 10)) Ah))))
   (Aj (Co (C4 K P8 Qn Qo Di (qv 9) (Aa (Ap (Aa (Ao K (qv 7) Ah) (Aa (Ao K (qv 8) (A0 Gq Ah (qv 10))) (Aa (qv 11) (Aa (A5 C_mark_of hr.m (Aa (qv 0) (Aa (Ao K (qv 7) Ah) (Aa (Ao K (qv 7) Ah) (Aa (Ao K (qv 5) (qv 10)) Ab))))) Ab))))) Ab))))))
   (Aj (Aw (qv 9))))))))))),?_⟩
  have bg:=big
  have hwl:(walk [] t).length=t.size:=Ep _ _
  have hpl:ps.length=t.size:=by rw [hK.len,hwl]
  have hfl:fs.length=t.size:=by rw [hF.len,hpl]
  have hfps:(flat ps).length=2 * t.size:=by rw [Ko,hpl]
  walk_at "r"
  refine ⟨v,t,rfl,ht,by omega,fun pp rows H1 s1 hpp er al=>?_⟩
  have hrl:rows.length=t.size:=by rw [al.1,hwl]
  walk_at "r"
  refine Dv (SqL.of er) ?_
  walk_at "r"
  refine Zkw ?_ ?_
  ·have:¬ ((40:Int) < (rows.length:Nat)):=by omega
   simpa using this
  walk_at "r"
  refine ⟨pp,rows,walk [] t,ps,sh1,rfl,er,al,by omega,fun r hr2=>by have:=Hf [] t r hr2;simp at this;omega,hK,fun r a b pv H2 s2 qr sh eb alp=>?_⟩
  refine Dj qr rfl ?_
  walk_at "r"
  refine ⟨a,b,sh1,sh2,pv,ps,fs,rfl,sh,eb,alp,hF,by omega,fun r2 a2 c2 H3 s3 qr2 ec2 sg2=>?_⟩
  refine Dj qr2 rfl ?_
  walk_at "r"
  refine ⟨Bo,fun pw hpw=>?_⟩
  have s4:=Same.upd (o:=.lst []) hpw
  have eb4:=s4 _ _ (s3 _ _ eb)
  walk_at "r"
  refine .inl ⟨b,rfl,⟨_,SqL.of eb4⟩,?_⟩
  refine Ie (K:=K) (a:=b) (xs:=pv) (fun i σ' H'=>∃ v7 v8 v9 v10 v11,σ'=[some v,some (.ref pp),some (.ref a),some (.ref b),some (.ref a2),some (.ref c2),some (.ref pw),v7,v8,v9,v10,v11]/\H' pw=some (.lst (Am (flat (ps.take i))))/\Same H3 H')
   ⟨_,_,_,_,_,rfl,Ad,s4⟩ ?_ ?_ ?_
  ·rintro i σ' H' _ ⟨_,_,_,_,_,_,_,sm⟩
   exact SqL.of (sm _ _ (s3 _ _ eb))
  ·rintro i x σ' H5 hx ⟨v7,v8,v9,v10,v11,rfl,ew,sm⟩
   obtain ⟨y,hy,pa,rfl,qpa⟩:=alp.get hx
   have hi:=(Pg.mp hy).1
   have hfl2:(Am (flat (ps.take i))).length=2 * i:=by unfold Am;rw [Pe,Ko,Pt];omega
   walk_at "r"
   refine Ca (SqL.of ew) ?_
   walk_at "r"
   refine ⟨pw,pa,_,_,rfl,rfl,ew,(s3.trans sm).tup qpa,by rw [hfl2];show 2 * i+2<=sizeLine;omega,?_⟩
   refine ⟨_,_,_,_,_,rfl,?_,sm.over hpw⟩
   rw [Ad,Qv,hy]
   show some (HO.lst (Am (flat (ps.take i))++[.int (y.1:Nat),.int (y.2:Nat)]))=some (.lst (Am (flat (ps.take i++[y]))))
   rw [Zj8,Fv]
   rfl
  ·rintro σ' H5 ⟨v7,v8,v9,v10,v11,rfl,ew,sm⟩
   rw [alp.1,Qz] at ew
   walk_at "r"
   refine ⟨a2,pw,sh2,flat ps,ks,N,td',rfl,sg2.same sm,ew,hT,hN,by omega,hkl,hks,fun c3 us H6 s6 hc3 ec3 alk=>?_⟩
   walk_at "r"
   refine ⟨Bo,fun pr hpr=>?_⟩
   have s7:=Same.upd (o:=.lst []) hpr
   have sA:Same H1 H6:=((s2.trans s3).trans sm).trans s6
   have hpr0:H pr=none:=(s1.trans sA).free hpr
   walk_at "r"
   refine ⟨pp,rows,rfl,SqL.of (s7 _ _ (sA _ _ er)),?_⟩
   have e6:H6 c2=some (.lst (fs.map V.bl)):=(sm.trans s6) _ _ ec2
   refine L4 (K:=K) (a:=pp) (xs:=rows) (fun i σ' H'=>∃ w7 Eb Em rv,σ'=[some v,some (.ref pp),some (.ref a),some (.ref b),some (.ref a2),some (.ref c2),some (.ref pw),w7,some (.ref c3),some (.ref pr),Eb,Em]/\H' pr=some (.lst rv)/\Al (LkAt K H') rv ((Ck t ks fs).take i)/\Same H6 H')
    ⟨_,_,_,[],rfl,Ad,.nil,s7⟩ ?_ ?_ ?_
   ·rintro i σ' H' _ ⟨_,_,_,_,_,_,_,sm2⟩
    exact SqL.of (sm2 _ _ (sA _ _ er))
   ·rintro i x tt σ' H7 hx htt ⟨w7,Eb,Em,rv,rfl,erv,alr,sm2⟩
    obtain ⟨y,hy,ra,pl,u,rfl,qra,epl,hu⟩:=al.get hx
    have hi:=(Pg.mp hy).1
    have hr0:(Ck t ks fs)[i]?=some (G4 t ks fs i y):=by unfold Ck;rw [R0,hy];rfl
    have hif:i < fs.length:=by omega
    have hik:2 * i < ks.length:=by omega
    have hik1:2 * i+1 < ks.length:=by omega
    have g0:ks.getD (2 * i) .num=ks[2 * i]:=by rw [Qk,Pb hik];rfl
    have g1:ks.getD (2 * i+1) .num=ks[2 * i+1]:=by rw [Qk,Pb hik1];rfl
    have gf:fs.getD i false=fs[i]:=by rw [Qk,Pb hif];rfl
    have s8:=Same.upd (o:=.tup [.int (i:Nat),.ref ra]) htt
    have sB:Same H1 (upd H7 tt (.tup [.int (i:Nat),.ref ra])):=(sA.trans sm2).trans s8
    have sC:Same H6 (upd H7 tt (.tup [.int (i:Nat),.ref ra])):=sm2.trans s8
    have erv8:=s8 _ _ erv
    have alr8:=alr.mono (LkAt.same s8.t)
    refine Dj (SqT.of Ad) rfl ?_
    revert sB sC erv8 alr8
    generalize upd H7 tt (.tup [.int (i:Nat),.ref ra])=H8
    intro sB sC erv8 alr8
    obtain ⟨kv,hkv,kk⟩:=alk.get' (Pb hik)
    obtain ⟨kw,hkw,kk2⟩:=alk.get' (Pb hik1)
    have epl8:=sB _ _ epl
    have qpl8:SqT K H8 pl (Ba y.1):=SqT.of epl8
    have i2:(2:Int) * (i:Nat)=((2 * i:Nat):Int):=by omega
    have i3:(2:Int) * (i:Nat)+1=((2 * i+1:Nat):Int):=by omega
    walk_at "q"
    refine viaE (R:=fun av H'=>AkD K H6 av (G4 t ks fs i y).2.2.1/\Same H8 H') ?_ ?_
    ·intro Y hY
     walk_at "r"
     refine Az (sB.tup qra) rfl ?_
     walk_at "r"
     refine ⟨Bo,fun p9 h9=>?_⟩
     have s9:=Same.upd (o:=.tup []) h9
     refine Zjp (xs:=y.1.map fun i=>((i:Nat):Int)) (ys:=[]) (by rw [<- E2];exact s9.tup qpl8) (SqT.of Ad) ?_
     walk_at "r"
     refine Bv (fun c=>?_) (fun c=>?_)
     ·have c:y.1=[]:=by simpa using c
      walk_at "r"
      exact hY _ _ ⟨.inl ⟨if_pos c,rfl⟩,s9⟩
     ·have c:y.1≠[]:=fun e=>c (by rw [e];rfl)
      walk_at "r"
      rw [i3]
      refine Bk (SqL.of (s9 _ _ (sC _ _ ec3))) (Cy hkw) ?_
      refine hY _ _ ⟨.inr ⟨_,if_neg c,?_⟩,s9⟩
      rw [g1]
      exact kk2
    rintro av H9 ⟨kav,s9⟩
    walk_at "q"
    walk_at "r"
    refine Ca (SqL.of (s9 _ _ erv8)) ?_
    walk_at "r"
    refine Az ((sB.trans s9).tup qra) rfl ?_
    walk_at "r"
    rw [i2]
    refine Bk (SqL.of ((sC.trans s9) _ _ ec3)) (Cy hkv) ?_
    walk_at "r"
    refine Az ((sB.trans s9).tup qra) rfl ?_
    walk_at "r"
    refine Az ((sB.trans s9).tup qra) rfl ?_
    walk_at "r"
    have hfb2:(fs.map V.bl)[i]?=some (.bl fs[i]):=by rw [Pq,Pb hif];rfl
    refine Bk (SqL.of ((sC.trans s9) _ _ e6)) (Cy hfb2) ?_
    walk_at "r"
    obtain ⟨wd,n,ts,hyt,hshy⟩:=Zqg hK y (Qb hy)
    have hdep:=Hf [] t y (Qb hy)
    have hsubt:=Ks t y (Qb hy)
    have hmg:(G4 t ks fs i y).2.2.2=B4 t y.1 (.mk wd n ts) fs[i]:=by show B4 t y.1 y.2 (fs.getD i false)=_;rw [gf,hyt]
    refine ⟨v,t,pl,y.1,u,wd,n,ts,fs[i],rfl,ht.same ((s1.trans sB).trans s9),hts,(s9.tup qpl8),hsubt,by simp at hdep;omega,by rw [<- hyt];exact hu.same (sB.trans s9),hshy,fun HX sX=>?_⟩
    rw [<- hmg]
    walk_at "r"
    refine ⟨sz4,fun pz hpz=>?_⟩
    have sz:=Same.upd (o:=.tup [.ref pl,kv,av,.str (G4 t ks fs i y).2.2.2]) hpz
    walk_at "r"
    have s9X:=(s9.trans sX).trans sz
    have erv9:=s9X _ _ erv8
    have hrv:rv.length < sizeLine:=by rw [alr.1,Pt];omega
    refine C8 erv9 hrv ?_
    have tz:SameT H8 (upd (upd HX pz (.tup [.ref pl,kv,av,.str (G4 t ks fs i y).2.2.2])) pr (.lst (rv++[.ref pz]))):=s9X.t.trans (SameT.set erv9)
    refine ⟨_,_,_,rv++[.ref pz],rfl,Ad,?_,?_⟩
    ·rw [Qv,hr0]
     refine (alr8.mono (LkAt.same tz)).snoc ⟨pz,pl,kv,av,rfl,(SameT.set erv9).tup (SqT.of Ad),(tz pl).1 _ epl8,?_,(kav.same sC.t).same tz⟩
     show KdAt K _ kv (ks.getD (2 * i) .num)
     rw [g0]
     exact (kk.same sC.t).same tz
    ·exact (sC.trans s9X).over hpr
   ·rintro σ' H7 ⟨w7,Eb,Em,rv,rfl,erv,alr,sm2⟩
    have e9:rows.length=(Ck t ks fs).length:=by unfold Ck;rw [Vz,hrl,hwl]
    rw [e9,Qz] at alr
    walk_at "r"
    exact q pr rv H7 ((s1.trans sA).trans sm2) hpr0 erv alr
end
noncomputable def C6 (w:Str):Nat:=(Aq 0 w).2.1.length
theorem Zot (m:Nat)(w:Str):(Aq m w).2.1.length=C6 w:=by
 unfold C6 Aq
 by_cases h1:w = "num"
 ·rw [if_pos h1,if_pos h1]
 rw [if_neg h1,if_neg h1]
 by_cases h2:w = "truth"
 ·rw [if_pos h2,if_pos h2]
 rw [if_neg h2,if_neg h2]
 by_cases h3:w = "plus" \/ w = "minus"
 ·rw [if_pos h3,if_pos h3]
 rw [if_neg h3,if_neg h3]
 by_cases h4:w = "less"
 ·rw [if_pos h4,if_pos h4]
 rw [if_neg h4,if_neg h4]
 by_cases h5:w = "if"
 ·rw [if_pos h5,if_pos h5];rfl
 rw [if_neg h5,if_neg h5]
 by_cases h6:w = "gap" \/ w = "odd" \/ w = "name"
 ·rw [if_pos h6,if_pos h6]
 rw [if_neg h6,if_neg h6]
 by_cases h7:w = "let"
 ·rw [if_pos h7,if_pos h7];rfl
 rw [if_neg h7,if_neg h7]
 by_cases h8:w = "fn"
 ·rw [if_pos h8,if_pos h8];rfl
 rw [if_neg h8,if_neg h8]
 by_cases h9:w = "rec"
 ·rw [if_pos h9,if_pos h9];rfl
 rw [if_neg h9,if_neg h9]
 rfl
inductive AT:Tr->Prop where
 | mk {w:Str} {n:Dt} {ts:List Tr} (hw:Ec w n) (hl:ts.length=C6 w) (h:∀ t∈ts,AT t):AT (.mk w n ts)
theorem Zaj (A:An)(pl:List Nat)(f:Nat->Ev):∀ m j,j < m->Dy A pl f m (pl++[j])=some (f j)
 | 0,j,h=>absurd h (Rj _)
 | m+1,j,h=>by
  show (if pl++[j]=pl++[m] then some (f m) else Dy A pl f m (pl++[j]))=_
  by_cases e:j=m
  ·rw [e,if_pos rfl]
  ·rw [if_neg fun z=>e (by simpa using z)]
   exact Zaj A pl f m j (by omega)
theorem Zbu (A:An)(pl:List Nat)(f:Nat->Ev)(q:List Nat)(h:∀ j,q≠pl++[j]):∀ m,Dy A pl f m q=A q
 | 0=>rfl
 | m+1=>by
  show (if q=pl++[m] then some (f m) else Dy A pl f m q)=_
  rw [if_neg (h m)]
  exact Zbu A pl f q h m
mutual
theorem Zfn:∀(t:Tr)(pl:List Nat)(sh:Ae)(D:Dn)(A:An)(rest:List (List Nat×Tr)),AT t->(A pl).isSome=true ->
  (∀ sh2 D2 (A2:An),(∀ q,(∀ j,¬ pl++[j] <+: q)->A2 q=A q)->∃ ps sh',KinG rest sh2 D2 A2 ps sh')->∃ ps sh',KinG (walk pl t++rest) sh D A ps sh'
 | .mk w n ts,pl,sh,D,A,rest,h,hA,hr=>by
  cases h with
  | mk hw hl h =>
  obtain ⟨e,he⟩:=Re.mp hA
  obtain ⟨ps,sh',k⟩:=Zdq ts pl 0 (sh++(Aq sh.length w).2.2.2) (El D pl 0 (Aq sh.length w).2.1) (Dy A pl (fun j=>Cj e (nb w n j) (Aq sh.length w).2.2.1) (Aq sh.length w).2.1.length) rest h
   (fun j _ hj=>by rw [Zaj _ _ _ _ _ (by rw [Zot];omega)];rfl)
   (fun sh2 D2 A2 hq=>hr sh2 D2 A2 fun q hq2=>by
    rw [hq q fun j _=>hq2 j]
    exact Zbu A pl _ q (fun j z=>hq2 j (by rw [z];exact T3)) _)
  rw [walk,Rh]
  exact ⟨_,_,.cons he hw k⟩
theorem Zdq:∀(ts:List Tr)(pl:List Nat)(i:Nat)(sh:Ae)(D:Dn)(A:An)(rest:List (List Nat×Tr)),(∀ t∈ts,AT t)->(∀ j,i<=j->j < i+ts.length->(A (pl++[j])).isSome=true) ->
  (∀ sh2 D2 (A2:An),(∀ q,(∀ j,i<=j->¬ pl++[j] <+: q)->A2 q=A q)->∃ ps sh',KinG rest sh2 D2 A2 ps sh')->∃ ps sh',KinG (A4 pl i ts++rest) sh D A ps sh'
 | [],pl,i,sh,D,A,rest,_,_,hr=>by
  rw [A4,Ru]
  exact hr sh D A fun _ _=>rfl
 | t::r,pl,i,sh,D,A,rest,h,hA,hr=>by
  rw [A4,Qi]
  refine Zfn t (pl++[i]) sh D A (A4 pl (i+1) r++rest) (h t (by simp)) (hA i (Pc _) (by simp)) fun sh2 D2 A2 hf=>?_
  refine Zdq r pl (i+1) sh2 D2 A2 rest (fun x hx=>h x (by simp [hx])) (fun j h1 h2=>?_) (fun sh3 D3 A3 hg=>hr sh3 D3 A3 fun q hq=>?_)
  ·rw [hf _ fun j' e=>by have:=e.length_le;simp at this]
   exact hA j (by omega) (by simp;omega)
  ·rw [hg q fun j hj=>hq j (by omega),hf q fun j e=>hq i (Pc _) (List.IsPrefix.trans ⟨[j],rfl⟩ e)]
end
theorem Zen {t:Tr}(h:AT t):∃ ps sh',KinG (walk [] t) [.num,.truth] (fun _=>none) (fun q=>if q=[] then some (fun _=>none) else none) ps sh':=by
 have:=Zfn t [] [.num,.truth] (fun _=>none) (fun q=>if q=[] then some (fun _=>none) else none) [] h rfl fun sh2 D2 A2 _=>⟨[],sh2,.nil⟩
 rwa [Qc] at this
structure Ini (sh:Ae):Prop where
 ns:∀(i:Nat)(s:Sh),sh[i]?=some s->s.isSame=false
 dn:∀(i a b:Nat),sh[i]?=some (.to a b)->a < i/\b < i
theorem Zav (m:Nat)(w:Str)(hm:2<=m):(Aq m w).1 < m+(Aq m w).2.2.2.length/\(∀ x∈(Aq m w).2.1,x < m+(Aq m w).2.2.2.length)/\(∀ x∈(Aq m w).2.2.1,x < m+(Aq m w).2.2.2.length)/\(∀(i:Nat)(s:Sh),(Aq m w).2.2.2[i]?=some s->s.isSame=false/\∀ a b,s=.to a b->a < m+i/\b < m+i):=by
 have one:∀(i:Nat)(s:Sh),([Sh.any]:Ae)[i]?=some s->s.isSame=false/\∀ a b,s=.to a b->a < m+i/\b < m+i:=fun i s h=>by
  match i,h with
  | 0,h=>cases h;exact ⟨rfl,fun a b e=>by cases e⟩
 have two:∀(i:Nat)(s:Sh),([Sh.any,.any]:Ae)[i]?=some s->s.isSame=false/\∀ a b,s=.to a b->a < m+i/\b < m+i:=fun i s h=>by
  match i,h with
  | 0,h=>cases h;exact ⟨rfl,fun a b e=>by cases e⟩
  | 1,h=>cases h;exact ⟨rfl,fun a b e=>by cases e⟩
 have thr:∀(i:Nat)(s:Sh),([Sh.any,.any,.to m (m+1)]:Ae)[i]?=some s->s.isSame=false/\∀ a b,s=.to a b->a < m+i/\b < m+i:=fun i s h=>by
  match i,h with
  | 0,h=>cases h;exact ⟨rfl,fun a b e=>by cases e⟩
  | 1,h=>cases h;exact ⟨rfl,fun a b e=>by cases e⟩
  | 2,h=>cases h;exact ⟨rfl,fun a b e=>by cases e;omega⟩
 have nil:∀(i:Nat)(s:Sh),([]:Ae)[i]?=some s->s.isSame=false/\∀ a b,s=.to a b->a < m+i/\b < m+i:=fun i s h=>by cases h
 have mem:∀{xs:List Nat}{k:Nat},(∀ x∈xs,x < k)↔xs.all (fun x=>decide (x < k))=true:=by intro xs k;simp
 have fin:∀{k:Nat×List Nat×List Nat×Ae}{g:Nat}{as bs:List Nat}{new:Ae},k=(g,as,bs,new)->g < m+new.length->(∀ x∈as,x < m+new.length)->(∀ x∈bs,x < m+new.length)->(∀(i:Nat)(s:Sh),new[i]?=some s->s.isSame=false/\∀ a b,s=.to a b->a < m+i/\b < m+i) ->
   k.1 < m+k.2.2.2.length/\(∀ x∈k.2.1,x < m+k.2.2.2.length)/\(∀ x∈k.2.2.1,x < m+k.2.2.2.length)/\(∀(i:Nat)(s:Sh),k.2.2.2[i]?=some s->s.isSame=false/\∀ a b,s=.to a b->a < m+i/\b < m+i):=by
  rintro k g as bs new rfl h1 h2 h3 h4
  exact ⟨h1,h2,h3,h4⟩
 by_cases h1:w = "num"
 ·exact fin (if_pos h1) (by simp;omega) (by simp) (by simp) nil
 by_cases h2:w = "truth"
 ·exact fin (by unfold Aq;rw [if_neg h1,if_pos h2]) (by simp;omega) (by simp) (by simp) nil
 by_cases h3:w = "plus" \/ w = "minus"
 ·exact fin (by unfold Aq;rw [if_neg h1,if_neg h2,if_pos h3]) (by simp;omega) (by simp;omega) (by simp) nil
 by_cases h4:w = "less"
 ·exact fin (by unfold Aq;rw [if_neg h1,if_neg h2,if_neg h3,if_pos h4]) (by simp;omega) (by simp;omega) (by simp) nil
 by_cases h5:w = "if"
 ·exact fin (by unfold Aq;rw [if_neg h1,if_neg h2,if_neg h3,if_neg h4,if_pos h5]) (by simp) (by simp;omega) (by simp) one
 by_cases h6:w = "gap" \/ w = "odd" \/ w = "name"
 ·exact fin (by unfold Aq;rw [if_neg h1,if_neg h2,if_neg h3,if_neg h4,if_neg h5,if_pos h6]) (by simp) (by simp) (by simp) one
 by_cases h7:w = "let"
 ·exact fin (by unfold Aq;rw [if_neg h1,if_neg h2,if_neg h3,if_neg h4,if_neg h5,if_neg h6,if_pos h7]) (by simp) (by simp) (by simp) two
 by_cases h8:w = "fn"
 ·exact fin (by unfold Aq;rw [if_neg h1,if_neg h2,if_neg h3,if_neg h4,if_neg h5,if_neg h6,if_neg h7,if_pos h8]) (by simp) (by simp) (by simp) thr
 by_cases h9:w = "rec"
 ·exact fin (by unfold Aq;rw [if_neg h1,if_neg h2,if_neg h3,if_neg h4,if_neg h5,if_neg h6,if_neg h7,if_neg h8,if_pos h9]) (by simp) (by simp) (by simp) thr
 ·exact fin (by unfold Aq;rw [if_neg h1,if_neg h2,if_neg h3,if_neg h4,if_neg h5,if_neg h6,if_neg h7,if_neg h8,if_neg h9]) (by simp) (by simp) (by simp) thr
theorem Oa (pl q:List Nat)(k:Nat):∀(xs:List Nat)(D:Dn)(i:Nat),El D pl i xs q=some k->k∈xs\/D q=some k
 | [],D,i,h=>.inr h
 | x::r,D,i,h=>by
  rcases Oa pl q k r _ (i+1) h with h | h
  ·exact .inl (Qy _ h)
  ·have h:(if q=pl++[i] then some x else D q)=some k:=h
   by_cases e:q=pl++[i]
   ·rw [if_pos e] at h;cases h;exact .inl (by simp)
   ·rw [if_neg e] at h;exact .inr h
theorem Zab (A:An)(pl:List Nat)(f:Nat->Ev)(q:List Nat)(e:Ev):∀ m,Dy A pl f m q=some e->A q=some e\/∃ j,e=f j
 | 0,h=>.inl h
 | m+1,h=>by
  have h:(if q=pl++[m] then some (f m) else Dy A pl f m q)=some e:=h
  by_cases z:q=pl++[m]
  ·rw [if_pos z] at h;cases h;exact .inr ⟨m,rfl⟩
  ·rw [if_neg z] at h;exact Zab A pl f q e m h
theorem Zff {ns:List Str}{ks:List Nat}{s:Str}{k:Nat}{e:Ev}(h:Cj e ns ks s=some k):k∈ks\/e s=some k:=by
 unfold Cj at h
 have key:∀(l:List (Str×Nat))(e:Ev),l.foldl (fun e p=>fun s=>if s=p.1 then some p.2 else e s) e s=some k->(∃ p∈l,p.2=k)\/e s=some k:=by
  intro l
  induction l with
  | nil=>intro e h;exact .inr h
  | cons p r ih =>
   intro e h
   rcases ih _ h with ⟨q,h1,h2⟩ | h
   ·exact .inl ⟨q,Qy _ h1,h2⟩
   ·have h:(if s=p.1 then some p.2 else e s)=some k:=h
    by_cases z:s=p.1
    ·rw [if_pos z] at h;cases h;exact .inl ⟨p,by simp,rfl⟩
    ·rw [if_neg z] at h;exact .inr h
 rcases key _ _ h with ⟨p,h1,rfl⟩ | h
 ·exact .inl (Uy h1).2
 ·exact .inr h
theorem Nn {rs:List (List Nat×Tr)}{sh sh':Ae}{D:Dn}{A:An}{ps:List (Nat×Nat)}(h:KinG rs sh D A ps sh'):Ini sh->2<=sh.length->(∀ q k,D q=some k->k < sh.length)->(∀ q e s k,A q=some e->e s=some k->k < sh.length)->Ini sh'/\sh.length<=sh'.length/\sh'.length<=sh.length+3 * rs.length/\∀ p∈ps,p.1 < sh'.length/\p.2 < sh'.length:=by
 induction h with
 | nil=>exact fun h1 _ _ _=>⟨h1,Pc _,by simp,fun p hp=>by cases hp⟩
 | @cons pl w n ts rs sh sh' D A e ps hA hsh k ih =>
  intro h1 h2 h3 h4
  obtain ⟨k1,k2,k3,k4⟩:=Zav sh.length w h2
  have kl:=(Zd1 sh.length w).2
  have hl:(sh++(Aq sh.length w).2.2.2).length=sh.length+(Aq sh.length w).2.2.2.length:=Pl ..
  have hg:Cc sh.length w n e < sh.length+(Aq sh.length w).2.2.2.length:=by
   unfold Cc
   split
   ·cases e2:e (D5 n) with
    | none=>exact k1
    | some k=>have:=h4 pl e _ k hA e2;show k < _;omega
   ·exact k1
  have hini:Ini (sh++(Aq sh.length w).2.2.2):=by
   refine ⟨fun i s hs=>?_,fun i a b hs=>?_⟩
   ·by_cases hi:i < sh.length
    ·rw [Qe hi] at hs;exact h1.ns i s hs
    ·rw [Qm (by omega)] at hs;exact (k4 _ s hs).1
   ·by_cases hi:i < sh.length
    ·rw [Qe hi] at hs;exact h1.dn i a b hs
    ·rw [Qm (by omega)] at hs
     have:=(k4 _ _ hs).2 a b rfl
     omega
  obtain ⟨i1,i2,i3,i4⟩:=ih hini (by omega) (fun q k hq=>by
    rcases Oa _ _ _ _ _ _ hq with hq | hq
    ·have:=k2 k hq;omega
    ·have:=h3 q k hq;omega) (fun q e' s k hq hs=>by
    rcases Zab _ _ _ _ _ _ hq with hq | ⟨j,rfl⟩
    ·have:=h4 q e' s k hq hs;omega
    ·rcases Zff hs with hs | hs
     ·have:=k3 k hs;omega
     ·have:=h4 pl e s k hA hs;omega)
  rw [hl] at i2 i3
  refine ⟨i1,by omega,by rw [Pj];omega,fun p hp=>?_⟩
  rcases Ph.mp hp with rfl | hp
  ·refine ⟨by show Cc sh.length w n e < _;omega,?_⟩
   show (D pl).getD (Cc sh.length w n e) < _
   cases e2:D pl with
   | none=>show Cc sh.length w n e < _;omega
   | some k=>have:=h3 pl k e2;show k < _;omega
  ·exact i4 p hp
noncomputable def Bd (m:Ae):Prop:=∀(i:Nat)(s:Sh),m[i]?=some s->∀ p∈s.parts,p < m.length
noncomputable def B9 (m:Ae):Prop:=∀ i,i < m.length->∃ r,Last m i r
theorem Ini.tot {m:Ae}(h:Ini m):B9 m:=fun i hi=>⟨i,0,.root (Pb hi) (h.ns i _ (Pb hi))⟩
theorem Ini.bd {m:Ae}(h:Ini m):Bd m:=fun i s hs p hp=>by
 have hi:=(Pg.mp hs).1
 cases s with
 | to a b =>
  have:=h.dn i a b hs
  simp only [Sh.parts,Ph,P3,or_false] at hp
  rcases hp with rfl | rfl <;> omega
 | same k=>have:=h.ns i _ hs;cases this
 | num=>cases hp
 | truth=>cases hp
 | any=>cases hp
theorem Last.lt {m:Ae}{i r:Nat}(h:Last m i r):r < m.length:=by
 obtain ⟨s,hs,_⟩:=h.at
 exact (Pg.mp hs).1
theorem Dr {m:Ae}{i:Nat}{s:Sh}(h:m[i]?=some s)(hs:s.isSame=false):Last m i i:=⟨0,.root h hs⟩
theorem Dm {m:Ae}{x i:Nat}{s:Sh}(h:i≠x):(m.set x s)[i]?=m[i]?:=Si (fun z=>h z.symm)
theorem G6 {m:Ae}{x:Nat}{s sx:Sh}(h:m[x]?=some sx):(m.set x s)[x]?=some s:=Rf (Pg.mp h).1
theorem K7 {m:Ae}{x y:Nat}{sx sy:Sh}(hx:m[x]?=some sx)(hxs:sx.isSame=false)(hy:m[y]?=some sy)(hys:sy.isSame=false)(ne:x≠y){i r:Nat}(h:Last m i r):Last (m.set x (.same y)) i (if r=x then y else r):=by
 obtain ⟨n,h⟩:=h
 have ly:Last (m.set x (.same y)) y y:=Dr (by rw [Dm ne.symm];exact hy) hys
 induction h with
 | @root i s h hs =>
  by_cases e:i=x
  ·subst e
   rw [if_pos rfl]
   obtain ⟨k,l⟩:=ly
   exact ⟨k+1,.step (G6 hx) l⟩
  ·rw [if_neg e]
   exact Dr (by rw [Dm e];exact h) hs
 | @step n i k r h t ih =>
  have e:i≠x:=fun z=>by rw [z,hx] at h;cases h;cases hxs
  obtain ⟨k',l⟩:=ih
  exact ⟨k'+1,.step (by rw [Dm e];exact h) l⟩
noncomputable def nr:Ae->Nat
 | []=>0
 | s::m=>(cond s.isSame 0 1)+nr m
theorem Mg:∀(m:Ae)(x y:Nat)(sx:Sh),m[x]?=some sx->sx.isSame=false->nr (m.set x (.same y))+1=nr m
 | [],x,y,sx,h,_=>by cases h
 | s::m,0,y,sx,h,hs=>by
  cases h
  show (0+nr m)+1=(cond s.isSame 0 1)+nr m
  rw [hs]
  show 0+nr m+1=1+nr m
  omega
 | s::m,x+1,y,sx,h,hs=>by
  have:=Mg m x y sx (by simpa using h) hs
  show (cond s.isSame 0 1)+nr (m.set x (.same y))+1=(cond s.isSame 0 1)+nr m
  omega
theorem Zc0:∀ m:Ae,nr m<=m.length
 | []=>Pc _
 | s::m=>by
  have:=Zc0 m
  show (cond s.isSame 0 1)+nr m<=m.length+1
  cases s.isSame
  ·show 1+nr m<=_;omega
  ·show 0+nr m<=_;omega
theorem Iq {m:Ae}{x y:Nat}{sx sy:Sh}(h:B9 m)(hx:m[x]?=some sx)(hxs:sx.isSame=false)(hy:m[y]?=some sy)(hys:sy.isSame=false)(ne:x≠y):B9 (m.set x (.same y)):=fun i hi=>by
 rw [Qd] at hi
 obtain ⟨r,hr⟩:=h i hi
 exact ⟨_,K7 hx hxs hy hys ne hr⟩
theorem Fw {m:Ae}{x y:Nat}{sy:Sh}(h:Bd m)(hy:m[y]?=some sy):Bd (m.set x (.same y)):=fun i s hs p hp=>by
 rw [Qd]
 by_cases e:i=x
 ·subst e
  have hi:=(Pg.mp hs).1
  rw [Qd] at hi
  rw [Rf hi] at hs
  cases hs
  have:p=y:=by simpa [Sh.parts] using hp
  rw [this]
  exact (Pg.mp hy).1
 ·rw [Dm e] at hs
  exact h i s hs p hp
theorem Zp5:∀(μ:Nat)(m:Ae)(w:List (Nat×Nat)),w.length+3 * nr m<=μ->B9 m->Bd m->(∀ p∈w,p.1 < m.length/\p.2 < m.length)->∃ n o,n<=μ/\JoinN n m w o/\∀ m1,o=some m1->B9 m1/\Bd m1/\m1.length=m.length:=by
 intro μ
 induction μ with
 | zero =>
  intro m w h ht hb hw
  have:w=[]:=Rb (by omega)
  subst this
  exact ⟨0,some m,Pc _,.nil,fun m1 e=>by cases e;exact ⟨ht,hb,rfl⟩⟩
 | succ μ ih =>
  intro m w h ht hb hw
  rcases Ry w with rfl | ⟨w1,p,rfl⟩
  ·exact ⟨0,some m,P6 _,.nil,fun m1 e=>by cases e;exact ⟨ht,hb,rfl⟩⟩
  rw [Rz] at h hw ⊢
  rw [Pl,Qa] at h
  have hp:=hw p (by simp)
  have hw1:∀ p∈w1,p.1 < m.length/\p.2 < m.length:=fun q hq=>hw q (by simp [hq])
  obtain ⟨l,hl⟩:=ht p.1 hp.1
  obtain ⟨r,hr⟩:=ht p.2 hp.2
  by_cases e:l=r
  ·subst e
   obtain ⟨n,o,h1,h2,h3⟩:=ih m w1 (by omega) ht hb hw1
   exact ⟨n+1,o,by omega,.eq hl hr h2,h3⟩
  obtain ⟨sl,esl,nsl⟩:=hl.at
  obtain ⟨sr,esr,nsr⟩:=hr.at
  by_cases ar:sr=.any
  ·subst ar
   have:=Mg m r l _ esr rfl
   obtain ⟨n,o,h1,h2,h3⟩:=ih (m.set r (.same l)) w1 (by omega) (Iq ht esr rfl esl nsl (fun z=>e z.symm)) (Fw hb esl) (by rw [Qd];exact hw1)
   rw [Qd] at h3
   exact ⟨n+1,o,by omega,.anyR hl hr e esr h2,h3⟩
  have ts:=Iq ht esl nsl esr nsr e
  have bs:=Fw (x:=l) hb esr
  have ns:=Mg m l r _ esl nsl
  by_cases al:sl=.any
  ·subst al
   obtain ⟨n,o,h1,h2,h3⟩:=ih (m.set l (.same r)) w1 (by omega) ts bs (by rw [Qd];exact hw1)
   rw [Qd] at h3
   exact ⟨n+1,o,by omega,.anyL hl hr e esr ar esl h2,h3⟩
  by_cases tl:sl.wd = "to"
  ·by_cases tr:sr.wd = "to"
   ·obtain ⟨a,b,rfl⟩:=Zdl tl
    obtain ⟨c,d,rfl⟩:=Zdl tr
    have b1:=hb l _ esl
    have b2:=hb r _ esr
    obtain ⟨n,o,h1,h2,h3⟩:=ih (m.set l (.same r)) (w1++[(a,c),(b,d)]) (by rw [Pl];show w1.length+2+_<=_;omega) ts bs (by
     rw [Qd]
     intro q hq
     rcases Pw.mp hq with hq | hq
     ·exact hw1 q hq
     ·simp only [Ph,P3,or_false] at hq
      rcases hq with rfl | rfl
      ·exact ⟨b1 a (by simp [Sh.parts]),b2 c (by simp [Sh.parts])⟩
      ·exact ⟨b1 b (by simp [Sh.parts]),b2 d (by simp [Sh.parts])⟩)
    rw [Qd] at h3
    exact ⟨n+1,o,by omega,.to hl hr e esl esr h2,h3⟩
   ·exact ⟨1,none,by omega,.clash hl hr e esl esr al ar (.inr tr),fun m1 z=>by cases z⟩
  ·exact ⟨1,none,by omega,.clash hl hr e esl esr al ar (.inl tl),fun m1 z=>by cases z⟩
noncomputable def un:Nat->(Nat->Bool)->Nat
 | 0,_=>0
 | N+1,f=>un N f+cond (f N) 1 0
theorem Og:∀(N:Nat)(f g:Nat->Bool),(∀ i,i < N->f i=g i)->un N f=un N g
 | 0,f,g,h=>rfl
 | N+1,f,g,h=>by
  show un N f+cond (f N) 1 0=un N g+cond (g N) 1 0
  rw [Og N f g fun i hi=>h i (by omega),h N (by omega)]
theorem Nl:∀(N x:Nat)(f g:Nat->Bool),x < N->f x=true->g x=false->(∀ i,i≠x->g i=f i)->un N g+1=un N f
 | 0,x,f,g,h,_,_,_=>absurd h (Rj _)
 | N+1,x,f,g,h,h1,h2,h3=>by
  show un N g+cond (g N) 1 0+1=un N f+cond (f N) 1 0
  by_cases e:x=N
  ·subst e
   rw [h1,h2,Og x g f fun i hi=>h3 i (by omega)]
   rfl
  ·have:=Nl N x f g (by omega) h1 h2 h3
   rw [h3 N (fun z=>e z.symm)]
   omega
theorem O3:∀(N:Nat)(f:Nat->Bool),un N f<=N
 | 0,_=>Pc _
 | N+1,f=>by
  have:=O3 N f
  show un N f+cond (f N) 1 0<=N+1
  cases f N
  ·show un N f+0<=_;omega
  ·show un N f+1<=_;omega
noncomputable def fr (ps:Ps):Nat->Bool:=fun i=>(ps i).isNone
theorem Zdp {sh:Ae}(ht:B9 sh)(ps:Ps):∀(parts w:List Nat),(∀ p∈parts,p < sh.length)->(∀ x∈w,x < sh.length)->∃ o,Dk sh ps parts w o/\∀ w',o=some w'->w'.length<=w.length+parts.length/\∀ x∈w',x < sh.length
 | [],w,_,hw=>⟨some w,.nil,fun w' e=>by cases e;exact ⟨by simp,hw⟩⟩
 | p::rest,w,hp,hw=>by
  obtain ⟨r,hr⟩:=ht p (hp p (by simp))
  by_cases h:ps r=some false
  ·exact ⟨none,.hit hr h,fun w' e=>by cases e⟩
  ·obtain ⟨o,h1,h2⟩:=Zdp ht ps rest (w++[r]) (fun q hq=>hp q (by simp [hq])) (fun x hx=>by
    rcases Pw.mp hx with hx | hx
    ·exact hw x hx
    ·rw [P7.mp hx];exact hr.lt)
   refine ⟨o,.go hr h h1,fun w' e=>?_⟩
   obtain ⟨l,m⟩:=h2 w' e
   rw [Pl,Qa] at l
   exact ⟨by rw [Pj];omega,m⟩
theorem Zpi {sh:Ae}(ht:B9 sh)(hb:Bd sh):∀(μ:Nat)(ps:Ps)(w:List Nat),w.length+3 * un sh.length (fr ps)<=μ->(∀ x∈w,x < sh.length)->∃ n b,n<=μ/\HoldsN sh n ps w b:=by
 intro μ
 induction μ with
 | zero =>
  intro ps w h _
  have:w=[]:=Rb (by omega)
  subst this
  exact ⟨0,false,Pc _,.nil⟩
 | succ μ ih =>
  intro ps w h hw
  rcases Ry w with rfl | ⟨w1,Ac,rfl⟩
  ·exact ⟨0,false,P6 _,.nil⟩
  rw [Rz] at h hw ⊢
  rw [Pl,Qa] at h
  have htop:=hw Ac (by simp)
  have hw1:∀ x∈w1,x < sh.length:=fun x hx=>hw x (by simp [hx])
  cases e:ps Ac with
  | some x =>
   have eu:un sh.length (fr (Bj ps Ac true))=un sh.length (fr ps):=Og _ _ _ fun i _=>by
    unfold fr Bj
    by_cases z:i=Ac
    ·rw [z,e,if_pos rfl];rfl
    ·rw [if_neg z]
   obtain ⟨n,b,h1,h2⟩:=ih (Bj ps Ac true) w1 (by rw [eu];omega) hw1
   exact ⟨n+1,b,by omega,.seen e h2⟩
  | none =>
   have hs:=Pb htop
   have eu:un sh.length (fr (Bj ps Ac false))+1=un sh.length (fr ps):=Nl _ Ac _ _ htop (by unfold fr;rw [e];rfl) (by unfold fr Bj;rw [if_pos rfl];rfl) (fun i hi=>by unfold fr Bj;rw [if_neg hi])
   have hpl:=Zak sh[Ac]
   obtain ⟨o,h1,h2⟩:=Zdp ht (Bj ps Ac false) sh[Ac].parts (w1++[Ac]) (hb Ac _ hs) hw
   cases o with
   | none=>exact ⟨1,true,by omega,.hit e hs h1⟩
   | some w' =>
    obtain ⟨l,m⟩:=h2 w' rfl
    rw [Pl,Qa] at l
    obtain ⟨n,b,h3,h4⟩:=ih (Bj ps Ac false) w' (by omega) m
    exact ⟨n+1,b,by omega,.go e hs h1 h4⟩
theorem Ix:∀(ps:List (Nat×Nat))(m:Ae),m.length<=200->B9 m->Bd m->(∀ p∈ps,p.1 < m.length/\p.2 < m.length)->∃ fs m',FitG ps m fs m'/\B9 m'/\Bd m'/\m'.length=m.length
 | [],m,_,ht,hb,_=>⟨[],m,.nil,ht,hb,rfl⟩
 | (g,a)::ps,m,hl,ht,hb,hp=>by
  have nl:=Zc0 m
  obtain ⟨n,o,h1,h2,h3⟩:=Zp5 (1+3 * nr m) m [(g,a)] (by simp) ht hb (fun p hq=>by rw [P7.mp hq];exact hp _ (by simp))
  have hps:∀ p∈ps,p.1 < m.length/\p.2 < m.length:=fun p hq=>hp p (by simp [hq])
  cases o with
  | none =>
   obtain ⟨fs,m',k1,k2⟩:=Ix ps m hl ht hb hps
   exact ⟨_,m',.clash h2 (by omega) k1,k2⟩
  | some m1 =>
   obtain ⟨t1,b1,l1⟩:=h3 m1 rfl
   obtain ⟨r,hr⟩:=t1 g (by rw [l1];exact (hp (g,a) (by simp)).1)
   have ul:=O3 m1.length (fr fun _=>none)
   obtain ⟨k,b,k1,k2⟩:=Zpi t1 b1 (1+3 * un m1.length (fr fun _=>none)) (fun _=>none) [r] (by simp) (fun x hx=>by rw [P7.mp hx];exact hr.lt)
   cases b with
   | false =>
    obtain ⟨fs,m',j1,j2,j3,j4⟩:=Ix ps m1 (by omega) t1 b1 (by rw [l1];exact hps)
    exact ⟨_,m',.ok h2 (by omega) hr k2 (by omega) j1,j2,j3,by rw [j4,l1]⟩
   | true =>
    obtain ⟨fs,m',j1,j2⟩:=Ix ps m hl ht hb hps
    exact ⟨_,m',.loop h2 (by omega) hr k2 (by omega) j1,j2⟩
structure JF (m m1:Ae)(w:List (Nat×Nat)):Prop where
 tot:B9 m1
 len:m1.length=m.length
 f1:∀(i r r1:Nat),Last m i r->Last m1 r r1->Last m1 i r1
 f2:∀ p∈w,∃ r,Last m1 p.1 r/\Last m1 p.2 r
 f3:∀(x a b:Nat),m[x]?=some (.to a b)->∃ ρ e f,Last m1 x ρ/\m1[ρ]?=some (.to e f)/\(∃ ra,Last m1 a ra/\Last m1 e ra)/\∃ rb,Last m1 b rb/\Last m1 f rb
 f5:∀(ρ:Nat)(s:Sh),m1[ρ]?=some s->s.isSame=false->m[ρ]?=some s
 f6:∀ C:Nat->Prop,(∀(r a b c:Nat),C r->m1[r]?=some (.to a b)->(Last m1 a c\/Last m1 b c)->C c)->(∀ p∈w,∀ r,Last m1 p.1 r->C r)->∀(i r:Nat),m[i]?≠m1[i]?->Last m1 i r->C r
theorem Zo9 {m:Ae}(ht:B9 m)(hb:Bd m):JF m m [] where
 tot:=ht
 len:=rfl
 f1:=fun i r r1 h h1=>by
  obtain ⟨s,hs,ns⟩:=h.at
  have:=h1.uniq (Dr hs ns)
  rw [this]
  exact h
 f2:=fun p hp=>by cases hp
 f3:=fun x a b hx=>by
  have b1:=hb x _ hx
  obtain ⟨ra,ha⟩:=ht a (b1 a (by simp [Sh.parts]))
  obtain ⟨rb,hb'⟩:=ht b (b1 b (by simp [Sh.parts]))
  exact ⟨x,a,b,Dr hx rfl,hx,⟨ra,ha,ha⟩,rb,hb',hb'⟩
 f5:=fun ρ s h _=>h
 f6:=fun C _ _ i r h=>absurd rfl h
theorem Nu {m m1:Ae}{x y:Nat}{sx sy:Sh}{w w':List (Nat×Nat)}{p:Nat×Nat}{l r:Nat}(hl:Last m p.1 l)(hr:Last m p.2 r)(hxy:(x=l/\y=r)\/(x=r/\y=l))(hx:m[x]?=some sx)(hxs:sx.isSame=false)(hy:m[y]?=some sy)(hys:sy.isSame=false)(ne:x≠y)
  (J:JF (m.set x (.same y)) m1 w') (hw:∀ q∈w,q∈w') (h3:∀ a b,sx=.to a b->∃ c d,sy=.to c d/\(a,c)∈w'/\(b,d)∈w') (hn:∀ q∈w',q∈w\/∃ a b,sx=.to a b/\(q.1=a\/q.1=b)):JF m m1 (w++[p]):=by
 have Lx:Last (m.set x (.same y)) x y:=by
  have:=K7 hx hxs hy hys ne (Dr hx hxs)
  rwa [if_pos rfl] at this
 have hyl:y < m1.length:=by rw [J.len,Qd];exact (Pg.mp hy).1
 obtain ⟨ρ,hρ⟩:=J.tot y hyl
 have xρ:Last m1 x ρ:=J.f1 x y ρ Lx hρ
 have f1:∀ i r r1,Last m i r->Last m1 r r1->Last m1 i r1:=fun i r' r1 h h1=>by
  have h':=K7 hx hxs hy hys ne h
  by_cases e:r'=x
  ·rw [if_pos e] at h'
   subst e
   have:r1=ρ:=h1.uniq xρ
   rw [this]
   exact J.f1 i y ρ h' hρ
  ·rw [if_neg e] at h'
   exact J.f1 i r' r1 h' h1
 have both:Last m1 p.1 ρ/\Last m1 p.2 ρ:=by
  rcases hxy with ⟨rfl,rfl⟩ | ⟨rfl,rfl⟩
  ·exact ⟨f1 _ _ _ hl xρ,f1 _ _ _ hr hρ⟩
  ·exact ⟨f1 _ _ _ hl hρ,f1 _ _ _ hr xρ⟩
 have f3:∀ x0 a b,m[x0]?=some (.to a b)->∃ ρ e f,Last m1 x0 ρ/\m1[ρ]?=some (.to e f)/\(∃ ra,Last m1 a ra/\Last m1 e ra)/\∃ rb,Last m1 b rb/\Last m1 f rb:=fun x0 a b h=>by
  by_cases e:x0=x
  ·subst e
   rw [hx] at h
   have h:=Po h
   obtain ⟨c,d,hsy,m1',m2'⟩:=h3 a b h
   have hy':(m.set x0 (.same y))[y]?=some (.to c d):=by rw [Dm ne.symm,hy,hsy]
   obtain ⟨ρ',e,f,k1,k2,⟨ra,k3,k4⟩,rb,k5,k6⟩:=J.f3 y c d hy'
   have:ρ'=ρ:=k1.uniq hρ
   subst this
   obtain ⟨rac,a1,a2⟩:=J.f2 _ m1'
   obtain ⟨rbd,b1,b2⟩:=J.f2 _ m2'
   have e1:rac=ra:=a2.uniq k3
   have e2:rbd=rb:=b2.uniq k5
   subst e1 e2
   exact ⟨ρ',e,f,xρ,k2,⟨_,a1,k4⟩,_,b1,k6⟩
  ·exact J.f3 x0 a b (by rw [Dm e];exact h)
 refine ⟨J.tot,by rw [J.len,Qd],f1,fun q hq=>?_,f3,fun ρ' s h hs=>?_,fun C hC hp i r' hi hir=>?_⟩
 ·rcases Pw.mp hq with hq | hq
  ·exact J.f2 q (hw q hq)
  ·rw [P7.mp hq]
   exact ⟨ρ,both⟩
 ·have h':=J.f5 ρ' s h hs
  by_cases e:ρ'=x
  ·subst e
   rw [G6 hx] at h'
   cases h'
   cases hs
  ·rwa [Dm e] at h'
 ·have Cρ:C ρ:=hp p (by simp) ρ both.1
  by_cases e:i=x
  ·subst e
   rw [hir.uniq xρ]
   exact Cρ
  ·refine J.f6 C hC (fun q hq s hs=>?_) i r' (by rw [Dm e];exact hi) hir
   rcases hn q hq with hq | ⟨a,b,hsx,hq⟩
   ·exact hp q (by simp [hq]) s hs
   ·obtain ⟨ρ',e',f,k1,k2,⟨ra,k3,k4⟩,rb,k5,k6⟩:=f3 x a b (by rw [hx,hsx])
    have:ρ'=ρ:=k1.uniq xρ
    subst this
    rcases hq with hq | hq
    ·rw [hq] at hs
     rw [hs.uniq k3]
     exact hC ρ' e' f ra Cρ k2 (.inl k4)
    ·rw [hq] at hs
     rw [hs.uniq k5]
     exact hC ρ' e' f rb Cρ k2 (.inr k6)
theorem Zan {n:Nat}{m m1:Ae}{w:List (Nat×Nat)}{o:Option Ae}(h:JoinN n m w o)(ho:o=some m1)(ht:B9 m)(hb:Bd m):JF m m1 w:=by
 induction h with
 | nil=>cases ho;exact Zo9 ht hb
 | @eq n m w p l o h1 h2 t ih =>
  have J:=ih ho ht hb
  refine ⟨J.tot,J.len,J.f1,fun q hq=>?_,J.f3,J.f5,fun C hC hp=>J.f6 C hC fun q hq=>hp q (by simp [hq])⟩
  rcases Pw.mp hq with hq | hq
  ·exact J.f2 q hq
  ·rw [P7.mp hq]
   obtain ⟨ρ,hρ⟩:=J.tot l (by rw [J.len];exact h1.lt)
   exact ⟨ρ,J.f1 _ _ _ h1 hρ,J.f1 _ _ _ h2 hρ⟩
 | @anyR n m w p l r o h1 h2 ne hr t ih =>
  obtain ⟨sl,hl,nsl⟩:=h1.at
  exact Nu h1 h2 (.inr ⟨rfl,rfl⟩) hr rfl hl nsl (fun z=>ne z.symm) (ih ho (Iq ht hr rfl hl nsl (fun z=>ne z.symm)) (Fw hb hl)) (fun q hq=>hq) (fun a b e=>by cases e) (fun q hq=>.inl hq)
 | @anyL n m w p l r sr o h1 h2 ne hr hn hl t ih =>
  obtain ⟨sr',hr',nsr⟩:=h2.at
  rw [hr] at hr'
  cases hr'
  exact Nu h1 h2 (.inl ⟨rfl,rfl⟩) hl rfl hr nsr ne (ih ho (Iq ht hl rfl hr nsr ne) (Fw hb hr)) (fun q hq=>hq) (fun a b e=>by cases e) (fun q hq=>.inl hq)
 | @to n m w p l r a b c d o h1 h2 ne hl hr t ih =>
  refine Nu h1 h2 (.inl ⟨rfl,rfl⟩) hl rfl hr rfl ne (ih ho (Iq ht hl rfl hr rfl ne) (Fw hb hr)) (fun q hq=>by simp [hq]) (fun a' b' e=>by cases e;exact ⟨c,d,rfl,by simp,by simp⟩) (fun q hq=>?_)
  rcases Pw.mp hq with hq | hq
  ·exact .inl hq
  ·simp only [Ph,P3,or_false] at hq
   rcases hq with rfl | rfl
   ·exact .inr ⟨a,b,rfl,.inl rfl⟩
   ·exact .inr ⟨a,b,rfl,.inr rfl⟩
 | clash=>cases ho
noncomputable def Eg (m:Ae)(b c:Nat):Prop:=∃ s p,m[b]?=some s/\p∈s.parts/\Last m p c
theorem Zii {sh:Ae}{ps:Ps}{parts w w':List Nat}(h:Dk sh ps parts w (some w')):∃ rs,w'=w++rs/\(∀ r∈rs,ps r≠some false)/\∀ p∈parts,∃ r∈rs,Last sh p r:=by
 generalize ho:some w'=o at h
 induction h with
 | nil=>cases ho;exact ⟨[],by simp,by simp,by simp⟩
 | hit=>cases ho
 | @go p r rest w o h h2 t ih =>
  obtain ⟨rs,h3,h4,h5⟩:=ih ho
  refine ⟨r::rs,by rw [h3];simp,fun q hq=>?_,fun q hq=>?_⟩
  ·rcases Ph.mp hq with rfl | hq
   ·exact h2
   ·exact h4 q hq
  ·rcases Ph.mp hq with rfl | hq
   ·exact ⟨r,by simp,h⟩
   ·obtain ⟨r',k1,k2⟩:=h5 q hq
    exact ⟨r',by simp [k1],k2⟩
structure Gy (sh:Ae)(ps:Ps)(w:List Nat):Prop where
 bl:∃(rk:Nat->Nat)(N:Nat),(∀ b,ps b=some true->rk b < N)/\∀ b c,ps b=some true->Eg sh b c->ps c=some true/\rk c < rk b
 gr:∀ x,ps x=some false->∃ w1 w2,w=w1++x::w2/\x ∉ w2/\∀ c,Eg sh x c->ps c=some true\/c∈w2
theorem Zd5 {α:Type}{w w1 w2:List α}{Ac x:α}(h:w++[Ac]=w1++x::w2)(hx:x ∉ w2):(x=Ac/\w2=[])\/(x≠Ac/\∃ w3,w2=w3++[Ac]/\w=w1++x::w3):=by
 rcases Ry w2 with rfl | ⟨w3,z,rfl⟩
 ·have:=Q8 h rfl
  exact .inl ⟨by simpa using this.2.symm,rfl⟩
 ·rw [Rz] at *
  have h':w++[Ac]=(w1++x::w3)++[z]:=by rw [h];simp
  have:=Q8 h' rfl
  have e:Ac=z:=by simpa using this.2
  subst e
  exact .inr ⟨fun e=>hx (by simp [e]),w3,rfl,this.1⟩
theorem Zg3 {sh:Ae}{n:Nat}{ps:Ps}{w:List Nat}{b:Bool}(h:HoldsN sh n ps w b)(r0:Nat):b=false->Gy sh ps w->(r0∈w\/ps r0=some true)->∃(B:Nat->Prop)(rk:Nat->Nat),B r0/\∀ b c,B b->Eg sh b c->B c/\rk c < rk b:=by
 induction h with
 | @nil ps =>
  intro _ g h0
  obtain ⟨rk,N,h1,h2⟩:=g.bl
  rcases h0 with h0 | h0
  ·cases h0
  ·exact ⟨fun b=>ps b=some true,rk,h0,h2⟩
 | @seen n ps w Ac x b h t ih =>
  intro hb g h0
  have key:Gy sh (Bj ps Ac true) w:=by
   have oth:∀ y,y≠Ac->∀{v},ps y=v->Bj ps Ac true y=v:=fun y hy v hv=>by unfold Bj;rw [if_neg hy];exact hv
   have self:Bj ps Ac true Ac=some true:=by unfold Bj;rw [if_pos rfl]
   have mono:∀ y,ps y=some true->Bj ps Ac true y=some true:=fun y hy=>by
    by_cases e:y=Ac
    ·rw [e];exact self
    ·exact oth y e hy
   refine ⟨?_,fun y hy=>?_⟩
   ·obtain ⟨rk,N,h1,h2⟩:=g.bl
    cases x with
    | true =>
     have same:∀ y,Bj ps Ac true y=some true->ps y=some true:=fun y hy=>by
      by_cases e:y=Ac
      ·rw [e];exact h
      ·unfold Bj at hy;rwa [if_neg e] at hy
     exact ⟨rk,N,fun b hb=>h1 b (same b hb),fun b c hb hc=>⟨mono c (h2 b c (same b hb) hc).1,(h2 b c (same b hb) hc).2⟩⟩
    | false =>
     obtain ⟨w1,w2,e1,e2,e3⟩:=g.gr Ac h
     have ch:∀ c,Eg sh Ac c->ps c=some true:=by
      rcases Zd5 e1 e2 with ⟨_,rfl⟩ | ⟨e,_⟩
      ·intro c hc
       rcases e3 c hc with k | k
       ·exact k
       ·cases k
      ·exact absurd rfl e
     have nt:∀ y,y≠Ac->Bj ps Ac true y=some true->ps y=some true:=fun y e hy=>by unfold Bj at hy;rwa [if_neg e] at hy
     refine ⟨fun y=>if y=Ac then N else rk y,N+1,fun b hb=>?_,fun b c hb hc=>?_⟩
     ·show (if b=Ac then N else rk b) < N+1
      by_cases e:b=Ac
      ·rw [if_pos e];omega
      ·rw [if_neg e];have:=h1 b (nt b e hb);omega
     ·have tne:∀ y,ps y=some true->y≠Ac:=fun y hy e=>by rw [e,h] at hy;cases hy
      show Bj ps Ac true c=some true/\(if c=Ac then N else rk c) < (if b=Ac then N else rk b)
      by_cases e:b=Ac
      ·rw [if_pos e]
       have k:=ch c (e ▸ hc)
       exact ⟨mono c k,by rw [if_neg (tne c k)];exact h1 c k⟩
      ·rw [if_neg e]
       obtain ⟨k1,k2⟩:=h2 b c (nt b e hb) hc
       exact ⟨mono c k1,by rw [if_neg (tne c k1)];exact k2⟩
   ·have e:y≠Ac:=fun e=>by rw [e,self] at hy;cases hy
    have hy':ps y=some false:=by unfold Bj at hy;rwa [if_neg e] at hy
    obtain ⟨w1,w2,e1,e2,e3⟩:=g.gr y hy'
    rcases Zd5 e1 e2 with ⟨z,_⟩ | ⟨_,w3,rfl,k⟩
    ·exact absurd z e
    ·refine ⟨w1,w3,k,fun z=>e2 (by simp [z]),fun c hc=>?_⟩
     rcases e3 c hc with q | q
     ·exact .inl (mono c q)
     ·rcases Pw.mp q with q | q
      ·exact .inr q
      ·rw [P7.mp q];exact .inl self
  refine ih hb key ?_
  rcases h0 with h0 | h0
  ·rcases Pw.mp h0 with h0 | h0
   ·exact .inl h0
   ·rw [P7.mp h0];exact .inr (by unfold Bj;rw [if_pos rfl])
  ·refine .inr ?_
   unfold Bj
   by_cases e:r0=Ac
   ·rw [if_pos e]
   ·rw [if_neg e];exact h0
 | hit=>intro hb;cases hb
 | @go n ps w w' Ac s b h hs hp t ih =>
  intro hb g h0
  obtain ⟨rs,rfl,h1,h2⟩:=Zii hp
  have self:Bj ps Ac false Ac=some false:=by unfold Bj;rw [if_pos rfl]
  have oth:∀ y,y≠Ac->Bj ps Ac false y=ps y:=fun y hy=>by unfold Bj;rw [if_neg hy]
  have tne:∀ y,ps y=some true->y≠Ac:=fun y hy e=>by rw [e,h] at hy;cases hy
  have back:∀ y,Bj ps Ac false y=some true->ps y=some true:=fun y hy=>by
   by_cases e:y=Ac
   ·rw [e,self] at hy;cases hy
   ·rwa [oth y e] at hy
  refine ih hb ⟨?_,fun y hy=>?_⟩ ?_
  ·obtain ⟨rk,N,k1,k2⟩:=g.bl
   exact ⟨rk,N,fun b hb=>k1 b (back b hb),fun b c hb hc=>by
    obtain ⟨q1,q2⟩:=k2 b c (back b hb) hc
    exact ⟨by rw [oth c (tne c q1)];exact q1,q2⟩⟩
  ·by_cases e:y=Ac
   ·subst e
    refine ⟨w,rs,by simp,fun z=>h1 y z self,fun c hc=>?_⟩
    obtain ⟨s',p,q1,q2,q3⟩:=hc
    rw [hs] at q1
    cases q1
    obtain ⟨r,k1,k2⟩:=h2 p q2
    rw [q3.uniq k2]
    exact .inr k1
   ·have hy':=hy
    rw [oth y e] at hy'
    obtain ⟨w1,w2,e1,e2,e3⟩:=g.gr y hy'
    refine ⟨w1,w2++rs,by rw [e1];simp,fun z=>?_,fun c hc=>?_⟩
    ·rcases Pw.mp z with z | z
     ·exact e2 z
     ·exact h1 y z hy
    ·rcases e3 c hc with q | q
     ·exact .inl (by rw [oth c (tne c q)];exact q)
     ·exact .inr (by simp [q])
  ·rcases h0 with h0 | h0
   ·exact .inl (by
     rcases Pw.mp h0 with h0 | h0
     ·simp [h0]
     ·simp [P7.mp h0])
   ·exact .inr (by rw [oth r0 (tne r0 h0)];exact h0)
theorem Zl0 {sh:Ae}{n r0:Nat}(h:HoldsN sh n (fun _=>none) [r0] false):∃(B:Nat->Prop)(rk:Nat->Nat),B r0/\∀ b c,B b->Eg sh b c->B c/\rk c < rk b :=
 Zg3 h r0 rfl ⟨⟨fun _=>0,0,fun b hb=>(by cases hb),fun b c hb=>(by cases hb)⟩,fun x hx=>(by cases hx)⟩ (.inl (by simp))
noncomputable def D6 (m:Ae):Prop:=∃ rk:Nat->Nat,∀ b c,(∃ s,m[b]?=some s/\s.isSame=false)->Eg m b c->rk c < rk b
theorem Ini.acy {m:Ae}(h:Ini m):D6 m:=⟨fun i=>i,fun b c _ he=>by
 obtain ⟨s,p,h1,h2,h3⟩:=he
 have hb:=(Pg.mp h1).1
 cases s with
 | to x y =>
  have:=h.dn b x y h1
  have hp:p < b:=by
   simp only [Sh.parts,Ph,P3,or_false] at h2
   rcases h2 with rfl | rfl <;> omega
  have hp':=Pb (show p < m.length by omega)
  rw [h3.uniq (Dr hp' (h.ns p _ hp'))]
  exact hp
 | same k=>have:=h.ns b _ h1;cases this
 | num=>cases h2
 | truth=>cases h2
 | any=>cases h2⟩
noncomputable def mx (f:Nat->Nat):Nat->Nat
 | 0=>0
 | n+1=>mx f n+f n+1
theorem Zgg (f:Nat->Nat):∀(n i:Nat),i < n->f i < mx f n
 | 0,i,h=>absurd h (Rj _)
 | n+1,i,h=>by
  show f i < mx f n+f n+1
  by_cases e:i=n
  ·rw [e];omega
  ·have:=Zgg f n i (by omega);omega
theorem Zcp {n:Nat}{m:Ae}{w:List (Nat×Nat)}{o:Option Ae}(h:JoinN n m w o):Bd m->∀ m1,o=some m1->Bd m1:=by
 induction h with
 | nil=>intro hb m1 e;cases e;exact hb
 | eq _ _ _ ih=>exact ih
 | @anyR n m w p l r o h1 h2 ne hr t ih =>
  obtain ⟨sl,hl,_⟩:=h1.at
  exact fun hb=>ih (Fw hb hl)
 | anyL h1 h2 ne hr hn hl t ih=>exact fun hb=>ih (Fw hb hr)
 | to h1 h2 ne hl hr t ih=>exact fun hb=>ih (Fw hb hr)
 | clash=>intro _ m1 e;cases e
theorem Zdo {m m1:Ae}{g a r k:Nat}(J:JF m m1 [(g,a)])(ht:B9 m)(hb:Bd m)(ha:D6 m)(l:Last m1 g r)(h:HoldsN m1 k (fun _=>none) [r] false):D6 m1:=by
 obtain ⟨rk,hrk⟩:=ha
 obtain ⟨B,rb,h0,hB⟩:=Zl0 h
 have ch:∀(i r':Nat),m[i]?≠m1[i]?->Last m1 i r'->B r':=J.f6 B (fun x a b c hx h1 h2=>by
   refine (hB x c hx ?_).1
   rcases h2 with h2 | h2
   ·exact ⟨_,a,h1,by simp [Sh.parts],h2⟩
   ·exact ⟨_,b,h1,by simp [Sh.parts],h2⟩)
  (fun p hp r' hr'=>by
   rw [P7.mp hp] at hr'
   rw [hr'.uniq l]
   exact h0)
 classical
 refine ⟨fun v=>if B v then rb v else mx rb m1.length+rk v,fun b c hb' he=>?_⟩
 show (if B c then rb c else mx rb m1.length+rk c) < (if B b then rb b else mx rb m1.length+rk b)
 by_cases kb:B b
 ·have:=hB b c kb he
  rw [if_pos kb,if_pos this.1]
  exact this.2
 ·rw [if_neg kb]
  obtain ⟨s,p,e1,e2,e3⟩:=he
  by_cases kc:B c
  ·rw [if_pos kc]
   have:=Zgg rb m1.length c e3.lt
   omega
  ·rw [if_neg kc]
   obtain ⟨s',q1,q2⟩:=hb'
   have hs:m[b]?=some s:=by
    rw [e1] at q1
    cases q1
    exact J.f5 b s e1 q2
   obtain ⟨c0,hc0⟩:=ht p (hb b s hs p e2)
   have k1:=hrk b c0 ⟨s,hs,by rw [e1] at q1;cases q1;exact q2⟩ ⟨s,p,hs,e2,hc0⟩
   obtain ⟨r1,hr1⟩:=J.tot c0 (by rw [J.len];exact hc0.lt)
   have:r1=c:=(J.f1 p c0 r1 hc0 hr1).uniq e3
   subst this
   have same:m[c0]?=m1[c0]?:=Classical.byContradiction fun z=>kc (ch c0 r1 z hr1)
   obtain ⟨s0,z1,z2⟩:=hc0.at
   rw [same] at z1
   rw [hr1.uniq (Dr z1 z2)]
   omega
theorem Zm2 {ps:List (Nat×Nat)}{m m':Ae}{fs:List Bool}(h:FitG ps m fs m'):B9 m->Bd m->D6 m->D6 m':=by
 induction h with
 | nil=>exact fun _ _ h=>h
 | ok j hn l h hk t ih =>
  intro ht hb ha
  have J:=Zan j rfl ht hb
  exact ih J.tot (Zcp j hb _ rfl) (Zdo J ht hb ha l h)
 | clash j hn t ih=>exact ih
 | loop j hn l h hk t ih=>exact ih
theorem Ng (td:Td)(a b:Nat):Cv td [a,b]=(if (td a).isNone=true then [a] else [])++(if (td b).isNone=true then [b] else []):=by
 unfold Cv
 cases ha:(td a).isNone <;> cases hb:(td b).isNone <;> simp [Ud,ha,hb]
noncomputable def Db (td:Td):Nat->Bool:=fun i=>(td i).isNone
theorem Zqe {N r:Nat}{td:Td}{k:Kd}(hr:r < N)(h:td r=none):un N (Db (Ci td r k))+1=un N (Db td) :=
 Nl N r _ _ hr (by unfold Db;rw [h];rfl) (by unfold Db Ci;rw [if_pos rfl];rfl) (fun i hi=>by unfold Db Ci;rw [if_neg hi])
theorem tell {sh:Ae}{rk:Nat->Nat}(ht:B9 sh)(hb:Bd sh)(hrk:∀ b c,(∃ s,sh[b]?=some s/\s.isSame=false)->Eg sh b c->rk c < rk b):∀(k r:Nat),rk r < k->∀(x c:Nat)(td:Td)(w:List Nat)(A M:Nat),Last sh x r->td r=none ->
  (∀(td2:Td)(c2:Nat),(∀ i,(td i).isSome=true->td2 i=td i)->(∀ i,rk r < rk i->td2 i=td i)->(td2 r).isSome=true->∃ n td',n+A<=M+3 * un sh.length (Db td2)/\ToldN sh n td2 c2 w td') ->
  ∃ n td',n+A+1<=M+3 * un sh.length (Db td)/\ToldN sh n td c (w++[x]) td':=by
 intro k
 induction k with
 | zero=>exact fun r h=>absurd h (Rj _)
 | succ k ih =>
  intro r hk x c td w A M hl hr cont
  obtain ⟨s,hs,ns⟩:=hl.at
  have put:∀(td:Td)(kd:Kd)(c2:Nat)(rs:List Nat),Lasts sh s.parts rs->td r=none->(∀(td2:Td)(c2:Nat),(∀ i,(td i).isSome=true->td2 i=td i)->(∀ i,rk r < rk i->td2 i=td i)->(td2 r).isSome=true->∃ n td',n+A<=M+3 * un sh.length (Db td2)/\ToldN sh n td2 c2 w td') ->
    ∃ n td',(n+1)+A+1<=M+3 * un sh.length (Db td)/\ToldN sh n (Ci td r kd) c2 (w++[x]) td':=fun td kd c2 rs hp hr cont=>by
   have hu:=Zqe (k:=kd) hl.lt hr
   have self:Ci td r kd r=some kd:=by unfold Ci;rw [if_pos rfl]
   obtain ⟨n,td',h1,h2⟩:=cont (Ci td r kd) c2 (fun i hi=>by
     unfold Ci
     rw [if_neg fun e=>by rw [e,hr] at hi;cases hi]) (fun i hi=>by
     unfold Ci
     rw [if_neg fun e=>by rw [e] at hi;omega]) (by rw [self];rfl)
   exact ⟨n+1,td',by omega,.seen hl hs hp self h2⟩
  cases s with
  | any =>
   obtain ⟨n,td',h1,h2⟩:=put td (.any c) (c+1) [] .nil hr cont
   exact ⟨n+1,td',h1,.any hl hs .nil hr h2⟩
  | num =>
   obtain ⟨n,td',h1,h2⟩:=put td .num c [] .nil hr cont
   exact ⟨n+1,td',h1,.mk hl hs .nil hr rfl .num h2⟩
  | truth =>
   obtain ⟨n,td',h1,h2⟩:=put td .truth c [] .nil hr cont
   exact ⟨n+1,td',h1,.mk hl hs .nil hr rfl .truth h2⟩
  | same q=>cases ns
  | to a b =>
   have bs:=hb r _ hs
   obtain ⟨ra,la⟩:=ht a (bs a (by simp [Sh.parts]))
   obtain ⟨rb,lb⟩:=ht b (bs b (by simp [Sh.parts]))
   have ka:=hrk r ra ⟨_,hs,rfl⟩ ⟨_,a,hs,by simp [Sh.parts],la⟩
   have kb:=hrk r rb ⟨_,hs,rfl⟩ ⟨_,b,hs,by simp [Sh.parts],lb⟩
   have hp:Lasts sh (Sh.to a b).parts [ra,rb]:=.cons la (.cons lb .nil)
   have la':Last sh ra ra:=let ⟨_,h1,h2⟩:=la.at;Dr h1 h2
   have lb':Last sh rb rb:=let ⟨_,h1,h2⟩:=lb.at;Dr h1 h2
   have fin:∀(td:Td)(c:Nat),td r=none->(td ra).isSome=true->(∀(td2:Td)(c2:Nat),(∀ i,(td i).isSome=true->td2 i=td i)->(∀ i,rk r < rk i->td2 i=td i)->(td2 r).isSome=true->∃ n td',n+A<=M+3 * un sh.length (Db td2)/\ToldN sh n td2 c2 w td')->∃ n td',n+A+1<=M+3 * un sh.length (Db td)/\ToldN sh n td c (w++[x]) td':=fun td c hr hra cont=>by
    obtain ⟨xa,hxa⟩:=Re.mp hra
    have both:∀(td:Td)(c:Nat),td r=none->(td ra).isSome=true->(td rb).isSome=true->(∀(td2:Td)(c2:Nat),(∀ i,(td i).isSome=true->td2 i=td i)->(∀ i,rk r < rk i->td2 i=td i)->(td2 r).isSome=true->∃ n td',n+A<=M+3 * un sh.length (Db td2)/\ToldN sh n td2 c2 w td')->∃ n td',n+A+1<=M+3 * un sh.length (Db td)/\ToldN sh n td c (w++[x]) td':=fun td c hr hra hrb cont=>by
     obtain ⟨xa,hxa⟩:=Re.mp hra
     obtain ⟨xb,hxb⟩:=Re.mp hrb
     obtain ⟨n,td',h1,h2⟩:=put td (.to xa xb) c _ hp hr cont
     exact ⟨n+1,td',h1,.mk hl hs hp hr (by rw [Ng,hxa,hxb];rfl) (.to hxa hxb) h2⟩
    cases hxb:td rb with
    | some xb=>exact both td c hr hra (by rw [hxb];rfl) cont
    | none =>
     obtain ⟨n,td',h1,h2⟩:=ih rb (by omega) rb c td (w++[x]) (A+1) M lb' hxb fun td2 c2 g1 g2 g3=>by
      obtain ⟨n,td',j1,j2⟩:=both td2 c2 (by rw [g2 r kb];exact hr) (by rw [g1 ra hra];exact hra) g3 fun td3 c3 f1 f2 f3 =>
       cont td3 c3 (fun i hi=>by rw [f1 i (by rw [g1 i hi];exact hi),g1 i hi]) (fun i hi=>by rw [f2 i hi,g2 i (by omega)]) f3
      exact ⟨n,td',by omega,j2⟩
     exact ⟨n+1,td',by omega,.miss hl hs hp hr (by rw [Ng,hxa,hxb];rfl) h2⟩
   cases hxa:td ra with
   | some xa=>exact fin td c hr (by rw [hxa];rfl) cont
   | none =>
    obtain ⟨n,td',h1,h2⟩:=ih ra (by omega) ra c td (w++[x]) (A+1) M la' hxa fun td2 c2 g1 g2 g3=>by
     obtain ⟨n,td',j1,j2⟩:=fin td2 c2 (by rw [g2 r ka];exact hr) g3 fun td3 c3 f1 f2 f3 =>
      cont td3 c3 (fun i hi=>by rw [f1 i (by rw [g1 i hi];exact hi),g1 i hi]) (fun i hi=>by rw [f2 i hi,g2 i (by omega)]) f3
     exact ⟨n,td',by omega,j2⟩
    exact ⟨n+1,td',by omega,.miss hl hs hp hr (by rw [Ng,hxa];rfl) h2⟩
theorem Zp2 {sh:Ae}(ht:B9 sh)(hb:Bd sh)(ha:D6 sh):∀(k:Nat)(w:List Nat),w.length=k->(∀ x∈w,x < sh.length)->∀(td:Td)(c:Nat),∃ n td',n<=w.length+3 * un sh.length (Db td)/\ToldN sh n td c w td':=by
 obtain ⟨rk,hrk⟩:=ha
 intro k
 induction k with
 | zero =>
  intro w hw _ td c
  have:w=[]:=Rb hw
  subst this
  exact ⟨0,td,P6 _,.nil⟩
 | succ k ih =>
  intro w hw hx td c
  rcases Ry w with rfl | ⟨w1,x,rfl⟩
  ·cases hw
  rw [Rz] at hw hx ⊢
  rw [Pl,Qa] at hw ⊢
  have hw1:∀ y∈w1,y < sh.length:=fun y hy=>hx y (by simp [hy])
  obtain ⟨r,hl⟩:=ht x (hx x (by simp))
  cases e:td r with
  | some kd =>
   obtain ⟨n,td',h1,h2⟩:=ih w1 (by omega) hw1 td c
   obtain ⟨s,hs,ns⟩:=hl.at
   have lp:∀ ps:List Nat,(∀ p∈ps,p < sh.length)->∃ rs,Lasts sh ps rs:=fun ps=>by
    induction ps with
    | nil=>exact fun _=>⟨[],.nil⟩
    | cons p ps ih =>
     intro hp
     obtain ⟨q,hq⟩:=ht p (hp p (by simp))
     obtain ⟨rs,hrs⟩:=ih fun z hz=>hp z (by simp [hz])
     exact ⟨q::rs,.cons hq hrs⟩
   obtain ⟨rs,hrs⟩:=lp s.parts (hb r s hs)
   exact ⟨n+1,td',by omega,.seen hl hs hrs e h2⟩
  | none =>
   obtain ⟨n,td',h1,h2⟩:=tell ht hb hrk (rk r+1) r (Nat.lt_succ_self _) x c td w1 0 w1.length hl e fun td2 c2 _ _ _=>by
    obtain ⟨n,td',j1,j2⟩:=ih w1 (by omega) hw1 td2 c2
    exact ⟨n,td',by omega,j2⟩
   exact ⟨n,td',by omega,h2⟩
theorem Zik {sh:Ae}{n c:Nat}{td td':Td}{w:List Nat}(h:ToldN sh n td c w td'):(∀ i k,td i=some k->td' i=some k)/\∀ x∈w,∃ r k,Last sh x r/\td' r=some k:=by
 have st:∀{td td':Td}{r:Nat}{k:Kd},td r=none->(∀ i k',Ci td r k i=some k'->td' i=some k')->∀ i k,td i=some k->td' i=some k:=fun {td td' r k} hr h i k' hi=>h i k' (by
  unfold Ci
  rw [if_neg fun e=>by rw [e,hr] at hi;cases hi]
  exact hi)
 induction h with
 | nil=>exact ⟨fun _ _ h=>h,fun x hx=>by cases hx⟩
 | @seen n c x r td td' w rs s k hl hs hp h t ih =>
  refine ⟨ih.1,fun y hy=>?_⟩
  rcases Pw.mp hy with hy | hy
  ·exact ih.2 y hy
  ·rw [P7.mp hy]
   exact ⟨r,k,hl,ih.1 r k h⟩
 | miss hl hs hp h hm t ih=>exact ⟨ih.1,fun y hy=>ih.2 y (by simp at hy ⊢;rcases hy with hy | hy <;> simp [hy])⟩
 | any hl hs hp h t ih=>exact ⟨st h ih.1,fun y hy=>ih.2 y hy⟩
 | mk hl hs hp h hm hk t ih=>exact ⟨st h ih.1,fun y hy=>ih.2 y hy⟩
theorem Zbn:∀(ps:List (Nat×Nat))(x:Nat),x∈flat ps->∃ p∈ps,x=p.1\/x=p.2
 | [],x,h=>by cases h
 | p::ps,x,h=>by
  have h:x∈[p.1,p.2]++flat ps:=h
  rcases Pw.mp h with h | h
  ·simp only [Ph,P3,or_false] at h
   exact ⟨p,by simp,h⟩
  ·obtain ⟨q,h1,h2⟩:=Zbn ps x h
   exact ⟨q,by simp [h1],h2⟩
theorem pick {α β:Type}{R:α->β->Prop}:∀(xs:List α),(∀ x∈xs,∃ y,R x y)->∃ ys:List β,ys.length=xs.length/\∀(j:Nat)(x:α)(y:β),xs[j]?=some x->ys[j]?=some y->R x y
 | [],_=>⟨[],rfl,fun j x y h=>by cases h⟩
 | x::xs,h=>by
  obtain ⟨y,hy⟩:=h x (by simp)
  obtain ⟨ys,h1,h2⟩:=pick xs fun z hz=>h z (by simp [hz])
  refine ⟨y::ys,by rw [Pj,Pj,h1],fun j a b ha hb=>?_⟩
  match j,ha,hb with
  | 0,ha,hb=>cases ha;cases hb;exact hy
  | j+1,ha,hb=>exact h2 j a b (by simpa using ha) (by simpa using hb)
theorem Zp9 {n:Nat}{m:Ae}{w:List (Nat×Nat)}{o:Option Ae}(h:JoinN n m w o){x:Nat}{s:Sh}(hs:s=.num\/s=.truth):m[x]?=some s->∀ m1,o=some m1->m1[x]?=some s:=by
 have ne1:s≠.any:=by rcases hs with rfl | rfl <;> intro z <;> cases z
 have ne2:∀ a b,s≠.to a b:=fun a b=>by rcases hs with rfl | rfl <;> intro z <;> cases z
 induction h with
 | nil=>intro h m1 e;cases e;exact h
 | eq _ _ _ ih=>exact ih
 | anyR _ _ _ hr _ ih=>exact fun h=>ih (by rw [Dm (fun z=>ne1 (by rw [z,hr] at h;exact (Po h).symm))];exact h)
 | anyL _ _ _ _ _ hl _ ih=>exact fun h=>ih (by rw [Dm (fun z=>ne1 (by rw [z,hl] at h;exact (Po h).symm))];exact h)
 | to _ _ _ hl _ _ ih=>exact fun h=>ih (by rw [Dm (fun z=>ne2 _ _ (by rw [z,hl] at h;exact (Po h).symm))];exact h)
 | clash=>intro _ m1 e;cases e
structure Keep (m m':Ae):Prop where
 tot:B9 m'
 bd:Bd m'
 k0:∀(x:Nat)(s:Sh),s=.num\/s=.truth->m[x]?=some s->m'[x]?=some s
 k1:∀(i j r:Nat),Last m i r->Last m j r->∃ r',Last m' i r'/\Last m' j r'
 k3:∀(x a b:Nat),m[x]?=some (.to a b)->∃ ρ e f,Last m' x ρ/\m'[ρ]?=some (.to e f)/\(∃ ra,Last m' a ra/\Last m' e ra)/\∃ rb,Last m' b rb/\Last m' f rb
theorem Zqi {n:Nat}{m m1:Ae}{w:List (Nat×Nat)}(h:JoinN n m w (some m1))(ht:B9 m)(hb:Bd m):Keep m m1:=by
 have J:=Zan h rfl ht hb
 refine ⟨J.tot,Zcp h hb _ rfl,fun x s hs e=>Zp9 h hs e _ rfl,fun i j r h1 h2=>?_,J.f3⟩
 obtain ⟨s,hs,_⟩:=h1.at
 obtain ⟨r1,hr⟩:=J.tot r (by rw [J.len];exact h1.lt)
 exact ⟨r1,J.f1 _ _ _ h1 hr,J.f1 _ _ _ h2 hr⟩
mutual
inductive OutT:Tr->Ae->Ev->Option Nat->List (Nat×Nat)->Ae->Prop where
 | mk {w:Str} {n:Dt} {ts:List Tr} {sh sh':Ae} {e:Ev} {a:Option Nat} {ps:List (Nat×Nat)} (hs:Ec w n) (hl:ts.length=C6 w)
   (k:Km 0 ts (sh++(Aq sh.length w).2.2.2) (fun j=>Cj e (nb w n j) (Aq sh.length w).2.2.1) (fun j=>(Aq sh.length w).2.1[j]?) ps sh'):OutT (.mk w n ts) sh e a ((Cc sh.length w n e,a.getD (Cc sh.length w n e))::ps) sh'
inductive Km:Nat->List Tr->Ae->(Nat->Ev)->(Nat->Option Nat)->List (Nat×Nat)->Ae->Prop where
 | nil {i:Nat} {sh:Ae} {f:Nat->Ev} {d:Nat->Option Nat}:Km i [] sh f d [] sh
 | cons {i:Nat} {t:Tr} {ts:List Tr} {sh sh1 sh2:Ae} {f:Nat->Ev} {d:Nat->Option Nat} {ps1 ps2:List (Nat×Nat)} (h:OutT t sh (f i) (d i) ps1 sh1) (k:Km (i+1) ts sh1 f d ps2 sh2):Km i (t::ts) sh f d (ps1++ps2) sh2
end
noncomputable def WDS:List Str:=["gap", "odd", "num", "truth", "name", "plus", "minus", "less", "if", "call", "let", "fn", "rec"]
inductive WT:Tr->Prop where
 | mk {w:Str} {n:Dt} {ts:List Tr} (hw:w∈WDS) (h:∀ t∈ts,WT t):WT (.mk w n ts)
mutual
theorem Zc6:∀(t:Tr)(pl:List Nat),∀ x∈walk pl t,pl <+: x.1
 | .mk w n ts,pl=>fun x hx=>by
  rw [walk] at hx
  rcases Ph.mp hx with rfl | hx
  ·exact T3
  ·obtain ⟨j,_,h⟩:=L1 ts pl 0 x hx
   exact (List.prefix_append _ _).trans h
theorem L1:∀(ts:List Tr)(pl:List Nat)(i:Nat),∀ x∈A4 pl i ts,∃ j,i<=j/\pl++[j] <+: x.1
 | [],pl,i=>fun x hx=>by rw [A4] at hx;cases hx
 | t::ts,pl,i=>fun x hx=>by
  rw [A4] at hx
  rcases Pw.mp hx with hx | hx
  ·exact ⟨i,Pc _,Zc6 t (pl++[i]) x hx⟩
  ·obtain ⟨j,h1,h2⟩:=L1 ts pl (i+1) x hx
   exact ⟨j,by omega,h2⟩
end
theorem Zq2 {pl q:List Nat}{i j:Nat}(h:pl++[i] <+: q)(g:pl++[j] <+: q):i=j:=by
 obtain ⟨r,hr⟩:=h
 obtain ⟨s,hs⟩:=g
 rw [Qi] at hr hs
 have:=List.append_cancel_left (hr.trans hs.symm)
 injection this
mutual
theorem Zcf:∀(t:Tr)(pl:List Nat),((walk pl t).map (·.1)).Nodup
 | .mk w n ts,pl=>by
  rw [walk,Qg]
  refine Tw.mpr ⟨fun h=>?_,Zgh ts pl 0⟩
  obtain ⟨x,hx,e⟩:=Qr.mp h
  obtain ⟨j,_,s,hs⟩:=L1 ts pl 0 x hx
  have:x.1=pl:=e
  rw [this] at hs
  have:=congrArg Rl hs
  simp at this
theorem Zgh:∀(ts:List Tr)(pl:List Nat)(i:Nat),((A4 pl i ts).map (·.1)).Nodup
 | [],pl,i=>by rw [A4];exact List.nodup_nil
 | t::ts,pl,i=>by
  rw [A4,Qf]
  refine List.nodup_append.mpr ⟨Zcf t (pl++[i]),Zgh ts pl (i+1),fun a ha b hb e=>?_⟩
  obtain ⟨x,hx,e1⟩:=Qr.mp ha
  obtain ⟨y,hy,e2⟩:=Qr.mp hb
  have h1:=Zc6 t (pl++[i]) x hx
  obtain ⟨j,hj,h2⟩:=L1 ts pl (i+1) y hy
  have e3:x.1=y.1:=e1.trans (e.trans e2.symm)
  rw [e3] at h1
  have:=Zq2 h1 h2
  omega
end
theorem Zbc {sh:Ae}{ps:Ps}{parts w:List Nat}{o:Option (List Nat)}(h:Dk sh ps parts w o):(o=none->∃ p∈parts,∃ r,Last sh p r/\ps r=some false)/\∀ w',o=some w'->∃ rs,w'=w++rs/\∀ r∈rs,∃ p∈parts,Last sh p r:=by
 induction h with
 | nil=>exact ⟨fun e=>(nomatch e),fun w' e=>⟨[],by cases e;rw [Qc],fun r h=>nomatch h⟩⟩
 | hit h h2=>exact ⟨fun _=>⟨_,by simp,_,h,h2⟩,fun w' e=>nomatch e⟩
 | @go p r rest w o h h2 t ih =>
  refine ⟨fun e=>?_,fun w' e=>?_⟩
  ·obtain ⟨p,hp,r,h3,h4⟩:=ih.1 e
   exact ⟨p,Qy _ hp,r,h3,h4⟩
  ·obtain ⟨rs,e1,h3⟩:=ih.2 w' e
   refine ⟨r::rs,by rw [e1,Qi];rfl,fun x hx=>?_⟩
   rcases Ph.mp hx with rfl | hx
   ·exact ⟨p,by simp,h⟩
   ·obtain ⟨p',h5,h6⟩:=h3 x hx
    exact ⟨p',Qy _ h5,h6⟩
theorem Zos {sh:Ae}{rk:Nat->Nat}(hrk:∀ b c,(∃ s,sh[b]?=some s/\s.isSame=false)->Eg sh b c->rk c < rk b){n:Nat}{ps:Ps}{w:List Nat}{b:Bool}(h:HoldsN sh n ps w b):b=true->(∀ y∈w,∃ s,sh[y]?=some s/\s.isSame=false)->(∀ x,ps x=some false->∃ w1 w2,w=w1++x::w2/\∀ y∈w2,rk y < rk x)->False:=by
 induction h with
 | nil=>intro e;cases e
 | @seen n ps w Ac x b h t ih =>
  intro e hw hg
  refine ih e (fun y hy=>hw y (Rg _ hy)) fun y hy=>?_
  have hy':(if y=Ac then some true else ps y)=some false:=hy
  have ny:y≠Ac:=fun z=>by rw [if_pos z] at hy';cases hy'
  rw [if_neg ny] at hy'
  obtain ⟨w1,w2,e1,h2⟩:=hg y hy'
  rcases Ry w2 with rfl | ⟨w3,z,rfl⟩
  ·obtain ⟨_,e2⟩:=Q8 e1 rfl
   cases e2
   exact absurd rfl ny
  ·rw [Rz] at e1 h2
   have e1':w++[Ac]=(w1++y::w3)++[z]:=by rw [e1];simp
   obtain ⟨e2,_⟩:=Q8 e1' rfl
   exact ⟨w1,w3,e2,fun v hv=>h2 v (Rg _ hv)⟩
 | @hit ps w Ac s h hs hp =>
  intro _ hw hg
  obtain ⟨p,hp1,r,h3,h4⟩:=(Zbc hp).1 rfl
  have eg:Eg sh Ac r:=⟨s,p,hs,hp1,h3⟩
  have lt:=hrk Ac r (hw Ac (by simp)) eg
  have h4':(if r=Ac then some false else ps r)=some false:=h4
  by_cases z:r=Ac
  ·rw [z] at lt;exact Qw _ lt
  ·rw [if_neg z] at h4'
   obtain ⟨w1,w2,e1,h2⟩:=hg r h4'
   rcases Ry w2 with rfl | ⟨w3,v,rfl⟩
   ·obtain ⟨_,e2⟩:=Q8 e1 rfl
    cases e2
    exact z rfl
   ·rw [Rz] at e1 h2
    have e1':w++[Ac]=(w1++r::w3)++[v]:=by rw [e1];simp
    obtain ⟨_,e2⟩:=Q8 e1' rfl
    cases e2
    have:=h2 Ac (by simp)
    omega
 | @go n ps w w' Ac s b h hs hp t ih =>
  intro e hw hg
  obtain ⟨rs,e1,h3⟩:=(Zbc hp).2 w' rfl
  have lt:∀ r∈rs,rk r < rk Ac:=fun r hr=>by
   obtain ⟨p,h5,h6⟩:=h3 r hr
   exact hrk Ac r (hw Ac (by simp)) ⟨s,p,hs,h5,h6⟩
  refine ih e (fun y hy=>?_) fun x hx=>?_
  ·rw [e1] at hy
   rcases Pw.mp hy with hy | hy
   ·exact hw y hy
   ·obtain ⟨p,h5,h6⟩:=h3 y hy
    exact h6.at
  ·have hx':(if x=Ac then some false else ps x)=some false:=hx
   by_cases z:x=Ac
   ·exact ⟨w,rs,by rw [e1,z];simp,by rw [z];exact lt⟩
   ·rw [if_neg z] at hx'
    obtain ⟨w1,w2,e2,h4⟩:=hg x hx'
    refine ⟨w1,w2++rs,by rw [e1,e2];simp,fun y hy=>?_⟩
    rcases Pw.mp hy with hy | hy
    ·exact h4 y hy
    ·have h6:rk Ac < rk x:=by
      rcases Ry w2 with rfl | ⟨w3,v,rfl⟩
      ·obtain ⟨_,e3⟩:=Q8 e2 rfl
       cases e3
       exact absurd rfl z
      ·rw [Rz] at e2 h4
       have e2':w++[Ac]=(w1++x::w3)++[v]:=by rw [e2];simp
       obtain ⟨_,e3⟩:=Q8 e2' rfl
       cases e3
       exact h4 Ac (by simp)
     have:=lt y hy
     omega
theorem Zip {sh:Ae}(ha:D6 sh){n x r:Nat}(hl:Last sh x r)(h:HoldsN sh n (fun _=>none) [r] true):False:=by
 obtain ⟨rk,hrk⟩:=ha
 exact Zos hrk h rfl (fun y hy=>by rw [P7.mp hy];exact hl.at) fun x hx=>by cases hx
structure Iso (g:Nat)(m:Ae):Prop where
 any:m[g]?=some .any
 off:∀(i:Nat)(s:Sh),m[i]?=some s->g ∉ s.parts
theorem Iso.last {g:Nat}{m:Ae}(h:Iso g m){i r:Nat}(hl:Last m i r)(ni:i≠g):r≠g:=by
 obtain ⟨n,hl⟩:=hl
 induction hl with
 | root _ _=>exact ni
 | @step n i k r e t ih=>exact ih fun z=>h.off _ _ e (by rw [<- z];simp [Sh.parts])
theorem Iso.set {g:Nat}{m:Ae}(h:Iso g m){x y:Nat}(nx:x≠g)(ny:y≠g):Iso g (m.set x (.same y)):=by
 refine ⟨by rw [Dm (fun z=>nx z.symm)];exact h.any,fun i s hs=>?_⟩
 by_cases z:i=x
 ·subst z
  by_cases hi:i < m.length
  ·rw [Rf hi] at hs
   cases hs
   intro hm
   simp [Sh.parts] at hm
   exact ny hm.symm
  ·rw [List.getElem?_eq_none (by rw [Qd];omega)] at hs
   cases hs
 ·rw [Dm z] at hs
  exact h.off i s hs
theorem Zhl {g n:Nat}{m:Ae}{w:List (Nat×Nat)}{o:Option Ae}(h:JoinN n m w o):Iso g m->(∀ p∈w,p.1≠g/\p.2≠g)->∀ m1,o=some m1->Iso g m1:=by
 induction h with
 | nil=>intro i _ m1 e;cases e;exact i
 | @eq n m w p l o h1 h2 t ih=>exact fun i hw=>ih i fun q hq=>hw q (Rg _ hq)
 | @anyR n m w p l r o h1 h2 ne hr t ih =>
  intro i hw
  have:=hw p (by simp)
  exact ih (i.set (i.last h2 this.2) (i.last h1 this.1)) fun q hq=>hw q (Rg _ hq)
 | @anyL n m w p l r sr o h1 h2 ne hr hn hl t ih =>
  intro i hw
  have:=hw p (by simp)
  exact ih (i.set (i.last h1 this.1) (i.last h2 this.2)) fun q hq=>hw q (Rg _ hq)
 | @to n m w p l r a b c d o h1 h2 ne hl hr t ih =>
  intro i hw
  have:=hw p (by simp)
  have k1:=i.off _ _ hl
  have k2:=i.off _ _ hr
  simp [Sh.parts] at k1 k2
  refine ih (i.set (i.last h1 this.1) (i.last h2 this.2)) fun q hq=>?_
  rcases Pw.mp hq with hq | hq
  ·exact hw q (Rg _ hq)
  ·simp at hq
   rcases hq with rfl | rfl
   ·exact ⟨fun z=>k1.1 z.symm,fun z=>k2.1 z.symm⟩
   ·exact ⟨fun z=>k1.2 z.symm,fun z=>k2.2 z.symm⟩
 | clash=>intro _ _ m1 e;cases e
theorem Zbk {m:Ae}(ht:B9 m)(hb:Bd m){x y g:Nat}{sx sy:Sh}(i:Iso g m)(hx:m[x]?=some sx)(hxs:sx.isSame=false)(hy:m[y]?=some sy)(hys:sy.isSame=false)(ne:x≠y)(hg:(x=g/\y≠g)\/(y=g/\x≠g))(ha:D6 m):D6 (m.set x (.same y)):=by
 obtain ⟨rk,hrk⟩:=ha
 refine ⟨fun v=>if v=g then rk x else rk v,fun b c hbr he=>?_⟩
 obtain ⟨s,hs,ns⟩:=hbr
 obtain ⟨s',p,hs',hp,hl⟩:=he
 rw [hs] at hs'
 cases hs'
 have nb:b≠x:=fun z=>by rw [z,G6 hx] at hs;cases hs;cases ns
 rw [Dm nb] at hs
 have np:p≠g:=fun z=>i.off _ _ hs (by rw [<- z];exact hp)
 obtain ⟨c0,h0⟩:=ht p (hb _ _ hs p hp)
 have n0:=i.last h0 np
 have l1:=hl.uniq (K7 hx hxs hy hys ne h0)
 have bg:b≠g:=fun z=>by rw [z,i.any] at hs;cases hs;cases hp
 have lt:=hrk b c0 ⟨s,hs,ns⟩ ⟨s,p,hs,hp,h0⟩
 show (if c=g then rk x else rk c) < (if b=g then rk x else rk b)
 rw [if_neg bg,l1]
 by_cases z:c0=x
 ·rw [if_pos z]
  rcases hg with ⟨e,_⟩ | ⟨e,_⟩
  ·exact absurd (z.trans e) n0
  ·rw [if_pos e,<- z];exact lt
 ·rw [if_neg z,if_neg n0]
  exact lt
theorem Zc1 {g a n:Nat}{m:Ae}{w:List (Nat×Nat)}{o:Option Ae}(h:JoinN n m w o)(ew:w=[(g,a)])(hf:g=a\/(Iso g m/\a≠g))(ht:B9 m)(hb:Bd m)(ha:D6 m):∃ m1,o=some m1/\D6 m1:=by
 have one:∀{w':List (Nat×Nat)}{p:Nat×Nat},w'++[p]=[(g,a)]->w'=[]/\p=(g,a):=fun {w' p} e=>by
  have e:w'++[p]=[]++[(g,a)]:=e
  obtain ⟨e1,e2⟩:=Q8 e rfl
  cases e2
  exact ⟨e1,rfl⟩
 have nil:∀{n':Nat}{m':Ae}{w':List (Nat×Nat)}{o':Option Ae},JoinN n' m' w' o'->w'=[]->o'=some m':=fun h e=>by
  cases h with
  | nil=>rfl
  | eq=>simp at e
  | anyR=>simp at e
  | anyL=>simp at e
  | to=>simp at e
  | clash=>simp at e
 cases h with
 | nil=>cases ew
 | @eq n _ w p l o h1 h2 t=>exact ⟨m,nil t (one ew).1,ha⟩
 | @anyR n _ w p l r o h1 h2 ne hr t =>
  obtain ⟨e1,rfl⟩:=one ew
  rcases hf with rfl | ⟨i,na⟩
  ·exact absurd (h1.uniq h2) ne
  ·have el:=h1.uniq (Dr i.any rfl)
   subst el
   exact ⟨_,nil t e1,Zbk ht hb i hr rfl i.any rfl ne.symm (.inr ⟨rfl,ne.symm⟩) ha⟩
 | @anyL n _ w p l r sr o h1 h2 ne hr hn hl t =>
  obtain ⟨e1,rfl⟩:=one ew
  rcases hf with rfl | ⟨i,na⟩
  ·exact absurd (h1.uniq h2) ne
  ·have el:=h1.uniq (Dr i.any rfl)
   subst el
   obtain ⟨s2,hs2,ns2⟩:=h2.at
   exact ⟨_,nil t e1,Zbk ht hb i hl rfl hs2 ns2 ne (.inl ⟨rfl,ne.symm⟩) ha⟩
 | @to n _ w p l r a' b c d o h1 h2 ne hl hr t =>
  obtain ⟨e1,rfl⟩:=one ew
  rcases hf with rfl | ⟨i,na⟩
  ·exact absurd (h1.uniq h2) ne
  ·have el:=h1.uniq (Dr i.any rfl)
   subst el
   rw [i.any] at hl
   cases hl
 | @clash _ w p l r sl sr h1 h2 ne hl hr nl nr nt =>
  obtain ⟨e1,rfl⟩:=one ew
  rcases hf with rfl | ⟨i,na⟩
  ·exact absurd (h1.uniq h2) ne
  ·have el:=h1.uniq (Dr i.any rfl)
   subst el
   rw [i.any] at hl
   exact absurd (Po hl).symm nl
theorem Zgq {ps:List (Nat×Nat)}{m m':Ae}{fs:List Bool}(h:FitG ps m fs m'):B9 m->Bd m->D6 m->∀(i g a:Nat),ps[i]?=some (g,a)->(g=a\/(Iso g m/\a≠g/\∀ j < i,∀ p,ps[j]?=some p->p.1≠g/\p.2≠g))->fs[i]?=some true:=by
 induction h with
 | nil=>intro _ _ _ i g a h;simp at h
 | @ok g0 a0 n k r m m1 m' ps fs j hn l h hk t ih =>
  intro ht hb ha i g a hi hf
  cases i with
  | zero=>rfl
  | succ i =>
   have K:=Zqi j ht hb
   refine ih K.tot K.bd (Zdo (Zan j rfl ht hb) ht hb ha l h) i g a hi (hf.imp id fun zq=>?_)
   obtain ⟨h1,h2,h3⟩:=zq
   refine ⟨?_,h2,fun j' hj p hp=>h3 (j'+1) (by omega) p hp⟩
   exact Zhl j h1 (fun p hp=>by rw [P7.mp hp];exact h3 0 (by omega) _ rfl) _ rfl
 | @clash g0 a0 n m m' ps fs j hn t ih =>
  intro ht hb ha i g a hi hf
  cases i with
  | zero =>
   cases hi
   obtain ⟨m1,e,_⟩:=Zc1 j rfl (hf.imp id fun ⟨h1,h2,_⟩=>⟨h1,h2⟩) ht hb ha
   cases e
  | succ i=>exact ih ht hb ha i g a hi (hf.imp id fun ⟨h1,h2,h3⟩=>⟨h1,h2,fun j' hj p hp=>h3 (j'+1) (by omega) p hp⟩)
 | @loop g0 a0 n k r m m1 m' ps fs j hn l h hk t ih =>
  intro ht hb ha i g a hi hf
  cases i with
  | zero =>
   cases hi
   obtain ⟨m2,e,ha2⟩:=Zc1 j rfl (hf.imp id fun ⟨h1,h2,_⟩=>⟨h1,h2⟩) ht hb ha
   cases e
   exact (Zip ha2 l h).elim
  | succ i=>exact ih ht hb ha i g a hi (hf.imp id fun ⟨h1,h2,h3⟩=>⟨h1,h2,fun j' hj p hp=>h3 (j'+1) (by omega) p hp⟩)
mutual
theorem Zbf:∀(t:Tr)(p0:List Nat)(x:List Nat×Tr),x∈walk p0 t->∃ rel,x.1=p0++rel/\∀ w n ts,x.2=.mk w n ts->∀ j,B7 t (rel++[j])=B7 t rel++[nb w n j]
 | .mk w n ts,p0,x,hx=>by
  rw [walk] at hx
  rcases Ph.mp hx with rfl | hx
  ·refine ⟨[],by simp,fun w' n' ts' e j=>?_⟩
   cases e
   show B7 (.mk w n ts) [j]=B7 (.mk w n ts) []++[nb w n j]
   have h0:∀ u:Tr,B7 u []=[]:=fun u=>by cases u;rfl
   rw [h0 (.mk w n ts),B7]
   cases ts[j]? with
   | none=>rfl
   | some u=>show nb w n j::B7 u []=_;rw [h0];rfl
  ·obtain ⟨k,rel,u,hu,e,h⟩:=Zbl ts p0 0 x hx
   refine ⟨(0+k)::rel,by rw [e];simp,fun w' n' ts' e' j=>?_⟩
   rw [Rk,Rh,Ff hu,Ff hu,h w' n' ts' e' j]
   rfl
theorem Zbl:∀(ts:List Tr)(p0:List Nat)(i:Nat)(x:List Nat×Tr),x∈A4 p0 i ts->∃ k rel u,ts[k]?=some u/\x.1=p0++[i+k]++rel/\∀ w n ts',x.2=.mk w n ts'->∀ j,B7 u (rel++[j])=B7 u rel++[nb w n j]
 | [],p0,i,x,hx=>by rw [A4] at hx;cases hx
 | t::ts,p0,i,x,hx=>by
  rw [A4] at hx
  rcases Pw.mp hx with hx | hx
  ·obtain ⟨rel,e,h⟩:=Zbf t (p0++[i]) x hx
   exact ⟨0,rel,t,rfl,e,h⟩
  ·obtain ⟨k,rel,u,hu,e,h⟩:=Zbl ts p0 (i+1) x hx
   exact ⟨k+1,rel,u,hu,by rw [e,show i+1+k=i+(k+1) by omega],h⟩
end
theorem Zgx {t:Tr}{pl:List Nat}{w:Str}{n:Dt}{ts:List Tr}(h:(pl,Tr.mk w n ts)∈walk [] t)(j:Nat):Br t (pl++[j])=Br t pl++nb w n j:=by
 obtain ⟨rel,e,hl⟩:=Zbf t [] _ h
 have e:pl=[]++rel:=e
 rw [Ru] at e
 subst e
 unfold Br
 rw [hl w n ts rfl j,List.flatten_append]
 simp
theorem Zer {s:Str}:∀(ns:List Str)(ks:List Nat)(e:Ev),ns.length<=ks.length->(Cj e ns ks s=none↔e s=none/\s ∉ ns)
 | [],ks,e,_=>by show e s=none↔_;simp
 | n::ns,k::ks,e,h=>by
  have ih:=Zer (s:=s) ns ks (fun z=>if z=n then some k else e z) (by simpa using h)
  show Cj (fun z=>if z=n then some k else e z) ns ks s=none↔_
  rw [ih]
  by_cases z:s=n
  ·simp [z]
  ·simp [z]
theorem Zkk (m:Nat)(w:Str)(n:Dt)(j:Nat)(hs:Ec w n):(nb w n j).length<=(Aq m w).2.2.1.length:=by
 unfold nb
 split
 ·rename_i h
  subst h
  obtain ⟨t,rfl⟩:=hs.1 (.inl rfl)
  exact Pc 1
 ·split
  ·rename_i h
   subst h
   obtain ⟨t,u,rfl⟩:=hs.2 rfl
   exact Pc 2
  ·split
   ·rename_i h
    obtain ⟨h,_⟩:=h
    subst h
    obtain ⟨t,rfl⟩:=hs.1 (.inr (.inl rfl))
    exact Pc 1
   ·exact P6 _
theorem Zls {m:Nat}{w:Str}(h:w = "gap" \/ w = "odd" \/ w = "name"):Aq m w=(m,[],[],[.any]):=by
 rcases h with rfl | rfl | rfl <;> rfl
theorem Zou (m:Nat)(w:Str):∀(i:Nat)(s:Sh),(Aq m w).2.2.2[i]?=some s->∀ p∈s.parts,m<=p:=by
 have key:∀ l:Ae,l=[]\/l=[.any]\/l=[.any,.any]\/l=[.any,.any,.to m (m+1)]->∀(i:Nat)(s:Sh),l[i]?=some s->∀ p∈s.parts,m<=p:=by
  intro l hl i s hs p hp
  have hm:=Qb hs
  rcases hl with rfl | rfl | rfl | rfl
  ·cases hm
  ·simp at hm;subst hm;simp [Sh.parts] at hp
  ·simp at hm;subst hm;simp [Sh.parts] at hp
  ·simp at hm
   rcases hm with rfl | rfl
   ·simp [Sh.parts] at hp
   ·simp [Sh.parts] at hp;omega
 refine key _ ?_
 unfold Aq
 repeat (first | split | (first | exact .inl rfl | exact .inr (.inl rfl) | exact .inr (.inr (.inl rfl)) | exact .inr (.inr (.inr rfl))))
theorem KinG.pre {rs:List (List Nat×Tr)}{sh sh':Ae}{D:Dn}{A:An}{ps:List (Nat×Nat)}(h:KinG rs sh D A ps sh'):sh <+: sh':=by
 induction h with
 | nil=>exact T3
 | cons _ _ _ ih=>exact (List.prefix_append _ _).trans ih
noncomputable def Frs (t:Tr)(pl:List Nat)(w:Str)(n:Dt):Prop:=w = "gap" \/ w = "odd" \/ (w = "name" /\ D5 n ∉ Br t pl)
theorem Zmy {m:Nat}{w:Str}{n:Dt}{e:Ev}(hm:2<=m)(he:∀ s k,e s=some k->k < m):Cc m w n e < m+(Aq m w).2.2.2.length:=by
 have k:=(Zav m w hm).1
 unfold Cc
 split
 ·cases h:e (D5 n) with
  | none=>exact k
  | some x=>have:=he _ _ h;show x < _;omega
 ·exact k
theorem Zgy {t:Tr}{rs:List (List Nat×Tr)}{sh sh':Ae}{D:Dn}{A:An}{ps:List (Nat×Nat)}(h:KinG rs sh D A ps sh'):(∀ x∈rs,x∈walk [] t)->2<=sh.length->(∀ q k,D q=some k->k < sh.length)->(∀ q e s k,A q=some e->e s=some k->k < sh.length)->(∀ q e,A q=some e->∀ s,e s=none↔s ∉ Br t q) ->
  (∀(x:Nat)(s:Sh),sh.length<=x->sh'[x]?=some s->∀ p∈s.parts,sh.length<=p) /\
  ∀(i:Nat)(pl:List Nat)(w:Str)(n:Dt)(ts:List Tr)(g a:Nat),rs[i]?=some (pl,.mk w n ts)->ps[i]?=some (g,a)->Frs t pl w n->g=a\/(sh.length<=g/\sh'[g]?=some .any/\a < g/\(∀ j < i,∀ p,ps[j]?=some p->p.1 < g/\p.2 < g)/\∀(x:Nat)(s:Sh),sh.length<=x->sh'[x]?=some s->g ∉ s.parts):=by
 induction h with
 | nil=>exact fun _ _ _ _ _=>⟨(fun x s hx h=>by rw [List.getElem?_eq_none hx] at h;cases h),fun i pl w n ts g a h=>by simp at h⟩
 | @cons pl0 w0 n0 ts0 rs sh sh' D A e ps hA hsh k ih =>
  intro hin h2 hD hE hN
  obtain ⟨k1,k2,k3,k4⟩:=Zav sh.length w0 h2
  have l1:(sh++(Aq sh.length w0).2.2.2).length=sh.length+(Aq sh.length w0).2.2.2.length:=Pl
  obtain ⟨P,Q⟩:=ih (fun x hx=>hin x (Qy _ hx)) (by omega) (fun q x hx=>by
   rcases Oa _ _ _ _ _ _ hx with h | h
   ·have:=k2 x h;omega
   ·have:=hD q x h;omega) (fun q e' s x hq hs=>by
   rcases Zab _ _ _ _ _ _ hq with h | ⟨j,rfl⟩
   ·have:=hE q e' s x h hs;omega
   ·rcases Zff hs with h | h
    ·have:=k3 x h;omega
    ·have:=hE pl0 e s x hA h;omega) (fun q e' hq s=>by
   by_cases hz:∃ j,q=pl0++[j]/\j < (Aq sh.length w0).2.1.length
   ·obtain ⟨j,rfl,hj⟩:=hz
    rw [Zaj _ _ _ _ _ hj] at hq
    cases hq
    rw [Zer _ _ _ (Zkk sh.length w0 n0 j hsh),hN pl0 e hA s,Zgx (hin _ Sj) j]
    simp
   ·have key:∀ m,m<=(Aq sh.length w0).2.1.length->Dy A pl0 (fun j=>Cj e (nb w0 n0 j) (Aq sh.length w0).2.2.1) m q=A q:=by
     intro m
     induction m with
     | zero=>exact fun _=>rfl
     | succ m ihm =>
      intro hm
      show (if q=pl0++[m] then _ else _)=_
      rw [if_neg (fun z=>hz ⟨m,z,by omega⟩)]
      exact ihm (by omega)
    rw [key _ (Pc _)] at hq
    exact hN q e' hq s)
  have pre:=k.pre
  have old:∀(x:Nat)(s:Sh),x < sh.length+(Aq sh.length w0).2.2.2.length->sh.length<=x->sh'[x]?=some s->(Aq sh.length w0).2.2.2[x - sh.length]?=some s:=fun x s hx hx2 hs=>by
   obtain ⟨r,hr⟩:=pre
   rw [<- hr,Qe (by omega),Qm hx2] at hs
   exact hs
  have glt:Cc sh.length w0 n0 e < sh.length+(Aq sh.length w0).2.2.2.length:=Zmy h2 fun s x hx=>hE pl0 e s x hA hx
  have alt:(D pl0).getD (Cc sh.length w0 n0 e) < sh.length+(Aq sh.length w0).2.2.2.length:=by
   cases hd:D pl0 with
   | none=>exact glt
   | some x=>have:=hD pl0 x hd;show x < _;omega
  refine ⟨fun x s hx hs p hp=>?_,fun i pl w n ts g a hi hp hf=>?_⟩
  ·by_cases z:x < sh.length+(Aq sh.length w0).2.2.2.length
   ·exact Zou _ _ _ _ (old x s z hx hs) p hp
   ·have:=P x s (by omega) hs p hp
    omega
  ·cases i with
   | zero =>
    cases hi
    have hp':(Cc sh.length w0 n0 e,(D pl0).getD (Cc sh.length w0 n0 e))=(g,a):=Po hp
    have hw:w0 = "gap" \/ w0 = "odd" \/ w0 = "name" := hf.imp id fun h=>h.imp id fun h=>h.1
    have ekw:=Zls (m:=sh.length) hw
    have eg:Cc sh.length w0 n0 e=sh.length:=by
     unfold Cc
     rw [ekw]
     split
     ·rename_i hn
      rcases hf with h | h | ⟨_,h⟩
      ·rw [h] at hn;exact absurd hn (by decide +kernel)
      ·rw [h] at hn;exact absurd hn (by decide +kernel)
      ·rw [(hN pl0 e hA _).mpr h];rfl
     ·rfl
    rw [eg] at hp'
    injection hp' with e1 e2
    subst e1
    cases hd:D pl0 with
    | none=>rw [hd] at e2;exact .inl e2
    | some x =>
     rw [hd] at e2
     have e2:x=a:=e2
     subst e2
     rw [ekw] at pre P
     have hany:sh'[sh.length]?=some .any:=by
      obtain ⟨r,hr⟩:=pre
      rw [<- hr,Qe (by simp),Qm (Pc _),R6]
      rfl
     refine .inr ⟨Pc _,hany,hD pl0 x hd,fun j hj=>absurd hj (Rj _),fun y s hy hs hm=>?_⟩
     by_cases z:y=sh.length
     ·rw [z,hany] at hs
      cases hs
      simp [Sh.parts] at hm
     ·have:=P y s (by rw [Pl];show sh.length+1<=y;omega) hs _ hm
      rw [Pl] at this
      have:sh.length+1<=sh.length:=this
      omega
   | succ i =>
    rcases Q i pl w n ts g a hi hp hf with h | ⟨h1,h3,h4,h5,h6⟩
    ·exact .inl h
    ·refine .inr ⟨by omega,h3,h4,fun j hj p hpj=>?_,fun y s hy hs hm=>?_⟩
     ·cases j with
      | zero =>
       cases hpj
       exact ⟨by omega,by show (D pl0).getD _ < g;omega⟩
      | succ j=>exact h5 j (by omega) p hpj
     ·by_cases z:y < sh.length+(Aq sh.length w0).2.2.2.length
      ·have hs0:=old y s z hy hs
       have hns:=(k4 _ _ hs0)
       have:g < sh.length+(Aq sh.length w0).2.2.2.length:=by
        cases s with
        | to b c =>
         have hb:=hns.2 b c rfl
         simp [Sh.parts] at hm
         omega
        | same x=>cases hns.1
        | num=>simp [Sh.parts] at hm
        | truth=>simp [Sh.parts] at hm
        | any=>simp [Sh.parts] at hm
       omega
      ·exact h6 y s (by omega) hs hm
theorem Zaw:Ini [.num,.truth]:=⟨fun i s h=>by
  match i,h with
  | 0,h=>cases h;rfl
  | 1,h=>cases h;rfl,fun i a b h=>by
  match i,h with
  | 0,h=>cases h
  | 1,h=>cases h⟩
theorem Zex {t:Tr}{ks:List Kd}{fs:List Bool}(h:Fe t ks fs)(ha:AT t){i:Nat}{pl:List Nat}{w:Str}{n:Dt}{ts:List Tr}(hi:(walk [] t)[i]?=some (pl,.mk w n ts))(hf:pl=[]\/Frs t pl w n):fs[i]?=some true:=by
 obtain ⟨ps,sh1,sh2,N,td',hk,hfit,ht,_,hl,hx⟩:=h.ex
 have d0:∀(q:List Nat)(k:Nat),(fun _:List Nat=>(none:Option Nat)) q=some k->k < 2:=fun q k h=>by cases h
 have a0:∀(q:List Nat)(e:Ev)(s:Str)(k:Nat),(if q=[] then some (fun _:Str=>(none:Option Nat)) else none)=some e->e s=some k->k < 2:=fun q e s k h h'=>by
  by_cases z:q=[]
  ·rw [if_pos z] at h;cases h;cases h'
  ·rw [if_neg z] at h;cases h
 obtain ⟨I,l1,l2,l3⟩:=Nn hk Zaw (Pc _) d0 a0
 have pre:=hk.pre
 have b0:sh1[0]?=some .num:=by obtain ⟨r,hr⟩:=pre;rw [<- hr];rfl
 have b1:sh1[1]?=some .truth:=by obtain ⟨r,hr⟩:=pre;rw [<- hr];rfl
 have hil:=(Pg.mp hi).1
 obtain ⟨g,a,hp⟩:∃ g a,ps[i]?=some (g,a):=⟨_,_,Pb (by rw [hk.len];exact hil)⟩
 refine Zgq hfit I.tot I.bd I.acy i g a hp ?_
 rcases hf with rfl | hf
 ·left
  have i0:i=0:=by
   have nd:=Zcf t []
   have e0:(walk [] t)[0]?=some ([],t):=by cases t;rw [walk];rfl
   have m1:((walk [] t).map (·.1))[i]?=some []:=by rw [Pq,hi];rfl
   have m0:((walk [] t).map (·.1))[0]?=some []:=by rw [Pq,e0];rfl
   exact (List.getElem?_inj (by rw [Pe];exact hil) nd).mp (m1.trans m0.symm)
  subst i0
  generalize hw:walk [] t=rs at hk hi
  cases hk with
  | nil=>simp at hi
  | cons hA hsh k=>cases hi;cases hp;rfl
 ·rcases (Zgy (t:=t) hk (fun x h=>h) (Pc _) d0 a0 (fun q e hq s=>by
   by_cases z:q=[]
   ·rw [if_pos z] at hq;cases hq;subst z;cases t;simp [Br,B7]
   ·rw [if_neg z] at hq;cases hq)).2 i pl w n ts g a hi hp hf with h | ⟨h1,h3,h4,h5,h6⟩
  ·exact .inl h
  ·refine .inr ⟨⟨h3,fun x s hs hm=>?_⟩,by omega,fun j hj p hpj=>by have:=h5 j hj p hpj;omega⟩
   by_cases z:2<=x
   ·exact h6 x s z hs hm
   ·rcases (show x=0\/x=1 by omega) with rfl | rfl
    ·rw [b0] at hs;cases hs;simp [Sh.parts] at hm
    ·rw [b1] at hs;cases hs;simp [Sh.parts] at hm
section
variable {P:Program}{w:World}{K:O9}{mg:Str->Option Value}{base:Heap}
noncomputable def ShL (H:Hp)(v:V)(ms:List Int):Prop:=∃ p,v=.ref p/\H p=some (.lst (ms.map V.int))
noncomputable def tot (mss:List (List Int)):Nat:=(mss.map Rl).sum
theorem Zm9 (mss:List (List Int))(ms:List Int):tot (mss++[ms])=tot mss+ms.length:=by simp [tot]
noncomputable def Mf (K:O9):Sp:=fun vs H Q _=>∃(a:Addr)(ns:List Int)(m:Nat)(z:Int),vs=[.ref a,.int (m:Nat),.int z]/\H a=some (.lst (ns.map V.int))/\ns.length<=63/\(m=1\/m=2\/m=3) /\
 ∀(L:Addr)(us:List V)(mss:List (List Int))(H':Hp),Same H H'->H' L=some (.lst us)->Al (ShL H') us mss->mss.length=m->tot mss=ns.length->Q (.ref L) H'
theorem Zcq (ns:List Int)(lo hi:Option Int):∃ ms:List Int,Bq (ns.map V.int) lo hi=ms.map V.int/\ms.length=min (HT.sIx ns.length ns.length hi - HT.sIx ns.length 0 lo) (ns.length - HT.sIx ns.length 0 lo):=by
 unfold Bq
 rw [Pe,<- List.map_drop,<- U7]
 exact ⟨_,rfl,by rw [Pt,Tt]⟩
theorem Zht (ns:List Int)(lo hi:Nat)(h1:lo<=hi)(h2:hi<=ns.length):∃ ms:List Int,Bq (ns.map V.int) (some (lo:Int)) (some (hi:Int))=ms.map V.int/\ms.length=hi - lo:=by
 obtain ⟨ms,e,l⟩:=Zcq ns (some (lo:Int)) (some (hi:Int))
 refine ⟨ms,e,?_⟩
 rw [l,HT.sIx_nat,HT.sIx_nat]
 omega
noncomputable def ShJ (H:Hp)(D:Addr)(n:Nat)(ys:List V)(H':Hp)(i:Nat):Prop:=∃ mss,Al (fun v ms=>∃ p,v=.ref p/\p≠D/\H' p=some (.lst (ms.map V.int))) ys mss/\mss.length=i/\tot mss=n/\Same H H'
theorem ShJ.put {H H' H2:Hp}{D p:Addr}{n n' i:Nat}{ys:List V}{ms:List Int}{o:HO}(h:ShJ H D n ys H' i)(hD:H D=none)(s:Same H' H2)(np:p≠D)(e:H2 p=some (.lst (ms.map V.int)))(hn:n+ms.length=n'):ShJ H D n' (ys++[.ref p]) (upd H2 D o) (i+1):=by
 obtain ⟨mss,al,hl,ht,sm⟩:=h
 refine ⟨mss++[ms],(al.mono ?_).snoc ⟨p,rfl,np,by rw [Ai np];exact e⟩,by simp [hl],by rw [Zm9,ht,hn],(sm.trans s).over hD⟩
 rintro v x ⟨q,rfl,nq,eq⟩
 exact ⟨q,rfl,nq,by rw [Ai nq];exact s _ _ eq⟩
theorem ShJ.fin {H H':Hp}{D:Addr}{n i:Nat}{ys:List V}(h:ShJ H D n ys H' i):∃ mss,Al (ShL H') ys mss/\mss.length=i/\tot mss=n/\Same H H':=by
 obtain ⟨mss,al,hl,ht,sm⟩:=h
 exact ⟨mss,al.mono fun v x ⟨q,e,_,eq⟩=>⟨q,e,eq⟩,hl,ht,sm⟩
theorem ShJ.nil {H:Hp}{D:Addr}(hD:H D=none){o:HO}:ShJ H D 0 [] (upd H D o) 0:=⟨[],.nil,rfl,rfl,Same.upd hD⟩
theorem Zh0:(["_law_k", "_law_rest", "_law_at"]:List Str).Nodup:=by decide +kernel
theorem Zqf:(["_law_k", "_law_rest", "_law_many", "_law_size"]:List Str).Nodup:=by decide +kernel
theorem sc_law_shares:Bp ["_law_rest", "_law_many", "_law_turn", "_law_at", "_law_size"] ["_law_rest", "_law_many", "_law_turn"] (Bh Js):=by walk_at "sc"
theorem Zkj {f:Addr}{fd:FuncData}(F:Fun K "_law_shares" "_law_shares" Js f fd)(T:Txt K mg):Bb P w K mg base Bc 1 f fd ["_law_rest", "_law_many", "_law_turn"] (Mf K):=by
 refine F.okq sc_law_shares (fun vs H Q E h=>?_) (fun cdv A outer s H vs Q E hr h=>?_)
 ·obtain ⟨a,ns,m,z,rfl,_⟩:=h
  rfl
 ·obtain ⟨a,ns,m,z,rfl,ha,hn,hm,q⟩:=h
  refine ⟨_,Af (Ay (A6 (Bl K hr.u200) (A0 Cf (qv 2) Ah) Ah (A7 _)) (Af (Hs (i:=3) sc_law_shares.nd rfl (Or.inr rfl) (A0 Cf (A0 Eh (qv 2) Ah) (qv 1)))
   (Aj (Aw (Ey (N:=["_law_k", "_law_rest", "_law_at"]) (σ0:=Cq 1 [0,3]) rfl (Dl rfl (by decide +kernel) (by decide +kernel) (by decide +kernel)) (Gh rfl T.range (Aa (qv 1) Ab)) (Dq rfl (by rfl)) (fun _ _ _ _=>A1 (i:=0) Zh0 rfl (Or.inl rfl)) (fun _ _ _ _=>Fa) (fun _ _ _ _=>Lb (A6 (Bl K hr.u200) (qv 0) (qv 2) (A7 _)) (qv 1) (Bf Ab)))))) A8)
   (Af (Hs (i:=4) sc_law_shares.nd rfl (Or.inr rfl) (B1 (Cn K) (by rfl) T.len (by decide +kernel) (Aa (qv 0) Ab)))
   (Aj (Aw (Ey (N:=["_law_k", "_law_rest", "_law_many", "_law_size"]) (σ0:=Cq 1 [0,1,4]) rfl (Dl rfl (by decide +kernel) (by decide +kernel) (by decide +kernel)) (Gh rfl T.range (Aa (qv 1) Ab)) (Dq rfl (by rfl)) (fun _ _ _ _=>A1 (i:=0) Zqf rfl (Or.inl rfl)) (fun _ _ _ _=>Fa) (fun _ _ _ _=>C1 (Ed K) (qv 1) (Cd (A0 Eh (A0 Gq (qv 3) (qv 0)) (qv 2))) (Cd (A0 Eh (A0 Gq (qv 3) (A0 (F4 K) (qv 0) Ah)) (qv 2)))))))),?_⟩
  have bg:=big
  have m0:(0:Int) < (m:Int):=by omega
  have m3:m<=3:=by omega
  walk_at "r"
  refine Bv (fun _=>?_) (fun _=>?_)
  ·walk_at "r"
   refine s_rI m0 ?_
   have z0:=Rv (z / 3) (show (m:Int)≠0 by omega)
   have z1:=Ro (z / 3) m0
   generalize z / 3 % (m:Int)=k at z0 z1
   walk_at "r"
   refine ⟨by omega,by omega,fun D hD=>?_⟩
   have nD:=Ax ha hD
   refine N8 (n:=(m:Int).toNat) (Pv:=fun i ys σ' H'=>∃ kv,σ'=[kv,some (.ref a),some (.int k)]/\ShJ H D (if k < (i:Int) then ns.length else 0) ys H' i) ⟨none,rfl,by rw [if_neg (by omega)];exact ShJ.nil hD⟩ ?_ ?_
   ·rintro i ys σ' H' hi hys ⟨kv,rfl,J⟩
    have hyl:ys.length=i:=by obtain ⟨mss,al,hl,_⟩:=J;rw [al.1,hl]
    have sm:Same H H':=by obtain ⟨mss,_,_,_,sm⟩:=J;exact sm
    walk_at "r"
    refine Bv (fun c=>?_) (fun c=>?_)
    ·have c:(0:Int)+(i:Int)=k:=by simpa using c
     walk_at "r"
     refine ⟨_,hys,by omega,_,Ad,_,rfl,J.put hD (Same.refl _) nD (sm _ _ ha) ?_⟩
     have n1:¬ k < (i:Int):=by omega
     have n2:k < ((i+1:Nat):Int):=by omega
     rw [if_neg n1,if_pos n2]
     omega
    ·have c:¬ (0:Int)+(i:Int)=k:=fun e=>c (by simpa using e)
     walk_at "r"
     refine ⟨Bo,fun p hp=>?_⟩
     have np:p≠D:=(Ax hys hp).symm
     refine ⟨_,(Same.upd hp) _ _ hys,by omega,_,Ad,_,rfl,J.put (ms:=[]) hD (Same.upd hp) np Ad ?_⟩
     by_cases h1:k < (i:Int)
     ·have n2:k < ((i+1:Nat):Int):=by omega
      rw [if_pos h1,if_pos n2]
      rfl
     ·have n2:¬ k < ((i+1:Nat):Int):=by omega
      rw [if_neg h1,if_neg n2]
      rfl
   ·rintro ys σ' H' hys ⟨kv,rfl,J⟩
    rw [if_pos (by omega)] at J
    obtain ⟨mss,al,hl,ht,sm⟩:=J.fin
    exact q D ys mss H' sm hys al (by omega) ht
  ·walk_at "r"
   refine Dv (SqL.of ha) ?_
   walk_at "r"
   refine ⟨by omega,by omega,fun D hD=>?_⟩
   have nD:=Ax ha hD
   have cast:∀ i:Nat,(((ns.map V.int).length:Nat):Int) * (i:Int) / (m:Int)=((ns.length * i / m:Nat):Int):=fun i=>by rw [Pe];push_cast;rfl
   have mono:∀ i:Nat,ns.length * i / m<=ns.length * (i+1) / m:=fun i=>Nat.div_le_div_right (Nat.mul_le_mul_left _ (by omega))
   have Ac:∀ i:Nat,i<=m->ns.length * i / m<=ns.length:=fun i hi=>Nat.div_le_of_le_mul (by rw [Nat.mul_comm m];exact Nat.mul_le_mul_left _ hi)
   refine N8 (n:=(m:Int).toNat) (Pv:=fun i ys σ' H'=>∃ kv,σ'=[kv,some (.ref a),some (.int (m:Nat)),some (.int ((ns.map V.int).length:Nat))]/\ShJ H D (ns.length * i / m) ys H' i) ⟨none,rfl,by rw [Nat.mul_zero,Nat.zero_div];exact ShJ.nil hD⟩ ?_ ?_
   ·rintro i ys σ' H' hi hys ⟨kv,rfl,J⟩
    have hyl:ys.length=i:=by obtain ⟨mss,al,hl,_⟩:=J;rw [al.1,hl]
    have sm:Same H H':=by obtain ⟨mss,_,_,_,sm⟩:=J;exact sm
    have e0:(0:Int)+(i:Int)=(i:Int):=by omega
    have e1:(i:Int)+1=((i+1:Nat):Int):=by push_cast;rfl
    have hlm:(ns.map V.int).length=ns.length:=Pe ..
    rw [e0]
    walk_at "r"
    refine s_mul_r (by omega) (by omega) ?_
    walk_at "r"
    refine s_rI ⟨m0,by omega⟩ ?_
    walk_at "r"
    refine s_mul_r (by omega) (by omega) ?_
    walk_at "r"
    refine s_rI ⟨m0,by omega⟩ ?_
    rw [e1,cast i,cast (i+1)]
    walk_at "r"
    refine F6 (SqL.of (sm _ _ ha)) fun p hp=>?_
    obtain ⟨ms,ec,lc⟩:=Zht ns _ _ (mono i) (Ac (i+1) (by omega))
    rw [ec]
    have np:p≠D:=(Ax hys hp).symm
    have:=mono i
    exact ⟨_,(Same.upd hp) _ _ hys,by omega,_,Ad,_,rfl,J.put hD (Same.upd hp) np Ad (by omega)⟩
   ·rintro ys σ' H' hys ⟨kv,rfl,J⟩
    have e:(m:Int).toNat=m:=rfl
    rw [e,Nat.mul_div_cancel _ (by omega)] at J
    obtain ⟨mss,al,hl,ht,sm⟩:=J.fin
    exact q D ys mss H' sm hys al hl ht
structure GT (t:Tr):Prop where
 a:AT t
 s:Dh t
 w:WT t
theorem F3 {w:Str}{n:Dt}{ts:List Tr}(hw:Ec w n)(hd:w∈WDS)(hl:ts.length=C6 w)(h:∀ t∈ts,GT t):GT (.mk w n ts):=⟨.mk hw hl fun t ht=>(h t ht).a,.mk hw fun t ht=>(h t ht).s,.mk hd fun t ht=>(h t ht).w⟩
theorem Za8 (w:Str)(n:Dt):(Tr.mk w n []).size=1:=by rw [Tr.size,Bu]
theorem Hc {w:Str}{nv:V}(h:w = "gap" \/ w = "odd" \/ w = "num" \/ w = "truth"):GT (.mk w (.flat nv) []):=by
 rcases h with rfl | rfl | rfl | rfl <;> exact F3 (Ld (by decide +kernel) (by decide +kernel) (by decide +kernel) (by decide +kernel)) (by decide +kernel) (by decide +kernel) fun t h=>nomatch h
theorem Zge {nm:Str}:GT (.mk "name" (.flat (.str nm)) []):=F3 ⟨fun _=>⟨nm,rfl⟩,fun h=>absurd h (by decide +kernel)⟩ (by decide +kernel) (by decide +kernel) fun t h=>nomatch h
theorem Zo8 (x:Str)(z:Int):∃ s:Str,B5 [V.str "then",.str "=",.str "007",.str "x+1",.str "in",.str "=>",.str x,.str "else"] (z % 8)=some (.str s):=by
 obtain ⟨v,hv,m⟩:=Fc (xs:=[V.str "then",.str "=",.str "007",.str "x+1",.str "in",.str "=>",.str x,.str "else"]) (i:=z % 8) (Rv _ (by decide)) (Ro _ (by decide))
 simp only [Ph,P3,or_false] at m
 rcases m with rfl | rfl | rfl | rfl | rfl | rfl | rfl | rfl <;> exact ⟨_,hv⟩
noncomputable def Zaf (K:O9):Sp:=fun vs H Q _=>∃(c:Int)(nm:Str),vs=[.int c,.str nm]/\nm.length<=100/\∀(v:V)(t:Tr)(H':Hp),Same H H'->TrAt K H' v t->GT t->t.size=1->Q v H'
theorem Zgp:Bp ["_law_cell", "_law_name"] ["_law_cell", "_law_name"] (Bh Jg):=by walk_at "sc"
theorem Zl1 {f:Addr}{fd:FuncData}(F:Fun K "_law_leaf" "_law_leaf" Jg f fd)(T:Txt K mg):Bb P w K mg base Bc 1 f fd ["_law_cell", "_law_name"] (Zaf K):=by
 refine F.okq Zgp (fun vs H Q E h=>?_) (fun cdv A outer s H vs Q E hr h=>?_)
 ·obtain ⟨c,nm,rfl,_⟩:=h
  rfl
 ·obtain ⟨c,nm,rfl,hnm,q⟩:=h
  refine ⟨_,Af (Ay (A6 (Bl K hr.u200) (A0 Cf (qv 0) Ah) Ah (A7 _)) (Aj (Aw (Ap (Aa Av (Aa Dx (Aa (Ap Ab) Ab)))))) A8)
   (Af (Ay (A6 (Bl K hr.u200) (A0 Cf (qv 0) Ah) Ah (A7 _)) (Aj (Aw (Ap (Aa Av (Aa (Ao K (Bf (Aa Av (Aa Av (Aa Av (Aa Av (Aa Av (Aa Av (Aa (A0 (F4 K) Av (qv 1)) (Aa Av Ab))))))))) (A0 Cf (A0 Eh (qv 0) Ah) Ah)) (Aa (Ap Ab) Ab)))))) A8)
   (Af (Ay (A6 (Bl K hr.u200) (A0 Cf (qv 0) Ah) Ah (A7 _)) (Aj (Aw (Ap (Aa Av (Aa (A0 Cf (A0 Eh (qv 0) Ah) (A0 Zhe Ah Ah)) (Aa (Ap Ab) Ab)))))) A8)
   (Af (Ay (A6 (Bl K hr.u200) (A0 Cf (qv 0) Ah) Ah (A7 _)) (Aj (Aw (Ap (Aa Av (Aa (Ir (Bl K hr.u200) (A0 Cf (A0 Eh (qv 0) Ah) Ah) Ah (A7 _)) (Aa (Ap Ab) Ab)))))) A8)
   (Aj (Aw (Ap (Aa Av (Aa (qv 1) (Aa (Ap Ab) Ab))))))))),?_⟩
  have bg:=big
  have leaf:∀(w:Str)(nv:V)(H1:Hp),Same H H1->C2 nv=true->GT (.mk w (.flat nv) [])->∀ p,H1 p=none->∀ p2,upd H1 p (.tup []) p2=none->Q (.ref p2) (upd (upd H1 p (.tup [])) p2 (.tup [.str w,nv,.ref p])):=by
   intro w nv H1 s1 hf hs p hp p2 hp2
   have s2:=Same.upd (o:=.tup [.str w,nv,.ref p]) hp2
   exact q _ (.mk w (.flat nv) []) _ ((s1.trans (Same.upd hp)).trans s2) (.mk (SqT.of Ad) (.inl ⟨hf,rfl⟩) (SqT.of (s2 _ _ Ad)) rfl fun j v t e _=>by simp at e) hs (Za8 _ _)
  walk_at "r"
  refine Bv (fun _=>?_) (fun _=>?_)
  ·walk_at "r"
   refine ⟨Bo,fun p hp=>?_⟩
   walk_at "r"
   refine ⟨B0,fun p2 hp2=>?_⟩
   exact leaf "gap" .non H (Same.refl _) rfl (Hc (.inl rfl)) p hp p2 hp2
  walk_at "r"
  refine Bv (fun _=>?_) (fun _=>?_)
  ·walk_at "r"
   have l1:(Ql "A").length=1:=by decide +kernel
   refine Zar (by rw [l1];omega) ?_
   walk_at "r"
   refine ⟨sz8,fun p0 hp0=>?_⟩
   walk_at "r"
   obtain ⟨s0,hs0⟩:=Zo8 (Ql "A" ++ nm) (c / 7)
   refine Bk (SqL.of Ad) hs0 ?_
   walk_at "r"
   refine ⟨Bo,fun p hp=>?_⟩
   walk_at "r"
   refine ⟨B0,fun p2 hp2=>?_⟩
   exact leaf "odd" (.str s0) _ (Same.upd hp0) rfl (Hc (.inr (.inl rfl))) p hp p2 hp2
  walk_at "r"
  refine Bv (fun _=>?_) (fun _=>?_)
  ·walk_at "r"
   refine ⟨Bo,fun p hp=>?_⟩
   walk_at "r"
   refine ⟨B0,fun p2 hp2=>?_⟩
   exact leaf "num" _ H (Same.refl _) rfl (Hc (.inr (.inr (.inl rfl)))) p hp p2 hp2
  walk_at "r"
  refine Bv (fun _=>?_) (fun _=>?_)
  ·walk_at "r"
   refine ⟨Bo,fun p hp=>?_⟩
   walk_at "r"
   refine ⟨B0,fun p2 hp2=>?_⟩
   exact leaf "truth" _ H (Same.refl _) rfl (Hc (.inr (.inr (.inr rfl)))) p hp p2 hp2
  walk_at "r"
  refine ⟨Bo,fun p hp=>?_⟩
  walk_at "r"
  refine ⟨B0,fun p2 hp2=>?_⟩
  exact leaf "name" (.str nm) H (Same.refl _) rfl Zge p hp p2 hp2
noncomputable def Ei (n:Nat):Nat:=max 1 (3 * n - 2)
noncomputable def Gn (mss:List (List Int)):Nat:=(mss.map fun m=>Ei m.length).sum
theorem Zjb (mss:List (List Int))(ms:List Int):Gn (mss++[ms])=Gn mss+Ei ms.length:=by simp [Gn]
theorem Zqu {mss:List (List Int)}{n:Nat}(h:mss.length=1\/mss.length=2\/mss.length=3)(hn:1<=n)(ht:tot mss=n):Gn mss<=3 * n:=by
 unfold tot at ht
 unfold Gn Ei
 match mss,h with
 | [a],_ =>
  simp at ht ⊢
  omega
 | [a,b],_ =>
  simp at ht ⊢
  omega
 | [a,b,c],_ =>
  simp at ht ⊢
  omega
theorem Zi4 {ms:List Int}{mss:List (List Int)}(h:ms∈mss):ms.length<=tot mss:=by
 induction mss with
 | nil=>cases h
 | cons x r ih =>
  have e:tot (x::r)=x.length+tot r:=by simp [tot]
  rcases Ph.mp h with rfl | h
  ·omega
  ·have:=ih h
   omega
theorem Zde (n:Nat):1<=Ei n:=by unfold Ei;omega
noncomputable def W8:List Str:=["plus", "minus", "less", "call", "if", "fn", "rec", "let"]
theorem Zn9 (z:Int):∃ w:Str,B5 [V.str "plus",.str "minus",.str "less",.str "call",.str "call",.str "if",.str "fn",.str "fn",.str "rec",.str "let",.str "let",.str "if",.str "call"] (z % 13)=some (.str w)/\w∈W8:=by
 obtain ⟨v,hv,m⟩:=Fc (xs:=[V.str "plus",.str "minus",.str "less",.str "call",.str "call",.str "if",.str "fn",.str "fn",.str "rec",.str "let",.str "let",.str "if",.str "call"]) (i:=z % 13) (Rv _ (by decide)) (Ro _ (by decide))
 simp only [Ph,P3,or_false] at m
 rcases m with rfl | rfl | rfl | rfl | rfl | rfl | rfl | rfl | rfl | rfl | rfl | rfl | rfl <;> exact ⟨_,hv,by decide +kernel⟩
theorem Znl {w:Str}(h:w∈W8):(C6 w=1\/C6 w=2\/C6 w=3)/\w∈WDS/\C6 w=if w = "if" then 3 else if w = "fn" \/ w = "rec" then 1 else 2:=by
 simp only [W8,Ph,P3,or_false] at h
 rcases h with rfl | rfl | rfl | rfl | rfl | rfl | rfl | rfl <;> exact ⟨by decide +kernel,by decide +kernel,by decide +kernel⟩
structure Nms (K:O9)(H:Hp)(a:Addr)(ts:List Str):Prop where
 e:H a=some (.lst (ts.map V.str))
 n:1<=ts.length
 b:∀ t∈ts,t.length<=100
 l:ts.length<=10
theorem Nms.same {H H':Hp}{a:Addr}{ts:List Str}(h:Nms K H a ts)(s:Same H H'):Nms K H' a ts:=⟨s _ _ h.e,h.n,h.b,h.l⟩
theorem Nms.at {H:Hp}{a:Addr}{ts:List Str}(h:Nms K H a ts)(z:Int):∃ t:Str,B5 (ts.map V.str) (z % ((ts.map V.str).length:Nat))=some (.str t)/\t.length<=100:=by
 have l:(ts.map V.str).length=ts.length:=Pe ..
 have n:=h.n
 obtain ⟨v,hv,m⟩:=Fc (xs:=ts.map V.str) (i:=z % ((ts.map V.str).length:Nat)) (Rv _ (by omega)) (Ro _ (by omega))
 obtain ⟨t,ht,rfl⟩:=Qr.mp m
 exact ⟨t,hv,h.b t ht⟩
noncomputable def F8 (K:O9)(n:Nat):Sp:=fun vs H Q _=>∃(a b:Addr)(ns:List Int)(ts:List Str),vs=[.ref a,.ref b]/\H a=some (.lst (ns.map V.int))/\Nms K H b ts/\ns.length < n/\ns.length<=63 /\
 ∀(v:V)(t:Tr)(H':Hp),Same H H'->TrAt K H' v t->GT t->t.size<=Ei ns.length->Q v H'
theorem Zkv:(["_law_share", "_law_names_here"]:List Str).Nodup:=by decide +kernel
theorem D4:Bp ["_law_cells", "_law_names_here", "_law_cell", "_law_rest", "_law_name", "_law_sorts", "_law_word", "_law_many", "_law_note"] ["_law_cells", "_law_names_here"] (Bh G9):=by walk_at "sc"
theorem Zkf {n:Nat}{f:Addr}{fd:FuncData}(F:Fun K "_law_tree" "_law_tree" G9 f fd)(T:Txt K mg)(C__law_shares:Be P w K mg base 1 "_law_shares" ["_law_rest", "_law_many", "_law_turn"] (Mf K))(C__law_leaf:Be P w K mg base 1 "_law_leaf" ["_law_cell", "_law_name"] (Zaf K))(C__law_tree:Be P w K mg base (n+2) "_law_tree" ["_law_cells", "_law_names_here"] (F8 K n)):Bb P w K mg base Bc (n+3) f fd ["_law_cells", "_law_names_here"] (F8 K (n+1)):=by
 refine F.okq D4 (fun vs H Q E h=>?_) (fun cdv A outer s H vs Q E hr h=>?_)
 ·obtain ⟨a,b,ns,ts,rfl,_⟩:=h
  rfl
 ·obtain ⟨a,b,ns,nt,rfl,ha,hN,hn,h63,q⟩:=h
  refine ⟨_,Af (Ay (A6 (Bl K hr.u200) (B1 (Cn K) (by rfl) T.len (by decide +kernel) (Aa (qv 0) Ab)) Ah (A7 _)) (Aj (Aw (Ap (Aa Av (Aa Dx (Aa (Ap Ab) Ab)))))) A8)
   (Af (Ar 2 D4 (Ao K (qv 0) Ah))
   (Af (Ar 3 D4 (C1 (Ed K) (qv 0) (Cd Ah) (Ew)))
   (Af (Ar 4 D4 (Ao K (qv 1) (A0 Cf (A0 Eh (qv 2) Ah) (B1 (Cn K) (by rfl) T.len (by decide +kernel) (Aa (qv 1) Ab)))))
   (Af (Ay (A6 (Bl K hr.u200) (B1 (Cn K) (by rfl) T.len (by decide +kernel) (Aa (qv 3) Ab)) Ah (A7 _)) (Aj (Aw (A5 C__law_leaf (hr.mono (by omega)) (Aa (qv 2) (Aa (qv 4) Ab))))) A8)
   (Af (Ar 5 D4 (Bf (Ku (xs:=[.str "plus",.str "minus",.str "less",.str "call",.str "call",.str "if",.str "fn",.str "fn",.str "rec",.str "let",.str "let",.str "if",.str "call"]) rfl)))
   (Af (Ar 6 D4 (Ao K (qv 5) (A0 Cf (qv 2) Ah)))
   (Af (Ar 7 D4 Ah)
   (Af (Ar 8 D4 Dx)
   (Af (Ay (A6 (Ju K) (qv 6) (Ap (Aa Av (Aa Av Ab))) (by rfl)) (Aj (Ar 8 D4 (qv 4))) A8)
   (Af (Ay (A6 (Bl K hr.u200) (qv 6) Av (A7 _)) (Aj (Ar 8 D4 (Ap (Aa (qv 4) (Aa (Ao K (qv 1) (A0 Cf (A0 Eh (qv 2) Ah) (B1 (Cn K) (by rfl) T.len (by decide +kernel) (Aa (qv 1) Ab)))) Ab))))) A8)
   (Af (Ay (A6 (Ju K) (qv 6) (Ap (Aa Av (Aa Av Ab))) (by rfl)) (Aj (Ar 7 D4 Ah)) A8)
   (Af (Ay (A6 (Bl K hr.u200) (qv 6) Av (A7 _)) (Aj (Ar 7 D4 Ah)) A8)
   (Aj (Aw (Ap (Aa (qv 6) (Aa (qv 8) (Aa (Fl (Mc K) (by rfl) T.tuple (by decide +kernel) (Aa (Ey (N:=["_law_share", "_law_names_here"]) (σ0:=Cq 1 [1]) rfl (Dl rfl (by decide +kernel) (by decide +kernel) (by decide +kernel)) (Cp K (A5 C__law_shares (hr.mono (by omega)) (Aa (qv 3) (Aa (qv 7) (Aa (A0 Eh (qv 2) Ah) Ab))))) (Dq rfl (by rfl)) (fun _ _ _ _=>A1 (i:=0) Zkv rfl (Or.inl rfl)) (fun _ _ _ _=>Fa) (fun _ _ _ _=>A5 C__law_tree (hr.mono (by omega)) (Aa (qv 0) (Aa (qv 1) Ab)))) Ab)) Ab)))))))))))))))))),?_⟩
  have bg:=big
  walk_at "r"
  refine Dv (SqL.of ha) ?_
  walk_at "r"
  refine Bv (fun c=>?_) (fun c=>?_)
  ·walk_at "r"
   refine ⟨Bo,fun p hp=>?_⟩
   walk_at "r"
   refine ⟨B0,fun p2 hp2=>?_⟩
   have s2:=Same.upd (o:=.tup [.str "gap",.non,.ref p]) hp2
   exact q _ (.mk "gap" (.flat .non) []) _ ((Same.upd hp).trans s2) (.mk (SqT.of Ad) (.inl ⟨rfl,rfl⟩) (SqT.of (s2 _ _ Ad)) rfl fun j v t e _=>by simp at e) (Hc (.inl rfl)) (by rw [Za8];exact Zde _)
  have hlm:(ns.map V.int).length=ns.length:=Pe ..
  have h0:ns.length≠0:=fun e=>c (by rw [hlm,e];rfl)
  obtain ⟨z,zs,rfl⟩:=List.exists_cons_of_ne_nil (show ns≠[] from fun e=>h0 (by rw [e];rfl))
  walk_at "r"
  have ez:B5 ((z::zs).map V.int) ((0:Nat):Int)=some (V.int z):=Cy rfl
  refine Bk (SqL.of ha) ez ?_
  walk_at "r"
  refine F6 (SqL.of ha) fun pc hpc=>?_
  have ec:Bq ((z::zs).map V.int) (some 1) none=zs.map V.int:=by
   unfold Bq
   have e1:HT.sIx ((z::zs).map V.int).length 0 (some 1)=1:=by rw [show (1:Int)=((1:Nat):Int) from rfl,HT.sIx_nat,Pe,Pj];omega
   rw [e1,HT.sIx_none]
   simp
   exact Qp (by simp)
  rw [ec]
  obtain ⟨H1,s1,e1,z9⟩:=Hg hpc (.lst (zs.map V.int))
  rw [z9]
  have hN1:=hN.same s1
  rw [Pj] at hn h63
  walk_at "r"
  refine Dv (SqL.of hN1.e) ?_
  walk_at "r"
  have hl0:(0:Int) < ((nt.map V.str).length:Nat):=by rw [Pe];have:=hN.n;omega
  refine s_rI hl0 ?_
  obtain ⟨nm,hnm,hnl⟩:=hN.at (z / 13)
  refine Bk (SqL.of hN1.e) hnm ?_
  walk_at "r"
  refine Dv (SqL.of e1) ?_
  walk_at "r"
  refine Bv (fun c2=>?_) (fun c2=>?_)
  ·walk_at "r"
   refine ⟨z,nm,rfl,hnl,fun v t H2 s2 ht hg hz=>?_⟩
   exact q v t H2 (s1.trans s2) ht hg (by rw [hz];exact Zde _)
  have h1:1<=zs.length:=by
   have:¬ zs.length=0:=fun e=>c2 (by rw [Pe,e];rfl)
   omega
  walk_at "r"
  refine ⟨sz13,fun pw hpw=>?_⟩
  walk_at "r"
  obtain ⟨wd,ew,hw⟩:=Zn9 z
  refine Bk (SqL.of Ad) ew ?_
  have s2:=Same.upd (o:=.lst [V.str "plus",.str "minus",.str "less",.str "call",.str "call",.str "if",.str "fn",.str "fn",.str "rec",.str "let",.str "let",.str "if",.str "call"]) hpw
  revert s2
  generalize upd H1 pw (.lst [V.str "plus",.str "minus",.str "less",.str "call",.str "call",.str "if",.str "fn",.str "fn",.str "rec",.str "let",.str "let",.str "if",.str "call"])=H2
  intro s2
  walk_at "q"
  refine Fu (t:=Fm _ _ _) (R:=fun σ' H'=>Same H2 H'/\σ'=[some (.ref a),some (.ref b),some (.int z),some (.ref pc),some (.str nm),some (.ref pw),some (.str wd),some (.int 2),some (if wd = "fn" \/ wd = "let" then .str nm else .non)]) ?_ ?_
  ·intro Y hY
   walk_at "r"
   refine ⟨B6,fun p3 hp3=>?_⟩
   walk_at "r"
   refine I0 (.inr (SqT.of Ad)) rfl rfl ?_
   rw [if_neg (by decide),in2]
   walk_at "r"
   refine Bv (fun c3=>?_) (fun c3=>?_)
   ·walk_at "r"
    refine hY _ _ ⟨Same.upd hp3,?_⟩
    rw [if_pos (of_decide_eq_true c3)]
    rfl
   ·walk_at "r"
    refine hY _ _ ⟨Same.upd hp3,?_⟩
    rw [if_neg (fun e=>c3 (decide_eq_true e))]
    rfl
  rintro _ H3 ⟨s3,rfl⟩
  walk_at "q"
  refine Fu (t:=Fm _ _ _) (R:=fun σ' H'=>Same H3 H'/\∃ nv n,σ'=[some (.ref a),some (.ref b),some (.int z),some (.ref pc),some (.str nm),some (.ref pw),some (.str wd),some (.int 2),some nv]/\IsN K H' nv n/\Ec wd n) ?_ ?_
  ·intro Y hY
   walk_at "r"
   refine Bv (fun c3=>?_) (fun c3=>?_)
   ·have ewd:wd = "rec" := by simpa using c3
    walk_at "r"
    refine Dv (SqL.of (hN1.same (s2.trans s3)).e) ?_
    walk_at "r"
    refine s_rI hl0 ?_
    obtain ⟨nm2,hnm2,_⟩:=hN.at (z / 52)
    refine Bk (SqL.of (hN1.same (s2.trans s3)).e) hnm2 ?_
    walk_at "r"
    refine ⟨B6,fun p3 hp3=>?_⟩
    walk_at "r"
    exact hY _ _ ⟨Same.upd hp3,_,.tup [.flat (.str nm),.flat (.str nm2)],rfl,.inr ⟨p3,_,rfl,SqT.of Ad,rfl,rfl⟩,⟨fun h=>by rw [ewd] at h;exact absurd h (by decide +kernel),fun _=>⟨nm,nm2,rfl⟩⟩⟩
   ·have ewd:wd ≠ "rec" := fun e=>c3 (by simp [e])
    walk_at "r"
    by_cases hf:wd = "fn" \/ wd = "let"
    ·exact hY _ _ ⟨Same.refl _,_,.flat (.str nm),rfl,by rw [if_pos hf];exact .inl ⟨rfl,rfl⟩,⟨fun _=>⟨nm,rfl⟩,fun h=>absurd h ewd⟩⟩
    ·refine hY _ _ ⟨Same.refl _,_,.flat .non,rfl,by rw [if_neg hf];exact .inl ⟨rfl,rfl⟩,⟨fun h=>?_,fun h=>absurd h ewd⟩⟩
     rcases h with h | h | h
     ·exact absurd (.inl h) hf
     ·exact absurd (.inr h) hf
     ·rw [h] at hw;exact absurd hw (by decide +kernel)
  rintro _ H4 ⟨s4,nv,nd,rfl,hnv,hshp⟩
  walk_at "q"
  refine Fu (t:=Fm _ _ _) (R:=fun σ' H'=>Same H4 H'/\σ'=[some (.ref a),some (.ref b),some (.int z),some (.ref pc),some (.str nm),some (.ref pw),some (.str wd),some (.int (if wd = "fn" \/ wd = "rec" then 1 else 2)),some nv]) ?_ ?_
  ·intro Y hY
   walk_at "r"
   refine ⟨B6,fun p3 hp3=>?_⟩
   walk_at "r"
   refine I0 (.inr (SqT.of Ad)) rfl rfl ?_
   rw [if_neg (by decide),in2]
   walk_at "r"
   refine Bv (fun c3=>?_) (fun c3=>?_)
   ·walk_at "r"
    refine hY _ _ ⟨Same.upd hp3,?_⟩
    rw [if_pos (of_decide_eq_true c3)]
    rfl
   ·walk_at "r"
    refine hY _ _ ⟨Same.upd hp3,?_⟩
    rw [if_neg (fun e=>c3 (decide_eq_true e))]
  rintro _ H5 ⟨s5,rfl⟩
  obtain ⟨har,hWD,hav⟩:=Znl hw
  walk_at "q"
  refine Fu (t:=Fm _ _ _) (R:=fun σ' H'=>H'=H5/\σ'=[some (.ref a),some (.ref b),some (.int z),some (.ref pc),some (.str nm),some (.ref pw),some (.str wd),some (.int (C6 wd:Nat)),some nv]) ?_ ?_
  ·intro Y hY
   walk_at "r"
   refine Bv (fun c3=>?_) (fun c3=>?_)
   ·have ewd:wd = "if" := by simpa using c3
    walk_at "r"
    refine hY _ _ ⟨rfl,?_⟩
    rw [hav,if_pos ewd]
    rfl
   ·have ewd:wd ≠ "if" := fun e=>c3 (by simp [e])
    walk_at "r"
    refine hY _ _ ⟨rfl,?_⟩
    rw [hav,if_neg ewd]
    split <;> rfl
  rintro _ _ ⟨rfl,rfl⟩
  have sB:=((s1.trans s2).trans ((s3.trans s4).trans s5))
  have e5:=(s2.trans ((s3.trans s4).trans s5)) _ _ e1
  have hn5:=hnv.same s5.t
  have hN5:=hN.same sB
  walk_at "r"
  refine ⟨pc,zs,C6 wd,_,rfl,e5,by omega,har,fun L us mss H6 s6 eL al lm tm=>?_⟩
  have hN6:=hN5.same s6
  refine .inl ⟨L,rfl,⟨_,SqL.of eL⟩,fun D hD=>?_⟩
  have nD:L≠D:=Ax eL hD
  refine E4 (K:=K) (a:=L) (xs:=us) (Pv:=fun i ys σ' H'=>∃ v0 ts,σ'=[v0,some (.ref b)]/\Al (TrAt K H') ys ts/\ts.length=i/\(∀ t∈ts,GT t)/\Bu ts<=Gn (mss.take i)/\Same H6 H') ⟨none,[],rfl,.nil,rfl,(fun t h=>nomatch h),by rw [Bu];exact P6 _,Same.upd hD⟩ ?_ ?_ ?_
  ·rintro i ys σ' H' _ ⟨_,_,_,_,_,_,_,sm⟩
   exact SqL.of (sm _ _ eL)
  ·rintro i x ys σ' H' hx hys ⟨v0,ts,rfl,aly,ht,hpt,hsz,sm⟩
   obtain ⟨ms,hms,p,rfl,ep⟩:=al.get hx
   have hi:=(Pg.mp hms).1
   have hil:ms.length<=tot mss:=Zi4 (Qb hms)
   walk_at "r"
   refine ⟨p,b,ms,nt,rfl,sm _ _ ep,hN6.same sm,by omega,by omega,fun v t H7 s7 tv pt sz=>?_⟩
   have t6:SameT H' (upd H7 D (.lst (ys++[v]))):=s7.t.trans (SameT.set (s7 _ _ hys))
   refine ⟨ys,s7 _ _ hys,by rw [aly.1,ht];omega,_,Ad,_,ts++[t],rfl,(aly.mono fun _ _ a=>a.sameT t6).snoc (tv.sameT (SameT.set (s7 _ _ hys))),by simp [ht],?_,?_,(sm.trans s7).over hD⟩
   ·intro x hx
    rcases Pw.mp hx with hx | hx
    ·exact hpt x hx
    ·rw [P7.mp hx];exact pt
   ·rw [Lk,Bu,Bu,Qv,hms]
    show _<=Gn (mss.take i++[ms])
    rw [Zjb]
    omega
  ·rintro ys σ' H' hys ⟨v0,ts,rfl,aly,ht,hpt,hsz,sm⟩
   rw [al.1,Qz] at hsz
   have hb:=Zqu (n:=zs.length) (by rw [lm];exact har) h1 tm
   walk_at "r"
   refine M7 (SqL.of hys) fun pt hp1=>?_
   walk_at "r"
   refine ⟨B0,fun pr hp2=>?_⟩
   have s8:=Same.upd (o:=.tup ys) hp1
   have s9:=Same.upd (o:=.tup [.str wd,nv,.ref pt]) hp2
   have aly':=aly.mono fun _ _ a=>a.same (s8.trans s9)
   have sC:=(s6.trans sm).trans (s8.trans s9)
   refine q _ (.mk wd nd ts) _ (sB.trans sC) (.mk (SqT.of Ad) (hn5.same sC.t) (SqT.of (s9 _ _ Ad)) aly'.1 aly'.2) (F3 hshp hWD (by rw [ht,al.1,lm]) hpt) ?_
   rw [Tr.size,Pj]
   unfold Ei
   omega
theorem RowT.sameT {K:O9}{H H':Hp}(s:SameT H H')(v:V)(x:List Nat×Tr)(h:RowT K H v x):RowT K H' v x:=let ⟨c,p,u,h1,h2,h3,h4⟩:=h;⟨c,p,u,h1,s.tup h2,(s p).1 _ h3,h4.sameT s⟩
noncomputable def Zet (K:O9):Sp:=fun vs H Q _=>∃(v:V)(t:Tr),vs=[v]/\TrAt K H v t/\t.size<=40/\∀(p:Addr)(rows:List V)(H':Hp),Same H H'->H' p=some (.lst rows)->Al (RowT K H') rows (walk [] t)->Q (.ref p) H'
structure WlJ (K:O9)(H:Hp)(t:Tr)(pf pw:Addr)(H':Hp)(fv wv:List V)(dn st:List (List Nat×Tr)):Prop where
 ef:H' pf=some (.lst fv)
 ew:H' pw=some (.lst wv)
 af:Al (RowT K H') fv dn
 aw:Al (RowT K H') wv st
 eq:dn++Ez st=walk [] t
 sm:Same H H'
theorem sc_law_walk:Bp ["_law_tree_here", "_law_found", "_law_left", "_law_place", "_law_form", "_law_k", "_law_at"] ["_law_tree_here"] (Bh Jt):=by walk_at "sc"
theorem Zqr {f:Addr}{fd:FuncData}(F:Fun K "_law_walk" "_law_walk" Jt f fd)(T:Txt K mg):Bb P w K mg base Bc 1 f fd ["_law_tree_here"] (Zet K):=by
 refine F.okq sc_law_walk (fun vs H Q E h=>?_) (fun cdv A outer s H vs Q E hr h=>?_)
 ·obtain ⟨v,t,rfl,_⟩:=h
  rfl
 ·obtain ⟨v,t,rfl,ht,hz,q⟩:=h
  refine ⟨_,Af (Ar 1 sc_law_walk (Bf Ab))
   (Af (Ar 2 sc_law_walk (Bf (Aa (Ap (Aa (Ap Ab) (Aa (qv 0) Ab))) Ab)))
   (Af (Hk P4 (A6 Zbm (B1 (Cn K) (by rfl) T.len (by decide +kernel) (Aa (qv 2) Ab)) Ah (A7 _)) (Af (Hl (Jr K P8 Tg Th Jv (qv 2)) (Df K (n:=2) rfl (Bx (A1 (i:=3) sc_law_walk.nd rfl (Or.inl rfl)) (Bx (A1 (i:=4) sc_law_walk.nd rfl (Or.inl rfl)) (C9)))))
   (Af (Co (C4 K P8 Qn Qo Di (qv 1) (Aa (Ap (Aa (qv 3) (Aa (qv 4) Ab))) Ab)))
   (Aj (Cw P4 rfl (Gh rfl T.range (Aa (B1 (Cn K) (by rfl) T.len (by decide +kernel) (Aa (Ao K (qv 4) Ah) Ab)) Ab)) (A1 (i:=5) sc_law_walk.nd rfl (Or.inl rfl)) (Af (Ar 6 sc_law_walk (A0 Ou (A0 Ou (B1 (Cn K) (by rfl) T.len (by decide +kernel) (Aa (Ao K (qv 4) Ah) Ab)) Ah) (qv 5)))
   (Aj (Co (C4 K P8 Qn Qo Di (qv 2) (Aa (Ap (Aa (A0 (Nv K) (qv 3) (Ap (Aa (qv 6) Ab))) (Aa (Ao K (Ao K (qv 4) Ah) (qv 6)) Ab))) Ab))))))))))
   (Aj (Aw (qv 1))))),?_⟩
  have bg:=big
  walk_at "r"
  refine ⟨Bo,fun pf hpf=>?_⟩
  have f0:upd H pf (.lst []) pf=some (.lst []):=Ad
  have g0:=Same.upd (o:=.lst []) hpf
  walk_at "r"
  refine ⟨Bo,fun p0 h0=>?_⟩
  have g1:=Same.upd (o:=.tup []) h0
  have f1:upd (upd H pf (.lst [])) p0 (.tup []) p0=some (.tup []):=Ad
  walk_at "r"
  refine ⟨B6,fun c0 hc0=>?_⟩
  have g3:=Same.upd (o:=.tup [.ref p0,v]) hc0
  have f3:upd (upd (upd H pf (.lst [])) p0 (.tup [])) c0 (.tup [.ref p0,v]) c0=some (.tup [.ref p0,v]):=Ad
  walk_at "r"
  refine ⟨Cm,fun pw hpw=>?_⟩
  have g4:=Same.upd (o:=.lst [.ref c0]) hpw
  have f4:upd (upd (upd (upd H pf (.lst [])) p0 (.tup [])) c0 (.tup [.ref p0,v])) pw (.lst [.ref c0]) pw=some (.lst [.ref c0]):=Ad
  have nfw:pf≠pw:=Ax ((g1.trans g3) _ _ f0) hpw
  have sH:Same H _:=g0.trans (g1.trans (g3.trans g4))
  have hpw0:H pw=none:=(g0.trans (g1.trans g3)).free hpw
  have k0:=(g1.trans (g3.trans g4)) _ _ f0
  have k1:=(g3.trans g4) _ _ f1
  have k3:=g4 _ _ f3
  have k4:=f4
  revert sH k0 k1 k3 k4
  generalize upd (upd (upd (upd H pf (.lst [])) p0 (.tup [])) c0 (.tup [.ref p0,v])) pw (.lst [.ref c0])=H0
  intro sH k0 k1 k3 k4
  walk_at "r"
  refine ⟨fun m σ' H'=>∃ y3 y4 y5 y6 fv wv dn st,σ'=[some v,some (.ref pf),some (.ref pw),y3,y4,y5,y6]/\WlJ K H t pf pw H' fv wv dn st/\m=L2.load st,
   ⟨_,none,none,none,none,[],[.ref c0],[],[([],t)],rfl,⟨k0,k4,.nil,Al.nil.snoc ⟨c0,p0,v,rfl,SqT.of k3,k1,ht.same sH⟩,by simp [Ez],sH⟩,rfl⟩,?_⟩
  rintro m σ' H1 ⟨y3,y4,y5,y6,fv,wv,dn,st,rfl,J,rfl⟩
  have hdl:dn.length+L2.load st=t.size:=by
   have:=congrArg Rl J.eq
   rw [Pl,Ep] at this
   exact this
  have hfl:=J.af.1
  walk_at "r"
  refine Dv (SqL.of J.ew) ?_
  walk_at "r"
  by_cases hwv:wv=[]
  ·subst hwv
   have hst:st=[]:=Rb J.aw.1.symm
   subst hst
   refine iteF ?_
   walk_at "r"
   have eq:=J.eq
   rw [Zdf,Qc] at eq
   have af:=J.af
   rw [eq] at af
   exact q pf fv H1 J.sm J.ef af
  obtain ⟨wv',tp,st',x,rfl,rfl,aw',hen⟩:=J.aw.last hwv
  have hne:decide ((0:Int) < ((wv'++[tp]).length:Int))=true:=decide_eq_true (by rw [Pl,Qa];omega)
  rw [hne]
  refine iteT ?_
  obtain ⟨pl,tx⟩:=x
  have hx:(pl,tx)∈walk [] t:=by rw [<- J.eq,Iv];simp
  have hpl:pl.length<=40:=by have:=Hf [] t _ hx;simp at this;omega
  have hload:=Zd3 st' (pl,tx)
  have hll:=Zfy (st'++(L2.kids pl 0 tx.ps).reverse)
  refine ⟨fun σ2 H2=>∃ m',m' < L2.load (st'++[(pl,tx)])/\∃ y3 y4 y5 y6 fv wv dn st,σ2=[some v,some (.ref pf),some (.ref pw),y3,y4,y5,y6]/\WlJ K H t pf pw H2 fv wv dn st/\m'=L2.load st,fun _ _ h=>h,?_⟩
  obtain ⟨c,p,u,rfl,qc,qp,qu⟩:=hen
  walk_at "r"
  refine Ca (SqL.of J.ew) ?_
  refine Ki J.ew ?_
  have S1:SameT H1 (upd H1 pw (.lst wv')):=SameT.set J.ew
  have ew2:upd H1 pw (.lst wv') pw=some (.lst wv'):=Ad
  have ef2:upd H1 pw (.lst wv') pf=some (.lst fv):=by rw [Ai nfw];exact J.ef
  have sm2:Same H (upd H1 pw (.lst wv')):=J.sm.over hpw0
  revert S1 ew2 ef2 sm2
  generalize upd H1 pw (.lst wv')=H2
  intro S1 ew2 ef2 sm2
  refine Dj (S1.tup qc) rfl ?_
  walk_at "r"
  refine Ca (SqL.of ef2) ?_
  walk_at "r"
  refine ⟨B6,fun pc hpc=>?_⟩
  have s3:=Same.upd (o:=.tup [.ref p,u]) hpc
  have e3:upd H2 pc (.tup [.ref p,u]) pc=some (.tup [.ref p,u]):=Ad
  revert s3 e3
  generalize upd H2 pc (.tup [.ref p,u])=H3
  intro s3 e3
  walk_at "r"
  refine C8 (s3 _ _ ef2) (by omega) ?_
  have S4:SameT H2 (upd H3 pf (.lst (fv++[.ref pc]))):=s3.t.trans (SameT.set (s3 _ _ ef2))
  have ef4:upd H3 pf (.lst (fv++[.ref pc])) pf=some (.lst (fv++[.ref pc])):=Ad
  have ew4:upd H3 pf (.lst (fv++[.ref pc])) pw=some (.lst wv'):=by rw [Ai nfw.symm];exact s3 _ _ ew2
  have sm4:Same H (upd H3 pf (.lst (fv++[.ref pc]))):=(sm2.trans s3).over hpf
  have e4:upd H3 pf (.lst (fv++[.ref pc])) pc=some (.tup [.ref p,u]):=((SameT.set (s3 _ _ ef2)) pc).1 _ e3
  revert S4 ef4 ew4 sm4 e4
  generalize upd H3 pf (.lst (fv++[.ref pc]))=H4
  intro S4 ef4 ew4 sm4 e4
  have S14:=S1.trans S4
  have af4:Al (RowT K H4) (fv++[.ref pc]) (dn++[(pl,tx)]):=(J.af.mono (RowT.sameT S14)).snoc ⟨pc,p,u,rfl,SqT.of e4,(S14 p).1 _ qp,qu.sameT S14⟩
  have aw4:=aw'.mono (RowT.sameT S14)
  have qp4:=(S14 p).1 _ qp
  have qu4:=qu.sameT S14
  cases qu4 with
  | @mk va pp wd nv nt us ts qv hn qpp hul hch =>
  have hkl:(L2.kids pl 0 ts).length=us.length:=by rw [Md];omega
  have hll':(st'++(L2.kids pl 0 ts).reverse).length<=2000:=by
   have h1:L2.load (st'++(L2.kids pl 0 (Tr.mk wd nt ts).ps).reverse) < L2.load (st'++[(pl,Tr.mk wd nt ts)]):=hload
   have h2:(st'++(L2.kids pl 0 (Tr.mk wd nt ts).ps).reverse).length<=L2.load (st'++(L2.kids pl 0 (Tr.mk wd nt ts).ps).reverse):=hll
   have h3:(Tr.mk wd nt ts).ps=ts:=rfl
   rw [h3] at h1 h2
   omega
  rw [Pl,Tk,hkl] at hll'
  walk_at "r"
  refine Az qv (v:=.ref pp) rfl ?_
  walk_at "r"
  refine Fs qpp ?_
  walk_at "r"
  refine ⟨by omega,by omega,?_⟩
  refine Jk (n:=((us.length:Nat):Int).toNat) (fun j σ' H'=>∃ y5 y6 wv5,σ'=[some v,some (.ref pf),some (.ref pw),some (.ref p),some (.ref va),y5,y6]/\H' pf=some (.lst (fv++[.ref pc]))/\H' pw=some (.lst wv5)/\Al (RowT K H') wv5 (st'++((L2.kids pl 0 ts).drop (us.length - j)).reverse)/\SameT H4 H'/\Same H H')
   ⟨_,_,wv',rfl,ef4,ew4,by rw [Vf,Sd (by omega)];simpa using aw4,(Same.refl _).t,sm4⟩ ?_ ?_
  ·rintro i σ' H5 hi ⟨y5,y6,wv5,rfl,ef5,ew5,aw5,S5,sm5⟩
   have hi:i < us.length:=by rw [Rq] at hi;exact hi
   walk_at "r"
   refine Az (S5.tup qv) (v:=.ref pp) rfl ?_
   walk_at "r"
   refine Fs (S5.tup qpp) ?_
   iterate 4 walk_at "r1"
   have ea:((us.length:Nat):Int) - 1 - (0+((i:Nat):Int))=((us.length - 1 - i:Nat):Int):=by omega
   rw [ea]
   walk_at "r"
   refine Ca (SqL.of ew5) ?_
   walk_at "r"
   refine ⟨Cm,fun p8 h8=>?_⟩
   have s8:=Same.upd (o:=.tup [.int ((us.length - 1 - i:Nat):Int)]) h8
   refine .inr ⟨p,p8,_,_,rfl,rfl,s8 _ _ ((S5 p).1 _ qp4),Ad,by show (Ba pl).length+1<=sizeLine;unfold Ba;rw [Pe];omega,fun pa H9 s9 epa=>?_⟩
   have s79:=s8.trans s9
   rw [<- Zch] at epa
   walk_at "r"
   refine Az (s79.tup (S5.tup qv)) (v:=.ref pp) rfl ?_
   walk_at "r"
   obtain ⟨uj,huj⟩:∃ uj,us[us.length - 1 - i]?=some uj:=⟨_,Pb (by omega)⟩
   obtain ⟨tj,htj⟩:∃ tj,ts[us.length - 1 - i]?=some tj:=⟨_,Pb (by omega)⟩
   refine Az (s79.tup (S5.tup qpp)) (v:=uj) (Cy huj) ?_
   walk_at "r"
   refine ⟨B6,fun pA hA=>?_⟩
   have sA:=Same.upd (o:=.tup [.ref pa,uj]) hA
   have s5A:=s79.trans sA
   have hlw:wv5.length=st'.length+((L2.kids pl 0 ts).drop (us.length - i)).length:=by have:=aw5.1;simp at this ⊢;omega
   have hdr:((L2.kids pl 0 ts).drop (us.length - i)).length<=us.length:=by rw [Tt];omega
   walk_at "r"
   refine C8 (s5A _ _ ew5) (by omega) ?_
   have SL:SameT (upd H9 pA (.tup [.ref pa,uj])) (upd (upd H9 pA (.tup [.ref pa,uj])) pw (.lst (wv5++[.ref pA]))):=SameT.set (s5A _ _ ew5)
   have SB:=s5A.t.trans SL
   have hkid:(L2.kids pl 0 ts)[us.length - 1 - i]?=some (pl++[us.length - 1 - i],tj):=by
    rw [Zad,htj]
    simp
   walk_at "r"
   refine ⟨_,_,wv5++[.ref pA],rfl,by rw [Ai nfw];exact s5A _ _ ef5,Ad,?_,S5.trans SB,(sm5.trans s5A).over hpw0⟩
   rw [Zcd hkl hi hkid,<- Qi]
   refine (aw5.mono (RowT.sameT SB)).snoc (RowT.sameT SL _ _ ⟨pA,pa,uj,rfl,SqT.of Ad,sA _ _ epa,?_⟩)
   exact ((hch _ _ _ huj htj).sameT S5).same s5A
  ·rintro σ' H5 ⟨y5,y6,wv5,rfl,ef5,ew5,aw5,S5,sm5⟩
   rw [Rq,R6,T7] at aw5
   refine ⟨_,hload,_,_,_,_,fv++[.ref pc],wv5,dn++[(pl,.mk wd nt ts)],_,rfl,⟨ef5,ew5,af4.mono (RowT.sameT S5),aw5,?_,sm5⟩,rfl⟩
   rw [<- J.eq,Iv,Qi]
   rfl
noncomputable def mB (r:Rw):Bool:=decide (r.2.2.2 ≠ "")
theorem Zk8 {ds:List Rw}{i:Nat}{r:Rw}(h:ds[i]?=some r):(ds.take (i+1)).filter mB=(ds.take i).filter mB++if mB r=true then [r] else []:=by
 rw [Qv,h,Tq]
 cases e:mB r with
 | true=>rw [if_pos rfl];show _++Ud mB [r]=_;rw [Vl e];rfl
 | false=>rw [if_neg (by decide)];show _++Ud mB [r]=_;rw [Tf (by rw [e];decide)];rfl
theorem Zma (ds:List Rw)(i:Nat):((ds.take i).filter mB).length<=i:=P5 (Rn _ _) (by rw [Pt];omega)
theorem Zib (t:Tr)(pl:List Nat)(f:Tr)(fb:Bool):B4 t pl f fb∈(["", "unlike", "odd", "free"]:List Str):=by
 cases f with
 | mk w n ps =>
 show (if fb=false then "unlike" else if w = "odd" then "odd" else if w = "name" /\ B3 (D5 n) 0 (Br t pl)=none then "free" else "" : Str)∈(["", "unlike", "odd", "free"]:List Str)
 by_cases h1:fb=false
 ·rw [if_pos h1];simp
 ·rw [if_neg h1]
  by_cases h2:w = "odd"
  ·rw [if_pos h2];simp
  ·rw [if_neg h2]
   by_cases h3:w = "name" /\ B3 (D5 n) 0 (Br t pl)=none
   ·rw [if_pos h3];simp
   ·rw [if_neg h3];simp
theorem Zmi {t:Tr}{ks:List Kd}{fs:List Bool}{i:Nat}{r:Rw}(h:(Ck t ks fs)[i]?=some r):(r.2.2.2 = "" /\ mB r=false)\/(mB r=true/\(r.2.2.2 = "unlike" \/ r.2.2.2 = "odd" \/ r.2.2.2 = "free")):=by
 unfold Ck at h
 rw [R0] at h
 obtain ⟨x,hx,rfl⟩:=Vn.mp h
 have m:=Zib t x.1 x.2 (fs.getD i false)
 unfold mB
 show (B4 t x.1 x.2 (fs.getD i false) = "" /\ decide (B4 t x.1 x.2 (fs.getD i false) ≠ "")=false)\/(decide (B4 t x.1 x.2 (fs.getD i false) ≠ "")=true/\(B4 t x.1 x.2 (fs.getD i false) = "unlike" \/ B4 t x.1 x.2 (fs.getD i false) = "odd" \/ B4 t x.1 x.2 (fs.getD i false) = "free"))
 generalize B4 t x.1 x.2 (fs.getD i false)=z at m
 simp only [Ph,P3,or_false] at m
 rcases m with rfl | rfl | rfl | rfl
 ·exact .inl ⟨rfl,by decide⟩
 ·exact .inr ⟨by decide,.inl rfl⟩
 ·exact .inr ⟨by decide,.inr (.inl rfl)⟩
 ·exact .inr ⟨by decide,.inr (.inr rfl)⟩
noncomputable def MkAt (K:O9)(H:Hp)(v:V)(r:Rw):Prop:=∃(e p:Addr),v=.ref e/\SqT K H e [.ref p,.str r.2.2.2]/\SqT K H p (Ba r.1)
theorem MkAt.same {H H':Hp}(e:SameT H H')(v:V)(r:Rw)(h:MkAt K H v r):MkAt K H' v r:=let ⟨c,p,h1,h2,h3⟩:=h;⟨c,p,h1,e.tup h2,e.tup h3⟩
noncomputable def Zfx (K:O9):Sp:=fun vs H Q _=>∃(v:V)(t:Tr)(ks:List Kd)(fs:List Bool),vs=[v]/\TrAt K H v t/\Dh t/\t.size<=40/\Fe t ks fs/\∀(p:Addr)(rows:List V)(H':Hp),Same H H'->H p=none->H' p=some (.lst rows)->Al (MkAt K H') rows ((Ck t ks fs).filter mB)->Q (.ref p) H'
theorem K5:(["place", "given", "asked", "mark"]:List Str).Nodup:=by decide +kernel
theorem Zlz:Bp ["tree"] ["tree"] (Bh Jd):=by walk_at "sc"
theorem Zg5 {f:Addr}{fd:FuncData}(F:Fun K "marks" "marks" Jd f fd)(T:Txt K mg)(C_looks:Be P w K mg base 8 "looks" ["tree"] (Zc8 K)):Bb P w K mg base Bc 9 f fd ["tree"] (Zfx K):=by
 refine F.okq Zlz (fun vs H Q E h=>?_) (fun cdv A outer s H vs Q E hr h=>?_)
 ·obtain ⟨v,t,ks,fs,rfl,_⟩:=h
  rfl
 ·obtain ⟨v,t,ks,fs,rfl,ht,hts,hsz,hlk,q⟩:=h
  refine ⟨_,Aj (Aw (Ey (N:=["place", "given", "asked", "mark"]) (σ0:=Cq 4 []) rfl (Dl rfl (by decide +kernel) (by decide +kernel) (by decide +kernel)) (Cp K (A5 C_looks hr.m (Aa (qv 0) Ab))) (Dq rfl (by rfl)) (fun _ _ _ _=>Df K (n:=4) rfl (Bx (A1 (i:=0) K5 rfl (Or.inl rfl)) (Bx (A1 (i:=1) K5 rfl (Or.inl rfl)) (Bx (A1 (i:=2) K5 rfl (Or.inl rfl)) (Bx (A1 (i:=3) K5 rfl (Or.inl rfl)) (C9)))))) (fun _ _ _ _=>Kb (F9 K (qv 3) (by intro _;rfl))) (fun _ _ _ _=>Ap (Aa (qv 0) (Aa (qv 3) Ab))))),?_⟩
  have bg:=big
  walk_at "r"
  refine ⟨v,t,ks,fs,rfl,ht,hts,hsz,hlk,fun pL rows H1 s1 _ er al=>?_⟩
  have hdl:(Ck t ks fs).length=t.size:=by unfold Ck;rw [Vz];exact Ep _ _
  refine .inl ⟨pL,rfl,⟨_,SqL.of er⟩,fun D hD=>?_⟩
  have nD:pL≠D:=Ax er hD
  refine E4 (K:=K) (a:=pL) (xs:=rows) (Pv:=fun i ys σ' H'=>∃ x0 x1 x2 x3,σ'=[x0,x1,x2,x3]/\Al (MkAt K H') ys (((Ck t ks fs).take i).filter mB)/\Same H1 H') ⟨none,none,none,none,rfl,.nil,Same.upd hD⟩ ?_ ?_ ?_
  ·rintro i ys σ' H' _ ⟨_,_,_,_,_,_,sm⟩
   exact SqL.of (sm _ _ er)
  ·rintro i x ys σ' H' hx hys ⟨x0,x1,x2,x3,rfl,aly,sm⟩
   have hi:=(Pg.mp hx).1
   obtain ⟨r,hr0,e,p,g,a,rfl,qe,qp,_,_⟩:=al.get hx
   have hfl:=Zma (Ck t ks fs) i
   have hln:i < t.size:=by rw [<- hdl,<- al.1];exact hi
   have fs':=Zk8 hr0
   have hit:mB r=true->∀ z:Str,r.2.2.2=z->∀ p2,H' p2=none->∃ y,upd H' p2 (.tup [.ref p,.str z]) D=some (.lst y)/\y.length < sizeLine/\∃ zs,upd (upd H' p2 (.tup [.ref p,.str z])) D (.lst (y++[.ref p2])) D=some (.lst zs)/\Al (MkAt K (upd (upd H' p2 (.tup [.ref p,.str z])) D (.lst (y++[.ref p2])))) zs (((Ck t ks fs).take (i+1)).filter mB)/\Same H1 (upd (upd H' p2 (.tup [.ref p,.str z])) D (.lst (y++[.ref p2]))):=fun h2 z h1 p2 h3=>by
    rw [h2,if_pos rfl] at fs'
    have s2:=Same.upd (o:=.tup [.ref p,.str z]) h3
    have t6:=s2.t.trans (SameT.set (o:=.lst (ys++[.ref p2])) (s2 _ _ hys))
    refine ⟨ys,s2 _ _ hys,by rw [aly.1];omega,_,Ad,?_,(sm.trans s2).over hD⟩
    rw [fs']
    exact (aly.mono (MkAt.same t6)).snoc ⟨p2,p,rfl,(SameT.set (s2 _ _ hys)).tup (by rw [h1];exact SqT.of Ad),t6.tup (SqT.of (sm _ _ qp))⟩
   walk_at "r"
   refine Dj (sm.tup qe) rfl ?_
   walk_at "r"
   rcases Zmi hr0 with ⟨h1,h2⟩ | ⟨h2,h1 | h1 | h1⟩
   ·rw [h1]
    refine ⟨false,⟨by decide,by decide⟩,?_⟩
    rw [h2,if_neg (by decide),Qc] at fs'
    refine iteF ?_
    exact ⟨ys,hys,_,_,_,_,rfl,by rw [fs'];exact aly,sm⟩
   all_goals
    rw [h1]
    refine ⟨true,⟨by decide,by decide⟩,?_⟩
    refine iteT ?_
    walk_at "r"
    refine ⟨B6,fun p2 h3=>?_⟩
    obtain ⟨y,k1,k2,zs,k3,k4,k5⟩:=hit h2 _ h1 p2 h3
    exact ⟨y,k1,k2,zs,k3,_,_,_,_,rfl,k4,k5⟩
  ·rintro ys σ' H' hys ⟨x0,x1,x2,x3,rfl,aly,sm⟩
   rw [al.1,Qz] at aly
   exact q D ys H' (s1.trans sm) (s1.free hD) hys aly
end
theorem Zlm {S:Ae}(X:Ae){n i r:Nat}(h:LastN S n i r):LastN (S++X) n i r:=by
 induction h with
 | root h hs=>exact .root (by rw [Qe (Pg.mp h).1];exact h) hs
 | step h _ ih=>exact .step (by rw [Qe (Pg.mp h).1];exact h) ih
theorem Dd {S:Ae}(X:Ae){i r:Nat}(h:Last S i r):Last (S++X) i r:=let ⟨n,h⟩:=h;⟨n,Zlm X h⟩
theorem Fd {S:Ae}(X:Ae){i:Nat}{s:Sh}(h:S[i]?=some s):(S++X)[i]?=some s:=by
 rw [Qe (Pg.mp h).1];exact h
theorem Zbg {S:Ae}(X:Ae){ps:Ps}{xs w:List Nat}{o:Option (List Nat)}(h:Dk S ps xs w o):Dk (S++X) ps xs w o:=by
 induction h with
 | nil=>exact .nil
 | hit h h2=>exact .hit (Dd X h) h2
 | go h h2 _ ih=>exact .go (Dd X h) h2 ih
theorem Zf0 {S:Ae}(X:Ae){n:Nat}{ps:Ps}{w:List Nat}{b:Bool}(h:HoldsN S n ps w b):HoldsN (S++X) n ps w b:=by
 induction h with
 | nil=>exact .nil
 | seen h _ ih=>exact .seen h ih
 | hit h hs hp=>exact .hit h (Fd X hs) (Zbg X hp)
 | go h hs hp _ ih=>exact .go h (Fd X hs) (Zbg X hp) ih
theorem Oo {S:Ae}(X:Ae){i:Nat}{s s':Sh}(h:S[i]?=some s):(S++X).set i s'=S.set i s'++X:=List.set_append_left _ _ (Pg.mp h).1
theorem Oz (X:Ae){n:Nat}{S:Ae}{w:List (Nat×Nat)}{o:Option Ae}(h:JoinN n S w o):JoinN n (S++X) w (o.map (·++X)):=by
 induction h with
 | nil=>exact .nil
 | eq h1 h2 _ ih=>exact .eq (Dd X h1) (Dd X h2) ih
 | anyR h1 h2 ne hr _ ih=>exact .anyR (Dd X h1) (Dd X h2) ne (Fd X hr) (by rw [Oo X hr];exact ih)
 | anyL h1 h2 ne hr hn hl _ ih=>exact .anyL (Dd X h1) (Dd X h2) ne (Fd X hr) hn (Fd X hl) (by rw [Oo X hl];exact ih)
 | to h1 h2 ne hl hr _ ih=>exact .to (Dd X h1) (Dd X h2) ne (Fd X hl) (Fd X hr) (by rw [Oo X hl];exact ih)
 | clash h1 h2 ne hl hr nl nr nt=>exact .clash (Dd X h1) (Dd X h2) ne (Fd X hl) (Fd X hr) nl nr nt
theorem Zhp (X:Ae){ps:List (Nat×Nat)}{S S':Ae}{fs:List Bool}(h:FitG ps S fs S'):FitG ps (S++X) fs (S'++X):=by
 induction h with
 | nil=>exact .nil
 | ok j hn l h hk _ ih=>exact .ok (Oz X j) hn (Dd X l) (Zf0 X h) hk ih
 | clash j hn _ ih=>exact .clash (Oz X j) hn ih
 | loop j hn l h hk _ ih=>exact .loop (Oz X j) hn (Dd X l) (Zf0 X h) hk ih
theorem Zj5 {ps ps2:List (Nat×Nat)}{m m1 m':Ae}{fs fs2:List Bool}(h:FitG ps m fs m1)(h2:FitG ps2 m1 fs2 m'):FitG (ps++ps2) m (fs++fs2) m':=by
 induction h with
 | nil=>exact h2
 | ok j hn l h hk _ ih=>exact .ok j hn l h hk (ih h2)
 | clash j hn _ ih=>exact .clash j hn (ih h2)
 | loop j hn l h hk _ ih=>exact .loop j hn l h hk (ih h2)
theorem Zjg {ps:List (Nat×Nat)}{m m':Ae}{fs:List Bool}(h:FitG ps m fs m'):fs.length=ps.length:=by
 induction h with
 | nil=>rfl
 | ok _ _ _ _ _ _ ih=>rw [Pj,Pj,ih]
 | clash _ _ _ ih=>rw [Pj,Pj,ih]
 | loop _ _ _ _ _ _ ih=>rw [Pj,Pj,ih]
noncomputable def hd (x:List Nat×Tr):List Nat×Str×Dt:=match x.2 with
 | .mk w n _=>(x.1,w,n)
theorem Zhc {rs rs':List (List Nat×Tr)}{sh sh':Ae}{D:Dn}{A:An}{ps:List (Nat×Nat)}(h:KinG rs sh D A ps sh'):rs.map hd=rs'.map hd->KinG rs' sh D A ps sh':=by
 induction h generalizing rs' with
 | nil =>
  intro e
  cases rs' with
  | nil=>exact .nil
  | cons x r=>cases e
 | @cons pl w n ts rs sh sh' D A e ps hA hsh k ih =>
  intro ee
  cases rs' with
  | nil=>cases ee
  | cons x r =>
   obtain ⟨p,t⟩:=x
   cases t with
   | mk w' n' ts' =>
   rw [Qg,Qg] at ee
   injection ee with e1 e2
   have e1:(pl,w,n)=(p,w',n'):=e1
   cases e1
   exact .cons hA hsh (ih e2)
theorem Znz {rs:List (List Nat×Tr)}{sh sh' sh2:Ae}{D:Dn}{A:An}{ps ps2:List (Nat×Nat)}(h:KinG rs sh D A ps sh'):KinG rs sh D A ps2 sh2->ps=ps2/\sh'=sh2:=by
 induction h generalizing ps2 sh2 with
 | nil=>intro h2;cases h2;exact ⟨rfl,rfl⟩
 | @cons pl w n ts rs sh sh' D A e ps hA hsh k ih =>
  intro h2
  cases h2 with
  | @cons _ _ _ _ _ _ _ _ _ e' ps' hA' hsh' k' =>
   rw [hA] at hA'
   cases hA'
   obtain ⟨e1,e2⟩:=ih k'
   rw [e1,e2]
   exact ⟨rfl,rfl⟩
theorem Zp3 {rs:List (List Nat×Tr)}{sh sh':Ae}{D:Dn}{A:An}{ps:List (Nat×Nat)}(h:KinG rs sh D A ps sh'):∃ X,sh'=sh++X:=by
 induction h with
 | nil=>exact ⟨[],by simp⟩
 | cons _ _ _ ih=>obtain ⟨X,hX⟩:=ih;exact ⟨_,by rw [hX,Qi]⟩
theorem Zf6 {rs1 rs2:List (List Nat×Tr)}:∀{sh sh':Ae}{D:Dn}{A:An}{ps:List (Nat×Nat)},KinG (rs1++rs2) sh D A ps sh'->∃ ps1 ps2 S X,ps=ps1++ps2/\KinG rs1 sh D A ps1 S/\sh'=S++X:=by
 induction rs1 with
 | nil =>
  intro sh sh' D A ps h
  obtain ⟨X,hX⟩:=Zp3 h
  exact ⟨[],ps,sh,X,rfl,.nil,hX⟩
 | cons x r ih =>
  intro sh sh' D A ps h
  cases h with
  | cons hA hsh k =>
   obtain ⟨ps1,ps2,S,X,e1,e2,e3⟩:=ih k
   subst e1
   exact ⟨_::ps1,ps2,S,X,rfl,.cons hA hsh e2,e3⟩
theorem Zbi:∀(q:List Nat)(k:Nat),(fun _:List Nat=>(none:Option Nat)) q=some k->k < 2:=fun q k h=>by cases h
theorem Zc9:∀(q:List Nat)(e:Ev)(s:Str)(k:Nat),(if q=[] then some (fun _:Str=>(none:Option Nat)) else none)=some e->e s=some k->k < 2:=fun q e s k h h'=>by
 by_cases z:q=[]
 ·rw [if_pos z] at h;cases h;cases h'
 ·rw [if_neg z] at h;cases h
theorem Zfe {t:Tr}{ps1 ps2:List (Nat×Nat)}{S X S1:Ae}{fs1:List Bool}(hs:t.size<=40)(hk:KinG (walk [] t) [.num,.truth] (fun _=>none) (fun q=>if q=[] then some (fun _=>none) else none) (ps1++ps2) (S++X))(hf1:FitG ps1 S fs1 S1)(t1:B9 S1)(b1:Bd S1)(l1:S1.length=S.length):∃ ks fs2,Fe t ks (fs1++fs2):=by
 obtain ⟨i1,i2,i3,i4⟩:=Nn hk Zaw (Pc _) Zbi Zc9
 rw [Ep] at i3
 have i3:(S++X).length<=2+3 * t.size:=i3
 have lX:(S1++X).length=(S++X).length:=by rw [Pl,Pl,l1]
 have gX:∀ i,S.length<=i->(S1++X)[i]?=(S++X)[i]?:=fun i hi=>by
  rw [Qm (by omega),Qm hi,l1]
 have tX:B9 (S1++X):=fun i hi=>by
  by_cases h:i < S1.length
  ·obtain ⟨r,hr⟩:=t1 i h
   exact ⟨r,Dd X hr⟩
  ·have e:=gX i (by omega)
   rw [lX] at hi
   rw [Pb hi] at e
   exact ⟨i,Dr e (i1.ns i _ (Pb hi))⟩
 have bX:Bd (S1++X):=fun i s h p hp=>by
  by_cases hi:i < S1.length
  ·rw [Qe hi] at h
   have:=b1 i s h p hp
   rw [Pl]
   omega
  ·rw [gX i (by omega)] at h
   have:=i1.bd i s h p hp
   omega
 obtain ⟨fs2,sh2,hf2,t2,b2,l2⟩:=Ix ps2 (S1++X) (by omega) tX bX (fun p hp=>by rw [lX];exact i4 p (Qs _ hp))
 have hf:=Zj5 (Zhp X hf1) hf2
 have a2:=Zm2 hf i1.tot i1.bd i1.acy
 have hpl:(ps1++ps2).length=t.size:=by rw [hk.len,Ep]
 obtain ⟨N,td',n1,n2⟩:=Zp2 t2 b2 a2 _ (flat (ps1++ps2)).reverse rfl (fun x hx=>by
  obtain ⟨p,h1,h2⟩:=Zbn (ps1++ps2) x (by simpa using hx)
  have:=i4 p h1
  rw [l2,lX]
  rcases h2 with rfl | rfl <;> omega) (fun _=>none) 0
 have ul:=O3 sh2.length (Db fun _=>none)
 rw [Tk,Ko] at n1
 obtain ⟨ks,k1,k2⟩:=pick (R:=fun x k=>∃ r,Last sh2 x r/\td' r=some k) (flat (ps1++ps2)) fun x hx=>by
  obtain ⟨r,k,h1,h2⟩:=(Zik n2).2 x (by simpa using hx)
  exact ⟨k,r,h1,h2⟩
 exact ⟨ks,fs2,_,_,sh2,N,td',hk,hf,n2,by omega,k1,k2⟩
theorem Zpn {t t':Tr}(h:AT t)(h':AT t')(hs:t.size<=40)(hs':t'.size<=40){A A' B B':List (List Nat×Tr)}(e:walk [] t=A++B)(e':walk [] t'=A'++B')(eh:A.map hd=A'.map hd):∃ ks ks' fs1 fs2 fs2',fs1.length=A.length/\Fe t ks (fs1++fs2)/\Fe t' ks' (fs1++fs2'):=by
 obtain ⟨ps,sh,hk⟩:=Zen h
 obtain ⟨ps',sh',hk'⟩:=Zen h'
 have g:=hk
 have g':=hk'
 rw [e] at g
 rw [e'] at g'
 obtain ⟨ps1,ps2,S,X,rfl,g1,rfl⟩:=Zf6 g
 obtain ⟨ps1',ps2',S',X',rfl,g1',rfl⟩:=Zf6 g'
 obtain ⟨rfl,rfl⟩:=Znz (Zhc g1 eh) g1'
 obtain ⟨i1,i2,i3,i4⟩:=Nn g1 Zaw (Pc _) Zbi Zc9
 have hl:A.length<=t.size:=by
  have:=Ep [] t
  rw [e,Pl] at this
  omega
 have i3:S.length<=2+3 * A.length:=i3
 obtain ⟨fs1,S1,hf1,t1,b1,l1⟩:=Ix ps1 S (by omega) i1.tot i1.bd i4
 obtain ⟨ks,fs2,r⟩:=Zfe hs hk hf1 t1 b1 l1
 obtain ⟨ks',fs2',r'⟩:=Zfe hs' hk' hf1 t1 b1 l1
 exact ⟨ks,ks',fs1,fs2,fs2',by rw [Zjg hf1,g1.len],r,r'⟩
inductive Has:Tr->List Nat->Tr->Prop where
 | nil (t:Tr):Has t [] t
 | cons {w:Str} {n:Dt} {ts:List Tr} {j:Nat} {t s:Tr} {r:List Nat} (h:ts[j]?=some t) (k:Has t r s):Has (.mk w n ts) (j::r) s
theorem Has.sub {t s:Tr}{g:List Nat}(h:Has t g s):Sub t g:=by
 induction h with
 | nil t=>exact .nil t
 | cons h _ ih=>exact .cons h ih
mutual
theorem Zai:∀(t:Tr)(pl:List Nat)(x:List Nat×Tr),x∈walk pl t->∃ q,x.1=pl++q/\Has t q x.2
 | .mk w n ts,pl,x,hx=>by
  rw [walk] at hx
  rcases Ph.mp hx with rfl | hx
  ·exact ⟨[],by simp,.nil _⟩
  ·obtain ⟨j,t,q,h1,h2,h3⟩:=Ji ts pl 0 x hx
   exact ⟨j::q,by rw [h2,Rk],.cons h1 h3⟩
theorem Ji:∀(ts:List Tr)(pl:List Nat)(i:Nat)(x:List Nat×Tr),x∈A4 pl i ts->∃ j t q,ts[j]?=some t/\x.1=pl++(i+j)::q/\Has t q x.2
 | [],pl,i,x,hx=>by rw [A4] at hx;cases hx
 | t::ts,pl,i,x,hx=>by
  rw [A4] at hx
  rcases Pw.mp hx with hx | hx
  ·obtain ⟨q,h1,h2⟩:=Zai t (pl++[i]) x hx
   exact ⟨0,t,q,rfl,by rw [h1];simp,h2⟩
  ·obtain ⟨j,u,q,h1,h2,h3⟩:=Ji ts pl (i+1) x hx
   exact ⟨j+1,u,q,by simpa using h1,by rw [h2];simp;omega,h3⟩
end
noncomputable abbrev A9 (pl:List Nat):List Int:=pl.map fun i=>((i:Nat):Int)
theorem Zpc {i j:Nat}(q r:List Nat)(h:i < j):HT.lexLt (A9 (i::q)) (A9 (j::r))=true:=by
 show HT.lexLt ((i:Int)::A9 q) ((j:Int)::A9 r)=true
 rw [HT.lexLt_cons,if_neg (by omega),decide_eq_true (by omega)]
theorem Zqy {i j:Nat}(q r:List Nat)(h:j < i):HT.lexLt (A9 (i::q)) (A9 (j::r))=false:=by
 show HT.lexLt ((i:Int)::A9 q) ((j:Int)::A9 r)=false
 rw [HT.lexLt_cons,if_neg (by omega),decide_eq_false (by omega)]
theorem Zaa (j:Nat)(q r:List Nat):HT.lexLt (A9 (j::q)) (A9 (j::r))=HT.lexLt (A9 q) (A9 r):=by
 show HT.lexLt ((j:Int)::A9 q) ((j:Int)::A9 r)=_
 rw [HT.lexLt_cons,if_pos rfl]
theorem Zdg:∀(g q:List Nat),HT.lexLt (A9 (g++q)) (A9 g)=false
 | [],[]=>rfl
 | [],_::_=>rfl
 | j::g,q=>by rw [Rh,Zaa];exact Zdg g q
theorem Zbq {i j:Nat}{q r:List Nat}(h:i≠j):¬ (j::r) <+: (i::q):=fun ⟨s,hs⟩=>by
 injection hs with h1 _
 exact h h1.symm
theorem Zga {j:Nat}{q r:List Nat}(h:¬ r <+: q):¬ (j::r) <+: (j::q):=fun ⟨s,hs⟩=>by
 injection hs with _ h2
 exact h ⟨s,h2⟩
theorem Nw (pl:List Nat):∀(as bs:List Tr)(i:Nat),A4 pl i (as++bs)=A4 pl i as++A4 pl (i+as.length) bs
 | [],bs,i=>by rw [A4];rfl
 | a::as,bs,i=>by
  rw [Rh,A4,A4,Nw pl as bs (i+1),Qi,Pj]
  congr 3
  omega
theorem He {α:Type}{ts:List α}{j:Nat}{t:α}(h:ts[j]?=some t):∃ as bs,ts=as++t::bs/\as.length=j:=by
 obtain ⟨hj,e⟩:=Pg.mp h
 refine ⟨ts.take j,ts.drop (j+1),?_,by rw [Pt];omega⟩
 rw [<- e,<- Rc hj,List.take_append_drop]
theorem Zqz {t s:Tr}{g:List Nat}(h:Has t g s)(f:Tr):∀ pl,∃ A A' B,walk pl t=A++(walk (pl++g) s++B)/\walk pl (B8 t g f)=A'++(walk (pl++g) f++B)/\A.map hd=A'.map hd /\
  (∀ x∈A,∃ q,x.1=pl++q/\HT.lexLt (A9 q) (A9 g)=true/\¬ g <+: q)/\∀ x∈B,∃ q,x.1=pl++q/\HT.lexLt (A9 q) (A9 g)=false/\¬ g <+: q:=by
 induction h with
 | nil t=>exact fun pl=>⟨[],[],[],by simp,by rw [Ke];simp,rfl,(fun x h=>nomatch h),fun x h=>nomatch h⟩
 | @cons w n ts j t s r h k ih =>
  intro pl
  obtain ⟨A,A',B,e1,e2,e3,e4,e5⟩:=ih (pl++[j])
  rw [Gw h]
  obtain ⟨as,bs,rfl,rfl⟩:=He h
  have es:(as++t::bs).set as.length (B8 t r f)=as++B8 t r f::bs:=by simp
  have ep:pl++as.length::r=(pl++[as.length])++r:=by simp
  refine ⟨(pl,.mk w n (as++t::bs))::(A4 pl 0 as++A),(pl,.mk w n ((as++t::bs).set as.length (B8 t r f)))::(A4 pl 0 as++A'),B++A4 pl (as.length+1) bs,?_,?_,?_,?_,?_⟩
  ·rw [walk,Nw,A4,Rk,e1,ep]
   simp
  ·rw [es,walk,Nw,A4,Rk,e2,ep]
   simp
  ·rw [Qg,Qg,Qf,Qf,e3]
   rfl
  ·intro x hx
   rcases Ph.mp hx with rfl | hx
   ·exact ⟨[],by simp,rfl,fun ⟨s,hs⟩=>by cases hs⟩
   ·rcases Pw.mp hx with hx | hx
    ·obtain ⟨i,u,q,h1,h2,_⟩:=Ji as pl 0 x hx
     have hi:=(Pg.mp h1).1
     rw [Rk] at h2
     exact ⟨i::q,h2,Zpc q r hi,Zbq (by omega)⟩
    ·obtain ⟨q,h1,h2,h3⟩:=e4 x hx
     exact ⟨as.length::q,by rw [h1];simp,by rw [Zaa];exact h2,Zga h3⟩
  ·intro x hx
   rcases Pw.mp hx with hx | hx
   ·obtain ⟨q,h1,h2,h3⟩:=e5 x hx
    exact ⟨as.length::q,by rw [h1];simp,by rw [Zaa];exact h2,Zga h3⟩
   ·obtain ⟨i,u,q,h1,h2,_⟩:=Ji bs pl (as.length+1) x hx
    exact ⟨(as.length+1+i)::q,h2,Zqy q r (by omega),Zbq (by omega)⟩
noncomputable def Zl3 (ns:List Str)(w:Str)(n:Dt)(fb:Bool):Str:=if fb=false then "unlike" else if w = "odd" then "odd" else if w = "name" /\ B3 (D5 n) 0 ns=none then "free" else ""
theorem Ze8 (t:Tr)(x:List Nat×Tr)(b:Bool):B4 t x.1 x.2 b=Zl3 (Br t x.1) (hd x).2.1 (hd x).2.2 b:=by
 obtain ⟨p,f⟩:=x
 cases f
 rfl
theorem K6 (x:List Nat×Tr):(hd x).1=x.1:=by
 obtain ⟨p,f⟩:=x
 cases f
 rfl
noncomputable abbrev Pm:=List Nat×Str
noncomputable def pm (r:Rw):Pm:=(r.1,r.2.2.2)
noncomputable def Cb (t:Tr)(fs:List Bool):List Pm:=(walk [] t).mapIdx fun i x=>(x.1,B4 t x.1 x.2 (fs.getD i false))
theorem Zmp (t:Tr)(ks:List Kd)(fs:List Bool):(Ck t ks fs).map pm=Cb t fs:=by
 refine V6 fun j=>?_
 unfold Ck Cb
 rw [Pq,R0,R0]
 cases (walk [] t)[j]? <;> rfl
theorem Nq {t t':Tr}{A A':List (List Nat×Tr)}{b b':Nat->Bool}(e:A.map hd=A'.map hd)(hn:∀ x∈A,Br t x.1=Br t' x.1)(hb:∀ i,i < A.length->b i=b' i):(A.mapIdx fun i x=>(x.1,B4 t x.1 x.2 (b i)))=A'.mapIdx fun i x=>(x.1,B4 t' x.1 x.2 (b' i)):=by
 refine V6 fun j=>?_
 rw [R0,R0]
 have ej:=congrArg (fun l=>l[j]?) e
 simp only [Pq] at ej
 cases h:A[j]? with
 | none =>
  rw [h] at ej
  cases h':A'[j]? with
  | none=>rfl
  | some y=>rw [h'] at ej;cases ej
 | some x =>
  rw [h] at ej
  cases h':A'[j]? with
  | none=>rw [h'] at ej;cases ej
  | some y =>
   rw [h'] at ej
   have ej:hd x=hd y:=Po ej
   have e1:x.1=y.1:=by rw [<- K6 x,<- K6 y,ej]
   show some (x.1,B4 t x.1 x.2 (b j))=some (y.1,B4 t' y.1 y.2 (b' j))
   rw [Ze8,Ze8,ej,hn x (Qb h),e1,hb j (Pg.mp h).1]
theorem Zq4 {g q:List Nat}(h:¬ g <+: q):q.take g.length≠g:=fun e=>h (by
 have:=List.take_prefix g.length q
 rwa [e] at this)
theorem Zbd {t s:Tr}{g q:List Nat}(h:Has t g s)(f:Tr)(hq:Sub t q)(hn:¬ g <+: q):Br t q=Br (B8 t g f) q:=by
 unfold Br
 rw [(Zkp h.sub hq (Zq4 hn)).2]
noncomputable def De (g:List Nat)(y:Pm):Bool:=HT.lexLt (A9 y.1) (A9 g)
noncomputable def qB (y:Pm):Bool:=decide (y.2 ≠ "")
noncomputable def E5 (g:List Nat)(y:Pm):Bool:=decide (y.2 ≠ "" /\ y.2 ≠ "unlike" /\ y.1.take g.length≠g)
theorem Lm {α β:Type}{l:List α}{f:Nat->α->β}{y:β}(h:y∈l.mapIdx f):∃ i x,l[i]?=some x/\y=f i x:=by
 obtain ⟨i,hi,rfl⟩:=List.mem_mapIdx.mp h
 exact ⟨i,_,Pb hi,rfl⟩
theorem Zfu {α β:Type}{keep:β->Bool}{h:α->β}:∀{l:List α}{f:Nat->α->β},(∀ i x,l[i]?=some x->f i x=h x\/(keep (f i x)=false/\keep (h x)=false))->(l.mapIdx f).filter keep=(l.map h).filter keep
 | [],f,_=>rfl
 | x::l,f,e=>by
  have ih:=Zfu (l:=l) (f:=fun i=>f (i+1)) fun i y hy=>e (i+1) y (by simpa using hy)
  rw [List.mapIdx_cons,Qg]
  rcases e 0 x rfl with h0 | ⟨h1,h2⟩
  ·rw [h0,List.filter_cons,List.filter_cons,ih]
  ·rw [Tf (by rw [h1];decide),Tf (by rw [h2];decide),ih]
theorem Zpr {fs1 fs2:List Bool}{i:Nat}(h:i < fs1.length):(fs1++fs2).getD i false=fs1.getD i false:=by
 rw [Qk,Qk,Qe h]
theorem Zda {t:Tr}{g:List Nat}{A R:List (List Nat×Tr)}{fs1 fs2:List Bool}(e:walk [] t=A++R)(hA:∀ x∈A,HT.lexLt (A9 x.1) (A9 g)=true)(hR:∀ x∈R,HT.lexLt (A9 x.1) (A9 g)=false)(hl:fs1.length=A.length):(Cb t (fs1++fs2)).filter (De g)=A.mapIdx fun i x=>(x.1,B4 t x.1 x.2 (fs1.getD i false)):=by
 unfold Cb
 rw [e,List.mapIdx_append,Tq]
 have e1:(A.mapIdx fun i x=>(x.1,B4 t x.1 x.2 ((fs1++fs2).getD i false)))=A.mapIdx fun i x=>(x.1,B4 t x.1 x.2 (fs1.getD i false)):=Nq (t:=t) (t':=t) rfl (fun _ _=>rfl) fun i hi=>Zpr (by omega)
 rw [e1,List.filter_eq_self.mpr,List.filter_eq_nil_iff.mpr,Qc]
 ·intro y hy
  obtain ⟨i,x,hx,rfl⟩:=Lm hy
  show ¬ HT.lexLt (A9 x.1) (A9 g)=true
  rw [hR x (Qb hx)]
  decide
 ·intro y hy
  obtain ⟨i,x,hx,rfl⟩:=Lm hy
  exact hA x (Qb hx)
theorem Zdv {a:Str}:∀{l:List Str}{d:Nat},B3 a d l=none->a ∉ l
 | [],d,_=>by simp
 | y::r,d,h=>by
  rw [B3] at h
  cases e:B3 a (d+1) r with
  | some k=>rw [e] at h;cases h
  | none =>
   rw [e] at h
   have h:(if y=a then some d else none)=none:=h
   by_cases c:y=a
   ·rw [if_pos c] at h;cases h
   ·intro hm
    rcases Ph.mp hm with hm | hm
    ·exact c hm.symm
    ·exact Zdv e hm
noncomputable def Gs (t:Tr)(x:List Nat×Tr):Pm:=(x.1,B4 t x.1 x.2 true)
theorem Zc5 {t:Tr}{ks:List Kd}{fs:List Bool}(h:Fe t ks fs)(ha:AT t)(g:List Nat):(Cb t fs).filter (E5 g)=((walk [] t).map (Gs t)).filter (E5 g):=by
 refine Zfu fun i x hx=>?_
 obtain ⟨pl,f⟩:=x
 cases f with
 | mk w n ts =>
 by_cases hf:Frs t pl w n
 ·have:=Zex h ha hx (.inr hf)
  left
  show (pl,B4 t pl (.mk w n ts) (fs.getD i false))=(pl,B4 t pl (.mk w n ts) true)
  rw [Qk,this]
  rfl
 ·right
  have h1:w ≠ "odd" := fun z=>hf (.inr (.inl z))
  have h2:¬ (w = "name" /\ B3 (D5 n) 0 (Br t pl)=none):=fun z=>hf (.inr (.inr ⟨z.1,Zdv z.2⟩))
  have e:∀ b,B4 t pl (.mk w n ts) b=(if b=false then ("unlike" : Str) else "" : Str):=fun b=>by
   show (if b=false then ("unlike" : Str) else if w = "odd" then "odd" else if w = "name" /\ B3 (D5 n) 0 (Br t pl)=none then "free" else "")=_
   rw [if_neg h1,if_neg h2]
  have k:∀ b,E5 g (pl,B4 t pl (.mk w n ts) b)=false:=fun b=>by
   unfold E5
   rw [e b]
   cases b
   ·exact decide_eq_false fun z=>z.2.1 rfl
   ·exact decide_eq_false fun z=>z.1 rfl
  exact ⟨k _,k _⟩
theorem Zbs {t t':Tr}{A A':List (List Nat×Tr)}(e:A.map hd=A'.map hd)(hn:∀ x∈A,Br t x.1=Br t' x.1):A.map (Gs t)=A'.map (Gs t'):=by
 have h:=Nq (t:=t) (t':=t') (b:=fun _=>true) (b':=fun _=>true) e hn fun _ _=>rfl
 have m:∀(u:Tr)(L:List (List Nat×Tr)),(L.mapIdx fun i x=>(x.1,B4 u x.1 x.2 true))=L.map (Gs u):=fun u L=>by
  refine V6 fun j=>?_
  rw [R0,Pq]
  rfl
 rw [<- m,<- m]
 exact h
structure Two (t t':Tr)(g:List Nat)(s:Tr)(ks ks':List Kd)(fs fs':List Bool):Prop where
 r:Fe t ks fs
 r':Fe t' ks' fs'
 c0:s.wd = "gap" -> ∀ y∈(Cb t fs).filter qB,y.1≠g
 c1:((Cb t' fs').filter qB).filter (De g)=((Cb t fs).filter qB).filter (De g)
 c2:(Cb t' fs').filter (E5 g)=(Cb t fs).filter (E5 g)
theorem two_of {t s f:Tr}{g:List Nat}(h:Has t g s)(ha:AT t)(ha':AT (B8 t g f))(hz:t.size<=40)(hz':(B8 t g f).size<=40):∃ ks ks' fs fs',Two t (B8 t g f) g s ks ks' fs fs':=by
 obtain ⟨A,A',B,e1,e2,e3,e4,e5⟩:=Zqz h f []
 rw [Ru] at e1 e2
 obtain ⟨ks,ks',fs1,fs2,fs2',hl,r,r'⟩:=Zpn ha ha' hz hz' e1 e2 e3
 have hA:∀ x∈A,HT.lexLt (A9 x.1) (A9 g)=true/\¬ g <+: x.1:=fun x hx=>by
  obtain ⟨q,h1,h2,h3⟩:=e4 x hx
  rw [Ru] at h1
  rw [h1]
  exact ⟨h2,h3⟩
 have hB:∀ x∈B,HT.lexLt (A9 x.1) (A9 g)=false/\¬ g <+: x.1:=fun x hx=>by
  obtain ⟨q,h1,h2,h3⟩:=e5 x hx
  rw [Ru] at h1
  rw [h1]
  exact ⟨h2,h3⟩
 have hA':∀ x∈A',HT.lexLt (A9 x.1) (A9 g)=true/\¬ g <+: x.1:=fun x hx=>by
  have hm:hd x∈A.map hd:=by rw [e3];exact List.mem_map_of_mem hx
  obtain ⟨y,hy,ey⟩:=Qr.mp hm
  rw [<- K6 x,<- ey,K6 y]
  exact hA y hy
 have hG:∀(u:Tr),∀ x∈walk g u,∃ q,x.1=g++q:=fun u x hx=>let ⟨q,h,_⟩:=Zai u g x hx;⟨q,h⟩
 have hR:∀(u:Tr),∀ x∈walk g u++B,HT.lexLt (A9 x.1) (A9 g)=false:=fun u x hx=>by
  rcases Pw.mp hx with hx | hx
  ·obtain ⟨q,hq⟩:=hG u x hx
   rw [hq]
   exact Zdg g q
  ·exact (hB x hx).1
 have sA:∀ x∈A,Sub t x.1:=fun x hx=>Ks t x (by rw [e1];exact Rg _ hx)
 have sB:∀ x∈B,Sub t x.1:=fun x hx=>Ks t x (by rw [e1];exact Qs _ (Qs _ hx))
 have nA:∀ x∈A,Br t x.1=Br (B8 t g f) x.1:=fun x hx=>Zbd h f (sA x hx) (hA x hx).2
 have nB:∀ x∈B,Br t x.1=Br (B8 t g f) x.1:=fun x hx=>Zbd h f (sB x hx) (hB x hx).2
 have comm:∀(L:List Pm),(L.filter qB).filter (De g)=(L.filter (De g)).filter qB:=fun L=>by
  rw [V0,V0]
  congr 1
  funext y
  rw [Bool.and_comm]
 refine ⟨ks,ks',_,_,r,r',fun hs y hy ey=>?_,?_,?_⟩
 ·obtain ⟨hm,hq⟩:=Ri.mp hy
  obtain ⟨i,x,hx,rfl⟩:=Lm hm
  have ey:x.1=g:=ey
  have hx2:=Qb hx
  rw [e1] at hx2
  have hxs:x.2=s:=by
   rcases Pw.mp hx2 with h1 | h1
   ·exact absurd (by rw [ey];exact T3) (hA x h1).2
   ·rcases Pw.mp h1 with h1 | h1
    ·rw [Zfm] at h1
     rcases Ph.mp h1 with rfl | h1
     ·rfl
     ·obtain ⟨j,u,q,_,h2,_⟩:=Ji _ g 0 x h1
      rw [ey] at h2
      have:=congrArg Rl h2
      simp at this
    ·exact absurd (by rw [ey];exact T3) (hB x h1).2
  obtain ⟨pl,u⟩:=x
  have hxs:u=s:=hxs
  subst hxs
  cases u with
  | mk w n ts =>
  have hw:w = "gap" := hs
  have hfit:=Zex r ha hx (.inr (.inl hw))
  have hmk:B4 t pl (.mk w n ts) ((fs1++fs2).getD i false) = "" := by
   rw [Qk,hfit]
   show (if true=false then ("unlike" : Str) else if w = "odd" then "odd" else if w = "name" /\ B3 (D5 n) 0 (Br t pl)=none then "free" else "") = ""
   rw [if_neg (by decide),if_neg (by rw [hw];decide +kernel),if_neg (fun z=>absurd (hw.symm.trans z.1) (by decide +kernel))]
  have hq:decide (B4 t pl (.mk w n ts) ((fs1++fs2).getD i false) ≠ "")=true:=hq
  exact of_decide_eq_true hq hmk
 ·rw [comm,comm,Zda e1 (fun x hx=>(hA x hx).1) (hR s) hl,Zda e2 (fun x hx=>(hA' x hx).1) (hR f) (by
   have:=congrArg Rl e3
   rw [Pe,Pe] at this
   omega)]
  congr 1
  exact (Nq e3 nA fun _ _=>rfl).symm
 ·rw [Zc5 r ha g,Zc5 r' ha' g,e1,e2]
  simp only [Qf,Tq]
  have hd0:∀(u v:Tr),((walk g u).map (Gs v)).filter (E5 g)=[]:=fun u v=>by
   rw [List.filter_eq_nil_iff]
   intro y hy
   obtain ⟨x,hx,rfl⟩:=Qr.mp hy
   obtain ⟨q,hq⟩:=hG u x hx
   unfold E5 Gs
   rw [hq,decide_eq_false (fun z=>z.2.2 (by simp))]
   decide
  rw [hd0,hd0,Zbs e3 nA,Zbs (A:=B) (A':=B) rfl nB]
theorem Zlk {α:Type}(as bs:List α)(t u:α):(as++t::bs).set as.length u=as++u::bs:=by simp
theorem Zme {t s f:Tr}{g:List Nat}(h:Has t g s)(hf:AT f):AT t->AT (B8 t g f):=by
 induction h with
 | nil t=>intro _;rw [Ke];exact hf
 | @cons w n ts j t s r h k ih =>
  intro ha
  rw [Gw h]
  cases ha with
  | mk hw hl hs =>
  refine .mk hw (by rw [Qd];exact hl) fun u hu=>?_
  rcases List.mem_or_eq_of_mem_set hu with hu | rfl
  ·exact hs u hu
  ·exact ih (hs t (Qb h))
theorem Zn8 {t s f:Tr}{g:List Nat}(h:Has t g s):(B8 t g f).size+s.size=t.size+f.size:=by
 induction h with
 | nil t=>rw [Ke];omega
 | @cons w n ts j t s r h k ih =>
  rw [Gw h]
  obtain ⟨as,bs,rfl,rfl⟩:=He h
  rw [Zlk,Tr.size,Tr.size,Lk,Lk,Bu,Bu]
  omega
theorem Zms {t s:Tr}{g:List Nat}(h:Has t g s):g.length < t.size:=by
 induction h with
 | nil t=>cases t;rw [Tr.size];show 0 < _;omega
 | @cons w n ts j t s r h k ih =>
  obtain ⟨as,bs,rfl,rfl⟩:=He h
  rw [Tr.size,Lk,Bu,Pj]
  omega
section
variable {P:Program}{w:World}{K:O9}{mg:Str->Option Value}{base:Heap}
theorem Zb1:∀{ts:List Tr}{j:Nat}{t:Tr},ts[j]?=some t->t.size<=Bu ts
 | [],j,t,h=>by simp at h
 | x::r,0,t,h=>by simp at h;subst h;rw [Bu];omega
 | x::r,j+1,t,h=>by have:=Zb1 (ts:=r) (j:=j) (by simpa using h);rw [Bu];omega
noncomputable def Gj (K:O9)(n:Nat):Sp:=fun vs H Q _=>∃(v u:V)(p:Addr)(t s f:Tr)(g:List Nat),vs=[v,.ref p,u]/\TrAt K H v t/\SqT K H p (Ba g)/\TrAt K H u f/\Has t g s/\g.length < n/\t.size<=1000/\∀(r:V)(H':Hp),Same H H'->TrAt K H' r (B8 t g f)->Q r H'
theorem Zf8:Bp ["_law_form", "_law_place", "_law_other", "_law_parts"] ["_law_form", "_law_place", "_law_other"] (Bh G2):=by walk_at "sc"
theorem Zo7 {n:Nat}{f:Addr}{fd:FuncData}(F:Fun K "_law_filled" "_law_filled" G2 f fd)(T:Txt K mg)(C__law_filled:Be P w K mg base (n+1) "_law_filled" ["_law_form", "_law_place", "_law_other"] (Gj K n)):Bb P w K mg base Bc (n+2) f fd ["_law_form", "_law_place", "_law_other"] (Gj K (n+1)):=by
 refine F.okq Zf8 (fun vs H Q E h=>?_) (fun cdv A outer s H vs Q E hr h=>?_)
 ·obtain ⟨v,u,p,t,s,f,g,rfl,_⟩:=h
  rfl
 ·obtain ⟨v,u,p,t,s,f,g,rfl,ht,hp,hu,hh,hg,hz,ret⟩:=h
  refine ⟨_,Af (Ay (A6 (Bl K hr.u200) (B1 (Cn K) (by rfl) T.len (by decide +kernel) (Aa (qv 1) Ab)) Ah (A7 _)) (Aj (Aw (qv 2))) A8)
   (Af (Ar 3 Zf8 (Fl (Lg K) (by rfl) T.list (by decide +kernel) (Aa (Ao K (qv 0) Ah) Ab)))
   (Af (Hl (A5 C__law_filled (hr.mono (by omega)) (Aa (Ao K (qv 3) (Ao K (qv 1) Ah)) (Aa (C1 (Lo K) (qv 1) (Cd Ah) (Ew)) (Aa (qv 2) Ab)))) (Zd6 (qv 3) (Ao K (qv 1) Ah) Zbb))
   (Aj (Aw (Ap (Aa (Ao K (qv 0) Ah) (Aa (Ao K (qv 0) Ah) (Aa (Fl (Mc K) (by rfl) T.tuple (by decide +kernel) (Aa (qv 3) Ab)) Ab)))))))),?_⟩
  have bg:=big
  walk_at "r"
  refine Fs hp ?_
  walk_at "r"
  cases hh with
  | nil t =>
   rw [Ke] at ret
   rw [decide_eq_true (show V.int (((Ba []).length:Nat):Int)=V.int 0 from rfl)]
   walk_at "r"
   exact ret _ _ (Same.refl _) hu
  | @cons w nt ts j tj s r hj k =>
   rw [decide_eq_false (show ¬ V.int (((Ba (j::r)).length:Nat):Int)=V.int 0 from fun z=>by injection z with z;unfold Ba at z;simp at z;omega)]
   rw [Gw hj] at ret
   cases ht with
   | @mk va pp _ nv _ us _ qv hn qpp hul hch =>
   have hjl:=(Pg.mp hj).1
   have hjt:=Zb1 hj
   have hsl:=Zn7 ts
   rw [Tr.size] at hz
   obtain ⟨uj,huj⟩:∃ uj,us[j]?=some uj:=⟨_,Pb (by omega)⟩
   have hp0:B5 (Ba (j::r)) 0=some (.int ((j:Nat):Int)):=Cy (j:=0) rfl
   walk_at "r"
   refine Az qv (v:=.ref pp) rfl ?_
   walk_at "r"
   refine ⟨pp,us,rfl,.inr qpp,fun pl hpl=>?_⟩
   have s1:=Same.upd (o:=.lst us) hpl
   have e1:upd H pl (.lst us) pl=some (.lst us):=Ad
   revert s1 e1
   generalize upd H pl (.lst us)=H1
   intro s1 e1
   walk_at "r"
   refine Az (s1.tup hp) hp0 ?_
   walk_at "r"
   refine Bk (SqL.of e1) (v:=uj) (Cy huj) ?_
   walk_at "r"
   refine Zaq (s1.tup hp) fun r1 H2 s2 q2=>?_
   have er:Bq (Ba (j::r)) (some ((1:Nat):Int)) none=Ba r:=by rw [Ziu];rfl
   have q2:SqT K H2 r1 (Bq (Ba (j::r)) (some ((1:Nat):Int)) none):=q2
   rw [er] at q2
   have s12:=s1.trans s2
   walk_at "r"
   refine ⟨uj,u,r1,tj,s,f,r,rfl,(hch j uj tj huj hj).same s12,q2,hu.same s12,k,by rw [Pj] at hg;omega,by omega,fun rv H3 s3 hrv=>?_⟩
   have s13:=s12.trans s3
   walk_at "r"
   refine Az (s13.tup hp) hp0 ?_
   walk_at "r"
   refine Oq (s3 _ _ (s2 _ _ e1)) (j:=j) (by unfold Da;rw [if_pos (by omega),if_pos (by omega),Rq]) ?_
   have t4:SameT H3 (upd H3 pl (.lst (us.set j rv))):=SameT.set (s3 _ _ (s2 _ _ e1))
   have e4:upd H3 pl (.lst (us.set j rv)) pl=some (.lst (us.set j rv)):=Ad
   have sm4:Same H (upd H3 pl (.lst (us.set j rv))):=s13.over hpl
   revert t4 e4 sm4
   generalize upd H3 pl (.lst (us.set j rv))=H4
   intro t4 e4 sm4
   walk_at "r"
   refine Az (sm4.tup qv) (v:=.str w) rfl ?_
   walk_at "r"
   refine Az (sm4.tup qv) (v:=nv) rfl ?_
   walk_at "r"
   refine M7 (SqL.of e4) fun pt hpt=>?_
   have s5:=Same.upd (o:=.tup (us.set j rv)) hpt
   walk_at "r"
   refine ⟨B0,fun pr hpr=>?_⟩
   have s6:=Same.upd (o:=.tup [.str w,nv,.ref pt]) hpr
   have s46:=s5.trans s6
   have sm:=sm4.trans s46
   refine ret _ _ sm (.mk (SqT.of Ad) (hn.same sm.t) (SqT.of (s6 _ _ Ad)) (by rw [Qd,Qd];exact hul) fun i x y g1 g2=>?_)
   by_cases e:j=i
   ·subst e
    rw [Rf (by omega)] at g1 g2
    cases g1
    cases g2
    exact (hrv.sameT t4).same s46
   ·rw [Si e] at g1 g2
    exact (hch i x y g1 g2).same sm
noncomputable def PmAt (K:O9)(H:Hp)(v:V)(y:Pm):Prop:=∃(e p:Addr),v=.ref e/\SqT K H e [.ref p,.str y.2]/\SqT K H p (Ba y.1)
theorem PmAt.same {H H':Hp}(e:SameT H H')(v:V)(r:Pm)(h:PmAt K H v r):PmAt K H' v r:=let ⟨c,p,h1,h2,h3⟩:=h;⟨c,p,h1,e.tup h2,e.tup h3⟩
noncomputable def Fn (g:List Nat)(y:Pm):Bool:=decide (y.2 ≠ "unlike" /\ y.1.take g.length≠g)
theorem Ln {α:Type}{p:α->Bool}{ds:List α}{i:Nat}{r:α}(h:ds[i]?=some r):(ds.take (i+1)).filter p=(ds.take i).filter p++if p r=true then [r] else []:=by
 rw [Qv,h,Tq]
 cases e:p r with
 | true=>rw [if_pos rfl];show _++Ud p [r]=_;rw [Vl e];rfl
 | false=>rw [if_neg (by decide)];show _++Ud p [r]=_;rw [Tf (by rw [e];decide)];rfl
noncomputable def Zcs (K:O9):Sp:=fun vs H Q _=>∃(pm p:Addr)(mv:List V)(ys:List Pm)(g:List Nat),vs=[.ref pm,.ref p]/\H pm=some (.lst mv)/\Al (PmAt K H) mv ys/\mv.length<=40/\SqT K H p (Ba g)/\∀(q:Addr)(zv:List V)(H':Hp),Same H H'->H' q=some (.lst zv)->Al (PmAt K H') zv (ys.filter (Fn g))->Q (.ref q) H'
theorem sc_law_outside:Bp ["_law_told", "_law_place", "_law_found", "_law_at", "_law_mark"] ["_law_told", "_law_place"] (Bh Il):=by walk_at "sc"
theorem Znv {f:Addr}{fd:FuncData}(F:Fun K "_law_outside" "_law_outside" Il f fd)(T:Txt K mg):Bb P w K mg base Bc 1 f fd ["_law_told", "_law_place"] (Zcs K):=by
 refine F.okq sc_law_outside (fun vs H Q E h=>?_) (fun cdv A outer s H vs Q E hr h=>?_)
 ·obtain ⟨pm,p,mv,ys,g,rfl,_⟩:=h
  rfl
 ·obtain ⟨pm,p,mv,ys,g,rfl,em,al,hm,hp,ret⟩:=h
  refine ⟨_,Af (Ar 2 sc_law_outside (Bf Ab))
   (Af (Cw P4 rfl (Cp K (qv 0)) (Df K (n:=2) rfl (Bx (A1 (i:=3) sc_law_outside.nd rfl (Or.inl rfl)) (Bx (A1 (i:=4) sc_law_outside.nd rfl (Or.inl rfl)) (C9)))) (Aj (Ay (QW.qt (Lq (A6 (Zbj K hr.u200) (qv 4) Av (A7 _)) (Lf (A6 (Zbj K hr.u200) (C1 (Lo K) (qv 3) (Ew) (Cd (B1 (Cn K) (by rfl) T.len (by decide +kernel) (Aa (qv 1) Ab)))) (qv 1) (A7 _))))) (Aj (Co (C4 K P8 Qn Qo Di (qv 2) (Aa (Ap (Aa (qv 3) (Aa (qv 4) Ab))) Ab)))) A8)))
   (Aj (Aw (qv 2)))),?_⟩
  have bg:=big
  walk_at "r"
  refine ⟨Bo,fun pf hpf=>?_⟩
  have s0:=Same.upd (o:=.lst []) hpf
  have npf:pm≠pf:=Ax em hpf
  walk_at "r"
  refine .inl ⟨pm,rfl,⟨_,SqL.of (s0 _ _ em)⟩,?_⟩
  refine Ie (K:=K) (a:=pm) (xs:=mv) (fun i σ' H'=>∃ v3 v4 fv,σ'=[some (.ref pm),some (.ref p),some (.ref pf),v3,v4]/\H' pf=some (.lst fv)/\Al (PmAt K H') fv ((ys.take i).filter (Fn g))/\Same H H') ⟨_,_,[],rfl,Ad,.nil,s0⟩ ?_ ?_ ?_
  ·rintro i σ' H' _ ⟨_,_,_,_,_,_,sm⟩
   exact SqL.of (sm _ _ em)
  ·rintro i x σ' H1 hx ⟨v3,v4,fv,rfl,ef,af,sm⟩
   obtain ⟨y,hy,e,pp,rfl,qe,qp⟩:=al.get hx
   have hil:=(Pg.mp hx).1
   have hfl:fv.length<=40:=by
    have:=Rn (Fn g) (ys.take i)
    rw [Pt] at this
    rw [af.1]
    omega
   have fs':=Ln (p:=Fn g) hy
   walk_at "r"
   refine Dj (sm.tup qe) rfl ?_
   by_cases c1:y.2 = "unlike"
   ·have ho:Fn g y=false:=decide_eq_false fun z=>z.1 c1
    rw [ho,if_neg (by decide),Qc] at fs'
    walk_at "r"
    rw [decide_eq_true (show V.str y.2=V.str "unlike" by rw [c1])]
    walk_at "r"
    exact ⟨_,_,fv,rfl,ef,by rw [fs'];exact af,sm⟩
   ·walk_at "r"
    rw [decide_eq_false (show ¬ V.str y.2=V.str "unlike" from fun z=>c1 (V.str.inj z))]
    walk_at "r"
    refine Fs (sm.tup hp) ?_
    walk_at "r"
    refine Zaq (sm.tup qp) fun r2 H2 s2 q2=>?_
    rw [show (Ba g).length=g.length by unfold Ba;rw [Pe],Zce] at q2
    have q2:SqT K H2 r2 (((y.1.take g.length).map fun i=>((i:Nat):Int)).map V.int):=by rw [<- E2];unfold Ba at q2 ⊢;rw [U7];exact q2
    have g2:SqT K H2 p ((g.map fun i=>((i:Nat):Int)).map V.int):=by rw [<- E2];exact s2.tup (sm.tup hp)
    walk_at "r"
    refine Znq q2 g2 ?_
    walk_at "r"
    by_cases c2:y.1.take g.length=g
    ·have ho:Fn g y=false:=decide_eq_false fun z=>z.2 c2
     rw [ho,if_neg (by decide),Qc] at fs'
     rw [decide_eq_true (by rw [c2])]
     walk_at "r"
     exact ⟨_,_,fv,rfl,s2 _ _ ef,by rw [fs'];exact af.mono (PmAt.same s2.t),sm.trans s2⟩
    ·have ho:Fn g y=true:=decide_eq_true ⟨c1,c2⟩
     rw [ho,if_pos rfl] at fs'
     rw [decide_eq_false (fun z=>c2 ((List.map_inj_right (fun x y e=>by omega)).mp z))]
     walk_at "r"
     refine Ca (SqL.of (s2 _ _ ef)) ?_
     walk_at "r"
     refine ⟨B6,fun p3 h3=>?_⟩
     have s3:=Same.upd (o:=.tup [.ref pp,.str y.2]) h3
     have s23:=s2.trans s3
     have t6:=s23.t.trans (SameT.set (o:=.lst (fv++[.ref p3])) (s23 _ _ ef))
     walk_at "r"
     refine C8 (s23 _ _ ef) (by omega) ?_
     refine ⟨_,_,fv++[.ref p3],rfl,Ad,?_,(sm.trans s23).over hpf⟩
     rw [fs']
     exact (af.mono (PmAt.same t6)).snoc ⟨p3,pp,rfl,(SameT.set (s23 _ _ ef)).tup (SqT.of Ad),t6.tup (sm.tup qp)⟩
  ·rintro σ' H1 ⟨v3,v4,fv,rfl,ef,af,sm⟩
   rw [Qp (by rw [al.1];exact Pc _)] at af
   walk_at "r"
   exact ret _ _ _ sm ef af
noncomputable def Gi (K:O9)(n:Nat):Sp:=fun vs H Q _=>∃(x y:V)(d:Dt)(m:Nat),vs=[x,y]/\m < n/\IsD K H m x d/\IsD K H m y d/\F2 d/\∀ H',Same H H'->Q (.bl true) H'
theorem sc_law_same:Bp ["_law_found", "_law_due", "_law_k"] ["_law_found", "_law_due"] (Bh Hj):=by walk_at "sc"
theorem Zop {n:Nat}{f:Addr}{fd:FuncData}(F:Fun K "_law_same" "_law_same" Hj f fd)(T:Txt K mg)(C__law_same:Be P w K mg base (n+1) "_law_same" ["_law_found", "_law_due"] (Gi K n)):Bb P w K mg base Bc (n+2) f fd ["_law_found", "_law_due"] (Gi K (n+1)):=by
 refine F.okq sc_law_same (fun vs H Q E h=>?_) (fun cdv A outer s H vs Q E hr h=>?_)
 ·obtain ⟨x,y,d,m,rfl,_⟩:=h
  rfl
 ·obtain ⟨x,y,d,m,rfl,hm,hx,hy,hd,q⟩:=h
  refine ⟨_,Af (Ay (Ex (B1 (D8 K "bool") (by rfl) T.isinstance (by decide +kernel) (Aa (qv 1) (Aa (Ee (v:=.ty "bool") (by rfl) T.bool (by decide +kernel) rfl) Ab)))) (Aj (Aw (Hr (B1 (D8 K "bool") (by rfl) T.isinstance (by decide +kernel) (Aa (qv 0) (Aa (Ee (v:=.ty "bool") (by rfl) T.bool (by decide +kernel) rfl) Ab))) (Kf (Ir (Bl K hr.u200) (qv 0) (qv 1) (A7 _)))))) A8)
   (Af (Ay (Ex (B1 (D8 K "int") (by rfl) T.isinstance (by decide +kernel) (Aa (qv 1) (Aa (Ee (v:=.ty "int") (by rfl) T.int (by decide +kernel) rfl) Ab)))) (Aj (Aw (Hr (B1 (D8 K "int") (by rfl) T.isinstance (by decide +kernel) (Aa (qv 0) (Aa (Ee (v:=.ty "int") (by rfl) T.int (by decide +kernel) rfl) Ab))) (Hr (Ze0 (B1 (D8 K "bool") (by rfl) T.isinstance (by decide +kernel) (Aa (qv 0) (Aa (Ee (v:=.ty "bool") (by rfl) T.bool (by decide +kernel) rfl) Ab)))) (Kf (Ir (Bl K hr.u200) (qv 0) (qv 1) (A7 _))))))) A8)
   (Af (Ay (Ex (B1 (D8 K "str") (by rfl) T.isinstance (by decide +kernel) (Aa (qv 1) (Aa (Ee (v:=.ty "str") (by rfl) T.str (by decide +kernel) rfl) Ab)))) (Aj (Aw (Hr (B1 (D8 K "str") (by rfl) T.isinstance (by decide +kernel) (Aa (qv 0) (Aa (Ee (v:=.ty "str") (by rfl) T.str (by decide +kernel) rfl) Ab))) (Kf (Ir (Bl K hr.u200) (qv 0) (qv 1) (A7 _)))))) A8)
   (Af (Ay (Hm (Ky (qv 1))) (Aj (Aw (Zez (Ky (qv 0))))) A8)
   (Af (Ay (Ex (B1 (D8 K "tuple") (by rfl) T.isinstance (by decide +kernel) (Aa (qv 1) (Aa (Ee (v:=.ty "tuple") (by rfl) T.tuple (by decide +kernel) rfl) Ab)))) (Aj (Ay (Hi (Ex (B1 (D8 K "tuple") (by rfl) T.isinstance (by decide +kernel) (Aa (qv 0) (Aa (Ee (v:=.ty "tuple") (by rfl) T.tuple (by decide +kernel) rfl) Ab))))) (Aj (Aw Ef)) A8)) (Aj (Ay (Hi (Ex (B1 (D8 K "list") (by rfl) T.isinstance (by decide +kernel) (Aa (qv 0) (Aa (Ee (v:=.ty "list") (by rfl) T.list (by decide +kernel) rfl) Ab))))) (Aj (Aw Ef)) A8)))
   (Af (Ay (A6 (k_ne K hr.u200) (B1 (Cn K) (by rfl) T.len (by decide +kernel) (Aa (qv 0) Ab)) (B1 (Cn K) (by rfl) T.len (by decide +kernel) (Aa (qv 1) Ab)) (A7 _)) (Aj (Aw Ef)) A8)
   (Af (Cw P4 rfl (Gh rfl T.range (Aa (B1 (Cn K) (by rfl) T.len (by decide +kernel) (Aa (qv 1) Ab)) Ab)) (A1 (i:=2) sc_law_same.nd rfl (Or.inl rfl)) (Aj (Ay (Hi (Ex (A5 C__law_same (hr.mono (by omega)) (Aa (Ao K (qv 0) (qv 2)) (Aa (Ao K (qv 1) (qv 2)) Ab))))) (Aj (Aw Ef)) A8)))
   (Aj (Aw Ef)))))))),?_⟩
  have bg:=big
  cases hx with
  | flat hv =>
   cases hy with
   | flat _ =>
   cases x with
   | non =>
    walk_at "r"
    refine Dc (b:=false) .non rfl ?_
    walk_at "r"
    refine Dc (b:=false) .non rfl ?_
    walk_at "r"
    refine Dc (b:=false) .non rfl ?_
    walk_at "r"
    rw [decide_eq_true (Eq.refl _)]
    walk_at "r"
    exact q H (Same.refl _)
   | bl b =>
    walk_at "r"
    refine Dc (b:=true) (.bl b) rfl ?_
    walk_at "r"
    refine Dc (b:=true) (.bl b) rfl ?_
    walk_at "r"
    rw [decide_eq_true (Eq.refl _)]
    walk_at "r"
    exact q H (Same.refl _)
   | int b =>
    walk_at "r"
    refine Dc (b:=false) (.int b) rfl ?_
    walk_at "r"
    refine Dc (b:=true) (.int b) rfl ?_
    walk_at "r"
    refine Dc (b:=true) (.int b) rfl ?_
    walk_at "r"
    refine Dc (b:=false) (.int b) rfl ?_
    walk_at "r"
    rw [decide_eq_true (Eq.refl _)]
    walk_at "r"
    exact q H (Same.refl _)
   | str b =>
    walk_at "r"
    refine Dc (b:=false) (.str b) rfl ?_
    walk_at "r"
    refine Dc (b:=false) (.str b) rfl ?_
    walk_at "r"
    refine Dc (b:=true) (.str b) rfl ?_
    walk_at "r"
    refine Dc (b:=true) (.str b) rfl ?_
    walk_at "r"
    rw [decide_eq_true (Eq.refl _)]
    walk_at "r"
    exact q H (Same.refl _)
   | _=>exact absurd hv (by simp [C2])
  | @tup k a vs ds qa la ha =>
   cases hy with
   | @tup _ c ws _ qc lc hc =>
   cases hd with
   | tup hl hds =>
   have eN:decide (V.ref c=V.non)=false:=decide_eq_false (fun z=>by cases z)
   walk_at "r"
   refine Ia (b:=false) qc rfl ?_
   walk_at "r"
   refine Ia (b:=false) qc rfl ?_
   walk_at "r"
   refine Ia (b:=false) qc rfl ?_
   walk_at "r"
   rw [eN]
   walk_at "r"
   refine Ia (b:=true) qc rfl ?_
   walk_at "r"
   refine Ia (b:=true) qa rfl ?_
   walk_at "r"
   refine Fs qa ?_
   walk_at "r"
   refine Fs qc ?_
   walk_at "r"
   rw [la,lc,decide_eq_true (Eq.refl _)]
   walk_at "r"
   refine Fs qc ?_
   walk_at "r"
   rw [lc]
   refine ⟨by omega,by omega,?_⟩
   refine Jk (n:=(ds.length:Int).toNat) (fun i σ' H'=>∃ v2,σ'=[some (.ref a),some (.ref c),v2]/\Same H H') ⟨none,rfl,Same.refl _⟩ ?_ ?_
   ·rintro i σ' H' hi ⟨v2,rfl,sm⟩
    have hi:i < ds.length:=by omega
    have e0:(0:Int)+(i:Int)=((i:Nat):Int):=by omega
    rw [e0]
    have hiv:i < vs.length:=by omega
    have hiw:i < ws.length:=by omega
    walk_at "r"
    refine Az (sm.tup qa) (Cy (Pb hiv)) ?_
    walk_at "r"
    refine Az (sm.tup qc) (Cy (Pb hiw)) ?_
    walk_at "r"
    refine ⟨vs[i],ws[i],ds[i],k,rfl,by omega,(ha i _ _ (Pb hiv) (Pb hi)).same sm,(hc i _ _ (Pb hiw) (Pb hi)).same sm,hds _ (Tv hi),fun H2 s2=>?_⟩
    walk_at "r"
    exact ⟨_,rfl,sm.trans s2⟩
   ·rintro σ' H' ⟨v2,rfl,sm⟩
    walk_at "r"
    exact q H' sm
  | @lst k a vs ds qa la ha =>
   cases hy with
   | @lst _ c ws _ qc lc hc =>
   cases hd with
   | lst hl hds =>
   have eN:decide (V.ref c=V.non)=false:=decide_eq_false (fun z=>by cases z)
   walk_at "r"
   refine Kg (b:=false) qc rfl ?_
   walk_at "r"
   refine Kg (b:=false) qc rfl ?_
   walk_at "r"
   refine Kg (b:=false) qc rfl ?_
   walk_at "r"
   rw [eN]
   walk_at "r"
   refine Kg (b:=false) qc rfl ?_
   walk_at "r"
   refine Kg (b:=true) qa rfl ?_
   walk_at "r"
   refine Dv qa ?_
   walk_at "r"
   refine Dv qc ?_
   walk_at "r"
   rw [la,lc,decide_eq_true (Eq.refl _)]
   walk_at "r"
   refine Dv qc ?_
   walk_at "r"
   rw [lc]
   refine ⟨by omega,by omega,?_⟩
   refine Jk (n:=(ds.length:Int).toNat) (fun i σ' H'=>∃ v2,σ'=[some (.ref a),some (.ref c),v2]/\Same H H') ⟨none,rfl,Same.refl _⟩ ?_ ?_
   ·rintro i σ' H' hi ⟨v2,rfl,sm⟩
    have hi:i < ds.length:=by omega
    have e0:(0:Int)+(i:Int)=((i:Nat):Int):=by omega
    rw [e0]
    have hiv:i < vs.length:=by omega
    have hiw:i < ws.length:=by omega
    walk_at "r"
    refine Bk (sm.seq qa) (Cy (Pb hiv)) ?_
    walk_at "r"
    refine Bk (sm.seq qc) (Cy (Pb hiw)) ?_
    walk_at "r"
    refine ⟨vs[i],ws[i],ds[i],k,rfl,by omega,(ha i _ _ (Pb hiv) (Pb hi)).same sm,(hc i _ _ (Pb hiw) (Pb hi)).same sm,hds _ (Tv hi),fun H2 s2=>?_⟩
    walk_at "r"
    exact ⟨_,rfl,sm.trans s2⟩
   ·rintro σ' H' ⟨v2,rfl,sm⟩
    walk_at "r"
    exact q H' sm
noncomputable def LETS:Str := "abcdefghijklmnopqrstuvwxyz_"
theorem Zj9:LETS.cps.toList.length=27:=by decide +kernel
theorem Zob:LETS.length<=sizeLine:=by decide +kernel
theorem Za5 (u v:Str):(u++v).length=u.length+v.length:=by
 show (u.cps++v.cps).size=_
 simp [Str.length]
theorem Zby (c:Nat):(⟨#[c]⟩:Str).length=1:=rfl
noncomputable def Zc4:Sp:=fun vs H Q _=>∃(a b:Int),vs=[.int a,.int b]/\∀(p:Addr)(ts:List Str)(H':Hp),Same H H'->H p=none->ts.length=4->(∀ t∈ts,t.length<=100)->H' p=some (.lst (ts.map V.str))->Q (.ref p) H'
theorem Zjt:(["_law_k", "_law_primes", "_law_cell"]:List Str).Nodup:=by decide +kernel
theorem sc_law_names:Bp ["_law_cell", "_law_at", "_law_letters", "_law_primes", "_law_size", "_law_base", "_law_names_here", "_law_k", "_law_name", "_law_j"] ["_law_cell", "_law_at"] (Bh Iw):=by walk_at "sc"
noncomputable def PRI:List V:=[.int 1009,.int 1013,.int 1019,.int 1021,.int 1031,.int 1033,.int 1039,.int 1049]
theorem Zm6 {i:Int}(h0:0<=i)(h1:i < 8):∃ z:Int,B5 PRI i=some (.int z)/\0 < z/\z < 2000:=by
 obtain ⟨v,hv,m⟩:=Fc (xs:=PRI) (i:=i) h0 h1
 simp only [PRI,Ph,P3,or_false] at m
 rcases m with rfl | rfl | rfl | rfl | rfl | rfl | rfl | rfl <;> exact ⟨_,hv,by decide,by decide⟩
noncomputable def NmJ (H:Hp)(a b:Int)(R D p:Addr)(ms:List Int)(j:Nat)(σ':St)(H':Hp):Prop:=∃(v7 v8 v9:Option V)(ts:List Str),σ'=[some (.int a),some (.int b),some (.str LETS),some (.ref R),some (.int (1+a % 8)),some (.ref D),some (.ref p),v7,v8,v9]/\H' D=some (.lst (ms.map V.int))/\H' p=some (.lst (ts.map V.str))/\ts.length=j/\(∀ t∈ts,t.length<=100)/\Same H H'
theorem Zky {f:Addr}{fd:FuncData}(F:Fun K "_law_names" "_law_names" Iw f fd)(T:Txt K mg):Bb P w K mg base Bc 1 f fd ["_law_cell", "_law_at"] Zc4:=by
 refine F.okq sc_law_names (fun vs H Q E h=>?_) (fun cdv A outer s H vs Q E hr h=>?_)
 ·obtain ⟨a,b,rfl,_⟩:=h
  rfl
 ·obtain ⟨a,b,rfl,q⟩:=h
  refine ⟨_,Af (Ar 2 sc_law_names Av)
   (Af (Hs (i:=3) sc_law_names.nd rfl (Or.inr rfl) (Bf (Ku (xs:=[.int 1009,.int 1013,.int 1019,.int 1021,.int 1031,.int 1033,.int 1039,.int 1049]) rfl)))
   (Af (Ar 4 sc_law_names (A0 (F4 K) Ah (A0 Cf (qv 0) Ah)))
   (Af (La (i:=5) (N:=["_law_k", "_law_primes", "_law_cell"]) (σ0:=Cq 1 [3,0]) rfl (Dl rfl (by decide +kernel) (by decide +kernel) (by decide +kernel)) (Gh rfl T.range (Aa (qv 4) Ab)) (Dq rfl (by rfl)) (fun _ _ _ _=>A1 (i:=0) Zjt rfl (Or.inl rfl)) (fun _ _ _ _=>Fa) (fun _ _ _ _=>A0 Cf (A0 Cf (A0 Gq (A0 Eh (qv 2) Ah) Ah) (Ao K (qv 1) (qv 0))) Ah) sc_law_names.nd rfl (Or.inl rfl))
   (Af (Ar 6 sc_law_names (Bf Ab))
   (Af (Cw P4 rfl (Gh rfl T.range (Aa Ah Ab)) (A1 (i:=7) sc_law_names.nd rfl (Or.inl rfl)) (Af (Ar 8 sc_law_names Av)
   (Af (Cw P4 rfl (Gh rfl T.range (Aa (qv 4) Ab)) (A1 (i:=9) sc_law_names.nd rfl (Or.inl rfl)) (Aj (Ar 8 sc_law_names (A0 (F4 K) (qv 8) (Ao K (qv 2) (A0 Cf (A0 (F4 K) (Ao K (qv 5) (qv 9)) (A0 Gq (qv 7) (Fl Zha (by rfl) T.int (by decide +kernel) (Aa (Ir (Bl K hr.u200) (qv 9) (A0 Cf (qv 1) (qv 4)) (A7 _)) Ab)))) Ah))))))
   (Af (Ay (A6 (Ju K) (qv 8) (Bf (Ku (xs:=[.str "let",.str "in",.str "if",.str "then",.str "else",.str "fn",.str "rec",.str "yes",.str "no"]) rfl)) (by rfl)) (Aj (Ar 8 sc_law_names (A0 (F4 K) (qv 8) Av))) A8)
   (Aj (Co (C4 K P8 Qn Qo Di (qv 6) (Aa (qv 8) Ab))))))))
   (Aj (Aw (qv 6)))))))),?_⟩
  have bg:=big
  have hs0:0<=a % 8:=Rv a (by decide)
  have hs1:a % 8 < 8:=Ro a (by decide)
  walk_at "r"
  refine ⟨sz8,fun R hR=>?_⟩
  have s0:Same H (upd H R (.lst [V.int 1009,V.int 1013,V.int 1019,V.int 1021,V.int 1031,V.int 1033,V.int 1039,V.int 1049])):=Same.upd hR
  have e0:upd H R (.lst [V.int 1009,V.int 1013,V.int 1019,V.int 1021,V.int 1031,V.int 1033,V.int 1039,V.int 1049]) R=some (.lst PRI):=Ad
  revert s0 e0
  generalize upd H R (.lst [V.int 1009,V.int 1013,V.int 1019,V.int 1021,V.int 1031,V.int 1033,V.int 1039,V.int 1049])=H0
  intro s0 e0
  walk_at "r"
  refine ⟨by omega,by omega,fun D hD=>?_⟩
  have nR:R≠D:=fun z=>by rw [z,hD] at e0;cases e0
  refine N8 (Pv:=fun i ys σ' H'=>∃ kv ms,σ'=[kv,some (.ref R),some (.int a)]/\ys=ms.map V.int/\ms.length=i/\Same H0 H') ⟨none,[],rfl,rfl,rfl,Same.upd hD⟩ ?_ ?_
  ·rintro i ys σ' H' hi hys ⟨kv,ms,rfl,rfl,hl,hH⟩
   obtain ⟨z,hz,z0,z1⟩:=Zm6 (i:=0+(i:Int)) (by omega) (by omega)
   walk_at "r"
   refine Bk (SqL.of (hH _ _ e0)) hz ?_
   walk_at "r"
   refine s_rI z0 ?_
   walk_at "r"
   refine ⟨_,hys,by rw [Pe];omega,_,Ad,?_⟩
   exact ⟨_,ms++[_],rfl,by rw [Qf];rfl,by simp [hl],hH.over hD⟩
  ·rintro ys σ' H1 hys ⟨kv,ms,rfl,rfl,hl,hH⟩
   walk_at "r"
   refine ⟨Bo,fun p hp=>?_⟩
   have hpD:D≠p:=fun z=>by rw [z,hp] at hys;cases hys
   have hp1:H0 p=none:=hH.free hp
   have hp0:H p=none:=s0.free hp1
   have hys':upd H1 p (.lst []) D=some (.lst (ms.map V.int)):=by rw [Ai hpD];exact hys
   walk_at "r"
   refine ⟨by decide,by decide,?_⟩
   refine Jk (n:=4) (NmJ H a b R D p ms) ⟨_,_,_,[],rfl,hys',Ad,rfl,(fun t h=>nomatch h),(s0.trans hH).put hp⟩ ?_ ?_
   ·rintro j σ' H2 hj ⟨v7,v8,v9,ts,rfl,hD2,hp2,hl2,hb2,sm2⟩
    walk_at "r"
    refine ⟨by omega,by omega,?_⟩
    refine Jk (n:=(1+a % 8).toNat) (fun k σ' H'=>∃ v9 t,σ'=[some (.int a),some (.int b),some (.str LETS),some (.ref R),some (.int (1+a % 8)),some (.ref D),some (.ref p),some (.int (0+j)),some (.str t),v9]/\t.length=k/\H'=H2) ⟨_,Str.empty,rfl,rfl,rfl⟩ ?_ ?_
    ·rintro k σ' H3 hk ⟨v9',t,rfl,hl3,rfl⟩
     obtain ⟨v,hv,m⟩:=Fc (xs:=ms.map V.int) (i:=0+(k:Int)) (by omega) (by rw [Pe];omega)
     obtain ⟨z,_,rfl⟩:=Qr.mp m
     walk_at "r"
     refine Bk (SqL.of hD2) hv ?_
     walk_at "r"
     refine s_rI (by omega) ?_
     walk_at "r"
     refine s_mul_r (by split <;> decide) (by split <;> decide) ?_
     walk_at "r"
     obtain ⟨c,hc,_⟩:=Fc (xs:=LETS.cps.toList) (i:=(z+(0+(j:Int)) * (if decide (V.int (0+(k:Int))=V.int (b % (1+a % 8)))=true then 1 else 0)) % 27) (Rv _ (by decide)) (by rw [Zj9];exact Ro _ (by decide))
     refine Zie Zob hc ?_
     refine Zar (by rw [Zby];omega) ?_
     exact ⟨_,_,rfl,by rw [Za5,Zby];omega,rfl⟩
    ·rintro σ' H3 ⟨v9',t,rfl,hl3,rfl⟩
     walk_at "r"
     refine ⟨sz9,fun p9 h9=>?_⟩
     refine I0 (.inl (SqL.of Ad)) rfl rfl ?_
     have nD:D≠p9:=fun z=>by rw [z,h9] at hD2;cases hD2
     have np:p≠p9:=fun z=>by rw [z,h9] at hp2;cases hp2
     have hpU:∀ o,upd H3 p9 o p=some (.lst (ts.map V.str)):=fun o=>by rw [Ai np];exact hp2
     have hDU:∀ o,upd H3 p9 o D=some (.lst (ms.map V.int)):=fun o=>by rw [Ai nD];exact hD2
     have smU:∀ o,Same H (upd H3 p9 o):=fun o=>sm2.put h9
     have fin:∀(t':Str)(o:HO),t'.length<=100->NmJ H a b R D p ms (j+1) [some (.int a),some (.int b),some (.str LETS),some (.ref R),some (.int (1+a % 8)),some (.ref D),some (.ref p),some (.int (0+(j:Int))),some (.str t'),v9'] (upd (upd H3 p9 o) p (.lst (ts.map V.str++[.str t']))):=fun t' o hb' =>
      ⟨_,_,_,ts++[t'],rfl,by rw [Ai hpD];exact hDU o,by rw [Ad,Qf];rfl,by simp [hl2],(fun x hx=>(Pw.mp hx).elim (hb2 x) fun h=>by rw [P7.mp h];exact hb'),(smU o).over hp0⟩
     walk_at "r"
     refine Bv (fun _=>?_) (fun _=>?_)
     ·walk_at "r"
      have l1:(Ql "_").length=1:=by decide +kernel
      refine Zar (by rw [l1];omega) ?_
      walk_at "r"
      refine Ca (SqL.of (hpU _)) ?_
      walk_at "r"
      refine C8 (hpU _) (by rw [Pe];omega) ?_
      exact fin _ _ (by rw [Za5,l1];omega)
     ·walk_at "r"
      refine Ca (SqL.of (hpU _)) ?_
      walk_at "r"
      refine C8 (hpU _) (by rw [Pe];omega) ?_
      exact fin _ _ (by omega)
   ·rintro σ' H2 ⟨v7,v8,v9,ts,rfl,hD2,hp2,hl2,hb2,sm2⟩
    walk_at "r"
    exact q p _ _ sm2 hp0 hl2 hb2 hp2
noncomputable def Za0 (K:O9):Sp:=fun vs H Q _=>∃(a:Addr)(k:Int),vs=[.ref a,.int k]/\Script K H a/\0<=k/\∀ z:Int,Q (.int z) H
theorem Zkx:Bp ["_law_script", "_law_k"] ["_law_script", "_law_k"] (Bh Jw):=by walk_at "sc"
theorem Znm {f:Addr}{fd:FuncData}(F:Fun K "_law_cell_at" "_law_cell_at" Jw f fd)(T:Txt K mg):Bb P w K mg base Bc 1 f fd ["_law_script", "_law_k"] (Za0 K):=by
 refine F.okq Zkx (fun vs H Q E h=>?_) (fun cdv A outer s H vs Q E hr h=>?_)
 ·obtain ⟨a,k,rfl,_⟩:=h
  rfl
 ·obtain ⟨a,k,rfl,S,h0,q⟩:=h
  obtain ⟨ns,hS,hl⟩:=S.ex
  refine ⟨_,Af (Ay (A6 Zdr (qv 1) (B1 (Cn K) (by rfl) T.len (by decide +kernel) (Aa (qv 0) Ab)) (A7 _)) (Aj (Aw (Ao K (qv 0) (qv 1)))) A8)
   (Aj (Aw Ah)),?_⟩
  walk_at "r"
  refine Dv hS ?_
  walk_at "r"
  refine Bv (fun h=>?_) (fun h=>?_)
  ·have h1:k < (ns.map V.int).length:=by simpa using h
   obtain ⟨v,hv,m⟩:=Fc h0 h1
   obtain ⟨z,_,rfl⟩:=Qr.mp m
   walk_at "r"
   exact Bk hS hv (q z)
  ·walk_at "r"
   exact q _
theorem Zo2 (z:Int):∃ k:Nat,B5 [V.int 1,.int 2,.int 2,.int 3,.int 4] (z % 5)=some (.int (k:Nat))/\1<=k/\k<=4:=by
 obtain ⟨v,hv,m⟩:=Fc (xs:=[V.int 1,.int 2,.int 2,.int 3,.int 4]) (i:=z % 5) (Rv _ (by decide)) (Ro _ (by decide))
 simp only [Ph,P3,or_false] at m
 rcases m with rfl | rfl | rfl | rfl | rfl
 ·exact ⟨1,hv,by decide,by decide⟩
 ·exact ⟨2,hv,by decide,by decide⟩
 ·exact ⟨2,hv,by decide,by decide⟩
 ·exact ⟨3,hv,by decide,by decide⟩
 ·exact ⟨4,hv,by decide,by decide⟩
theorem Zno (ts:List Str)(k:Nat):Bq (ts.map V.str) none (some (k:Int))=(ts.take k).map V.str:=by
 unfold Bq
 rw [HT.sIx_none,HT.sIx_nat,Pe,Vf,T7,<- U7]
 by_cases h:k<=ts.length
 ·rw [Sr h]
 ·rw [V7 (by omega),Qz,Qp (by omega)]
theorem Ik (ns:List Int)(lo hi:Nat):∃ ms:List Int,Bq (ns.map V.int) (some (lo:Int)) (some (hi:Int))=ms.map V.int/\ms.length<=hi - lo:=by
 obtain ⟨ms,em,lm⟩:=Zcq ns (some (lo:Int)) (some (hi:Int))
 refine ⟨ms,em,?_⟩
 rw [lm,HT.sIx_nat,HT.sIx_nat]
 omega
theorem Mu {K:O9}{H:Hp}{p q:Addr}(h:H p=none)(h':upd H p (.tup []) q=none):Same H (upd (upd H p (.tup [])) q (.tup [.str "gap",.non,.ref p]))/\TrAt K (upd (upd H p (.tup [])) q (.tup [.str "gap",.non,.ref p])) (.ref q) gapT:=by
 have s2:=Same.upd (o:=.tup [.str "gap",.non,.ref p]) h'
 exact ⟨(Same.upd h).trans s2,TrAt.gap (SqT.of Ad) (SqT.of (s2 _ _ Ad))⟩
theorem two_al {K:O9}{H:Hp}{p q:Addr}{x y nv:V}{s t:Tr}{w:Str}{n:Dt}(hn:∀ H,IsN K H nv n)(hx:TrAt K H x s)(hy:TrAt K H y t)(h:H p=none)(h':upd H p (.tup [x,y]) q=none):Same H (upd (upd H p (.tup [x,y])) q (.tup [.str w,nv,.ref p]))/\TrAt K (upd (upd H p (.tup [x,y])) q (.tup [.str w,nv,.ref p])) (.ref q) (.mk w n [s,t]):=by
 have s2:=Same.upd (o:=.tup [.str w,nv,.ref p]) h'
 have sm:=(Same.upd (o:=.tup [x,y]) h).trans s2
 refine ⟨sm,.mk (SqT.of Ad) (hn _) (SqT.of (s2 _ _ Ad)) rfl fun j v u f1 f2=>?_⟩
 match j,f1,f2 with
 | 0,f1,f2=>cases f1;cases f2;exact hx.same sm
 | 1,f1,f2=>cases f1;cases f2;exact hy.same sm
structure TG (t:Tr):Prop where
 a:AT t
 s:Dh t
 z:t.size<=25
 g:∃ x∈walk [] t,x.2.wd = "gap"
theorem Zgu {xs:List Str}(h:xs.length=4):∃ a b c d,xs=[a,b,c,d]:=by
 match xs,h with
 | [a,b,c,d],_=>exact ⟨a,b,c,d,rfl⟩
theorem Ms:GT gapT:=Hc (.inl rfl)
theorem Nj {x y:Tr}(h:GT x)(h':GT y):∀ t∈[x,y],GT t:=fun t ht=>by
 simp only [Ph,P3,or_false] at ht
 rcases ht with rfl | rfl <;> assumption
theorem Zns {x y z:Tr}(h:GT x)(h':GT y)(h2:GT z):∀ t∈[x,y,z],GT t:=fun t ht=>by
 simp only [Ph,P3,or_false] at ht
 rcases ht with rfl | rfl | rfl <;> assumption
theorem Zi3 {x:Tr}(h:GT x):∀ t∈[x],GT t:=fun t ht=>by
 rw [P7.mp ht];exact h
theorem ar_36:C6 "if" = 3/\C6 "plus" = 2/\C6 "let" = 2/\C6 "call" = 2/\C6 "fn" = 1:=by decide +kernel
theorem Mi:gapT.size=1:=by unfold gapT;rw [Tr.size,Bu]
theorem Zhh {t1 t2:Tr}(h1:GT t1)(h2:GT t2)(z1:t1.size<=7)(z2:t2.size<=10):TG (.mk "if" (.flat .non) [gapT,t1,t2]):=by
 have g:=F3 (w := "if") (ts:=[gapT,t1,t2]) (n:=.flat .non) (Ld (by decide +kernel) (by decide +kernel) (by decide +kernel) (by decide +kernel)) (by decide +kernel) ar_36.1.symm (Zns Ms h1 h2)
 refine ⟨g.a,g.s,?_,⟨([0],gapT),?_,rfl⟩⟩
 ·rw [Tr.size,Bu,Bu,Bu,Bu,Mi];omega
 ·rw [walk,A4]
  unfold gapT
  rw [walk]
  simp
theorem Zoc {t1:Tr}{a:Str}(h1:GT t1)(z1:t1.size<=19):TG (.mk "let" (.flat (.str a)) [t1,.mk "plus" (.flat .non) [gapT,.mk "name" (.flat (.str a)) []]]):=by
 have g2:=F3 (w := "plus") (ts:=[gapT,.mk "name" (.flat (.str a)) []]) (n:=.flat .non) (Ld (by decide +kernel) (by decide +kernel) (by decide +kernel) (by decide +kernel)) (by decide +kernel) ar_36.2.1.symm (Nj Ms (Zge (nm:=a)))
 have g:=F3 (w := "let") (ts:=[t1,.mk "plus" (.flat .non) [gapT,.mk "name" (.flat (.str a)) []]]) (n:=.flat (.str a)) ⟨fun _=>⟨a,rfl⟩,fun h=>absurd h (by decide +kernel)⟩ (by decide +kernel) ar_36.2.2.1.symm (Nj h1 g2)
 refine ⟨g.a,g.s,?_,⟨([1,0],gapT),?_,rfl⟩⟩
 ·simp only [Tr.size,Bu,Mi];omega
 ·simp only [walk,A4]
  unfold gapT
  simp only [walk,A4]
  simp
theorem Zlb {t1:Tr}{a:Str}(h1:GT t1)(z1:t1.size<=19):TG (.mk "fn" (.flat (.str a)) [.mk "call" (.flat .non) [t1,gapT]]):=by
 have g2:=F3 (w := "call") (ts:=[t1,gapT]) (n:=.flat .non) (Ld (by decide +kernel) (by decide +kernel) (by decide +kernel) (by decide +kernel)) (by decide +kernel) ar_36.2.2.2.1.symm (Nj h1 Ms)
 have g:=F3 (w := "fn") (ts:=[.mk "call" (.flat .non) [t1,gapT]]) (n:=.flat (.str a)) ⟨fun _=>⟨a,rfl⟩,fun h=>absurd h (by decide +kernel)⟩ (by decide +kernel) ar_36.2.2.2.2.symm (Zi3 g2)
 refine ⟨g.a,g.s,?_,⟨([0,1],gapT),?_,rfl⟩⟩
 ·simp only [Tr.size,Bu,Mi];omega
 ·simp only [walk,A4]
  unfold gapT
  simp only [walk,A4]
  simp
noncomputable def PlAt (K:O9)(H:Hp)(v:V)(pl:List Nat):Prop:=∃ c,v=.ref c/\SqT K H c (Ba pl)
theorem PlAt.same {H H':Hp}(e:SameT H H')(v:V)(pl:List Nat)(h:PlAt K H v pl):PlAt K H' v pl:=let ⟨c,h1,h2⟩:=h;⟨c,h1,e.tup h2⟩
theorem PlAt.al {H:Hp}{vs:List V}{ms:List (List Nat)}(h:Al (PlAt K H) vs ms):Al (fun v ys=>∃ c,v=.ref c/\SqT K H c (ys.map V.int)) vs (ms.map A9):=⟨by rw [Pe];exact h.1,fun j v ys hv hy=>by
 rw [Pq] at hy
 cases hm:ms[j]? with
 | none=>rw [hm] at hy;cases hy
 | some pl =>
  rw [hm] at hy
  cases hy
  obtain ⟨c,e,q⟩:=h.2 j v pl hv hm
  exact ⟨c,e,by rw [<- E2];exact q⟩⟩
theorem Zke {a b:List Nat}(h:A9 a=A9 b):a=b:=(List.map_inj_right (fun x y e=>by omega)).mp h
noncomputable def plDt (pl:List Nat):Dt:=.tup ((pl.map fun i=>((i:Nat):Int)).map fun i=>.flat (.int i))
noncomputable def pmD (y:Pm):Dt:=.tup [plDt y.1,.flat (.str y.2)]
theorem PmAt.d {H:Hp}{v:V}{y:Pm}(h:PmAt K H v y):IsD K H 2 v (pmD y):=by
 obtain ⟨e,p,rfl,q,hp⟩:=h
 refine .tup q rfl fun j v d h h'=>?_
 match j,h,h' with
 | 0,h,h'=>cases h;cases h';exact (Zkc (n:=0) (by rw [<- E2];exact hp))
 | 1,h,h'=>cases h;cases h';exact .flat rfl
theorem pmOk (y:Pm)(h:y.1.length<=1000):F2 (pmD y):=.tup (by show 2<=5000;decide) fun d hd=>by
 rcases Ph.mp hd with rfl | hd
 ·refine .tup (by simp;omega) fun d hd=>?_
  obtain ⟨i,_,rfl⟩:=Qr.mp hd
  exact .flat _
 ·rw [P7.mp hd];exact .flat _
theorem Al.lst {H:Hp}{a:Addr}{vs:List V}{xs:List Pm}(h:Al (PmAt K H) vs xs)(e:H a=some (.lst vs)):IsD K H 3 (.ref a) (.lst (xs.map pmD)):=.lst (SqL.of e) (by rw [Pe];exact h.1) fun j v d hv hd'=>by
 rw [Pq] at hd'
 cases hx:xs[j]? with
 | none=>rw [hx] at hd';cases hd'
 | some x=>rw [hx] at hd';cases hd';exact (h.2 j v x hv hx).d
theorem Zb2 {xs:List Pm}(hl:xs.length<=5000)(h:∀ x∈xs,x.1.length<=1000):F2 (.lst (xs.map pmD)):=.lst (by rw [Pe];exact hl) fun d hd=>by
 obtain ⟨x,hx,rfl⟩:=Qr.mp hd
 exact pmOk x (h x hx)
theorem Zgb {H:Hp}{vs:List V}{t:Tr}{ks:List Kd}{fs:List Bool}(h:Al (MkAt K H) vs ((Ck t ks fs).filter mB)):Al (PmAt K H) vs ((Cb t fs).filter qB):=by
 have e:(Cb t fs).filter qB=((Ck t ks fs).filter mB).map pm:=by
  rw [<- Zmp t ks fs,List.filter_map]
  rfl
 rw [e]
 refine ⟨by rw [Pe];exact h.1,fun j v y hv hy=>?_⟩
 rw [Pq] at hy
 cases hm:((Ck t ks fs).filter mB)[j]? with
 | none=>rw [hm] at hy;cases hy
 | some r =>
  rw [hm] at hy
  cases hy
  exact h.2 j v r hv hm
theorem Kk {t:Tr}{fs:List Bool}{p:Pm->Bool}:((Cb t fs).filter p).length<=t.size:=by
 refine P5 (Rn _ _) ?_
 unfold Cb
 rw [Vz,Ep]
 exact Pc _
theorem Zb6 {t:Tr}{fs:List Bool}(hz:t.size<=40):∀ y∈Cb t fs,y.1.length<=1000:=fun y hy=>by
 obtain ⟨i,x,hx,rfl⟩:=Lm hy
 have:=Hf [] t _ (Qb hx)
 simp at this
 show x.1.length<=1000
 omega
noncomputable def Hd (x:List Nat×Tr):Bool:=decide (x.2.wd = "gap")
theorem Zjq (g:List Nat)(L:List Pm):(L.filter qB).filter (Fn g)=L.filter (E5 g):=by
 rw [V0]
 congr 1
 funext y
 unfold Fn qB E5
 rw [Rt,Rr,decide_eq_true_iff,decide_eq_true_iff,decide_eq_true_iff]
 constructor
 ·rintro ⟨⟨a,b⟩,c⟩
  exact ⟨c,a,b⟩
 ·rintro ⟨a,b,c⟩
  exact ⟨⟨b,c⟩,a⟩
noncomputable def Zfz (K:O9):Sp:=fun vs H Q _=>∃(a:Addr)(ns:List Int),vs=[.ref a]/\SqL K H a (ns.map V.int)/\ns.length<=63/\∀ H',Q (.bl true) H'
theorem Zjm:(["_law_pair"]:List Str).Nodup:=by decide +kernel
theorem Zpu:(["_law_pair"]:List Str).Nodup:=by decide +kernel
theorem Zm1:(["_law_pair", "_law_place"]:List Str).Nodup:=by decide +kernel
theorem Zhn:(["_law_pair", "_law_place"]:List Str).Nodup:=by decide +kernel
theorem sc_law:Bp ["_law_script", "_law_names_here", "_law_few", "_law_tree_here", "_law_last", "_law_empty", "_law_place", "_law_other", "_law_told", "_law_found"] ["_law_script"] (Bh Iy):=by walk_at "sc"
theorem Zgr {f:Addr}{fd:FuncData}(F:Fun K "law" "law" Iy f fd)(T:Txt K mg)(C__law_cell_at:Be P w K mg base 1 "_law_cell_at" ["_law_script", "_law_k"] (Za0 K))(C__law_names:Be P w K mg base 1 "_law_names" ["_law_cell", "_law_at"] Zc4)(C__law_tree:Be P w K mg base 15 "_law_tree" ["_law_cells", "_law_names_here"] (F8 K 13))(C__law_walk:Be P w K mg base 1 "_law_walk" ["_law_tree_here"] (Zet K))(C__law_filled:Be P w K mg base 41 "_law_filled" ["_law_form", "_law_place", "_law_other"] (Gj K 40))(C_marks:Be P w K mg base 9 "marks" ["tree"] (Zfx K))(C__law_outside:Be P w K mg base 1 "_law_outside" ["_law_told", "_law_place"] (Zcs K))(C__law_same:Be P w K mg base 11 "_law_same" ["_law_found", "_law_due"] (Gi K 10)):Bb P w K mg base Bc 42 f fd ["_law_script"] (Zfz K):=by
 refine F.okq sc_law (fun vs H Q E h=>?_) (fun cdv A outer s H vs Q E hr h=>?_)
 ·obtain ⟨a,ns,rfl,_⟩:=h
  rfl
 ·obtain ⟨a,ns,rfl,hS,hl,q⟩:=h
  have S:Script K H a:=⟨ns,hS,hl⟩
  refine ⟨_,Af (Ar 1 sc_law (A5 C__law_names hr.m (Aa (A5 C__law_cell_at hr.m (Aa (qv 0) (Aa Ah Ab))) (Aa (A5 C__law_cell_at hr.m (Aa (qv 0) (Aa Ah Ab))) Ab))))
   (Af (Ar 2 sc_law (C1 (Ed K) (qv 1) (Ew) (Cd (Ao K (Bf (Ku (xs:=[.int 1,.int 2,.int 2,.int 3,.int 4]) rfl)) (A0 Cf (A0 Eh (A5 C__law_cell_at hr.m (Aa (qv 0) (Aa Ah Ab))) Ah) Ah)))))
   (Af (Ar 3 sc_law (Ap (Aa Av (Aa Dx (Aa (Ap (Aa (Ap (Aa Av (Aa Dx (Aa (Ap Ab) Ab)))) (Aa (A5 C__law_tree hr.m (Aa (C1 (Ed K) (qv 0) (Cd Ah) (Cd Ah)) (Aa (qv 2) Ab))) (Aa (A5 C__law_tree hr.m (Aa (C1 (Ed K) (qv 0) (Cd Ah) (Cd Ah)) (Aa (qv 2) Ab))) Ab)))) Ab)))))
   (Af (Ay (A6 (Bl K hr.u200) (A0 Cf (A5 C__law_cell_at hr.m (Aa (qv 0) (Aa Ah Ab))) Ah) Ah (A7 _)) (Af (Ar 4 sc_law (Ap (Aa Av (Aa Dx (Aa (Ap (Aa (Ap (Aa Av (Aa Dx (Aa (Ap Ab) Ab)))) (Aa (Ap (Aa Av (Aa (Ao K (qv 1) Ah) (Aa (Ap Ab) Ab)))) Ab))) Ab)))))
   (Aj (Ar 3 sc_law (Ap (Aa Av (Aa (Ao K (qv 1) Ah) (Aa (Ap (Aa (A5 C__law_tree hr.m (Aa (C1 (Ed K) (qv 0) (Cd Ah) (Cd Ah)) (Aa (qv 2) Ab))) (Aa (qv 4) Ab))) Ab))))))) A8)
   (Af (Ay (A6 (Bl K hr.u200) (A0 Cf (A5 C__law_cell_at hr.m (Aa (qv 0) (Aa Ah Ab))) Ah) Ah (A7 _)) (Aj (Ar 3 sc_law (Ap (Aa Av (Aa (Ao K (qv 1) Ah) (Aa (Ap (Aa (Ap (Aa Av (Aa Dx (Aa (Ap (Aa (A5 C__law_tree hr.m (Aa (C1 (Ed K) (qv 0) (Cd Ah) (Cd Ah)) (Aa (qv 2) Ab))) (Aa (Ap (Aa Av (Aa Dx (Aa (Ap Ab) Ab)))) Ab))) Ab)))) Ab)) Ab)))))) A8)
   (Af (La (i:=5) (N:=["_law_pair"]) (σ0:=Cq 1 []) rfl (Dl rfl (by decide +kernel) (by decide +kernel) (by decide +kernel)) (Cp K (A5 C__law_walk hr.m (Aa (qv 3) Ab))) (Dq rfl (by rfl)) (fun _ _ _ _=>A1 (i:=0) Zjm rfl (Or.inl rfl)) (fun _ _ _ _=>Kb (A6 (Bl K hr.u200) (Ao K (Ao K (qv 0) Ah) Ah) Av (A7 _))) (fun _ _ _ _=>Na (Mx K) (qv 0) Ah (fun _ _=>rfl)) sc_law.nd rfl (Or.inl rfl))
   (Af (Hs (i:=6) sc_law.nd rfl (Or.inr rfl) (Ao K (qv 5) (A0 Cf (A0 Eh (A5 C__law_cell_at hr.m (Aa (qv 0) (Aa Ah Ab))) Ah) (B1 (Cn K) (by rfl) T.len (by decide +kernel) (Aa (qv 5) Ab)))))
   (Af (Ar 7 sc_law (A5 C__law_filled hr.m (Aa (qv 3) (Aa (qv 6) (Aa (A5 C__law_tree hr.m (Aa (C1 (Ed K) (qv 0) (Cd Ah) (Cd Ah)) (Aa (qv 2) Ab))) Ab)))))
   (Af (Ar 8 sc_law (A5 C_marks hr.m (Aa (qv 3) Ab)))
   (Af (Ar 9 sc_law (A5 C_marks hr.m (Aa (qv 7) Ab)))
   (Af (Ay (A6 (Zqv K hr.u200) (qv 6) (Ey (N:=["_law_pair"]) (σ0:=Cq 1 []) rfl (Dl rfl (by decide +kernel) (by decide +kernel) (by decide +kernel)) (Cp K (qv 8)) (Dq rfl (by rfl)) (fun _ _ _ _=>A1 (i:=0) Zpu rfl (Or.inl rfl)) (fun _ _ _ _=>Fa) (fun _ _ _ _=>Na (Mx K) (qv 0) Ah (fun _ _=>rfl))) (by rfl)) (Aj (Aw Ef)) A8)
   (Af (Ay (Hi (Ex (A5 C__law_same hr.m (Aa (Ey (N:=["_law_pair", "_law_place"]) (σ0:=Cq 1 [6]) rfl (Dl rfl (by decide +kernel) (by decide +kernel) (by decide +kernel)) (Cp K (qv 9)) (Dq rfl (by rfl)) (fun _ _ _ _=>A1 (i:=0) Zhn rfl (Or.inl rfl)) (fun _ _ _ _=>Kb (A6 (Zcj K hr.u200) (Ao K (qv 0) Ah) (qv 1) (A7 _))) (fun _ _ _ _=>qv 0)) (Aa (Ey (N:=["_law_pair", "_law_place"]) (σ0:=Cq 1 [6]) rfl (Dl rfl (by decide +kernel) (by decide +kernel) (by decide +kernel)) (Cp K (qv 8)) (Dq rfl (by rfl)) (fun _ _ _ _=>A1 (i:=0) Zm1 rfl (Or.inl rfl)) (fun _ _ _ _=>Kb (A6 (Zcj K hr.u200) (Ao K (qv 0) Ah) (qv 1) (A7 _))) (fun _ _ _ _=>qv 0)) Ab))))) (Aj (Aw Ef)) A8)
   (Aj (Aw (A5 C__law_same hr.m (Aa (A5 C__law_outside hr.m (Aa (qv 9) (Aa (qv 6) Ab))) (Aa (A5 C__law_outside hr.m (Aa (qv 8) (Aa (qv 6) Ab))) Ab)))))))))))))))),?_⟩
  have bg:=big
  walk_at "r"
  refine ⟨a,0,rfl,S,by decide,fun z0=>?_⟩
  walk_at "r"
  refine ⟨a,1,rfl,S,by decide,fun z1=>?_⟩
  walk_at "r"
  refine ⟨z0,z1,rfl,fun pn ts H1 s1 hpn lt bt e1=>?_⟩
  walk_at "r"
  refine ⟨sz5,fun p5 h5=>?_⟩
  have s2:Same H1 (upd H1 p5 (.lst [V.int 1,.int 2,.int 2,.int 3,.int 4])):=Same.upd h5
  walk_at "r"
  refine ⟨a,1,rfl,(S.same s1).same s2,by decide,fun z2=>?_⟩
  walk_at "r"
  obtain ⟨k,hk,k1,k4⟩:=Zo2 (z2 / 8)
  refine Bk (SqL.of Ad) hk ?_
  refine ⟨_,rfl,?_⟩
  refine F6 (SqL.of (s2 _ _ e1)) fun pf hpf=>?_
  rw [Zno]
  have N0:Nms K (upd (upd H1 p5 (.lst [V.int 1,.int 2,.int 2,.int 3,.int 4])) pf (.lst ((ts.take k).map V.str))) pf (ts.take k):=⟨Ad,by rw [Pt];omega,fun t h=>bt t (List.mem_of_mem_take h),by rw [Pt];omega⟩
  have s3:=s2.put (o:=.lst ((ts.take k).map V.str)) hpf
  have e3:=s3 _ _ e1
  revert N0 s3 e3
  generalize upd (upd H1 p5 (.lst [V.int 1,.int 2,.int 2,.int 3,.int 4])) pf (.lst ((ts.take k).map V.str))=H3
  generalize ts.take k=fw
  intro N0 s3 e3
  obtain ⟨n0,n1,n2,n3,rfl⟩:=Zgu lt
  have s13:=s1.trans s3
  have hS3:=s13.seq hS
  have S3:=S.same s13
  walk_at "r"
  refine ⟨Bo,fun p6 hp6=>?_⟩
  walk_at "r"
  refine ⟨B0,fun p7 hp7=>?_⟩
  obtain ⟨As,Ag⟩:=Mu (K:=K) hp6 hp7
  revert As Ag
  generalize upd (upd H3 p6 (.tup [])) p7 (.tup [.str "gap",.non,.ref p6])=H7
  intro As Ag
  have S7:=s13.trans As
  have S73:=As
  walk_at "r"
  refine F6 (S7.seq hS) fun pc hpc=>?_
  obtain ⟨ms1,ems1,lms1⟩:=Ik ns 3 6
  have ems1:Bq (ns.map V.int) (some 3) (some 6)=ms1.map V.int:=ems1
  rw [ems1]
  walk_at "r"
  refine ⟨pc,pf,ms1,fw,rfl,Ad,(N0.same S73).same (Same.upd hpc),by omega,by omega,fun v1 t1 H8 sH8 tv1 gt1 zt1=>?_⟩
  unfold Ei at zt1
  have sH8:=(Same.upd (o:=.lst (ms1.map V.int)) hpc).trans sH8
  have S8:=S7.trans sH8
  have S83:=S73.trans sH8
  walk_at "r"
  refine F6 (S8.seq hS) fun pd hpd=>?_
  obtain ⟨ms2,ems2,lms2⟩:=Ik ns 6 10
  have ems2:Bq (ns.map V.int) (some 6) (some 10)=ms2.map V.int:=ems2
  rw [ems2]
  walk_at "r"
  refine ⟨pd,pf,ms2,fw,rfl,Ad,(N0.same S83).same (Same.upd hpd),by omega,by omega,fun v2 t2 H9 sH9 tv2 gt2 zt2=>?_⟩
  unfold Ei at zt2
  have sH9:=(Same.upd (o:=.lst (ms2.map V.int)) hpd).trans sH9
  have S9:=S8.trans sH9
  have S93:=S83.trans sH9
  walk_at "r"
  refine ⟨B0,fun pa hpa=>?_⟩
  walk_at "r"
  refine ⟨B0,fun pb hpb=>?_⟩
  have g1:=Same.upd (o:=.tup [.ref p7,v1,v2]) hpa
  have g2:=Same.upd (o:=.tup [.str "if",.non,.ref pa]) hpb
  have T0:TrAt K (upd (upd H9 pa (.tup [.ref p7,v1,v2])) pb (.tup [.str "if",.non,.ref pa])) (.ref pb) (.mk "if" (.flat .non) [gapT,t1,t2]):=.mk (SqT.of Ad) (.inl ⟨rfl,rfl⟩) (SqT.of (g2 _ _ Ad)) rfl fun j v t f1 f2=>by
   have sm:=g1.trans g2
   match j,f1,f2 with
   | 0,f1,f2=>cases f1;cases f2;exact Ag.same (sH8.trans (sH9.trans sm))
   | 1,f1,f2=>cases f1;cases f2;exact tv1.same (sH9.trans sm)
   | 2,f1,f2=>cases f1;cases f2;exact tv2.same sm
  have G0:TG (.mk "if" (.flat .non) [gapT,t1,t2]):=Zhh gt1 gt2 (by omega) (by omega)
  have Sx:=S9.trans (g1.trans g2)
  have Sx3:=S93.trans (g1.trans g2)
  revert T0 G0 Sx Sx3
  generalize upd (upd H9 pa (.tup [.ref p7,v1,v2])) pb (.tup [.str "if",.non,.ref pa])=HX
  generalize Tr.mk "if" (.flat .non) [gapT,t1,t2]=tx
  intro T0 G0 Sx Sx3
  iterate 2 walk_at "r1"
  refine Fu (t:=Fm _ _ _) (R:=fun σ' H'=>∃ tv t l,σ'=[some (.ref a),some (.ref pn),some (.ref pf),some tv,l,none,none,none,none,none]/\Same HX H'/\TrAt K H' tv t/\TG t) ?_ ?_
  ·intro Y hY
   walk_at "r"
   refine ⟨a,2,rfl,S.same Sx,by decide,fun z3=>?_⟩
   walk_at "r"
   refine Bv (fun _=>?_) (fun _=>?_)
   ·walk_at "r"
    refine ⟨Bo,fun q1 hq1=>?_⟩
    walk_at "r"
    refine ⟨B0,fun q2 hq2=>?_⟩
    obtain ⟨Bs,Bg⟩:=Mu (K:=K) hq1 hq2
    revert Bs Bg
    generalize upd (upd HX q1 (.tup [])) q2 (.tup [.str "gap",.non,.ref q1])=HB
    intro Bs Bg
    walk_at "r"
    refine Bk (SqL.of ((Sx3.trans Bs) _ _ e3)) (Cy (j:=0) rfl) ?_
    walk_at "r"
    refine ⟨Bo,fun q3 hq3=>?_⟩
    walk_at "r"
    refine ⟨B0,fun q4 hq4=>?_⟩
    have Cs:Same HB (upd (upd HB q3 (.tup [])) q4 (.tup [.str "name",.str n0,.ref q3])):=(Same.upd hq3).trans (Same.upd hq4)
    have Cg:TrAt K (upd (upd HB q3 (.tup [])) q4 (.tup [.str "name",.str n0,.ref q3])) (.ref q4) (.mk "name" (.flat (.str n0)) []):=.mk (SqT.of Ad) (.inl ⟨rfl,rfl⟩) (SqT.of ((Same.upd (o:=.tup [.str "name",.str n0,.ref q3]) hq4) _ _ Ad)) rfl fun j v t f1 _=>by simp at f1
    revert Cs Cg
    generalize upd (upd HB q3 (.tup [])) q4 (.tup [.str "name",.str n0,.ref q3])=HC
    intro Cs Cg
    walk_at "r"
    refine ⟨B6,fun q5 hq5=>?_⟩
    walk_at "r"
    refine ⟨B0,fun q6 hq6=>?_⟩
    obtain ⟨Ds,Dg⟩:=two_al (K:=K) (w := "plus") (nv:=.non) (n:=.flat .non) (fun _=>.inl ⟨rfl,rfl⟩) (Bg.same Cs) Cg hq5 hq6
    revert Ds Dg
    generalize upd (upd HC q5 (.tup [.ref q2,.ref q4])) q6 (.tup [.str "plus",.non,.ref q5])=HD
    intro Ds Dg
    have sD:=Sx3.trans (Bs.trans (Cs.trans Ds))
    have sXD:=Bs.trans (Cs.trans Ds)
    have SD:=Sx.trans sXD
    walk_at "r"
    refine Bk (SqL.of (sD _ _ e3)) (Cy (j:=0) rfl) ?_
    walk_at "r"
    refine F6 (SD.seq hS) fun pe hpe=>?_
    obtain ⟨ms3,ems3,lms3⟩:=Ik ns 3 10
    have ems3:Bq (ns.map V.int) (some 3) (some 10)=ms3.map V.int:=ems3
    rw [ems3]
    walk_at "r"
    refine ⟨pe,pf,ms3,fw,rfl,Ad,(N0.same sD).same (Same.upd hpe),by omega,by omega,fun v3 t3 HE sHE tv3 gt3 zt3=>?_⟩
    unfold Ei at zt3
    have sHE:=(Same.upd (o:=.lst (ms3.map V.int)) hpe).trans sHE
    walk_at "r"
    refine ⟨B6,fun q7 hq7=>?_⟩
    walk_at "r"
    refine ⟨B0,fun q8 hq8=>?_⟩
    obtain ⟨Es,Eg⟩:=two_al (K:=K) (w := "let") (nv:=.str n0) (n:=.flat (.str n0)) (fun _=>.inl ⟨rfl,rfl⟩) tv3 (Dg.same sHE) hq7 hq8
    walk_at "r"
    exact hY _ _ ⟨_,_,_,rfl,sXD.trans (sHE.trans Es),Eg,Zoc gt3 (by omega)⟩
   ·walk_at "r"
    exact hY _ _ ⟨_,_,_,rfl,Same.refl _,T0,G0⟩
  rintro _ HF ⟨tv,t,l4,rfl,sF,T1,G1⟩
  have SF:=Sx.trans sF
  have SF3:=Sx3.trans sF
  clear T0 G0
  iterate 1 walk_at "r1"
  refine Fu (t:=Fm _ _ _) (R:=fun σ' H'=>∃ tv t l,σ'=[some (.ref a),some (.ref pn),some (.ref pf),some tv,l,none,none,none,none,none]/\Same HF H'/\TrAt K H' tv t/\TG t) ?_ ?_
  ·intro Y hY
   walk_at "r"
   refine ⟨a,2,rfl,S.same SF,by decide,fun z4=>?_⟩
   walk_at "r"
   refine Bv (fun _=>?_) (fun _=>?_)
   ·walk_at "r"
    refine Bk (SqL.of (SF3 _ _ e3)) (Cy (j:=1) rfl) ?_
    walk_at "r"
    refine F6 (SF.seq hS) fun pg hpg=>?_
    obtain ⟨ms4,ems4,lms4⟩:=Ik ns 3 10
    have ems4:Bq (ns.map V.int) (some 3) (some 10)=ms4.map V.int:=ems4
    rw [ems4]
    walk_at "r"
    refine ⟨pg,pf,ms4,fw,rfl,Ad,(N0.same SF3).same (Same.upd hpg),by omega,by omega,fun v5 t4 HG sHG tv5 gt4 zt4=>?_⟩
    unfold Ei at zt4
    have sHG:=(Same.upd (o:=.lst (ms4.map V.int)) hpg).trans sHG
    walk_at "r"
    refine ⟨Bo,fun q1 hq1=>?_⟩
    walk_at "r"
    refine ⟨B0,fun q2 hq2=>?_⟩
    obtain ⟨Bs,Bg⟩:=Mu (K:=K) hq1 hq2
    revert Bs Bg
    generalize upd (upd HG q1 (.tup [])) q2 (.tup [.str "gap",.non,.ref q1])=HB
    intro Bs Bg
    walk_at "r"
    refine ⟨B6,fun q5 hq5=>?_⟩
    walk_at "r"
    refine ⟨B0,fun q6 hq6=>?_⟩
    obtain ⟨Ds,Dg⟩:=two_al (K:=K) (w := "call") (nv:=.non) (n:=.flat .non) (fun _=>.inl ⟨rfl,rfl⟩) (tv5.same Bs) Bg hq5 hq6
    revert Ds Dg
    generalize upd (upd HB q5 (.tup [v5,.ref q2])) q6 (.tup [.str "call",.non,.ref q5])=HD
    intro Ds Dg
    walk_at "r"
    refine ⟨Cm,fun q7 hq7=>?_⟩
    walk_at "r"
    refine ⟨B0,fun q8 hq8=>?_⟩
    have u1:=Same.upd (o:=.tup [.ref q6]) hq7
    have u2:=Same.upd (o:=.tup [.str "fn",.str n1,.ref q7]) hq8
    walk_at "r"
    refine hY _ _ ⟨_,_,_,rfl,sHG.trans (Bs.trans (Ds.trans (u1.trans u2))),.mk (SqT.of Ad) (.inl ⟨rfl,rfl⟩) (SqT.of (u2 _ _ Ad)) rfl (fun j v t f1 f2=>?_),Zlb gt4 (by omega)⟩
    match j,f1,f2 with
    | 0,f1,f2=>cases f1;cases f2;exact Dg.same (u1.trans u2)
   ·walk_at "r"
    exact hY _ _ ⟨_,_,_,rfl,Same.refl _,T1,G1⟩
  clear T1 G1 tv t l4
  rintro _ HH ⟨tv,t,l4,rfl,sH,T1,G1⟩
  have SH:=SF.trans sH
  have SH3:=SF3.trans sH
  obtain ⟨ha,hs,hz,hgap⟩:=G1
  walk_at "r"
  refine ⟨tv,t,rfl,T1,by omega,fun pw wv HI sI ew aw=>?_⟩
  have T1I:=T1.same sI
  have SI:=SH.trans sI
  have SI3:=SH3.trans sI
  have hwl:wv.length<=40:=by rw [aw.1,Ep];omega
  refine .inl ⟨pw,rfl,⟨_,SqL.of ew⟩,fun D hD=>?_⟩
  refine E4 (K:=K) (a:=pw) (xs:=wv) (Pv:=fun i ys σ' H'=>∃ x0,σ'=[x0]/\Al (PlAt K H') ys ((((walk [] t).take i).filter Hd).map (·.1))/\Same HI H') ⟨none,rfl,.nil,Same.upd hD⟩ ?_ ?_ ?_
  ·rintro i ys σ' H' _ ⟨_,_,_,sm⟩
   exact SqL.of (sm _ _ ew)
  ·rintro i x ys σ' H' hx hys ⟨x0,rfl,aly,sm⟩
   have hi:=(Pg.mp hx).1
   obtain ⟨r2,hr2,e2,p2,u2,rfl,qe2,qp2,qu2⟩:=aw.get hx
   have et:=Ln (p:=Hd) hr2
   have hyl:ys.length<=i:=by
    have:=Rn Hd ((walk [] t).take i)
    rw [Pt] at this
    rw [aly.1,Pe]
    omega
   walk_at "r"
   refine Az (sm.tup qe2) (v:=u2) rfl ?_
   obtain ⟨pl2,tx2⟩:=r2
   cases qu2 with
   | @mk va pp wd nv nt us ts2 qv hn qpp hul hch =>
   walk_at "r"
   refine Az (sm.tup qv) (v:=.str wd) rfl ?_
   walk_at "r"
   by_cases cw:wd = "gap"
   ·have hb:Hd (pl2,Tr.mk wd nt ts2)=true:=decide_eq_true cw
    rw [hb,if_pos rfl] at et
    rw [decide_eq_true (show V.str wd=V.str "gap" by rw [cw])]
    refine iteT ?_
    walk_at "r"
    refine Az (sm.tup qe2) (v:=.ref p2) rfl ?_
    have t9:=SameT.set (o:=.lst (ys++[.ref p2])) hys
    refine ⟨ys,hys,by omega,_,Ad,_,rfl,?_,sm.over hD⟩
    rw [et,Qf]
    exact (aly.mono (PlAt.same t9)).snoc ⟨p2,rfl,t9.tup (SqT.of (sm _ _ qp2))⟩
   ·have hb:Hd (pl2,Tr.mk wd nt ts2)=false:=decide_eq_false cw
    rw [hb,if_neg (by decide),Qc] at et
    rw [decide_eq_false (show ¬ V.str wd=V.str "gap" from fun z=>cw (V.str.inj z))]
    refine iteF ?_
    exact ⟨ys,hys,_,rfl,by rw [et];exact aly,sm⟩
  rintro ys σ' HJ hys ⟨x0,rfl,aly,sJ⟩
  rw [Qp (by rw [aw.1];exact Pc _)] at aly
  have SJ:=SI.trans sJ
  have SJ3:=SI3.trans sJ
  have hpos:(0:Int) < ys.length:=by
   obtain ⟨x,hx,hw⟩:=hgap
   have hm:x.1∈((walk [] t).filter Hd).map (·.1):=List.mem_map_of_mem (Ri.mpr ⟨hx,decide_eq_true hw⟩)
   have:=List.length_pos_of_mem hm
   rw [aly.1]
   omega
  walk_at "r"
  refine ⟨a,2,rfl,S.same SJ,by decide,fun z5=>?_⟩
  walk_at "r"
  refine Dv (SqL.of hys) ?_
  walk_at "r"
  refine s_rI hpos ?_
  obtain ⟨v6,hv6,hm6⟩:=Fc (xs:=ys) (i:=z5 / 3 % (ys.length:Int)) (Rv _ (by omega)) (Ro _ hpos)
  obtain ⟨j6,hj6⟩:=List.getElem?_of_mem hm6
  obtain ⟨g,hg6,p6',rfl,qg⟩:=aly.get hj6
  obtain ⟨x6,hx6,rfl⟩:=Qr.mp (Qb hg6)
  obtain ⟨hx6,hw6⟩:=Ri.mp hx6
  have hw6:x6.2.wd = "gap" := of_decide_eq_true hw6
  obtain ⟨g',eg',hhas⟩:=Zai t [] x6 hx6
  rw [Ru] at eg'
  rw [<- eg'] at hhas
  clear eg' g'
  generalize x6.2=sg at hw6 hhas
  generalize x6.1=g at qg hhas
  walk_at "r"
  refine Bk (SqL.of hys) hv6 ?_
  walk_at "r"
  refine F6 (SJ.seq hS) fun ph hph=>?_
  obtain ⟨ms5,ems5,lms5⟩:=Ik ns 10 14
  have ems5:Bq (ns.map V.int) (some 10) (some 14)=ms5.map V.int:=ems5
  rw [ems5]
  walk_at "r"
  refine ⟨ph,pf,ms5,fw,rfl,Ad,(N0.same SJ3).same (Same.upd hph),by omega,by omega,fun vf tf HK sK tvf gtf ztf=>?_⟩
  unfold Ei at ztf
  have sK:=(Same.upd (o:=.lst (ms5.map V.int)) hph).trans sK
  have TK:=T1I.same (sJ.trans sK)
  have qgK:=sK.tup qg
  have hgl:=Zms hhas
  have hsz:=Zn8 (f:=tf) hhas
  have hsg:1<=sg.size:=by cases sg;rw [Tr.size];omega
  walk_at "r"
  refine ⟨tv,vf,p6',t,sg,tf,g,rfl,TK,qgK,tvf,hhas,by omega,by omega,fun ov HL sL tov=>?_⟩
  have ha':=Zme hhas gtf.a ha
  have hs':=Zor hhas.sub hs gtf.s
  obtain ⟨ks,ks',fs,fs',W⟩:=two_of hhas ha ha' (by omega) (by omega)
  have TL:=TK.same sL
  walk_at "r"
  refine ⟨tv,t,ks,fs,rfl,TL,hs,by omega,W.r,fun pm mv HM sM _ em am=>?_⟩
  have tovM:=tov.same sM
  walk_at "r"
  refine ⟨ov,_,ks',fs',rfl,tovM,hs',by omega,W.r',fun pm' mv' HN sN _ em' am'=>?_⟩
  have am:=Zgb (am.mono (MkAt.same sN.t))
  have am':=Zgb am'
  have emN:=sN _ _ em
  have qgN:=sN.tup (sM.tup (sL.tup qgK))
  clear sM sN tovM TL TK
  have hml:mv.length<=40:=by rw [am.1];exact P5 Kk (by omega)
  have hml':mv'.length<=40:=by rw [am'.1];exact P5 Kk (by omega)
  walk_at "r"
  refine .inl ⟨pm,rfl,⟨_,SqL.of emN⟩,fun D1 hD1=>?_⟩
  refine E4 (K:=K) (a:=pm) (xs:=mv) (Pv:=fun i ys σ' H'=>∃ x0,σ'=[x0]/\Al (PlAt K H') ys ((((Cb t fs).filter qB).take i).map (·.1))/\Same HN H') ⟨none,rfl,.nil,Same.upd hD1⟩ ?_ ?_ ?_
  ·rintro i ys σ' H' _ ⟨_,_,_,sm⟩
   exact SqL.of (sm _ _ emN)
  ·rintro i x ys σ' H' hx hys ⟨x0,rfl,aly,sm⟩
   have hi:=(Pg.mp hx).1
   obtain ⟨y,hy,e2,p2,rfl,qe2,qp2⟩:=am.get hx
   have et:((Cb t fs).filter qB).take (i+1)=((Cb t fs).filter qB).take i++[y]:=by rw [Qv,hy];rfl
   have hyl:ys.length<=i:=by rw [aly.1,Pe,Pt];omega
   walk_at "r"
   refine Az (sm.tup qe2) (v:=.ref p2) rfl ?_
   have t9:=SameT.set (o:=.lst (ys++[.ref p2])) hys
   refine ⟨ys,hys,by omega,_,Ad,_,rfl,?_,sm.over hD1⟩
   rw [et,Qf]
   exact (aly.mono (PlAt.same t9)).snoc ⟨p2,rfl,t9.tup (sm.tup qp2)⟩
  rintro ys1 σ' HO hys1 ⟨x0,rfl,aly1,sO⟩
  rw [Qp (by rw [am.1];exact Pc _)] at aly1
  have qgO:=sO.tup qgN
  refine ⟨p6',D1,A9 g,ys1,_,rfl,rfl,by rw [<- E2];exact qgO,SqL.of hys1,PlAt.al aly1,?_⟩
  have hno:A9 g ∉ (((Cb t fs).filter qB).map (·.1)).map A9:=fun h=>by
   obtain ⟨q1,h1,e1⟩:=Qr.mp h
   obtain ⟨y,hy,rfl⟩:=Qr.mp h1
   exact W.c0 hw6 y hy (Zke e1)
  rw [decide_eq_false hno]
  walk_at "r"
  have emO:=sO _ _ emN
  have emO':=sO _ _ em'
  have amO:=am.mono (PmAt.same sO.t)
  have amO':=am'.mono (PmAt.same sO.t)
  refine .inl ⟨pm',rfl,⟨_,SqL.of emO'⟩,fun D2 hD2=>?_⟩
  refine E4 (K:=K) (a:=pm') (xs:=mv') (Pv:=fun i ys σ' H'=>∃ x0,σ'=[x0,some (.ref p6')]/\Al (PmAt K H') ys ((((Cb (B8 t g tf) fs').filter qB).take i).filter (De g))/\Same HO H') ⟨none,rfl,.nil,Same.upd hD2⟩ ?_ ?_ ?_
  ·rintro i ys σ' H' _ ⟨_,_,_,sm⟩
   exact SqL.of (sm _ _ emO')
  ·rintro i x ys σ' H' hx hys ⟨x0,rfl,aly,sm⟩
   have hi:=(Pg.mp hx).1
   obtain ⟨y,hy,e2,p2,rfl,qe2,qp2⟩:=amO'.get hx
   have et:=Ln (p:=De g) hy
   have hyl:ys.length<=i:=by
    have:=Rn (De g) (((Cb (B8 t g tf) fs').filter qB).take i)
    rw [Pt] at this
    rw [aly.1]
    omega
   walk_at "r"
   refine Az (sm.tup qe2) (v:=.ref p2) rfl ?_
   walk_at "r"
   refine ⟨p2,p6',A9 y.1,A9 g,rfl,rfl,by rw [<- E2];exact sm.tup qp2,by rw [<- E2];exact sm.tup qgO,?_⟩
   walk_at "r"
   have hlt:HT.lexLt (A9 y.1) (A9 g)=De g y:=rfl
   rw [hlt]
   cases hb:De g y with
   | true =>
    rw [hb,if_pos rfl] at et
    refine iteT ?_
    walk_at "r"
    have t9:=SameT.set (o:=.lst (ys++[.ref e2])) hys
    refine ⟨ys,hys,by omega,_,Ad,_,rfl,?_,sm.over hD2⟩
    rw [et]
    exact (aly.mono (PmAt.same t9)).snoc ⟨e2,p2,rfl,t9.tup (sm.tup qe2),t9.tup (sm.tup qp2)⟩
   | false =>
    rw [hb,if_neg (by decide),Qc] at et
    refine iteF ?_
    exact ⟨ys,hys,_,rfl,by rw [et];exact aly,sm⟩
  rintro ys2 σ' HP hys2 ⟨x0,rfl,al2,sHP⟩
  rw [Qp (by rw [amO'.1];exact Pc _)] at al2
  have emP:=sHP _ _ emO
  have emP':=sHP _ _ emO'
  have amP:=amO.mono (PmAt.same sHP.t)
  have amP':=amO'.mono (PmAt.same sHP.t)
  have qgP:=sHP.tup qgO
  walk_at "r"
  refine .inl ⟨pm,rfl,⟨_,SqL.of emP⟩,fun D3 hD3=>?_⟩
  refine E4 (K:=K) (a:=pm) (xs:=mv) (Pv:=fun i ys σ' H'=>∃ x0,σ'=[x0,some (.ref p6')]/\Al (PmAt K H') ys ((((Cb t fs).filter qB).take i).filter (De g))/\Same HP H') ⟨none,rfl,.nil,Same.upd hD3⟩ ?_ ?_ ?_
  ·rintro i ys σ' H' _ ⟨_,_,_,sm⟩
   exact SqL.of (sm _ _ emP)
  ·rintro i x ys σ' H' hx hys ⟨x0,rfl,aly,sm⟩
   have hi:=(Pg.mp hx).1
   obtain ⟨y,hy,e2,p2,rfl,qe2,qp2⟩:=amP.get hx
   have et:=Ln (p:=De g) hy
   have hyl:ys.length<=i:=by
    have:=Rn (De g) (((Cb t fs).filter qB).take i)
    rw [Pt] at this
    rw [aly.1]
    omega
   walk_at "r"
   refine Az (sm.tup qe2) (v:=.ref p2) rfl ?_
   walk_at "r"
   refine ⟨p2,p6',A9 y.1,A9 g,rfl,rfl,by rw [<- E2];exact sm.tup qp2,by rw [<- E2];exact sm.tup qgP,?_⟩
   walk_at "r"
   have hlt:HT.lexLt (A9 y.1) (A9 g)=De g y:=rfl
   rw [hlt]
   cases hb:De g y with
   | true =>
    rw [hb,if_pos rfl] at et
    refine iteT ?_
    walk_at "r"
    have t9:=SameT.set (o:=.lst (ys++[.ref e2])) hys
    refine ⟨ys,hys,by omega,_,Ad,_,rfl,?_,sm.over hD3⟩
    rw [et]
    exact (aly.mono (PmAt.same t9)).snoc ⟨e2,p2,rfl,t9.tup (sm.tup qe2),t9.tup (sm.tup qp2)⟩
   | false =>
    rw [hb,if_neg (by decide),Qc] at et
    refine iteF ?_
    exact ⟨ys,hys,_,rfl,by rw [et];exact aly,sm⟩
  rintro ys3 σ' HQ hys3 ⟨x0,rfl,al3,sHQ⟩
  rw [Qp (by rw [amP.1];exact Pc _)] at al3
  have emQ:=sHQ _ _ emP
  have emQ':=sHQ _ _ emP'
  have amQ:=amP.mono (PmAt.same sHQ.t)
  have amQ':=amP'.mono (PmAt.same sHQ.t)
  have qgQ:=sHQ.tup qgP
  have al2:=al2.mono (PmAt.same sHQ.t)
  rw [W.c1] at al2
  walk_at "r"
  refine ⟨.ref D2,.ref D3,_,3,rfl,by decide,Al.lst al2 (sHQ _ _ hys2),Al.lst al3 hys3,Zb2 (P5 (Rn _ _) (P5 Kk (by omega))) (fun y hy=>Zb6 (by omega) y (Ri.mp (Ri.mp hy).1).1),fun HR sR=>?_⟩
  walk_at "r"
  refine ⟨pm',p6',mv',_,g,rfl,sR _ _ emQ',amQ'.mono (PmAt.same sR.t),hml',sR.tup qgQ,fun q1 zv1 HS sS eq1 alq1=>?_⟩
  walk_at "r"
  refine ⟨pm,p6',mv,_,g,rfl,sS _ _ (sR _ _ emQ),amQ.mono (PmAt.same (sR.trans sS).t),hml,sS.tup (sR.tup qgQ),fun q2 zv2 HT sT eq2 alq2=>?_⟩
  rw [Zjq] at alq1 alq2
  rw [W.c2] at alq1
  walk_at "r"
  refine ⟨.ref q1,.ref q2,_,3,rfl,by decide,Al.lst (alq1.mono (PmAt.same sT.t)) (sT _ _ eq1),Al.lst alq2 eq2,Zb2 (P5 Kk (by omega)) (fun y hy=>Zb6 (by omega) y (Ri.mp hy).1),fun HU sU=>?_⟩
  walk_at "r"
  exact q _
theorem Zlx:Bp ["shapes", "shape"] ["shapes", "shape"] (Bh Jy):=by walk_at "sc"
theorem Zla {f:Addr}{fd:FuncData}(F:Fun K "new_kind" "new_kind" Jy f fd)(T:Txt K mg):Bb P w K mg base Bc 1 f fd ["shapes", "shape"] Zcw:=by
 refine F.okq Zlx (fun vs H Q E h=>?_) (fun cdv A outer s H vs Q E hr h=>?_)
 ·obtain ⟨a,x,us,rfl,_⟩:=h
  rfl
 ·obtain ⟨a,x,us,rfl,ha,hl,q⟩:=h
  refine ⟨_,Af (Co (C4 K P8 Qn Qo Di (qv 0) (Aa (qv 1) Ab)))
   (Aj (Aw (A0 Ou (B1 (Cn K) (by rfl) T.len (by decide +kernel) (Aa (qv 0) Ab)) Ah))),?_⟩
  have bg:=big
  walk_at "r"
  refine Ca (SqL.of ha) ?_
  walk_at "r"
  refine C8 ha (by omega) ?_
  walk_at "r"
  refine Dv (SqL.of Ad) ?_
  walk_at "r"
  rw [Pl,Qa,show ((us.length+1:Nat):Int) - 1=(us.length:Nat) by omega]
  exact q
end
local macro_rules | `(tactic| walk_at "zA")=>`(tactic| exact (let +zeta a:=_; let +zeta b:=_; let +zeta c:=_; have +usedOnly q:(‹Stmt›:Stmt)=.Assign a b c:=rfl; .Assign a b c))
local macro_rules | `(tactic| walk_at "zC")=>`(tactic| exact (let +zeta a:=_; let +zeta b:=_; let +zeta c:=_; let +zeta d:=_; let +zeta e:=_; let +zeta f:=_; let +zeta g:=_; let +zeta h:=_; let +zeta i:=_; let +zeta j:=_; let +zeta k:=_; have +usedOnly q:(‹Stmt›:Stmt)=.ClassDef a b c d e f g h i j k:=rfl; .ClassDef a b c d e f g h i j k))
local macro_rules | `(tactic| walk_at "zF")=>`(tactic| exact (let +zeta a:=_; let +zeta b:=_; let +zeta c:=_; let +zeta d:=_; let +zeta e:=_; let +zeta f:=_; let +zeta g:=_; let +zeta h:=_; let +zeta i:=_; let +zeta j:=_; have +usedOnly q:(‹Stmt›:Stmt)=.FunctionDef a b c d e f g h i j:=rfl; .FunctionDef a b c d e f g h i j))
noncomputable def w0:Stmt:=by let +zeta s:=Ac 0;walk_at "zA"
noncomputable def w1:Stmt:=by let +zeta s:=Ac 1;walk_at "zC"
noncomputable def w2:Stmt:=by let +zeta s:=Ac 2;walk_at "zC"
noncomputable def w3:Stmt:=by let +zeta s:=Ac 3;walk_at "zC"
noncomputable def w4:Stmt:=by let +zeta s:=Ac 4;walk_at "zA"
noncomputable def w5:Stmt:=by let +zeta s:=Ac 5;walk_at "zF"
noncomputable def w6:Stmt:=by let +zeta s:=Ac 6;walk_at "zA"
noncomputable def w7:Stmt:=by let +zeta s:=Ac 7;walk_at "zF"
noncomputable def w8:Stmt:=by let +zeta s:=Ac 8;walk_at "zF"
noncomputable def w9:Stmt:=by let +zeta s:=Ac 9;walk_at "zF"
noncomputable def Eb:Stmt:=by let +zeta s:=Ac 10;walk_at "zA"
noncomputable def Em:Stmt:=by let +zeta s:=Ac 11;walk_at "zF"
noncomputable def Gc:Stmt:=by let +zeta s:=Ac 12;walk_at "zF"
noncomputable def w13:Stmt:=by let +zeta s:=Ac 13;walk_at "zF"
noncomputable def w14:Stmt:=by let +zeta s:=Ac 14;walk_at "zF"
noncomputable def w15:Stmt:=by let +zeta s:=Ac 15;walk_at "zA"
noncomputable def w16:Stmt:=by let +zeta s:=Ac 16;walk_at "zA"
noncomputable def w17:Stmt:=by let +zeta s:=Ac 17;walk_at "zA"
noncomputable def w18:Stmt:=by let +zeta s:=Ac 18;walk_at "zA"
noncomputable def w19:Stmt:=by let +zeta s:=Ac 19;walk_at "zF"
noncomputable def w20:Stmt:=by let +zeta s:=Ac 20;walk_at "zF"
noncomputable def w21:Stmt:=by let +zeta s:=Ac 21;walk_at "zF"
noncomputable def w22:Stmt:=by let +zeta s:=Ac 22;walk_at "zF"
noncomputable def w23:Stmt:=by let +zeta s:=Ac 23;walk_at "zF"
noncomputable def w24:Stmt:=by let +zeta s:=Ac 24;walk_at "zF"
noncomputable def w25:Stmt:=by let +zeta s:=Ac 25;walk_at "zF"
noncomputable def w26:Stmt:=by let +zeta s:=Ac 26;walk_at "zF"
noncomputable def w27:Stmt:=by let +zeta s:=Ac 27;walk_at "zF"
noncomputable def w28:Stmt:=by let +zeta s:=Ac 28;walk_at "zA"
noncomputable def w29:Stmt:=by let +zeta s:=Ac 29;walk_at "zA"
noncomputable def w30:Stmt:=by let +zeta s:=Ac 30;walk_at "zF"
noncomputable def w31:Stmt:=by let +zeta s:=Ac 31;walk_at "zF"
noncomputable def w32:Stmt:=by let +zeta s:=Ac 32;walk_at "zF"
noncomputable def w33:Stmt:=by let +zeta s:=Ac 33;walk_at "zA"
noncomputable def w34:Stmt:=by let +zeta s:=Ac 34;walk_at "zF"
noncomputable def w35:Stmt:=by let +zeta s:=Ac 35;walk_at "zF"
noncomputable def w36:Stmt:=by let +zeta s:=Ac 36;walk_at "zF"
noncomputable def w37:Stmt:=by let +zeta s:=Ac 37;walk_at "zF"
noncomputable def w38:Stmt:=by let +zeta s:=Ac 38;walk_at "zF"
noncomputable def w39:Stmt:=by let +zeta s:=Ac 39;walk_at "zF"
noncomputable def w40:Stmt:=by let +zeta s:=Ac 40;walk_at "zF"
noncomputable def w41:Stmt:=by let +zeta s:=Ac 41;walk_at "zF"
noncomputable def w42:Stmt:=by let +zeta s:=Ac 42;walk_at "zF"
noncomputable def w43:Stmt:=by let +zeta s:=Ac 43;walk_at "zF"
noncomputable def PWc:Program:=let +zeta a:=_;let +zeta b:=_;let +zeta c:=_;let +zeta d:=_;let +zeta e:=_;let +zeta f:=_;let +zeta g:=_;let +zeta h:=_;let +zeta i:=_;let +zeta j:=_;have +usedOnly q:R9=⟨⟨a,b,c,d,e⟩,f,g,h,i,j⟩:=rfl;⟨⟨[w0,w1,w2,w3,w4,w5,w6,w7,w8,w9,Eb,Em,Gc,w13,w14,w15,w16,w17,w18,w19,w20,w21,w22,w23,w24,w25,w26,w27,w28,w29,w30,w31,w32,w33,w34,w35,w36,w37,w38,w39,w40,w41,w42,w43],b,c,d,e⟩,f,g,h,i,j⟩
theorem e_PW:PWc=PWc:=rfl
name_quick x_PW for K36.PWc by K36.e_PW
end K36
noncomputable def PySem.W.Fast.tw2924856612259106138:PySem.Program:=PySem.W.Fast.tw14515764150166263375
theorem PySem.W.Fast.te2924856612259106138:R9=PySem.W.Fast.tw2924856612259106138:=(rfl:R9=K36.PWc).trans PySem.W.Fast.te14515764150166263375
namespace K36
open PySem L2
noncomputable def VWc:Program:={ R9 with main:={ R9.main with body:=[w1,w2,w3,w5,w7,w8,w9,Em,Gc,w13,w14,w16,w17,w18,w19,w20,w21,w22,w23,w24,w25,w26,w27,w29,w30,w31,w32,w34,w35,w36,w37,w38,w39,w40,w41,w42,w43] } }
noncomputable def S0:List Stmt:=[w0,w1]
noncomputable def S1:List Stmt:=[w40,w41,w42,w43]
noncomputable def S2:List Stmt:=[Em,Gc,w13,w14,w15,w16,w17,w18,w19,w20,w21,w22,w23,w24]
noncomputable def S3:List Stmt:=[w3,w4,w5,w6,w7,w8,w9,Eb]
noncomputable def S4:List Stmt:=[w25,w26,w27,w28,w29,w30,w31,w32,w33,w34,w35,w36,w37,w38,w39]
noncomputable def S5:List Stmt:=[w2]
noncomputable def SB:Program×List (List Stmt):=(VWc,[S0,S1,S2,S3,S4,S5])
theorem e_SB:SB=SB:=rfl
name_quick x_SB for K36.SB by K36.e_SB
end K36
noncomputable def PySem.W.Fast.tw3489130004692459588:PySem.Program:=PySem.W.Fast.tw23698951195325849
theorem PySem.W.Fast.te3489130004692459588:K36.VWc=PySem.W.Fast.tw3489130004692459588:=PySem.W.Fast.te23698951195325849
noncomputable def PySem.W.Fast.tw13101379677278243840:List Tb:=PySem.W.Fast.tw5728032326975320997
theorem PySem.W.Fast.te13101379677278243840:K36.S0=PySem.W.Fast.tw13101379677278243840:=PySem.W.Fast.te5728032326975320997
noncomputable def PySem.W.Fast.tw10044226675868567885:List Tb:=PySem.W.Fast.tw662931086934336512
theorem PySem.W.Fast.te10044226675868567885:K36.S1=PySem.W.Fast.tw10044226675868567885:=PySem.W.Fast.te662931086934336512
noncomputable def PySem.W.Fast.tw13305970177909962863:List Tb:=PySem.W.Fast.tw7612562068311948463
theorem PySem.W.Fast.te13305970177909962863:K36.S2=PySem.W.Fast.tw13305970177909962863:=PySem.W.Fast.te7612562068311948463
noncomputable def PySem.W.Fast.tw545704273284523154:List Tb:=PySem.W.Fast.tw2529119128795312233
theorem PySem.W.Fast.te545704273284523154:K36.S3=PySem.W.Fast.tw545704273284523154:=PySem.W.Fast.te2529119128795312233
noncomputable def PySem.W.Fast.tw5129477380362416053:List Tb:=PySem.W.Fast.tw10731984049376323412
theorem PySem.W.Fast.te5129477380362416053:K36.S4=PySem.W.Fast.tw5129477380362416053:=PySem.W.Fast.te10731984049376323412
noncomputable def PySem.W.Fast.tw6706300000638465945:List Tb:=PySem.W.Fast.tw6541596921189575100
theorem PySem.W.Fast.te6706300000638465945:K36.S5=PySem.W.Fast.tw6706300000638465945:=PySem.W.Fast.te6541596921189575100
namespace K36
open PySem L2 PySem.W
noncomputable def zs (i j:Nat):Stmt:=match Ac i with | .ClassDef _ _ _ b _ _ _ _ _ _ _=>b.getD j (.Pass ⟨0,0,0,0⟩) | s=>s
noncomputable def ze (P:Params)(s:Str)(t:Tok)(v:Value):DictEntry:=⟨PyData.keyHash P s,.str s t,v⟩
noncomputable abbrev B:=R8
noncomputable def evb (l:List Obj):Bool->List Obj:=@List.rec Obj (fun _=>Bool->List Obj) (fun _=>[]) (fun a _ ih b=>@Bool.rec (fun _=>List Obj) (ih true) (a::ih false) b) l
noncomputable def tO (l:List Obj):B:=@Nat.rec (fun _=>List Obj->B) (fun _=>.nil) (fun _ ih l=>@List.rec Obj (fun _=>B) .nil (fun x r _=>.node x (ih (evb r true)) (ih (evb r false))) l) 12 l
noncomputable def zv:List (Str×Tok)->List Value
 | []=>[]
 | (a,b)::t=>.str a b::zv t
noncomputable def zu (l:List (Str×Tok)):Obj:=⟨.type "tuple",none,.seq ⟨zv l⟩,#[]⟩
noncomputable def zt (c:String)(d:Data):Obj:=⟨.type c,none,d,#[]⟩
noncomputable def zf (n q:Str)(s:Stmt)(m:Str)(t:Tok)(c:Addr):Obj:=⟨.type "function",none,.func (Rx n q (Gm s) (Fq s) (Bh s) .none .none .none (.str m t) none (.ref c) .none),#[]⟩
noncomputable def zh (n q:Str)(s:Stmt):Obj:=⟨.none,none,.func ⟨n,q,Gm s,.stmts (Fq s),Bh s,0,[],.none,.none,.none,.none,none,.none,.none,0⟩,#[]⟩
noncomputable def zk (n q:Str)(t:Tok)(l a g:Int)(r:Addr)(b:Bool)(x:Value)(u:Int)(v:Tok):Obj:=⟨.type "code",none,.fields #[.str n t,.str q (t+1),.str "/claim/cut.py" (t+2),.int l 0,.int a 0,.int 0 0,.int 0 0,.int g 0,.ref r,.bool b,.int 181 0,.ref (r+1),.none,.none,.none,x,.int u 0,.int l 0,.str "/claim/cut.py" v],#[]⟩
noncomputable def zw:List (Int×Int×Addr)->List Value
 | []=>[]
 | (a,b,c)::t=>.int a 0::.int b 0::.ref c::zw t
noncomputable def zy (l:List (Int×Int×Addr)):Obj:=⟨.none,none,.fields ⟨zw l⟩,#[]⟩
noncomputable def zc (n q:Str)(t:Tok)(l a g:Int)(r:Addr)(u:Int)(v:Tok):Obj:=⟨.type "code",none,.fields #[.str n t,.str q (t+1),.str "/claim/cut.py" (t+2),.int l 0,.int a 0,.int 0 0,.int 0 0,.int g 0,.ref r,.bool true,.int 181 0,.ref (r+1),.none,.ref (r+2),.ref (r+3),.ref (r+4),.int u 0,.int l 0,.str "/claim/cut.py" v],#[]⟩
noncomputable def zb (n:Str):=zc n n
noncomputable def zi (n:Str):=zf n n
noncomputable def zj (n:Str):=zh n n
noncomputable section
def d0 (P:Params):=[ze P "__name__" 165 (.str "gapscribe.errors" 187),ze P "__doc__" 166 .none,ze P "__package__" 167 .none,ze P "__loader__" 168 (.builtin "__main__.__loader__#opaque"),ze P "__spec__" 169 .none,ze P "__annotations__" 170 (.ref 6),ze P "__builtins__" 171 (.ref 4),ze P "__file__" 173 (.str "/claim/cut.py" 172),ze P "__cached__" 174 .none,ze P "GapError" 206 (.ref 24),ze P "TooBig" 222 (.ref 37)]
def z0 (P:Params):=zt "dict" (.dict ⟨d0 P⟩ 11)
def z1:=zt "tuple" (.seq #[])
noncomputable def y0:List (Int×Int×Addr):=[(2,0,20),(4,0,33)]
def z2:=zy y0
def z3:=zk "<module>" "<module>" 182 1 0 0 11 false .none 185 186
noncomputable def zq0 (x0:Nat)(x1:Nat)(x2:Str)(x3:Nat):Obj:=Obj.mk (.type "frame") none Data.plain #[some (.ref x0),some (.ref 3),some (.ref x1),none,some (.str x2 x3),none,some (.ref 0)]
def z4:=zq0 13 3 "__main__" 164
def z5:=zt "tuple" (.seq #[.type "ValueError"])
def h0_0 (P:Params)(t:List Obj):=(boot_o_0 P)::(boot_o_1 P)::(boot_o_2 P)::(z0 P)::(boot_o_4 P)::(boot_o_5 P)::(boot_o_6 P)::(boot_o_7 P)::(boot_o_8 P)::(boot_o_9 P)::(boot_o_10 P)::z1::z2::z3::z4::z5::t
def z6:=zt "builtin_function_or_method" (.fields #[.builtin "type.__prepare__",.type "type"])
def z7 (P:Params):=zt "dict" (.dict #[ze P "__module__" 196 (.str "gapscribe.errors" 187),ze P "__qualname__" 198 (.str "GapError" 197),ze P "__firstlineno__" 200 (.int 2 199),ze P "__static_attributes__" 201 (.ref 22)] 4)
noncomputable def z8:=Obj.mk .none none (.fields #[]) #[]
def z9:=zk "GapError" "GapError" 191 2 0 0 18 false .none 194 195
def z10:=zq0 20 17 "gapscribe.errors" 187
def z11 (P:Params):=zt "dict" (.dict #[ze P "__module__" 196 (.str "gapscribe.errors" 187),ze P "__firstlineno__" 200 (.int 2 199),ze P "__static_attributes__" 201 (.ref 22),ze P "__weakref__" 203 (.ref 25),ze P "__doc__" 204 .none] 3)
noncomputable def z12:=Obj.mk (.type "type") none (.cls (ClassData.mk "GapError" [.type "ValueError"] [.ref 24,.type "ValueError",.type "Exception",.type "BaseException",.type "object"] 23 "GapError" true [] [.ref 37] false none false)) #[some (.ref 15),none,some (.str "GapError" 189),some (.str "GapError" 197),some (.builtin "ValueError.__new__"),some (.bool true)]
def z13:=zt "getset_descriptor" (.fields #[.str "__weakref__" 202,.ref 24,.builtin "ExceptionGroup.__weakref__",.none])
def z14:=zt "super" (.fields #[.ref 24,.ref 24,.ref 24])
def z15:=zt "builtin_function_or_method" (.fields #[.builtin "object.__init_subclass__",.ref 24])
def z16:=zt "tuple" (.seq #[.ref 24])
def z17 (P:Params):=zt "dict" (.dict #[ze P "__module__" 214 (.str "gapscribe.errors" 187),ze P "__qualname__" 216 (.str "TooBig" 215),ze P "__firstlineno__" 218 (.int 4 217),ze P "__static_attributes__" 219 (.ref 35)] 4)
def h1_0 (P:Params)(t:List Obj):=z6::(z7 P)::z1::z8::z9::z10::z1::(z11 P)::z12::z13::z14::z15::z16::z6::(z17 P)::z1::t
def z18:=zk "TooBig" "TooBig" 209 4 0 0 31 false .none 212 213
def z19:=zq0 33 30 "gapscribe.errors" 187
def z20 (P:Params):=zt "dict" (.dict #[ze P "__module__" 214 (.str "gapscribe.errors" 187),ze P "__firstlineno__" 218 (.int 4 217),ze P "__static_attributes__" 219 (.ref 35),ze P "__doc__" 220 .none] 2)
noncomputable def z21:=Obj.mk (.type "type") none (.cls (ClassData.mk "TooBig" [.ref 24] [.ref 37,.ref 24,.type "ValueError",.type "Exception",.type "BaseException",.type "object"] 36 "TooBig" true [] [] false none false)) #[some (.ref 28),none,some (.str "TooBig" 207),some (.str "TooBig" 215),some (.builtin "ValueError.__new__"),some (.bool true)]
def z22:=zt "super" (.fields #[.ref 37,.ref 37,.ref 37])
def z23:=zt "builtin_function_or_method" (.fields #[.builtin "object.__init_subclass__",.ref 37])
def h2_0 (P:Params)(t:List Obj):=z8::z18::z19::z1::(z20 P)::z21::z22::z23::t
def Rtree_78:Params->B:=fun P=>tO (h0_0 P (h1_0 P (h2_0 P [])))
def d1 (P:Params):=[ze P "__name__" 165 (.str "gapscribe.scopes" 289),ze P "__doc__" 166 .none,ze P "__package__" 167 .none,ze P "__loader__" 168 (.builtin "__main__.__loader__#opaque"),ze P "__spec__" 169 .none,ze P "__annotations__" 170 (.ref 6),ze P "__builtins__" 171 (.ref 4),ze P "__file__" 173 (.str "/claim/cut.py" 172),ze P "__cached__" 174 .none,ze P "GapError" 206 (.ref 24),ze P "TooBig" 222 (.ref 37),ze P "NoPlace" 247 (.ref 56),ze P "is_whole" 256 (.ref 65),ze P "placed_forms" 270 (.ref 72),ze P "has_part" 278 (.ref 79),ze P "forms_down_to" 288 (.ref 86)]
def z24 (P:Params):=zt "dict" (.dict ⟨d1 P⟩ 16)
def y1:List (Int×Int×Addr):=y0++[(6,0,45),(11,0,64),(14,0,71),(23,0,78),(25,0,85)]
def z25:=zy y1
def zn0 (P:Params)(x0 x1:Obj)(t:List Obj):List Obj:=(boot_o_0 P)::(boot_o_1 P)::(boot_o_2 P)::x0::(boot_o_4 P)::(boot_o_5 P)::(boot_o_6 P)::(boot_o_7 P)::(boot_o_8 P)::(boot_o_9 P)::(boot_o_10 P)::z1::x1::z3::z4::z5::t
def h3_0 (P:Params)(t:List Obj):=zn0 P (z24 P) z25 t
noncomputable def z26:=Obj.mk (.type "type") none (.cls (ClassData.mk "GapError" [.type "ValueError"] [.ref 24,.type "ValueError",.type "Exception",.type "BaseException",.type "object"] 23 "GapError" true [] [.ref 37,.ref 56] false none false)) #[some (.ref 15),none,some (.str "GapError" 189),some (.str "GapError" 197),some (.builtin "ValueError.__new__"),some (.bool true)]
def Ib (P:Params)(t:List Obj):List Obj:=z6::(z7 P)::z1::z8::z9::z10::z1::(z11 P)::z26::z13::z14::z15::z16::z6::(z17 P)::z1::t
def d2 (P:Params):=[ze P "__module__" 230 (.str "gapscribe.errors" 187),ze P "__qualname__" 232 (.str "NoPlace" 231),ze P "__firstlineno__" 234 (.int 6 233),ze P "__init__" 242 (.ref 53),ze P "__static_attributes__" 244 (.ref 54)]
def z27 (P:Params):=zt "dict" (.dict ⟨d2 P⟩ 5)
noncomputable def y2:List (Int×Int×Addr):=[(8,4,52)]
def z28:=zy y2
def z29:=zk "NoPlace" "NoPlace" 225 6 0 0 43 false .none 228 229
def z30:=zq0 45 42 "gapscribe.errors" 187
def Hu (P:Params)(t:List Obj):List Obj:=z8::z18::z19::z1::(z20 P)::z21::z22::z23::z16::z6::(z27 P)::z1::z28::z29::z30::z1::t
def z31:=zu [("self",238),("place",239)]
noncomputable abbrev zsS (i j:Nat):Stmt:=match Ac i with | .ClassDef _ _ _ b _ _ _ _ _ _ _=>b.getD j (.Pass ⟨0,0,0,0⟩) | s=>s
def z32:=zh "__init__" "NoPlace.__init__" (zsS 3 0)
def z33:=zc "__init__" "NoPlace.__init__" 235 8 2 3 47 240 241
def z34:=zf "__init__" "NoPlace.__init__" (zsS 3 0) "gapscribe.errors" 187 52
def z35:=zu [("place",243)]
def z36 (P:Params):=zt "dict" (.dict #[ze P "__module__" 230 (.str "gapscribe.errors" 187),ze P "__firstlineno__" 234 (.int 6 233),ze P "__init__" 242 (.ref 53),ze P "__static_attributes__" 244 (.ref 54),ze P "__doc__" 245 .none] 2)
noncomputable def z37:=Obj.mk (.type "type") none (.cls (ClassData.mk "NoPlace" [.ref 24] [.ref 56,.ref 24,.type "ValueError",.type "Exception",.type "BaseException",.type "object"] 55 "NoPlace" true [] [] false none false)) #[some (.ref 40),none,some (.str "NoPlace" 223),some (.str "NoPlace" 231),some (.builtin "ValueError.__new__"),some (.bool true)]
def z38:=zt "super" (.fields #[.ref 56,.ref 56,.ref 56])
def z39:=zt "builtin_function_or_method" (.fields #[.builtin "object.__init_subclass__",.ref 56])
def z40:=zu [("thing",253)]
def z41:=zj "is_whole" Jj
def Jn (P:Params)(t:List Obj):List Obj:=z8::z31::z1::z32::z33::z34::z35::(z36 P)::z37::z38::z39::z1::z8::z40::z1::z41::t
def z42:=zb "is_whole" 250 11 1 3 59 254 255
def z43:=zi "is_whole" Jj "gapscribe.forms" 248 64
def z44:=zu [("tree",262),("told",263),("waiting",264),("pair",265),("number",266),("part",267)]
def z45:=zj "placed_forms" Jm
def z46:=zb "placed_forms" 259 14 1 3 66 268 269
def z47:=zi "placed_forms" Jm "gapscribe.places" 257 71
def z48:=zu [("form",274),("number",275)]
def z49:=zj "has_part" Jf
def z50:=zb "has_part" 271 23 2 3 73 276 277
def z51:=zi "has_part" Jf "gapscribe.places" 257 78
def Jq (P:Params)(t:List Obj):List Obj:=z42::z43::z1::z8::z44::z1::z45::z46::z47::z1::z8::z48::z1::z49::z50::z51::t
def z52:=zu [("tree",282),("place",283),("passed",284),("number",285)]
def z53:=zj "forms_down_to" Jo
def z54:=zb "forms_down_to" 279 25 2 3 80 286 287
def z55:=zi "forms_down_to" Jo "gapscribe.places" 257 85
def h8_0 (P:Params)(t:List Obj):=z1::z8::z52::z1::z53::z54::z55::t
def Rtree_128:Params->B:=fun P=>tO (h3_0 P (Ib P (Hu P (Jn P (Jq P (h8_0 P []))))))
def d3 (P:Params):=[ze P "__name__" 165 (.str "gapscribe.solve" 329),ze P "__doc__" 166 .none,ze P "__package__" 167 .none,ze P "__loader__" 168 (.builtin "__main__.__loader__#opaque"),ze P "__spec__" 169 .none,ze P "__annotations__" 170 (.ref 6),ze P "__builtins__" 171 (.ref 4),ze P "__file__" 173 (.str "/claim/cut.py" 172),ze P "__cached__" 174 .none,ze P "GapError" 206 (.ref 24),ze P "TooBig" 222 (.ref 37),ze P "NoPlace" 247 (.ref 56),ze P "is_whole" 256 (.ref 65),ze P "placed_forms" 270 (.ref 72),ze P "has_part" 278 (.ref 79),ze P "forms_down_to" 288 (.ref 86),ze P "names_bound" 298 (.ref 93),ze P "bindings_at" 310 (.ref 100),ze P "names_at" 316 (.ref 105),ze P "binding_at" 328 (.ref 112),ze P "NUM" 332 (.int 0 331),ze P "TRUTH" 334 (.int 1 333),ze P "FIRST_SHAPES" 337 (.ref 115),ze P "new_kind" 345 (.ref 122),ze P "kinds_of_word" 356 (.ref 129),ze P "with_names" 368 (.ref 136),ze P "kinds_in" 387 (.ref 143),ze P "last_same" 396 (.ref 150),ze P "holds_itself" 409 (.ref 157)]
def z56 (P:Params):=zt "dict" (.dict ⟨d3 P⟩ 29)
def y3:List (Int×Int×Addr):=y1++[(33,0,92),(41,0,99),(47,0,104),(49,0,111),(59,0,121),(62,0,128),(85,0,135),(90,0,142),(105,0,149),(110,0,156)]
def z57:=zy y3
def h9_0 (P:Params)(t:List Obj):=zn0 P (z56 P) z57 t
def z58:=zu [("form",294),("number",295)]
def z59:=zj "names_bound" Hw
def z60:=zb "names_bound" 291 33 2 3 87 296 297
def z61:=zi "names_bound" Hw "gapscribe.scopes" 289 92
def Ly (P:Params)(t:List Obj):List Obj:=z1::z8::z52::z1::z53::z54::z55::z1::z8::z58::z1::z59::z60::z61::z1::z8::t
def z62:=zu [("tree",302),("place",303),("told",304),("depth",305),("above",306),("name",307)]
def z63:=zj "bindings_at" Jc
def z64:=zb "bindings_at" 299 41 2 3 94 308 309
def z65:=zi "bindings_at" Jc "gapscribe.scopes" 289 99
def z66:=zj "names_at" Jz
def z67:=zk "names_at" "names_at" 311 47 2 3 101 true (.ref 103) 314 315
def z68:=zi "names_at" Jz "gapscribe.scopes" 289 104
def z69:=zu [("tree",320),("place",321),("name",322),("last",323),("number",324),("bound",325)]
def z70:=zj "binding_at" Kh
def z71:=zb "binding_at" 317 49 3 3 106 326 327
def Kz (P:Params)(t:List Obj):List Obj:=z62::z1::z63::z64::z65::z1::z8::z66::z67::z68::z1::z8::z69::z1::z70::z71::t
def z72:=zi "binding_at" Kh "gapscribe.scopes" 289 111
def z73:=zu [("num",335)]
def z74:=zu [("truth",336)]
def z75:=zt "tuple" (.seq #[.ref 113,.ref 114])
def z76:=zu [("shapes",341),("shape",342)]
def z77:=zj "new_kind" Jy
def z78:=zb "new_kind" 338 59 2 3 116 343 344
def z79:=zi "new_kind" Jy "gapscribe.solve" 329 121
def z80:=zu [("shapes",349),("word",350),("one",351),("other",352),("function",353)]
def z81:=zj "kinds_of_word" Kj
def Ll (P:Params)(t:List Obj):List Obj:=z72::z73::z74::z75::z1::z8::z76::z1::z77::z78::z79::z1::z8::z80::z1::z81::t
def z82:=zb "kinds_of_word" 346 62 2 3 123 354 355
def z83:=zi "kinds_of_word" Kj "gapscribe.solve" 329 128
def z84:=zu [("around",360),("names",361),("kinds",362),("made",363),("name",364),("kind",365)]
def z85:=zj "with_names" J2
def z86:=zb "with_names" 357 85 3 3 130 366 367
def z87:=zi "with_names" J2 "gapscribe.solve" 329 135
def z88:=zu [("placed",372),("shapes",373),("pairs",374),("asked_at",375),("around_at",376),("place",377),("form",378),("given",379),("asked",380),("bound",381),("number",382),("kind",383),("part",384)]
def z89:=zj "kinds_in" Jl
def z90:=zb "kinds_in" 369 90 1 3 137 385 386
def z91:=zi "kinds_in" Jl "gapscribe.solve" 329 142
def K2 (P:Params)(t:List Obj):List Obj:=z82::z83::z1::z8::z84::z1::z85::z86::z87::z1::z8::z88::z1::z89::z90::z91::t
def z92:=zu [("shapes",391),("kind",392),("last",393)]
def z93:=zj "last_same" Ic
def z94:=zb "last_same" 388 105 2 3 144 394 395
def z95:=zi "last_same" Ic "gapscribe.solve" 329 149
def z96:=zu [("shapes",400),("kind",401),("passed",402),("waiting",403),("top",404),("part",405),("inner",406)]
def z97:=zj "holds_itself" Hv
def z98:=zb "holds_itself" 397 110 2 3 151 407 408
def z99:=zi "holds_itself" Hv "gapscribe.solve" 329 156
def Zlq (P:Params)(t:List Obj):List Obj:=z1::z8::z92::z1::z93::z94::z95::z1::z8::z96::z1::z97::z98::z99::t
def Rtree_201:Params->B:=fun P=>tO (h9_0 P (Ib P (Hu P (Jn P (Jq P (Ly P (Kz P (Ll P (K2 P (Zlq P []))))))))))
def d4 (P:Params):=[ze P "__name__" 165 (.str "law_gapscribe_k36_marks_ahead_stay" 481),ze P "__doc__" 166 .none,ze P "__package__" 167 .none,ze P "__loader__" 168 (.builtin "__main__.__loader__#opaque"),ze P "__spec__" 169 .none,ze P "__annotations__" 170 (.ref 6),ze P "__builtins__" 171 (.ref 4),ze P "__file__" 173 (.str "/claim/cut.py" 172),ze P "__cached__" 174 .none,ze P "GapError" 206 (.ref 24),ze P "TooBig" 222 (.ref 37),ze P "NoPlace" 247 (.ref 56),ze P "is_whole" 256 (.ref 65),ze P "placed_forms" 270 (.ref 72),ze P "has_part" 278 (.ref 79),ze P "forms_down_to" 288 (.ref 86),ze P "names_bound" 298 (.ref 93),ze P "bindings_at" 310 (.ref 100),ze P "names_at" 316 (.ref 105),ze P "binding_at" 328 (.ref 112),ze P "NUM" 332 (.int 0 331),ze P "TRUTH" 334 (.int 1 333),ze P "FIRST_SHAPES" 337 (.ref 115),ze P "new_kind" 345 (.ref 122),ze P "kinds_of_word" 356 (.ref 129),ze P "with_names" 368 (.ref 136),ze P "kinds_in" 387 (.ref 143),ze P "last_same" 396 (.ref 150),ze P "holds_itself" 409 (.ref 157),ze P "joined" 423 (.ref 164),ze P "fitted" 436 (.ref 171),ze P "kinds_told" 442 (.ref 176),ze P "MOST_FORMS" 446 (.int 40 445),ze P "mark_of" 456 (.ref 183),ze P "looks" 474 (.ref 190),ze P "marks" 480 (.ref 195),ze P "_law_cell_at" 490 (.ref 202),ze P "_law_names" 496 (.ref 207),ze P "_law_same" 505 (.ref 214),ze P "_law_shares" 511 (.ref 219),ze P "_law_leaf" 519 (.ref 226),ze P "_law_tree" 525 (.ref 231)]
def z100 (P:Params):=zt "dict" (.dict ⟨d4 P⟩ 42)
def y4:List (Int×Int×Addr):=y3++[(126,0,163),(142,0,170),(150,0,175),(170,0,182),(178,0,189),(193,0,194),(196,0,201),(200,0,206),(214,0,213),(234,0,218),(240,0,225),(250,0,230)]
def z101:=zy y4
def Zm7 (P:Params)(t:List Obj):List Obj:=zn0 P (z100 P) z101 t
def Mt (P:Params)(t:List Obj):List Obj:=z1::z8::z92::z1::z93::z94::z95::z1::z8::z96::z1::z97::z98::z99::z1::z8::t
def z102:=zu [("shapes",413),("one",414),("other",415),("made",416),("waiting",417),("pair",418),("left",419),("right",420)]
def z103:=zj "joined" Jx
def z104:=zb "joined" 410 126 3 3 158 421 422
def z105:=zi "joined" Jx "gapscribe.solve" 329 163
def z106:=zu [("shapes",427),("pairs",428),("made",429),("fits",430),("given",431),("asked",432),("after",433)]
def z107:=zj "fitted" Iz
def z108:=zb "fitted" 424 142 2 3 165 434 435
def z109:=zi "fitted" Iz "gapscribe.solve" 329 170
def z110:=zj "kinds_told" Ih
def z111:=zk "kinds_told" "kinds_told" 437 150 2 3 172 true (.ref 174) 440 441
def M3 (P:Params)(t:List Obj):List Obj:=z102::z1::z103::z104::z105::z1::z8::z106::z1::z107::z108::z109::z1::z8::z110::z111::t
def z112:=zi "kinds_told" Ih "gapscribe.solve" 329 175
def z113:=zu [("tree",450),("place",451),("form",452),("fits",453)]
def z114:=zj "mark_of" Iu
def z115:=zb "mark_of" 447 170 4 3 177 454 455
def z116:=zi "mark_of" Iu "gapscribe.looks" 443 182
def z117:=zu [("tree",460),("placed",461),("shapes",462),("pairs",463),("settled",464),("fits",465),("wanted",466),("pair",467),("kinds",468),("rows",469),("number",470),("asked",471)]
def z118:=zj "looks" Jh
def z119:=zb "looks" 457 178 1 3 184 472 473
def z120:=zi "looks" Jh "gapscribe.looks" 443 189
def Mw (P:Params)(t:List Obj):List Obj:=z112::z1::z8::z113::z1::z114::z115::z116::z1::z8::z117::z1::z118::z119::z120::z1::t
def z121:=zj "marks" Jd
def z122:=zk "marks" "marks" 475 193 1 3 191 true (.ref 193) 478 479
def z123:=zi "marks" Jd "gapscribe.looks" 443 194
def z124:=zu [("_law_script",486),("_law_k",487)]
def z125:=zj "_law_cell_at" Jw
def z126:=zb "_law_cell_at" 483 196 2 3 196 488 489
def z127:=zi "_law_cell_at" Jw "law_gapscribe_k36_marks_ahead_stay" 481 201
def z128:=zj "_law_names" Iw
def z129:=zk "_law_names" "_law_names" 491 200 2 3 203 true (.ref 205) 494 495
def z130:=zi "_law_names" Iw "law_gapscribe_k36_marks_ahead_stay" 481 206
def N7 (P:Params)(t:List Obj):List Obj:=z8::z121::z122::z123::z1::z8::z124::z1::z125::z126::z127::z1::z8::z128::z129::z130::t
def z131:=zu [("_law_found",500),("_law_due",501),("_law_k",502)]
def z132:=zj "_law_same" Hj
def z133:=zb "_law_same" 497 214 2 3 208 503 504
def z134:=zi "_law_same" Hj "law_gapscribe_k36_marks_ahead_stay" 481 213
def z135:=zj "_law_shares" Js
def z136:=zk "_law_shares" "_law_shares" 506 234 3 3 215 true (.ref 217) 509 510
def z137:=zi "_law_shares" Js "law_gapscribe_k36_marks_ahead_stay" 481 218
def z138:=zu [("_law_cell",515),("_law_name",516)]
def Oj (P:Params)(t:List Obj):List Obj:=z1::z8::z131::z1::z132::z133::z134::z1::z8::z135::z136::z137::z1::z8::z138::z1::t
def z139:=zj "_law_leaf" Jg
def Zas:Obj:=zb "_law_leaf" 512 240 2 3 220 517 518
def Nc:Obj:=zi "_law_leaf" Jg "law_gapscribe_k36_marks_ahead_stay" 481 225
def z142:=zj "_law_tree" G9
def Zal:Obj:=zk "_law_tree" "_law_tree" 520 250 2 3 227 true (.ref 229) 523 524
def Mz:Obj:=zi "_law_tree" G9 "law_gapscribe_k36_marks_ahead_stay" 481 230
def Zj7 (P:Params)(t:List Obj):List Obj:=z139::Zas::Nc::z1::z8::z142::Zal::Mz::t
def Rtree_277:Params->B:=fun P=>tO (Zm7 P (Ib P (Hu P (Jn P (Jq P (Ly P (Kz P (Ll P (K2 P (Mt P (M3 P (Mw P (N7 P (Oj P (Zj7 P [])))))))))))))))
def d5 (P:Params):=d4 P++[ze P "_law_walk" 538 (.ref 238),ze P "_law_filled" 548 (.ref 245),ze P "_law_outside" 559 (.ref 252),ze P "law" 565 (.ref 257)]
def z145 (P:Params):=zt "dict" (.dict ⟨d5 P⟩ 46)
def y5:List (Int×Int×Addr):=y4++[(271,0,237),(281,0,244),(287,0,251),(293,0,256)]
def z146:=zy y5
def Zf4 (P:Params)(t:List Obj):List Obj:=zn0 P (z145 P) z146 t
def z147:=zu [("_law_tree_here",529),("_law_found",530),("_law_left",531),("_law_place",532),("_law_form",533),("_law_k",534),("_law_at",535)]
def z148:=zj "_law_walk" Jt
def z149:=zb "_law_walk" 526 271 1 3 232 536 537
def z150:=zi "_law_walk" Jt "law_gapscribe_k36_marks_ahead_stay" 481 237
def Zgf (P:Params)(t:List Obj):List Obj:=z139::Zas::Nc::z1::z8::z142::Zal::Mz::z1::z8::z147::z1::z148::z149::z150::z1::t
def z151:=zu [("_law_form",542),("_law_place",543),("_law_other",544),("_law_parts",545)]
def z152:=zj "_law_filled" G2
def z153:=zb "_law_filled" 539 281 3 3 239 546 547
def z154:=zi "_law_filled" G2 "law_gapscribe_k36_marks_ahead_stay" 481 244
def z155:=zu [("_law_told",552),("_law_place",553),("_law_found",554),("_law_at",555),("_law_mark",556)]
def z156:=zj "_law_outside" Il
def z157:=zb "_law_outside" 549 287 2 3 246 557 558
def z158:=zi "_law_outside" Il "law_gapscribe_k36_marks_ahead_stay" 481 251
def z159:=zj "law" Iy
def Zc2 (P:Params)(t:List Obj):List Obj:=z8::z151::z1::z152::z153::z154::z1::z8::z155::z1::z156::z157::z158::z1::z8::z159::t
def z160:=zk "law" "law" 560 293 1 3 253 true (.ref 255) 563 564
def z161:=zi "law" Iy "law_gapscribe_k36_marks_ahead_stay" 481 256
def Zdm (P:Params)(t:List Obj):List Obj:=z160::z161::t
def Rtree_305:Params->B:=fun P=>tO (Zf4 P (Ib P (Hu P (Jn P (Jq P (Ly P (Kz P (Ll P (K2 P (Mt P (M3 P (Mw P (N7 P (Oj P (Zgf P (Zc2 P (Zdm P [])))))))))))))))))
def Rheap_306:Params->Heap:=fun P=>⟨⟨Zf4 P (Ib P (Hu P (Jn P (Jq P (Ly P (Kz P (Ll P (K2 P (Mt P (M3 P (Mw P (N7 P (Oj P (Zgf P (Zc2 P (Zdm P []))))))))))))))))⟩,Life.mk [] [] [] 0 [] [] false #[] [] 0 false false false 0 [2000,10,10] false 0 true [] [] 0 false⟩
end
noncomputable def KK:Params->O9:=fun P=>(nat_lit 2,boot_o_2 P)::(nat_lit 3,z145 P)::(nat_lit 23,z11 P)::(nat_lit 24,z26)::(nat_lit 36,z20 P)::(nat_lit 37,z21)::(nat_lit 55,z36 P)::(nat_lit 56,z37)::(nat_lit 64,z42)::(nat_lit 65,z43)::(nat_lit 71,z46)::(nat_lit 72,z47)::(nat_lit 78,z50)::(nat_lit 79,z51)::(nat_lit 85,z54)::(nat_lit 86,z55)::(nat_lit 92,z60)::(nat_lit 93,z61)::(nat_lit 99,z64)::(nat_lit 100,z65)::(nat_lit 104,z67)::(nat_lit 105,z68)::(nat_lit 111,z71)::(nat_lit 112,z72)::(nat_lit 113,z73)::(nat_lit 114,z74)::(nat_lit 115,z75)::(nat_lit 121,z78)::(nat_lit 122,z79)::(nat_lit 128,z82)::(nat_lit 129,z83)::(nat_lit 135,z86)::(nat_lit 136,z87)::(nat_lit 142,z90)::(nat_lit 143,z91)::(nat_lit 149,z94)::(nat_lit 150,z95)::(nat_lit 156,z98)::(nat_lit 157,z99)::(nat_lit 163,z104)::(nat_lit 164,z105)::(nat_lit 170,z108)::(nat_lit 171,z109)::(nat_lit 175,z111)::(nat_lit 176,z112)::(nat_lit 182,z115)::(nat_lit 183,z116)::(nat_lit 189,z119)::(nat_lit 190,z120)::(nat_lit 194,z122)::(nat_lit 195,z123)::(nat_lit 201,z126)::(nat_lit 202,z127)::(nat_lit 206,z129)::(nat_lit 207,z130)::(nat_lit 213,z133)::(nat_lit 214,z134)::(nat_lit 218,z136)::(nat_lit 219,z137)::(nat_lit 225,Zas)::(nat_lit 226,Nc)::(nat_lit 230,Zal)::(nat_lit 231,Mz)::(nat_lit 237,z149)::(nat_lit 238,z150)::(nat_lit 244,z153)::(nat_lit 245,z154)::(nat_lit 251,z157)::(nat_lit 252,z158)::(nat_lit 256,z160)::(nat_lit 257,z161)::[]
noncomputable def KA:List Addr:=[2,3,23,24,36,37,55,56,64,65,71,72,78,79,85,86,92,93,99,100,104,105,111,112,113,114,115,121,122,128,129,135,136,142,143,149,150,156,157,163,164,170,171,175,176,182,183,189,190,194,195,201,202,206,207,213,214,218,219,225,226,230,231,237,238,244,245,251,252,256,257]
noncomputable def RB (P:Params):List R8×List Heap:=([Rtree_78 P,Rtree_128 P,Rtree_201 P,Rtree_277 P,Rtree_305 P],[Rheap_306 P])
theorem e_RB:RB=RB:=rfl
name_quick x_RB for K36.RB by K36.e_RB
end K36
namespace PySem.W.Fast
noncomputable def tw188010714990370880:Sv->R8:=tw10246938103942743325
theorem te188010714990370880:K36.Rtree_78=tw188010714990370880:=te10246938103942743325
noncomputable def tw2742361555624574083:Sv->R8:=tw14477815522552627988
theorem te2742361555624574083:K36.Rtree_128=tw2742361555624574083:=te14477815522552627988
noncomputable def tw260907624984731835:Sv->R8:=tw2087850630239834350
theorem te260907624984731835:K36.Rtree_201=tw260907624984731835:=te2087850630239834350
noncomputable def tw9185202500923943247:Sv->R8:=tw6740989407075149192
theorem te9185202500923943247:K36.Rtree_277=tw9185202500923943247:=te6740989407075149192
noncomputable def tw6144800798375486829:Sv->R8:=tw17435174688842781912
theorem te6144800798375486829:K36.Rtree_305=tw6144800798375486829:=te17435174688842781912
noncomputable def tw11316843236336462804:Sv->PySem.Heap:=tw5804921121574279060
theorem te11316843236336462804:K36.Rheap_306=tw11316843236336462804:=te5804921121574279060
end PySem.W.Fast
local macro_rules | `(tactic| walk_at "gd")=>`(tactic| (refine' ⟨?ka,_,L2.fun_mk ?kl ?kc ?kk⟩; (case ka=>k_is); (case kl=>k_is); (case kc=>k_is); (case kk=>k_is)))
namespace K36
open PySem L2 K19
noncomputable abbrev Ni:=Zfz
theorem all1 {α:Type}{P:List α->Prop}(h:∀ a,P [a]):∀ us:List α,us.length=1->P us
 | [a],_=>h a
theorem all2 {α:Type}{P:List α->Prop}(h:∀ a b,P [a,b]):∀ us:List α,us.length=2->P us
 | [a,b],_=>h a b
theorem all3 {α:Type}{P:List α->Prop}(h:∀ a b c,P [a,b,c]):∀ us:List α,us.length=3->P us
 | [a,b,c],_=>h a b c
theorem all4 {α:Type}{P:List α->Prop}(h:∀ a b c d,P [a,b,c,d]):∀ us:List α,us.length=4->P us
 | [a,b,c,d],_=>h a b c d
local macro_rules | `(tactic| walk_at "bi")=>`(tactic| first | exact fun _ _ _ _ _ _=>K36.all1 fun _=>rfl | exact fun _ _ _ _ _ _=>K36.all2 fun _ _=>rfl | exact fun _ _ _ _ _ _=>K36.all3 fun _ _ _=>rfl | exact fun _ _ _ _ _ _=>K36.all4 fun _ _ _ _=>rfl | exact fun _ _ _ _ _ _=>K36.all5 fun _ _ _ _ _=>rfl)
theorem Zd0 {P:Program}{w:World}{K:O9}{mg:Str->Option Value}{base:Heap}{f:Addr}{fd:FuncData}(F:Fun K "_law_tree" "_law_tree" G9 f fd)(T:Txt K mg)(C__law_shares:Be P w K mg base 1 "_law_shares" ["_law_rest", "_law_many", "_law_turn"] (Mf K))(C__law_leaf:Be P w K mg base 1 "_law_leaf" ["_law_cell", "_law_name"] (Zaf K))
  (mk:∀ n,Bb P w K mg base Bc (n+2) f fd ["_law_cells", "_law_names_here"] (F8 K n)->Be P w K mg base (n+2) "_law_tree" ["_law_cells", "_law_names_here"] (F8 K n)):∀ n,Bb P w K mg base Bc (n+2) f fd ["_law_cells", "_law_names_here"] (F8 K n)
 | 0=>by
  have no:∀ vs H Q E,¬ F8 K 0 vs H Q E:=by
   rintro vs H Q E ⟨a,b,ns,ts,_,_,_,h,_⟩
   exact absurd h (Rj _)
  exact ⟨fun vs H Q E h=>absurd h (no _ _ _ _),fun A outer s H args us vs Q E _ _ _ _ h=>absurd h (no _ _ _ _)⟩
 | n+1=>Zkf F T C__law_shares C__law_leaf (mk n (Zd0 F T C__law_shares C__law_leaf mk n))
theorem Zfi {P:Program}{w:World}{K:O9}{mg:Str->Option Value}{base:Heap}{f:Addr}{fd:FuncData}(F:Fun K "_law_filled" "_law_filled" G2 f fd)(T:Txt K mg)
  (mk:∀ n,Bb P w K mg base Bc (n+1) f fd ["_law_form", "_law_place", "_law_other"] (Gj K n)->Be P w K mg base (n+1) "_law_filled" ["_law_form", "_law_place", "_law_other"] (Gj K n)):∀ n,Bb P w K mg base Bc (n+1) f fd ["_law_form", "_law_place", "_law_other"] (Gj K n)
 | 0=>by
  have no:∀ vs H Q E,¬ Gj K 0 vs H Q E:=by
   rintro vs H Q E ⟨v,u,p,t,s,f,g,_,_,_,_,_,h,_⟩
   exact absurd h (Rj _)
  exact ⟨fun vs H Q E h=>absurd h (no _ _ _ _),fun A outer s H args us vs Q E _ _ _ _ h=>absurd h (no _ _ _ _)⟩
 | n+1=>Zo7 F T (mk n (Zfi F T mk n))
theorem Zeq {P:Program}{w:World}{K:O9}{mg:Str->Option Value}{base:Heap}{f:Addr}{fd:FuncData}(F:Fun K "_law_same" "_law_same" Hj f fd)(T:Txt K mg)
  (mk:∀ n,Bb P w K mg base Bc (n+1) f fd ["_law_found", "_law_due"] (Gi K n)->Be P w K mg base (n+1) "_law_same" ["_law_found", "_law_due"] (Gi K n)):∀ n,Bb P w K mg base Bc (n+1) f fd ["_law_found", "_law_due"] (Gi K n)
 | 0=>by
  have no:∀ vs H Q E,¬ Gi K 0 vs H Q E:=by
   rintro vs H Q E ⟨x,y,d,m,_,h,_⟩
   exact absurd h (Rj _)
  exact ⟨fun vs H Q E h=>absurd h (no _ _ _ _),fun A outer s H args us vs Q E _ _ _ _ h=>absurd h (no _ _ _ _)⟩
 | n+1=>Zop F T (mk n (Zeq F T mk n))
theorem two_top {K:O9}{a d e:Addr}{od:Option Addr}{its:Array Value}{n:Nat}{sl:Array (Option Value)}(l:K.lookup a=some ⟨.type "tuple",od,.seq its n,sl⟩)(h:its.toList=[.ref d,.ref e]):∀ H,SqT K H a [.ref d,.ref e]:=fun H=>by
 have v:Vals [.ref d,.ref e] its.toList:=by rw [h];exact .cons rfl (.cons rfl .nil)
 refine .inr ⟨_,its,n,l,rfl,rfl,?_,v⟩
 have b:1000<=sizeLine:=by decide
 have e2:its.toList.length=its.size:=Ti
 have e3:its.toList.length=2:=by rw [h];rfl
 omega
noncomputable abbrev Gd (K:O9)(n:Str)(st:Stmt)(f:Addr):Prop:=Qh K mainGlobals n=some (some (.ref f))/\∃ fd,Fun K n n st f fd
noncomputable abbrev Bi (n q:Str)(st:Stmt)(ps:List Str):Prop:=∀(kV doc pm:Value)(an:Option Addr)(cdv ct:Value)(us:List Value),us.length=ps.length->bindArgs (Rx n q (Gm st) (Fq st) (Bh st) .none kV doc pm an cdv ct) ⟨us,[]⟩=pure (ps.zip us)
section
variable {P:Program}{w:World}{K:O9}{mg:Str->Option Value}{base h:Heap}(X:K.In h)(G:h.Ns mainGlobals mg){n q:Str}{st:Stmt}{f C:Addr}{k:Nat}{ps:List Str}{sp:Sp}
include X G
theorem cal (g:Gd K n st f)(ok:∀ fd,Fun K n n st f fd->Bb P w K mg base Bc k f fd ps sp)(b:Bi n n st ps:=by walk_at "bi"):Be P w K mg base k n ps sp:=by
 obtain ⟨a,fd,F⟩:=g
 exact Lp (ok fd F) (PySem.W.mg_of X G a) F.kp (F.binds b)
end
theorem all_mk {l:Wc}{w:World}{K:O9}{h:Heap}{mg:Str->Option Value}{fa f1 f2 f3 f4 f5 f6 f7 f8 f9 f10 f11 f12 f13 f14 f15 f16 f17 f18 f19 f20 f21 f22 f23 f24 f25 f26 f27 f28 f29 f30:Addr}(X:K.In h)(G:h.Ns mainGlobals mg)(hfa:mg "law" = some (.ref fa))
  (a1:Gd K "is_whole" Jj f1) (a2:Gd K "placed_forms" Jm f2) (a3:Gd K "has_part" Jf f3) (a4:Gd K "forms_down_to" Jo f4) (a5:Gd K "names_bound" Hw f5) (a6:Gd K "bindings_at" Jc f6) (a7:Gd K "names_at" Jz f7) (a8:Gd K "binding_at" Kh f8) (a9:Gd K "new_kind" Jy f9) (a10:Gd K "kinds_of_word" Kj f10) (a11:Gd K "with_names" J2 f11) (a12:Gd K "kinds_in" Jl f12) (a13:Gd K "last_same" Ic f13) (a14:Gd K "holds_itself" Hv f14) (a15:Gd K "joined" Jx f15)
  (a16:Gd K "fitted" Iz f16) (a17:Gd K "kinds_told" Ih f17) (a18:Gd K "mark_of" Iu f18) (a19:Gd K "looks" Jh f19) (a20:Gd K "marks" Jd f20) (a21:Gd K "_law_cell_at" Jw f21) (a22:Gd K "_law_names" Iw f22) (a23:Gd K "_law_same" Hj f23) (a24:Gd K "_law_shares" Js f24) (a25:Gd K "_law_leaf" Jg f25) (a26:Gd K "_law_tree" G9 f26) (a27:Gd K "_law_walk" Jt f27) (a28:Gd K "_law_filled" G2 f28) (a29:Gd K "_law_outside" Il f29) (a30:Gd K "law" Iy f30) (z1:Qh K mainGlobals "isinstance" = some none)
  (z2:Qh K mainGlobals "int" = some none) (z3:Qh K mainGlobals "bool" = some none) (z4:Qh K mainGlobals "reversed" = some none) (z5:Qh K mainGlobals "list" = some none) (z6:Qh K mainGlobals "enumerate" = some none) (z7:Qh K mainGlobals "len" = some none) (z8:Qh K mainGlobals "dict" = some none) (z9:Qh K mainGlobals "zip" = some none) (z10:Qh K mainGlobals "tuple" = some none) (z11:Qh K mainGlobals "range" = some none) (z12:Qh K mainGlobals "str" = some none) {u1 u2 u3:Tok}
  (b1:Qh K mainGlobals "NUM" = some (some (.int 0 u1))) (b2:Qh K mainGlobals "TRUTH" = some (some (.int 1 u2))) (b3:Qh K mainGlobals "MOST_FORMS" = some (some (.int 40 u3))) {fs t0 t1:Addr} {o2 o0 o1:Option Addr} {i2 i0 i1:Array Value} {n2 n0 n1:Nat} {l2 l0 l1:Array (Option Value)} (b4:Qh K mainGlobals "FIRST_SHAPES" = some (some (.ref fs))) (gtA:K.lookup fs=some ⟨.type "tuple",o2,.seq i2 n2,l2⟩) (eA:i2.toList=[.ref t0,.ref t1]) (gtB:K.lookup t0=some ⟨.type "tuple",o0,.seq i0 n0,l0⟩) (eB:Gu i0.toList=some [.str "num"])
  (gtC:K.lookup t1=some ⟨.type "tuple",o1,.seq i1 n1,l1⟩) (eC:Gu i1.toList=some [.str "truth"]) :
  ∃ fd:FuncData,(∀(s:Shared)(v:Value),BindsTo s fd ⟨[v],[]⟩ [("_law_script",v)])/\∀ base:Heap,K.In base->base.Ns mainGlobals mg->Bb l.prog w K mg base Bc 42 fa fd ["_law_script"] (Ni K):=by
 obtain ⟨aL,fd,FL⟩:=a30
 have e:=hfa.symm.trans (PySem.W.mg_of X G aL)
 cases e
 have FX:=FL
 obtain ⟨_,_,kV,doc,pm,an,cdv,ct,_,ef,_,_⟩:=FL.ex
 refine ⟨fd,fun s v=>by rw [ef];exact .of_eq rfl,fun base _ _=>?_⟩
 have gl:=fun {n v}=>@PySem.W.mg_of K h mg n v X G
 have no:=fun {n}=>@PySem.W.mg_none_of K h mg n X G
 have T:Txt K mg:=⟨no z1,no z2,no z3,no z4,no z5,no z6,no z7,no z8,no z9,no z10,no z11,no z12⟩
 have GN:Fk mg "NUM" (.int 0):=⟨_,gl b1,⟨_,rfl⟩⟩
 have GT:Fk mg "TRUTH" (.int 1):=⟨_,gl b2,⟨_,rfl⟩⟩
 have GM:Fk mg "MOST_FORMS" (.int 40):=⟨_,gl b3,⟨_,rfl⟩⟩
 have GF:Fk mg "FIRST_SHAPES" (.ref fs):=⟨_,gl b4,rfl⟩
 have HF:=two_top gtA eA
 have HF0:=Za2 gtB eB (by decide)
 have HF1:=Za2 gtC eC (by decide)
 have ca:=fun {k n st f ps sp}=>@cal l.prog w K mg base h X G n st f k ps sp
 have C_is_whole:=ca a1 fun _ F=>Zjz F T
 have C_placed_forms:=ca a2 fun _ F=>Zij F T
 have C_has_part:=ca a3 fun _ F=>Zqd F T C_is_whole
 have C_forms_down_to:=ca a4 fun _ F=>Zkd F T C_has_part
 have C_names_bound:=ca a5 fun _ F=>Zj0 F T
 have C_bindings_at:=ca a6 fun _ F=>Zg8 F T C_forms_down_to C_names_bound
 have C_names_at:=ca a7 fun _ F=>Zmx F T C_bindings_at
 have C_binding_at:=ca a8 fun _ F=>Zpy F T C_names_at
 have C_new_kind:=ca a9 fun _ F=>Zla F T
 have C_kinds_of_word:=ca a10 fun _ F=>Zko F T GN GT C_new_kind
 have C_with_names:=ca a11 fun _ F=>Zq1 F T
 have C_kinds_in:=ca a12 fun _ F=>Zh5 F T GF HF HF0 HF1 C_kinds_of_word C_with_names C_names_bound
 have C_last_same:=ca a13 fun _ F=>Ziz F T
 have C_holds_itself:=ca a14 fun _ F=>Zi1 F T C_last_same
 have C_joined:=ca a15 fun _ F=>Zn2 F T C_last_same C_holds_itself
 have C_fitted:=ca a16 fun _ F=>Zmh F T C_joined
 have C_kinds_told:=ca a17 fun _ F=>Zkm F T C_last_same
 have C_mark_of:=ca a18 fun _ F=>Zkh F T C_binding_at
 have C_looks:=ca a19 fun _ F=>Zg1 F T GM C_placed_forms C_kinds_in C_fitted C_kinds_told C_mark_of
 have C_marks:=ca a20 fun _ F=>Zg5 F T C_looks
 have C__law_cell_at:=ca a21 fun _ F=>Znm F T
 have C__law_names:=ca a22 fun _ F=>Zky F T
 have C__law_same:=ca a23 fun _ F=>Zeq F T (fun n h=>Lp h (gl a23.1) F.kp (F.binds (by walk_at "bi"))) 10
 have C__law_shares:=ca a24 fun _ F=>Zkj F T
 have C__law_leaf:=ca a25 fun _ F=>Zl1 F T
 have C__law_tree:=ca a26 fun _ F=>Zd0 F T C__law_shares C__law_leaf (fun n h=>Lp h (gl a26.1) F.kp (F.binds (by walk_at "bi"))) 13
 have C__law_walk:=ca a27 fun _ F=>Zqr F T
 have C__law_filled:=ca a28 fun _ F=>Zfi F T (fun n h=>Lp h (gl a28.1) F.kp (F.binds (by walk_at "bi"))) 40
 have C__law_outside:=ca a29 fun _ F=>Znv F T
 exact Zgr FX T C__law_cell_at C__law_names C__law_tree C__law_walk C__law_filled C_marks C__law_outside C__law_same
theorem walk {l:Wc}{q:Program}{loose:List Str}{XP:(Str->Option Value)->Heap->Prop}{YP:World->Heap->Prop}{d:DefRec}{K:Params->O9}(hn:l.most=some 63)(hdf:d.params.defaults=[])
  (hY:∀(w:World)(h:Heap),YP w h->(K w.params).In h)
  (F:∀(w:World)(mg:Str->Option Value)(fa:Addr)(h:Heap),(K w.params).In h->h.Ns mainGlobals mg->mg d.name=some (.ref fa) ->
   ∃ fd:FuncData,(∀(s:Shared)(u:Value),BindsTo s fd ⟨[u],[]⟩ [("_law_script",u)])/\∀ base:Heap,(K w.params).In base->base.Ns mainGlobals mg->Bb l.prog w (K w.params) mg base Bc 42 fa fd ["_law_script"] (Ni (K w.params))) :
  PySem.W.WalkO q loose XP YP l.row.toRowW d [] (fun f vs=>PySem.call f vs) :=
 L2.walk_of (n:=63) (k:=42) (x := "_law_script") (CX:=fun _=>Bc) (sp:=fun w=>Ni (K w.params)) hn (by decide) hdf ⟨rfl,by decide,by decide⟩ hY F (fun _ _ a ns hl _ hS=>⟨a,ns,rfl,hS,hl,fun _=>rfl⟩) fun _ _ _ _ _ z=>z
end K36
open PySem PySem.W PyProof.Rows
set_option maxRecDepth 100000 in
set_option maxHeartbeats 0 in
theorem PySem.Challenge.cw_gapscribe_k36_marks_ahead_stay_holds : PySem.Challenge.rw_gapscribe_k36_marks_ahead_stay.Holds := by
 w_on; o_law; o_head (PySem.W.kHook K36.KK K36.KA (fun _=>by kernel_rfl)); (case hw=>w_witness2)
 k_fill
 refine K36.walk (l:=PySem.Challenge.rw_gapscribe_k36_marks_ahead_stay) rfl rfl (fun w h Y=>PySem.W.kIn_of Y) ?F
 case F =>
  intro w mg fa h KX G hmg
  refine' K36.all_mk KX G hmg ?a1 ?a2 ?a3 ?a4 ?a5 ?a6 ?a7 ?a8 ?a9 ?a10 ?a11 ?a12 ?a13 ?a14 ?a15 ?a16 ?a17 ?a18 ?a19 ?a20 ?a21 ?a22 ?a23 ?a24 ?a25 ?a26 ?a27 ?a28 ?a29 ?a30 ?z1 ?z2 ?z3 ?z4 ?z5 ?z6 ?z7 ?z8 ?z9 ?z10 ?z11 ?z12 ?b1 ?b2 ?b3 ?b4 ?gtA ?eA ?gtB ?eB ?gtC ?eC
  (case a1=>walk_at "gd")
  (case a2=>walk_at "gd")
  (case a3=>walk_at "gd")
  (case a4=>walk_at "gd")
  (case a5=>walk_at "gd")
  (case a6=>walk_at "gd")
  (case a7=>walk_at "gd")
  (case a8=>walk_at "gd")
  (case a9=>walk_at "gd")
  (case a10=>walk_at "gd")
  (case a11=>walk_at "gd")
  (case a12=>walk_at "gd")
  (case a13=>walk_at "gd")
  (case a14=>walk_at "gd")
  (case a15=>walk_at "gd")
  (case a16=>walk_at "gd")
  (case a17=>walk_at "gd")
  (case a18=>walk_at "gd")
  (case a19=>walk_at "gd")
  (case a20=>walk_at "gd")
  (case a21=>walk_at "gd")
  (case a22=>walk_at "gd")
  (case a23=>walk_at "gd")
  (case a24=>walk_at "gd")
  (case a25=>walk_at "gd")
  (case a26=>walk_at "gd")
  (case a27=>walk_at "gd")
  (case a28=>walk_at "gd")
  (case a29=>walk_at "gd")
  (case a30=>walk_at "gd")
  (case z1=>k_is)
  (case z2=>k_is)
  (case z3=>k_is)
  (case z4=>k_is)
  (case z5=>k_is)
  (case z6=>k_is)
  (case z7=>k_is)
  (case z8=>k_is)
  (case z9=>k_is)
  (case z10=>k_is)
  (case z11=>k_is)
  (case z12=>k_is)
  (case b1=>k_is)
  (case b2=>k_is)
  (case b3=>k_is)
  (case b4=>k_is)
  (case gtA=>k_is)
  (case eA=>rfl)
  (case gtB=>k_is)
  (case eB=>rfl)
  (case gtC=>k_is)
  (case eC=>rfl)
#print axioms PySem.Challenge.cw_gapscribe_k36_marks_ahead_stay_holds
