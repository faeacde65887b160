import PyProof.Rows.All
import Wide.All
import OpenK.AllK
import Wide.FinOn
import Lean
import PyProof.EqAt
import PyProof.EqKinds
import PyProof.TupleCall
import PyProof.StrBlock2
import KE.KDictOf
import PyProof.AttrMissHeap
import KE.KRevSl
import PySem.Challenge.RW_gapscribe_k37_too_big
set_option compiler.extract_closed false
set_option bootstrap.genMatcherCode false
set_option genSizeOfSpec false
set_option Elab.async false
set_option linter.all false
set_option maxRecDepth 100000
open Array renaming length_toList->Tk,getElem?_eq_some_iff->Uw
open Bool renaming false_ne_true->P6,false_eq_true->R4,and_eq_true->Sr,eq_iff_iff->Tu,or_false->Vx
open False renaming elim->Qh
open Int renaming toNat_natCast->Ua,emod_nonneg->Uk,emod_lt_of_pos->Vi
open List renaming getElem?_eq_getElem->Pn,getElem?_eq_some_iff->Pt,size_toArray->Pq,length_append->Px,length_map->Pw,length_cons->Py,mem_cons->Pu,length_take->Qb,mem_singleton->Qi,length_singleton->Qm,not_mem_nil->Qe,getElem?_map->Qj,getElem?_append_left->Q7,eq_nil_of_length_eq_zero->Rr,getElem?_append_right->Rh,drop_eq_getElem_cons->Rs,mem_append->Qq,mem_append_right->Rb,length_set->Qs,replicate->Qt,mem_of_getElem?->Rj,take_length->Q3,append_nil->Qx,range->Qg,getElem?_set_self->R1,getD_eq_getElem?_getD->Sg,append_assoc->Rl,mem_cons_of_mem->R3,drop_of_length_le->Si,take_of_length_le->Sj,map_append->Rn,take_succ->Re,getElem?_set_ne->Sm,lookup_cons->R5,take_add_one->R9,map_cons->Rv,replicate_succ->Tl,find?_cons->Sv,cons_append->Tt,mem_cons_self->T7,length_mapIdx->T9,forIn_cons->Tv,eq_nil_or_concat->Va,concat_eq_append->Vb,flatten_cons->Ub,length_drop->Uc,all_eq_true->Ud,getElem_mem->Ue,filterMap_cons->Vd,length_reverse->Ve,of_mem_zip->Ug,getElem?_take->Vh,forIn_nil->Ul,length_filter_le->Wh,append_inj'->Vn,getElem?_mapIdx->Wl,any_cons->Up,dropLast_concat_getLast->Xd,mem_filter->Vo,nodup_cons->Vp,reverse_append->Wm,flatMap_append->Wn,length_nil->Vs,take_succ_cons->Wp,drop_zero->Vv,foldl_append->Wy,pairwise_map->Wz,all_cons->Vy,drop_length->W2,nil_append->W6,map_map->V6,mem_map->V8,length->V9
open Nat renaming le_refl->Po,lt_of_lt_of_le->P7,ne_of_lt->P0,zero_le->Qd,le_trans->Qr,ne_of_gt->Qy,lt_irrefl->Rg,le_add_right->Ts,sub_self->Sd,not_lt_zero->Tx,min_eq_left->Uj,lt_succ_of_lt->Vk,le_succ->Ta,le_of_lt->Ur,lt_succ_self->W0,succ_pos->V3,sub_zero->V4,zero_add->V7
open Ne renaming symm->Qa
open Option renaming isSome_iff_exists->R0,bind_some->Ss,map_eq_some_iff->Wf,map_some->Vr,isSome_map->Wx
open Option.some renaming inj->P8
open PyProof.Rows renaming callWith_type1->Q6,slot_tuple_getitem->Tg,boot_enumerate->Xe,assignInOrder_cons->Wq
open PySem renaming wpAny_bind->Pl,wpAny_pure->Pm,wpAny_field->P4,wpAny_callSpecial?_slot->Ri,wpAny_holding->Ql,wpAny_newObj_type->Rk,wpAny_setField_rec->Ru,wpAny_passesOwn->Rc,wpAny_call_entry->Rm,Params->Qz,builtinLookup_eq_fast->Sk,wpAny_seqItems->Rp,mem_of_lookup->Sn,wpAny_mono->Q0,Stmt->Q1,wpAny_attempt->Rx,wpAny_truthy_bool->Sq,wpAny_execs_nil->Sa,wpAny_Call_Name_kw->To,tupleKind_room_in1->Tp,typeLookup_type->Su,wpAny_getItem_str_slice->U1,wpAny_pyIter_tuple->T8,codeAny_builtin->Tw,wpAny_standAt->Sx,plainId_quiet->Sy,wpAny_setField->Tz,wpAny_isInstance->Uf,codeAny_mono->Sz,wpAny_specialOf->Uh,wpAny_updateSeq->Ui,wpAny_rule->Se,wpAny_call->Sf,wpAny_loadPart->Um,wpAny_typeOf->T2,wpAny_execs_cons->Vl,noFill_tuple_add->Vm,wpAny_pyIter_revIter->Wi,wpAny_updateSeq_pair->Wj,codeAny_call_builtin->Wk,call_meets->Tc,post_val_or_str->Vq,isSubtype_stop->Vu,wpAny_pyIter_list->Wu,wpAny_pyIter_enum->Wv,wpAny_loadPart_at->Ww,seq_tuple_add->Vw,wpAny_onRaise->Vz,wpAny_pyIter_zip->W1,concat_meets->V0,revObj->V2,call_meetsIn->V5,wpAny_letGo->Wa
open PySem.Around renaming under_plainId->Tj
open PySem.AutoSeq1 renaming wpAny_loadPart'->Uu
open PySem.Builtin.List renaming listTooLong->Th,listLengthHint->T3,listExtendWith->Wb
open PySem.Builtin.Slice renaming slicePlaces->Ux,sliceAdjust->Wc
open PySem.Builtin.SmallTypes renaming ownedTupleIsFree->Rq,nextOf->Q8,ownedTupleHandOut->W8
open PySem.Builtin.Tuple renaming tupleExact->Uz
open PySem.Calls renaming spliced_cons->So,spliced_nil->Tq,callWith_builtin->U5,evalArgs_plain->Vc
open PySem.Challenge renaming pw_gapscribe_k37_too_big->Tf
open PySem.Draws renaming list->Te
open PySem.F renaming plainAttrs_list->Qp,slot_list_append->Q9,type_list_append->Ra,slot_zip_next->R8,slot_tuple_iterator_next->Ut,excBase_ValueError->T4,plain_extend_loop->T6,slot_dict_get->Ti,slot_enumerate_next->Uv,args_tuple_add_2->Uy,entry_tuple_add->U0,args_zip_next_1->U2,attr_ValueError->U3,slot_tuple_add->U4,entry_zip_next->U6,entry_dict_get->U7,slot_list_pop->U8,type_list_pop->U9,slot_list_getattribute->Wd,args_tuple_iterator_next_1->W9,entry_tuple_iterator_next->Xa,args_enumerate_next_1->Xb,entry_enumerate_next->Xc
open PySem.Heap renaming get?_push_of_some->Pp,lt_size->Pr,get?_push_size->P5,get?_update_other->Q2,SameBut->P9,get?_update_self->Rt,size_push->Q4,get?_none_of_le->Sl,ExtBut->Tb
open PySem.Obj renaming mapSeq->Qu,data_mapFields->Vg,mapFields->T1,isFreed_of_fields->Wg
open PySem.Paired renaming length->Uo
open PySem.PassesOwn renaming never->Qf
open PySem.SeqAt renaming EqAt->Qc
open PySem.SeqAt.EqAt renaming same->W5
open PySem.Str renaming ofString->Q5
open PySem.Txt renaming slice_le->V1,slice->Us
open PySem.W renaming Frag->Pk,subIn->Pz,nsIn->P3,findIn->Qk,kitOne->Qn,typeIn->Qo,kia_one->Qw,keepIn->Ro,BT->Qv,fnOf->Ry,clsIn->R6,Looks->R7,InstAt->Sb,tailIn->Sc,kitAny->Sw,nsOkIn->T0,callWith_K->Vf,cellsFrom_some->We,hasDictIn->Vj,mg_of->Uq,looks_subIn->Wo,codeIn->Vt,methodObj->Wr,specialIn->Ws,kitx_list->Wt,instObj->W3,takesIn->W4,OpenLaw->W7
namespace L2
open PySem PySem.Spec PyProof.Rows
noncomputable abbrev Ap:=Sum Int Str
noncomputable def Iw:Ap->Value->Bool
 | .inl k,v=>Value.isInt k v
 | .inr x,v=>Value.isStrOf x v
noncomputable def keyH (w:World):Ap->Int
 | .inl k=>hashInt k
 | .inr x=>hashStr w x
theorem Fy:∀{k:Ap}{v:Value},Iw k v=true->(∃ i t,k=Sum.inl i/\v=Value.int i t)\/(∃ x t,k=Sum.inr x/\v=Value.str x t)
 | .inl i,v,h=>by
  obtain ⟨t,e⟩:=Value.isInt_shape (k:=i) (v:=v) h
  exact .inl ⟨i,t,rfl,e⟩
 | .inr x,v,h=>by
  obtain ⟨t,e⟩:=Value.isStrOf_shape (x:=x) (v:=v) h
  exact .inr ⟨x,t,rfl,e⟩
theorem Zns (i:Int)(t:Tok):Iw (.inl i) (.int i t)=true:=by simp [Iw,Value.isInt]
theorem Zr4 (x:Str)(t:Tok):Iw (.inr x) (.str x t)=true:=by simp [Iw,Value.isStrOf]
theorem Zm8 (a b:Int):decide ((Sum.inl a:Ap)=Sum.inl b)=(a == b):=by
 by_cases e:a=b
 ·subst e;simp
 ·have h:¬ (Sum.inl a:Ap)=Sum.inl b:=fun q=>e (Sum.inl.inj q)
  rw [decide_eq_false h]
  exact (beq_eq_false_iff_ne.mpr e).symm
theorem Ztv (a b:Str):decide ((Sum.inr a:Ap)=Sum.inr b)=decide (a=b):=by
 by_cases e:a=b
 ·subst e;simp
 ·have h:¬ (Sum.inr a:Ap)=Sum.inr b:=fun q=>e (Sum.inr.inj q)
  rw [decide_eq_false h,decide_eq_false e]
theorem Zip (a:Int)(b:Str):decide ((Sum.inl a:Ap)=Sum.inr b)=false:=decide_eq_false (fun q=>nomatch q)
theorem Zpf (a:Str)(b:Int):decide ((Sum.inr a:Ap)=Sum.inl b)=false:=decide_eq_false (fun q=>nomatch q)
noncomputable def Cn (prog:Program)(w:World):PySem.KeyKind prog w Ap where
 is:=Iw
 hash:=keyH w
 inj:=fun v a b ha hb=>by
  rcases Fy ha with ⟨i,t,rfl,rfl⟩ | ⟨x,t,rfl,rfl⟩
  ·rcases Fy hb with ⟨j,u,rfl,e⟩ | ⟨y,u,rfl,e⟩
   ·injection e with e1 _;rw [e1]
   ·exact nomatch e
  ·rcases Fy hb with ⟨j,u,rfl,e⟩ | ⟨y,u,rfl,e⟩
   ·exact nomatch e
   ·injection e with e1 _;rw [e1]
 byValue:=fun k v h=>by
  rcases Fy h with ⟨i,t,rfl,rfl⟩ | ⟨x,t,rfl,rfl⟩ <;> rfl
 pyHash:=fun hv h=>by
  rcases Fy hv with ⟨i,t,rfl,rfl⟩ | ⟨x,t,rfl,rfl⟩
  ·exact wpAny_pyHash_int h
  ·exact wpAny_pyHash_str h
 eqBool:=fun hu hv h=>by
  rcases Fy hu with ⟨i,t,rfl,rfl⟩ | ⟨x,t,rfl,rfl⟩
  ·rcases Fy hv with ⟨j,u,rfl,rfl⟩ | ⟨y,u,rfl,rfl⟩
   ·rw [Zm8] at h;exact wpAny_eqBool_int h
   ·rw [Zip] at h;exact Qc.int_str i t y u _ _ _ _ h
  ·rcases Fy hv with ⟨j,u,rfl,rfl⟩ | ⟨y,u,rfl,rfl⟩
   ·rw [Zpf] at h;exact Qc.str_int x t j u _ _ _ _ h
   ·rw [Ztv] at h;exact wpAny_eqBool_str h
 «strs»:=fun k x t v h=>by
  rcases Fy h with ⟨i,u,rfl,e⟩ | ⟨y,u,rfl,e⟩
  ·exact nomatch e
  ·injection e with e1 _
   subst e1
   cases v <;> rfl
theorem Zjn (prog:Program)(w:World)(i:Int)(t:Tok):(Cn prog w).is (.inl i) (.int i t)=true:=Zns i t
theorem Zps (prog:Program)(w:World)(x:Str)(t:Tok):(Cn prog w).is (.inr x) (.str x t)=true:=Zr4 x t
inductive V where
 | non | bl (b:Bool) | int (i:Int) | str (x:Str) | byt (b:Array UInt8) | flt (b:UInt64) | ref (a:Addr) | ty (n:String)
 deriving DecidableEq
noncomputable def RelV:V->Value->Prop
 | .non,u=>u=Value.none
 | .bl b,u=>u=Value.bool b
 | .int i,u=>∃ t,u=Value.int i t
 | .str x,u=>∃ t,u=Value.str x t
 | .byt b,u=>∃ t,u=Value.bytes b t
 | .flt b,u=>∃ t,u=Value.float b t
 | .ref a,u=>u=Value.ref a
 | .ty n,u=>u=Value.type n
noncomputable abbrev Vals:List V->List Value->Prop:=Paired RelV
theorem Vals.length {xs:List V}{us:List Value}(r:Vals xs us):xs.length=us.length:=Uo r
theorem Vals.get:∀{xs:List V}{us:List Value}{i:Nat}{x:V},Vals xs us->xs[i]?=some x->∃ u,us[i]?=some u/\RelV x u
 | _,_,_,_,.nil,e=>by simp at e
 | _,_,0,_,.cons r _,e=>by simp at e;subst e;exact ⟨_,rfl,r⟩
 | _,_,i+1,x,.cons _ t,e=>by
  obtain ⟨u,h1,h2⟩:=Vals.get (i:=i) (x:=x) t (by simpa using e)
  exact ⟨u,by simpa using h1,h2⟩
theorem Vals.set {x:V}{u:Value}(r:RelV x u):∀{xs:List V}{us:List Value}(i:Nat),Vals xs us->Vals (xs.set i x) (us.set i u)
 | _,_,_,.nil=>.nil
 | _,_,0,.cons _ t=>.cons r t
 | _,_,i+1,.cons q t=>.cons q (Vals.set r i t)
theorem Vals.append:∀{xs ys:List V}{us ws:List Value},Vals xs us->Vals ys ws->Vals (xs++ys) (us++ws)
 | _,_,_,_,.nil,s=>s
 | _,_,_,_,.cons r t,s=>.cons r (Vals.append t s)
theorem Vals.take:∀{xs:List V}{us:List Value}(n:Nat),Vals xs us->Vals (xs.take n) (us.take n)
 | _,_,0,_=>.nil
 | _,_,_+1,.nil=>.nil
 | _,_,n+1,.cons r t=>.cons r (Vals.take n t)
theorem Vals.drop:∀{xs:List V}{us:List Value}(n:Nat),Vals xs us->Vals (xs.drop n) (us.drop n)
 | _,_,0,r=>r
 | _,_,_+1,.nil=>.nil
 | _,_,n+1,.cons _ t=>Vals.drop n t
noncomputable def RelO:Option V->Option Value->Prop
 | some v,some u=>RelV v u
 | none,none=>True
 | _,_=>False
noncomputable def KV {κ:Type}:List (κ×V)->List (κ×Value)->Prop:=Paired fun (p:κ×V) (q:κ×Value)=>p.1=q.1/\RelV p.2 q.2
noncomputable def kV:Ap->V
 | .inl i=>.int i
 | .inr x=>.str x
inductive HO where
  | lst (xs:List V)
  | tup (xs:List V)
  | dK (kvs:List (Ap×V)) | dT (kvs:List (List Ap×V))
  | set (S:Int->Bool) (n:Nat)
  | ins (C dx:Addr) (fs:List (Str×V))
  | own (x:Addr)
  | xd (fs:List (Str×V))
  | met (f x:Addr)
  | rng (lo hi:Int)
  | frz (o:Obj) (u:HO)
  | tbl (ps:Array Value)
  | ext (φ:Heap->Prop)
noncomputable abbrev Hp:=Addr->Option HO
noncomputable def upd (H:Hp)(a:Addr)(o:HO):Hp:=fun b=>if b=a then some o else H b
theorem Ad {H:Hp}{a:Addr}{o:HO}:upd H a o a=some o:=by unfold upd;rw [if_pos rfl]
theorem Ag {H:Hp}{a b:Addr}{o:HO}(h:b≠a):upd H a o b=H b:=by unfold upd;rw [if_neg h]
theorem Ky {H:Hp}{a:Addr}{o u:HO}:upd (upd H a o) a u=upd H a u:=by
 funext b;unfold upd;split <;> rfl
theorem Fg {H:Hp}{a b:Addr}{o u:HO}(h:H a=some o)(h':H b=some u)(d:o≠u):a≠b:=by
 intro e;subst e;rw [h] at h';exact d (P8 h')
theorem A5 {H:Hp}{a b:Addr}{o:HO}(h:H a=some o)(h':H b=none):a≠b:=by
 intro e;subst e;rw [h] at h';cases h'
section
variable (P:Program)(w:World)
noncomputable def ObjOk (H:Hp)(h:Heap)(a:Addr):HO->Prop
 | .lst xs=>xs.length<=sizeLine/\∃(its:List Value)(n:Nat),Vals xs its/\h.get? a=some { cls:=.type "list",data:=.seq its.toArray n }
 | .tup xs=>xs.length<=sizeLine/\∃ its:List Value,Vals xs its/\IsTup h a its.toArray
 | .dK kvs=>kvs.length<=sizeLine/\(a == sysModules)=false/\∃ vs,KV kvs vs/\h.DictOf (Cn P w) a vs
 | .dT kvs=>kvs.length<=sizeLine/\(a == sysModules)=false/\∃ xs:List (List Ap×Addr×Value),
   Paired (fun (p:List Ap×V) (q:List Ap×Addr×Value)=>p.1=q.1/\H q.2.1=some (.tup (p.1.map kV))/\RelV p.2 q.2.2) kvs xs /\
   ∃ o es ep,h.get? a=some o/\o.ExactDict/\o.data=.dict es ep/\es.toList=xs.map (entryOfKey (tupleKind (Cn P w)))/\(xs.map (·.1)).Nodup
 | .set S n=>h.SetOf (intKind P w) a S n
 | .ins C dx fs=>H dx=some (.own a)/\fs.length<=1000/\dx≠a/\h.get? a=some (W3 C dx) /\
   ∃ mA,h.Ns1 dx mA/\(∀ f,RelO (fs.lookup f) (mA f))/\PySem.Within mA (fs.map (·.1))
 | .own _=>∃ o,h.get? a=some o
 | .xd fs=>∃ mA,h.Ns1 a mA/\∀ f,RelO (fs.lookup f) (mA f)
 | .rng lo hi=>∃ t u v,h.get? a=some { cls:=.type "range",data:=.fields #[.int lo t,.int hi u,.int 1 v] }
 | .frz o u=>h.get? a=some o/\ObjOk H h a u
 | .tbl ps=>h.get? a=some { cls:=.none,data:=.fields ps }
 | .met f x=>h.get? a=some (Wr (.ref f) (.ref x))
 | .ext φ=>φ h/\(∃ o,h.get? a=some o)/\∀ h1 h2:Heap,φ h1->(∀ o,h1.get? a=some o->h2.get? a=some o)->φ h2
noncomputable def HOk (H:Hp)(h:Heap):Prop:=∀ a o,H a=some o->ObjOk P w H h a o
end
section
variable {P:Program}{w:World}{H H':Hp}{h h':Heap}{a:Addr}{o:HO}
theorem ObjOk.lt (x:ObjOk P w H h a o):a < h.objs.size:=by
 cases o with
 | lst xs=>obtain ⟨_,_,_,_,e⟩:=x;exact Pr e
 | tup xs=>obtain ⟨_,_,_,p⟩:=x;exact p.lt
 | dK kvs=>obtain ⟨_,_,_,_,o,_,_,e,_⟩:=x;exact Pr e
 | dT kvs=>obtain ⟨_,_,_,_,o,_,_,e,_⟩:=x;exact Pr e
 | set S n=>obtain ⟨o,_,_,_,e,_⟩:=x;exact Pr e
 | ins C dx fs=>obtain ⟨_,_,_,e,_⟩:=x;exact Pr e
 | own y=>obtain ⟨_,e⟩:=x;exact Pr e
 | xd fs=>obtain ⟨_,⟨_,_,_,e,_⟩,_⟩:=x;exact Pr e
 | rng lo hi=>obtain ⟨_,_,_,e⟩:=x;exact Pr e
 | frz ob u=>obtain ⟨e,_⟩:=x;exact Pr e
 | tbl ps=>exact Pr (show h.get? a=some _ from x)
 | met f y=>exact Pr (show h.get? a=some _ from x)
 | ext φ=>obtain ⟨_,⟨_,e⟩,_⟩:=x;exact Pr e
theorem Paired.mapP {α β:Type}{F G:α->β->Prop}:∀{l₁:List α}{l₂:List β},Paired F l₁ l₂->(∀ a b,F a b->G a b)->Paired G l₁ l₂
 | _,_,.nil,_=>.nil
 | _,_,.cons r t,f=>.cons (f _ _ r) (Paired.mapP t f)
theorem ObjOk.stay (x:ObjOk P w H h a o)(k:∀ b u,(b=a\/H b=some (.own a))->h.get? b=some u->h'.get? b=some u)
  (ho:∀ b,H b=some (.own a)->H' b=some (.own a)) (ht:∀ b xs,H b=some (.tup xs)->H' b=some (.tup xs)):ObjOk P w H' h' a o:=by
 induction o with
 | lst xs=>obtain ⟨z,its,n,r,e⟩:=x;exact ⟨z,its,n,r,k _ _ (.inl rfl) e⟩
 | tup xs=>obtain ⟨z,its,r,ob,e,c⟩:=x;exact ⟨z,its,r,ob,k _ _ (.inl rfl) e,c⟩
 | dK kvs=>obtain ⟨z,y,vs,r,ob,es,ep,e,c⟩:=x;exact ⟨z,y,vs,r,ob,es,ep,k _ _ (.inl rfl) e,c⟩
 | dT kvs =>
  obtain ⟨z,y,xs,r,ob,es,ep,e,c⟩:=x
  exact ⟨z,y,xs,Paired.mapP r fun p q z=>⟨z.1,ht _ _ z.2.1,z.2.2⟩,ob,es,ep,k _ _ (.inl rfl) e,c⟩
 | set S n=>obtain ⟨ob,es,ep,t,e,c⟩:=x;exact ⟨ob,es,ep,t,k _ _ (.inl rfl) e,c⟩
 | ins C dx fs =>
  obtain ⟨d,z,ne,e,mA,⟨od,es,ep,e2,c⟩,r⟩:=x
  exact ⟨ho _ d,z,ne,k _ _ (.inl rfl) e,mA,⟨od,es,ep,k _ _ (.inr d) e2,c⟩,r⟩
 | own y=>obtain ⟨ob,e⟩:=x;exact ⟨ob,k _ _ (.inl rfl) e⟩
 | xd fs=>obtain ⟨mA,⟨od,es,ep,e,c⟩,r⟩:=x;exact ⟨mA,⟨od,es,ep,k _ _ (.inl rfl) e,c⟩,r⟩
 | rng lo hi=>obtain ⟨t,u,v,e⟩:=x;exact ⟨t,u,v,k _ _ (.inl rfl) e⟩
 | frz ob u ih=>obtain ⟨e,q⟩:=x;exact ⟨k _ _ (.inl rfl) e,ih q⟩
 | tbl ps =>
  have e:h.get? a=some { cls:=.none,data:=.fields ps }:=x
  show h'.get? a=some { cls:=.none,data:=.fields ps }
  exact k a _ (.inl rfl) e
 | met f y =>
  have e:h.get? a=some (Wr (.ref f) (.ref y)):=x
  show h'.get? a=some (Wr (.ref f) (.ref y))
  exact k a _ (.inl rfl) e
 | ext φ=>obtain ⟨p,⟨o,e⟩,st⟩:=x;exact ⟨st _ _ p fun o q=>k _ _ (.inl rfl) q,⟨o,k _ _ (.inl rfl) e⟩,st⟩
theorem HOk.lt (x:HOk P w H h)(e:H a=some o):a < h.objs.size:=(x a o e).lt
theorem HOk.fresh (x:HOk P w H h)(e:h.objs.size<=a):H a=none:=by
 cases q:H a with
 | none=>rfl
 | some u=>exact absurd (P7 (x.lt q) e) (Rg _)
theorem HOk.kept (x:HOk P w H h)(k:∀ b u,h.get? b=some u->h'.get? b=some u):HOk P w H h':=fun a o e =>
 (x a o e).stay (fun b u _ q=>k b u q) (fun _ q=>q) fun _ _ q=>q
theorem HOk.laid (x:HOk P w H h)(k:∀ b u,h.get? b=some u->h'.get? b=some u)(hp:h.objs.size<=a)(new:ObjOk P w (upd H a o) h' a o):HOk P w (upd H a o) h':=fun b u e=>by
 have hn:=x.fresh hp
 by_cases hb:b=a
 ·subst hb;rw [Ad] at e;cases e;exact new
 ·rw [Ag hb] at e
  exact (x b u e).stay (fun c v _ q=>k c v q) (fun c q=>by rw [Ag (A5 q hn)];exact q) fun c xs q=>by rw [Ag (A5 q hn)];exact q
end
noncomputable def Rd (H:Hp)(a:Addr)(u:HO):Prop:=H a=some u\/∃ o,H a=some (.frz o u)
theorem Rd.ok {P:Program}{w:World}{H:Hp}{h:Heap}{a:Addr}{u:HO}(r:Rd H a u)(x:HOk P w H h):ObjOk P w H h a u:=by
 rcases r with r | ⟨o,r⟩
 ·exact x a u r
 ·obtain ⟨_,q⟩:=x a _ r
  exact q
noncomputable def Mut:Option HO->Prop
 | some (.lst _)=>True
 | some (.dK _)=>True
 | some (.dT _)=>True
 | some (.set _ _)=>True
 | some (.ins _ _ _)=>True
 | some (.ext _)=>True
 | _=>False
section
variable {P:Program}{w:World}{H:Hp}{h h':Heap}{x e:Addr}{o':HO}
theorem HOk.write (ok:HOk P w H h)(mu:Mut (H x))(he:e=x\/H e=some (.own x))(k:∀ b u,b≠e->h.get? b=some u->h'.get? b=some u)(heo:∃ u,h'.get? e=some u)
  (new:ObjOk P w (upd H x o') h' x o'):HOk P w (upd H x o') h':=fun b u q=>by
 have nown:∀ c y,H c=some (.own y)->c≠x:=fun c y r z=>by subst z;rw [r] at mu;exact mu
 have ntup:∀ c xs,H c=some (.tup xs)->c≠x:=fun c xs r z=>by subst z;rw [r] at mu;exact mu
 by_cases hb:b=x
 ·subst hb;rw [Ad] at q;cases q;exact new
 ·rw [Ag hb] at q
  by_cases hbe:b=e
  ·have q':H b=some (.own x):=by
    rcases he with z | z
    ·exact absurd (hbe.trans z) hb
    ·rw [hbe];exact z
   rw [q] at q';cases q'
   obtain ⟨v,hv⟩:=heo
   exact ⟨v,by rw [hbe];exact hv⟩
  ·refine (ok b u q).stay (fun c v hc r=>k c v ?_ r) (fun c r=>by rw [Ag (nown c b r)];exact r) fun c xs r=>by rw [Ag (ntup c xs r)];exact r
   rcases hc with rfl | hc
   ·exact hbe
   ·rintro rfl
    rcases he with z | z
    ·exact nown c b hc z
    ·rw [hc] at z;cases z;exact hb rfl
end
structure Un (fs ex:List Addr)(H H':Hp)(h h':Heap):Prop where
 keep:∀ b o,h.get? b=some o->H b=none->b ∉ fs->b ∉ ex->h'.get? b=some o
 slot:∀ b o,h.get? b=some o->H b=none->b∈fs->b ∉ ex->∃ sl,h'.get? b=some { o with slots:=sl }
 free:∀ b o,h.get? b=some o->H b=none->b ∉ ex->H' b=none
 there:∀ b o,h.get? b=some o->b ∉ ex->∃ o',h'.get? b=some o'
 tups:∀ b xs,H b=some (.tup xs)->H' b=some (.tup xs)
 frzs:∀ b o u,H b=some (.frz o u)->H' b=some (.frz o u)
 tbls:∀ b ps,H b=some (.tbl ps)->∃ more,H' b=some (.tbl (ps++more))
section
variable {fs fs' ex ex':List Addr}{H H1 H2:Hp}{h h1 h2 h':Heap}{a x e:Addr}{o:HO}
theorem Un.any (u:Un fs ex H H1 h h1){b:Addr}{ob:Obj}(q:h.get? b=some ob)(n:H b=none)(hx:b ∉ ex):∃ sl,h1.get? b=some { ob with slots:=sl }:=by
 by_cases hb:b∈fs
 ·exact u.slot b ob q n hb hx
 ·exact ⟨ob.slots,u.keep b ob q n hb hx⟩
theorem Un.kept (k:∀ b u,h.get? b=some u->h'.get? b=some u):Un fs ex H H h h' :=
 ⟨fun b ob q _ _ _=>k b ob q,fun b ob q _ _ _=>⟨ob.slots,k b ob q⟩,fun _ _ _ n _=>n,fun b ob q _=>⟨ob,k b ob q⟩,fun _ _ q=>q,fun _ _ _ q=>q,fun _ ps q=>⟨#[],by rw [q];simp⟩⟩
theorem Un.refl:Un fs ex H H h h:=Un.kept fun _ _ q=>q
theorem Un.laid (k:∀ b u,h.get? b=some u->h'.get? b=some u)(hp:h.objs.size<=a)(hn:H a=none):Un fs ex H (upd H a o) h h' where
 keep:=fun b u q _ _ _=>k b u q
 slot:=fun b u q _ _ _=>⟨u.slots,k b u q⟩
 free:=fun b u q n _=>by rw [Ag (P0 (P7 (Pr q) hp))];exact n
 there:=fun b u q _=>⟨u,k b u q⟩
 tups:=fun b xs q=>by rw [Ag (A5 q hn)];exact q
 frzs:=fun b u xs q=>by rw [Ag (A5 q hn)];exact q
 tbls:=fun b ps q=>⟨#[],by rw [Ag (A5 q hn),q];simp⟩
theorem Un.write (mu:Mut (H x))(he:e=x\/H e=some (.own x))(k:∀ b u,b≠e->h.get? b=some u->h'.get? b=some u)(heo:∃ u,h'.get? e=some u):Un fs ex H (upd H x o) h h':=by
 have hx:∀ b,H b=none->b≠x:=fun b n z=>by subst z;rw [n] at mu;exact mu
 have hb:∀ b,H b=none->b≠e:=fun b n z=>by
  subst z
  rcases he with r | r
  ·exact hx b n r
  ·rw [n] at r;cases r
 have hm:∀ b u,H b=some u->¬ Mut (some u)->b≠x:=fun b u q nm z=>by subst z;rw [q] at mu;exact nm mu
 refine ⟨fun b u q n _ _=>k b u (hb b n) q,fun b u q n _ _=>⟨u.slots,k b u (hb b n) q⟩,fun b u q n _=>by rw [Ag (hx b n)];exact n,fun b u q _=>?_,
  fun b xs q=>by rw [Ag (hm b _ q fun z=>z)];exact q,fun b u xs q=>by rw [Ag (hm b _ q fun z=>z)];exact q,fun b ps q=>⟨#[],by rw [Ag (hm b _ q fun z=>z),q];simp⟩⟩
 by_cases hbe:b=e
 ·subst hbe;exact heo
 ·exact ⟨u,k b u hbe q⟩
end
noncomputable def trk (h:Heap)(H:Hp):List Addr:=(Qg h.objs.size).filter fun a=>(H a).isSome
noncomputable def F5 (h:Heap)(H:Hp):Heap:=PySem.W.hideAll h (trk h H)
theorem Zo9 (h:Heap)(H:Hp):(F5 h H).objs.size=h.objs.size:=PySem.W.hideAll_size _ _
theorem Zli {h:Heap}{H:Hp}{b:Addr}{o:Obj}(e:h.get? b=some o)(n:H b=none):(F5 h H).get? b=some o :=
 PySem.W.hideAll_get _ e fun hm=>by
  have q:(H b).isSome=true:=(Vo.mp hm).2
  rw [n] at q;simp at q
theorem Znp {h:Heap}{H:Hp}{b:Addr}{o:Obj}(e:(F5 h H).get? b=some o):h.get? b=some o/\H b=none:=by
 have e':h.get? b=some o:=PySem.W.of_hideAll (trk h H) e
 refine ⟨e',?_⟩
 cases q:H b with
 | none=>rfl
 | some x =>
  have hm:b∈trk h H:=Vo.mpr ⟨List.mem_range.mpr (Pr e'),by simp [q]⟩
  have z:(F5 h H).get? b=none:=PySem.W.hideAll_none (trk h H) hm
  rw [z] at e;cases e
structure Mod (K:Pk)(mg:Str->Option Value)(base:Heap):Prop where
 kin:K.In base
 glob:base.Ns mainGlobals mg
 blt:∃ mb,base.Ns builtinsNs mb/\∀ x:Str,x ≠ "__name__" -> mb x=bootBuiltins x
 nolimit:base.NoLimit
structure Cx where
 prog:Program
 w:World
 K:Pk
 mg:Str->Option Value
 base:Heap
 A:Around
 N:List Str
 s₀:Shared
 H₀:Hp
 env:Env
 outer:List Env
 stack:List Env
 ex:List Addr
 fn:Str->Bool
 calm:Bool
 pn:List (Addr×Obj)
 xe:Value->Shared->Prop
noncomputable def Bp (l:List Env):List Addr:=l.filterMap (·.frame)
noncomputable abbrev Cx.fs (X:Cx):List Addr:=Bp X.outer
noncomputable def Vis (sc:Scope)(x:Str):Prop:=sc.names.lookup x=some .local\/sc.names.lookup x=some .cell\/sc.names.lookup x=some .free
noncomputable def Em (sc:Scope)(x:Str):Prop:=sc.names.lookup x=some .local\/sc.names.lookup x=some .cell
noncomputable def Look (env:Env)(h:Heap)(m:Str->Option Value)(x:Str)(u:Value):Prop :=
 (env.kindOf x=some .local/\m x=some u)\/((env.kindOf x=some .cell\/env.kindOf x=some .free)/\∃ c,env.cells.lookup x=some c/\h.IsCell c (some u))
structure Cx.Ok (X:Cx):Prop where
 mod:Mod X.K X.mg X.base
 kind:X.env.scope.kind=.function
 glob:X.env.globals=mainGlobals
 blt:X.env.builtins=builtinsNs
 above:X.s₀.heap.objs.size<=X.env.locals
 inj:∀ x y c,X.env.cells.lookup x=some c->X.env.cells.lookup y=some c->x=y
 has:∀ x,(X.env.kindOf x=some .cell\/X.env.kindOf x=some .free)->∃ c,X.env.cells.lookup x=some c
 cab:∀ x c,X.fn x=true->X.env.cells.lookup x=some c->X.s₀.heap.objs.size<=c
 hd:X.calm=true->X.A.handled=none
 frames:X.A.frames=some X.stack
 stk:X.stack=X.outer\/(X.stack=X.env::X.outer/\X.env.frame=some X.env.locals)
 exf:∀ b∈X.ex,b≠X.env.locals/\∀ x c,X.env.cells.lookup x=some c->c≠b
 bs:∀ b o,X.base.get? b=some o->X.s₀.heap.get? b=some o/\X.H₀ b=none
 bsz:X.base.objs.size<=X.s₀.heap.objs.size
 noex:∀ b o,X.base.get? b=some o->b ∉ X.ex
 exfs:∀ b∈X.ex,b ∉ X.fs
 funs:X.s₀.heap.FunFrames X.base X.outer
 frf:∀ b∈X.fs,X.H₀ b=none
structure Inv (X:Cx)(pins:List (Addr×Obj))(σ:List (Option V))(H:Hp)(s:Shared):Prop where
 ok:X.Ok
 os:s.os=X.s₀.os
 bare:AllBare s.gens
 base:Un X.fs X.ex X.H₀ H X.s₀.heap s.heap
 loc:∃ m,s.heap.Ns X.env.locals m/\∀(i:Nat)(x:Str)(v:V),X.N[i]?=some x->σ[i]?=some (some v)->Vis X.env.scope x->∃ u,RelV v u/\Look X.env s.heap m x u
 cell:∀ x c,X.env.cells.lookup x=some c->∃ v,s.heap.IsCell c v
 free:H X.env.locals=none
 freeC:∀ x c,X.env.cells.lookup x=some c->H c=none
 pin:∀ p∈X.pn++pins,s.heap.get? p.1=some p.2/\H p.1=none/\p.1≠X.env.locals/\p.1 ∉ X.fs/\∀ v,p.2.data≠.cell v
 hok:HOk X.prog X.w H s.heap
 len:σ.length=X.N.length
section
variable {X:Cx}{pins:List (Addr×Obj)}{σ:List (Option V)}{H H':Hp}{s:Shared}{h':Heap}
theorem Cx.Ok.nofr (ok:X.Ok){b:Addr}{o:Obj}(e:X.base.get? b=some o):b ∉ X.fs:=fun hb=>by
 have:=(ok.funs.mem hb).1
 rw [e] at this;cases this
theorem Inv.bs (I:Inv X pins σ H s):∀ b o,X.base.get? b=some o->s.heap.get? b=some o/\H b=none:=fun b o e =>
 ⟨I.base.keep b o (I.ok.bs b o e).1 (I.ok.bs b o e).2 (I.ok.nofr e) (I.ok.noex b o e),I.base.free b o (I.ok.bs b o e).1 (I.ok.bs b o e).2 (I.ok.noex b o e)⟩
theorem Inv.bk (I:Inv X pins σ H s):∀ b o,X.base.get? b=some o->s.heap.get? b=some o:=fun b o e=>(I.bs b o e).1
theorem Inv.mod (I:Inv X pins σ H s):Mod X.K X.mg X.base:=I.ok.mod
theorem Inv.kIn (I:Inv X pins σ H s):X.K.In s.heap:=I.ok.mod.kin.keeps I.bk
theorem Inv.lt (I:Inv X pins σ H s):X.env.locals < s.heap.objs.size:=let ⟨_,hn,_⟩:=I.loc;hn.lt
theorem Inv.sz (I:Inv X pins σ H s):X.s₀.heap.objs.size<=s.heap.objs.size:=Qr I.ok.above (Ur I.lt)
theorem Inv.nofs (I:Inv X pins σ H s){a:Addr}(h:s.heap.objs.size<=a):a ∉ X.fs:=fun hb=>by
 obtain ⟨_,o,ho,_⟩:=I.ok.funs.mem hb
 exact absurd (P7 (Pr ho) (Qr I.sz h)) (Rg _)
theorem Inv.cne (I:Inv X pins σ H s):∀ x c,X.env.cells.lookup x=some c->c≠X.env.locals:=fun x c e z=>by
 obtain ⟨v,o,ho,hd⟩:=I.cell x c e
 obtain ⟨m,⟨o',es,ep,ho',hd',_⟩,_⟩:=I.loc
 rw [z,ho'] at ho;cases ho;rw [hd'] at hd;cases hd
theorem Inv.funs (I:Inv X pins σ H s):s.heap.FunFrames X.base X.outer:=by
 have all:∀(l:List Env),(∀ b∈Bp l,b∈X.fs)->X.s₀.heap.FunFrames X.base l->s.heap.FunFrames X.base l:=by
  intro l
  induction l with
  | nil=>intro _ _;trivial
  | cons env r ih =>
   intro hs hl
   obtain ⟨hk,⟨L,o,hf,hn,ho,hd⟩,hr⟩:=hl
   have hL:L∈X.fs:=hs L (by unfold Bp;rw [Vd,hf];exact T7)
   obtain ⟨sl,e⟩:=I.base.slot L o ho (I.ok.frf L hL) hL fun z=>I.ok.exfs L z hL
   exact ⟨hk,⟨L,_,hf,hn,e,hd⟩,ih (fun b hb=>hs b (by unfold Bp;rw [Vd,hf];exact R3 _ hb)) hr⟩
 exact all X.outer (fun _ hb=>hb) I.ok.funs
theorem Inv.stack (I:Inv X pins σ H s):s.heap.FunFrames X.base X.stack:=by
 rcases I.ok.stk with e | ⟨e,hf⟩
 ·rw [e];exact I.funs
 ·rw [e]
  obtain ⟨m,hn,_⟩:=I.loc
  refine .cons (by rw [I.ok.kind];decide) hf hn ?_ I.funs
  exact Sl (Qr I.ok.bsz I.ok.above)
theorem Inv.stkSub (I:Inv X pins σ H s):∀ b∈Bp X.stack,b∈X.env.locals::X.fs:=fun b hb=>by
 rcases I.ok.stk with e | ⟨e,hf⟩
 ·rw [e] at hb;exact R3 _ hb
 ·rw [e] at hb
  unfold Bp at hb
  rw [Vd,hf] at hb
  exact hb
theorem Inv.stkFree (I:Inv X pins σ H s):∀ b∈Bp X.stack,H b=none:=fun b hb=>by
 rcases Pu.mp (I.stkSub b hb) with e | hb
 ·rw [e];exact I.free
 ·obtain ⟨_,o,ho,_⟩:=I.ok.funs.mem hb
  exact I.base.free b o ho (I.ok.frf b hb) fun z=>I.ok.exfs b z hb
theorem Inv.step {g':Array GenState}{t':Nat}{d':Drawn}{ch:List Addr}(I:Inv X pins σ H s)
  (hch:∀ b∈ch,(b∈X.ex\/X.s₀.heap.objs.size<=b)/\b≠X.env.locals/\(∀ x c,X.env.cells.lookup x=some c->c≠b)/\∀ p∈X.pn++pins,p.1≠b)
  (keep:∀ b o,b≠X.env.locals->b ∉ X.fs->b ∉ ch->s.heap.get? b=some o->H b=none->h'.get? b=some o)
  (slot:∀ b o,b≠X.env.locals->b∈X.fs->b ∉ ch->s.heap.get? b=some o->H b=none->∃ sl,h'.get? b=some { o with slots:=sl }) (free:∀ b o,b ∉ ch->s.heap.get? b=some o->H b=none->H' b=none)
  (there:∀ b o,b ∉ ch->s.heap.get? b=some o->∃ o',h'.get? b=some o')
  (tups:∀ b xs,H b=some (.tup xs)->H' b=some (.tup xs)) (frzs:∀ b o u,H b=some (.frz o u)->H' b=some (.frz o u)) (tbls:∀ b ps,H b=some (.tbl ps)->∃ more,H' b=some (.tbl (ps++more)))
  (ns:∀ m,s.heap.Ns X.env.locals m->h'.Ns X.env.locals m) (hok:HOk X.prog X.w H' h') (hg:AllBare g') :
  Inv X pins σ H' { s with heap:=h',gens:=g',drawn:=d',toks:=t' }:=by
 have neL:∀ b o,X.s₀.heap.get? b=some o->b≠X.env.locals:=fun b o e=>P0 (P7 (Pr e) I.ok.above)
 have neC:∀ b o,X.s₀.heap.get? b=some o->b ∉ X.ex->b ∉ ch:=fun b o e hx hb=>by
  rcases (hch b hb).1 with z | z
  ·exact hx z
  ·exact absurd (P7 (Pr e) z) (Rg _)
 have cellK:∀ x c,X.env.cells.lookup x=some c->∀ v,s.heap.IsCell c v->h'.IsCell c v:=fun x c e v ⟨o,ho,hd⟩=>by
  have nch:c ∉ ch:=fun z=>(hch c z).2.2.1 x c e rfl
  by_cases hc:c∈X.fs
  ·obtain ⟨sl,q⟩:=slot c o (I.cne x c e) hc nch ho (I.freeC x c e)
   exact ⟨_,q,hd⟩
  ·exact ⟨o,keep c o (I.cne x c e) hc nch ho (I.freeC x c e),hd⟩
 refine ⟨I.ok,I.os,hg,⟨fun b o e n hb hx=>?_,fun b o e n hb hx=>?_,fun b o e n hx=>?_,fun b o e hx=>?_,fun b xs e=>tups b xs (I.base.tups b xs e),fun b o xs e=>frzs b o xs (I.base.frzs b o xs e),fun b ps e=>?_⟩,?_,fun x c e=>?_,?_,fun x c e=>?_,fun p hp=>?_,hok,I.len⟩
 ·exact keep b o (neL b o e) hb (neC b o e hx) (I.base.keep b o e n hb hx) (I.base.free b o e n hx)
 ·obtain ⟨sl,e1⟩:=I.base.slot b o e n hb hx
  obtain ⟨sl',e2⟩:=slot b _ (neL b o e) hb (neC b o e hx) e1 (I.base.free b o e n hx)
  exact ⟨sl',e2⟩
 ·obtain ⟨o',e1⟩:=I.base.there b o e hx
  exact free b o' (neC b o e hx) e1 (I.base.free b o e n hx)
 ·obtain ⟨o',e1⟩:=I.base.there b o e hx
  exact there b o' (neC b o e hx) e1
 ·obtain ⟨m1,e1⟩:=I.base.tbls b ps e
  obtain ⟨m2,e2⟩:=tbls b _ e1
  exact ⟨m1++m2,by rw [e2,Array.append_assoc]⟩
 ·obtain ⟨m,hn,hl⟩:=I.loc
  refine ⟨m,ns m hn,fun i x v e1 e2 e3=>?_⟩
  obtain ⟨u,r,l⟩:=hl i x v e1 e2 e3
  refine ⟨u,r,?_⟩
  rcases l with l | ⟨k,c,e,z⟩
  ·exact .inl l
  ·exact .inr ⟨k,c,e,cellK x c e _ z⟩
 ·obtain ⟨v,z⟩:=I.cell x c e
  exact ⟨v,cellK x c e v z⟩
 ·obtain ⟨m,⟨o,_,_,ho,_⟩,_⟩:=I.loc
  exact free _ o (fun z=>(hch _ z).2.1 rfl) ho I.free
 ·obtain ⟨v,o,ho,hd⟩:=I.cell x c e
  exact free c o (fun z=>(hch c z).2.2.1 x c e rfl) ho (I.freeC x c e)
 ·obtain ⟨e,n,ne,nf,d⟩:=I.pin p hp
  have nch:p.1 ∉ ch:=fun z=>(hch p.1 z).2.2.2 p hp rfl
  exact ⟨keep p.1 p.2 ne nf nch e n,free p.1 p.2 nch e n,ne,nf,d⟩
theorem Inv.un {t':Nat}(I:Inv X pins σ H s)(u:Un X.fs [] H H' s.heap h')(hok:HOk X.prog X.w H' h'):Inv X pins σ H' { s with heap:=h',toks:=t' }:=by
 obtain ⟨m,⟨o,es,ep,ho,r⟩,_⟩:=id I.loc
 obtain ⟨sl,hL⟩:=u.any ho I.free (by simp)
 exact I.step (g':=s.gens) (d':=s.drawn) (ch:=[]) (fun _ z=>nomatch z) (fun b o _ hb _ e n=>u.keep b o e n hb (by simp)) (fun b o _ hb _ e n=>u.slot b o e n hb (by simp)) (fun b o _ e n=>u.free b o e n (by simp)) (fun b o _ e=>u.there b o e (by simp)) u.tups u.frzs u.tbls (fun m' hm=>by
  obtain ⟨o',es',ep',ho',r'⟩:=hm
  rw [ho] at ho';cases ho'
  exact ⟨_,es',ep',hL,r'⟩) hok I.bare
theorem Inv.call {g':Array GenState}{t':Nat}{d':Drawn}{ch:List Addr}(I:Inv X pins σ H s)(u:Un (Bp X.stack) ch H H' s.heap h')(hok:HOk X.prog X.w H' h')(hg:AllBare g')
  (hch:∀ b∈ch,(b∈X.ex\/X.s₀.heap.objs.size<=b)/\b≠X.env.locals/\(∀ x c,X.env.cells.lookup x=some c->c≠b)/\∀ p∈X.pn++pins,p.1≠b) :
  Inv X pins σ H' { s with heap:=h',gens:=g',drawn:=d',toks:=t' }:=by
 obtain ⟨m,⟨o,es,ep,ho,r⟩,_⟩:=id I.loc
 obtain ⟨sl,hL⟩:=u.any ho I.free fun z=>(hch _ z).2.1 rfl
 exact I.step (ch:=ch) hch (fun b o hL hb hc e n=>u.keep b o e n (fun z=>(Pu.mp (I.stkSub b z)).elim hL hb) hc) (fun b o _ _ hc e n=>u.any e n hc) (fun b o hc e n=>u.free b o e n hc) (fun b o hc e=>u.there b o e hc) u.tups u.frzs u.tbls (fun m' hm=>by
  obtain ⟨o',es',ep',ho',r'⟩:=hm
  rw [ho] at ho';cases ho'
  exact ⟨_,es',ep',hL,r'⟩) hok hg
theorem Inv.turned {t':Nat}{it:Addr}(I:Inv X pins σ H s)(k:∀ b o,b≠it->s.heap.get? b=some o->h'.get? b=some o)(hn:H it=none)(hL:it≠X.env.locals)
  (h1:it∈X.ex\/X.s₀.heap.objs.size<=it) (h2:∀ x c,X.env.cells.lookup x=some c->c≠it) (h3:∀ p∈X.pn++pins,p.1≠it):Inv X pins σ H { s with heap:=h',toks:=t' }:=by
 have nit:∀ b u,H b=some u->b≠it:=fun b u e z=>by rw [z,hn] at e;cases e
 refine I.step (g':=s.gens) (d':=s.drawn) (ch:=[it]) (fun b hb=>?_) (fun b o _ _ hc e _=>k b o (fun z=>hc (by simp [z])) e) (fun b o _ _ hc e _=>⟨o.slots,k b o (fun z=>hc (by simp [z])) e⟩) (fun _ _ _ _ n=>n)
  (fun b o hc e=>⟨o,k b o (fun z=>hc (by simp [z])) e⟩) (fun _ _ e=>e) (fun _ _ _ e=>e) (fun b ps e=>⟨#[],by rw [e];simp⟩) (fun m hm=>?_) (fun b u e=>?_) I.bare
 ·have e:b=it:=by simpa using hb
  subst e
  exact ⟨h1,hL,h2,h3⟩
 ·obtain ⟨o,es,ep,ho,r⟩:=hm
  exact ⟨o,es,ep,k _ o (Qa hL) ho,r⟩
 ·refine (I.hok b u e).stay (fun c v hc q=>k c v ?_ q) (fun _ q=>q) fun _ _ q=>q
  rcases hc with z | z
  ·rw [z];exact nit b u e
  ·exact nit c _ z
theorem Inv.tok (I:Inv X pins σ H s)(t:Nat):Inv X pins σ H { s with toks:=t }:=I.un (h':=s.heap) (t':=t) Un.refl I.hok
theorem Inv.kept {t':Nat}(I:Inv X pins σ H s)(k:∀ b u,s.heap.get? b=some u->h'.get? b=some u):Inv X pins σ H { s with heap:=h',toks:=t' }:=I.un (Un.kept k) (I.hok.kept k)
theorem Inv.laid {a:Addr}{o:HO}{t':Nat}(I:Inv X pins σ H s)(k:∀ b u,s.heap.get? b=some u->h'.get? b=some u)(hp:s.heap.objs.size<=a)(new:ObjOk X.prog X.w (upd H a o) h' a o) :
  Inv X pins σ (upd H a o) { s with heap:=h',toks:=t' }:=I.un (Un.laid k hp (I.hok.fresh hp)) (I.hok.laid k hp new)
theorem Inv.write {x e:Addr}{o:HO}{t':Nat}(I:Inv X pins σ H s)(mu:Mut (H x))(he:e=x\/H e=some (.own x))(k:∀ b u,b≠e->s.heap.get? b=some u->h'.get? b=some u)(heo:∃ u,h'.get? e=some u)
  (new:ObjOk X.prog X.w (upd H x o) h' x o):Inv X pins σ (upd H x o) { s with heap:=h',toks:=t' }:=I.un (Un.write mu he k heo) (I.hok.write mu he k heo new)
theorem Inv.pins_of {pins':List (Addr×Obj)}(I:Inv X pins σ H s)(h:∀ p∈pins',s.heap.get? p.1=some p.2/\H p.1=none/\p.1≠X.env.locals/\p.1 ∉ X.fs/\∀ v,p.2.data≠.cell v):Inv X pins' σ H s :=
 ⟨I.ok,I.os,I.bare,I.base,I.loc,I.cell,I.free,I.freeC,fun p hp=>(Qq.mp hp).elim (fun z=>I.pin p (List.mem_append_left _ z)) (h p),I.hok,I.len⟩
theorem O3 {N:List Str}(hN:N.Nodup){i j:Nat}{x:Str}(a:N[i]?=some x)(b:N[j]?=some x):i=j:=by
 obtain ⟨h1,e1⟩:=Pt.mp a
 obtain ⟨h2,e2⟩:=Pt.mp b
 exact (List.getElem_inj hN).mp (e1.trans e2.symm)
theorem Zhb {M:Model}{A:Around}{E:Value->Shared->Prop}{i:Nat}{x:Str}{v:V}{u:Value}{Q:Unit->Shared->Prop}(I:Inv X pins σ H s)(hN:X.N.Nodup)(hi:X.N[i]?=some x)(hx:Em X.env.scope x)(r:RelV v u)
  (h:∀ s',Inv X pins (σ.set i (some v)) H s'->(∃ a,P9 a s.heap s'.heap/\(a=X.env.locals\/X.env.cells.lookup x=some a))->Q () s') (hf:X.fn x=true\/X.env.scope.names.lookup x=some .local:=by first | exact .inl rfl | exact .inr rfl | assumption):wpAny M A (storeName X.env x u) Q E s:=by
 obtain ⟨m,hn,hl⟩:=id I.loc
 have hcls:(X.env.scope.kind == .class || (X.env.scope.kind == .module && X.env.locals != X.env.globals))=false:=by rw [I.ok.kind];rfl
 have hiσ:i < σ.length:=by rw [I.len];exact (Pt.mp hi).1
 have cne:=I.cne
 have tracked:∀{a:Addr}{h':Heap},(∃ o,s.heap.get? a=some o/\H a=none)->P9 a s.heap h'->HOk X.prog X.w H h':=fun {a h'} ha hs b ob e=>by
  obtain ⟨_,_,hfree⟩:=ha
  refine (I.hok b ob e).stay (fun c w' hc q=>(hs.2 c ?_).trans q) (fun _ q=>q) fun _ _ q=>q
  rintro rfl
  rcases hc with rfl | hc
  ·rw [hfree] at e;cases e
  ·rw [hfree] at hc;cases hc
 rcases hx with hk | hk
 ·refine wpAny_storeName_local hk hn (fun h' hn' hs=>?_) hcls
  obtain ⟨oL,_,_,hoL,_⟩:=id hn
  refine h _ ⟨I.ok,I.os,I.bare,⟨fun b o e n hb hx=>?_,fun b o e n hb hx=>?_,I.base.free,fun b o e hx=>?_,I.base.tups,I.base.frzs,I.base.tbls⟩,⟨_,hn',fun j y v' e1 e2 e3=>?_⟩,fun y c e=>?_,I.free,I.freeC,fun p hp=>?_,tracked ⟨oL,hoL,I.free⟩ hs,by simpa using I.len⟩ ⟨_,hs,.inl rfl⟩
  ·exact (hs.2 b (P0 (P7 (Pr e) I.ok.above))).trans (I.base.keep b o e n hb hx)
  ·obtain ⟨sl,e1⟩:=I.base.slot b o e n hb hx
   exact ⟨sl,(hs.2 b (P0 (P7 (Pr e) I.ok.above))).trans e1⟩
  ·obtain ⟨o',e1⟩:=I.base.there b o e hx
   exact ⟨o',(hs.2 b (P0 (P7 (Pr e) I.ok.above))).trans e1⟩
  ·by_cases hj:j=i
   ·subst hj
    rw [hi] at e1;cases e1
    rw [R1 hiσ] at e2
    cases e2
    exact ⟨u,r,.inl ⟨hk,by simp⟩⟩
   ·rw [Sm (Qa hj)] at e2
    obtain ⟨u',r',q⟩:=hl j y v' e1 e2 e3
    refine ⟨u',r',?_⟩
    rcases q with ⟨k,e⟩ | ⟨k,c,e,z⟩
    ·refine .inl ⟨k,?_⟩
     have:y≠x:=fun e=>hj (O3 hN e1 (e ▸ hi))
     simp [this,e]
    ·exact .inr ⟨k,c,e,z.sameBut hs (cne y c e)⟩
  ·obtain ⟨w',z⟩:=I.cell y c e
   exact ⟨w',z.sameBut hs (cne y c e)⟩
  ·obtain ⟨e,n,ne,nf,d⟩:=I.pin p hp
   exact ⟨(hs.2 p.1 ne).trans e,n,ne,nf,d⟩
 ·have hfn:X.fn x=true:=by
   rcases hf with z | z
   ·exact z
   ·rw [z] at hk;cases hk
  obtain ⟨c,hc⟩:=I.ok.has x (.inl hk)
  obtain ⟨w',z⟩:=I.cell x c hc
  refine wpAny_storeName_cell I.ok.kind hk hc z (fun h' hc' hs=>?_)
  obtain ⟨oc,hoc,hocd⟩:=id z
  refine h { s with heap:=h' } ⟨I.ok,I.os,I.bare,⟨fun b o e n hb hx=>?_,fun b o e n hb hx=>?_,I.base.free,fun b o e hx=>?_,I.base.tups,I.base.frzs,I.base.tbls⟩,⟨m,hn.sameBut hs (Qa (cne x c hc)),fun j y v' e1 e2 e3=>?_⟩,fun y c' e=>?_,I.free,I.freeC,fun p hp=>?_,tracked ⟨oc,hoc,I.freeC x c hc⟩ hs,by simpa using I.len⟩ ⟨c,hs,.inr hc⟩
  ·exact (hs.2 b (P0 (P7 (Pr e) (I.ok.cab x c hfn hc)))).trans (I.base.keep b o e n hb hx)
  ·obtain ⟨sl,e1⟩:=I.base.slot b o e n hb hx
   exact ⟨sl,(hs.2 b (P0 (P7 (Pr e) (I.ok.cab x c hfn hc)))).trans e1⟩
  ·obtain ⟨o',e1⟩:=I.base.there b o e hx
   exact ⟨o',(hs.2 b (P0 (P7 (Pr e) (I.ok.cab x c hfn hc)))).trans e1⟩
  ·by_cases hj:j=i
   ·subst hj
    rw [hi] at e1;cases e1
    rw [R1 hiσ] at e2
    cases e2
    exact ⟨u,r,.inr ⟨.inl hk,c,hc,hc'⟩⟩
   ·rw [Sm (Qa hj)] at e2
    obtain ⟨u',r',q⟩:=hl j y v' e1 e2 e3
    refine ⟨u',r',?_⟩
    rcases q with q | ⟨k,c',e,z'⟩
    ·exact .inl q
    ·refine .inr ⟨k,c',e,z'.sameBut hs ?_⟩
     rintro rfl
     exact hj (O3 hN e1 (I.ok.inj _ _ _ e hc ▸ hi))
  ·by_cases hcc:c'=c
   ·subst hcc;exact ⟨_,hc'⟩
   ·obtain ⟨w2,z2⟩:=I.cell y c' e
    exact ⟨w2,z2.sameBut hs hcc⟩
  ·obtain ⟨e,n,ne,nf,d⟩:=I.pin p hp
   refine ⟨(hs.2 p.1 ?_).trans e,n,ne,nf,d⟩
   intro q
   rw [q,hoc] at e
   have q':oc=p.2:=P8 e
   exact d w' (by rw [<- q'];exact hocd)
theorem Hm {M:Model}{A:Around}{E:Value->Shared->Prop}{i:Nat}{x:Str}{v:V}{u:Value}{Q:Unit->Shared->Prop}(I:Inv X pins σ H s)(hN:X.N.Nodup)(hi:X.N[i]?=some x)(hx:Em X.env.scope x)(r:RelV v u)
  (h:∀ s',Inv X pins (σ.set i (some v)) H s'->Q () s') (hf:X.fn x=true\/X.env.scope.names.lookup x=some .local:=by first | exact .inl rfl | exact .inr rfl | assumption):wpAny M A (storeName X.env x u) Q E s :=
 Zhb I hN hi hx r (fun s' I' _=>h s' I') hf
theorem Inv.call' {s':Shared}{ch:List Addr}(I:Inv X pins σ H s)(ho:s'.os=s.os)(u:Un (Bp X.stack) ch H H' s.heap s'.heap)(hok:HOk X.prog X.w H' s'.heap)(hg:AllBare s'.gens)
  (hch:∀ b∈ch,(b∈X.ex\/X.s₀.heap.objs.size<=b)/\b≠X.env.locals/\(∀ x c,X.env.cells.lookup x=some c->c≠b)/\∀ p∈X.pn++pins,p.1≠b):Inv X pins σ H' s':=by
 obtain ⟨h',g',d',t',o'⟩:=s'
 have e:o'=s.os:=ho
 subst e
 exact I.call (g':=g') (t':=t') (d':=d') u hok hg hch
end
noncomputable abbrev XK:=Value->Option Addr->Hp->Prop
noncomputable abbrev St:=List (Option V)
noncomputable abbrev VK:=V->Hp->Prop
noncomputable abbrev TE:=St->Hp->VK->Prop
noncomputable abbrev TT:=St->Hp->(Bool->Hp->Prop)->Prop
noncomputable abbrev TA:=St->Hp->(List V->Hp->Prop)->Prop
structure Ends where
 nx:St->Hp->Prop
 rt:VK
 bk:St->Hp->Prop:=fun _ _=>False
 ct:St->Hp->Prop:=fun _ _=>False
noncomputable abbrev TS:=Ends->St->Hp->Prop
noncomputable def EP (X:Cx)(pins:List (Addr×Obj))(σ:St)(Q:VK)(u:Value)(s':Shared):Prop:=∃ v H',Inv X pins σ H' s'/\RelV v u/\Q v H'
noncomputable def TP (X:Cx)(pins:List (Addr×Obj))(σ:St)(Q:Bool->Hp->Prop)(b:Bool)(s':Shared):Prop:=∃ H',Inv X pins σ H' s'/\Q b H'
noncomputable def AP (X:Cx)(pins:List (Addr×Obj))(σ:St)(Q:List V->Hp->Prop)(us:List Value)(s':Shared):Prop:=∃ vs H',Inv X pins σ H' s'/\Vals vs us/\Q vs H'
noncomputable def SP (X:Cx)(pins:List (Addr×Obj))(D:Ends)(f:Flow)(s':Shared):Prop :=
 match f with
 | .next=>∃ σ' H',Inv X pins σ' H' s'/\D.nx σ' H'
 | .brk=>∃ σ' H',Inv X pins σ' H' s'/\D.bk σ' H'
 | .cont=>∃ σ' H',Inv X pins σ' H' s'/\D.ct σ' H'
 | .ret u=>∃ v σ' H',Inv X pins σ' H' s'/\RelV v u/\D.rt v H'
noncomputable def PE (X:Cx)(e:Expr)(t:TE):Prop :=
 ∀(pins:List (Addr×Obj))(s:Shared)(σ:St)(H:Hp)(Q:VK),Inv X pins σ H s->t σ H Q->wpAny (model X.prog X.w) X.A (eval e X.env) (EP X pins σ Q) X.xe s
noncomputable def PT (X:Cx)(e:Expr)(t:TT):Prop :=
 ∀(pins:List (Addr×Obj))(s:Shared)(σ:St)(H:Hp)(Q:Bool->Hp->Prop),Inv X pins σ H s->t σ H Q->wpAny (model X.prog X.w) X.A (isTrue e X.env (eval e X.env)) (TP X pins σ Q) X.xe s
noncomputable def PW (X:Cx)(e:Expr)(t:TT):Prop :=
 ∀(whole:Sem Value)(pins:List (Addr×Obj))(s:Shared)(σ:St)(H:Hp)(Q:Bool->Hp->Prop),Inv X pins σ H s->t σ H Q->wpAny (model X.prog X.w) X.A (isTrue e X.env whole) (TP X pins σ Q) X.xe s
theorem PW.pt {X:Cx}{e:Expr}{t:TT}(h:PW X e t):PT X e t:=h _
noncomputable def PA (X:Cx)(es:List Expr)(t:TA):Prop :=
 ∀(pos:Pos)(pins:List (Addr×Obj))(s:Shared)(σ:St)(H:Hp)(Q:List V->Hp->Prop),Inv X pins σ H s->t σ H Q->wpAny (model X.prog X.w) X.A (spliced (backTo pos (starEach es X.env))) (AP X pins σ Q) X.xe s
noncomputable def PS (X:Cx)(st:Stmt)(t:TS):Prop :=
 ∀(pins:List (Addr×Obj))(s:Shared)(σ:St)(H:Hp)(D:Ends),Inv X pins σ H s->t D σ H->wpAny (model X.prog X.w) X.A (exec st X.env) (SP X pins D) X.xe s
noncomputable def PSs (X:Cx)(st:List Stmt)(t:TS):Prop :=
 ∀(pins:List (Addr×Obj))(s:Shared)(σ:St)(H:Hp)(D:Ends),Inv X pins σ H s->t D σ H->wpAny (model X.prog X.w) X.A (execs st X.env) (SP X pins D) X.xe s
theorem Aj {α:Type}{t:Sem α}{Q Q':α->Shared->Prop}{M:Model}{A:Around}{E:Value->Shared->Prop}{s:Shared}(h:wpAny M A t Q E s)(hQ:∀ a s,Q a s->Q' a s):wpAny M A t Q' E s:=Q0 h hQ fun _ _ x=>x
section
variable {X:Cx}
noncomputable def N2 (i:Nat):TE:=fun σ H Q=>∃ v,σ[i]?=some (some v)/\Q v H
noncomputable def tC (v:V):TE:=fun _ H Q=>Q v H
theorem Zie {i:Nat}{x:Str}{pos:Pos}(hN:X.N[i]?=some x)(hv:Vis X.env.scope x)(hd:(x == ("__debug__" : Str))=false:=by decide)(hcd:(x == ("__classdict__" : Str))=false:=by decide):PE X (.Name x pos) (N2 i):=by
 intro pins s σ H Q I h
 obtain ⟨v,e,h⟩:=h
 obtain ⟨m,hn,hl⟩:=I.loc
 obtain ⟨u,r,l⟩:=hl i x v hN e hv
 have fin:EP X pins σ Q u s:=⟨v,H,I,r,h⟩
 rcases l with ⟨hk,hm⟩ | ⟨hk,c,hc,hcell⟩
 ·exact wpAny_Name (wpAny_loadName_local I.ok.kind hk hn hm fin) hd
 ·rcases hk with hk | hk
  ·exact wpAny_Name (wpAny_loadName_cell I.ok.kind hk hc hcell fin) hd
  ·exact wpAny_Name (wpAny_loadName_free I.ok.kind hk hc hcell fin hcd) hd
theorem Zfa {i j pos}:PE X (.Constant (.int i) j pos) (tC (.int i)):=fun _ _ _ H _ I h=>wpAny_Constant_int ⟨.int i,H,I.tok _,⟨_,rfl⟩,h⟩
theorem Zhz {b j pos}:PE X (.Constant (.bool b) j pos) (tC (.bl b)):=fun _ _ _ H _ I h=>Constant_bool ⟨.bl b,H,I,rfl,h⟩
theorem Zfj {j pos}:PE X (.Constant .none j pos) (tC .non):=fun _ _ _ H _ I h=>Constant_none ⟨.non,H,I,rfl,h⟩
theorem Zdz {x j pos}:PE X (.Constant (.str x) j pos) (tC (.str x)):=fun _ _ _ H _ I h=>Calls.Constant_str ⟨.str x,H,I.tok _,⟨_,rfl⟩,h⟩
noncomputable def Gl (X:Cx)(x:Str):Prop:=X.env.kindOf x=some .globalImplicit
theorem Hf {E:Value->Shared->Prop}{pins:List (Addr×Obj)}{s:Shared}{σ:St}{H:Hp}{x:Str}{u:Value}{pos:Pos}{Q:Value->Shared->Prop}(I:Inv X pins σ H s)(hg:Gl X x)(hm:X.mg x=some u)(h:Q u s)
  (hd:(x == ("__debug__" : Str))=false:=by decide):wpAny (model X.prog X.w) X.A (eval (.Name x pos) X.env) Q E s :=
 Calls.Name_function_global I.ok.kind hg (Calls.loadGlobal_global (by rw [I.ok.glob];exact I.mod.glob.keeps I.bk) hm h) hd
theorem Dp {E:Value->Shared->Prop}{pins:List (Addr×Obj)}{s:Shared}{σ:St}{H:Hp}{x:Str}{u:Value}{pos:Pos}{Q:Value->Shared->Prop}(I:Inv X pins σ H s)(hg:Gl X x)(hm:X.mg x=none)(hv:bootBuiltins x=some u)(h:Q u s)
  (hn:x ≠ "__name__" := by decide) (hd:(x == ("__debug__" : Str))=false:=by decide):wpAny (model X.prog X.w) X.A (eval (.Name x pos) X.env) Q E s:=by
 obtain ⟨mb,h1,h2⟩:=I.mod.blt
 exact Calls.Name_function_global I.ok.kind hg (Calls.loadGlobal_builtin (by rw [I.ok.glob];exact I.mod.glob.keeps I.bk) hm (by rw [I.ok.blt];exact h1.keeps I.bk) ((h2 x hn).trans hv) h) hd
theorem Zdb {x:Str}{v:V}{u:Value}{pos:Pos}(hg:Gl X x)(hm:X.mg x=some u)(r:RelV v u)(hd:(x == ("__debug__" : Str))=false:=by decide):PE X (.Name x pos) (tC v) :=
 fun _ _ _ H _ I h=>Hf I hg hm ⟨v,H,I,r,h⟩ hd
theorem Zqf {x:Str}{v:V}{u:Value}{pos:Pos}(hg:Gl X x)(hm:X.mg x=none)(hv:bootBuiltins x=some u)(r:RelV v u)(hn:x ≠ "__name__" := by decide)(hd:(x == ("__debug__" : Str))=false:=by decide):PE X (.Name x pos) (tC v) :=
 fun _ _ _ H _ I h=>Dp I hg hm hv ⟨v,H,I,r,h⟩ hn hd
variable {a b:Expr}{ta tb:TE}{pos:Pos}
noncomputable def PC (X:Cx)(op:CmpOp)(a b:Expr)(t:TE):Prop :=
 ∀(pins:List (Addr×Obj))(s:Shared)(σ:St)(H:Hp)(Q:VK),Inv X pins σ H s->t σ H Q ->
  wpAny (model X.prog X.w) X.A (eval a X.env) (fun v s₁=>wpAny (model X.prog X.w) X.A (eval b X.env) (fun u s₂=>wpAny (model X.prog X.w) X.A (compareOp op v u) (EP X pins σ Q) X.xe s₂) X.xe s₁) X.xe s
theorem Mi (b:Expr){op:CmpOp}(h:op≠.In)(h2:op≠.NotIn):behindInMarks op b=false:=by
 have e1:(op == CmpOp.In)=false:=by cases op <;> first | rfl | exact absurd rfl h
 have e2:(op == CmpOp.NotIn)=false:=by cases op <;> first | rfl | exact absurd rfl h2
 cases b <;> simp [behindInMarks,e1,e2]
noncomputable def Zbm (ta:TE):TE:=fun σ H Q=>ta σ H fun x H1=>Q (.bl (decide (x=.non))) H1
noncomputable def Pf (ta:TE):TE:=fun σ H Q=>ta σ H fun x H1=>Q (.bl (!decide (x=.non))) H1
theorem RelV.none_iff {x:V}{v:Value}(r:RelV x v):(v == Value.none)=decide (x=.non):=by
 cases x with
 | non=>cases r;rfl
 | bl _=>cases r;rfl
 | int _=>obtain ⟨t,rfl⟩:=r;rfl
 | str _=>obtain ⟨t,rfl⟩:=r;rfl
 | byt _=>obtain ⟨t,rfl⟩:=r;rfl
 | flt _=>obtain ⟨t,rfl⟩:=r;rfl
 | ref _=>cases r;rfl
 | ty _=>cases r;rfl
theorem Znq {j pos'}(ha:PE X a ta):PC X .Is a (.Constant .none j pos') (Zbm ta):=by
 intro pins s σ H Q I h
 refine Aj (ha pins s σ H _ I h) fun v s1 zq=>?_
 obtain ⟨x,H1,I1,r1,q1⟩:=zq
 exact Constant_none (is_none_gen ⟨.bl _,H1,I1,by rw [r1.none_iff];rfl,q1⟩)
theorem Zlu {j pos'}(ha:PE X a ta):PC X .IsNot a (.Constant .none j pos') (Pf ta):=by
 intro pins s σ H Q I h
 refine Aj (ha pins s σ H _ I h) fun v s1 zq=>?_
 obtain ⟨x,H1,I1,r1,q1⟩:=zq
 exact Constant_none (isnot_none_gen ⟨.bl _,H1,I1,by rw [r1.none_iff];rfl,q1⟩)
noncomputable def tB (t:TE):TT:=fun σ H Q=>t σ H fun x H1=>∃ c,x=.bl c/\Q c H1
theorem Zpk {op:CmpOp}{t:TE}(h:PC X op a b t)(h1:behindInMarks op b=false:=by first | exact Mi _ (by decide) (by decide) | rfl):PE X (.Compare a [op] [b] pos) t:=fun pins s σ H Q I hw=>wpAny_Compare1 (h pins s σ H Q I hw) h1
theorem Zii {op:CmpOp}{t:TE}(h:PC X op a b t)(h1:behindInMarks op b=false:=by first | exact Mi _ (by decide) (by decide) | rfl):PT X (.Compare a [op] [b] pos) (tB t):=by
 intro pins s σ H Q I hw
 refine wpAny_isTrue_Compare1 (Aj (h pins s σ H _ I hw) fun v s1 h1=>Aj h1 fun u s2 h2=>Aj h2 fun c s3 zq=>?_) h1
 obtain ⟨x,H1,I1,r1,q1⟩:=zq
 obtain ⟨d,rfl,q⟩:=q1
 cases r1
 exact Sq ⟨H1,I1,q⟩
theorem Zog {e:Expr}{t:TE}(h:PE X e t)(he:∀ whole,isTrue e X.env whole=(do let v <- whole;standAt e.pos;holding [v] (truthy v)):=by intro _;rfl):PT X e (tB t):=by
 intro pins s σ H Q I hw
 refine isTrue_plain (Aj (h pins s σ H _ I hw) fun v s1 zq=>?_) (he _)
 obtain ⟨x,H1,I1,r1,q1⟩:=zq
 obtain ⟨d,rfl,q⟩:=q1
 cases r1
 exact Sq ⟨H1,I1,q⟩
variable {tA tB':TT}{rest:List Expr}
noncomputable def O0 (t u:TT):TT:=fun σ H Q=>t σ H fun c H1=>if c=true then u σ H1 Q else Q false H1
noncomputable def tOr (t u:TT):TT:=fun σ H Q=>t σ H fun c H1=>if c=true then Q true H1 else u σ H1 Q
noncomputable def Zb3 (t:TT):TT:=fun σ H Q=>t σ H fun c H1=>Q (!c) H1
theorem pw_and1 (ha:PT X a tA):PW X (.BoolOp .And [a] pos) tA:=by
 intro wh pins s σ H Q I h
 refine isTrue_and (Aj (ha pins s σ H Q I h) fun c s1 e=>?_)
 cases c with
 | true=>exact isTrue_and_nil e
 | false=>exact e
theorem pw_or1 (ha:PT X a tA):PW X (.BoolOp .Or [a] pos) tA:=by
 intro wh pins s σ H Q I h
 refine isTrue_or (Aj (ha pins s σ H Q I h) fun c s1 e=>?_)
 cases c with
 | false=>exact isTrue_or_nil e
 | true=>exact e
theorem pw_and (ha:PT X a tA)(hb:PW X (.BoolOp .And (b::rest) pos) tB'):PW X (.BoolOp .And (a::b::rest) pos) (O0 tA tB'):=by
 intro wh pins s σ H Q I h
 refine isTrue_and (Aj (ha pins s σ H _ I h) fun c s1 zq=>?_)
 obtain ⟨H1,I1,q1⟩:=zq
 cases c with
 | true=>exact hb wh pins s1 σ H1 Q I1 q1
 | false=>exact ⟨H1,I1,q1⟩
theorem pw_or (ha:PT X a tA)(hb:PW X (.BoolOp .Or (b::rest) pos) tB'):PW X (.BoolOp .Or (a::b::rest) pos) (tOr tA tB'):=by
 intro wh pins s σ H Q I h
 refine isTrue_or (Aj (ha pins s σ H _ I h) fun c s1 zq=>?_)
 obtain ⟨H1,I1,q1⟩:=zq
 cases c with
 | true=>exact ⟨H1,I1,q1⟩
 | false=>exact hb wh pins s1 σ H1 Q I1 q1
theorem Zj1 (ha:PT X a tA):PT X (.UnaryOp .Not a pos) (Zb3 tA):=by
 intro pins s σ H Q I h
 exact isTrue_not (ha pins s σ H (fun c H1=>Q (!c) H1) I h)
noncomputable def O8 (ta tb:TE):TE:=fun σ H Q=>ta σ H fun x H1=>∃ c,x=.bl c/\if c=true then tb σ H1 Q else Q (.bl false) H1
noncomputable def Zap (ta:TE):TE:=fun σ H Q=>ta σ H fun x H1=>∃ c,x=.bl c/\Q (.bl (!c)) H1
theorem Zsm {op}{t:TE}(h:PE X a t):PE X (.BoolOp op [a] pos) t:=fun pins s σ H Q I hw=>BoolOp_one (h pins s σ H Q I hw)
theorem Zsd (ha:PE X a ta)(hb:PE X (.BoolOp .And (b::rest) pos) tb):PE X (.BoolOp .And (a::b::rest) pos) (O8 ta tb):=by
 intro pins s σ H Q I h
 refine BoolOp_and (Aj (ha pins s σ H _ I h) fun v s1 zq=>?_)
 obtain ⟨x,H1,I1,r1,q1⟩:=zq
 obtain ⟨c,rfl,q1⟩:=q1
 cases r1
 refine Sq ?_
 cases c with
 | true=>exact hb pins s1 σ H1 Q I1 q1
 | false=>exact ⟨.bl false,H1,I1,rfl,q1⟩
theorem Zj5 (ha:PE X a ta):PE X (.UnaryOp .Not a pos) (Zap ta):=by
 intro pins s σ H Q I h
 refine UnaryOp_ (Aj (ha pins s σ H _ I h) fun v s1 zq=>?_)
 obtain ⟨x,H1,I1,r1,q1⟩:=zq
 obtain ⟨c,rfl,q1⟩:=q1
 cases r1
 exact not_of (Sq ⟨.bl (!c),H1,I1,rfl,q1⟩)
noncomputable def tIf (t:TT)(ta tb:TE):TE:=fun σ H Q=>t σ H fun c H1=>if c=true then ta σ H1 Q else tb σ H1 Q
theorem Ztx {c:Expr}(hc:PT X c tA)(ha:PE X a ta)(hb:PE X b tb):PE X (.IfExp c a b pos) (tIf tA ta tb):=by
 intro pins s σ H Q I h
 refine wpAny_IfExp (Aj (hc pins s σ H _ I h) fun d s1 zq=>?_)
 obtain ⟨H1,I1,q1⟩:=zq
 cases d with
 | true=>exact ha pins s1 σ H1 Q I1 q1
 | false=>exact hb pins s1 σ H1 Q I1 q1
end
noncomputable def SqL (K:Pk)(H:Hp)(a:Addr)(xs:List V):Prop :=
 Rd H a (.lst xs) \/
  ∃(o:Obj)(its:Array Value)(n:Nat),K.lookup a=some o/\o.cls=.type "list" /\ o.dict=none/\o.data=.seq its n/\its.size<=sizeLine/\Vals xs its.toList
noncomputable def SqT (K:Pk)(H:Hp)(a:Addr)(xs:List V):Prop :=
 Rd H a (.tup xs) \/
  ∃(o:Obj)(its:Array Value)(n:Nat),K.lookup a=some o/\o.cls=.type "tuple" /\ o.data=.seq its n/\its.size<=sizeLine/\Vals xs its.toList
noncomputable def Mu:Value->Option V
 | .none=>some .non
 | .bool b=>some (.bl b)
 | .int i _=>some (.int i)
 | .str x _=>some (.str x)
 | .bytes b _=>some (.byt b)
 | .float b _=>some (.flt b)
 | .ref a=>some (.ref a)
 | .type n=>some (.ty n)
 | _=>none
theorem RelV.abs {x:V}{u:Value}(r:RelV x u):Mu u=some x:=by
 cases x with
 | non=>cases r;rfl
 | bl _=>cases r;rfl
 | int _=>obtain ⟨t,rfl⟩:=r;rfl
 | str _=>obtain ⟨t,rfl⟩:=r;rfl
 | byt _=>obtain ⟨t,rfl⟩:=r;rfl
 | flt _=>obtain ⟨t,rfl⟩:=r;rfl
 | ref _=>cases r;rfl
 | ty _=>cases r;rfl
theorem RelV.inj {x y:V}{u:Value}(r:RelV x u)(q:RelV y u):x=y:=P8 (r.abs.symm.trans q.abs)
theorem Vals.inj:∀{xs ys:List V}{us:List Value},Vals xs us->Vals ys us->xs=ys
 | _,_,_,.nil,.nil=>rfl
 | _,_,_,.cons r t,.cons r' t'=>by rw [r.inj r',Vals.inj t t']
section
variable {X:Cx}{pins:List (Addr×Obj)}{σ:St}{H:Hp}{s:Shared}{a:Addr}{xs ys:List V}
theorem SqL.of {K:Pk}(h:H a=some (.lst xs)):SqL K H a xs:=.inl (.inl h)
theorem SqT.of {K:Pk}(h:H a=some (.tup xs)):SqT K H a xs:=.inl (.inl h)
theorem Inv.list (I:Inv X pins σ H s)(h:SqL X.K H a xs):∃ its:List Value,Vals xs its/\PlainL s.heap a its.toArray/\xs.length<=sizeLine:=by
 rcases h with h | ⟨o,its,n,hk,hc,hd,hs,hz,r⟩
 ·obtain ⟨z,its,n,r,e⟩:=h.ok I.hok
  exact ⟨its,r,⟨_,n,e,rfl,rfl,rfl⟩,z⟩
 ·refine ⟨its.toList,r,⟨o,n,I.kIn a o hk,hc,hd,by simpa using hs⟩,?_⟩
  have e:=r.length
  simp only [Tk] at e
  omega
theorem Inv.tuple (I:Inv X pins σ H s)(h:SqT X.K H a xs):∃ its:List Value,Vals xs its/\IsTup s.heap a its.toArray/\xs.length<=sizeLine:=by
 rcases h with h | ⟨o,its,n,hk,hc,hs,hz,r⟩
 ·obtain ⟨z,its,r,p⟩:=h.ok I.hok
  exact ⟨its,r,p,z⟩
 ·refine ⟨its.toList,r,⟨o,I.kIn a o hk,hc,n,by simpa using hs⟩,?_⟩
  have e:=r.length
  simp only [Tk] at e
  omega
theorem Inv.list_inj (I:Inv X pins σ H s)(h:SqL X.K H a xs)(h':SqL X.K H a ys):xs=ys:=by
 obtain ⟨its,r,⟨o,n,e,_,_,d⟩,_⟩:=I.list h
 obtain ⟨its',r',⟨o',n',e',_,_,d'⟩,_⟩:=I.list h'
 rw [e] at e';cases e'
 rw [d] at d'
 injection d' with d1 _
 have:its=its':=by simpa using congrArg Array.toList d1
 subst this
 exact r.inj r'
theorem Inv.tuple_inj (I:Inv X pins σ H s)(h:SqT X.K H a xs)(h':SqT X.K H a ys):xs=ys:=by
 obtain ⟨its,r,⟨o,e,_,n,d⟩,_⟩:=I.tuple h
 obtain ⟨its',r',⟨o',e',_,n',d'⟩,_⟩:=I.tuple h'
 rw [e] at e';cases e'
 rw [d] at d'
 injection d' with d1 _
 have:its=its':=by simpa using congrArg Array.toList d1
 subst this
 exact r.inj r'
end
noncomputable abbrev Cx.wish (X:Cx)(E:Value->Shared->Prop):Cx:={ X with xe:=E }
noncomputable abbrev Cx.nox (X:Cx):Cx:=X.wish fun _ _=>False
theorem Cx.Ok.wish {X:Cx}(ok:X.Ok)(E:Value->Shared->Prop):(X.wish E).Ok :=
 ⟨ok.mod,ok.kind,ok.glob,ok.blt,ok.above,ok.inj,ok.has,ok.cab,ok.hd,ok.frames,ok.stk,ok.exf,ok.bs,ok.bsz,ok.noex,ok.exfs,ok.funs,ok.frf⟩
theorem Cx.Ok.unwish {X:Cx}{E:Value->Shared->Prop}(ok:(X.wish E).Ok):X.Ok :=
 ⟨ok.mod,ok.kind,ok.glob,ok.blt,ok.above,ok.inj,ok.has,ok.cab,ok.hd,ok.frames,ok.stk,ok.exf,ok.bs,ok.bsz,ok.noex,ok.exfs,ok.funs,ok.frf⟩
section
variable {X:Cx}{pins:List (Addr×Obj)}{σ:St}{H:Hp}{s:Shared}{E:Value->Shared->Prop}
theorem Inv.wish (I:Inv X pins σ H s)(E:Value->Shared->Prop):Inv (X.wish E) pins σ H s:=⟨I.ok.wish E,I.os,I.bare,I.base,I.loc,I.cell,I.free,I.freeC,I.pin,I.hok,I.len⟩
theorem Inv.unwish (I:Inv (X.wish E) pins σ H s):Inv X pins σ H s:=⟨I.ok.unwish,I.os,I.bare,I.base,I.loc,I.cell,I.free,I.freeC,I.pin,I.hok,I.len⟩
theorem SP.unwish {D:Ends}{f:Flow}{s':Shared}(h:SP (X.wish E) pins D f s'):SP X pins D f s':=by
 cases f with
 | next=>obtain ⟨σ',H',I,q⟩:=h;exact ⟨σ',H',I.unwish,q⟩
 | brk=>obtain ⟨σ',H',I,q⟩:=h;exact ⟨σ',H',I.unwish,q⟩
 | cont=>obtain ⟨σ',H',I,q⟩:=h;exact ⟨σ',H',I.unwish,q⟩
 | ret u=>obtain ⟨v,σ',H',I,r,q⟩:=h;exact ⟨v,σ',H',I.unwish,r,q⟩
theorem PSs.nox {st:List Stmt}{t:TS}(h:PSs X.nox st t):PSs X st t:=fun pins s σ H D I hw =>
 Q0 (h pins s σ H D (I.wish _) hw) (fun _ _ q=>q.unwish) fun _ _ z=>Qh z
end
section
variable {X:Cx}{st:Stmt}{rest:List Stmt}{t u:TS}{e:Expr}{te:TE}{pos:Pos}
noncomputable def Zb9:TS:=fun D σ H=>D.nx σ H
noncomputable def N4 (t u:TS):TS:=fun D σ H=>t { D with nx:=u D } σ H
theorem Zsp:PSs X [] Zb9:=fun _ _ σ H _ I h=>Sa ⟨σ,H,I,h⟩
theorem Zle (h1:PS X st t)(h2:PSs X rest u):PSs X (st::rest) (N4 t u):=by
 intro pins s σ H D I h
 refine Vl (Aj (h1 pins s σ H { D with nx:=u D } I h) fun f s1 q=>?_)
 cases f with
 | next =>
  obtain ⟨σ',H',I',q⟩:=q
  exact h2 pins s1 σ' H' D I' q
 | ret v=>exact q
 | brk=>exact q
 | cont=>exact q
theorem Zrh (h1:PS X st t):PSs X [st] t:=by
 intro pins s σ H D I h
 refine Vl (Aj (h1 pins s σ H D I h) fun f s1 q=>?_)
 cases f with
 | next=>exact Sa q
 | ret v=>exact q
 | brk=>exact q
 | cont=>exact q
noncomputable def Zgm:TS:=fun D σ H=>D.ct σ H
theorem Zod:PS X (.Continue pos) Zgm:=fun _ _ σ H _ I h=>wpAny_Continue ⟨σ,H,I,h⟩
theorem Inv.quiet {pins:List (Addr×Obj)}{σ:St}{H:Hp}{s:Shared}(I:Inv X pins σ H s):interactive X.env=false:=by simp [interactive,I.ok.kind]
noncomputable def On (te:TE):TS:=fun D σ H=>te σ H fun _ H1=>D.nx σ H1
theorem Zmh (he:PE X e te)(hs:swapsWith e none pos.line X.env=pure false:=by rfl):PS X (.Expr e pos) (On te):=by
 intro pins s σ H D I h
 exact wpAny_Expr_any (Aj (he pins s σ H _ I h) fun v s1 ⟨x,H1,I1,r1,q1⟩=>⟨σ,H1,I1,q1⟩) I.quiet hs
noncomputable def Zbn (te:TE):TS:=fun D σ H=>te σ H D.rt
theorem Zmb (he:PE X e te):PS X (.Return (some e) pos) (Zbn te):=by
 intro pins s σ H D I h
 exact wpAny_Return_some (Aj (he pins s σ H _ I h) fun v s1 ⟨x,H1,I1,r1,q1⟩=>⟨x,σ,H1,I1,r1,q1⟩)
noncomputable def Nm (c:TT)(t u:TS):TS:=fun D σ H=>c σ H fun b H1=>if b=true then t D σ H1 else u D σ H1
theorem Znd {c:Expr}{a b:List Stmt}{tc:TT}(hc:PT X c tc)(ha:PSs X a t)(hb:PSs X b u):PS X (.If c a b pos) (Nm tc t u):=by
 intro pins s σ H D I h
 refine wpAny_If (Aj (hc pins s σ H _ I h) fun d s1 zq=>?_)
 obtain ⟨H1,I1,q1⟩:=zq
 cases d with
 | true=>exact ha pins s1 σ H1 D I1 q1
 | false=>exact hb pins s1 σ H1 D I1 q1
end
noncomputable abbrev TG:=V->St->Hp->(St->Hp->Prop)->Prop
noncomputable abbrev Ee:=List V->St->Hp->(St->Hp->Prop)->Prop
noncomputable def PG (X:Cx)(target:Expr)(t:TG):Prop :=
 ∀(pins:List (Addr×Obj))(s:Shared)(σ:St)(H:Hp)(v:V)(u:Value)(Q:St->Hp->Prop),Inv X pins σ H s->RelV v u->t v σ H Q ->
  wpAny (model X.prog X.w) X.A (assign target X.env u) (fun _ s'=>∃ σ' H',Inv X pins σ' H' s'/\Q σ' H') X.xe s
noncomputable def PGs (X:Cx)(ts:List Expr)(t:Ee):Prop :=
 ∀(pins:List (Addr×Obj))(s:Shared)(σ:St)(H:Hp)(vs:List V)(us:List Value)(Q:St->Hp->Prop),Inv X pins σ H s->Vals vs us->t vs σ H Q ->
  wpAny (model X.prog X.w) X.A (assignInOrder ((assignEach ts X.env).map (·.2)) us) (fun _ s'=>∃ σ' H',Inv X pins σ' H' s'/\Q σ' H') X.xe s
noncomputable abbrev Kl:=V->V->V->Hp->(Hp->Prop)->Prop
noncomputable def Pe (X:Cx)(t:Kl):Prop :=
 ∀(pins:List (Addr×Obj))(s:Shared)(σ:St)(H:Hp)(o i v:V)(ov iv u:Value)(Q:Hp->Prop),Inv X pins σ H s->RelV o ov->RelV i iv->RelV v u->t o i v H Q ->
  wpAny (model X.prog X.w) X.A (setItem ov iv u) (fun _ s'=>∃ H',Inv X pins σ H' s'/\Q H') X.xe s
noncomputable abbrev Iv:=V->V->Hp->VK->Prop
noncomputable def PIp (X:Cx)(op:Operator)(t:Iv):Prop :=
 ∀(pins:List (Addr×Obj))(s:Shared)(σ:St)(H:Hp)(x y:V)(v u:Value)(Q:VK),Inv X pins σ H s->RelV x v->RelV y u->t x y H Q ->
  wpAny (model X.prog X.w) X.A (inplaceOp op v u) (EP X pins σ Q) X.xe s
section
variable {X:Cx}{pos:Pos}
noncomputable def Gs (i:Nat):TG:=fun v σ H Q=>Q (σ.set i (some v)) H
theorem Zr0 {i:Nat}{x:Str}(hN:X.N.Nodup)(hi:X.N[i]?=some x)(hx:Em X.env.scope x)(hf:X.fn x=true\/X.env.scope.names.lookup x=some .local:=by first | exact .inl rfl | exact .inr rfl | assumption):PG X (.Name x pos) (Gs i):=by
 intro pins s σ H v u Q I r h
 exact wpAny_assign_Name (Hm I hN hi hx r (fun s' I'=>⟨_,H,I',h⟩) hf)
noncomputable def Ox:Ee:=fun vs σ H Q=>vs=[]/\Q σ H
noncomputable def Zby (t:TG)(u:Ee):Ee:=fun vs σ H Q=>∃ v r,vs=v::r/\t v σ H fun σ' H'=>u r σ' H' Q
theorem Zlq:PGs X [] Ox:=by
 intro pins s σ H vs us Q I r h
 obtain ⟨e,h⟩:=h
 subst e
 cases r
 exact assignInOrder_nil ⟨σ,H,I,h⟩
theorem Zpq {e:Expr}{es:List Expr}{t:TG}{u:Ee}(h1:PG X e t)(h2:PGs X es u)
  (hs:(assignEach (e::es) X.env).map (·.2)=assign e X.env::(assignEach es X.env).map (·.2):=by rfl):PGs X (e::es) (Zby t u):=by
 intro pins s σ H vs us Q I r h
 obtain ⟨v,vr,e1,h⟩:=h
 subst e1
 cases r with
 | cons r rr =>
  rw [hs]
  refine Wq (Aj (h1 pins s σ H _ _ _ I r h) fun _ s1 zq=>?_)
  obtain ⟨σ1,H1,I1,q1⟩:=zq
  exact h2 pins s1 σ1 H1 _ _ Q I1 rr q1
noncomputable def Np (K:Pk)(n:Nat)(t:Ee):TG:=fun v σ H Q=>∃ a xs,v=.ref a/\SqT K H a xs/\xs.length=n/\t xs σ H Q
theorem Zql {es:List Expr}{k:Nat}{t:Ee}{n:Nat}(hc:X.calm=true)(h:PGs X es t)
  (hn:(assignEach es X.env).length=n:=by rfl) (hst:(assignEach es X.env).findIdx? (·.1)=none:=by rfl):PG X (.Tuple es k pos) (Np X.K n t):=by
 intro pins s σ H v u Q I r hw
 obtain ⟨a,xs,e1,hq,hl,hw⟩:=hw
 subst e1
 cases r
 obtain ⟨its,rv,ht,hz⟩:=I.tuple hq
 refine assign_Tuple_tuple (I.ok.hd hc) ht (by simp [hn,<- hl,rv.length]) hst fun h' hx=>?_
 have I1:Inv X pins σ H { s with heap:=h' }:=I.kept (t':=s.toks) fun b o e=>hx b o (P0 (Pr e)) e
 exact h pins _ σ H xs _ Q I1 (by simpa using rv) hw
noncomputable def N9 (to ti:TE)(t:Kl):TG:=fun v σ H Q=>to σ H fun o H1=>ti σ H1 fun i H2=>t o i v H2 fun H3=>Q σ H3
theorem Ztq {o i:Expr}{to ti:TE}{t:Kl}(ho:PE X o to)(hi:PE X i ti)(hs:Pe X t)
  (ha:∀ v,assign (.Subscript o i pos) X.env v=(do
   let ov <- holding [v] (eval o X.env)
   let iv <- holding [v,ov] (eval i X.env)
   standAt pos
   holding [v,ov,iv] (setItem ov iv v)
   release [v,ov,iv] []):=by intro _;rfl):PG X (.Subscript o i pos) (N9 to ti t):=by
 intro pins s σ H v u Q I r h
 rw [ha]
 refine Pl (Ql (Aj (ho pins s σ H _ I h) fun ov s1 zq=>?_))
 obtain ⟨x,H1,I1,r1,q1⟩:=zq
 refine Pl (Ql (Aj (hi pins s1 σ H1 _ I1 q1) fun iv s2 zq=>?_))
 obtain ⟨y,H2,I2,r2,q2⟩:=zq
 refine Pl (Sx (Pl (Ql (Aj (hs pins s2 σ H2 x y v ov iv u _ I2 r1 r2 r q2) fun _ s3 zq=>?_))))
 obtain ⟨H3,I3,q3⟩:=zq
 exact wpAny_release ⟨σ,H3,I3,q3⟩
noncomputable def G7 (te:TE)(g:TG):TS:=fun D σ H=>te σ H fun x H1=>g x σ H1 D.nx
theorem Zmc {tg e:Expr}{te:TE}{g:TG}(he:PE X e te)(hg:PG X tg g)(hs:swapsWithSole [tg] e pos.line X.env=pure false:=by rfl)(hw:swappedStores [tg] e X.env=pure none:=by rfl)
  (h1:(assignEach [tg] X.env).map (·.2)=[assign tg X.env]:=by rfl):PS X (.Assign [tg] e pos) (G7 te g):=by
 intro pins s σ H D I h
 refine wpAny_Assign_stores (Aj (he pins s σ H _ I h) fun v s1 zq=>?_) hs hw
 obtain ⟨x,H1,I1,r1,q1⟩:=zq
 rw [h1]
 exact Aj (hg pins s1 σ H1 x v _ I1 r1 q1) fun _ s2 q=>q
theorem Zki {i:Nat}{x:Str}{e:Expr}{te:TE}{pos':Pos}(hN:X.N.Nodup)(hi:X.N[i]?=some x)(hx:Em X.env.scope x)(he:PE X e te)(hs:swapsWith e (some (.Name x pos')) pos.line X.env=pure false:=by rfl)(hf:X.fn x=true\/X.env.scope.names.lookup x=some .local:=by first | exact .inl rfl | exact .inr rfl | assumption) :
  PS X (.Assign [.Name x pos'] e pos) (G7 te (Gs i)):=by
 intro pins s σ H D I h
 refine wpAny_Assign_Name (Aj (he pins s σ H _ I h) fun v s1 zq=>?_) hs
 obtain ⟨y,H1,I1,r1,q1⟩:=zq
 exact Hm I1 hN hi hx r1 (fun s2 I2=>⟨_,H1,I2,q1⟩) hf
noncomputable def O7 (i j:Nat)(ta:TA):TS:=fun D σ H=>ta σ H fun vs H1=>∃ v w,vs=[v,w]/\D.nx ((σ.set i (some v)).set j (some w)) H1
theorem Zk0 {i j:Nat}{x y:Str}{a b:Expr}{ta:TA}{px py pt:Pos}{kt k2 pt2}(hc:X.calm=true)(hN:X.N.Nodup)(hi:X.N[i]?=some x)(hj:X.N[j]?=some y)(hij:i≠j)
  (hx:X.env.scope.names.lookup x=some .local) (hy:X.env.scope.names.lookup y=some .local) (ha:PA X [a,b] ta)
  (hw:swappedStores [.Tuple [.Name x px,.Name y py] kt pt] (.Tuple [a,b] k2 pt2) X.env=pure (some [x,y]))
  (hs:swapsWithSole [.Tuple [.Name x px,.Name y py] kt pt] (.Tuple [a,b] k2 pt2) pos.line X.env=pure false:=by rfl) :
  PS X (.Assign [.Tuple [.Name x px,.Name y py] kt pt] (.Tuple [a,b] k2 pt2) pos) (O7 i j ta):=by
 intro pins s σ H D I h
 rw [exec_Assign_arm]
 refine Pl (Sx ?_)
 rw [hs]
 refine Pl (Pm ?_)
 rw [if_neg (by decide)]
 refine Pl (Tuple_ (Aj (ha _ pins s σ H _ I h) fun us s1 zq=>?_))
 obtain ⟨vs,H1,I1,r1,q1⟩:=zq
 obtain ⟨v,w,e1,q1⟩:=q1
 subst e1
 obtain ⟨u1,u2,rfl,rv,rw'⟩:∃ u1 u2,us=[u1,u2]/\RelV v u1/\RelV w u2:=by
  cases r1 with
  | cons p q =>
   cases q with
   | cons p' q' =>
    cases q'
    exact ⟨_,_,rfl,p,p'⟩
 refine Rk ?_ (by show 2<=sizeLine;decide)
 have I2:Inv X pins σ H1 { s1 with heap:=s1.heap.push { cls:=.type "tuple",data:=.seq [u1,u2].toArray } }:=I1.kept (t':=s1.toks) fun b o e=>Pp _ e
 rw [hw]
 refine Pl (Pm ?_)
 show wpAny (model X.prog X.w) X.A (do rule "assign.swapped-stores";let items <- unpackItems (.ref s1.heap.objs.size) 2 none;assignInOrder [fun v=>bindName X.env y v,fun v=>bindName X.env x v] items.reverse;pure Flow.next) _ _ _
 refine Pl (Se (Pl (unpackItems_tuple (items:=#[u1,u2]) (I.ok.hd hc) (IsTup.new s1.heap _) fun h' hx'=>?_)))
 have I3:=I2.kept (h':=h') (t':=s1.toks) fun b o e=>hx' b o (P0 (Pr e)) e
 show wpAny _ _ (assignInOrder [fun v=>bindName X.env y v,fun v=>bindName X.env x v] [u2,u1] >>= fun _=>pure Flow.next) _ _ _
 refine Pl (Wq (wpAny_bindName (Hm I3 hN hj (.inl hy) rw' (fun s2 I4=>?_) (.inr hy))))
 refine Wq (wpAny_bindName (Hm I4 hN hi (.inl hx) rv (fun s3 I5=>assignInOrder_nil (Pm ?_)) (.inr hx)))
 rw [List.set_comm _ _ (Qa hij)] at I5
 exact ⟨_,H1,I5,q1⟩
noncomputable def Za6 (i:Nat)(te:TE)(ti:Iv):TS:=fun D σ H=>∃ x,σ[i]?=some (some x)/\te σ H fun y H1=>ti x y H1 fun z H2=>D.nx (σ.set i (some z)) H2
theorem Zku {i:Nat}{x:Str}{e:Expr}{te:TE}{op:Operator}{ti:Iv}{pos':Pos}(hN:X.N.Nodup)(hi:X.N[i]?=some x)(hx:Em X.env.scope x)(he:PE X e te)(ho:PIp X op ti)(hf:X.fn x=true\/X.env.scope.names.lookup x=some .local:=by first | exact .inl rfl | exact .inr rfl | assumption) :
  PS X (.AugAssign (.Name x pos') op e pos) (Za6 i te ti):=by
 intro pins s σ H D I h
 obtain ⟨v,e1,h⟩:=h
 obtain ⟨m,hn,hl⟩:=I.loc
 have vis:Vis X.env.scope x:=by rcases hx with k | k;exact .inl k;exact .inr (.inl k)
 obtain ⟨u,r,l⟩:=hl i x v hi e1 vis
 refine wpAny_AugAssign_Name ?_
 have go:wpAny (model X.prog X.w) X.A (eval e X.env) (fun w s₂=>wpAny (model X.prog X.w) X.A (inplaceOp op u w) (fun r s₃=>wpAny (model X.prog X.w) X.A (storeName X.env x r) (fun _=>SP X pins D .next) X.xe s₃) X.xe s₂) X.xe s:=by
  refine Aj (he pins s σ H _ I h) fun w s1 zq=>?_
  obtain ⟨y,H1,I1,r1,q1⟩:=zq
  refine Aj (ho pins s1 σ H1 v y u w _ I1 r r1 q1) fun z s2 zq=>?_
  obtain ⟨zv,H2,I2,r2,q2⟩:=zq
  exact Hm I2 hN hi hx r2 (fun s3 I3=>⟨_,H2,I3,q2⟩) hf
 rcases l with ⟨hk,hm⟩ | ⟨hk,c,hc,hcell⟩
 ·exact wpAny_loadName_local I.ok.kind hk hn hm go
 ·rcases hk with hk | hk
  ·exact wpAny_loadName_cell I.ok.kind hk hc hcell go
  ·rcases hx with k | k
   ·have:X.env.scope.names.lookup x=some .free:=hk
    rw [k] at this;cases this
   ·have:X.env.scope.names.lookup x=some .free:=hk
    rw [k] at this;cases this
noncomputable def ipI (f:Int->Int->Int):Iv:=fun x y H Q=>∃ i j,x=.int i/\y=.int j/\Q (.int (f i j)) H
theorem Zks:PIp X .Add (ipI fun i j=>i+j):=by
 intro pins s σ H x y v u Q I r1 r2 h
 obtain ⟨i,j,e1,e2,q⟩:=h
 subst e1;subst e2
 obtain ⟨t,rfl⟩:=r1
 obtain ⟨t',rfl⟩:=r2
 exact iadd_int ⟨.int _,H,I.tok _,⟨_,rfl⟩,q⟩
end
section
variable {X:Cx}{pos:Pos}
noncomputable def Ze8 (c:TT)(tb:TS):TS:=fun D σ H=>∃ W:Nat->St->Hp->Prop,(∃ m,W m σ H)/\∀ m σ H,W m σ H ->
 c σ H fun b H1=>if b=true then ∃ N:St->Hp->Prop,(∀ σ' H',N σ' H'->∃ m',m' < m/\W m' σ' H')/\tb { D with nx:=N,ct:=N,bk:=D.nx } σ H1 else D.nx σ H1
theorem Zji {c:Expr}{body:List Stmt}{tc:TT}{tb:TS}(hp:PassesOwn (model X.prog X.w) X.A X.env X.xe)(hc:PT X c tc)(hb:PSs X body tb):PS X (.While c body [] pos) (Ze8 tc tb):=by
 intro pins s σ H D I h
 obtain ⟨W,⟨m0,w0⟩,turn⟩:=h
 refine wpAny_While (codeAny_whileLoop (fun n s'=>∃ σ' H',Inv X pins σ' H' s'/\W n σ' H') ?_ m0 ⟨σ,H,I,w0⟩)
 rintro n s1 ⟨σ1,H1,I1,w1⟩
 refine Rc hp (Aj (hc pins s1 σ1 H1 _ I1 (turn n σ1 H1 w1)) fun b s2 zq=>?_)
 obtain ⟨H2,I2,q2⟩:=zq
 cases b with
 | true =>
  obtain ⟨N,hN,q2⟩:=q2
  rw [if_pos rfl]
  refine Rc hp (Aj (hb pins s2 σ1 H2 _ I2 q2) fun f s3 q3=>?_)
  cases f with
  | next =>
   obtain ⟨σ3,H3,I3,n3⟩:=q3
   obtain ⟨m',hm,w3⟩:=hN σ3 H3 n3
   exact ⟨m',hm,σ3,H3,I3,w3⟩
  | cont =>
   obtain ⟨σ3,H3,I3,n3⟩:=q3
   obtain ⟨m',hm,w3⟩:=hN σ3 H3 n3
   exact ⟨m',hm,σ3,H3,I3,w3⟩
  | brk=>exact q3
  | ret v=>exact q3
 | false =>
  rw [if_neg P6]
  exact Sa ⟨σ1,H2,I2,q2⟩
end
structure It where
 go:Nat->Hp->Prop
 yld:Nat->Hp->V->Hp->Prop
 stop:Nat->Hp->Prop
noncomputable def FpOk (X:Cx)(pins:List (Addr×Obj))(H:Hp)(b:Addr):Prop :=
 H b=none/\b≠X.env.locals/\b ∉ X.fs/\(b∈X.ex\/X.s₀.heap.objs.size<=b)/\(∀ x c,X.env.cells.lookup x=some c->c≠b)/\∀ p∈X.pn++pins,p.1≠b
theorem Inv.fpOk {X:Cx}{pins:List (Addr×Obj)}{σ:St}{H H':Hp}{s:Shared}{b:Addr}(I:Inv X pins σ H s)(hb:s.heap.objs.size<=b)(hn:H' b=none):FpOk X pins H' b:=by
 refine ⟨hn,Qy (P7 I.lt hb),I.nofs hb,.inr (Qr I.sz hb),fun x c e z=>?_,fun p hp z=>?_⟩
 ·obtain ⟨v,q⟩:=I.cell x c e
  exact absurd (P7 q.lt (by rw [z];exact hb)) (Rg _)
 ·exact absurd (P7 (Pr (I.pin p hp).1) (by rw [z];exact hb)) (Rg _)
structure F4 (P:Program)(w:World)(K:Pk)(tg:Expr)(J:It)(fp:List Addr)(it:Addr)(tn:Nat->Heap->Prop):Prop where
 mem:it∈fp
 obj:∀ i h,tn i h->∀ b∈fp,∃ o,h.get? b=some o/\∀ v,o.data≠.cell v
 keep:∀ i h h',tn i h->(∀ b∈fp,∀ o,h.get? b=some o->h'.get? b=some o)->tn i h'
 item:∀(X:Cx),X.prog=P->X.w=w->X.K=K->X.calm=true->∀(i:Nat)(pins:List (Addr×Obj))(s:Shared)(σ:St)(H:Hp)(E:Value->Shared->Prop),Inv X pins σ H s->(∀ b∈fp,FpOk X pins H b)->tn i s.heap->J.go i H ->
  wpAny (model P w) X.A (pyNext (.ref it)) (fun r s1=>∃ u,r=some u /\
   wpAny (model P w) X.A (letOwnedTupleGo tg (.ref it) u) (fun _ s2=>∃ x H',Inv X pins σ H' s2/\RelV x u/\J.yld i H x H'/\tn (i+1) s2.heap/\∀ b∈fp,H' b=none) E s1) E s
 done:∀(X:Cx),X.prog=P->X.w=w->X.K=K->X.calm=true->∀(i:Nat)(pins:List (Addr×Obj))(s:Shared)(σ:St)(H:Hp)(E:Value->Shared->Prop),Inv X pins σ H s->(∀ b∈fp,FpOk X pins H b)->tn i s.heap->J.stop i H ->
  wpAny (model P w) X.A (pyNext (.ref it)) (fun r s1=>r=none/\Inv X pins σ H s1) E s
 self:∀(A:Around)(i:Nat)(s:Shared)(Q:Value->Shared->Prop)(E:Value->Shared->Prop),tn i s.heap->Q (.ref it) s->wpAny (model P w) A (pyIter (.ref it)) Q E s
noncomputable abbrev TI:=St->Hp->(It->Hp->Prop)->Prop
noncomputable def PIE (X:Cx)(pins:List (Addr×Obj))(σ:St)(tg:Expr)(R:It->Hp->Prop)(itv:Value)(s2:Shared):Prop :=
 ∃(it:Addr)(fp:List Addr)(tn:Nat->Heap->Prop)(J:It)(H':Hp),itv=.ref it/\Inv X pins σ H' s2/\F4 X.prog X.w X.K tg J fp it tn/\tn 0 s2.heap/\(∀ b∈fp,FpOk X pins H' b)/\R J H'
noncomputable def PI (X:Cx)(tg iter:Expr)(wi:TI):Prop :=
 ∀(pins:List (Addr×Obj))(s:Shared)(σ:St)(H:Hp)(R:It->Hp->Prop),Inv X pins σ H s->wi σ H R ->
  wpAny (model X.prog X.w) X.A (eval iter X.env) (fun v s1=>wpAny (model X.prog X.w) X.A (pyIter v) (PIE X pins σ tg R) X.xe s1) X.xe s
theorem Jk {M:Model}{A:Around}{E:Value->Shared->Prop}{s:Shared}{tg:Expr}{it:Addr}{u:Value}{o:Obj}{n:String}{vs:Array Value}{Q:Unit->Shared->Prop}(ho:s.heap.get? it=some o)(hc:o.cls=.type n)(hd:o.data=.fields vs)
  (hn:["enumerate", "zip", "dict_itemiterator", "dict_reverseitemiterator", "odict_iterator", "itertools.zip_longest", "itertools.pairwise"].contains n=false) (hQ:Q () s):wpAny M A (letOwnedTupleGo tg (.ref it) u) Q E s:=by
 unfold letOwnedTupleGo
 cases tg <;> first
  | exact Pm hQ
  | (cases u <;> first
    | exact Pm hQ
    | (refine Pl (wpAny_load ho ?_)
       rw [hc,hd]
       show wpAny M A (if (["enumerate", "zip", "dict_itemiterator", "dict_reverseitemiterator", "odict_iterator", "itertools.zip_longest", "itertools.pairwise"].contains n && vs[0]? == some (rawInt _))=true then _ else _) Q E s
       rw [if_neg (by intro h;rw [hn,Bool.false_and] at h;cases h)]
       exact Pm hQ))
noncomputable def Ha (K:Pk)(a:Addr):It :=
 ⟨fun i H=>∃ xs x,SqL K H a xs/\xs[i]?=some x,fun i H x H'=>H'=H/\∀ xs,SqL K H a xs->xs[i]?=some x,fun i H=>∃ xs,SqL K H a xs/\xs.length<=i⟩
noncomputable def Hc (K:Pk)(a:Addr):It :=
 ⟨fun i H=>∃ xs x,SqT K H a xs/\xs[i]?=some x,fun i H x H'=>H'=H/\∀ xs,SqT K H a xs->xs[i]?=some x,fun i H=>∃ xs,SqT K H a xs/\xs.length<=i⟩
noncomputable def Gv (lo:Int)(n:Nat):It:=⟨fun i _=>i < n,fun i H x H'=>H'=H/\x=.int (lo+i),fun i _=>n<=i⟩
theorem Zmm {P:Program}{w:World}{K:Pk}{tg:Expr}(a it:Addr):F4 P w K tg (Ha K a) [it] it (fun i h=>h.IsListIter it a i) where
 mem:=by simp
 obj:=fun i h st b hb=>by
  have e:b=it:=by simpa using hb
  subst e
  obtain ⟨o,e,c,d⟩:=st
  exact ⟨o,e,fun v z=>by rw [d] at z;cases z⟩
 keep:=fun i h h' st k=>st.at fun o e=>k it (by simp) o e
 item:=by
  intro X hP hw hK hc i pins s σ H E I hf st hg
  subst hP hw hK
  obtain ⟨xs,x,hq,hx⟩:=hg
  obtain ⟨its,rv,p,hz⟩:=I.list hq
  obtain ⟨u,hu,ru⟩:=rv.get hx
  obtain ⟨f0,f1,f2,f3,f4,f5⟩:=hf it (by simp)
  refine wpAny_pyNext_list_item st p.isList (x:=u) (by simpa using hu) fun h' st' sb=>?_
  have I1:Inv X pins σ H { s with heap:=h' }:=I.turned (t':=s.toks) (fun b o hb e=>(sb.2 b hb).trans e) f0 f1 f3 f4 f5
  obtain ⟨o,e,c,d⟩:=id st'
  exact ⟨u,rfl,Jk (s:={ s with heap:=h' }) e c d (by decide) ⟨x,H,I1,ru,⟨rfl,fun ys hy=>by rw [I.list_inj hy hq];exact hx⟩,st',fun b hb=>(hf b hb).1⟩⟩
 done:=by
  intro X hP hw hK hc i pins s σ H E I hf st hg
  subst hP hw hK
  obtain ⟨xs,hq,hx⟩:=hg
  obtain ⟨its,rv,p,hz⟩:=I.list hq
  obtain ⟨f0,f1,f2,f3,f4,f5⟩:=hf it (by simp)
  have hl:=rv.length
  exact wpAny_pyNext_list_end (I.ok.hd hc) st p.isList (by simp;omega) fun h' eb=>⟨rfl,I.turned (t':=s.toks) (fun b o hb e=>eb b o hb e) f0 f1 f3 f4 f5⟩
 self:=fun _ _ _ _ _ st h=>wpAny_pyIter_listiter st h
theorem Zoa {P:Program}{w:World}{K:Pk}{tg:Expr}(a it:Addr):F4 P w K tg (Hc K a) [it] it (fun i h=>h.IsTupleIter it a i) where
 mem:=by simp
 obj:=fun i h st b hb=>by
  have e:b=it:=by simpa using hb
  subst e
  obtain ⟨o,e,c,d⟩:=st
  exact ⟨o,e,fun v z=>by rw [d] at z;cases z⟩
 keep:=fun i h h' st k=>st.at fun o e=>k it (by simp) o e
 item:=by
  intro X hP hw hK hc i pins s σ H E I hf st hg
  subst hP hw hK
  obtain ⟨xs,x,hq,hx⟩:=hg
  obtain ⟨its,rv,p,hz⟩:=I.tuple hq
  obtain ⟨u,hu,ru⟩:=rv.get hx
  obtain ⟨f0,f1,f2,f3,f4,f5⟩:=hf it (by simp)
  refine wpAny_pyNext_tuple_item st (show s.heap.IsTuple a its.toArray from p) (x:=u) (by simpa using hu) fun h' st' sb=>?_
  have I1:Inv X pins σ H { s with heap:=h' }:=I.turned (t':=s.toks) (fun b o hb e=>(sb.2 b hb).trans e) f0 f1 f3 f4 f5
  obtain ⟨o,e,c,d⟩:=id st'
  exact ⟨u,rfl,Jk (s:={ s with heap:=h' }) e c d (by decide) ⟨x,H,I1,ru,⟨rfl,fun ys hy=>by rw [I.tuple_inj hy hq];exact hx⟩,st',fun b hb=>(hf b hb).1⟩⟩
 done:=by
  intro X hP hw hK hc i pins s σ H E I hf st hg
  subst hP hw hK
  obtain ⟨xs,hq,hx⟩:=hg
  obtain ⟨its,rv,p,hz⟩:=I.tuple hq
  obtain ⟨f0,f1,f2,f3,f4,f5⟩:=hf it (by simp)
  have hl:=rv.length
  exact wpAny_pyNext_tuple_end (I.ok.hd hc) st (show s.heap.IsTuple a its.toArray from p) (by simp;omega) fun h' eb=>⟨rfl,I.turned (t':=s.toks) (fun b o hb e=>eb b o hb e) f0 f1 f3 f4 f5⟩
 self:=fun _ _ _ _ _ st h=>wpAny_pyIter_tupleiter st h
theorem Zl6 {P:Program}{w:World}{K:Pk}{tg:Expr}(it:Addr)(lo:Int)(n:Nat):F4 P w K tg (Gv lo n) [it] it (fun i h=>IsRangeIter h it (lo+(i:Nat) * 1) ((n:Int) - (i:Nat)) 1) where
 mem:=by simp
 obj:=fun i h st b hb=>by
  have e:b=it:=by simpa using hb
  subst e
  exact ⟨_,st,fun v z=>by
   have z':Data.fields _=Data.cell v:=z
   cases z'⟩
 keep:=fun i h h' st k=>k it (by simp) _ st
 item:=by
  intro X hP hw hK hc i pins s σ H E I hf st hg
  subst hP hw hK
  obtain ⟨f0,f1,f2,f3,f4,f5⟩:=hf it (by simp)
  have W:=Walks.range (prog:=X.prog) (w:=X.w) (I.ok.hd hc) it lo 1 n
  refine W.item i s _ _ hg st fun v h' tk hv st' kk=>?_
  obtain ⟨t,rfl⟩:=hv
  have I1:Inv X pins σ H { s with heap:=h',toks:=tk }:=I.turned (fun b o hb e=>kk b o (by simpa using hb) e) f0 f1 f3 f4 f5
  refine ⟨_,rfl,Jk (s:={ s with heap:=h',toks:=tk }) (n := "range_iterator") st' rfl rfl (by decide) ⟨.int (lo+i),H,I1,⟨t,?_⟩,⟨rfl,rfl⟩,st',fun b hb=>(hf b hb).1⟩⟩
  rw [Int.mul_one]
 done:=by
  intro X hP hw hK hc i pins s σ H E I hf st hg
  subst hP hw hK
  obtain ⟨f0,f1,f2,f3,f4,f5⟩:=hf it (by simp)
  exact wpAny_pyNext_range_end (I.ok.hd hc) st (by have:n<=i:=hg;omega) fun h' eb=>⟨rfl,I.turned (t':=s.toks) (fun b o hb e=>eb b o hb e) f0 f1 f3 f4 f5⟩
 self:=fun _ _ _ _ _ st h=>wpAny_pyIter_rangeiter st h
section
variable {X:Cx}{tg:Expr}
theorem Zi2 {pins:List (Addr×Obj)}{σ:St}{H:Hp}{s:Shared}{R:It->Hp->Prop}{E:Value->Shared->Prop}{lo hi:Int}{t u v:Tok}{tk:Nat}(I:Inv X pins σ H s)(h1:-(2 ^ 62)<=lo)(h2:lo < 2 ^ 62)(h3:-(2 ^ 62)<=hi)(h4:hi < 2 ^ 62)
  (q:R (Gv lo (hi - lo).toNat) H):wpAny (model X.prog X.w) X.A (pyIter (.ref s.heap.objs.size)) (PIE X pins σ tg R) E { s with heap:=s.heap.push { cls:=.type "range",data:=.fields #[.int lo t,.int hi u,.int 1 v] },toks:=tk }:=by
 refine wpAny_pyIter_range (IsRange.new ..) (small_one h1 h2 h3 h4) ?_
 have I1:Inv X pins σ H { s with heap:=s.heap.push { cls:=.type "range",data:=.fields #[.int lo t,.int hi u,.int 1 v] },toks:=tk }:=I.kept fun b o e=>Pp _ e
 refine ⟨(s.heap.push { cls:=.type "range",data:=.fields #[.int lo t,.int hi u,.int 1 v] }).objs.size,[(s.heap.push { cls:=.type "range",data:=.fields #[.int lo t,.int hi u,.int 1 v] }).objs.size],_,_,H,rfl,
  I1.kept (t':=tk) fun b o e=>Pp _ e,Zl6 _ lo (hi - lo).toNat,?_,fun b hb=>?_,q⟩
 ·have e1:lo+((0:Nat):Int) * 1=lo:=by simp
  have e2:(((hi - lo).toNat:Nat):Int) - ((0:Nat):Int)=Builtin.Range.rangeSize lo hi 1:=by rw [rangeSize_one];split <;> omega
  show IsRangeIter _ _ (lo+((0:Nat):Int) * 1) ((((hi - lo).toNat:Nat):Int) - ((0:Nat):Int)) 1
  rw [e1,e2]
  exact P5 _ rfl
 ·have e:b=(s.heap.push { cls:=.type "range",data:=.fields #[.int lo t,.int hi u,.int 1 v] }).objs.size:=by simpa using hb
  subst e
  exact I1.fpOk (Po _) (I1.hok.fresh (Po _))
noncomputable def N7 (ta:TA):TI:=fun σ H R=>ta σ H fun vs H1=>∃ j:Int,vs=[.int j]/\-(2 ^ 62)<=j/\j < 2 ^ 62/\R (Gv 0 j.toNat) H1
theorem Zqq {a:Expr}{ta:TA}{p pos:Pos}(hg:Gl X "range")(hm:X.mg "range" = none)(ha:PA X [a] ta)(hs:starEach [a] X.env=[(false,eval a X.env)]:=by rfl):PI X tg (.Call (.Name "range" p) [a] [] pos) (N7 ta):=by
 intro pins s σ H R I h
 refine Call_ (Dp I hg hm boot_range (Q6 (Aj (ha pos pins s σ H _ I h) fun us s1 zq=>?_) hs rfl))
 obtain ⟨vs,H1,I1,r1,q1⟩:=zq
 obtain ⟨j,e,q1,q2,q⟩:=q1
 subst e
 cases r1 with
 | cons r rr =>
  cases rr
  obtain ⟨t,rfl⟩:=r
  exact call_range_1 (Zi2 I1 (by omega) (by omega) q1 q2 (by simpa using q))
noncomputable def Ov (wi:TI)(g:TG)(tb:TS):TS:=fun D σ H=>wi σ H fun J H1=>∃ W:Nat->Nat->St->Hp->Prop,(∃ m,W 0 m σ H1)/\∀ i m σ H,W i m σ H ->
 (J.stop i H/\D.nx σ H)\/(J.go i H/\∃ N:St->Hp->Prop,(∀ σ' H',N σ' H'->∃ m',m' < m/\W (i+1) m' σ' H')/\∀ x H',J.yld i H x H'->g x σ H' fun σ2 H2=>tb { D with nx:=N,ct:=N,bk:=D.nx } σ2 H2)
noncomputable def Jo (fp:List Addr)(h:Heap):List (Addr×Obj):=fp.filterMap fun b=>(h.get? b).map fun o=>(b,o)
theorem Ke {fp:List Addr}{h:Heap}{b:Addr}{o:Obj}(hb:b∈fp)(e:h.get? b=some o):(b,o)∈Jo fp h:=List.mem_filterMap.mpr ⟨b,hb,by rw [e];rfl⟩
theorem Zlb {fp:List Addr}{h:Heap}{p:Addr×Obj}(hp:p∈Jo fp h):p.1∈fp/\h.get? p.1=some p.2:=by
 obtain ⟨b,hb,e⟩:=List.mem_filterMap.mp hp
 cases q:h.get? b with
 | none=>rw [q] at e;cases e
 | some o =>
  rw [q] at e
  have e':(b,o)=p:=P8 e
  subst e'
  exact ⟨hb,q⟩
theorem Inv.pinned {pins:List (Addr×Obj)}{σ:St}{H:Hp}{s:Shared}{fp:List Addr}(I:Inv X pins σ H s)(hf:∀ b∈fp,FpOk X pins H b)(ho:∀ b∈fp,∃ o,s.heap.get? b=some o/\∀ v,o.data≠.cell v):Inv X (pins++Jo fp s.heap) σ H s :=
 I.pins_of fun p hp=>(Qq.mp hp).elim (fun z=>I.pin p (Rb _ z)) fun z=>by
  obtain ⟨hb,e⟩:=Zlb z
  obtain ⟨f0,f1,f2,_⟩:=hf p.1 hb
  obtain ⟨o,e',d⟩:=ho p.1 hb
  rw [e] at e';cases e'
  exact ⟨e,f0,f1,f2,d⟩
theorem Inv.unpinned {pins pl:List (Addr×Obj)}{σ:St}{H:Hp}{s:Shared}(I:Inv X (pins++pl) σ H s):Inv X pins σ H s:=I.pins_of fun p hp=>I.pin p (Rb _ (List.mem_append_left _ hp))
theorem Zld {iter:Expr}{body:List Stmt}{wi:TI}{g:TG}{tb:TS}{pos:Pos}(hp:PassesOwn (model X.prog X.w) X.A X.env X.xe)(hc:X.calm=true)(hi:PI X tg iter wi)(hg:PG X tg g)(hb:PSs X body tb)
  (hs:∀ x,foldedSetIterable iter X.env x=pure x:=by intro _;rfl):PS X (.For tg iter body [] pos) (Ov wi g tb):=by
 intro pins s σ H D I h
 refine wpAny_For (Aj (hi pins s σ H _ I h) fun v s1 h1=>Aj h1 fun itv s2 h2=>?_) hs
 obtain ⟨it,fp,tn,J,H2,e,I2,T,st2,f2,W,⟨m0,w0⟩,turn⟩:=h2
 subst e
 have stat:∀{H':Hp},(∀ b∈fp,H' b=none)->∀ b∈fp,FpOk X pins H' b:=fun hn b hb=>⟨hn b hb,(f2 b hb).2⟩
 refine codeAny_forLoop_any (fun n s'=>∃ i σ' H',Inv X pins σ' H' s'/\tn i s'.heap/\(∀ b∈fp,H' b=none)/\W i n σ' H') ?_ m0 ⟨0,σ,H2,I2,st2,fun b hb=>(f2 b hb).1,w0⟩
 rintro n s3 ⟨i,σ3,H3,I3,st3,fr3,w3⟩
 rcases turn i n σ3 H3 w3 with ⟨stop,qn⟩ | ⟨go,N,hN,step⟩
 ·refine Rc hp (Aj (T.done X rfl rfl rfl hc i pins s3 σ3 H3 X.xe I3 (stat fr3) st3 stop) fun r s4 zq=>?_)
  obtain ⟨hr,I4⟩:=zq
  subst hr
  exact Sa ⟨σ3,H3,I4,qn⟩
 ·refine Rc hp (Aj (T.item X rfl rfl rfl hc i pins s3 σ3 H3 X.xe I3 (stat fr3) st3 go) fun r s4 zq=>?_)
  obtain ⟨u,hr,h4⟩:=zq
  subst hr
  refine Rc hp (Aj h4 fun _ s5 zq=>?_)
  obtain ⟨x,H5,I5,r5,y5,st5,fr5⟩:=zq
  have I5':=I5.pinned (stat fr5) (T.obj _ _ st5)
  refine Rc hp (Aj (hg _ s5 σ3 H5 x u _ I5' r5 (step x H5 y5)) fun _ s6 zq=>?_)
  obtain ⟨σ6,H6,I6,q6⟩:=zq
  refine Rc hp (Aj (hb _ s6 σ6 H6 _ I6 q6) fun f s7 q7=>?_)
  have again:∀{σ7:St}{H7:Hp},Inv X (pins++Jo fp s5.heap) σ7 H7 s7->N σ7 H7->∃ m,m < n/\∃ i σ' H',Inv X pins σ' H' s7/\tn i s7.heap/\(∀ b∈fp,H' b=none)/\W i m σ' H':=fun {σ7 H7} I7 n7=>by
   obtain ⟨m',hm,w7⟩:=hN σ7 H7 n7
   refine ⟨m',hm,i+1,σ7,H7,I7.unpinned,T.keep _ _ _ st5 fun b hb o e=>(I7.pin (b,o) (Rb _ (Rb _ (Ke hb e)))).1,fun b hb=>?_,w7⟩
   obtain ⟨o,e,d⟩:=T.obj _ _ st5 b hb
   exact (I7.pin (b,o) (Rb _ (Rb _ (Ke hb e)))).2.1
  cases f with
  | next=>obtain ⟨σ7,H7,I7,n7⟩:=q7;exact again I7 n7
  | cont=>obtain ⟨σ7,H7,I7,n7⟩:=q7;exact again I7 n7
  | brk=>obtain ⟨σ7,H7,I7,q7⟩:=q7;exact ⟨σ7,H7,I7.unpinned,q7⟩
  | ret v=>obtain ⟨x7,σ7,H7,I7,r7,q7⟩:=q7;exact ⟨x7,σ7,H7,I7.unpinned,r7,q7⟩
end
theorem M8 {K:Pk}{a:Addr}{xs:List V}{g:TG}{tb:TS}{D:Ends}{σ:St}{H:Hp}(Pv:Nat->St->Hp->Prop)(h0:Pv 0 σ H)(hl:∀ i σ H,i<=xs.length->Pv i σ H->SqL K H a xs)
  (hs:∀ i x σ H,xs[i]?=some x->Pv i σ H->g x σ H fun σ2 H2=>tb { D with nx:=Pv (i+1),ct:=Pv (i+1),bk:=D.nx } σ2 H2) (hd:∀ σ H,Pv xs.length σ H->D.nx σ H) :
  ∃ W:Nat->Nat->St->Hp->Prop,(∃ m,W 0 m σ H)/\∀ i m σ H,W i m σ H ->
   ((Ha K a).stop i H/\D.nx σ H)\/((Ha K a).go i H/\∃ N:St->Hp->Prop,(∀ σ' H',N σ' H'->∃ m',m' < m/\W (i+1) m' σ' H')/\∀ x H',(Ha K a).yld i H x H'->g x σ H' fun σ2 H2=>tb { D with nx:=N,ct:=N,bk:=D.nx } σ2 H2):=by
 refine ⟨fun i m σ H=>m=xs.length - i/\i<=xs.length/\Pv i σ H,⟨xs.length,by simp,Qd _,h0⟩,?_⟩
 rintro i m σ H ⟨rfl,hi,p⟩
 have q:=hl i σ H hi p
 by_cases hlt:i < xs.length
 ·refine .inr ⟨⟨xs,xs[i],q,by simp [hlt]⟩,Pv (i+1),fun σ' H' p'=>⟨xs.length - (i+1),by omega,rfl,hlt,p'⟩,fun x H' y=>?_⟩
  obtain ⟨e,y⟩:=y
  subst e
  exact hs i x σ _ (y xs q) p
 ·have e:i=xs.length:=by omega
  subst e
  exact .inl ⟨⟨xs,q,Po _⟩,hd σ H p⟩
theorem Op {K:Pk}{a:Addr}{xs:List V}{g:TG}{tb:TS}{D:Ends}{σ:St}{H:Hp}(Pv:Nat->St->Hp->Prop)(h0:Pv 0 σ H)(hl:∀ i σ H,i<=xs.length->Pv i σ H->SqT K H a xs)
  (hs:∀ i x σ H,xs[i]?=some x->Pv i σ H->g x σ H fun σ2 H2=>tb { D with nx:=Pv (i+1),ct:=Pv (i+1),bk:=D.nx } σ2 H2) (hd:∀ σ H,Pv xs.length σ H->D.nx σ H) :
  ∃ W:Nat->Nat->St->Hp->Prop,(∃ m,W 0 m σ H)/\∀ i m σ H,W i m σ H ->
   ((Hc K a).stop i H/\D.nx σ H)\/((Hc K a).go i H/\∃ N:St->Hp->Prop,(∀ σ' H',N σ' H'->∃ m',m' < m/\W (i+1) m' σ' H')/\∀ x H',(Hc K a).yld i H x H'->g x σ H' fun σ2 H2=>tb { D with nx:=N,ct:=N,bk:=D.nx } σ2 H2):=by
 refine ⟨fun i m σ H=>m=xs.length - i/\i<=xs.length/\Pv i σ H,⟨xs.length,by simp,Qd _,h0⟩,?_⟩
 rintro i m σ H ⟨rfl,hi,p⟩
 have q:=hl i σ H hi p
 by_cases hlt:i < xs.length
 ·refine .inr ⟨⟨xs,xs[i],q,by simp [hlt]⟩,Pv (i+1),fun σ' H' p'=>⟨xs.length - (i+1),by omega,rfl,hlt,p'⟩,fun x H' y=>?_⟩
  obtain ⟨e,y⟩:=y
  subst e
  exact hs i x σ _ (y xs q) p
 ·have e:i=xs.length:=by omega
  subst e
  exact .inl ⟨⟨xs,q,Po _⟩,hd σ H p⟩
theorem K8 {lo:Int}{n:Nat}{g:TG}{tb:TS}{D:Ends}{σ:St}{H:Hp}(Pv:Nat->St->Hp->Prop)(h0:Pv 0 σ H)
  (hs:∀ i σ H,i < n->Pv i σ H->g (.int (lo+i)) σ H fun σ2 H2=>tb { D with nx:=Pv (i+1),ct:=Pv (i+1),bk:=D.nx } σ2 H2) (hd:∀ σ H,Pv n σ H->D.nx σ H) :
  ∃ W:Nat->Nat->St->Hp->Prop,(∃ m,W 0 m σ H)/\∀ i m σ H,W i m σ H ->
   ((Gv lo n).stop i H/\D.nx σ H)\/((Gv lo n).go i H/\∃ N:St->Hp->Prop,(∀ σ' H',N σ' H'->∃ m',m' < m/\W (i+1) m' σ' H')/\∀ x H',(Gv lo n).yld i H x H'->g x σ H' fun σ2 H2=>tb { D with nx:=N,ct:=N,bk:=D.nx } σ2 H2):=by
 refine ⟨fun i m σ H=>m=n - i/\i<=n/\Pv i σ H,⟨n,by simp,Qd _,h0⟩,?_⟩
 rintro i m σ H ⟨rfl,hi,p⟩
 by_cases hlt:i < n
 ·refine .inr ⟨hlt,Pv (i+1),fun σ' H' p'=>⟨n - (i+1),by omega,rfl,hlt,p'⟩,fun x H' y=>?_⟩
  obtain ⟨e,y⟩:=y
  subst e y
  exact hs i σ _ hlt p
 ·have e:i=n:=by omega
  subst e
  exact .inl ⟨Po _,hd σ H p⟩
noncomputable abbrev R2:=V->V->Hp->VK->Prop
noncomputable def OpR (X:Cx)(f:Value->Value->Sem Value)(r:R2):Prop :=
 ∀(pins:List (Addr×Obj))(s:Shared)(σ:St)(H:Hp)(x y:V)(v u:Value)(Q:VK),Inv X pins σ H s->RelV x v->RelV y u->r x y H Q ->
  wpAny (model X.prog X.w) X.A (f v u) (EP X pins σ Q) X.xe s
noncomputable def UnR (X:Cx)(f:Value->Sem Value)(r:V->Hp->VK->Prop):Prop :=
 ∀(pins:List (Addr×Obj))(s:Shared)(σ:St)(H:Hp)(x:V)(v:Value)(Q:VK),Inv X pins σ H s->RelV x v->r x H Q ->
  wpAny (model X.prog X.w) X.A (f v) (EP X pins σ Q) X.xe s
noncomputable def Cd (X:Cx)(f:Value)(r:List V->Hp->VK->Prop):Prop :=
 ∀(pins:List (Addr×Obj))(s:Shared)(σ:St)(H:Hp)(xs:List V)(us:List Value)(Q:VK),Inv X pins σ H s->Vals xs us->r xs H Q ->
  wpAny (model X.prog X.w) X.A (call f us) (EP X pins σ Q) X.xe s
noncomputable def TruR (X:Cx)(r:V->Hp->(Bool->Hp->Prop)->Prop):Prop :=
 ∀(pins:List (Addr×Obj))(s:Shared)(σ:St)(H:Hp)(x:V)(v:Value)(Q:Bool->Hp->Prop),Inv X pins σ H s->RelV x v->r x H Q ->
  wpAny (model X.prog X.w) X.A (truthy v) (TP X pins σ Q) X.xe s
noncomputable def Fe (r:R2)(ta tb:TE):TE:=fun σ H Q=>ta σ H fun x H1=>tb σ H1 fun y H2=>r x y H2 Q
noncomputable def tUn (r:V->Hp->VK->Prop)(ta:TE):TE:=fun σ H Q=>ta σ H fun x H1=>r x H1 Q
noncomputable def rI (C:Int->Int->Prop)(g:Int->Int->V):R2:=fun x y H Q=>∃ i j,x=.int i/\y=.int j/\C i j/\Q (g i j) H
noncomputable def Er (g:Int->Int->V):R2:=fun x y H Q=>∃ i j,x=.int i/\y=.int j/\Q (g i j) H
noncomputable def rU (g:Int->V):V->Hp->VK->Prop:=fun x H Q=>∃ i,x=.int i/\Q (g i) H
section
variable {X:Cx}{a b c:Expr}{ta tb tc:TE}{pos:Pos}
theorem Zcc (ha:PE X a ta)(hb:PE X b tb){pins:List (Addr×Obj)}{s:Shared}{σ:St}{H:Hp}{R:V->V->Hp->Prop}(I:Inv X pins σ H s)
  (h:ta σ H fun x H1=>tb σ H1 fun y H2=>R x y H2) {Q:Value->Shared->Prop} {f:Value->Value->Sem Value}
  (hf:∀ v u s2 x y H2,Inv X pins σ H2 s2->RelV x v->RelV y u->R x y H2->wpAny (model X.prog X.w) X.A (f v u) Q X.xe s2) :
  wpAny (model X.prog X.w) X.A (eval a X.env) (fun v s₁=>wpAny (model X.prog X.w) X.A (eval b X.env) (fun u s₂=>wpAny (model X.prog X.w) X.A (f v u) Q X.xe s₂) X.xe s₁) X.xe s:=by
 refine Aj (ha pins s σ H _ I h) fun v s1 zq=>?_
 obtain ⟨x,H1,I1,r1,q1⟩:=zq
 refine Aj (hb pins s1 σ H1 _ I1 q1) fun u s2 zq=>?_
 obtain ⟨y,H2,I2,r2,q2⟩:=zq
 exact hf v u s2 x y H2 I2 r1 r2 q2
theorem Zst {op:Operator}{r:R2}(ho:OpR X (binaryOp op) r)(ha:PE X a ta)(hb:PE X b tb):PE X (.BinOp a op b pos) (Fe r ta tb):=by
 intro pins s σ H Q I h
 exact wpAny_BinOp (Zcc ha hb I h fun v u s2 x y H2 I2 rx ry q=>ho pins s2 σ H2 x y v u Q I2 rx ry q)
theorem Zp5 {op:UnaryOp}{r:V->Hp->VK->Prop}(ho:UnR X (unaryOp op) r)(ha:PE X a ta):PE X (.UnaryOp op a pos) (tUn r ta):=by
 intro pins s σ H Q I h
 exact UnaryOp_ (Aj (ha pins s σ H _ I h) fun v s1 ⟨x,H1,I1,r1,q1⟩=>ho pins s1 σ H1 x v Q I1 r1 q1)
theorem opI {f:Value->Value->Sem Value}{C:Int->Int->Prop}{g:Int->Int->Int}
  (rule:∀(i j:Int)(t u:Tok)(s:Shared)(Q:Value->Shared->Prop)(E:Value->Shared->Prop),C i j->Q (.int (g i j) s.toks) { s with toks:=s.toks+1 }->wpAny (model X.prog X.w) X.A (f (.int i t) (.int j u)) Q E s) :
  OpR X f (rI C fun i j=>.int (g i j)):=by
 intro pins s σ H x y v u Q I rx ry h
 obtain ⟨i,j,rfl,rfl,hc,q⟩:=h
 obtain ⟨t,rfl⟩:=rx
 obtain ⟨t',rfl⟩:=ry
 exact rule i j t t' s _ _ hc ⟨.int (g i j),H,I.tok _,⟨_,rfl⟩,q⟩
theorem opI0 {f:Value->Value->Sem Value}{g:Int->Int->Int}
  (rule:∀(i j:Int)(t u:Tok)(s:Shared)(Q:Value->Shared->Prop)(E:Value->Shared->Prop),Q (.int (g i j) s.toks) { s with toks:=s.toks+1 }->wpAny (model X.prog X.w) X.A (f (.int i t) (.int j u)) Q E s) :
  OpR X f (Er fun i j=>.int (g i j)):=by
 intro pins s σ H x y v u Q I rx ry h
 obtain ⟨i,j,rfl,rfl,q⟩:=h
 obtain ⟨t,rfl⟩:=rx
 obtain ⟨t',rfl⟩:=ry
 exact rule i j t t' s _ _ ⟨.int (g i j),H,I.tok _,⟨_,rfl⟩,q⟩
theorem Oj {f:Value->Value->Sem Value}{g:Int->Int->Bool}
  (rule:∀(i j:Int)(t u:Tok)(s:Shared)(Q:Value->Shared->Prop)(E:Value->Shared->Prop),Q (.bool (g i j)) s->wpAny (model X.prog X.w) X.A (f (.int i t) (.int j u)) Q E s) :
  OpR X f (Er fun i j=>.bl (g i j)):=by
 intro pins s σ H x y v u Q I rx ry h
 obtain ⟨i,j,rfl,rfl,q⟩:=h
 obtain ⟨t,rfl⟩:=rx
 obtain ⟨t',rfl⟩:=ry
 exact rule i j t t' s _ _ ⟨.bl (g i j),H,I,rfl,q⟩
noncomputable def CDiv (i j:Int):Prop:=0 < j/\j < 1073741824
noncomputable def CPow (i j:Int):Prop:=0<=j/\j<=1000000/\i.natAbs < 2 ^ 64
noncomputable def CMul (i j:Int):Prop:=(-(2 ^ 64) < i/\i < 2 ^ 64)\/(-(2 ^ 64) < j/\j < 2 ^ 64)
theorem CMul.ok {i j:Int}(h:CMul i j):IntMulOk i j:=by
 rcases h with ⟨h1,h2⟩ | ⟨h1,h2⟩
 ·exact .of_left (intBits_le_64 h1 h2)
 ·exact .of_right (intBits_le_64 h1 h2)
theorem op_add:OpR X (binaryOp .Add) (Er fun i j=>.int (i+j)):=opI0 fun _ _ _ _ _ _ _ q=>add_int q
theorem Zbs:OpR X (binaryOp .Sub) (Er fun i j=>.int (i - j)):=opI0 fun _ _ _ _ _ _ _ q=>sub_int q
theorem op_mul:OpR X (binaryOp .Mult) (rI CMul fun i j=>.int (i * j)):=opI fun _ _ _ _ _ _ _ hc q=>mul_int q hc.ok
theorem Jc:OpR X (binaryOp .FloorDiv) (rI CDiv fun i j=>.int (i / j)):=opI fun i j _ _ _ _ _ hc q=>by
 have h1:(0:Int) < j:=hc.1
 have h2:j < 1073741824:=hc.2
 exact floordiv_int (by omega) (by rw [Int.fdiv_eq_ediv_of_nonneg i (by omega)];exact q) (.inl (PyProof.noPylong_small (by omega)))
theorem D5:OpR X (binaryOp .Mod) (rI (fun _ j=>0 < j) fun i j=>.int (i % j)):=opI fun i j _ _ _ _ _ hc q=>by
 have h1:(0:Int) < j:=hc
 exact mod_int' (by omega) (by rw [Int.fmod_eq_emod_of_nonneg i (by omega)];exact q)
theorem Zf0:OpR X (binaryOp .Pow) (rI CPow fun i j=>.int (i ^ j.toNat)):=opI fun _ _ _ _ _ _ _ hc q=>pow_int_small hc.1 hc.2.1 hc.2.2 q
theorem unI {f:Value->Sem Value}{g:Int->Int}
  (rule:∀(i:Int)(t:Tok)(s:Shared)(Q:Value->Shared->Prop)(E:Value->Shared->Prop),Q (.int (g i) s.toks) { s with toks:=s.toks+1 }->wpAny (model X.prog X.w) X.A (f (.int i t)) Q E s) :
  UnR X f (rU fun i=>.int (g i)):=by
 intro pins s σ H x v Q I rx h
 obtain ⟨i,rfl,q⟩:=h
 obtain ⟨t,rfl⟩:=rx
 exact rule i t s _ _ ⟨.int (g i),H,I.tok _,⟨_,rfl⟩,q⟩
theorem F3:UnR X (unaryOp .USub) (rU fun i=>.int (-i)):=unI fun _ _ _ _ _ q=>neg_int q
end
noncomputable def Lr:V->V->Bool
 | .non,.non=>true | .non,.int _=>true | .int _,.non=>true | .non,.bl _=>true | .bl _,.non=>true | .non,.str _=>true | .str _,.non=>true
 | .int _,.int _=>true | .bl _,.bl _=>true | .str _,.str _=>true | .byt _,.byt _=>true
 | .int _,.str _=>true | .str _,.int _=>true | .bl _,.str _=>true | .str _,.bl _=>true
 | _,_=>false
noncomputable def rEq:R2:=fun x y H Q=>Lr x y=true/\Q (.bl (decide (x=y))) H
noncomputable def rNe:R2:=fun x y H Q=>Lr x y=true/\Q (.bl (!decide (x=y))) H
theorem Zhr {i j:Int}:decide (V.int i=V.int j)=(i == j):=by
 rw [Tu]
 simp
theorem Zdp {i j:Bool}:decide (V.bl i=V.bl j)=(i == j):=by
 rw [Tu]
 simp
theorem Hj {i j:Str}:decide (V.str i=V.str j)=(i == j):=by
 rw [Tu]
 simp
theorem Zh3 {i j:Array UInt8}:decide (V.byt i=V.byt j)=(i.toList == j.toList):=by
 rw [Tu]
 cases i
 cases j
 simp
section
variable {X:Cx}{a b c:Expr}{ta tb tc:TE}{pos:Pos}
theorem Br {pins:List (Addr×Obj)}{σ:St}{H:Hp}{s:Shared}{Q:VK}{k k':Bool}(I:Inv X pins σ H s)(q:Q (.bl k) H)(e:k=k'):EP X pins σ Q (.bool k') s:=by
 subst e
 exact ⟨.bl k,H,I,rfl,q⟩
theorem op_eq:OpR X (compareOp .Eq) rEq:=by
 intro pins s σ H x y v u Q I rx ry h
 obtain ⟨hs,q⟩:=h
 cases x with
 | non =>
  cases rx
  cases y with
  | non=>cases ry;exact PySem.EqNone.eq_none_none (Br I q (by simp))
  | bl j=>cases ry;exact PySem.EqNone.eq_none_bool (Br I q (by simp))
  | int j=>obtain ⟨t',rfl⟩:=ry;exact PySem.EqNone.eq_none_int (Br I q (by simp))
  | str j=>obtain ⟨t',rfl⟩:=ry;exact PySem.EqNone.eq_none_str (Br I q (by simp))
  | _=>exact absurd (show false=true from hs) P6
 | bl i =>
  cases rx
  cases y with
  | non=>cases ry;exact PySem.EqNone.eq_bool_none (Br I q (by simp))
  | bl j=>cases ry;exact eq_bool (Br I q Zdp)
  | str j=>obtain ⟨t',rfl⟩:=ry;exact PySem.EqMixed.eq_bool_str (Br I q (by simp))
  | _=>exact absurd (show false=true from hs) P6
 | int i =>
  obtain ⟨t,rfl⟩:=rx
  cases y with
  | non=>cases ry;exact PySem.EqNone.eq_int_none (Br I q (by simp))
  | int j=>obtain ⟨t',rfl⟩:=ry;exact eq_int (Br I q Zhr)
  | str j=>obtain ⟨t',rfl⟩:=ry;exact PySem.EqMixed.eq_int_str (Br I q (by simp))
  | _=>exact absurd (show false=true from hs) P6
 | str i =>
  obtain ⟨t,rfl⟩:=rx
  cases y with
  | non=>cases ry;exact PySem.EqNone.eq_str_none (Br I q (by simp))
  | bl j=>cases ry;exact PySem.EqMixed.eq_str_bool (Br I q (by simp))
  | int j=>obtain ⟨t',rfl⟩:=ry;exact PySem.EqMixed.eq_str_int (Br I q (by simp))
  | str j=>obtain ⟨t',rfl⟩:=ry;exact eq_str (Br I q Hj)
  | _=>exact absurd (show false=true from hs) P6
 | byt i =>
  obtain ⟨t,rfl⟩:=rx
  cases y with
  | byt j=>obtain ⟨t',rfl⟩:=ry;exact PySem.W.eq_bytes (Br I q Zh3)
  | _=>exact absurd (show false=true from hs) P6
 | _=>cases y <;> exact absurd (show false=true from hs) P6
theorem op_ne:OpR X (compareOp .NotEq) rNe:=by
 intro pins s σ H x y v u Q I rx ry h
 obtain ⟨hs,q⟩:=h
 cases x with
 | non =>
  cases rx
  cases y with
  | non=>cases ry;exact PySem.EqNone.ne_none_none (Br I q (by simp))
  | bl j=>cases ry;exact PySem.EqNone.ne_none_bool (Br I q (by simp))
  | int j=>obtain ⟨t',rfl⟩:=ry;exact PySem.EqNone.ne_none_int (Br I q (by simp))
  | str j=>obtain ⟨t',rfl⟩:=ry;exact PySem.EqNone.ne_none_str (Br I q (by simp))
  | _=>exact absurd (show false=true from hs) P6
 | bl i =>
  cases rx
  cases y with
  | non=>cases ry;exact PySem.EqNone.ne_bool_none (Br I q (by simp))
  | bl j=>cases ry;exact ne_bool (Br I q (congrArg not Zdp))
  | str j=>obtain ⟨t',rfl⟩:=ry;exact PySem.EqMixed.ne_bool_str (Br I q (by simp))
  | _=>exact absurd (show false=true from hs) P6
 | int i =>
  obtain ⟨t,rfl⟩:=rx
  cases y with
  | non=>cases ry;exact PySem.EqNone.ne_int_none (Br I q (by simp))
  | int j=>obtain ⟨t',rfl⟩:=ry;exact ne_int (Br I q (congrArg not Zhr))
  | str j=>obtain ⟨t',rfl⟩:=ry;exact PySem.EqMixed.ne_int_str (Br I q (by simp))
  | _=>exact absurd (show false=true from hs) P6
 | str i =>
  obtain ⟨t,rfl⟩:=rx
  cases y with
  | non=>cases ry;exact PySem.EqNone.ne_str_none (Br I q (by simp))
  | bl j=>cases ry;exact PySem.EqMixed.ne_str_bool (Br I q (by simp))
  | int j=>obtain ⟨t',rfl⟩:=ry;exact PySem.EqMixed.ne_str_int (Br I q (by simp))
  | str j=>obtain ⟨t',rfl⟩:=ry;exact ne_str (Br I q (congrArg not Hj))
  | _=>exact absurd (show false=true from hs) P6
 | byt i =>
  obtain ⟨t,rfl⟩:=rx
  cases y with
  | byt j=>obtain ⟨t',rfl⟩:=ry;exact PySem.W.ne_bytes (Br I q (congrArg not Zh3))
  | _=>exact absurd (show false=true from hs) P6
 | _=>cases y <;> exact absurd (show false=true from hs) P6
theorem op_lt:OpR X (compareOp .Lt) (Er fun i j=>.bl (decide (i < j))):=Oj fun _ _ _ _ _ _ _ q=>lt_int q
theorem op_le:OpR X (compareOp .LtE) (Er fun i j=>.bl (decide (i<=j))):=Oj fun _ _ _ _ _ _ _ q=>le_int q
theorem Nk:OpR X (compareOp .Gt) (Er fun i j=>.bl (decide (j < i))):=Oj fun _ _ _ _ _ _ _ q=>gt_int q
theorem Zpo:OpR X (compareOp .Lt) (fun x y H Q=>∃ i j,x=.str i/\y=.str j/\Q (.bl (decide (i.cps.toList < j.cps.toList))) H):=by
 intro pins s σ H x y v u Q I rx ry h
 obtain ⟨i,j,rfl,rfl,q⟩:=h
 obtain ⟨t,rfl⟩:=rx
 obtain ⟨t',rfl⟩:=ry
 exact lt_str (Br I q rfl)
theorem Zl8:OpR X (compareOp .In) (fun x y H Q=>∃ i j,x=.str i/\y=.str j/\Q (.bl (!(Builtin.Str.occurrences j i 0 j.length 1).isEmpty)) H):=by
 intro pins s σ H x y v u Q I rx ry h
 obtain ⟨i,j,rfl,rfl,q⟩:=h
 obtain ⟨t,rfl⟩:=rx
 obtain ⟨t',rfl⟩:=ry
 exact in_str (Br I q rfl)
theorem OpR.or {f:Value->Value->Sem Value}{r r':R2}(h:OpR X f r)(h':OpR X f r'):OpR X f (fun x y H Q=>r x y H Q\/r' x y H Q):=by
 intro pins s σ H x y v u Q I rx ry q
 rcases q with q | q
 ·exact h pins s σ H x y v u Q I rx ry q
 ·exact h' pins s σ H x y v u Q I rx ry q
theorem A1 (b:Expr){op:CmpOp}(h:op≠.In:=by decide)(h2:op≠.NotIn:=by decide):behindInMarks op b=false:=by
 have e1:(op == CmpOp.In)=false:=by cases op <;> first | rfl | exact absurd rfl h
 have e2:(op == CmpOp.NotIn)=false:=by cases op <;> first | rfl | exact absurd rfl h2
 cases b <;> simp [behindInMarks,e1,e2]
theorem Zms {op:CmpOp}{r:R2}(ho:OpR X (compareOp op) r)(ha:PE X a ta)(hb:PE X b tb)(hm:behindInMarks op b=false):PE X (.Compare a [op] [b] pos) (Fe r ta tb):=by
 intro pins s σ H Q I h
 exact wpAny_Compare1 (Zcc ha hb I h fun v u s2 x y H2 I2 rx ry q=>ho pins s2 σ H2 x y v u Q I2 rx ry q) hm
noncomputable def Zbx (t:TE):TT:=fun σ H Q=>t σ H fun x H'=>∃ k,x=.bl k/\Q k H'
theorem Zke {op:CmpOp}{r:R2}(ho:OpR X (compareOp op) r)(ha:PE X a ta)(hb:PE X b tb)(hm:behindInMarks op b=false):PT X (.Compare a [op] [b] pos) (Zbx (Fe r ta tb)):=by
 intro pins s σ H Q I h
 refine wpAny_isTrue_Compare1 (Aj (ha pins s σ H _ I h) fun v s1 ⟨x,H1,I1,r1,q1⟩=>Aj (hb pins s1 σ H1 _ I1 q1) fun u s2 ⟨y,H2,I2,r2,q2⟩ =>
  Aj (ho pins s2 σ H2 x y v u _ I2 r1 r2 q2) fun c s3 ⟨z,H3,I3,r3,k,e,q3⟩=>?_) hm
 subst e
 cases r3
 exact Sq ⟨H3,I3,q3⟩
noncomputable def Zbc (r r':R2)(ta tb tc:TE):TE:=fun σ H Q=>ta σ H fun x H1=>tb σ H1 fun y H2=>r x y H2 fun z H3=>∃ k,z=.bl k /\
 (if k=true then tc σ H3 fun w' H4=>r' y w' H4 Q else Q (.bl false) H3)
theorem Zsy {op op':CmpOp}{r r':R2}(ho:OpR X (compareOp op) r)(ho':OpR X (compareOp op') r')(ha:PE X a ta)(hb:PE X b tb)(hc:PE X c tc)
  (hm:lastMarks [op,op'] [b,c]=false:=by with_unfolding_all rfl):PE X (.Compare a [op,op'] [b,c] pos) (Zbc r r' ta tb tc):=by
 intro pins s σ H Q I h
 refine Compare_chain (Aj (ha pins s σ H _ I h) fun v s1 ⟨x,H1,I1,r1,q1⟩=>chain_link (Aj (hb pins s1 σ H1 _ I1 q1) fun u s2 ⟨y,H2,I2,r2,q2⟩ =>
  Aj (ho pins s2 σ H2 x y v u _ I2 r1 r2 q2) fun d s3 ⟨z,H3,I3,r3,k,e,q3⟩=>?_)) hm
 subst e
 cases r3
 refine Sq ?_
 cases k with
 | false=>exact ite_ff ⟨.bl false,H3,I3,rfl,q3⟩
 | true=>exact ite_tt (chain_last (Aj (hc pins s3 σ H3 _ I3 q3) fun w' s4 ⟨z',H4,I4,r4,q4⟩=>ho' pins s4 σ H4 y z' u w' Q I4 r2 r4 q4))
noncomputable def Kg (K:Pk)(x:V)(H:Hp)(k:Bool):Prop :=
 match x with
 | .non=>k=false
 | .bl b=>k=b
 | .int i=>k=(i != 0)
 | .str y=>y.length<=sizeLine/\k=((y.length:Int) != 0)
 | .byt y=>y.size<=sizeLine/\k=((y.size:Int) != 0)
 | .ref p=>(∃ xs,SqL K H p xs/\k=!xs.isEmpty)\/(∃ xs,SqT K H p xs/\k=!xs.isEmpty)\/∃ kvs,H p=some (.dK kvs)/\k=!kvs.isEmpty
 | _=>False
theorem Zlr {κ:Type}{kvs:List (κ×V)}{vs:List (κ×Value)}(r:KV kvs vs):(!vs.isEmpty)=!kvs.isEmpty:=by
 cases r <;> rfl
theorem Zhy {xs:List V}{its:List Value}(r:Vals xs its):(!its.toArray.isEmpty)=!xs.isEmpty:=by
 cases r <;> simp
theorem Iu:(sizeLine:Nat) < 2 ^ 63:=by rw [sizeLine_eq];decide
theorem Zky:TruR X (fun x H Q=>∃ k,Kg X.K x H k/\Q k H):=by
 intro pins s σ H x v Q I rx h
 obtain ⟨k,e,q⟩:=h
 have hl:=Iu
 have hs:sizeLine=16777216:=sizeLine_eq
 cases x with
 | non =>
  cases rx
  have e':k=false:=e
  subst e'
  exact truthy_none ⟨H,I,q⟩
 | bl b =>
  cases rx
  have e':k=b:=e
  subst e'
  exact Sq ⟨H,I,q⟩
 | int i =>
  obtain ⟨t,rfl⟩:=rx
  have e':k=(i != 0):=e
  subst e'
  exact PySem.P.truthy_int ⟨H,I,q⟩
 | str y =>
  obtain ⟨t,rfl⟩:=rx
  obtain ⟨hy,e'⟩:y.length<=sizeLine/\k=((y.length:Int) != 0):=e
  subst e'
  exact PySem.P.truthy_str (by omega) ⟨H,I.tok _,q⟩
 | byt y =>
  obtain ⟨t,rfl⟩:=rx
  obtain ⟨hy,e'⟩:y.size<=sizeLine/\k=((y.size:Int) != 0):=e
  subst e'
  exact PySem.W.truthy_bytes (by omega) ⟨H,I.tok _,q⟩
 | ref p =>
  cases rx
  have e':(∃ xs,SqL X.K H p xs/\k=!xs.isEmpty)\/(∃ xs,SqT X.K H p xs/\k=!xs.isEmpty)\/∃ kvs,H p=some (.dK kvs)/\k=!kvs.isEmpty:=e
  rcases e' with ⟨xs,hx,e'⟩ | ⟨xs,hx,e'⟩ | ⟨kvs,hx,e'⟩
  ·subst e'
   obtain ⟨its,r,pl,hz⟩:=I.list hx
   have hlen:=r.length
   exact wpAny_truthy_list pl.isList (by simp only [Pq];omega) ⟨H,I.tok _,by rw [Zhy r];exact q⟩
  ·subst e'
   obtain ⟨its,r,pl,hz⟩:=I.tuple hx
   have hlen:=r.length
   exact truthy_tuple pl (by simp only [Pq];omega) ⟨H,I.tok _,by rw [Zhy r];exact q⟩
  ·subst e'
   obtain ⟨hz,hS,vs,r,m⟩:kvs.length<=sizeLine/\(p == sysModules)=false/\∃ vs,KV kvs vs/\s.heap.DictOf (Cn X.prog X.w) p vs:=I.hok p _ hx
   have hlen:kvs.length=vs.length:=Uo r
   exact wpAny_truthy_dict hS m (by omega) ⟨H,I.tok _,by rw [Zlr r];exact q⟩
 | _=>exact (show False from e).elim
theorem Zjf (ha:PE X a ta)(he:∀ whole,isTrue a X.env whole=(do let v <- whole;standAt a.pos;holding [v] (truthy v))) :
  PT X a (fun σ H Q=>ta σ H fun x H'=>∃ k,Kg X.K x H' k/\Q k H'):=by
 intro pins s σ H Q I h
 exact isTrue_plain (Aj (ha pins s σ H _ I h) fun v s1 ⟨x,H1,I1,r1,q1⟩=>Zky pins s1 σ H1 x v Q I1 r1 q1) (he _)
theorem op_add_str:OpR X (binaryOp .Add) (fun x y H Q=>∃ i j,x=.str i/\y=.str j/\i.length+j.length<=sizeLine/\Q (.str (i++j)) H):=by
 intro pins s σ H x y v u Q I rx ry h
 obtain ⟨i,j,rfl,rfl,hz,q⟩:=h
 obtain ⟨t,rfl⟩:=rx
 obtain ⟨t',rfl⟩:=ry
 exact add_str (fun t' tk=>⟨.str (i++j),H,I.tok _,⟨_,rfl⟩,q⟩) hz
theorem Jg {x:V}{us:List Value}(r:Vals [x] us):∃ u,us=[u]/\RelV x u:=by
 cases r with
 | cons r1 r2=>cases r2;exact ⟨_,rfl,r1⟩
theorem Zo4:Cd X (.type "int") (fun xs H Q=>(∃ i,xs=[.int i]/\Q (.int i) H)\/∃ k,xs=[.bl k]/\Q (.int (if k then 1 else 0)) H):=by
 intro pins s σ H xs us Q I r h
 rcases h with ⟨i,rfl,q⟩ | ⟨k,rfl,q⟩
 ·obtain ⟨u,rfl,t,rfl⟩:=Jg r
  exact call_int_int ⟨.int i,H,I,⟨_,rfl⟩,q⟩
 ·obtain ⟨u,rfl,r1⟩:=Jg r
  cases r1
  exact call_int_bool ⟨.int (if k then 1 else 0),H,I.tok _,⟨_,rfl⟩,q⟩
noncomputable def LenV (K:Pk)(x:V)(H:Hp)(n:Nat):Prop :=
 match x with
 | .str y=>y.length<=sizeLine/\n=y.length
 | .byt y=>y.size<=sizeLine/\n=y.size
 | .ref p=>(∃ xs,SqL K H p xs/\n=xs.length)\/∃ xs,SqT K H p xs/\n=xs.length
 | _=>False
theorem Zjb:Cd X (.builtin "len") (fun xs H Q=>∃ x n,xs=[x]/\LenV X.K x H n/\Q (.int n) H):=by
 intro pins s σ H xs us Q I r h
 obtain ⟨x,n,rfl,e,q⟩:=h
 obtain ⟨u,rfl,rx⟩:=Jg r
 have hl:=Iu
 have hs:sizeLine=16777216:=sizeLine_eq
 cases x with
 | str y =>
  obtain ⟨t,rfl⟩:=rx
  obtain ⟨hy,e'⟩:y.length<=sizeLine/\n=y.length:=e
  subst e'
  exact len_str (by omega) ⟨.int _,H,I.tok _,⟨_,rfl⟩,q⟩
 | byt y =>
  obtain ⟨t,rfl⟩:=rx
  obtain ⟨hy,e'⟩:y.size<=sizeLine/\n=y.size:=e
  subst e'
  exact PySem.W.len_bytes (by omega) ⟨.int _,H,I.tok _,⟨_,rfl⟩,q⟩
 | ref p =>
  cases rx
  have e':(∃ xs,SqL X.K H p xs/\n=xs.length)\/∃ xs,SqT X.K H p xs/\n=xs.length:=e
  rcases e' with ⟨xs,hx,e'⟩ | ⟨xs,hx,e'⟩
  ·subst e'
   obtain ⟨its,r',pl,hz⟩:=I.list hx
   have hlen:=r'.length
   exact Calls.call_len_list pl.isList (by simp only [Pq];omega) ⟨.int xs.length,H,I.tok _,⟨_,by simp only [Pq];rw [hlen]⟩,q⟩
  ·subst e'
   obtain ⟨its,r',pl,hz⟩:=I.tuple hx
   have hlen:=r'.length
   exact len_tuple pl (by simp only [Pq];omega) ⟨.int xs.length,H,I.tok _,⟨_,by simp only [Pq];rw [hlen]⟩,q⟩
 | _=>exact (show False from e).elim
end
structure ObjM (h:Heap)(x dx C:Addr)(mA:Str->Option Value):Prop where
 obj:h.get? x=some (W3 C dx)
 ns:h.Ns1 dx mA
 ne:dx≠x
theorem Zb4 {h:Heap}{dx:Addr}{mA:Str->Option Value}(n:h.Ns1 dx mA):∃ od,h.get? dx=some od/\∀ name,PySem.W.lookIn name od=some (mA name):=by
 obtain ⟨o,es,ep,ho,hd,hk,_,hm⟩:=n
 refine ⟨o,ho,fun name=>?_⟩
 have e:=hm name
 unfold nsFind findBy at e
 rw [<- Array.find?_toList] at e
 unfold PySem.W.lookIn
 rw [hd]
 dsimp only
 split
 ·rename_i y q
  rw [q] at e
  exact congrArg some e
 ·rename_i q
  rw [q] at e
  have a:es.toList.any (·.refKey)=false:=by
   rw [List.any_eq_false]
   intro y hy
   obtain ⟨z,t,hkey⟩:=hk y (Array.mem_toList_iff.mp hy)
   simp [DictEntry.refKey,hkey]
  have a':¬ es.toList.any (·.refKey)=true:=by rw [a];exact P6
  rw [if_neg a']
  exact congrArg some e
theorem ObjM.look {h:Heap}{x dx C:Addr}{mA:Str->Option Value}(I:ObjM h x dx C mA):∃ od,Sb h x (W3 C dx) C (some od)/\∀ name,PySem.W.lookIn name od=some (mA name) :=
 let ⟨od,ho,hl⟩:=Zb4 I.ns
 ⟨od,⟨I.obj,rfl,rfl,ho⟩,hl⟩
section
variable {prog:Program}{w:World}{A:Around}{E:Value->Shared->Prop}{s:Shared}{K:Pk}{x dx C f:Addr}{mA:Str->Option Value}{name:Str}{v:Value}
end
theorem RelO.some_of {v:V}{o:Option Value}(r:RelO (some v) o):∃ u,o=some u/\RelV v u:=by
 cases o with
 | none=>exact (show False from r).elim
 | some u=>exact ⟨u,rfl,r⟩
theorem Ztr {v:V}{u:Value}(r:RelV v u):PySem.W.handedIn u=true:=by
 cases v with
 | non=>cases (show u=Value.none from r);rfl
 | bl b=>cases (show u=Value.bool b from r);rfl
 | int i=>obtain ⟨t,e⟩:=(show ∃ t,u=Value.int i t from r);cases e;rfl
 | str x=>obtain ⟨t,e⟩:=(show ∃ t,u=Value.str x t from r);cases e;rfl
 | byt b=>obtain ⟨t,e⟩:=(show ∃ t,u=Value.bytes b t from r);cases e;rfl
 | flt b=>obtain ⟨t,e⟩:=(show ∃ t,u=Value.float b t from r);cases e;rfl
 | ref a=>cases (show u=Value.ref a from r);rfl
 | ty n=>cases (show u=Value.type n from r);rfl
section
variable {P:Program}{w:World}{H H':Hp}{h h':Heap}{a C dx:Addr}{fs fs':List (Str×V)}
theorem Zp1 (hok:HOk P w H h)(e:H a=some (.ins C dx fs)):∃ mA,ObjM h a dx C mA/\(∀ f,RelO (fs.lookup f) (mA f))/\PySem.Within mA (fs.map (·.1))/\fs.length<=1000/\H dx=some (.own a):=by
 obtain ⟨d,z,ne,ob,mA,n,r,q⟩:=(show ObjOk P w H h a (.ins C dx fs) from hok a _ e)
 exact ⟨mA,⟨ob,n,ne⟩,r,q,z,d⟩
end
structure Cls (K:Pk)(C:Addr):Prop where
 pg:PySem.W.plainGet K C Str.empty=true
 hd:Vj K C=true
 po:PySem.W.plainOver K C=true
 sa:Qk K (.ref C) "__setattr__" = some (some (.builtin "object.__setattr__"))
theorem Cls.get {K:Pk}{C:Addr}(c:Cls K C)(f:Str):PySem.W.plainGet K C f=true:=c.pg
noncomputable def NoAttr (K:Pk)(C:Addr)(f:Str):Prop:=Qk K (.ref C) f=some none
theorem NoAttr.taker {K:Pk}{C:Addr}{f:Str}(n:NoAttr K C f):PySem.W.takerIn K C f=some none:=by
 unfold PySem.W.takerIn
 rw [show Qk K (.ref C) f=some none from n]
 rfl
section
variable {X:Cx}{pins:List (Addr×Obj)}{σ:St}{H:Hp}{s:Shared}{a C dx:Addr}{fs:List (Str×V)}{f:Str}{v:V}{A:Around}{E:Value->Shared->Prop}
theorem Zkv {prog:Program}{w:World}{env:Env}{e:Expr}{f:Str}{pos:Pos}{s:Shared}{Q:Value->Shared->Prop}(hb:attributeBase e f env (eval e env)=eval e env)
  (h:wpAny (model prog w) A (eval e env) (fun o s₁=>wpAny (model prog w) A (getAttr o f true) Q E s₁) E s):wpAny (model prog w) A (eval (.Attribute e f pos) env) Q E s :=
 Attribute_any_ h (by rw [arm_eval_Attribute,hb])
end
section
variable {X:Cx}{o e value:Expr}{f:Str}{pos pos' tpos:Pos}{ta tv:TE}
end
section
variable {X:Cx}{pins:List (Addr×Obj)}{σ:St}{H:Hp}{s:Shared}{A:Around}{E:Value->Shared->Prop}{Q:Value->Shared->Prop}{c:Value}{b:Bool}
inductive Dl (K:Pk)(H:Hp):V->Value->Prop where
 | non:Dl K H .non (.type "NoneType")
 | bl (x:Bool):Dl K H (.bl x) (.type "bool")
 | int (i:Int):Dl K H (.int i) (.type "int")
 | str (x:Str):Dl K H (.str x) (.type "str")
 | flt (x:UInt64):Dl K H (.flt x) (.type "float")
 | lst {a:Addr} {xs:List V} (e:H a=some (.lst xs)):Dl K H (.ref a) (.type "list")
 | frz {a:Addr} {o:Obj} {xs:List V} (e:H a=some (.frz o (.lst xs))):Dl K H (.ref a) (.type "list")
 | tup {a:Addr} {xs:List V} (e:H a=some (.tup xs)):Dl K H (.ref a) (.type "tuple")
 | dK {a:Addr} {kvs:List (Ap×V)} (e:H a=some (.dK kvs)):Dl K H (.ref a) (.type "dict")
 | dT {a:Addr} {kvs:List (List Ap×V)} (e:H a=some (.dT kvs)):Dl K H (.ref a) (.type "dict")
 | ins {a C dx:Addr} {fs:List (Str×V)} (e:H a=some (.ins C dx fs)) (cl:Cls K C) (ha:Qk K (.ref C) "__class__" = some (some (.builtin "object.__class__")))
   (hn:Ws K (.builtin "object.__class__") "__get__" = some (some (.builtin "getset_descriptor.__get__"))) (htk:W4 K (.builtin "object.__class__")=some true)
   (hm:PySem.W.mroIn K C (.type "object")=some true):Dl K H (.ref a) (.ref C)
theorem Zjo {x:V}{u t:Value}(I:Inv X pins σ H s)(rx:RelV x u)(ty:Dl X.K H x t)(e:Qn X.K t c=some b)(h:∀ tk,Q (.bool b) { s with toks:=tk }) :
  wpAny (model X.prog X.w) A (call (.builtin "isinstance") [u,c]) Q E s:=by
 cases ty with
 | non=>cases (show u=Value.none from rx);exact Qw PySem.W.kitx_none I.kIn True.intro e (fun z=>nomatch z) h
 | bl y=>cases (show u=Value.bool y from rx);exact Qw PySem.W.kitx_bool I.kIn True.intro e (fun z=>nomatch z) h
 | int i=>obtain ⟨t,q⟩:=(show ∃ t,u=Value.int i t from rx);cases q;exact Qw PySem.W.kitx_int I.kIn True.intro e (fun z=>nomatch z) h
 | str y=>obtain ⟨t,q⟩:=(show ∃ t,u=Value.str y t from rx);cases q;exact Qw PySem.W.kitx_str I.kIn True.intro e (fun z=>nomatch z) h
 | flt y=>obtain ⟨t,q⟩:=(show ∃ t,u=Value.float y t from rx);cases q;exact Qw PySem.W.kitx_float I.kIn True.intro e (fun z=>nomatch z) h
 | @lst a xs ea =>
  cases (show u=Value.ref a from rx)
  obtain ⟨_,_,n,_,h1⟩:=(show ObjOk X.prog X.w H s.heap a (.lst xs) from I.hok a _ ea)
  exact Qw Wt I.kIn ⟨_,h1,rfl⟩ e (fun z=>nomatch z) h
 | @frz a ob xs ea =>
  cases (show u=Value.ref a from rx)
  obtain ⟨_,_,_,n,_,h1⟩:=(show ObjOk X.prog X.w H s.heap a (.frz ob (.lst xs)) from I.hok a _ ea)
  exact Qw Wt I.kIn ⟨_,h1,rfl⟩ e (fun z=>nomatch z) h
 | @tup a xs ea =>
  cases (show u=Value.ref a from rx)
  obtain ⟨_,_,_,p⟩:=(show ObjOk X.prog X.w H s.heap a (.tup xs) from I.hok a _ ea)
  obtain ⟨o,h1,h2,_⟩:=p
  exact Qw PySem.W.kitx_tuple I.kIn ⟨o,h1,h2⟩ e (fun z=>nomatch z) h
 | @dK a kvs ea =>
  cases (show u=Value.ref a from rx)
  obtain ⟨_,_,vs,_,p⟩:=(show ObjOk X.prog X.w H s.heap a (.dK kvs) from I.hok a _ ea)
  obtain ⟨o,es,ep,h1,h2,_⟩:=p
  exact Qw PySem.W.kitx_dict I.kIn ⟨o,h1,h2.1⟩ e (fun z=>nomatch z) h
 | @dT a kvs ea =>
  cases (show u=Value.ref a from rx)
  obtain ⟨_,_,xs,_,o,es,ep,h1,h2,_⟩:=(show ObjOk X.prog X.w H s.heap a (.dT kvs) from I.hok a _ ea)
  exact Qw PySem.W.kitx_dict I.kIn ⟨o,h1,h2.1⟩ e (fun z=>nomatch z) h
 | @ins a C dx fs ea cl ha hn htk hm =>
  cases (show u=Value.ref a from rx)
  obtain ⟨mA,O,_⟩:=Zp1 I.hok ea
  obtain ⟨od,J,_⟩:=O.look
  exact Qw (PySem.W.kitx_own (cl.get _) cl.hd ha hn htk hm) I.kIn J e (fun z=>nomatch z) h
end
structure Room (k:Nat)(A:Around):Prop where
 hd:A.handled=none
 dp:A.depth+3 * k+5 < recursionLimit
 un:A.units+16 * k+200 < cLine
theorem Room.mono {j k:Nat}{A:Around}(r:Room k A)(h:j<=k):Room j A:=⟨r.hd,by have:=r.dp;omega,by have:=r.un;omega⟩
theorem Room.deeper {k:Nat}{A:Around}(r:Room (k+1) A)(env:Env):Room k (A.deeper env) :=
 ⟨r.hd,by have:=r.dp;show A.depth+1+3 * k+5 < _;omega,by have:=r.un;show A.units+3+16 * k+200 < _;omega⟩
theorem Zpa {A:Around}{C:Addr}{us:List Value}{kw:List (Str×Value)}:(A.under (.builtin "type.__call__" ⟨.ref C::us,kw⟩)).depth=A.depth+1:=by
 first | rfl | simp [Around.under,Code.weight,Code.isCreation,Code.isGuard,Code.isCaller,Code.frames,Code.isFrame,guardIds]
theorem Zpr {A:Around}{C:Addr}{us:List Value}{kw:List (Str×Value)}:(A.under (.builtin "type.__call__" ⟨.ref C::us,kw⟩)).units=A.units+1:=by
 first | rfl | simp [Around.under,Code.cUnits,Code.frames,Code.isFrame]
theorem Room.make {k:Nat}{A:Around}(r:Room (k+1) A)(C:Addr)(us:List Value)(kw:List (Str×Value)):Room k (A.under (.builtin "type.__call__" ⟨.ref C::us,kw⟩)) :=
 ⟨r.hd,by have:=r.dp;rw [Zpa];omega,by have:=r.un;rw [Zpr];omega⟩
theorem Room.depth {k:Nat}{A:Around}(r:Room k A):A.depth < recursionLimit:=by have:=r.dp;omega
noncomputable def Hy:TA:=fun _ H Q=>Q [] H
noncomputable def Zab (ta:TE)(tr:TA):TA:=fun σ H Q=>ta σ H fun x H1=>tr σ H1 fun xs H2=>Q (x::xs) H2
section
variable {X:Cx}{e:Expr}{es:List Expr}{te:TE}{t:TA}{pos:Pos}
theorem Zgw:PA X [] Hy:=fun _ _ _ _ H Q I h=>Tq ⟨[],H,I,.nil,h⟩
theorem Zfv (ha:PE X e te)(hr:PA X es t)(hs:starEach (e::es) X.env=(false,eval e X.env)::starEach es X.env:=by rfl):PA X (e::es) (Zab te t):=by
 intro pos pins s σ H Q I h
 rw [hs]
 show wpAny _ _ (spliced ((false,eval e X.env)::backTo pos (starEach es X.env))) _ _ s
 refine So (Aj (ha pins s σ H _ I h) fun u s1 zq=>?_)
 obtain ⟨x,H1,I1,r1,q1⟩:=zq
 exact Aj (hr pos pins s1 σ H1 _ I1 q1) fun us s2 ⟨xs,H2,I2,r2,q2⟩=>⟨x::xs,H2,I2,.cons r1 r2,q2⟩
noncomputable def Zax (t:TA):TE:=fun σ H Q=>t σ H fun xs H1=>xs.length<=sizeLine/\∀ p,H1 p=none->Q (.ref p) (upd H1 p (.tup xs))
noncomputable def Zaw (t:TA):TE:=fun σ H Q=>t σ H fun xs H1=>xs.length<=sizeLine/\∀ p,H1 p=none->Q (.ref p) (upd H1 p (.lst xs))
theorem Zni {x1}(h:PA X es t):PE X (.Tuple es x1 pos) (Zax t):=by
 intro pins s σ H Q I hq
 refine wpAny_Tuple_spliced (Aj (h pos pins s σ H _ I hq) fun us s1 ⟨xs,H1,I1,r,z,q⟩=>⟨by rw [<- r.length];exact z,?_⟩)
 have hf:H1 s1.heap.objs.size=none:=I1.hok.fresh (Po _)
 refine ⟨.ref s1.heap.objs.size,upd H1 s1.heap.objs.size (.tup xs),I1.laid (t':=s1.toks) (fun b u e=>Pp _ e) (Po _) ?_,rfl,q _ hf⟩
 exact ⟨z,us,r,⟨_,P5 _ rfl,rfl,_,rfl⟩⟩
theorem Zi9 (h:PA X es t):PE X (.List es pos) (Zaw t):=by
 intro pins s σ H Q I hq
 refine wpAny_List_spliced (Aj (h pos pins s σ H _ I hq) fun us s1 ⟨xs,H1,I1,r,z,q⟩=>⟨by rw [<- r.length];exact z,?_⟩)
 have hf:H1 s1.heap.objs.size=none:=I1.hok.fresh (Po _)
 refine ⟨.ref s1.heap.objs.size,upd H1 s1.heap.objs.size (.lst xs),I1.laid (t':=s1.toks) (fun b u e=>Pp _ e) (Po _) ?_,rfl,q _ hf⟩
 exact ⟨z,us,0,r,P5 _ rfl⟩
end
noncomputable abbrev Sp:=List V->Hp->VK->XK->Prop
noncomputable abbrev Cz:=List Env->Hp->Shared->XK->Value->Shared->Prop
structure Env0 (P:Program)(w:World)(K:Pk)(mg:Str->Option Value)(base:Heap)(A:Around)(outer:List Env)(s:Shared)(H:Hp):Prop where
 frames:A.frames=some outer
 mod:Mod K mg base
 bs:∀ b o,base.get? b=some o->s.heap.get? b=some o/\H b=none
 bsz:base.objs.size<=s.heap.objs.size
 funs:s.heap.FunFrames base outer
 frf:∀ b∈Bp outer,H b=none
 hok:HOk P w H s.heap
 bare:AllBare s.gens
noncomputable def CE (outer:List Env)(P:Program)(w:World)(H:Hp)(s:Shared)(Q:VK)(u:Value)(s':Shared):Prop :=
 ∃ v H',s'.os=s.os/\AllBare s'.gens/\Un (Bp outer) [] H H' s.heap s'.heap/\HOk P w H' s'.heap/\RelV v u/\Q v H'
noncomputable def CR (CX:Cz)(outer:List Env)(P:Program)(w:World)(H:Hp)(s:Shared)(Q:VK)(E:XK)(r:Result)(s':Shared):Prop :=
 match r with
 | .ok (.ret u)=>CE outer P w H s Q u s'
 | .ok _=>False
 | .error e=>CX outer H s E e s'
structure As (P:Program)(w:World)(K:Pk)(mg:Str->Option Value)(base:Heap)(CX:Cz)(k:Nat)(f:Addr)(fd:FuncData)(ps:List Str)(sp:Sp):Prop where
 len:∀ vs H Q E,sp vs H Q E->vs.length=ps.length
 run:∀(A:Around)(outer:List Env)(s:Shared)(H:Hp)(args:Args)(us:List Value)(vs:List V)(Q:VK)(E:XK),Room k A->Env0 P w K mg base A outer s H->BindsTo s fd args (ps.zip us)->Vals vs us->sp vs H Q E ->
  codeAny (model P w) A (.call (.ref f) args) (CR CX outer P w H s Q E) s
theorem Env0.make {P:Program}{w:World}{K:Pk}{mg:Str->Option Value}{base:Heap}{A:Around}{outer:List Env}{s:Shared}{H:Hp}(e:Env0 P w K mg base A outer s H)(C:Addr)(us:List Value)(kw:List (Str×Value)) :
  Env0 P w K mg base (A.under (.builtin "type.__call__" ⟨.ref C::us,kw⟩)) outer s H:=⟨by first | exact e.frames | (simpa [Around.under,Code.envs,Code.isFrame,pushEnvs] using e.frames),e.mod,e.bs,e.bsz,e.funs,e.frf,e.hok,e.bare⟩
section
variable {X:Cx}{pins:List (Addr×Obj)}{σ:St}{H:Hp}{s s':Shared}
theorem Inv.env0 (I:Inv X pins σ H s):Env0 X.prog X.w X.K X.mg X.base X.A X.stack s H :=
 ⟨I.ok.frames,I.ok.mod,I.bs,Qr I.ok.bsz I.sz,I.stack,I.stkFree,I.hok,I.bare⟩
theorem Inv.after {Q:VK}{u:Value}(I:Inv X pins σ H s)(h:CE X.stack X.prog X.w H s Q u s'):EP X pins σ Q u s':=by
 obtain ⟨v,H',os,bare,un,hok,r,q⟩:=h
 obtain ⟨hh,g,d,t,os'⟩:=s'
 obtain rfl:os'=s.os:=os
 exact ⟨v,H',I.call (h':=hh) (g':=g) (d':=d) (t':=t) (ch:=[]) un hok bare (fun b z=>absurd z (by simp)),r,q⟩
end
noncomputable def Jp (sp:Sp)(dvs:List V)(E:XK)(t:TA):TE:=fun σ H Q=>t σ H fun vs H1=>sp (vs++dvs) H1 Q E
noncomputable def Binds (K:Pk)(fd:FuncData)(ps:List Str)(ds:List Value):Prop :=
 ∀(s:Shared)(us:List Value),K.In s.heap->(us++ds).length=ps.length->BindsTo s fd ⟨us,[]⟩ (ps.zip (us++ds))
theorem Binds.all {K:Pk}{fd:FuncData}{ps:List Str}(h:∀ us:List Value,us.length=ps.length->bindArgs fd ⟨us,[]⟩=pure (ps.zip us)):Binds K fd ps []:=fun s us _ hl=>by
 rw [Qx] at hl ⊢
 exact .of_eq (h us hl)
noncomputable def Lk (CX:Cz)(X:Cx)(E:XK):Prop:=∀(pins:List (Addr×Obj))(σ:St)(H:Hp)(s:Shared)(e:Value)(s':Shared),Inv X pins σ H s->CX X.stack H s E e s'->X.xe e s'
section
variable {X:Cx}{CX:Cz}{k:Nat}{f C:Addr}{fd:FuncData}{ps:List Str}{sp:Sp}{dvs:List V}{ds:List Value}{E:XK}{x m:Str}{p pos apos:Pos}{e o:Expr}{es:List Expr}{ta:TE}{t:TA}
theorem Zrs {pins:List (Addr×Obj)}{σ:St}{H:Hp}{s:Shared}{Q:VK}{us:List Value}{vs:List V}(F:As X.prog X.w X.K X.mg X.base CX k f fd ps sp)(hr:Room k X.A)(hb:Binds X.K fd ps ds)(hd:Vals dvs ds)(hx:Lk CX X E)
  (I:Inv X pins σ H s) (r:Vals vs us) (h:sp (vs++dvs) H Q E):wpAny (model X.prog X.w) X.A (call (.ref f) us) (EP X pins σ Q) X.xe s:=by
 have r2:Vals (vs++dvs) (us++ds):=r.append hd
 have hl:(us++ds).length=ps.length:=by rw [<- r2.length];exact F.len _ _ _ _ h
 refine Sf (Sz (F.run X.A X.stack s H ⟨us,[]⟩ (us++ds) (vs++dvs) Q E hr I.env0 (hb s us I.kIn hl) r2 h) fun r s' hq=>?_)
 cases r with
 | error e=>exact hx pins σ H s e s' I hq
 | ok fl =>
  cases fl with
  | ret u=>exact I.after hq
  | next=>exact Qh hq
  | brk=>exact Qh hq
  | cont=>exact Qh hq
theorem Zck (F:As X.prog X.w X.K X.mg X.base CX k f fd ps sp)(hr:Room k X.A)(hg:Gl X x)(hm:X.mg x=some (.ref f))(hk:Ro X.K (.ref f)=true)(hb:Binds X.K fd ps ds)(hd:Vals dvs ds)(hx:Lk CX X E)
  (ha:PA X (e::es) t) (hdb:(x == ("__debug__" : Str))=false:=by decide) (he:starEach (e::es) X.env=(false,eval e X.env)::starEach es X.env:=by rfl) (hpl:(backTo pos (starEach es X.env)).any (·.1)=false:=by rfl) :
  PE X (.Call (.Name x p) (e::es) [] pos) (Jp sp dvs E t):=by
 intro pins s σ H Q I h
 refine To (Hf I hg hm ?_ hdb)
 refine Vf (h₀:=X.base) I.ok.mod.kin hk (Aj (ha pos pins s σ H _ I h) fun us s1 zq=>?_) he hpl
 obtain ⟨vs,H1,I1,r,q⟩:=zq
 refine ⟨I1.kIn,?_⟩
 exact Zrs F hr hb hd hx I1 r q
end
section
variable {X:Cx}{CX:Cz}{k:Nat}{f C:Addr}{fd:FuncData}{ps ks:List Str}{sp:Sp}{E:XK}{x m:Str}{p pos apos kpos:Pos}{e o:Expr}{es:List Expr}{kws:List Keyword}{te ta:TE}{t tk:TA}{nm:Option Str}
variable {g:List Value->List Value->List Value}{gV:List V->List V->List V}
end
structure Bf (N P:List Str)(sc:Scope):Prop where
 kind:sc.kind=.function
 co:sc.isCoroutine=false
 gen:sc.isGenerator=false
 nd:N.Nodup
 pre:N.take P.length=P
 par:∀ x∈P,sc.names.lookup x=some .local\/sc.names.lookup x=some .cell
 nofree:∀ y∈sc.names,y.2≠.free
theorem Zhl {kindOf:Str->Option NameKind}{x:Str}:∀{binds:List (Str×Value)}{m:Str->Option Value},(∀ v,(x,v) ∉ binds)->bindL kindOf binds m x=m x
 | [],_,_=>rfl
 | (n,v)::r,m,h=>by
  unfold bindL
  rw [Zhl fun w hw=>h w (R3 _ hw)]
  split
  ·have:x≠n:=by rintro rfl;exact h v T7
   simp [this]
  ·rfl
theorem Zf5 {kindOf:Str->Option NameKind}{x:Str}:∀{binds:List (Str×Value)}{m:Str->Option Value},(∀ v,(x,v) ∉ binds)->bindC kindOf binds m x=m x
 | [],_,_=>rfl
 | (n,v)::r,m,h=>by
  unfold bindC
  rw [Zf5 fun w hw=>h w (R3 _ hw)]
  split
  ·rfl
  ·have:x≠n:=by rintro rfl;exact h v T7
   simp [this]
theorem Zeq {kindOf:Str->Option NameKind}{x:Str}{v:Value}:∀{P:List Str}{vs:List Value}{i:Nat}{m:Str->Option Value},P.Nodup->P[i]?=some x->vs[i]?=some v->kindOf x=some .local ->
  bindL kindOf (P.zip vs) m x=some v
 | [],_,_,_,_,h,_,_=>by simp at h
 | _::_,[],_,_,_,_,h,_=>by simp at h
 | p::P,w::vs,0,m,nd,h1,h2,hk=>by
  simp at h1 h2;subst h1;subst h2
  show bindL kindOf ((p,w)::P.zip vs) m p=_
  unfold bindL
  rw [Zhl fun v hv=>(Vp.mp nd).1 (Ug hv).1,if_pos hk]
  simp
 | p::P,w::vs,i+1,m,nd,h1,h2,hk=>by
  show bindL kindOf ((p,w)::P.zip vs) m x=_
  unfold bindL
  exact Zeq (i:=i) (Vp.mp nd).2 (by simpa using h1) (by simpa using h2) hk
theorem Zgj {kindOf:Str->Option NameKind}{x:Str}{v:Value}:∀{P:List Str}{vs:List Value}{i:Nat}{m:Str->Option Value},P.Nodup->P[i]?=some x->vs[i]?=some v->kindOf x≠some .local ->
  bindC kindOf (P.zip vs) m x=some v
 | [],_,_,_,_,h,_,_=>by simp at h
 | _::_,[],_,_,_,_,h,_=>by simp at h
 | p::P,w::vs,0,m,nd,h1,h2,hk=>by
  simp at h1 h2;subst h1;subst h2
  show bindC kindOf ((p,w)::P.zip vs) m p=_
  unfold bindC
  rw [Zf5 fun v hv=>(Vp.mp nd).1 (Ug hv).1,if_neg hk]
  simp
 | p::P,w::vs,i+1,m,nd,h1,h2,hk=>by
  show bindC kindOf ((p,w)::P.zip vs) m x=_
  unfold bindC
  exact Zgj (i:=i) (Vp.mp nd).2 (by simpa using h1) (by simpa using h2) hk
noncomputable def Db (N:List Str)(vs:List V):St:=vs.map some++Qt (N.length - vs.length) none
noncomputable def Cy (CX:Cz)(P:Program)(w:World)(K:Pk)(mg:Str->Option Value)(base:Heap)(N:List Str)(qual:Str)(scope:Scope)(f:Addr)(cd:Value)(A:Around)(outer:List Env)(s:Shared)(H:Hp)(E:XK):Cx where
 prog:=P
 w:=w
 K:=K
 mg:=mg
 base:=base
 A:=A.deeper (envOfC qual scope s.heap.objs.size f cd)
 N:=N
 s₀:=s
 H₀:=H
 env:=envOfC qual scope s.heap.objs.size f cd
 outer:=outer
 stack:=envOfC qual scope s.heap.objs.size f cd::outer
 ex:=[]
 calm:=true
 fn:=fun _=>true
 pn:=[]
 xe:=fun e s'=>wpAny (model P w) (A.deeper (envOfC qual scope s.heap.objs.size f cd)) (leaving (envOfC qual scope s.heap.objs.size f cd) e) (fun _ s''=>CX outer H s E e s'') (fun e' s''=>CX outer H s E e' s'') s'
theorem Zbb {sc:Scope}{n:Nat}{x:Str}(h:sc.names.lookup x=some .cell):∃ c,(cellsFrom n sc.names []).lookup x=some c:=by
 have q:=We sc.names n [] (.inl h)
 exact R0.mp q
theorem Zfb {CX:Cz}{P:Program}{w:World}{K:Pk}{mg:Str->Option Value}{base:Heap}{N ps:List Str}{qual:Str}{scope:Scope}{f:Addr}{cd:Value}{A:Around}{outer:List Env}{s s1:Shared}{H:Hp}{E:XK}{us:List Value}{vs:List V}
  (S:Bf N ps scope) (hd:A.handled=none) (e0:Env0 P w K mg base A outer s H) (hl:vs.length=ps.length) (r:Vals vs us)
  (x:InCallC s s.heap.objs.size (bindL (envOfC qual scope s.heap.objs.size f cd).kindOf (ps.zip us) fun _=>none) (cellsFrom (s.heap.objs.size+1) scope.names []) (bindC (envOfC qual scope s.heap.objs.size f cd).kindOf (ps.zip us) fun _=>none) s1) :
  Inv (Cy CX P w K mg base N qual scope f cd A outer s H E) [] (Db N vs) H s1:=by
 have hpl:ps.length<=N.length:=by have:=congrArg V9 S.pre;rw [Qb] at this;omega
 obtain ⟨h1,tk,rfl,hk⟩:=x.done
 have noA:∀ b:Addr,b ∉ (Cy CX P w K mg base N qual scope f cd A outer s H E).ex:=fun b z=>absurd (show b∈([]:List Addr) from z) (by simp)
 refine ⟨⟨e0.mod,S.kind,rfl,rfl,Po _,fun y z c h1 h2=>?_,fun y hy=>?_,fun y c _ h=>?_,fun _=>hd,Around.frames_deeper e0.frames,.inr ⟨rfl,rfl⟩,fun b z=>absurd z (noA b),e0.bs,e0.bsz,fun b _ _=>noA b,fun b z=>absurd z (noA b),e0.funs,e0.frf⟩,
  rfl,e0.bare,Un.kept hk,⟨_,x.toInCall.ns,fun i y v h1 h2 h3=>?_⟩,fun y c h=>⟨_,x.cell y c h⟩,e0.hok.fresh (Po _),fun y c h=>?_,fun p hp=>absurd (show p∈([]:List (Addr×Obj)) from hp) (by simp),e0.hok.kept hk,?_⟩
 ·exact name_of_addr x.apart (Sn h1) (Sn h2)
 ·have hy:scope.names.lookup y=some .cell\/scope.names.lookup y=some .free:=hy
  rcases hy with hy | hy
  ·exact Zbb hy
  ·exact absurd rfl (S.nofree _ (Sn hy))
 ·exact Ur (x.above y c (Sn h))
 ·have hi:i < vs.length:=by
   unfold Db at h2
   by_cases hi:i < vs.length
   ·exact hi
   ·rw [Rh (by simpa using hi)] at h2
    rw [List.getElem?_replicate] at h2
    split at h2 <;> cases h2
  have ha:vs[i]?=some v:=by
   unfold Db at h2
   rw [Q7 (by simpa using hi),Qj] at h2
   cases e:vs[i]? with
   | none=>rw [e] at h2;cases h2
   | some a=>rw [e] at h2;cases h2;rfl
  obtain ⟨u,hu,rv⟩:=r.get ha
  have hp:ps[i]?=some y:=by
   rw [<- S.pre,List.getElem?_take_of_lt (by omega)];exact h1
  have ndP:ps.Nodup:=by rw [<- S.pre];exact S.nd.sublist (List.take_sublist _ _)
  refine ⟨u,rv,?_⟩
  rcases S.par y (Rj hp) with k | k
  ·exact .inl ⟨k,Zeq ndP hp hu k⟩
  ·obtain ⟨c,e⟩:=Zbb (n:=s.heap.objs.size+1) k
   refine .inr ⟨.inl k,c,e,?_⟩
   have q:=x.cell y c e
   rw [Zgj ndP hp hu (by show scope.names.lookup y≠_;rw [k];decide)] at q
   exact q
 ·exact e0.hok.fresh (Ur (x.above y c (Sn h)))
 ·unfold Db
  show _=N.length
  rw [Px,Pw,List.length_replicate]
  omega
theorem Zhm {CX:Cz}{P:Program}{w:World}{K:Pk}{mg:Str->Option Value}{base:Heap}{k:Nat}{f:Addr}{name qual:Str}{params:Arguments}{body:List Stmt}{scope:Scope}{dV kV doc pm cdv ct oc:Value}{an od:Option Addr}
  {osl:Array (Option Value)} {N ps:List Str} {sp:Sp} (lk:K.lookup f=some ⟨oc,od,.func (Ry name qual params body scope dV kV doc pm an cdv ct),osl⟩) (hcd:Vt K cdv qual=true) (S:Bf N ps scope)
  (len:∀ vs H Q E,sp vs H Q E->vs.length=ps.length)
  (hbody:∀(A:Around)(outer:List Env)(s:Shared)(H:Hp)(vs:List V)(Q:VK)(E:XK),Room k (A.deeper (envOfC qual scope s.heap.objs.size f cdv))->sp vs H Q E ->
   ∃ t,PSs (Cy CX P w K mg base N qual scope f cdv A outer s H E) body t/\t { nx:=fun _ H'=>Q .non H',rt:=Q } (Db N vs) H) :
  As P w K mg base CX (k+1) f (Ry name qual params body scope dV kV doc pm an cdv ct) ps sp:=by
 refine ⟨len,fun A outer s H args us vs Q E hr e0 hb r hsp=>?_⟩
 have hl:=len _ _ _ _ hsp
 have KX:K.In s.heap:=e0.mod.kin.keeps fun b o e=>(e0.bs b o e).1
 have lim:s.heap.NoLimit:=e0.mod.nolimit.keeps fun b o e=>(e0.bs b o e).1
 have hkind:∀ y∈ps.zip us,scope.names.lookup y.1=some .local\/(scope.names.lookup y.1=some .cell/\((cellsFrom (s.heap.objs.size+1) scope.names []).lookup y.1).isSome=true):=fun ⟨n,v⟩ hy=>by
  rcases S.par n (Ug hy).1 with q | q
  ·exact .inl q
  ·exact .inr ⟨q,We _ _ _ (.inl q)⟩
 refine codeAny_call_function hr.depth (KX _ _ lk) rfl S.co S.gen rfl (PySem.W.codeRec_of KX hcd) (hb _ _ _ _ ?_)
 refine wpAny_newFunctionEnv_cells S.kind hkind fun env he s1 x=>?_
 subst he
 refine ⟨lim.keeps x.toInCall.keep,codeAny_func ?_⟩
 obtain ⟨t,ht,hq⟩:=hbody A outer s H vs Q E (hr.deeper _) hsp
 have I:Inv (Cy CX P w K mg base N qual scope f cdv A outer s H E) [] (Db N vs) H s1:=Zfb S hr.hd e0 hl r x
 refine Q0 (ht [] s1 (Db N vs) H _ I hq) (fun fl s' hs=>?_) fun e s' hs=>hs
 have fin:∀{σ':St}{H':Hp}{v:V}{u:Value},Inv (Cy CX P w K mg base N qual scope f cdv A outer s H E) [] σ' H' s'->RelV v u->Q v H'->CE outer P w H s Q u s' :=
  fun {σ' H' v u} J rv q=>⟨v,H',J.os,J.bare,J.base,J.hok,rv,q⟩
 cases fl with
 | ret u =>
  obtain ⟨v,σ',H',J,rv,q⟩:=hs
  exact fin J rv q
 | next =>
  obtain ⟨σ',H',J,q⟩:=hs
  exact fin (v:=V.non) (u:=Value.none) J rfl q
 | brk =>
  obtain ⟨_,_,_,q⟩:=hs
  exact Qh q
 | cont =>
  obtain ⟨_,_,_,q⟩:=hs
  exact Qh q
section
variable {X:Cx}{x:Str}{p pos:Pos}{e:Expr}{es:List Expr}{t:TA}{id T:String}{r:List V->Hp->VK->Prop}
noncomputable def tCB (r:List V->Hp->VK->Prop)(t:TA):TE:=fun σ H Q=>t σ H fun vs H1=>r vs H1 Q
theorem Zng (hc:Cd X (.builtin id) r)(hg:Gl X x)(hm:X.mg x=none)(hv:bootBuiltins x=some (.builtin id))(ha:PA X (e::es) t)(hn:x ≠ "__name__" := by decide)(hdb:(x == ("__debug__" : Str))=false:=by decide)
  (he:starEach (e::es) X.env=(false,eval e X.env)::starEach es X.env:=by rfl) (hpl:(backTo pos (starEach es X.env)).any (·.1)=false:=by rfl):PE X (.Call (.Name x p) (e::es) [] pos) (tCB r t):=by
 intro pins s σ H Q I h
 refine To (Dp I hg hm hv ?_ hn hdb)
 exact PyProof.Rows.callWith_builtin1 (Aj (ha pos pins s σ H _ I h) fun us s1 ⟨vs,H1,I1,r1,q1⟩=>hc pins s1 σ H1 vs us Q I1 r1 q1) he hpl
theorem Zkz (hc:Cd X (.type T) r)(hg:Gl X x)(hm:X.mg x=none)(hv:bootBuiltins x=some (.type T))(ha:PA X (e::es) t)(hn:x ≠ "__name__" := by decide)(hdb:(x == ("__debug__" : Str))=false:=by decide)
  (he:starEach (e::es) X.env=(false,eval e X.env)::starEach es X.env:=by rfl) (hpl:(backTo pos (starEach es X.env)).any (·.1)=false:=by rfl):PE X (.Call (.Name x p) (e::es) [] pos) (tCB r t):=by
 intro pins s σ H Q I h
 refine To (Dp I hg hm hv ?_ hn hdb)
 exact Q6 (Aj (ha pos pins s σ H _ I h) fun us s1 ⟨vs,H1,I1,r1,q1⟩=>hc pins s1 σ H1 vs us Q I1 r1 q1) he hpl
end
end L2
namespace HT
open PySem PyProof.Rows
section
open PySem.SeqAt
open PySem.AutoSeq1 (wpAny_loadPart')
open PySem.MeetsSeq PySem.MeetsSeq2 PySem.MeetsSeq3
end
section
variable {prog:Program}{w:World}{A:Around}{E:Value->Shared->Prop}{s:Shared}
theorem cat_tup {t b:Addr}{vs ws:List Value}{Q:Value->Shared->Prop}(ht:IsTup s.heap t vs.toArray)(hb:IsTup s.heap b ws.toArray)(hv:vs≠[])
  (h1:ws=[]->Q (.ref t) s) (h2:ws≠[]->Q (.ref s.heap.objs.size) { s with heap:=s.heap.push { cls:=.type "tuple",data:=.seq (vs++ws).toArray } })
  (hsz:vs.length+ws.length<=sizeLine):wpAny (model prog w) A (binaryOp .Add (.ref t) (.ref b)) Q E s:=by
 obtain ⟨⟨cls,dd,data,sl⟩,ho,hc,n,hd⟩:=id ht
 obtain ⟨⟨cls2,dd2,data2,sl2⟩,ho2,hc2,n2,hd2⟩:=id hb
 simp only at hc hd hc2 hd2
 subst hc hd hc2 hd2
 have e:vs.toArray++ws.toArray=(vs++ws).toArray:=by simp
 by_cases hw:ws=[]
 ·exact V0 ⟨_,ho,rfl⟩ ⟨_,ho2,rfl⟩ Vm Vw U4 U0 (Uy _ _)
   (tuple_addW1 t b vs.toArray ws.toArray n n2 dd dd2 sl sl2 (by simpa using hv) (by simp [hw])) ⟨ho,ho2,h1 hw⟩
 ·refine V0 ⟨_,ho,rfl⟩ ⟨_,ho2,rfl⟩ Vm Vw U4 U0 (Uy _ _)
   (tuple_addW2 t b vs.toArray ws.toArray n n2 dd dd2 sl sl2 (by simpa using hv) (by simpa using hw) (by rw [Pq,Pq];exact hsz)) ⟨ho,ho2,?_⟩
  rw [e]
  exact h2 hw
noncomputable def sIx (n d:Nat):Option Int->Nat
 | none=>d
 | some v=>if v < 0 then (v+(n:Int)).toNat else min v.toNat n
theorem sIx_none (n d:Nat):sIx n d none=d:=rfl
theorem sIx_nat (n d k:Nat):sIx n d (some (k:Int))=min k n:=by
 show (if (k:Int) < 0 then ((k:Int)+(n:Int)).toNat else min (k:Int).toNat n)=min k n
 rw [if_neg (by omega),Ua]
theorem Znu (n d:Nat)(hd:d<=n)(o:Option Int):sIx n d o<=n:=by
 cases o with
 | none=>exact hd
 | some v =>
  show (if v < 0 then (v+(n:Int)).toNat else min v.toNat n)<=n
  by_cases hv:v < 0
  ·rw [if_pos hv];omega
  ·rw [if_neg hv];exact Nat.min_le_right _ _
theorem Zde (v:Int)(n d:Nat):(if v < 0 then max (v+(n:Int)) 0 else min v (n:Int))=((sIx n d (some v):Nat):Int):=by
 show (if v < 0 then max (v+(n:Int)) 0 else min v (n:Int))=(((if v < 0 then (v+(n:Int)).toNat else min v.toNat n):Nat):Int)
 by_cases hv:v < 0
 ·simp only [if_pos hv];omega
 ·simp only [if_neg hv];omega
theorem Zkq (lo hi:Option Int)(n:Nat):Wc lo hi 1 (n:Int)=(((sIx n 0 lo:Nat):Int),((sIx n n hi:Nat):Int)):=by
 have h1:¬ ((1:Int) < 0):=by omega
 unfold Wc
 simp only [h1,if_false]
 refine Prod.ext ?_ ?_
 ·cases lo with
  | none=>rfl
  | some v=>exact Zde v n 0
 ·cases hi with
  | none=>rfl
  | some v=>exact Zde v n n
theorem Zsl (i j:Nat):Ux (i:Int) (j:Int) 1=j - i:=by
 unfold Ux
 have h1:(1:Int) > 0:=by omega
 simp only [h1,if_true,Int.ediv_one]
 split <;> omega
theorem Zh0 {v:Value}{o:Option Int}{Q:Option Int->Shared->Prop}(p:IsPart v o)(h:Q o s):wpAny (model prog w) A (Builtin.Slice.slicePartIndex v) Q E s:=by
 cases p with
 | none=>exact slicePart_none h
 | int i t=>exact slicePart_int h
theorem sliceApplied_gen {sl:Addr}{vl vu:Value}{lo hi:Option Int}{n:Nat}{Q:Int×Int×Nat->Shared->Prop}(hs:s.heap.IsSliceOf sl vl vu .none)(pl:IsPart vl lo)(pu:IsPart vu hi)
  (h:Q (((sIx n 0 lo:Nat):Int),1,sIx n n hi - sIx n 0 lo) s):wpAny (model prog w) A (Builtin.Slice.sliceApplied (.ref sl) (pure (n:Int))) Q E s:=by
 obtain ⟨os,hos,hcs,hds⟩:=id hs
 unfold Builtin.Slice.sliceApplied Builtin.Slice.sliceFields
 refine Pl (Pl (P4 hos hds (x:=vl) rfl (Pl (P4 hos hds (x:=vu) rfl (Pl (P4 hos hds (x:=.none) rfl (Pm ?_)))))))
 refine Pl (slicePart_none ?_)
 show wpAny _ _ (if ((1:Int) == 0)=true then _ else _) _ _ s
 rw [if_neg (by decide)]
 refine Pl (Zh0 pl (Pl (Zh0 pu (Pl (Pm ?_)))))
 show wpAny _ _ (match Wc lo hi 1 (n:Int) with | (lo,hi)=>pure (lo,(1:Int),Ux lo hi 1)) _ _ s
 rw [Zkq lo hi n]
 show wpAny _ _ (pure (((sIx n 0 lo:Nat):Int),(1:Int),Ux ((sIx n 0 lo:Nat):Int) ((sIx n n hi:Nat):Int) 1)) _ _ s
 rw [Zsl]
 exact Pm h
theorem Zts (xs:Array Value)(i k:Nat):((Qg k).filterMap fun (m:Nat)=>xs[((i:Int)+(m:Int) * 1).toNat]?).toArray=((xs.toList.drop i).take k).toArray:=by
 have e:(fun (m:Nat)=>xs[((i:Int)+(m:Int) * 1).toNat]?)=fun m=>xs[i+m]?:=by
  funext m
  have:((i:Int)+(m:Int) * 1).toNat=i+m:=by omega
  rw [this]
 rw [e]
 have:=pick_run xs i k
 rw [List.filterMap_map] at this
 have e2:((fun x=>xs[x]?) ∘ fun x=>i+x)=fun m=>xs[i+m]?:=rfl
 rw [e2] at this
 rw [this]
theorem getItem_tuple_cut {t sl:Addr}{items:Array Value}{vl vu:Value}{lo hi:Option Int}{Q:Value->Shared->Prop}(ht:IsTup s.heap t items)(hs:s.heap.IsSliceOf sl vl vu .none)(pl:IsPart vl lo)(pu:IsPart vu hi)
  (hw:¬ (sIx items.size 0 lo=0/\sIx items.size items.size hi=items.size))
  (h:Q (.ref s.heap.objs.size) { s with heap:=s.heap.push { cls:=.type "tuple",data:=.seq ((items.toList.drop (sIx items.size 0 lo)).take (sIx items.size items.size hi - sIx items.size 0 lo)).toArray } })
  (hsz:items.size<=sizeLine):wpAny (model prog w) A (getItem (.ref t) (.ref sl)) Q E s:=by
 have htake:sizeOk (.seq ((items.toList.drop (sIx items.size 0 lo)).take (sIx items.size items.size hi - sIx items.size 0 lo)).toArray):=by
  show ((items.toList.drop (sIx items.size 0 lo)).take (sIx items.size items.size hi - sIx items.size 0 lo)).toArray.size<=sizeLine
  rw [Pq,Qb,Uc,Tk]
  omega
 have hj:sIx items.size items.size hi<=items.size:=Znu _ _ (Po _) hi
 obtain ⟨os,hos,hcs,hds⟩:=id hs
 have hTs:s.TypeIs (.ref sl) "slice" := ⟨os,hos,hcs⟩
 unfold getItem
 try with_reducible refine Ql ?_
 first | refine Pl (Pm ?_) | skip
 refine Pl (wpAny_sequenceKey ht.typeIs (by decide) ?_)
 refine Pl (Ri (name:=Q5 "__getitem__") ht.typeIs Tg
  (Rm Tg ht.typeIs entry_tuple_getitem ?_ (args_tuple_getitem _ _)))
 show wpAny _ _ (Builtin.Tuple.tupleItemsOf (.ref t) >>= _) _ _ s
 refine Pl (tupleItemsOf_ ht ?_)
 refine Pl (T2 hTs ?_)
 rw [if_pos (by decide)]
 refine Pl (sliceApplied_gen hs pl pu ?_)
 have hno:¬ ((((sIx items.size 0 lo:Nat):Int) == 0 && (1:Int) == 1 && (sIx items.size items.size hi - sIx items.size 0 lo) == items.size)=true):=by
  intro q
  rw [Sr,Sr] at q
  have q1:((sIx items.size 0 lo:Nat):Int)=0:=eq_of_beq q.1.1
  have q2:sIx items.size items.size hi - sIx items.size 0 lo=items.size:=eq_of_beq q.2
  exact hw ⟨by omega,by omega⟩
 show wpAny _ _ (if (((sIx items.size 0 lo:Nat):Int) == 0 && (1:Int) == 1 && (sIx items.size items.size hi - sIx items.size 0 lo) == items.size)=true then _ else _) _ _ s
 rw [if_neg hno,Zts]
 first
  | exact Pl (m:=Uz _) (Rk (Pm ⟨_,rfl,Pm h⟩) htake)
  | exact Pl (m:=Uz _) (Rk (Pl (Pm (Pm ⟨_,rfl,Pm h⟩))) htake)
  | exact Pl (Pl (m:=Uz _) (Rk (Pm (Pm ⟨_,rfl,Pm h⟩)) htake))
  | exact Pl (Pl (m:=Uz _) (Rk (Pm ⟨_,rfl,Pm h⟩) htake))
end
end HT
namespace L2
open PySem PySem.Spec PyProof.Rows
noncomputable abbrev TO:=St->Hp->(Option Int->Hp->Prop)->Prop
noncomputable def PO (X:Cx)(e:Option Expr)(t:TO):Prop :=
 ∀(pins:List (Addr×Obj))(s:Shared)(σ:St)(H:Hp)(Q:Option Int->Hp->Prop),Inv X pins σ H s->t σ H Q ->
  wpAny (model X.prog X.w) X.A (evalPart e X.env) (fun u s'=>∃ o H',Inv X pins σ H' s'/\IsPart u o/\Q o H') X.xe s
noncomputable def Zas:TO:=fun _ H Q=>Q none H
noncomputable def Zbt (t:TE):TO:=fun σ H Q=>t σ H fun x H1=>∃ i,x=.int i/\Q (some i) H1
section
variable {X:Cx}{e:Expr}{te:TE}{lo hi:Option Expr}{tl th:TO}{pos p2:Pos}
theorem Zsb:PO X none Zas:=by
 intro pins s σ H Q I h
 rw [evalPart_none]
 exact Pm ⟨none,H,I,.none,h⟩
theorem Zqs (h:PE X e te):PO X (some e) (Zbt te):=by
 intro pins s σ H Q I hw
 rw [evalPart_some]
 refine Aj (h pins s σ H _ I hw) fun u s1 zq=>?_
 obtain ⟨x,H1,I1,r1,q1⟩:=zq
 obtain ⟨i,rfl,q⟩:=q1
 obtain ⟨t,rfl⟩:=r1
 exact ⟨some i,H1,I1,.int i t,q⟩
noncomputable def SlR (X:Cx)(r:V->Option Int->Option Int->Hp->VK->Prop):Prop :=
 ∀(pins:List (Addr×Obj))(s:Shared)(σ:St)(H:Hp)(x:V)(v vl vu:Value)(lo hi:Option Int)(sl:Addr)(Q:VK),Inv X pins σ H s->RelV x v->s.heap.IsSliceOf sl vl vu .none->IsPart vl lo->IsPart vu hi->r x lo hi H Q ->
  ∃ T id,typeLookup (.type T) "__getitem__" = pure (some (.builtin id))/\s.TypeIs v T/\wpAny (model X.prog X.w) X.A (getItem v (.ref sl)) (EP X pins σ Q) X.xe s
theorem SlR.or {r r':V->Option Int->Option Int->Hp->VK->Prop}(h:SlR X r)(h':SlR X r'):SlR X (fun x lo hi H Q=>r x lo hi H Q\/r' x lo hi H Q):=by
 intro pins s σ H x v vl vu lo hi sl Q I rx hs pl pu q
 rcases q with q | q
 ·exact h pins s σ H x v vl vu lo hi sl Q I rx hs pl pu q
 ·exact h' pins s σ H x v vl vu lo hi sl Q I rx hs pl pu q
noncomputable def tSl (r:V->Option Int->Option Int->Hp->VK->Prop)(te:TE)(tl th:TO):TE:=fun σ H Q=>te σ H fun x H1=>tl σ H1 fun l H2=>th σ H2 fun u H3=>r x l u H3 Q
theorem Zpi {r:V->Option Int->Option Int->Hp->VK->Prop}(hr:SlR X r)(he:PE X e te)(hl:PO X lo tl)(hu:PO X hi th):PE X (.Subscript e (.Slice lo hi none p2) pos) (tSl r te tl th):=by
 intro pins s σ H Q I h
 refine Subscript_ (Aj (he pins s σ H _ I h) fun v s1 zq=>?_)
 obtain ⟨x,H1,I1,r1,q1⟩:=zq
 refine wpAny_Slice (Aj (hl pins s1 σ H1 _ I1 q1) fun vl s2 zq=>?_)
 obtain ⟨l,H2,I2,pl,q2⟩:=zq
 refine Aj (hu pins s2 σ H2 _ I2 q2) fun vu s3 zq=>?_
 obtain ⟨u,H3,I3,pu,q3⟩:=zq
 rw [evalPart_none]
 refine Pm ?_
 have I4:Inv X pins σ H3 { s3 with heap:=s3.heap.push { cls:=.type "slice",data:=.fields #[vl,vu,.none] } }:=I3.kept (t':=s3.toks) fun b ob q=>Pp _ q
 obtain ⟨T,id,hT,ht,hg⟩:=hr pins { s3 with heap:=s3.heap.push { cls:=.type "slice",data:=.fields #[vl,vu,.none] } } σ H3 x v vl vu l u s3.heap.objs.size Q I4 r1 (Heap.IsSliceOf.new ..) pl pu q3
 show wpAny (model X.prog X.w) X.A (subscriptTail e (.Slice lo hi none p2) v (.ref s3.heap.objs.size)) (EP X pins σ Q) X.xe { s3 with heap:=s3.heap.push { cls:=.type "slice",data:=.fields #[vl,vu,.none] } }
 exact tail_any (ops:=[.ref s3.heap.objs.size,v]) ht hT hg (by with_unfolding_all rfl)
noncomputable def Ck (xs:List V)(lo hi:Option Int):List V:=(xs.drop (HT.sIx xs.length 0 lo)).take (HT.sIx xs.length xs.length hi - HT.sIx xs.length 0 lo)
theorem Zea (xs:List V)(lo hi:Option Int):(Ck xs lo hi).length<=xs.length:=by
 unfold Ck
 rw [Qb,Uc]
 omega
noncomputable def rSlT (K:Pk):V->Option Int->Option Int->Hp->VK->Prop:=fun x lo hi H Q=>∃ a xs,x=.ref a/\SqT K H a xs /\
 ¬ (HT.sIx xs.length 0 lo=0/\HT.sIx xs.length xs.length hi=xs.length)/\∀ p,H p=none->Q (.ref p) (upd H p (.tup (Ck xs lo hi)))
theorem Zdu:SlR X (rSlT X.K):=by
 intro pins s σ H x v vl vu lo hi sl Q I rx hs pl pu h
 obtain ⟨a,xs,rfl,hx,hw,q⟩:=h
 cases rx
 obtain ⟨its,r,ht,hz⟩:=I.tuple hx
 have hlen:its.toArray.size=xs.length:=by rw [Pq];exact r.length.symm
 refine ⟨"tuple",_,Tg.lookup,ht.typeIs,?_⟩
 refine HT.getItem_tuple_cut ht hs pl pu (by rw [hlen];exact hw) ?_ (by rw [hlen];exact hz)
 rw [hlen]
 refine ⟨.ref s.heap.objs.size,_,I.laid (t':=s.toks) (o:=.tup (Ck xs lo hi)) (fun b ob q=>Pp _ q) (Po _) ?_,rfl,q _ (I.hok.fresh (Po _))⟩
 exact ⟨Qr (Zea xs lo hi) hz,_,(r.drop (HT.sIx xs.length 0 lo)).take (HT.sIx xs.length xs.length hi - HT.sIx xs.length 0 lo),IsTup.new _ _⟩
noncomputable def Zlg (K:Pk):R2:=fun x y H Q=>∃ a b xs ys,x=.ref a/\y=.ref b/\SqT K H a xs/\SqT K H b ys/\xs≠[]/\xs.length+ys.length<=sizeLine /\
 (ys=[]->Q (.ref a) H)/\(ys≠[]->∀ p,H p=none->Q (.ref p) (upd H p (.tup (xs++ys))))
theorem Vals.nil_iff {xs:List V}{us:List Value}(r:Vals xs us):us=[]↔xs=[]:=by
 cases r with
 | nil=>simp
 | cons _ _=>simp
theorem Zh1:OpR X (binaryOp .Add) (Zlg X.K):=by
 intro pins s σ H x y v u Q I rx ry h
 obtain ⟨a,b,xs,ys,rfl,rfl,ha,hb,hx,hz,q1,q2⟩:=h
 cases rx
 cases ry
 obtain ⟨its,r1,p1,_⟩:=I.tuple ha
 obtain ⟨its2,r2,p2,_⟩:=I.tuple hb
 refine HT.cat_tup p1 p2 (fun z=>hx (r1.nil_iff.mp z)) (fun z=>⟨.ref a,H,I,rfl,q1 (r2.nil_iff.mp z)⟩) (fun z=>?_) (by rw [<- r1.length,<- r2.length];exact hz)
 refine ⟨.ref s.heap.objs.size,_,I.laid (t':=s.toks) (o:=.tup (xs++ys)) (fun b ob q=>Pp _ q) (Po _) ?_,rfl,q2 (fun w=>z (r2.nil_iff.mpr w)) _ (I.hok.fresh (Po _))⟩
 exact ⟨by rw [Px];exact hz,_,r1.append r2,IsTup.new _ _⟩
end
noncomputable def Dm (n:Nat)(i:Int):Option Nat:=if 0<=i then (if i < n then some i.toNat else none) else if -(n:Int)<=i then some (i+n).toNat else none
noncomputable def B4 {α:Type}(xs:List α)(i:Int):Option α:=(Dm xs.length i).bind fun j=>xs[j]?
theorem Zdy {n:Nat}{i:Int}{j:Nat}(h:Dm n i=some j):seqIndex? i n=some j/\j < n/\-(n:Int)<=i/\i < n:=by
 unfold Dm at h
 by_cases h0:0<=i
 ·rw [if_pos h0] at h
  by_cases h1:i < n
  ·rw [if_pos h1] at h
   have e:i.toNat=j:=P8 h
   exact ⟨by rw [seqIndex_of h0 h1,e],by omega,by omega,h1⟩
  ·rw [if_neg h1] at h;cases h
 ·rw [if_neg h0] at h
  by_cases h1:-(n:Int)<=i
  ·rw [if_pos h1] at h
   have e:(i+n).toNat=j:=P8 h
   exact ⟨by rw [seqIndex_neg (by omega) h1,e],by omega,h1,by omega⟩
  ·rw [if_neg h1] at h;cases h
theorem Zaf {α:Type}{xs:List α}{i:Int}{v:α}(h:B4 xs i=some v):∃ j,seqIndex? i xs.length=some j/\xs[j]?=some v/\j < xs.length/\-(xs.length:Int)<=i/\i < xs.length:=by
 unfold B4 at h
 cases e:Dm xs.length i with
 | none=>rw [e] at h;cases h
 | some j =>
  rw [e] at h
  obtain ⟨h1,h2,h3,h4⟩:=Zdy e
  exact ⟨j,h1,h,h2,h3,h4⟩
theorem Df {α:Type}{xs:List α}{j:Nat}{v:α}(h:xs[j]?=some v):B4 xs (j:Int)=some v:=by
 have hj:j < xs.length:=(Pt.mp h).1
 have e:Dm xs.length (j:Int)=some j:=by
  unfold Dm
  rw [if_pos (by omega),if_pos (by omega)];simp
 unfold B4;rw [e];exact h
theorem Gx {α:Type}(xs:List α)(v:α):B4 (xs++[v]) (-1)=some v:=by
 have hl:(xs++[v]).length=xs.length+1:=by simp
 have e:Dm (xs++[v]).length (-1)=some xs.length:=by
  unfold Dm
  rw [hl,if_neg (by decide),if_pos (by omega)]
  congr 1
  omega
 unfold B4
 rw [e]
 show (xs++[v])[xs.length]?=some v
 simp
noncomputable def Pg (b:Expr):Prop:=∀ o i,subscripted b false o i=operate [o,i] (getItem o i)
noncomputable def IxR (X:Cx)(r:R2):Prop :=
 ∀(value slice:Expr)(pins:List (Addr×Obj))(s:Shared)(σ:St)(H:Hp)(x y:V)(v u:Value)(Q:VK),Inv X pins σ H s->RelV x v->RelV y u->r x y H Q ->
  subscripted slice false v u=operate [v,u] (getItem v u)->wpAny (model X.prog X.w) X.A (subscriptTail value slice v u) (EP X pins σ Q) X.xe s
noncomputable def Jn (X:Cx)(id:String)(r:V->List V->Hp->VK->Prop):Prop :=
 ∀(pins:List (Addr×Obj))(s:Shared)(σ:St)(H:Hp)(x:V)(xs:List V)(v:Value)(us:List Value)(Q:VK),Inv X pins σ H s->RelV x v->Vals xs us->r x xs H Q ->
  wpAny (model X.prog X.w) X.A (call (.builtin id) (v::us)) (EP X pins σ Q) X.xe s
section
variable {X:Cx}{a b:Expr}{ta tb:TE}{pos:Pos}
theorem IxR.or {r r':R2}(h:IxR X r)(h':IxR X r'):IxR X (fun x y H Q=>r x y H Q\/r' x y H Q):=by
 intro value slice pins s σ H x y v u Q I rx ry q hs
 rcases q with q | q
 ·exact h value slice pins s σ H x y v u Q I rx ry q hs
 ·exact h' value slice pins s σ H x y v u Q I rx ry q hs
theorem Zqb {r:R2}(hr:IxR X r)(ha:PE X a ta)(hb:PE X b tb)(hs:Pg b):PE X (.Subscript a b pos) (Fe r ta tb):=by
 intro pins s σ H Q I h
 exact Subscript_ (Zcc ha hb I h fun v u s2 x y H2 I2 rx ry q=>hr a b pins s2 σ H2 x y v u Q I2 rx ry q (hs _ _))
noncomputable def rIxL (K:Pk):R2:=fun x y H Q=>∃ p xs i v,x=.ref p/\y=.int i/\SqL K H p xs/\B4 xs i=some v/\Q v H
noncomputable def rIxT (K:Pk):R2:=fun x y H Q=>∃ p xs i v,x=.ref p/\y=.int i/\SqT K H p xs/\B4 xs i=some v/\Q v H
noncomputable def rIxS:R2:=fun x y H Q=>∃ z i c,x=.str z/\y=.int i/\z.length<=sizeLine/\B4 z.cps.toList i=some c/\Q (.str ⟨#[c]⟩) H
theorem ix_list:IxR X (rIxL X.K):=by
 intro value slice pins s σ H x y v u Q I rx ry h hs
 obtain ⟨p,xs,i,z,rfl,rfl,hq,he,q⟩:=h
 cases rx
 obtain ⟨t,rfl⟩:=ry
 obtain ⟨its,r,pl,hz⟩:=I.list hq
 obtain ⟨j,h1,h2,h3,h4,h5⟩:=Zaf he
 obtain ⟨w,ew,rw'⟩:=r.get h2
 have hl:=r.length
 have hn:=Iu
 have fin:EP X pins σ Q w s:=⟨z,H,I,rw',q⟩
 by_cases h0:0<=i
 ·have hj:i.toNat=j:=by
   rw [seqIndex_of h0 h5] at h1
   exact P8 h1
  exact item_listR pl.isList h0 (by omega) (by rw [hj];simpa using ew) fin hs
 ·have hj:(i+(its.toArray.size:Int)).toNat=j:=by
   rw [seqIndex_neg (by omega) h4] at h1
   rw [Pq,<- hl]
   exact P8 h1
  exact subscriptTail_builtinR (x:=w) pl.isList.typeIs slot_list_getitem.lookup
   (wpAny_getItem_list_neg (Q:=fun r s'=>r=w/\EP X pins σ Q r s') pl.isList (by omega) (by rw [Pq] <;> omega) (by omega) (by rw [hj];simpa using ew) ⟨rfl,fin⟩) hs
theorem ix_tup:IxR X (rIxT X.K):=by
 intro value slice pins s σ H x y v u Q I rx ry h hs
 obtain ⟨p,xs,i,z,rfl,rfl,hq,he,q⟩:=h
 cases rx
 obtain ⟨t,rfl⟩:=ry
 obtain ⟨its,r,pl,hz⟩:=I.tuple hq
 obtain ⟨j,h1,h2,h3,h4,h5⟩:=Zaf he
 obtain ⟨w,ew,rw'⟩:=r.get h2
 have hl:=r.length
 have hn:=Iu
 have fin:EP X pins σ Q w s:=⟨z,H,I,rw',q⟩
 exact subscriptTail_builtinR (x:=w) pl.typeIs slot_tuple_getitem.lookup
  (getItem_tuple (j:=j) (Q:=fun r s'=>r=w/\EP X pins σ Q r s') pl (by omega) (by omega) (by rw [Pq,<- hl];exact h1) (by simpa using ew) ⟨rfl,fin⟩) hs
theorem Ztd:IxR X rIxS:=by
 intro value slice pins s σ H x y v u Q I rx ry h hs
 obtain ⟨z,i,c,rfl,rfl,hz,he,q⟩:=h
 obtain ⟨t,rfl⟩:=rx
 obtain ⟨t',rfl⟩:=ry
 obtain ⟨j,h1,h2,h3,h4,h5⟩:=Zaf he
 have hl:z.cps.toList.length=z.length:=by simp [Str.length]
 rw [hl] at h1 h4 h5
 have hn:=Iu
 exact tail_any (typeIs_str s z t) slot_str_getitem.lookup (getItem_str (c:=c) (by
  have e1:decide (i < -(2 ^ 63:Int))=false:=decide_eq_false (by omega)
  have e2:decide (i ≥ 2 ^ 63)=false:=decide_eq_false (by omega)
  rw [e1,e2,Vx]) (by rw [h1];simpa using h2) ⟨.str ⟨#[c]⟩,H,I.tok _,⟨_,rfl⟩,q⟩) hs
noncomputable def Ji (K:Pk):R2:=fun x y H Q=>rIxL K x y H Q\/rIxT K x y H Q\/rIxS x y H Q
theorem Zk6:IxR X (Ji X.K):=ix_list.or (ix_tup.or Ztd)
theorem Zqn (its:List Value)(n j:Nat)(u:Value):Qu (·.setIfInBounds j u) { cls:=.type "list",data:=.seq its.toArray n }={ cls:=.type "list",data:=.seq (its.set j u).toArray n }:=by
 simp [Qu]
theorem Inv.lst {pins:List (Addr×Obj)}{σ:St}{H:Hp}{s:Shared}{p:Addr}{xs:List V}(I:Inv X pins σ H s)(h:H p=some (.lst xs)) :
  ∃(its:List Value)(n:Nat),Vals xs its/\s.heap.get? p=some { cls:=.type "list",data:=.seq its.toArray n }/\xs.length<=sizeLine:=by
 obtain ⟨z,its,n,r,e⟩:=I.hok p _ h
 exact ⟨its,n,r,e,z⟩
theorem Inv.lstUpd {pins:List (Addr×Obj)}{σ:St}{H:Hp}{s:Shared}{p:Addr}{xs ys:List V}{its its':List Value}{n n':Nat}{f:Obj->Obj}(I:Inv X pins σ H s)(h:H p=some (.lst xs))
  (ho:s.heap.get? p=some { cls:=.type "list",data:=.seq its.toArray n }) (hf:f { cls:=.type "list",data:=.seq its.toArray n }={ cls:=.type "list",data:=.seq its'.toArray n' }) (r:Vals ys its') (hz:ys.length<=sizeLine) (t:Nat) :
  Inv X pins σ (upd H p (.lst ys)) { s with heap:=s.heap.update p f,toks:=t }:=by
 have e:(s.heap.update p f).get? p=some { cls:=.type "list",data:=.seq its'.toArray n' }:=by
  rw [Rt f ho (by rw [hf] <;> rfl),hf]
 refine I.write (x:=p) (e:=p) (by rw [h];trivial) (.inl rfl) (fun b u hb q=>(Q2 _ _ (Qa hb)).trans q) ⟨_,e⟩ ?_
 exact ⟨hz,its',n',r,e⟩
noncomputable def Zfz:V->V->V->Hp->(Hp->Prop)->Prop:=fun o i v H Q=>∃ p xs k j,o=.ref p/\i=.int k/\H p=some (.lst xs)/\Dm xs.length k=some j/\Q (upd H p (.lst (xs.set j v)))
theorem Zqj:Pe X Zfz:=by
 intro pins s σ H o i v ov iv u Q I ro ri rv h
 obtain ⟨p,xs,k,j,rfl,rfl,hp,hj,q⟩:=h
 cases ro
 obtain ⟨t,rfl⟩:=ri
 obtain ⟨its,n,r,ho,hz⟩:=I.lst hp
 obtain ⟨h1,h2,h3,h4⟩:=Zdy hj
 have hl:=r.length
 have hn:=Iu
 have I':Inv X pins σ (upd H p (.lst (xs.set j v))) { s with heap:=s.heap.update p (Qu (·.setIfInBounds j u)) } :=
  I.lstUpd hp ho (Zqn its n j u) (r.set rv j) (by rw [Qs];exact hz) s.toks
 by_cases h0:0<=k
 ·have hk:k.toNat=j:=by
   rw [seqIndex_of h0 h4] at h1
   exact P8 h1
  exact PySem.W.ki_setAt ho h0 (by omega) (by rw [Pq,<- hl];exact h4) (by rw [hk];exact ⟨_,I',q⟩)
 ·have hk:(k+(its.toArray.size:Int)).toNat=j:=by
   rw [seqIndex_neg (by omega) h3] at h1
   rw [Pq,<- hl]
   exact P8 h1
  exact PySem.W.ki_setBack ho (by omega) (by rw [Pq,<- hl];exact h3) (by omega) (by rw [hk];exact ⟨_,I',q⟩)
theorem Zq0 (lo hi:Option Int)(n:Nat):(sliceBounds lo hi none n).1=((HT.sIx n 0 lo:Nat):Int)/\(sliceBounds lo hi none n).2.1=((HT.sIx n n hi:Nat):Int)/\(sliceBounds lo hi none n).2.2=1:=by
 refine ⟨?_,?_,rfl⟩
 ·cases lo with
  | none=>simp [sliceBounds,HT.sIx]
  | some i =>
   simp only [sliceBounds,HT.sIx,Option.getD_none,show (1:Int) > 0 by decide,if_true]
   by_cases h:i < 0
   ·simp only [h,if_true] <;> omega
   ·simp only [h,if_false] <;> omega
 ·cases hi with
  | none=>simp [sliceBounds,HT.sIx]
  | some i =>
   simp only [sliceBounds,HT.sIx,Option.getD_none,show (1:Int) > 0 by decide,if_true]
   by_cases h:i < 0
   ·simp only [h,if_true] <;> omega
   ·simp only [h,if_false] <;> omega
theorem Zqw (its:List Value)(lo hi:Option Int):slicePick its.toArray lo hi none=((its.drop (HT.sIx its.length 0 lo)).take (HT.sIx its.length its.length hi - HT.sIx its.length 0 lo)).toArray:=by
 obtain ⟨h1,h2,h3⟩:=Zq0 lo hi its.toArray.size
 unfold slicePick
 rw [h1,h2,h3]
 simp only [sliceRange_one,pick_run,Pq] <;> rfl
noncomputable def Zac (K:Pk):V->Option Int->Option Int->Hp->VK->Prop:=fun x lo hi H Q=>∃ a xs,x=.ref a/\SqL K H a xs/\∀ p,H p=none->Q (.ref p) (upd H p (.lst (Ck xs lo hi)))
theorem sl_list:SlR X (Zac X.K):=by
 intro pins s σ H x v vl vu lo hi sl Q I rx hs pl pu h
 obtain ⟨a,xs,rfl,hx,q⟩:=h
 cases rx
 obtain ⟨its,r,ht,hz⟩:=I.list hx
 have hlen:=r.length
 refine ⟨"list",_,slot_list_getitem.lookup,ht.isList.typeIs,?_⟩
 refine wpAny_getItem_list_slice ht.isList hs pl pu .none (by simp) ?_ (by rw [Pq] <;> omega)
 rw [Zqw,<- hlen]
 refine ⟨.ref s.heap.objs.size,_,I.laid (t':=s.toks) (o:=.lst (Ck xs lo hi)) (fun b ob q=>Pp _ q) (Po _) ?_,rfl,q _ (I.hok.fresh (Po _))⟩
 exact ⟨Qr (Zea xs lo hi) hz,_,0,(r.drop (HT.sIx xs.length 0 lo)).take (HT.sIx xs.length xs.length hi - HT.sIx xs.length 0 lo),P5 _ rfl⟩
noncomputable def Cq:V->Bool
 | .non=>true
 | .bl _=>true
 | .int _=>true
 | .str _=>true
 | _=>false
noncomputable def Ea:V->V->Bool
 | .non,.non=>true
 | .bl a,.bl b=>a == b
 | .bl a,.int b=>(if a then 1 else 0) == b
 | .int a,.bl b=>a == (if b then 1 else 0)
 | .int a,.int b=>a == b
 | .str a,.str b=>a == b
 | _,_=>false
theorem Zbj {A:Around}{s:Shared}{y x:V}{u v:Value}(ry:RelV y u)(rx:RelV x v)(fy:Cq y=true)(fx:Cq x=true):Qc A s u v (Ea y x):=by
 cases y with
 | non =>
  cases ry
  cases x with
  | non=>cases rx;exact W5 _
  | bl b=>cases rx;exact Qc.none_bool b
  | int b=>obtain ⟨t,rfl⟩:=rx;exact Qc.none_int b t
  | str b=>obtain ⟨t,rfl⟩:=rx;exact Qc.none_str b t
  | _=>exact absurd (show false=true from fx) P6
 | bl a =>
  cases ry
  cases x with
  | non=>cases rx;exact Qc.bool_none a
  | bl b=>cases rx;exact Qc.bool_bool a b
  | int b=>obtain ⟨t,rfl⟩:=rx;exact Qc.bool_int a b t
  | str b=>obtain ⟨t,rfl⟩:=rx;exact Qc.bool_str a b t
  | _=>exact absurd (show false=true from fx) P6
 | int a =>
  obtain ⟨t',rfl⟩:=ry
  cases x with
  | non=>cases rx;exact Qc.int_none a t'
  | bl b=>cases rx;exact Qc.int_bool a t' b
  | int b=>obtain ⟨t,rfl⟩:=rx;exact Qc.int_int a t' b t
  | str b=>obtain ⟨t,rfl⟩:=rx;exact Qc.int_str a t' b t
  | _=>exact absurd (show false=true from fx) P6
 | str a =>
  obtain ⟨t',rfl⟩:=ry
  cases x with
  | non=>cases rx;exact Qc.str_none a t'
  | bl b=>cases rx;exact Qc.str_bool a t' b
  | int b=>obtain ⟨t,rfl⟩:=rx;exact Qc.str_int a t' b t
  | str b=>obtain ⟨t,rfl⟩:=rx;exact Qc.str_str a t' b t
  | _=>exact absurd (show false=true from fx) P6
 | _=>exact absurd (show false=true from fy) P6
noncomputable def Fp (x:V)(u:Value):Bool:=match u with
 | .none=>Ea .non x
 | .bool b=>Ea (.bl b) x
 | .int i _=>Ea (.int i) x
 | .str z _=>Ea (.str z) x
 | _=>false
theorem Zc6 {x y:V}{u:Value}(r:RelV y u)(f:Cq y=true):Fp x u=Ea y x:=by
 cases y with
 | non=>cases r;rfl
 | bl b=>cases r;rfl
 | int i=>obtain ⟨t,rfl⟩:=r;rfl
 | str z=>obtain ⟨t,rfl⟩:=r;rfl
 | _=>exact absurd (show false=true from f) P6
theorem Ny {x:V}:∀{xs:List V}{us:List Value},Vals xs us->xs.all Cq=true->us.any (Fp x)=xs.any fun y=>Ea y x
 | _,_,.nil,_=>rfl
 | y::xs,u::us,.cons r t,f=>by
  rw [Vy,Sr] at f
  rw [Up,Up,Zc6 r f.1,Ny t f.2]
theorem Zaa {A:Around}{s:Shared}{x:V}{v:Value}(rx:RelV x v)(fx:Cq x=true):∀{xs:List V}{us:List Value},Vals xs us->xs.all Cq=true->∀ u∈us,Qc A s u v (Fp x u)
 | _,_,.nil,_=>fun u hu=>by cases hu
 | y::xs,u::us,.cons r t,f=>fun u' hu=>by
  rw [Vy,Sr] at f
  rcases Pu.mp hu with rfl | hu
  ·rw [Zc6 r f.1];exact Zbj r rx f.1 fx
  ·exact Zaa rx fx t f.2 u' hu
noncomputable def Fx (x:V)(xs:List V):Bool:=xs.any fun y=>Ea y x
noncomputable def rIn (K:Pk)(neg:Bool):R2:=fun x y H Q=>∃ p xs,y=.ref p/\(SqL K H p xs\/SqT K H p xs)/\Cq x=true/\xs.all Cq=true/\Q (.bl (if neg then !Fx x xs else Fx x xs)) H
theorem op_in_seq:OpR X (compareOp .In) (rIn X.K false):=by
 intro pins s σ H x y v u Q I rx ry h
 obtain ⟨p,xs,rfl,hq,fx,fs,q⟩:=h
 cases ry
 rcases hq with hq | hq
 ·obtain ⟨its,r,pl,hz⟩:=I.list hq
  refine SeqAt.in_listAt (Fp x) pl.isList (fun w hw=>Zaa rx fx r fs w (by simpa using hw)) ⟨.bl _,H,I,rfl,?_⟩
  rw [show its.toArray.any (Fp x)=its.any (Fp x) by simp,Ny r fs]
  exact q
 ·obtain ⟨its,r,pl,hz⟩:=I.tuple hq
  refine SeqAt.in_tupleAt (Fp x) pl (fun w hw=>Zaa rx fx r fs w (by simpa using hw)) ⟨.bl _,H,I,rfl,?_⟩
  rw [show its.toArray.any (Fp x)=its.any (Fp x) by simp,Ny r fs]
  exact q
theorem Zpc:Cd X (.type "list") (fun xs H Q=>∃ p ys,xs=[.ref p]/\(SqL X.K H p ys\/SqT X.K H p ys)/\∀ l,H l=none->Q (.ref l) (upd H l (.lst ys))):=by
 intro pins s σ H xs us Q I r h
 obtain ⟨p,ys,rfl,hq,q⟩:=h
 obtain ⟨u,rfl,rx⟩:=Jg r
 cases rx
 have fin:∀(its:List Value),Vals ys its->ys.length<=sizeLine->∀(h':Heap)(c':Nat),(∀ b o',s.heap.get? b=some o'->h'.get? b=some o') ->
   h'.get? s.heap.objs.size=some { cls:=.type "list",dict:=none,data:=.seq its.toArray c',slots:=#[] }->EP X pins σ Q (.ref s.heap.objs.size) { s with heap:=h' }:=fun its r' hz h' c' kp e =>
  ⟨.ref s.heap.objs.size,_,I.laid (t':=s.toks) kp (Po _) (show ObjOk X.prog X.w _ h' _ (.lst ys) from ⟨hz,its,c',r',e⟩),rfl,q _ (I.hok.fresh (Po _))⟩
 rcases hq with hq | hq
 ·obtain ⟨its,r',pl,hz⟩:=I.list hq
  have hlen:=r'.length
  obtain ⟨o,ho,hc,n,hd⟩:=pl.isList
  exact call_list_seq p (.inl rfl) ho hc hd (fun h' c' kp e=>fin its r' hz h' c' kp e) (by simp only [Pq] <;> omega)
 ·obtain ⟨its,r',pl,hz⟩:=I.tuple hq
  have hlen:=r'.length
  obtain ⟨o,ho,hc,n,hd⟩:=pl
  exact call_list_seq p (.inr rfl) ho hc hd (fun h' c' kp e=>fin its r' hz h' c' kp e) (by simp only [Pq] <;> omega)
theorem Zre:Cd X (.type "tuple") (fun xs H Q=>∃ p ys,xs=[.ref p]/\((SqL X.K H p ys/\∀ l,H l=none->Q (.ref l) (upd H l (.tup ys)))\/(SqT X.K H p ys/\Q (.ref p) H))):=by
 intro pins s σ H xs us Q I r h
 obtain ⟨p,ys,rfl,h⟩:=h
 obtain ⟨u,rfl,rx⟩:=Jg r
 cases rx
 rcases h with ⟨hq,q⟩ | ⟨hq,q⟩
 ·obtain ⟨its,r',pl,hz⟩:=I.list hq
  have hlen:=r'.length
  refine call_tuple_list pl.isList (fun h' kp=>?_) (by simp only [Pq] <;> omega)
  have I1:Inv X pins σ H { s with heap:=h' }:=I.kept (t':=s.toks) kp
  have I2:Inv X pins σ (upd H h'.objs.size (.tup ys)) { s with heap:=h'.push { cls:=.type "tuple",data:=.seq its.toArray } } :=
   I1.laid (t':=s.toks) (fun b o e=>Pp _ e) (Po _) (show ObjOk X.prog X.w _ _ _ (.tup ys) from ⟨hz,its,r',IsTup.new _ _⟩)
  exact ⟨.ref h'.objs.size,_,I2,rfl,q _ (I1.hok.fresh (Po _))⟩
 ·obtain ⟨its,r',pl,hz⟩:=I.tuple hq
  exact call_tuple_same pl ⟨.ref p,H,I,rfl,q⟩
noncomputable def Jf (K:Pk)(T:String)(x:V)(H:Hp):Prop:=match x with
 | .str _=>T = "str"
 | .int _=>T = "int"
 | .ref p=>(T = "list" /\ ∃ xs,SqL K H p xs)\/(T = "tuple" /\ ∃ o,K.lookup p=some o/\o.cls=.type "tuple" /\ o.dict=none) \/
   (T = "dict" /\ ((∃ kvs,H p=some (.dK kvs))\/∃ kvs,H p=some (.dT kvs)))\/(T = "set" /\ ∃ S n,H p=some (.set S n))
 | _=>False
theorem Ze2 {pins:List (Addr×Obj)}{σ:St}{H:Hp}{s:Shared}{T:String}{x:V}{v:Value}(I:Inv X pins σ H s)(r:RelV x v)(ty:Jf X.K T x H) :
  s.TypeIs v T/\∀ a,v=.ref a->∃ ob,s.heap.get? a=some ob/\ob.dict=none:=by
 cases x with
 | str z =>
  obtain ⟨t,rfl⟩:=r
  cases (show T = "str" from ty)
  exact ⟨typeIs_str s z t,fun _ e=>nomatch e⟩
 | int i =>
  obtain ⟨t,rfl⟩:=r
  cases (show T = "int" from ty)
  exact ⟨typeIs_int s i t,fun _ e=>nomatch e⟩
 | ref p =>
  cases r
  rcases ty with ⟨rfl,xs,hq⟩ | ⟨rfl,o,hk,hc,hd⟩ | ⟨rfl,hk⟩ | ⟨rfl,S,n,hk⟩
  ·obtain ⟨its,_,pl,_⟩:=I.list hq
   refine ⟨pl.isList.typeIs,fun a e=>?_⟩
   cases e
   obtain ⟨o,n,e,c,hd,_⟩:=pl
   exact ⟨o,e,hd⟩
  ·refine ⟨⟨o,I.kIn p o hk,hc⟩,fun a e=>?_⟩
   cases e
   exact ⟨o,I.kIn _ o hk,hd⟩
  ·have z:∃ o,s.heap.get? p=some o/\o.ExactDict:=by
    rcases hk with ⟨kvs,hk⟩ | ⟨kvs,hk⟩
    ·obtain ⟨_,_,_,_,o,_,_,e,ex,_⟩:=I.hok p _ hk
     exact ⟨o,e,ex⟩
    ·obtain ⟨_,_,_,_,o,_,_,e,ex,_⟩:=I.hok p _ hk
     exact ⟨o,e,ex⟩
   obtain ⟨o,e,ex⟩:=z
   refine ⟨⟨o,e,ex.1⟩,fun a e2=>?_⟩
   cases e2
   exact ⟨o,e,ex.2.1⟩
  ·obtain ⟨o,_,_,_,e,ex,_⟩:=I.hok p _ hk
   refine ⟨⟨o,e,ex.1⟩,fun a e2=>?_⟩
   cases e2
   exact ⟨o,e,ex.2.1⟩
 | _=>exact Qh ty
noncomputable def Mc (K:Pk)(T:String)(r:V->List V->Hp->VK->Prop)(to:TE):TE:=fun σ H Q=>to σ H fun x H1=>Jf K T x H1/\r x [] H1 Q
noncomputable def tBM (K:Pk)(T:String)(r:V->List V->Hp->VK->Prop)(to:TE)(t:TA):TE:=fun σ H Q=>to σ H fun x H1=>Jf K T x H1/\t σ H1 fun xs H2=>r x xs H2 Q
variable {o e:Expr}{es:List Expr}{to:TE}{t:TA}{name:Str}{apos cpos:Pos}{T id:String}{r:V->List V->Hp->VK->Prop}
theorem Zkn (pa:PlainAttrs T)(slot:Slot T name id)(hty:typeOf (.builtin id)=pure (.type "method_descriptor"))(hm:Jn X id r)(ho:PE X o to)
  (hbase:attributeBase o name X.env (eval o X.env)=eval o X.env:=by rfl) (hline:(apos.endLine == cpos.line)=true:=by rfl):PE X (.Call (.Attribute o name apos) [] [] cpos) (Mc X.K T r to):=by
 intro pins s σ H Q I h
 refine wpAny_Call_method0_late hbase hline (Aj (ho pins s σ H _ I h) fun v s1 zq=>?_)
 obtain ⟨x,H1,I1,r1,ty,q1⟩:=zq
 obtain ⟨h1,h2⟩:=Ze2 I1 r1 ty
 exact ⟨T,id,pa,slot,hty,h1,h2,U5 rfl (PySem.evalArgs_none (hm pins s1 σ H1 x [] v [] Q I1 r1 .nil q1))⟩
theorem Zj6 (pa:PlainAttrs T)(slot:Slot T name id)(hty:typeOf (.builtin id)=pure (.type "method_descriptor"))(hm:Jn X id r)(ho:PE X o to)(ha:PA X (e::es) t)
  (hbase:attributeBase o name X.env (eval o X.env)=eval o X.env:=by rfl)
  (hfew:((backTo cpos (starEach (e::es) X.env)).all (fun x=>!x.1) && (backToKw cpos (keywordEach [] X.env)).all (fun x=>x.1.isSome)
   && decide ((e::es).length+([]:List Keyword).length+(if ([]:List Keyword).isEmpty then 0 else 1) < 30))=true:=by rfl)
  (hline:(apos.endLine == cpos.line)=true:=by rfl) (hs:starEach (e::es) X.env=(false,eval e X.env)::starEach es X.env:=by rfl) (hplain:(backTo cpos (starEach es X.env)).any (·.1)=false:=by rfl) :
  PE X (.Call (.Attribute o name apos) (e::es) [] cpos) (tBM X.K T r to t):=by
 intro pins s σ H Q I h
 refine wpAny_Call_method_late hbase hfew hline rfl (Aj (ho pins s σ H _ I h) fun v s1 zq=>?_)
 obtain ⟨x,H1,I1,r1,ty,q1⟩:=zq
 obtain ⟨h1,h2⟩:=Ze2 I1 r1 ty
 refine ⟨T,id,pa,slot,hty,h1,h2,?_⟩
 have hA:=ha cpos pins s1 σ H1 _ I1 q1
 rw [hs] at hA ⊢
 refine U5 (by show (false || (backTo cpos (starEach es X.env)).any (·.1))=false;rw [hplain] <;> rfl) (Vc ?_)
 exact Aj hA fun us s2 ⟨vs,H2,I2,r2,q2⟩=>hm pins s2 σ H2 x vs v us Q I2 r1 r2 q2
end
noncomputable def MtM (X:Cx)(id:String)(r:V->List V->Hp->VK->Prop):Prop :=
 ∀(pins:List (Addr×Obj))(s:Shared)(σ:St)(H:Hp)(x:V)(xs:List V)(v:Value)(us:List Value)(Q:VK),Inv X pins σ H s->RelV x v->Vals xs us->r x xs H Q ->
  wpAny (model X.prog X.w) X.A (call (.builtin id) (v::us)) (EP X pins σ Q) X.xe s
theorem Vals.one:∀{x:V}{us:List Value},Vals [x] us->∃ u,us=[u]/\RelV x u
 := fun h=>by
 cases h with
 | cons r t =>
 cases t
 exact ⟨_,rfl,r⟩
theorem Vals.two:∀{x y:V}{us:List Value},Vals [x,y] us->∃ u v,us=[u,v]/\RelV x u/\RelV y v
 := fun h=>by
 cases h with
 | cons r t =>
 cases t with
 | cons q z =>
 cases z
 exact ⟨_,_,rfl,r,q⟩
theorem Vals.zero:∀{us:List Value},Vals [] us->us=[]
 | _,.nil=>rfl
theorem Vals.dropLast {xs:List V}{us:List Value}(h:Vals xs us):Vals xs.dropLast us.dropLast:=by
 induction h with
 | nil=>exact .nil
 | cons r t ih =>
  cases t with
  | nil=>exact .nil
  | cons q t'=>exact .cons r ih
theorem Vals.rep {xs:List V}{us:List Value}(h:Vals xs us):∀ k:Nat,Vals (Qt k xs).flatten (Qt k us).flatten
 | 0=>.nil
 | k+1=>by
  rw [Tl,Tl,Ub,Ub]
  exact Vals.append h (Vals.rep h k)
theorem Zqo {α:Type}(l:List α):l.eraseIdx (l.length - 1)=l.dropLast:=by
 induction l with
 | nil=>rfl
 | cons a r ih =>
  cases r with
  | nil=>rfl
  | cons b r =>
   have e:(a::b::r).length - 1=((b::r).length - 1)+1:=by
    have h1:(a::b::r).length=r.length+2:=rfl
    have h2:(b::r).length=r.length+1:=rfl
    omega
   rw [e,List.eraseIdx_cons_succ,ih]
   all_goals rfl
theorem Zhc (its:List Value):∀(k:Nat)(acc:List Value),
  List.foldl (fun x1 x2=>x1++x2) acc.toArray (Qt k its.toArray)=(acc++(Qt k its).flatten).toArray
 | 0,acc=>by simp
 | k+1,acc=>by
  have e:acc.toArray++its.toArray=(acc++its).toArray:=by simp
  have e2:(acc++its)++(Qt k its).flatten=acc++(Qt (k+1) its).flatten:=by
   rw [Tl,Ub,Rl]
  rw [<- e2,<- Zhc its k (acc++its),<- e,Tl,List.foldl_cons]
section
variable {X:Cx}{pins:List (Addr×Obj)}{σ:St}{H:Hp}{s:Shared}{l b:Addr}{xs ys zs:List V}
theorem Inv.lset {its its':List Value}{n:Nat}{f:Array Value->Array Value}{t':Nat}(I:Inv X pins σ H s)(hH:H l=some (.lst xs))
  (e:s.heap.get? l=some { cls:=.type "list",data:=.seq its.toArray n }) (hf:f its.toArray=its'.toArray) (hv:Vals ys its') (hz:ys.length<=sizeLine) :
  Inv X pins σ (upd H l (.lst ys)) { s with heap:=s.heap.update l (Qu f),toks:=t' }:=by
 have q:=PySem.IsL.update e f
 rw [hf] at q
 refine I.write (x:=l) (e:=l) (by rw [hH];exact trivial) (.inl rfl) (fun b' u hb hu=>(Q2 s.heap (Qu f) (Qa hb)).trans hu) ⟨_,q⟩ ?_
 exact ⟨hz,its',_,hv,q⟩
theorem Inv.lnew {its:List Value}{t':Nat}(I:Inv X pins σ H s)(hv:Vals ys its)(hz:ys.length<=sizeLine) :
  Inv X pins σ (upd H s.heap.objs.size (.lst ys)) { s with heap:=s.heap.push { cls:=.type "list",data:=.seq its.toArray },toks:=t' } :=
 I.laid (fun _ _ q=>Pp _ q) (Po _) ⟨hz,its,0,hv,P5 _ rfl⟩
theorem Inv.fresh (I:Inv X pins σ H s):H s.heap.objs.size=none:=I.hok.fresh (Po _)
theorem Inv.lstM (I:Inv X pins σ H s)(hH:H l=some (.lst xs)):xs.length<=sizeLine/\∃(its:List Value)(n:Nat),Vals xs its/\xs.length=its.length/\s.heap.get? l=some { cls:=.type "list",data:=.seq its.toArray n }:=by
 obtain ⟨z,its,n,r,e⟩:=I.hok l _ hH
 exact ⟨z,its,n,r,r.length,e⟩
theorem Zat {n:Nat}(h:n<=sizeLine):Th n=false:=by
 unfold Th
 exact decide_eq_false (by omega)
end
section
variable {X:Cx}
noncomputable def Zdc:V->List V->Hp->VK->Prop:=fun x vs H Q=>∃ l xs y,x=.ref l/\vs=[y]/\H l=some (.lst xs)/\xs.length < sizeLine/\Q .non (upd H l (.lst (xs++[y])))
theorem D4:MtM X "list.append" Zdc:=by
 intro pins s σ H x vs v us Q I rx rv h
 obtain ⟨l,xs,y,rfl,rfl,hH,hz,q⟩:=h
 cases rx
 obtain ⟨u,rfl,ru⟩:=rv.one
 obtain ⟨z,its,n,r,hl,e⟩:=I.lstM hH
 refine Tc F.slot_list_append ⟨_,e,rfl⟩ F.entry_list_append (F.args_list_append_2 _ _) (PySem.list_append l its.toArray n u (by rw [Pq];omega)) ⟨e,?_⟩
 refine ⟨.non,_,I.lset (its':=its++[u]) hH e (by simp) (r.append (.cons ru .nil)) ?_,rfl,q⟩
 rw [Px,Qm]
 omega
noncomputable def Zgl:V->List V->Hp->VK->Prop:=fun x vs H Q=>∃ l b xs zs,x=.ref l/\vs=[.ref b]/\H l=some (.lst xs)/\H b=some (.lst zs)/\xs.length+zs.length<=sizeLine/\Q .non (upd H l (.lst (xs++zs)))
theorem Zpn:MtM X "list.extend" Zgl:=by
 intro pins s σ H x vs v us Q I rx rv h
 obtain ⟨l,b,xs,zs,rfl,rfl,hH,hB,hz,q⟩:=h
 cases rx
 obtain ⟨u,rfl,ru⟩:=rv.one
 cases ru
 obtain ⟨z,its,n,r,hl,e⟩:=I.lstM hH
 obtain ⟨z2,its2,n2,r2,hl2,e2⟩:=I.lstM hB
 have hsz:its.toArray.size+its2.toArray.size<=sizeLine:=by rw [Pq,Pq];omega
 have hlong:¬ (!its.toArray.isEmpty && Th (its.toArray.size+its2.toArray.size))=true:=by
  rw [Zat hsz,Bool.and_false]
  exact P6
 refine Tc F.slot_list_extend ⟨_,e,rfl⟩ F.entry_list_extend (F.args_list_extend_2 _ _)
  (AutoSeq1.list_extend_list_list_0 l its.toArray n b its2.toArray n2 hlong (by rw [Pq];omega) (by omega)) ⟨e,e2,?_⟩
 refine ⟨.non,_,I.lset (its':=its++its2) hH e (by simp) (r.append r2) ?_,rfl,q⟩
 rw [Px]
 omega
noncomputable def rPop:V->List V->Hp->VK->Prop:=fun x vs H Q=>∃ l xs y,x=.ref l/\vs=[]/\H l=some (.lst xs)/\xs[xs.length - 1]?=some y/\Q y (upd H l (.lst xs.dropLast))
theorem Md:MtM X "list.pop" rPop:=by
 intro pins s σ H x vs v us Q I rx rv h
 obtain ⟨l,xs,y,rfl,rfl,hH,hy,q⟩:=h
 cases rx
 have hus:=rv.zero
 subst hus
 obtain ⟨z,its,n,r,hl,e⟩:=I.lstM hH
 obtain ⟨u,hu,ru⟩:=r.get hy
 have hy':its.toArray[its.toArray.size - 1]?=some u:=by
  show its.toArray[its.length - 1]?=some u
  rw [<- Array.getElem?_toList,<- hl]
  exact hu
 refine Tc F.slot_list_pop ⟨_,e,rfl⟩ F.entry_list_pop (F.args_list_pop_1 _) (MeetsSeq.list_pop_last l its.toArray n u hy' (by rw [Pq];omega)) ⟨e,?_⟩
 refine ⟨y,_,I.lset (its':=its.dropLast) hH e ?_ r.dropLast ?_,ru,q⟩
 ·show its.toArray.eraseIdxIfInBounds (its.toArray.size - 1)=its.dropLast.toArray
  rw [Pq,List.eraseIdxIfInBounds_toArray,Zqo]
 ·rw [List.length_dropLast]
  omega
noncomputable def rCat:R2:=fun x y H Q=>∃ l b xs zs,x=.ref l/\y=.ref b/\H l=some (.lst xs)/\H b=some (.lst zs)/\xs.length+zs.length<=sizeLine/\∀ p,H p=none->Q (.ref p) (upd H p (.lst (xs++zs)))
theorem op_cat:OpR X (binaryOp .Add) rCat:=by
 intro pins s σ H x y v u Q I rx ry h
 obtain ⟨l,b,xs,zs,rfl,rfl,hH,hB,hz,q⟩:=h
 cases rx
 cases ry
 obtain ⟨z,its,n,r,hl,e⟩:=I.lstM hH
 obtain ⟨z2,its2,n2,r2,hl2,e2⟩:=I.lstM hB
 refine PySem.P.add_list e e2 ?_ (by rw [Pq,Pq];omega)
 have ea:its.toArray++its2.toArray=(its++its2).toArray:=by simp
 rw [ea]
 exact ⟨.ref _,_,I.lnew (t':=s.toks) (r.append r2) (by rw [Px];omega),rfl,q _ I.fresh⟩
noncomputable def rRep:R2:=fun x y H Q=>∃ l k xs,x=.ref l/\y=.int k/\H l=some (.lst xs)/\-(2 ^ 63)<=k/\k < 2 ^ 63/\xs.length * k.toNat<=sizeLine /\
 ∀ p,H p=none->Q (.ref p) (upd H p (.lst (Qt k.toNat xs).flatten))
theorem Zrd {α:Type}(xs:List α)(k:Nat):(Qt k xs).flatten.length=k * xs.length:=by
 induction k with
 | zero=>simp
 | succ k ih=>rw [Tl,Ub,Px,ih,Nat.succ_mul,Nat.add_comm]
theorem Zom:OpR X (binaryOp .Mult) rRep:=by
 intro pins s σ H x y v u Q I rx ry h
 obtain ⟨l,k,xs,rfl,rfl,hH,h1,h2,hz,q⟩:=h
 cases rx
 obtain ⟨t,rfl⟩:=ry
 obtain ⟨z,its,n,r,hl,e⟩:=I.lstM hH
 have hlen:its.toArray.size * k.toNat<=sizeLine:=by rw [Pq,<- hl];exact hz
 have hcap:¬ its.toArray.size * k.toNat > (2 ^ 63 - 1) / 8:=by
  have:(sizeLine:Nat)<=(2 ^ 63 - 1) / 8:=by decide
  omega
 have hfit:¬ (!Builtin.List.listFitsIndex k)=true:=by
  rw [fitsIndex_both h1 h2]
  exact P6
 have hlong:¬ Th (its.toArray.size * k.toNat)=true:=by
  rw [Zat hlen]
  exact P6
 have hnew:List.foldl (fun x1 x2=>x1++x2) #[] (Qt (if its.toArray.isEmpty=true then 0 else k.toNat) its.toArray)=(Qt k.toNat its).flatten.toArray:=by
  have f0:∀ m:Nat,List.foldl (fun x1 x2=>x1++x2) #[] (Qt m its.toArray)=(Qt m its).flatten.toArray:=fun m=>by
   have:=Zhc its m []
   rw [W6] at this
   exact this
  rw [f0]
  cases its with
  | nil=>simp
  | cons a r'=>rw [if_neg (by simp)]
 refine wpAny_binaryOp_repeat_ref (T := "list") (U := "int") (by decide) ⟨_,e,rfl⟩ (fun s'=>typeIs_int s' k t) noFill_list_mul F.fills_int_mul F.slot_int_rmul repeat_list F.slot_int_index.lookup
  (Tc F.slot_int_rmul (typeIs_int s k t) F.entry_int_rmul (F.args_int_rmul_2 _ _) (int___rmul___int_list k t l its.toArray n)
   ⟨e,rfl,⟨_,e,rfl⟩,Tc F.slot_list_mul ⟨_,e,rfl⟩ F.entry_list_mul (F.args_list_mul_2 _ _) (AutoListH.list___mul___list_int_3 l its.toArray n k t hfit hcap hlong) ⟨e,?_⟩⟩)
 rw [hnew]
 exact ⟨.ref _,_,I.lnew (t':=s.toks) (r.rep k.toNat) (by rw [Zrd,Nat.mul_comm];exact hz),rfl,q _ I.fresh⟩
end
section
variable {prog:Program}{w:World}{A:Around}{E:Value->Shared->Prop}{s:Shared}
end
section
variable {X:Cx}
end
end L2
namespace Att
open PySem PySem.W PySem.Calls PyProof.Rows
theorem Ziu {P:Params}{h:Heap}:∀(ns:List Int)(vs:List Value),WellAll P h vs (ns.map WData.int)->IntsAre vs ns:=by
 intro ns
 induction ns with
 | nil =>
  intro vs w
  rw [List.map_nil] at w
  cases w
  exact .nil
 | cons n ns ih =>
  intro vs w
  rw [Rv] at w
  cases w with
  | cons a b =>
   cases a
   exact .cons _ _ (ih _ b)
theorem Zmx {l:OpenLaw}{n:Nat}(hn:l.most=some n){P:Params}{h:Heap}{args:List WData}{vals:List Value}
  (hpre:l.row.toRowW.claim.pre args=true) (hwl:WellAll P h vals args) :
  ∃ a vs ns,vals=[Value.ref a]/\args=[WData.list (ns.map WData.int)]/\h.get? a=some { cls:=.type "list",data:=.seq vs.toArray }/\IntsAre vs ns/\ns.length<=n:=by
 have hsh:WShape.hasAll [] args [.list .int]=true:=(pre_splitW hpre).1
 have hc:l.pre.holds [] { args:=args }=true:=(pre_splitW hpre).2
 obtain ⟨d,r,rfl,h1,h2⟩:=hasAllW_cons hsh
 obtain rfl:=hasAllW_nil h2
 obtain ⟨xs,rfl,h3⟩:=hasW_list h1
 obtain ⟨ns,rfl⟩:=items_int h3
 have hlen:ns.length<=n:=by
  unfold OpenLaw.pre at hc
  have h4:(WTm.not (.lt (.lit (.int (n:Int))) (.len (.arg 0)))).holds [] { args:=[.list (ns.map .int)] }=true:=by
   have h4:=(holds_andW hc).1
   rw [hn] at h4
   exact h4
  have h5:=condW_of h4 (w_not (w_lt w_lit (w_len_list (w_arg rfl))))
  rw [Pw] at h5
  refine Nat.le_of_not_lt fun q=>?_
  have q':(n:Int) < ((ns.length:Nat):Int):=by omega
  first
   | (rw [decide_eq_true q'] at h5;exact absurd h5 (by decide))
   | (simp at h5;omega)
 cases hwl with
 | cons w1 w2 =>
  cases w2
  cases w1 with
  | list ho hall=>exact ⟨_,_,ns,rfl,rfl,ho,Ziu ns _ hall,hlen⟩
theorem Zn6 (l:OpenLaw)(args:List WData):l.row.toRowW.claim.post args (.bool true) args=true :=
 postW_of (r:=l.row.toRowW) (X:=(true == true))
  (show WShape.has [] (.bool true) .bool=true by first | rfl | decide | simp [WShape.has,WShape.arms,WShape.armsAll])
  (show (WTm.eq .res (.lit (.bool true))).value [] { args:=args,res:=some (.bool true),after:=args }=some (.bool (true == true)) from w_eq_bool (w_res rfl) w_lit) rfl
theorem attach_call {l:OpenLaw}{n:Nat}{q:Program}{loose:List Str}{XP:(Str->Option Value)->Heap->Prop}{YP:World->Heap->Prop}{d:DefRec}
  (hn:l.most=some n) (hdf:d.params.defaults=[])
  (call:∀(w:World)(s₀ s₁:Shared)(mg mb:Str->Option Value)(fa:Addr)(o:Obj)(pm cd doc:Value)(a:Addr)(vs:List Value)(ns:List Int),
   Ground q loose [] XP w s₀ mg mb s₁.heap->YP w s₁.heap ->
   s₁.heap.get? fa=some o->o.data=.func (docDef d.name d.params d.body d.scope pm cd doc)->s₁.heap.CodeRec cd d.name->mg d.name=some (.ref fa) ->
   s₁.heap.get? a=some { cls:=.type "list",data:=.seq vs.toArray }->IntsAre vs ns->ns.length<=n->s₁.gens=#[] ->
   codeAny (model l.prog w) callerA (.call (.ref fa) ⟨[.ref a],[]⟩) (fun r s'=>r=.ok (.ret (.bool true))/\OldK s₁.heap s'.heap/\s'.os=s₁.os/\AllBare s'.gens) s₁) :
  WalkO q loose XP YP l.row.toRowW d [] (fun f vs=>PySem.call f vs):=by
 intro w s₀ s₁ mg mb G Y fa o pm cd doc dV kV ho hd hcd hD hmg hg args vals as hpre hlay hrd hwl hlo
 obtain rfl:dV=.none:=Dflts.none hD hdf
 obtain rfl:kV=.none:=Dflts.noKw hD
 obtain ⟨a,vs,ns,rfl,rfl,hobj,hints,hlen⟩:=Zmx hn hpre hwl
 refine enter_call (Sz (call w s₀ s₁ mg mb fa o pm cd doc a vs ns G Y ho (fd_plain hd) hcd hmg hobj hints hlen hg) fun r s' hq=>?_)
 obtain ⟨rfl,h2,h3,h4⟩:=hq
 exact ⟨.inl ⟨.bool true,.bool true,[],rfl,fun _=>rfl,.bool true,Zn6 l _,fun _=>⟨List.Pairwise.nil,fun _ hm=>(nomatch hm)⟩⟩,h2,h3,h4⟩
section
variable {prog:Program}{w:World}{A:Around}{E:Value->Shared->Prop}{s:Shared}{K:Frag}
end
end Att
namespace L2
open PySem PySem.Spec PyProof.Rows
theorem Zf2:∀{vs:List Value}{ns:List Int},IntsAre vs ns->Vals (ns.map V.int) vs
 | _,_,.nil=>.nil
 | _,_,.cons n t h=>.cons ⟨t,rfl⟩ (Zf2 h)
noncomputable def Oq (H:Hp):Prop:=∀ b,H b=none\/∃ o xs,H b=some (.frz o (.lst xs))
theorem Zma {P:Program}{w:World}{K:Pk}{mg mb:Str->Option Value}{CX:Cz}{k:Nat}{fa a:Addr}{fd:FuncData}{x:Str}{sp:Sp}{s₁:Shared}{vs:List Value}{ns:List Int}
  (KX:K.In s₁.heap) (hns:s₁.heap.Ns mainGlobals mg) (hb:s₁.heap.Ns builtinsNs mb) (hbb:∀ x:Str,x ≠ "__name__" -> mb x=bootBuiltins x) (hlim:s₁.heap.NoLimit) (hg:s₁.gens=#[])
  (ha:s₁.heap.get? a=some { cls:=.type "list",data:=.seq vs.toArray }) (hi:IntsAre vs ns) (hl:ns.length<=sizeLine) (hr:Room k callerA)
  (F:∀ base:Heap,K.In base->base.Ns mainGlobals mg->As P w K mg base CX k fa fd [x] sp) (hbind:∀(s:Shared)(u:Value),BindsTo s fd ⟨[u],[]⟩ [(x,u)])
  (hsp:∀ H:Hp,Oq H->SqL K H a (ns.map V.int)->sp [.ref a] H (fun v _=>v=.bl true) fun _ _ _=>False)
  (hCX:∀ H e s',CX [] H s₁ (fun _ _ _=>False) e s'->False) :
  codeAny (model P w) callerA (.call (.ref fa) ⟨[.ref a],[]⟩) (fun r s'=>r=.ok (.ret (.bool true))/\OldK s₁.heap s'.heap/\s'.os=s₁.os/\AllBare s'.gens) s₁:=by
 have rv:=Zf2 hi
 have lenV:=hi.length
 have core:∀ H:Hp,Oq H->SqL K H a (ns.map V.int)->HOk P w H s₁.heap->(∀ b,H b≠none->b=a)->(H a≠none->K.lookup a=none) ->
   codeAny (model P w) callerA (.call (.ref fa) ⟨[.ref a],[]⟩) (fun r s'=>r=.ok (.ret (.bool true))/\OldK s₁.heap s'.heap/\s'.os=s₁.os/\AllBare s'.gens) s₁:=by
  intro H hO hS hok hA hK
  have base_of:∀{b:Addr}{o:Obj},s₁.heap.get? b=some o->H b=none->(F5 s₁.heap H).get? b=some o:=fun e n=>Zli e n
  have noA:∀{b:Addr}{o:Obj}{es:Array DictEntry}{ep:Nat},s₁.heap.get? b=some o->o.data=.dict es ep->H b=none:=fun {b o es ep} e d=>by
   cases q:H b with
   | none=>rfl
   | some u =>
    have e':b=a:=hA b (by rw [q];simp)
    subst e'
    rw [ha] at e;cases e
    have d':Data.seq vs.toArray _=Data.dict es ep:=d
    cases d'
  have nsK:∀{b:Addr}{m:Str->Option Value},s₁.heap.Ns b m->(F5 s₁.heap H).Ns b m:=fun {b m} ⟨o,es,ep,e,d,r⟩=>⟨o,es,ep,base_of e (noA e d),d,r⟩
  have hKb:K.In (F5 s₁.heap H):=fun b o e=>base_of (KX b o e) (by
   cases q:H b with
   | none=>rfl
   | some u =>
    have e':b=a:=hA b (by rw [q];simp)
    subst e'
    rw [hK (by rw [q];simp)] at e;cases e)
  have hM:Mod K mg (F5 s₁.heap H):=⟨hKb,nsK hns,⟨mb,nsK hb,hbb⟩,let ⟨mc,h1,h2⟩:=hlim;⟨mc,nsK h1,h2⟩⟩
  have e0:Env0 P w K mg (F5 s₁.heap H) callerA [] s₁ H:=⟨rfl,hM,fun b o e=>Znp e,Nat.le_of_eq (Zo9 _ _),trivial,fun b hb=>absurd (show b∈([]:List Addr) from hb) (by simp),hok,.of_eq hg⟩
  refine Sz ((F _ hKb (nsK hns)).run callerA [] s₁ H ⟨[.ref a],[]⟩ [.ref a] [.ref a] _ _ hr e0 (hbind s₁ (.ref a)) (.cons rfl .nil) (hsp H hO hS)) fun r s' h=>?_
  cases r with
  | error e=>exact (hCX H e s' h).elim
  | ok fl =>
   cases fl with
   | next=>exact Qh h
   | brk=>exact Qh h
   | cont=>exact Qh h
   | ret u =>
    obtain ⟨v,H',os,bare,un,hok',r',q⟩:=h
    have q':v=.bl true:=q
    subst q'
    obtain rfl:u=Value.bool true:=r'
    refine ⟨rfl,OldK.of_keep fun b o e=>?_,os,bare⟩
    cases q:H b with
    | none=>exact un.keep b o e q (by intro z;exact absurd (show b∈([]:List Addr) from z) (by simp)) (by simp)
    | some u =>
     rcases hO b with z | ⟨ob,xs,z⟩
     ·rw [q] at z;cases z
     ·have z2:=un.frzs b ob _ z
      obtain ⟨e1,_⟩:=hok b _ z
      obtain ⟨e2,_⟩:=hok' b _ z2
      rw [e] at e1;cases e1
      exact e2
 cases hk:K.lookup a with
 | some o =>
  have e:=KX a o hk
  rw [ha] at e
  cases e
  refine core (fun _=>none) (fun _=>.inl rfl) (.inr ⟨_,vs.toArray,_,hk,rfl,rfl,rfl,by rw [Pq,lenV];exact hl,by simpa using rv⟩) (fun b u z=>by have z':(none:Option HO)=some u:=z;cases z') (fun b z=>absurd rfl z) fun z=>absurd rfl z
 | none =>
  refine core (fun b=>if b=a then some (.frz { cls:=.type "list",data:=.seq vs.toArray } (.lst (ns.map V.int))) else none) (fun b=>?_) (.inl (.inr ⟨{ cls:=.type "list",data:=.seq vs.toArray },if_pos rfl⟩)) (fun b u z=>?_) (fun b z=>?_) fun _=>hk
  ·by_cases hb:b=a
   ·exact .inr ⟨_,_,if_pos hb⟩
   ·exact .inl (if_neg hb)
  ·by_cases hb:b=a
   ·have z':=(if_pos hb).symm.trans z
    cases z'
    subst hb
    exact ⟨ha,by rw [Pw];exact hl,vs,_,rv,ha⟩
   ·have z':=(if_neg hb).symm.trans z
    cases z'
  ·by_cases hb:b=a
   ·exact hb
   ·exact absurd (if_neg hb) z
theorem walk_of {l:W7}{n k:Nat}{q:Program}{loose:List Str}{XP:(Str->Option Value)->Heap->Prop}{YP:World->Heap->Prop}{d:DefRec}{K:Params->Pk}{CX:World->Cz}{sp:World->Sp}{x:Str}
  (hn:l.most=some n) (hn2:n<=sizeLine) (hdf:d.params.defaults=[]) (hr:Room k callerA)
  (hY:∀(w:World)(h:Heap),YP w h->(K w.params).In h)
  (F:∀(w:World)(mg:Str->Option Value)(fa:Addr)(h:Heap),(K w.params).In h->h.Ns mainGlobals mg->mg d.name=some (.ref fa) ->
   ∃ fd:FuncData,(∀(s:Shared)(u:Value),BindsTo s fd ⟨[u],[]⟩ [(x,u)]) /\
    ∀ base:Heap,(K w.params).In base->base.Ns mainGlobals mg->As l.prog w (K w.params) mg base (CX w) k fa fd [x] (sp w))
  (hsp:∀(w:World)(H:Hp)(a:Addr)(ns:List Int),ns.length<=n->Oq H->SqL (K w.params) H a (ns.map V.int)->sp w [.ref a] H (fun v _=>v=.bl true) fun _ _ _=>False)
  (hCX:∀(w:World)(H:Hp)(s:Shared)(e:Value)(s':Shared),CX w [] H s (fun _ _ _=>False) e s'->False) :
  PySem.W.WalkO q loose XP YP l.row.toRowW d [] (fun f vs=>PySem.call f vs):=by
 refine Att.attach_call hn hdf fun w s₀ s₁ mg mb fa o pm cd doc a vs ns G Y ho hd hcd hmg hobj hints hlen hg=>?_
 have KX:=hY w _ Y
 obtain ⟨fd,hb,hF⟩:=F w mg fa _ KX G.T.g hmg
 exact Zma KX G.T.g G.T.b G.T.builtins G.T.nolimit hg hobj hints (Qr hlen hn2) hr hF hb (fun H hO hS=>hsp w H a ns hlen hO hS) fun H e s'=>hCX w H s₁ e s'
noncomputable def Hl (s:Stmt):Arguments:=match s with
 | .FunctionDef _ a _ _ _ _ _ _ _ _=>a
 | _=>{ posonlyargs:=[],args:=[],vararg:=none,kwonlyargs:=[],kw_defaults:=[],kwarg:=none,defaults:=[] }
noncomputable def E6 (s:Stmt):List Stmt:=match s with
 | .FunctionDef _ _ b _ _ _ _ _ _ _=>b
 | _=>[]
noncomputable def A0 (s:Stmt):Scope:=match s with
 | .FunctionDef _ _ _ _ _ _ sc _ _ _=>sc
 | _=>{ kind:=.function,names:=[],isGenerator:=false,isCoroutine:=false }
noncomputable abbrev Az:Cz:=fun _ _ _ _ _ _=>False
noncomputable abbrev E0:XK:=fun _ _ _=>False
theorem Znf {X:Cx}:Lk Az X E0:=fun _ _ _ _ _ _ _ h=>h.elim
structure Fun (K:Pk)(x qual:Str)(st:Stmt)(f:Addr)(fd:FuncData):Prop where
 ex:∃(oc:Value)(od:Option Addr)(kV doc pm:Value)(an:Option Addr)(cdv ct:Value)(osl:Array (Option Value)),
  fd=Ry x qual (Hl st) (E6 st) (A0 st) .none kV doc pm an cdv ct/\K.lookup f=some ⟨oc,od,.func fd,osl⟩/\Vt K cdv qual=true
 kp:Ro K (.ref f)=true
section
variable {P:Program}{w:World}{K:Pk}{mg:Str->Option Value}{base:Heap}
theorem Fun.ok {x qual:Str}{st:Stmt}{f:Addr}{fd:FuncData}{N ps:List Str}{k:Nat}{sp:Sp}(F:Fun K x qual st f fd)(S:Bf N ps (A0 st))(len:∀ vs H Q E,sp vs H Q E->vs.length=ps.length)
  (hbody:∀(cdv:Value)(A:Around)(outer:List Env)(s:Shared)(H:Hp)(vs:List V)(Q:VK)(E:XK),Room k (A.deeper (envOfC qual (A0 st) s.heap.objs.size f cdv))->sp vs H Q E ->
   ∃ t,PSs (Cy Az P w K mg base N qual (A0 st) f cdv A outer s H E).nox (E6 st) t/\t { nx:=fun _ H'=>Q .non H',rt:=Q } (Db N vs) H):As P w K mg base Az (k+1) f fd ps sp:=by
 obtain ⟨oc,od,kV,doc,pm,an,cdv,ct,osl,rfl,lk,hcd⟩:=F.ex
 refine Zhm lk hcd S len fun A outer s H vs Q E hr hsp=>?_
 obtain ⟨t,h,q⟩:=hbody cdv A outer s H vs Q E hr hsp
 exact ⟨t,h.nox,q⟩
theorem Fun.binds {x qual:Str}{st:Stmt}{f:Addr}{fd:FuncData}{ps:List Str}(F:Fun K x qual st f fd)
  (h:∀(kV doc pm:Value)(an:Option Addr)(cdv ct:Value)(us:List Value),us.length=ps.length->bindArgs (Ry x qual (Hl st) (E6 st) (A0 st) .none kV doc pm an cdv ct) ⟨us,[]⟩=pure (ps.zip us)):Binds K fd ps []:=by
 obtain ⟨oc,od,kV,doc,pm,an,cdv,ct,osl,rfl,lk,hcd⟩:=F.ex
 exact .all (h kV doc pm an cdv ct)
theorem fun_mk {x qual:Str}{st:Stmt}{f:Addr}{oc:Value}{od an:Option Addr}{osl:Array (Option Value)}{kV doc pm cdv ct:Value}(l:K.lookup f=some ⟨oc,od,.func (Ry x qual (Hl st) (E6 st) (A0 st) .none kV doc pm an cdv ct),osl⟩)
  (c:Vt K cdv qual=true) (k:Ro K (.ref f)=true):Fun K x qual st f (Ry x qual (Hl st) (E6 st) (A0 st) .none kV doc pm an cdv ct):=⟨⟨oc,od,kV,doc,pm,an,cdv,ct,osl,rfl,l,c⟩,k⟩
end
section
variable {X:Cx}
end
theorem iteF {A B:Prop}(h:B):if false=true then A else B:=by
 rw [if_neg P6]
 exact h
theorem iteT {A B:Prop}(h:A):if true=true then A else B:=by
 rw [if_pos rfl]
 exact h
theorem Bw {c A B:Prop}[Decidable c](h1:c->A)(h2:¬ c->B):if c then A else B:=by
 by_cases h:c
 ·rw [if_pos h]
  exact h1 h
 ·rw [if_neg h]
  exact h2 h
noncomputable def Same (H H':Hp):Prop:=∀ b o,H b=some o->H' b=some o
theorem Same.refl (H:Hp):Same H H:=fun _ _ h=>h
theorem Same.trans {H H1 H2:Hp}(a:Same H H1)(b:Same H1 H2):Same H H2:=fun c o h=>b c o (a c o h)
theorem Same.free {H H':Hp}(e:Same H H'){l:Addr}(h:H' l=Option.none):H l=Option.none:=by
 cases q:H l with
 | none=>rfl
 | some o =>
  rw [e l o q] at h
  cases h
theorem Same.seq {K:Pk}{H H':Hp}{a:Addr}{xs:List V}(e:Same H H')(h:SqL K H a xs):SqL K H' a xs:=by
 rcases h with (h | ⟨o,h⟩) | h
 ·exact .inl (.inl (e _ _ h))
 ·exact .inl (.inr ⟨o,e _ _ h⟩)
 ·exact .inr h
end L2
set_option maxHeartbeats 8000000
namespace L2
open PySem PySem.Spec PyProof.Rows
noncomputable def Dr (env:Env):List (Str×NameKind)->List (Str×Addr)->List (Str×Addr)
 | [],acc=>acc
 | (n,k)::r,acc=>Dr env r (if k == .free then (match env.cells.lookup n with | some a=>(n,a)::acc | none=>acc) else acc)
theorem Zbr {env:Env}:∀{ns:List (Str×NameKind)}{acc:List (Str×Addr)}{x:Str}{c:Addr},(∀ x c,acc.lookup x=some c->env.cells.lookup x=some c)->(Dr env ns acc).lookup x=some c->env.cells.lookup x=some c
 | [],acc,x,c,h,e=>h x c e
 | (n,k)::r,acc,x,c,h,e=>by
  refine Zbr (ns:=r) ?_ e
  intro y d
  split
  ·split
   ·rename_i a ha
    intro q
    rw [R5] at q
    split at q
    ·rename_i hy
     have hy':y=n:=by simpa using hy
     subst hy'
     rw [ha];exact q
    ·exact h y d q
   ·exact h y d
  ·exact h y d
theorem Zds {env:Env}:∀{ns:List (Str×NameKind)}{acc:List (Str×Addr)}{x:Str},(acc.lookup x).isSome=true->((Dr env ns acc).lookup x).isSome=true
 | [],acc,x,h=>h
 | (n,k)::r,acc,x,h=>by
  refine Zds (ns:=r) ?_
  split
  ·split
   ·rw [R5]
    split
    ·rfl
    ·exact h
   ·exact h
  ·exact h
theorem Zc9 {env:Env}:∀{ns:List (Str×NameKind)}{acc:List (Str×Addr)}{x:Str},(x,NameKind.free)∈ns->(env.cells.lookup x).isSome=true->((Dr env ns acc).lookup x).isSome=true
 | [],acc,x,h,_=>by cases h
 | (n,k)::r,acc,x,h,hc=>by
  rcases Pu.mp h with e | e
  ·cases e
   refine Zds (ns:=r) ?_
   obtain ⟨a,ha⟩:=R0.mp hc
   rw [if_pos (by rfl),ha]
   show (List.lookup n ((n,a)::acc)).isSome=true
   rw [R5]
   simp
  ·exact Zc9 (ns:=r) e hc
theorem Zg4 {scope:Scope}{env:Env}(h:∀ x∈scope.names,x.2=.free->(env.cells.lookup x.1).isSome=true):closureFor scope env=pure (Dr env scope.names []):=by
 have all:∀(ns:List (Str×NameKind))(acc:List (Str×Addr)),(∀ x∈ns,x.2=.free->(env.cells.lookup x.1).isSome=true) ->
   (forIn ns acc fun (x:Str×NameKind) (cs:List (Str×Addr))=>(if (x.2 == NameKind.free)=true then do let a <- cellOf env x.1;pure (ForInStep.yield ((x.1,a)::cs)) else pure (ForInStep.yield cs):Sem (ForInStep (List (Str×Addr)))))=pure (Dr env ns acc):=by
  intro ns
  induction ns with
  | nil=>intro acc _;rfl
  | cons x r ih =>
   intro acc hx
   obtain ⟨n,k⟩:=x
   rw [Tv]
   by_cases hk:(k == NameKind.free)=true
   ·obtain ⟨a,ha⟩:=R0.mp (hx (n,k) T7 (by simpa using hk))
    have ha:env.cells.lookup n=some a:=ha
    have hcell:cellOf env n=pure a:=by unfold cellOf;rw [ha]
    simp only [hk,if_true,hcell]
    refine Eq.trans (ih ((n,a)::acc) fun y hy=>hx y (R3 _ hy)) ?_
    conv=>rhs;unfold Dr
    simp only [hk,if_true,ha]
   ·simp only [hk]
    refine Eq.trans (ih acc fun y hy=>hx y (R3 _ hy)) ?_
    conv=>rhs;unfold Dr
    simp only [hk]
    rfl
 unfold closureFor
 exact (by
  have:=all scope.names [] h
  first | exact this | (simp only [bind_pure] ;exact this) | simpa using this)
noncomputable def Cr (X:Cx)(scope:Scope)(C:Addr)(N:List Str)(s₀:Shared)(H₀:Hp)(ex:List Addr):Cx where
 prog:=X.prog
 w:=X.w
 K:=X.K
 mg:=X.mg
 base:=X.base
 A:=X.A
 N:=N
 s₀:=s₀
 H₀:=H₀
 env:=compEnvC scope (Dr X.env scope.names []) C X.env
 outer:=X.stack
 stack:=X.stack
 ex:=ex
 fn:=fun _=>false
 calm:=X.calm
 pn:=[]
 xe:=fun _ _=>False
structure Hx (sc:Scope)(env:Env):Prop where
 kind:sc.kind=.function
 nocell:∀ y∈sc.names,y.2≠.cell
 loc:∀ y∈sc.names,y.2=.local->sc.names.lookup y.1=some .local
 free:∀ x∈sc.names,x.2=.free->(env.cells.lookup x.1).isSome=true
theorem Mn {env:Env}:∀{names:List (Str×NameKind)}{x:Str}{k:NameKind},((names.map fun (n,k)=>if (k == NameKind.free && env.scope.kind == .function && env.kindOf n == some .cell) then (n,NameKind.cell) else (n,k)).lookup x=some k) ->
  ∃ k',names.lookup x=some k'/\(k'=k\/(k'=.free/\k=.cell))
 | [],x,k,h=>by simp at h
 | (n,q)::r,x,k,h=>by
  have ih:=@Mn env r x k
  have h:List.lookup x ((if (q == NameKind.free && env.scope.kind == .function && env.kindOf n == some .cell)=true then (n,NameKind.cell) else (n,q))::_)=some k:=h
  rw [R5]
  cases hx:x == n with
  | true =>
   by_cases hc:(q == NameKind.free && env.scope.kind == .function && env.kindOf n == some .cell)=true
   ·rw [if_pos hc] at h
    simp only [R5,hx] at h
    refine ⟨q,rfl,.inr ⟨?_,(P8 h).symm⟩⟩
    simp only [Sr] at hc
    simpa using hc.1.1
   ·rw [if_neg hc] at h
    simp only [R5,hx] at h
    exact ⟨q,rfl,.inl (P8 h)⟩
  | false =>
   by_cases hc:(q == NameKind.free && env.scope.kind == .function && env.kindOf n == some .cell)=true
   ·rw [if_pos hc] at h
    simp only [R5,hx] at h
    exact ih h
   ·rw [if_neg hc] at h
    simp only [R5,hx] at h
    exact ih h
noncomputable def Gi (X:Cx)(scope:Scope)(N:List Str)(σ σ0:St):Prop :=
 σ0.length=N.length/\∀(i:Nat)(x:Str)(v:V),N[i]?=some x->σ0[i]?=some (some v)->∃ j:Nat,X.N[j]?=some x/\σ[j]?=some (some v)/\scope.names.lookup x=some .free/\(X.env.kindOf x=some .cell\/X.env.kindOf x=some .free)
section
variable {X:Cx}
theorem Zpx {scope:Scope}{N:List Str}{pins:List (Addr×Obj)}{σ σ0:St}{H:Hp}{s:Shared}{h':Heap}{tk:Nat}{fp:List Addr}(I:Inv X pins σ H s)(S:Hx scope X.env)(hf:∀ b∈fp,FpOk X pins H b)(hlt:∀ b∈fp,b < s.heap.objs.size)
  (T:Gi X scope N σ σ0) (hn:h'.Ns s.heap.objs.size (fun _=>none)) (hk:∀ b o,s.heap.get? b=some o->h'.get? b=some o) :
  Inv (Cr X scope s.heap.objs.size N s H fp) [] σ0 H { s with heap:=h',toks:=tk }:=by
 have subC:∀ x c,(Dr X.env scope.names []).lookup x=some c->X.env.cells.lookup x=some c:=fun x c e=>Zbr (ns:=scope.names) (acc:=[]) (fun y d z=>by simp at z) e
 have hasC:∀ x,scope.names.lookup x=some .free->∃ c,(Dr X.env scope.names []).lookup x=some c:=fun x e=>by
  have m:=Sn e
  exact R0.mp (Zc9 m (S.free _ m rfl))
 have fsN:∀ b∈fp,b ∉ Bp X.stack:=fun b hb z=>by
  obtain ⟨_,f1,f2,_⟩:=hf b hb
  rcases Pu.mp (I.stkSub b z) with e | e
  ·exact f1 e
  ·exact f2 e
 have kinds:∀ x,((relabel scope X.env).names.lookup x=some .cell\/(relabel scope X.env).names.lookup x=some .free)->scope.names.lookup x=some .free:=fun x hx=>by
  rcases hx with hx | hx
  ·obtain ⟨k',e,q⟩:=Mn hx
   rcases q with q | ⟨q,_⟩
   ·subst q
    exact absurd rfl (S.nocell _ (Sn e))
   ·rw [e,q]
  ·obtain ⟨k',e,q⟩:=Mn hx
   rcases q with q | ⟨_,q⟩
   ·rw [e,q]
   ·cases q
 have noex:∀ b o,X.base.get? b=some o->b ∉ fp:=fun b o e hb=>by
  obtain ⟨_,_,_,f3,_⟩:=hf b hb
  rcases f3 with z | z
  ·exact I.ok.noex b o e z
  ·exact absurd (P7 (Pr e) (Qr I.ok.bsz z)) (Rg _)
 refine ⟨⟨I.ok.mod,S.kind,I.ok.glob,I.ok.blt,Po _,fun x y c e1 e2=>I.ok.inj x y c (subC x c e1) (subC y c e2),fun x hx=>hasC x (kinds x hx),fun x c z=>absurd (show false=true from z) P6,I.ok.hd,I.ok.frames,.inl rfl,
   fun b hb=>⟨P0 (hlt b hb),fun x c e=>(hf b hb).2.2.2.2.1 x c (subC x c e)⟩,I.bs,Qr I.ok.bsz I.sz,noex,fsN,I.stack,I.stkFree⟩,
  rfl,I.bare,Un.kept hk,⟨_,hn,fun i x v e1 e2 e3=>?_⟩,fun x c e=>?_,I.hok.fresh (Po _),fun x c e=>I.freeC x c (subC x c e),fun p hp=>absurd (show p∈([]:List (Addr×Obj)) from hp) (by simp),I.hok.kept hk,T.1⟩
 ·obtain ⟨j,hj,hs,hfr,hkd⟩:=T.2 i x v e1 e2
  obtain ⟨m,_,hl⟩:=I.loc
  obtain ⟨u,r,l⟩:=hl j x v hj hs (hkd.elim (fun z=>Or.inr (Or.inl z)) fun z=>Or.inr (Or.inr z))
  refine ⟨u,r,.inr ⟨?_,?_⟩⟩
  ·show (relabel scope X.env).names.lookup x=some .cell\/(relabel scope X.env).names.lookup x=some .free
   rcases e3 with z | z | z
   ·obtain ⟨k',e,q⟩:=Mn (show (relabel scope X.env).names.lookup x=some .local from z)
    rw [hfr] at e
    cases e
    rcases q with q | ⟨_,q⟩ <;> cases q
   ·exact .inl z
   ·exact .inr z
  ·obtain ⟨c,hc⟩:=hasC x hfr
   refine ⟨c,hc,?_⟩
   rcases l with ⟨k,_⟩ | ⟨_,c',e,z⟩
   ·rcases hkd with hkd | hkd <;> (rw [hkd] at k;cases k)
   ·have e':=subC x c hc
    rw [e] at e'
    cases e'
    obtain ⟨o,ho,hd⟩:=z
    exact ⟨o,hk _ o ho,hd⟩
 ·obtain ⟨v,o,ho,hd⟩:=I.cell x c (subC x c e)
  exact ⟨v,o,hk _ o ho,hd⟩
theorem Zty {scope:Scope}{N:List Str}{pins pins':List (Addr×Obj)}{σ σ':St}{H H':Hp}{s s':Shared}{h':Heap}{fp:List Addr}(I:Inv X pins σ H s)(hf:∀ b∈fp,FpOk X pins H b)
  (I':Inv (Cr X scope s.heap.objs.size N s H fp) pins' σ' H' s') (hs:P9 s.heap.objs.size s'.heap h'):Inv X pins σ H' { s' with heap:=h' }:=by
 have hC:H' s.heap.objs.size=none:=I'.free
 have ne:∀ b o,s.heap.get? b=some o->b≠s.heap.objs.size:=fun b o e=>P0 (Pr e)
 have B:Un (Bp X.stack) fp H H' s.heap s'.heap:=I'.base
 refine I.call' (s':={ s' with heap:=h' }) (ch:=fp) I'.os ⟨fun b o e n hb hx=>?_,fun b o e n hb hx=>?_,B.free,fun b o e hx=>?_,B.tups,B.frzs,B.tbls⟩ (fun b o e=>?_) I'.bare (fun b hb=>?_)
 ·exact (hs.2 b (ne b o e)).trans (B.keep b o e n hb hx)
 ·obtain ⟨sl,q⟩:=B.slot b o e n hb hx
  exact ⟨sl,(hs.2 b (ne b o e)).trans q⟩
 ·obtain ⟨o',q⟩:=B.there b o e hx
  exact ⟨o',(hs.2 b (ne b o e)).trans q⟩
 ·refine (I'.hok b o e).stay (fun c w' hc q=>(hs.2 c ?_).trans q) (fun _ q=>q) fun _ _ q=>q
  rintro rfl
  rcases hc with rfl | hc
  ·rw [hC] at e;cases e
  ·rw [hC] at hc;cases hc
 ·obtain ⟨_,f1,_,f3,f4,f5⟩:=hf b hb
  exact ⟨f3,f1,f4,f5⟩
end
section
variable {prog:Program}{w:World}{A:Around}{R:Result->Shared->Prop}{s:Shared}
theorem Zop {elt target iter:Expr}{ifs:List Expr}{scope:Scope}{pos:Pos}{it acc:Value}{env:Env}(I:Nat->Shared->Prop)
  (turn:∀ n s,I n s->wpAny (model prog w) A (pyNext it) (fun r s₁=>match r with
   | none=>R (.ok .next) s₁
   | some v=>wpAny (model prog w) A (letOwnedTupleGo target it v) (fun _ s₁'=>wpAny (model prog w) A (assign target env v) (fun _ s₂ =>
     wpAny (model prog w) A (forIn ifs true fun c r=>if r=true then do let ok <- isTrue c env (eval c env);pure (ForInStep.yield ok) else pure (ForInStep.yield r)) (fun ok s₃ =>
      if ok=true then wpAny (model prog w) A (eval elt env) (fun x s₄ =>
       wpAny (model prog w) A (call (.builtin "list.append") [acc,x]) (fun _ s₅=>∃ m,m < n/\I m s₅) (fun _ _=>False) s₄) (fun _ _=>False) s₃
      else ∃ m,m < n/\I m s₃) (fun _ _=>False) s₂) (fun _ _=>False) s₁') (fun _ _=>False) s₁) (fun _ _=>False) s)
  (n:Nat) (h:I n s):codeAny (model prog w) A (.compLoop (.ListComp elt [⟨target,iter,ifs,0⟩] scope pos) 0 it acc env) R s:=by
 refine codeAny_loop rfl I (fun n s hI=>?_) n h
 show wpAny _ A ((compTurn (.ListComp elt [⟨target,iter,ifs,0⟩] scope pos) 0 it acc env).onRaise (fun x=>do noteFrame x env;theTreesLotGoes x)) _ _ s
 refine wpAny_noted ?_
 rw [compTurn_list]
 have up:∀{α:Type}{t:Sem α}{Q:α->Shared->Prop}{s:Shared}{E:Value->Shared->Prop},wpAny (model prog w) A t Q (fun _ _=>False) s->wpAny (model prog w) A t Q E s:=fun h=>wpAny_noRaise h
 refine Pl (Sx (Pl (up (Aj (turn n s hI) fun r s₁ h₁=>?_))))
 cases r with
 | none=>exact Pm h₁
 | some v =>
  refine Pl (up (Aj h₁ fun _ s₁' h₁'=>?_))
  refine Pl (up (Aj h₁' fun _ s₂ h₂=>Pl (up (Aj h₂ fun ok s₃ h₃=>?_))))
  cases ok with
  | false=>exact Pm ⟨rfl,h₃⟩
  | true =>
   exact Pl (Pl (up (Aj h₃ fun x s₄ h₄=>Pl (up (Aj h₄ fun _ s₅ h₅=>Pm (Pm ⟨rfl,h₅⟩))))))
end
noncomputable def Jr (J:It)(g:TG)(tt:TT)(te:TE)(σ0:St)(H1:Hp)(D:Addr)(Q:VK):Prop :=
 ∃ W:Nat->Nat->St->Hp->Prop,(∃ m,W 0 m σ0 (upd H1 D (.lst [])))/\∀ i m σ' H',W i m σ' H' ->
  (J.stop i H'/\Q (.ref D) H')\/(J.go i H'/\∃ N:St->Hp->Prop,(∀ σ2 H2,N σ2 H2->∃ m',m' < m/\W (i+1) m' σ2 H2)/\∀ x H2,J.yld i H' x H2->g x σ' H2 fun σ2 H3=>tt σ2 H3 fun b H4 =>
   if b=true then te σ2 H4 fun y H5=>∃ ys,H5 D=some (.lst ys)/\ys.length < sizeLine/\N σ2 (upd H5 D (.lst (ys++[y]))) else N σ2 H4)
noncomputable def La (wi:TI)(σ0:St->St)(g:TG)(tt:TT)(te:TE):TE:=fun σ H Q=>wi σ H fun J H1=>∀ D,H1 D=none->Jr J g tt te (σ0 σ) H1 D Q
noncomputable def Hu (X:Cx)(ifs:List Expr)(t:TT):Prop :=
 ∀(pins:List (Addr×Obj))(s:Shared)(σ:St)(H:Hp)(Q:Bool->Hp->Prop),Inv X pins σ H s->t σ H Q ->
  wpAny (model X.prog X.w) X.A (forIn ifs true fun c r=>if r=true then do let ok <- isTrue c X.env (eval c X.env);pure (ForInStep.yield ok) else pure (ForInStep.yield r)) (TP X pins σ Q) X.xe s
noncomputable def Zah:TT:=fun _ H Q=>Q true H
theorem Zlt {X:Cx}:Hu X [] Zah:=fun _ _ _ H _ I h=>wpAny_tests_nil ⟨H,I,h⟩
theorem Zla {X:Cx}{c:Expr}{t:TT}(h:PT X c t):Hu X [c] t:=fun pins s σ H Q I hw=>wpAny_tests_one (h pins s σ H Q I hw)
section
variable {X:Cx}{elt target iter:Expr}{ifs:List Expr}{scope:Scope}{pos:Pos}{N:List Str}{wi:TI}{σ0:St->St}{g:TG}{tt:TT}{te:TE}
theorem Ze6 {pins:List (Addr×Obj)}{σ:St}{H:Hp}{s:Shared}{it:Addr}{fp:List Addr}{tn:Nat->Heap->Prop}{J:It}{Q:Addr->Hp->Prop}{RR:Value->Addr->Result->Shared->Prop}{E:Value->Shared->Prop}
  (hc:X.calm=true) (S:Hx scope X.env) (T:Gi X scope N σ (σ0 σ)) (I:Inv X pins σ H s) (Tn:F4 X.prog X.w X.K target J fp it tn) (st:tn 0 s.heap) (hf:∀ b∈fp,FpOk X pins H b)
  (hg:∀ C s H fp,PG (Cr X scope C N s H fp) target g) (ht:∀ C s H fp,Hu (Cr X scope C N s H fp) ifs tt) (he:∀ C s H fp,PE (Cr X scope C N s H fp) elt te)
  (hw:∀ D,H D=none->∃ W:Nat->Nat->St->Hp->Prop,(∃ m,W 0 m (σ0 σ) (upd H D (.lst [])))/\∀ i m σ' H',W i m σ' H' ->
   (J.stop i H'/\Q D H')\/(J.go i H'/\∃ N:St->Hp->Prop,(∀ σ2 H2,N σ2 H2->∃ m',m' < m/\W (i+1) m' σ2 H2)/\∀ x H2,J.yld i H' x H2->g x σ' H2 fun σ2 H3=>tt σ2 H3 fun b H4 =>
    if b=true then te σ2 H4 fun y H5=>∃ ys,H5 D=some (.lst ys)/\ys.length < sizeLine/\N σ2 (upd H5 D (.lst (ys++[y]))) else N σ2 H4))
  (hR:∀(D C:Addr)(H':Hp)(s':Shared)(m:Str->Option Value),s.heap.objs.size<=C->H' C=none->s'.heap.Ns C m->(∀ h',P9 C s'.heap h'->Inv X pins σ H' { s' with heap:=h' })->Q D H'->RR (.ref D) C (.ok .next) s') :
  wpAny (model X.prog X.w) X.A (newList []) (fun acc s₃=>wpAny (model X.prog X.w) X.A (newFunctionEnv scope X.env.globals (Dr X.env scope.names []) [] X.env.qual none .none (some X.env)) (fun cenv s₄ =>
   codeAny (model X.prog X.w) X.A (.compStart (.ListComp elt [⟨target,iter,ifs,0⟩] scope pos) 0 (.ref it) acc { cenv with scope:=relabel scope X.env }) (RR acc cenv.locals) s₄) E s₃) E s:=by
 refine Rk (wpAny_newFunctionEnv S.nocell (by intro y hy;simp at hy) (fun h₁ hns₁ hsb₁=>?_) S.kind)
 have hD:H s.heap.objs.size=none:=I.hok.fresh (Po _)
 have I3:Inv X pins σ (upd H s.heap.objs.size (.lst [])) { s with heap:=s.heap.push { cls:=.type "list",dict:=none,data:=.seq ([]:List Value).toArray } }:=I.lnew (ys:=[]) (its:=[]) (t':=s.toks) .nil (by simp)
 have hlt:∀ b∈fp,b < s.heap.objs.size:=fun b hb=>by obtain ⟨o,e,_⟩:=Tn.obj _ _ st b hb;exact Pr e
 have hf3:∀ b∈fp,FpOk X pins (upd H s.heap.objs.size (.lst [])) b:=fun b hb=>⟨by rw [Ag (P0 (hlt b hb))];exact (hf b hb).1,(hf b hb).2⟩
 have hlt3:∀ b∈fp,b < ({ s with heap:=s.heap.push { cls:=.type "list",dict:=none,data:=.seq ([]:List Value).toArray } }:Shared).heap.objs.size:=fun b hb=>by
  show b < (s.heap.push _).objs.size
  rw [Q4]
  exact Vk (hlt b hb)
 have hk1:∀ b o,({ s with heap:=s.heap.push { cls:=.type "list",dict:=none,data:=.seq ([]:List Value).toArray } }:Shared).heap.get? b=some o->h₁.get? b=some o:=fun b o e =>
  hsb₁.extBut b o (P0 (Pr e)) (Pp _ e)
 have I4:=Zpx (N:=N) (tk:=s.toks+([]:List (Str×Value)).length) I3 S hf3 hlt3 T hns₁ hk1
 have st4:tn 0 h₁:=Tn.keep _ _ _ st fun b hb o e=>hk1 b o (Pp _ e)
 obtain ⟨W,⟨m0,w0⟩,turn⟩:=hw _ hD
 generalize hX:Cr X scope ({ s with heap:=s.heap.push { cls:=.type "list",dict:=none,data:=.seq ([]:List Value).toArray } }:Shared).heap.objs.size N { s with heap:=s.heap.push { cls:=.type "list",dict:=none,data:=.seq ([]:List Value).toArray } } (upd H s.heap.objs.size (.lst [])) fp=X' at I4
 have eP:X'.prog=X.prog:=by rw [<- hX];rfl
 have eW:X'.w=X.w:=by rw [<- hX];rfl
 have eK:X'.K=X.K:=by rw [<- hX];rfl
 have eA:X'.A=X.A:=by rw [<- hX];rfl
 have eC:X'.calm=true:=by rw [<- hX];exact hc
 have eX:X'.xe=fun _ _=>False:=by rw [<- hX];rfl
 have eEx:X'.ex=fp:=by rw [<- hX];rfl
 have hg':PG X' target g:=by rw [<- hX];exact hg _ _ _ _
 have ht':Hu X' ifs tt:=by rw [<- hX];exact ht _ _ _ _
 have he':PE X' elt te:=by rw [<- hX];exact he _ _ _ _
 have eE:X'.env=compEnvC scope (Dr X.env scope.names []) ({ s with heap:=s.heap.push { cls:=.type "list",dict:=none,data:=.seq ([]:List Value).toArray } }:Shared).heap.objs.size X.env:=by rw [<- hX];rfl
 have fpIn:∀{H':Hp},(∀ b∈fp,H' b=none)->∀ b∈fp,FpOk X' [] H' b:=fun {H'} hn b hb=>by
  obtain ⟨f0,f1,f2,f3,f4,f5⟩:=hf3 b hb
  rw [<- hX]
  refine ⟨hn b hb,P0 (hlt3 b hb),fun z=>?_,.inl hb,fun x c e=>f4 x c (Zbr (ns:=scope.names) (acc:=[]) (fun y d z=>by simp at z) e),fun p hp=>absurd (show p∈([]:List (Addr×Obj)) from hp) (by simp)⟩
  rcases Pu.mp (I3.stkSub b z) with e | e
  ·exact f1 e
  ·exact f2 e
 have fr0:∀ b∈fp,upd H s.heap.objs.size (.lst []) b=none:=fun b hb=>(hf3 b hb).1
 have loop:codeAny (model X.prog X.w) X.A (.compLoop (.ListComp elt [⟨target,iter,ifs,0⟩] scope pos) 0 (.ref it) (.ref s.heap.objs.size) X'.env)
   (RR (.ref s.heap.objs.size) ({ s with heap:=s.heap.push { cls:=.type "list",dict:=none,data:=.seq ([]:List Value).toArray } }:Shared).heap.objs.size)
   { s with heap:=h₁,toks:=s.toks+([]:List (Str×Value)).length }:=by
  refine Zop (fun n s'=>∃ i σ' H',Inv X' [] σ' H' s'/\tn i s'.heap/\(∀ b∈fp,H' b=none)/\W i n σ' H') ?_ m0 ⟨0,σ0 σ,_,I4,st4,fr0,w0⟩
  rintro n s5 ⟨i,σ5,H5,I5,st5,fr5,w5⟩
  rcases turn i n σ5 H5 w5 with ⟨stop,qn⟩ | ⟨go,Nx,hN,step⟩
  ·have q:=Tn.done X' eP eW eK eC i [] s5 σ5 H5 (fun _ _=>False) I5 (fpIn fr5) st5 stop
   rw [eA] at q
   refine Aj q fun r s6 zq=>?_
   obtain ⟨hr,I6⟩:=zq
   subst hr
   obtain ⟨mm,hns6,_⟩:=I6.loc
   rw [eE] at hns6
   have fr6:=I6.free
   rw [eE] at fr6
   refine hR _ _ H5 s6 mm ?_ fr6 hns6 (fun h' hs=>?_) qn
   ·show s.heap.objs.size<=(s.heap.push _).objs.size
    rw [Q4]
    exact Ta _
   ·rw [<- hX] at I6
    exact Zty I3 hf3 I6 hs
  ·have q:=Tn.item X' eP eW eK eC i [] s5 σ5 H5 (fun _ _=>False) I5 (fpIn fr5) st5 go
   rw [eA] at q
   refine Aj q fun r s6 zq=>?_
   obtain ⟨u,hr,h6⟩:=zq
   subst hr
   refine Aj h6 fun _ s7 zq=>?_
   obtain ⟨x,H7,I7,r7,y7,st7,fr7⟩:=zq
   have I7':=I7.pinned (fpIn fr7) (Tn.obj _ _ st7)
   have q8:=hg' _ s7 σ5 H7 x u _ I7' r7 (step x H7 y7)
   rw [eP,eW,eA,eX] at q8
   refine Aj q8 fun _ s8 zq=>?_
   obtain ⟨σ8,H8,I8,q8⟩:=zq
   have q9:=ht' _ s8 σ8 H8 _ I8 q8
   rw [eP,eW,eA,eX] at q9
   refine Aj q9 fun ok s9 zq=>?_
   obtain ⟨H9,I9,q9⟩:=zq
   have again:∀{σ10:St}{H10:Hp}{s10:Shared},Inv X' ([]++Jo fp s7.heap) σ10 H10 s10->Nx σ10 H10->∃ m,m < n/\∃ i σ' H',Inv X' [] σ' H' s10/\tn i s10.heap/\(∀ b∈fp,H' b=none)/\W i m σ' H':=fun {σ10 H10 s10} J10 n10=>by
    obtain ⟨m',hm,Dw⟩:=hN σ10 H10 n10
    refine ⟨m',hm,i+1,σ10,H10,J10.unpinned,Tn.keep _ _ _ st7 fun b hb o e=>(J10.pin (b,o) (Rb _ (Rb _ (Ke hb e)))).1,fun b hb=>?_,Dw⟩
    obtain ⟨o,e,d⟩:=Tn.obj _ _ st7 b hb
    exact (J10.pin (b,o) (Rb _ (Rb _ (Ke hb e)))).2.1
   cases ok with
   | false =>
    have q9':Nx σ8 H9:=q9
    exact again I9 q9'
   | true =>
    have q9':te σ8 H9 _:=q9
    have q10:=he' _ s9 σ8 H9 _ I9 q9'
    rw [eP,eW,eA,eX] at q10
    refine Aj q10 fun y s10 zq=>?_
    obtain ⟨yv,H10,I10,r10,ys,hys,hz,n10⟩:=zq
    have q11:=(D4 (X:=X')) _ s10 σ8 H10 (.ref s.heap.objs.size) [yv] (.ref s.heap.objs.size) [y] (fun _ H11=>Nx σ8 H11) I10 rfl (.cons r10 .nil) ⟨_,ys,yv,rfl,rfl,hys,hz,n10⟩
    rw [eP,eW,eA,eX] at q11
    exact Aj q11 fun _ s11 ⟨_,H11,I11,_,n11⟩=>again I11 n11
 rw [eE] at loop
 exact codeAny_compStart_list loop (Tn.self _ 0 _ _ _ st4 loop)
theorem Zk4 (hc:X.calm=true)(S:Hx scope X.env)(hi:PI X target iter wi)(T:∀ σ,σ.length=X.N.length->Gi X scope N σ (σ0 σ))
  (hg:∀ C s H fp,PG (Cr X scope C N s H fp) target g) (ht:∀ C s H fp,Hu (Cr X scope C N s H fp) ifs tt) (he:∀ C s H fp,PE (Cr X scope C N s H fp) elt te)
  (hs:∀ x,foldedSetIterable iter X.env x=pure x:=by intro _;rfl):PE X (.ListComp elt [⟨target,iter,ifs,0⟩] scope pos) (La wi σ0 g tt te):=by
 intro pins s σ H Q I h
 rw [eval_ListComp]
 refine wpAny_comprehension_free (use:=none) rfl hs (Zg4 S.free) S.kind S.loc (Aj (hi pins s σ H _ I h) fun xv s₁ h₁=>Aj h₁ fun itv s₂ h₂=>?_)
 obtain ⟨it,fp,tn,J,H2,rfl,I2,Tn,st2,f2,hw⟩:=h₂
 refine Ze6 (Q:=fun D H'=>Q (.ref D) H') (RR:=fun acc C=>compPost (model X.prog X.w) X.A X.xe none (EP X pins σ Q) acc C) hc S (T σ I.len) I2 Tn st2 f2 hg ht he hw ?_
 intro D C H' s' m hC _ hn hI hq
 exact ⟨m,hn,fun h' hs'=>⟨.ref D,H',hI h' hs',rfl,hq⟩⟩
theorem Zoz {i:Nat}{y:Str}{py spos:Pos}(hc:X.calm=true)(S:Hx scope X.env)(hi:PI X target iter wi)(T:∀ σ,σ.length=X.N.length->Gi X scope N σ (σ0 σ))
  (hg:∀ C s H fp,PG (Cr X scope C N s H fp) target g) (ht:∀ C s H fp,Hu (Cr X scope C N s H fp) ifs tt) (he:∀ C s H fp,PE (Cr X scope C N s H fp) elt te)
  (hN:X.N.Nodup) (hy:X.N[i]?=some y) (hx:Em X.env.scope y)
  (hsw:swapsWith (.ListComp elt [⟨target,iter,ifs,0⟩] scope pos) (some (.Name y py)) spos.line X.env=pure true:=by rfl)
  (hf:X.fn y=true\/X.env.scope.names.lookup y=some .local:=by first | exact .inl rfl | exact .inr rfl | assumption)
  (hs:∀ x,foldedSetIterable iter X.env x=pure x:=by intro _;rfl):PS X (.Assign [.Name y py] (.ListComp elt [⟨target,iter,ifs,0⟩] scope pos) spos) (G7 (La wi σ0 g tt te) (Gs i)):=by
 intro pins s σ H D I h
 rw [exec_Assign_Name_used _ _ _ _ hsw]
 refine Pl (Sx (Pl ?_))
 show wpAny _ X.A (do let _ <- comprehension (.ListComp elt [⟨target,iter,ifs,0⟩] scope pos) scope X.env _ (newList []) false (eval iter X.env) (some (assign (.Name y py) X.env))) _ _ s
 refine Pl (Aj (wpAny_comprehension_free (use:=some (assign (.Name y py) X.env)) (Q:=fun _ s'=>SP X pins D .next s') rfl hs (Zg4 S.free) S.kind S.loc
  (Aj (hi pins s σ H _ I h) fun xv s₁ h₁=>Aj h₁ fun itv s₂ h₂=>?_)) fun _ s' hq=>Pm (Pm hq))
 obtain ⟨it,fp,tn,J,H2,rfl,I2,Tn,st2,f2,hw⟩:=h₂
 refine Ze6 (Q:=fun L H'=>D.nx (σ.set i (some (.ref L))) H') (RR:=fun acc C=>compPost (model X.prog X.w) X.A X.xe (some (assign (.Name y py) X.env)) (fun _ s'=>SP X pins D .next s') acc C) hc S (T σ I.len) I2 Tn st2 f2 hg ht he hw ?_
 intro L C H' s' m hC hfree hn hI hq
 have I3:Inv X pins σ H' s':=hI s'.heap (.refl ..)
 refine wpAny_assign_Name (Zhb I3 hN hy hx (v:=.ref L) rfl (fun s4 I4 hch=>?_) hf)
 obtain ⟨a,hsb,ha⟩:=hch
 have haC:C≠a:=by
  rintro rfl
  rcases ha with e | e
  ·have:=I2.lt
   rw [<- e] at this
   exact absurd (P7 this hC) (Rg _)
  ·obtain ⟨v,z⟩:=I2.cell y _ e
   exact absurd (P7 z.lt hC) (Rg _)
 refine ⟨m,hn.sameBut hsb haC,fun h' hs'=>⟨_,H',?_,hq⟩⟩
 have e4:({ s4 with heap:=h' }:Shared)={ s4 with heap:=h',toks:=s4.toks }:=rfl
 rw [e4]
 refine I4.turned (it:=C) (fun b o hb e=>(hs'.2 b hb).trans e) hfree ?_ (.inr (Qr I2.sz hC)) ?_ ?_
 ·exact Qy (P7 I2.lt hC)
 ·rintro x c e rfl
  obtain ⟨v,z⟩:=I2.cell x _ e
  exact absurd (P7 z.lt hC) (Rg _)
 ·rintro p hp e
  exact absurd (P7 (Pr (I2.pin p hp).1) (by rw [e];exact hC)) (Rg _)
end
section
variable {X:Cx}
theorem Zlh {K:Pk}{T:String}:Qn K (.type T) (.type T)=some true:=by
 unfold Qn
 rw [if_pos (by simp)]
theorem Zl5 {K:Pk}{T U:String}{b:Bool}{l:List Value}(hm:PySem.W.kitMeta U=true)(hn:¬ T=U)(hl:fastBuiltinMro T=some l)(hb:l.contains (.type U)=b):Qn K (.type T) (.type U)=some b:=by
 unfold Qn
 rw [if_neg (by simp [hn])]
 show (if PySem.W.kitMeta U=true then Pz K (.type T) (.type U) else none)=some b
 rw [if_pos hm]
 show (fastBuiltinMro T).map (·.contains (.type U))=some b
 rw [hl,<- hb]
 rfl
theorem Znj:OpR X (compareOp .LtE) (fun x y H Q=>∃ i j,x=.str i/\y=.str j/\Q (.bl (!(decide (j.cps.toList < i.cps.toList)))) H):=by
 intro pins s σ H x y v u Q I rx ry h
 obtain ⟨i,j,rfl,rfl,q⟩:=h
 obtain ⟨t,rfl⟩:=rx
 obtain ⟨t',rfl⟩:=ry
 exact PySem.P.le_str (Br I q rfl)
theorem Zqi:OpR X (compareOp .In) (fun x y H Q=>∃(c:Nat)(j:Str),x=.str ⟨#[c]⟩/\y=.str j/\Q (.bl (decide (c∈j.cps.toList))) H):=by
 intro pins s σ H x y v u Q I rx ry h
 obtain ⟨c,j,rfl,rfl,q⟩:=h
 exact Zl8 pins s σ H _ _ v u Q I rx ry ⟨_,_,rfl,rfl,by rw [StrLaws.found_one];exact q⟩
noncomputable def Od:V->Option Int->Option Int->Hp->VK->Prop:=fun x lo hi H Q=>∃ z,x=.str z/\z.length<=sizeLine/\Q (.str (Us z lo hi)) H
theorem sl_str:SlR X Od:=by
 intro pins s σ H x v vl vu lo hi sl Q I rx hs pl pu h
 obtain ⟨z,rfl,hz,q⟩:=h
 obtain ⟨t,rfl⟩:=rx
 obtain ⟨o,ho,hc,hd⟩:=hs
 refine ⟨"str",_,slot_str_getitem.lookup,typeIs_str _ _ _,?_⟩
 cases pl with
 | none =>
  cases pu with
  | none=>exact U1 (l:=none) (u:=none) (st:=none) ⟨_,ho,hc,hd⟩ rfl (Vq ⟨Qr (V1 z _ _) hz,fun t' k=>⟨.str (Us z _ _),H,I.tok k,⟨t',rfl⟩,q⟩⟩)
  | int j u=>exact U1 (l:=none) (u:=some (j,u)) (st:=none) ⟨_,ho,hc,hd⟩ rfl (Vq ⟨Qr (V1 z _ _) hz,fun t' k=>⟨.str (Us z _ _),H,I.tok k,⟨t',rfl⟩,q⟩⟩)
 | int i ti =>
  cases pu with
  | none=>exact U1 (l:=some (i,ti)) (u:=none) (st:=none) ⟨_,ho,hc,hd⟩ rfl (Vq ⟨Qr (V1 z _ _) hz,fun t' k=>⟨.str (Us z _ _),H,I.tok k,⟨t',rfl⟩,q⟩⟩)
  | int j u=>exact U1 (l:=some (i,ti)) (u:=some (j,u)) (st:=none) ⟨_,ho,hc,hd⟩ rfl (Vq ⟨Qr (V1 z _ _) hz,fun t' k=>⟨.str (Us z _ _),H,I.tok k,⟨t',rfl⟩,q⟩⟩)
end
noncomputable def Its (z:Str):It:=⟨fun i _=>i < z.cps.size,fun i H x H'=>H'=H/\∃ c,z.cps.toList[i]?=some c/\x=.str ⟨#[c]⟩,fun i _=>i=z.cps.size⟩
theorem Zjw (z:Str):["enumerate", "zip", "dict_itemiterator", "dict_reverseitemiterator", "odict_iterator", "itertools.zip_longest", "itertools.pairwise"].contains (strIterType z)=false:=by
 unfold strIterType
 cases z.cps.all (· < 128) <;> decide
theorem Zcx {P:Program}{w:World}{A:Around}(hh:A.handled=none)(it:Addr)(z:Str)(t:Tok):Walks P w A it [it] [it] z.cps.size (SignAt z) (fun i h=>h.IsStrIter it (strIterType z) z t i):=by
 unfold strIterType
 cases z.cps.all (· < 128)
 ·exact Walks.strWide hh it z t
 ·exact Walks.strAscii hh it z t
theorem Zqm {P:Program}{w:World}{K:Pk}{tg:Expr}(it:Addr)(z:Str)(t:Tok):F4 P w K tg (Its z) [it] it (fun i h=>h.IsStrIter it (strIterType z) z t i) where
 mem:=by simp
 obj:=fun i h st b hb=>by
  have e:b=it:=by simpa using hb
  subst e
  obtain ⟨o,e,c,d⟩:=st
  exact ⟨o,e,fun v z=>by rw [d] at z;cases z⟩
 keep:=fun i h h' st k=>let ⟨o,e,r⟩:=st;⟨o,k it (by simp) o e,r⟩
 item:=by
  intro X hP hw hK hc i pins s σ H E I hf st hg
  subst hP hw hK
  obtain ⟨f0,f1,f2,f3,f4,f5⟩:=hf it (by simp)
  refine (Zcx (P:=X.prog) (w:=X.w) (I.ok.hd hc) it z t).item i s _ _ hg st fun v h' tk hv st' kk=>?_
  obtain ⟨c,u,hcu,rfl⟩:=hv
  have I1:Inv X pins σ H { s with heap:=h',toks:=tk }:=I.turned (fun b o hb e=>kk b o (by simpa using hb) e) f0 f1 f3 f4 f5
  obtain ⟨o,e,cc,d⟩:=id st'
  exact ⟨_,rfl,Jk (s:={ s with heap:=h',toks:=tk }) e cc d (Zjw z) ⟨.str ⟨#[c]⟩,H,I1,⟨u,rfl⟩,⟨rfl,c,by simpa using hcu,rfl⟩,st',fun b hb=>(hf b hb).1⟩⟩
 done:=by
  intro X hP hw hK hc i pins s σ H E I hf st hg
  subst hP hw hK
  obtain ⟨f0,f1,f2,f3,f4,f5⟩:=hf it (by simp)
  have hg:i=z.cps.size:=hg
  subst hg
  exact (Zcx (P:=X.prog) (w:=X.w) (I.ok.hd hc) it z t).done s _ _ st fun h' tk kk=>⟨rfl,I.turned (fun b o hb e=>kk b o (by simpa using hb) e) f0 f1 f3 f4 f5⟩
 self:=fun A i s Q E st h=>by
  obtain ⟨o,e,c,d⟩:=st
  unfold strIterType at c
  cases ha:z.cps.all (· < 128)
  ·rw [ha] at c;exact wpAny_pyIter_striter_wide ⟨o,e,c,d⟩ h
  ·rw [ha] at c;exact wpAny_pyIter_striter_ascii ⟨o,e,c,d⟩ h
section
variable {X:Cx}{tg:Expr}
end
section
variable {g:TG}{tt:TT}{te:TE}{σ0:St}{H1:Hp}{D:Addr}{Q:VK}
noncomputable def Nl (g:TG)(tt:TT)(te:TE)(D:Addr)(Nx:List V->St->Hp->Prop)(x:V)(σ:St)(H:Hp):Prop :=
 g x σ H fun σ2 H3=>tt σ2 H3 fun b H4=>if b=true then te σ2 H4 fun y H5=>∃ ys,H5 D=some (.lst ys)/\ys.length < sizeLine/\(∃ zs,upd H5 D (.lst (ys++[y])) D=some (.lst zs)/\Nx zs σ2 (upd H5 D (.lst (ys++[y])))) else ∃ zs,H4 D=some (.lst zs)/\Nx zs σ2 H4
theorem Ziz {lo:Int}{n:Nat}(Pv:Nat->List V->St->Hp->Prop)(h0:Pv 0 [] σ0 (upd H1 D (.lst [])))
  (hs:∀ i ys σ H,i < n->H D=some (.lst ys)->Pv i ys σ H->Nl g tt te D (Pv (i+1)) (.int (lo+i)) σ H)
  (hd:∀ ys σ H,H D=some (.lst ys)->Pv n ys σ H->Q (.ref D) H):Jr (Gv lo n) g tt te σ0 H1 D Q:=by
 refine ⟨fun i m σ H=>m=n - i/\i<=n/\∃ ys,H D=some (.lst ys)/\Pv i ys σ H,⟨n,by simp,Qd _,[],Ad,h0⟩,?_⟩
 rintro i m σ H ⟨rfl,hi,ys,hD,p⟩
 by_cases hlt:i < n
 ·refine .inr ⟨hlt,fun σ2 H2=>∃ zs,H2 D=some (.lst zs)/\Pv (i+1) zs σ2 H2,fun σ' H' p'=>⟨n - (i+1),by omega,rfl,hlt,p'⟩,fun x H' y=>?_⟩
  obtain ⟨e,y⟩:=y
  subst e y
  exact hs i ys σ _ hlt hD p
 ·have e:i=n:=by omega
  subst e
  exact .inl ⟨Po _,hd ys σ H hD p⟩
theorem Hv {K:Pk}{a:Addr}{xs:List V}(Pv:Nat->List V->St->Hp->Prop)(h0:Pv 0 [] σ0 (upd H1 D (.lst [])))(hl:∀ i ys σ H,i<=xs.length->Pv i ys σ H->SqL K H a xs)
  (hs:∀ i x ys σ H,xs[i]?=some x->H D=some (.lst ys)->Pv i ys σ H->Nl g tt te D (Pv (i+1)) x σ H)
  (hd:∀ ys σ H,H D=some (.lst ys)->Pv xs.length ys σ H->Q (.ref D) H):Jr (Ha K a) g tt te σ0 H1 D Q:=by
 refine ⟨fun i m σ H=>m=xs.length - i/\i<=xs.length/\∃ ys,H D=some (.lst ys)/\Pv i ys σ H,⟨xs.length,by simp,Qd _,[],Ad,h0⟩,?_⟩
 rintro i m σ H ⟨rfl,hi,ys,hD,p⟩
 have q:=hl i ys σ H hi p
 by_cases hlt:i < xs.length
 ·refine .inr ⟨⟨xs,xs[i],q,by simp [hlt]⟩,fun σ2 H2=>∃ zs,H2 D=some (.lst zs)/\Pv (i+1) zs σ2 H2,fun σ' H' p'=>⟨xs.length - (i+1),by omega,rfl,hlt,p'⟩,fun x H' y=>?_⟩
  obtain ⟨e,y⟩:=y
  subst e
  exact hs i x ys σ _ (y xs q) hD p
 ·have e:i=xs.length:=by omega
  subst e
  exact .inl ⟨⟨xs,q,Po _⟩,hd ys σ H hD p⟩
end
section
variable {X:Cx}
end
theorem Same.upd {H:Hp}{p:Addr}{o:HO}(h:H p=none):Same H (upd H p o):=fun b u e=>by rw [Ag (A5 e h)];exact e
theorem Dc {H:Hp}{a:Addr}(h:H a=none)(o:HO):∃ H1,Same H H1/\H1 a=some o/\upd H a o=H1:=⟨_,Same.upd h,Ad,rfl⟩
theorem Same.put {H0 H:Hp}{p:Addr}{o:HO}(s:Same H0 H)(h:H p=none):Same H0 (L2.upd H p o):=s.trans (Same.upd h)
theorem Same.over {H0 H:Hp}{p:Addr}{o:HO}(s:Same H0 H)(h:H0 p=none):Same H0 (L2.upd H p o):=fun b u e=>by rw [Ag (A5 e h)];exact s b u e
theorem Same.tup {K:Pk}{H H':Hp}{a:Addr}{xs:List V}(e:Same H H')(h:SqT K H a xs):SqT K H' a xs:=by
 rcases h with (h | ⟨o,h⟩) | h
 ·exact .inl (.inl (e _ _ h))
 ·exact .inl (.inr ⟨o,e _ _ h⟩)
 ·exact .inr h
theorem E2 {sc out:Scope}{qual:Str}{n:Nat}{f:Addr}{cd:Value}(hk:sc.kind=.function)(hc:(sc.names.all fun y=>y.2 != .cell)=true)
  (hl:(sc.names.all fun y=>y.2 != .local || sc.names.lookup y.1 == some .local)=true) (hf:(sc.names.all fun y=>y.2 != .free || out.names.lookup y.1 == some .cell)=true):Hx sc (envOfC qual out n f cd) where
 kind:=hk
 nocell:=fun y hy e=>by have:=Ud.mp hc y hy;rw [e] at this;cases this
 loc:=fun y hy e=>by
  have:=Ud.mp hl y hy
  rw [e] at this
  simpa using this
 free:=fun y hy e=>by
  have h:=Ud.mp hf y hy
  rw [e] at h
  have h:out.names.lookup y.1=some .cell:=by simpa using h
  obtain ⟨c,hc⟩:=Zbb (n:=n+1) h
  show ((cellsFrom (n+1) out.names []).lookup y.1).isSome=true
  rw [hc]
  rfl
noncomputable def C7 (k:Nat)(cap:List Nat)(σ:St):St:=Qt k none++cap.map fun j=>(σ[j]?).join
theorem Zm4 {X:Cx}{scope:Scope}{N:List Str}{k:Nat}{cap:List Nat}{σ:St}(hl:k+cap.length=N.length)
  (h:∀(i j:Nat)(x:Str),cap[i]?=some j->N[k+i]?=some x->X.N[j]?=some x/\scope.names.lookup x=some .free/\(X.env.kindOf x=some .cell\/X.env.kindOf x=some .free)):Gi X scope N σ (C7 k cap σ):=by
 refine ⟨by unfold C7;simp [hl],fun i x v hx hv=>?_⟩
 unfold C7 at hv
 by_cases hi:i < k
 ·rw [Q7 (by simpa using hi),List.getElem?_replicate,if_pos hi] at hv
  cases hv
 ·rw [Rh (by simpa using hi),List.length_replicate,Qj] at hv
  cases hj:cap[i - k]? with
  | none=>rw [hj] at hv;cases hv
  | some j =>
   rw [hj] at hv
   have hv:(σ[j]?).join=some v:=P8 hv
   obtain ⟨h1,h2,h3⟩:=h (i - k) j x hj (by rw [show k+(i - k)=i by omega];exact hx)
   refine ⟨j,h1,?_,h2,h3⟩
   cases e:σ[j]? with
   | none=>rw [e] at hv;cases hv
   | some o=>rw [e] at hv;exact congrArg some hv
theorem Ew {X:Cx}{scope:Scope}{N:List Str}{k:Nat}{cap:List Nat}(hl:k+cap.length=N.length)
  (h:((cap.zip (N.drop k)).all fun p=>X.N[p.1]? == some p.2 && scope.names.lookup p.2 == some .free && (X.env.kindOf p.2 == some .cell || X.env.kindOf p.2 == some .free))=true):∀ σ,σ.length=X.N.length->Gi X scope N σ (C7 k cap σ):=fun σ _ =>
 Zm4 hl fun i j x hj hx=>by
  have m:(j,x)∈cap.zip (N.drop k):=by
   refine Rj (i:=i) ?_
   rw [List.getElem?_zip_eq_some]
   exact ⟨hj,by rw [List.getElem?_drop];exact hx⟩
  have:=Ud.mp h _ m
  simp only [Sr,Bool.or_eq_true,beq_iff_eq] at this
  exact ⟨this.1.1,this.1.2,this.2⟩
theorem Mo {α:Type}{xs:List α}{i:Int}(h0:0<=i)(h1:i < xs.length):∃ v,B4 xs i=some v/\v∈xs:=by
 have hj:i.toNat < xs.length:=by omega
 refine ⟨xs[i.toNat],?_,Ue hj⟩
 have:=Df (xs:=xs) (j:=i.toNat) (v:=xs[i.toNat]) (by simp [hj])
 rwa [Int.toNat_of_nonneg h0] at this
noncomputable def Oa:Expr->Option V
 | .Constant (.str x) _ _=>some (.str x)
 | .Constant (.int i) _ _=>some (.int i)
 | .Constant (.bool b) _ _=>some (.bl b)
 | .Constant .none _ _=>some .non
 | _=>none
noncomputable def Mm:List Expr->Option (List V)
 | []=>some []
 | e::es=>match Oa e,Mm es with
  | some v,some vs=>some (v::vs)
  | _,_=>none
noncomputable def Zai (xs:List V):TA:=fun _ H Q=>Q xs H
theorem Zro {X:Cx}{e:Expr}{v:V}(h:Oa e=some v):PE X e (tC v)/\∀ es,starEach (e::es) X.env=(false,eval e X.env)::starEach es X.env:=by
 unfold Oa at h
 split at h
 ·cases h;exact ⟨Zdz,fun _=>rfl⟩
 ·cases h;exact ⟨Zfa,fun _=>rfl⟩
 ·cases h;exact ⟨Zhz,fun _=>rfl⟩
 ·cases h;exact ⟨Zfj,fun _=>rfl⟩
 ·cases h
theorem Zgr {X:Cx}:∀{es:List Expr}{xs:List V},Mm es=some xs->PA X es (Zai xs)
 | [],xs,h=>by
  have h:some []=some xs:=h
  cases h
  exact Zgw
 | e::es,xs,h=>by
  unfold Mm at h
  split at h
  ·rename_i v vs h1 h2
   cases h
   obtain ⟨p,hs⟩:=Zro (X:=X) h1
   exact Zfv p (Zgr h2) (hs es)
  ·cases h
structure Ba (P:Program)(w:World)(K:Pk)(mg:Str->Option Value)(base:Heap)(k:Nat)(x:Str)(ps:List Str)(sp:Sp):Prop where
 ex:∃(f:Addr)(fd:FuncData),As P w K mg base Az k f fd ps sp/\mg x=some (.ref f)/\Ro K (.ref f)=true/\Binds K fd ps []
section
variable {X:Cx}{k:Nat}{x:Str}{ps:List Str}{sp:Sp}{p pos:Pos}{e:Expr}{es:List Expr}{t:TA}
theorem Zig (C:Ba X.prog X.w X.K X.mg X.base k x ps sp)(hr:Room k X.A)(ha:PA X (e::es) t)(hg:Gl X x:=by rfl)(hdb:(x == ("__debug__" : Str))=false:=by decide)
  (he:starEach (e::es) X.env=(false,eval e X.env)::starEach es X.env:=by rfl) (hpl:(backTo pos (starEach es X.env)).any (·.1)=false:=by rfl):PE X (.Call (.Name x p) (e::es) [] pos) (Jp sp [] E0 t):=by
 obtain ⟨f,fd,F,hm,hk,hb⟩:=C.ex
 exact Zck F hr hg hm hk hb .nil Znf ha hdb he hpl
end
end L2
namespace L2
open PySem
theorem Zs0 {x:V}{u:Value}(h:Mu u=some x):RelV x u:=by
 cases u <;> simp only [Mu] at h <;> first | (cases h;first | rfl | exact ⟨_,rfl⟩) | cases h
noncomputable def Hd:List Value->Option (List V)
 | []=>some []
 | u::r=>match Mu u,Hd r with
  | some x,some xs=>some (x::xs)
  | _,_=>none
theorem Zf8:∀{us:List Value}{xs:List V},Hd us=some xs->Vals xs us
 | [],xs,h=>by
  have h:some []=some xs:=h
  cases h
  exact .nil
 | u::r,xs,h=>by
  unfold Hd at h
  split at h
  ·rename_i x ys h1 h2
   cases h
   exact .cons (Zs0 h1) (Zf8 h2)
  ·cases h
theorem Zaq {K:Pk}{a:Addr}{od:Option Addr}{its:Array Value}{n:Nat}{sl:Array (Option Value)}{xs:List V}(l:K.lookup a=some ⟨.type "tuple",od,.seq its n,sl⟩)(h:Hd its.toList=some xs)(hz:xs.length<=1000):∀ H,SqT K H a xs:=fun H=>by
 have v:=Zf8 h
 refine .inr ⟨_,its,n,l,rfl,rfl,?_,v⟩
 have e:=v.length
 have b:1000<=sizeLine:=by decide
 have e2:its.toList.length=its.size:=Tk
 omega
theorem Ze3 {P:Program}{w:World}{K:Pk}{mg:Str->Option Value}{base:Heap}{k:Nat}{x:Str}{ps:List Str}{sp:Sp}{f:Addr}{fd:FuncData}(F:As P w K mg base Az k f fd ps sp)(m:mg x=some (.ref f))(kp:Ro K (.ref f)=true)(b:Binds K fd ps []):Ba P w K mg base k x ps sp:=⟨f,fd,F,m,kp,b⟩
section
variable {P:Program}{w:World}{K:Pk}{mg:Str->Option Value}{base:Heap}
end
end L2
set_option autoImplicit true
namespace L2
open PySem PySem.Spec PyProof.Rows
structure QE (X:Cx)(e:Expr)(t:TE):Prop where
 run:PE X e t
structure QT (X:Cx)(e:Expr)(t:TT):Prop where
 run:PT X e t
structure QW (X:Cx)(e:Expr)(t:TT):Prop where
 run:PW X e t
structure QA (X:Cx)(es:List Expr)(t:TA):Prop where
 run:PA X es t
structure QS (X:Cx)(st:Stmt)(t:TS):Prop where
 run:PS X st t
structure Dh (X:Cx)(sts:List Stmt)(t:TS):Prop where
 run:PSs X sts t
structure QG (X:Cx)(e:Expr)(g:TG):Prop where
 run:PG X e g
structure QGs (X:Cx)(es:List Expr)(g:Ee):Prop where
 run:PGs X es g
structure QI (X:Cx)(tg iter:Expr)(wi:TI):Prop where
 run:PI X tg iter wi
structure QC (X:Cx)(op:CmpOp)(a b:Expr)(t:TE):Prop where
 run:PC X op a b t
structure QO (X:Cx)(e:Option Expr)(t:TO):Prop where
 run:PO X e t
structure QTs (X:Cx)(ifs:List Expr)(t:TT):Prop where
 run:Hu X ifs t
theorem Ah {i j pos}:QE X (.Constant (.int i) j pos) (tC (.int i)):=⟨Zfa⟩
theorem Ct {b j pos}:QE X (.Constant (.bool b) j pos) (tC (.bl b)):=⟨Zhz⟩
theorem Eh {j pos}:QE X (.Constant .none j pos) (tC .non):=⟨Zfj⟩
theorem Av {x j pos}:QE X (.Constant (.str x) j pos) (tC (.str x)):=⟨Zdz⟩
theorem Dz {x:Str}{v:V}{u:Value}{pos:Pos}(hg:Gl X x)(hm:X.mg x=some u)(r:RelV v u)(hd:(x == ("__debug__" : Str))=false:=by decide):QE X (.Name x pos) (tC v):=⟨Zdb hg hm r hd⟩
theorem Bx {x:Str}{v:V}{u:Value}{pos:Pos}(hg:Gl X x)(hm:X.mg x=none)(hv:bootBuiltins x=some u)(r:RelV v u)(hn:x ≠ "__name__" := by decide)(hd:(x == ("__debug__" : Str))=false:=by decide):QE X (.Name x pos) (tC v):=⟨Zqf hg hm hv r hn hd⟩
theorem A7 {op:Operator}{r:R2}(ho:OpR X (binaryOp op) r)(ha:QE X a ta)(hb:QE X b tb):QE X (.BinOp a op b pos) (Fe r ta tb):=⟨Zst ho ha.run hb.run⟩
theorem Fo {op:UnaryOp}{r:V->Hp->VK->Prop}(ho:UnR X (unaryOp op) r)(ha:QE X a ta):QE X (.UnaryOp op a pos) (tUn r ta):=⟨Zp5 ho ha.run⟩
theorem N6 {op:CmpOp}{t:TE}(h:QC X op a b t)(h1:behindInMarks op b=false:=by first | exact Mi _ (by decide) (by decide) | rfl):QE X (.Compare a [op] [b] pos) t:=⟨Zpk h.run h1⟩
theorem Gj {op:CmpOp}{t:TE}(h:QC X op a b t)(h1:behindInMarks op b=false:=by first | exact Mi _ (by decide) (by decide) | rfl):QT X (.Compare a [op] [b] pos) (tB t):=⟨Zii h.run h1⟩
theorem Et {op:CmpOp}{r:R2}(ho:OpR X (compareOp op) r)(ha:QE X a ta)(hb:QE X b tb)(hm:behindInMarks op b=false):QE X (.Compare a [op] [b] pos) (Fe r ta tb):=⟨Zms ho ha.run hb.run hm⟩
theorem A8 {op:CmpOp}{r:R2}(ho:OpR X (compareOp op) r)(ha:QE X a ta)(hb:QE X b tb)(hm:behindInMarks op b=false):QT X (.Compare a [op] [b] pos) (Zbx (Fe r ta tb)):=⟨Zke ho ha.run hb.run hm⟩
theorem Zg2 {op op':CmpOp}{r r':R2}(ho:OpR X (compareOp op) r)(ho':OpR X (compareOp op') r')(ha:QE X a ta)(hb:QE X b tb)(hc:QE X c tc)(hm:lastMarks [op,op'] [b,c]=false:=by with_unfolding_all rfl):QE X (.Compare a [op,op'] [b,c] pos) (Zbc r r' ta tb tc):=⟨Zsy ho ho' ha.run hb.run hc.run hm⟩
theorem B0 {e:Expr}{t:TE}(h:QE X e t)(he:∀ whole,isTrue e X.env whole=(do let v <- whole;standAt e.pos;holding [v] (truthy v)):=by intro _;rfl):QT X e (tB t):=⟨Zog h.run he⟩
theorem Kr (ha:QT X a tA):QW X (.BoolOp .And [a] pos) tA:=⟨pw_and1 ha.run⟩
theorem Zak (ha:QT X a tA):QW X (.BoolOp .Or [a] pos) tA:=⟨pw_or1 ha.run⟩
theorem Ia {rest:List Expr}(ha:QT X a tA)(hb:QW X (.BoolOp .And (b::rest) pos) tB'):QW X (.BoolOp .And (a::b::rest) pos) (O0 tA tB'):=⟨pw_and ha.run hb.run⟩
theorem Pi {rest:List Expr}(ha:QT X a tA)(hb:QW X (.BoolOp .Or (b::rest) pos) tB'):QW X (.BoolOp .Or (a::b::rest) pos) (tOr tA tB'):=⟨pw_or ha.run hb.run⟩
theorem Dv (ha:QT X a tA):QT X (.UnaryOp .Not a pos) (Zb3 tA):=⟨Zj1 ha.run⟩
theorem Eo {op}{t:TE}(h:QE X a t):QE X (.BoolOp op [a] pos) t:=⟨Zsm h.run⟩
theorem Di {rest:List Expr}(ha:QE X a ta)(hb:QE X (.BoolOp .And (b::rest) pos) tb):QE X (.BoolOp .And (a::b::rest) pos) (O8 ta tb):=⟨Zsd ha.run hb.run⟩
theorem My (ha:QE X a ta):QE X (.UnaryOp .Not a pos) (Zap ta):=⟨Zj5 ha.run⟩
theorem Pb {c:Expr}(hc:QT X c tA)(ha:QE X a ta)(hb:QE X b tb):QE X (.IfExp c a b pos) (tIf tA ta tb):=⟨Ztx hc.run ha.run hb.run⟩
theorem Aw  : Dh X [] Zb9:=⟨Zsp⟩
theorem Ae {st:Stmt}{rest:List Stmt}{t u:TS}(h1:QS X st t)(h2:Dh X rest u):Dh X (st::rest) (N4 t u):=⟨Zle h1.run h2.run⟩
theorem Af {st:Stmt}{t:TS}(h1:QS X st t):Dh X [st] t:=⟨Zrh h1.run⟩
theorem Ze7  : QS X (.Continue pos) Zgm:=⟨Zod⟩
theorem Cm {e:Expr}{te:TE}(he:QE X e te)(hs:swapsWith e none pos.line X.env=pure false:=by rfl):QS X (.Expr e pos) (On te):=⟨Zmh he.run hs⟩
theorem Am {e:Expr}{te:TE}(he:QE X e te):QS X (.Return (some e) pos) (Zbn te):=⟨Zmb he.run⟩
theorem Au {t u:TS}{c:Expr}{a b:List Stmt}{tc:TT}(hc:QT X c tc)(ha:Dh X a t)(hb:Dh X b u):QS X (.If c a b pos) (Nm tc t u):=⟨Znd hc.run ha.run hb.run⟩
theorem Cw  : QGs X [] Ox:=⟨Zlq⟩
theorem Bk {e:Expr}{es:List Expr}{t:TG}{u:Ee}(h1:QG X e t)(h2:QGs X es u)(hs:(assignEach (e::es) X.env).map (·.2)=assign e X.env::(assignEach es X.env).map (·.2):=by rfl):QGs X (e::es) (Zby t u):=⟨Zpq h1.run h2.run hs⟩
theorem Ax {i:Nat}{x:Str}(hN:X.N.Nodup)(hi:X.N[i]?=some x)(hx:Em X.env.scope x)(hf:X.fn x=true\/X.env.scope.names.lookup x=some .local:=by first | exact .inl rfl | exact .inr rfl | assumption):QG X (.Name x pos) (Gs i):=⟨Zr0 hN hi hx hf⟩
theorem Zr8 {es:List Expr}{k:Nat}{t:Ee}{n:Nat}(hc:X.calm=true)(h:QGs X es t)(hn:(assignEach es X.env).length=n:=by rfl)(hst:(assignEach es X.env).findIdx? (·.1)=none:=by rfl):QG X (.Tuple es k pos) (Np X.K n t):=⟨Zql hc h.run hn hst⟩
theorem Zm7 {o i:Expr}{to ti:TE}{t:Kl}(ho:QE X o to)(hi:QE X i ti)(hs:Pe X t)(ha:∀ v,assign (.Subscript o i pos) X.env v=(do
   let ov <- holding [v] (eval o X.env)
   let iv <- holding [v,ov] (eval i X.env)
   standAt pos
   holding [v,ov,iv] (setItem ov iv v)
   release [v,ov,iv] []):=by intro _;rfl):QG X (.Subscript o i pos) (N9 to ti t):=⟨Ztq ho.run hi.run hs ha⟩
theorem Ng {tg e:Expr}{te:TE}{g:TG}(he:QE X e te)(hg:QG X tg g)(hs:swapsWithSole [tg] e pos.line X.env=pure false:=by rfl)(hw:swappedStores [tg] e X.env=pure none:=by rfl)(h1:(assignEach [tg] X.env).map (·.2)=[assign tg X.env]:=by rfl):QS X (.Assign [tg] e pos) (G7 te g):=⟨Zmc he.run hg.run hs hw h1⟩
theorem Zbe {i:Nat}{x:Str}{e:Expr}{te:TE}{pos':Pos}(hN:X.N.Nodup)(hi:X.N[i]?=some x)(hx:Em X.env.scope x)(he:QE X e te)(hs:swapsWith e (some (.Name x pos')) pos.line X.env=pure false:=by rfl)(hf:X.fn x=true\/X.env.scope.names.lookup x=some .local:=by first | exact .inl rfl | exact .inr rfl | assumption):QS X (.Assign [.Name x pos'] e pos) (G7 te (Gs i)):=⟨Zki hN hi hx he.run hs hf⟩
theorem Zrb {i:Nat}{x:Str}{e:Expr}{te:TE}{op:Operator}{ti:Iv}{pos':Pos}(hN:X.N.Nodup)(hi:X.N[i]?=some x)(hx:Em X.env.scope x)(he:QE X e te)(ho:PIp X op ti)(hf:X.fn x=true\/X.env.scope.names.lookup x=some .local:=by first | exact .inl rfl | exact .inr rfl | assumption):QS X (.AugAssign (.Name x pos') op e pos) (Za6 i te ti):=⟨Zku hN hi hx he.run ho hf⟩
theorem Jd {c:Expr}{body:List Stmt}{tc:TT}{tb:TS}(hp:PassesOwn (model X.prog X.w) X.A X.env X.xe)(hc:QT X c tc)(hb:Dh X body tb):QS X (.While c body [] pos) (Ze8 tc tb):=⟨Zji hp hc.run hb.run⟩
theorem Kb {a:Expr}{ta:TA}{p pos:Pos}(hg:Gl X "range")(hm:X.mg "range" = none)(ha:QA X [a] ta)(hs:starEach [a] X.env=[(false,eval a X.env)]:=by rfl):QI X tg (.Call (.Name "range" p) [a] [] pos) (N7 ta):=⟨Zqq hg hm ha.run hs⟩
theorem Cg {iter:Expr}{body:List Stmt}{wi:TI}{g:TG}{tb:TS}{pos:Pos}(hp:PassesOwn (model X.prog X.w) X.A X.env X.xe)(hc:X.calm=true)(hi:QI X tg iter wi)(hg:QG X tg g)(hb:Dh X body tb)(hs:∀ x,foldedSetIterable iter X.env x=pure x:=by intro _;rfl):QS X (.For tg iter body [] pos) (Ov wi g tb):=⟨Zld hp hc hi.run hg.run hb.run hs⟩
theorem Ab  : QA X [] Hy:=⟨Zgw⟩
theorem Aa (ha:QE X e te)(hr:QA X es t)(hs:starEach (e::es) X.env=(false,eval e X.env)::starEach es X.env:=by rfl):QA X (e::es) (Zab te t):=⟨Zfv ha.run hr.run hs⟩
theorem Ar {x1}(h:QA X es t):QE X (.Tuple es x1 pos) (Zax t):=⟨Zni h.run⟩
theorem Bh (h:QA X es t):QE X (.List es pos) (Zaw t):=⟨Zi9 h.run⟩
theorem Ay (C:Ba X.prog X.w X.K X.mg X.base k x ps sp)(hr:Room k X.A)(ha:QA X (e::es) t)(hg:Gl X x:=by rfl)(hdb:(x == ("__debug__" : Str))=false:=by decide)(he:starEach (e::es) X.env=(false,eval e X.env)::starEach es X.env:=by rfl)(hpl:(backTo pos (starEach es X.env)).any (·.1)=false:=by rfl):QE X (.Call (.Name x p) (e::es) [] pos) (Jp sp [] E0 t):=⟨Zig C hr ha.run hg hdb he hpl⟩
theorem A9 {id:String}(hc:Cd X (.builtin id) r)(hg:Gl X x)(hm:X.mg x=none)(hv:bootBuiltins x=some (.builtin id))(ha:QA X (e::es) t)(hn:x ≠ "__name__" := by decide)(hdb:(x == ("__debug__" : Str))=false:=by decide)(he:starEach (e::es) X.env=(false,eval e X.env)::starEach es X.env:=by rfl)(hpl:(backTo pos (starEach es X.env)).any (·.1)=false:=by rfl):QE X (.Call (.Name x p) (e::es) [] pos) (tCB r t):=⟨Zng hc hg hm hv ha.run hn hdb he hpl⟩
theorem Ep {T:String}(hc:Cd X (.type T) r)(hg:Gl X x)(hm:X.mg x=none)(hv:bootBuiltins x=some (.type T))(ha:QA X (e::es) t)(hn:x ≠ "__name__" := by decide)(hdb:(x == ("__debug__" : Str))=false:=by decide)(he:starEach (e::es) X.env=(false,eval e X.env)::starEach es X.env:=by rfl)(hpl:(backTo pos (starEach es X.env)).any (·.1)=false:=by rfl):QE X (.Call (.Name x p) (e::es) [] pos) (tCB r t):=⟨Zkz hc hg hm hv ha.run hn hdb he hpl⟩
theorem Gw  : QO X none Zas:=⟨Zsb⟩
theorem Gn (h:QE X e te):QO X (some e) (Zbt te):=⟨Zqs h.run⟩
theorem Gh {lo hi:Option Expr}{r:V->Option Int->Option Int->Hp->VK->Prop}(hr:SlR X r)(he:QE X e te)(hl:QO X lo tl)(hu:QO X hi th):QE X (.Subscript e (.Slice lo hi none p2) pos) (tSl r te tl th):=⟨Zpi hr he.run hl.run hu.run⟩
theorem Zox {r:R2}(hr:IxR X r)(ha:QE X a ta)(hb:QE X b tb)(hs:Pg b):QE X (.Subscript a b pos) (Fe r ta tb):=⟨Zqb hr ha.run hb.run hs⟩
theorem Zr7 {T id:String}(pa:PlainAttrs T)(slot:Slot T name id)(hty:typeOf (.builtin id)=pure (.type "method_descriptor"))(hm:Jn X id r)(ho:QE X o to)(ha:QA X (e::es) t)(hbase:attributeBase o name X.env (eval o X.env)=eval o X.env:=by rfl)(hfew:((backTo cpos (starEach (e::es) X.env)).all (fun x=>!x.1) && (backToKw cpos (keywordEach [] X.env)).all (fun x=>x.1.isSome)
   && decide ((e::es).length+([]:List Keyword).length+(if ([]:List Keyword).isEmpty then 0 else 1) < 30))=true:=by rfl) (hline:(apos.endLine == cpos.line)=true:=by rfl) (hs:starEach (e::es) X.env=(false,eval e X.env)::starEach es X.env:=by rfl) (hplain:(backTo cpos (starEach es X.env)).any (·.1)=false:=by rfl):QE X (.Call (.Attribute o name apos) (e::es) [] cpos) (tBM X.K T r to t):=⟨Zj6 pa slot hty hm ho.run ha.run hbase hfew hline hs hplain⟩
theorem Zoo {T id:String}(pa:PlainAttrs T)(slot:Slot T name id)(hty:typeOf (.builtin id)=pure (.type "method_descriptor"))(hm:Jn X id r)(ho:QE X o to)(hbase:attributeBase o name X.env (eval o X.env)=eval o X.env:=by rfl)(hline:(apos.endLine == cpos.line)=true:=by rfl):QE X (.Call (.Attribute o name apos) [] [] cpos) (Mc X.K T r to):=⟨Zkn pa slot hty hm ho.run hbase hline⟩
theorem Gb (hc:X.calm=true)(S:Hx scope X.env)(hi:QI X target iter wi)(T:∀ σ,σ.length=X.N.length->Gi X scope N σ (σ0 σ))(hg:∀ C s H fp,QG (Cr X scope C N s H fp) target g)(ht:∀ C s H fp,QTs (Cr X scope C N s H fp) ifs tt)(he:∀ C s H fp,QE (Cr X scope C N s H fp) elt te)(hs:∀ x,foldedSetIterable iter X.env x=pure x:=by intro _;rfl):QE X (.ListComp elt [⟨target,iter,ifs,0⟩] scope pos) (La wi σ0 g tt te):=⟨Zk4 hc S hi.run T (fun C s H fp=>(hg C s H fp).run) (fun C s H fp=>(ht C s H fp).run) (fun C s H fp=>(he C s H fp).run) hs⟩
theorem N0 {i:Nat}{y:Str}{py spos:Pos}(hc:X.calm=true)(S:Hx scope X.env)(hi:QI X target iter wi)(T:∀ σ,σ.length=X.N.length->Gi X scope N σ (σ0 σ))(hg:∀ C s H fp,QG (Cr X scope C N s H fp) target g)(ht:∀ C s H fp,QTs (Cr X scope C N s H fp) ifs tt)(he:∀ C s H fp,QE (Cr X scope C N s H fp) elt te)(hN:X.N.Nodup)(hy:X.N[i]?=some y)(hx:Em X.env.scope y)(hsw:swapsWith (.ListComp elt [⟨target,iter,ifs,0⟩] scope pos) (some (.Name y py)) spos.line X.env=pure true:=by rfl)(hf:X.fn y=true\/X.env.scope.names.lookup y=some .local:=by first | exact .inl rfl | exact .inr rfl | assumption)(hs:∀ x,foldedSetIterable iter X.env x=pure x:=by intro _;rfl):QS X (.Assign [.Name y py] (.ListComp elt [⟨target,iter,ifs,0⟩] scope pos) spos) (G7 (La wi σ0 g tt te) (Gs i)):=⟨Zoz hc S hi.run T (fun C s H fp=>(hg C s H fp).run) (fun C s H fp=>(ht C s H fp).run) (fun C s H fp=>(he C s H fp).run) hN hy hx hsw hf hs⟩
theorem Ge {X:Cx}:QTs X [] Zah:=⟨Zlt⟩
theorem Ot {X:Cx}{c:Expr}{t:TT}(h:QT X c t):QTs X [c] t:=⟨Zla h.run⟩
theorem Iz {j pos'}(ha:QE X a ta):QC X .Is a (.Constant .none j pos') (Zbm ta):=⟨Znq ha.run⟩
theorem Zeb {j pos'}(ha:QE X a ta):QC X .IsNot a (.Constant .none j pos') (Pf ta):=⟨Zlu ha.run⟩
theorem Zey {X:Cx}{es:List Expr}{xs:List V}(h:Mm es=some xs):QA X es (Zai xs):=⟨Zgr h⟩
theorem qv {X:Cx}(i:Nat){x:Str}{pos:Pos}(hN:X.N[i]?=some x:=by rfl)(hv:Vis X.env.scope x:=by first | exact Or.inl rfl | exact Or.inr (Or.inl rfl) | exact Or.inr (Or.inr rfl))(hd:(x == ("__debug__" : Str))=false:=by decide)
  (hcd:(x == ("__classdict__" : Str))=false:=by decide):QE X (.Name x pos) (N2 i):=⟨Zie hN hv hd hcd⟩
theorem QW.qt {X:Cx}{e:Expr}{t:TT}(h:QW X e t):QT X e t:=⟨h.run.pt⟩
section
variable {P:Program}{w:World}{K:Pk}{mg:Str->Option Value}{base:Heap}
theorem Fun.okq {x qual:Str}{st:Stmt}{f:Addr}{fd:FuncData}{N ps:List Str}{k:Nat}{sp:Sp}(F:Fun K x qual st f fd)(S:Bf N ps (A0 st))(len:∀ vs H Q E,sp vs H Q E->vs.length=ps.length)
  (hbody:∀(cdv:Value)(A:Around)(outer:List Env)(s:Shared)(H:Hp)(vs:List V)(Q:VK)(E:XK),Room k (A.deeper (envOfC qual (A0 st) s.heap.objs.size f cdv))->sp vs H Q E ->
   ∃ t,Dh (Cy Az P w K mg base N qual (A0 st) f cdv A outer s H E).nox (E6 st) t/\t { nx:=fun _ H'=>Q .non H',rt:=Q } (Db N vs) H):As P w K mg base Az (k+1) f fd ps sp :=
 F.ok S len fun cdv A outer s H vs Q E hr h=>by
  obtain ⟨t,q,r⟩:=hbody cdv A outer s H vs Q E hr h
  exact ⟨t,q.run,r⟩
end
section
variable {X:Cx}
noncomputable def Zq7:R2:=fun x y H Q=>∃ i j,x=.str i/\y=.str j/\i.length+j.length<=sizeLine/\Q (.str (i++j)) H
noncomputable def Zgf (K:Pk):R2:=fun x y H Q=>∃ a b xs ys,x=.ref a/\y=.ref b/\SqT K H a xs/\SqT K H b ys/\xs.length+ys.length<=sizeLine /\
 ∀ r H',Same H H'->SqT K H' r (xs++ys)->Q (.ref r) H'
theorem Zk8:OpR X (binaryOp .Add) (Zgf X.K):=by
 intro pins s σ H x y v u Q I rx ry h
 obtain ⟨a,b,xs,ys,rfl,rfl,ha,hb,hz,q⟩:=h
 by_cases hx:xs=[]
 ·subst hx
  cases rx
  cases ry
  obtain ⟨its,r1,p1,_⟩:=I.tuple ha
  obtain ⟨its2,r2,p2,_⟩:=I.tuple hb
  cases r1
  obtain ⟨⟨cls,dd,data,sl⟩,ho,hc,n,hd⟩:=id p1
  obtain ⟨⟨cls2,dd2,data2,sl2⟩,ho2,hc2,n2,hd2⟩:=id p2
  simp only at hc hd hc2 hd2
  subst hc hd hc2 hd2
  exact V0 ⟨_,ho,rfl⟩ ⟨_,ho2,rfl⟩ Vm Vw U4 U0 (Uy _ _)
   (tuple_addW0 a b _ _ n n2 dd dd2 sl sl2 (by simp)) ⟨ho,ho2,⟨.ref b,H,I,rfl,q b H (Same.refl H) hb⟩⟩
 ·refine Zh1 pins s σ H _ _ v u Q I rx ry ⟨a,b,xs,ys,rfl,rfl,ha,hb,hx,hz,fun e=>?_,fun _ p hp=>q p _ (fun c o e=>by rw [Ag (A5 e hp)];exact e) (.inl (.inl Ad))⟩
  subst e
  exact q a H (Same.refl H) (by rw [Qx];exact ha)
noncomputable def Je (K:Pk):R2:=fun x y H Q=>Er (fun i j=>.int (i+j)) x y H Q\/Zq7 x y H Q\/rCat x y H Q\/Zgf K x y H Q
theorem op_addA:OpR X (binaryOp .Add) (Je X.K):=op_add.or (op_add_str.or (op_cat.or Zk8))
theorem s_add_int {K:Pk}{i j:Int}{H:Hp}{Q:VK}(h:Q (.int (i+j)) H):Je K (.int i) (.int j) H Q:=.inl ⟨i,j,rfl,rfl,h⟩
theorem Zft {K:Pk}{i j:Str}{H:Hp}{Q:VK}(hl:i.length+j.length<=sizeLine)(h:Q (.str (i++j)) H):Je K (.str i) (.str j) H Q:=.inr (.inl ⟨i,j,rfl,rfl,hl,h⟩)
theorem Zbp {K:Pk}{a b:Addr}{xs ys:List V}{H:Hp}{Q:VK}(ha:SqT K H a xs)(hb:SqT K H b ys)(hz:xs.length+ys.length<=sizeLine)(h:∀ r H',Same H H'->SqT K H' r (xs++ys)->Q (.ref r) H'):Je K (.ref a) (.ref b) H Q:=.inr (.inr (.inr ⟨a,b,xs,ys,rfl,rfl,ha,hb,hz,h⟩))
noncomputable def O5:R2:=fun x y H Q=>rI CMul (fun i j=>.int (i * j)) x y H Q\/rRep x y H Q
theorem J7:OpR X (binaryOp .Mult) O5:=op_mul.or Zom
theorem s_mul_l {i j:Int}{H:Hp}{Q:VK}(h1:-(2 ^ 64) < i)(h2:i < 2 ^ 64)(h:Q (.int (i * j)) H):O5 (.int i) (.int j) H Q:=.inl ⟨i,j,rfl,rfl,.inl ⟨h1,h2⟩,h⟩
theorem s_mul_r {i j:Int}{H:Hp}{Q:VK}(h1:-(2 ^ 64) < j)(h2:j < 2 ^ 64)(h:Q (.int (i * j)) H):O5 (.int i) (.int j) H Q:=.inl ⟨i,j,rfl,rfl,.inr ⟨h1,h2⟩,h⟩
theorem s_rI {C:Int->Int->Prop}{g:Int->Int->V}{i j:Int}{H:Hp}{Q:VK}(hc:C i j)(h:Q (g i j) H):rI C g (.int i) (.int j) H Q:=⟨i,j,rfl,rfl,hc,h⟩
theorem s_rI0 {g:Int->Int->V}{i j:Int}{H:Hp}{Q:VK}(h:Q (g i j) H):Er g (.int i) (.int j) H Q:=⟨i,j,rfl,rfl,h⟩
theorem s_rU {g:Int->V}{i:Int}{H:Hp}{Q:VK}(h:Q (g i) H):rU g (.int i) H Q:=⟨i,rfl,h⟩
noncomputable def rLtA:R2:=fun x y H Q=>Er (fun i j=>.bl (decide (i < j))) x y H Q\/∃ i j,x=.str i/\y=.str j/\Q (.bl (decide (i.cps.toList < j.cps.toList))) H
theorem Me:OpR X (compareOp .Lt) rLtA:=op_lt.or Zpo
noncomputable def rLeA:R2:=fun x y H Q=>Er (fun i j=>.bl (decide (i<=j))) x y H Q\/∃ i j,x=.str i/\y=.str j/\Q (.bl (!(decide (j.cps.toList < i.cps.toList)))) H
theorem Zd3:OpR X (compareOp .LtE) rLeA:=op_le.or Znj
theorem s_lt {i j:Int}{H:Hp}{Q:VK}(h:Q (.bl (decide (i < j))) H):rLtA (.int i) (.int j) H Q:=.inl ⟨i,j,rfl,rfl,h⟩
theorem s_le {i j:Int}{H:Hp}{Q:VK}(h:Q (.bl (decide (i<=j))) H):rLeA (.int i) (.int j) H Q:=.inl ⟨i,j,rfl,rfl,h⟩
noncomputable def rInS (neg:Bool):R2:=fun x y H Q=>∃(c:Nat)(j:Str),x=.str ⟨#[c]⟩/\y=.str j/\Q (.bl (if neg then !decide (c∈j.cps.toList) else decide (c∈j.cps.toList))) H
theorem Zmu:OpR X (compareOp .In) (rInS false):=Zqi
noncomputable def Zbi (K:Pk)(neg:Bool):R2:=fun x y H Q=>rIn K neg x y H Q\/rInS neg x y H Q
theorem Zju:OpR X (compareOp .In) (Zbi X.K false):=op_in_seq.or Zmu
theorem Og {K:Pk}{neg:Bool}{x:V}{p:Addr}{xs:List V}{H:Hp}{Q:VK}(hq:SqL K H p xs\/SqT K H p xs)(hx:Cq x=true)(hxs:xs.all Cq=true)(h:Q (.bl (if neg then !Fx x xs else Fx x xs)) H):Zbi K neg x (.ref p) H Q:=.inl ⟨p,xs,rfl,hq,hx,hxs,h⟩
noncomputable def rSlA (K:Pk):V->Option Int->Option Int->Hp->VK->Prop:=fun x lo hi H Q=>Zac K x lo hi H Q\/Od x lo hi H Q\/rSlT K x lo hi H Q
theorem Zmr:SlR X (rSlA X.K):=sl_list.or (sl_str.or Zdu)
theorem Bl {K:Pk}{a:Addr}{xs:List V}{i:Int}{v:V}{H:Hp}{Q:VK}(ha:SqL K H a xs)(hv:B4 xs i=some v)(h:Q v H):Ji K (.ref a) (.int i) H Q:=.inl ⟨a,xs,i,v,rfl,rfl,ha,hv,h⟩
theorem A4 {K:Pk}{a:Addr}{xs:List V}{i:Int}{v:V}{H:Hp}{Q:VK}(ha:SqT K H a xs)(hv:B4 xs i=some v)(h:Q v H):Ji K (.ref a) (.int i) H Q:=.inr (.inl ⟨a,xs,i,v,rfl,rfl,ha,hv,h⟩)
theorem Zs5 {K:Pk}{z:Str}{i:Int}{c:Nat}{H:Hp}{Q:VK}(hl:z.length<=sizeLine)(hv:B4 z.cps.toList i=some c)(h:Q (.str ⟨#[c]⟩) H):Ji K (.str z) (.int i) H Q:=.inr (.inr ⟨z,i,c,rfl,rfl,hl,hv,h⟩)
noncomputable def Ni (K:Pk):List V->Hp->VK->Prop:=fun xs H Q=>∃ x n,xs=[x]/\LenV K x H n/\Q (.int n) H
theorem Zn7:Cd X (.builtin "len") (Ni X.K):=Zjb
theorem Hr {K:Pk}{a:Addr}{xs:List V}{H:Hp}{Q:VK}(ha:SqL K H a xs)(h:Q (.int xs.length) H):Ni K [.ref a] H Q:=⟨_,_,rfl,.inl ⟨xs,ha,rfl⟩,h⟩
theorem Gf {K:Pk}{a:Addr}{xs:List V}{H:Hp}{Q:VK}(ha:SqT K H a xs)(h:Q (.int xs.length) H):Ni K [.ref a] H Q:=⟨_,_,rfl,.inr ⟨xs,ha,rfl⟩,h⟩
structure Ec (mg:Str->Option Value)(x:Str)(v:V):Prop where
 ex:∃ u,mg x=some u/\RelV v u
theorem D7 {x:Str}{v:V}{pos:Pos}(G:Ec X.mg x v)(hg:Gl X x:=by rfl)(hd:(x == ("__debug__" : Str))=false:=by decide):QE X (.Name x pos) (tC v):=by
 obtain ⟨u,h,r⟩:=G.ex
 exact ⟨Zdb hg h r hd⟩
noncomputable def Of (K:Pk)(tl:TE):TI:=fun σ H R=>tl σ H fun x H1=>(∃ a,x=.ref a/\(∃ xs,SqL K H1 a xs)/\R (Ha K a) H1)\/(∃ a,x=.ref a/\(∃ xs,SqT K H1 a xs)/\R (Hc K a) H1)\/∃ z,x=.str z/\R (Its z) H1
theorem Zp3 {tg l:Expr}{tl:TE}(hl:QE X l tl):QI X tg l (Of X.K tl):=by
 refine ⟨fun pins s σ H R I h=>?_⟩
 refine Aj (hl.run pins s σ H _ I h) fun v s1 zq=>?_
 obtain ⟨x,H1,I1,r1,q1⟩:=zq
 have one:∀(l:Expr)(t:TE),PE X l t->True:=fun _ _ _=>trivial
 rcases q1 with ⟨a,e,⟨xs,hq⟩,q⟩ | ⟨a,e,⟨xs,hq⟩,q⟩ | ⟨z,e,q⟩
 ·subst e
  cases r1
  obtain ⟨its,rv,p,hz⟩:=I1.list hq
  refine Wu p.isList ?_
  refine ⟨s1.heap.objs.size,[s1.heap.objs.size],_,_,H1,rfl,I1.kept (t':=s1.toks) fun b o e=>Pp _ e,Zmm a _,⟨_,P5 _ rfl,rfl,rfl⟩,fun b hb=>?_,q⟩
  have e:b=s1.heap.objs.size:=by simpa using hb
  subst e
  exact I1.fpOk (Po _) (I1.hok.fresh (Po _))
 ·subst e
  cases r1
  obtain ⟨its,rv,p,hz⟩:=I1.tuple hq
  refine T8 (show s1.heap.IsTuple a its.toArray from p) ?_
  refine ⟨s1.heap.objs.size,[s1.heap.objs.size],_,_,H1,rfl,I1.kept (t':=s1.toks) fun b o e=>Pp _ e,Zoa a _,⟨_,P5 _ rfl,rfl,rfl⟩,fun b hb=>?_,q⟩
  have e:b=s1.heap.objs.size:=by simpa using hb
  subst e
  exact I1.fpOk (Po _) (I1.hok.fresh (Po _))
 ·subst e
  obtain ⟨t,rfl⟩:=r1
  refine wpAny_pyIter_strU ?_
  refine ⟨s1.heap.objs.size,[s1.heap.objs.size],_,_,H1,rfl,I1.kept (t':=s1.toks) fun b o e=>Pp _ e,Zqm _ z t,⟨_,P5 _ rfl,rfl,rfl⟩,fun b hb=>?_,q⟩
  have e:b=s1.heap.objs.size:=by simpa using hb
  subst e
  exact I1.fpOk (Po _) (I1.hok.fresh (Po _))
end
section
variable {X:Cx}{tg:Expr}
end
noncomputable def Ij (K:Pk)(a:Addr)(n:Nat):It :=
 ⟨fun i H=>∃ xs,SqL K H a xs/\xs.length=n/\i < n,fun i H x H'=>H'=H/\∀ xs,SqL K H a xs->xs[n - 1 - i]?=some x,fun i _=>i=n⟩
theorem Znb {P:Program}{w:World}{K:Pk}{tg:Expr}(a it:Addr)(n:Nat):F4 P w K tg (Ij K a n) [it] it (fun i h=>i<=n/\h.IsRevIter it a ((n:Int) - 1 - (i:Int))) where
 mem:=by simp
 obj:=fun i h st b hb=>by
  have e:b=it:=by simpa using hb
  subst e
  obtain ⟨o,e,c,d⟩:=st.2
  exact ⟨o,e,fun v z=>by rw [d] at z;cases z⟩
 keep:=fun i h h' st k=>⟨st.1,st.2.at fun o e=>k it (by simp) o e⟩
 item:=by
  intro X hP hw hK hc i pins s σ H E I hf st hg
  subst hP hw hK
  obtain ⟨xs,hq,hl,hi⟩:=hg
  obtain ⟨its,rv,p,hz⟩:=I.list hq
  have hx:xs[n - 1 - i]?=some (xs[n - 1 - i]'(by omega)):=Pn (by omega)
  obtain ⟨u,hu,ru⟩:=rv.get hx
  obtain ⟨f0,f1,f2,f3,f4,f5⟩:=hf it (by simp)
  have e:(n:Int) - 1 - (i:Int)=((n - 1 - i:Nat):Int):=by omega
  have hit:=st.2
  rw [e] at hit
  refine wpAny_pyNext_rev_item hit p.isList (x:=u) (by simpa using hu) fun h' st' sb=>?_
  have I1:Inv X pins σ H { s with heap:=h' }:=I.turned (t':=s.toks) (fun b o hb e=>(sb.2 b hb).trans e) f0 f1 f3 f4 f5
  have e2:((n - 1 - i:Nat):Int) - 1=(n:Int) - 1 - ((i+1:Nat):Int):=by omega
  rw [e2] at st'
  obtain ⟨o,eo,c,d⟩:=id st'
  exact ⟨u,rfl,Jk (s:={ s with heap:=h' }) eo c d (by decide) ⟨_,H,I1,ru,⟨rfl,fun ys hy=>by rw [I.list_inj hy hq];exact hx⟩,⟨hi,st'⟩,fun b hb=>(hf b hb).1⟩⟩
 done:=by
  intro X hP hw hK hc i pins s σ H E I hf st hg
  subst hP hw hK
  have hg:i=n:=hg
  subst hg
  obtain ⟨f0,f1,f2,f3,f4,f5⟩:=hf it (by simp)
  have e:(i:Int) - 1 - (i:Int)=-1:=by omega
  have hit:=st.2
  rw [e] at hit
  exact wpAny_pyNext_rev_end (I.ok.hd hc) hit fun h' eb=>⟨rfl,I.turned (t':=s.toks) (fun b o hb e=>eb b o hb e) f0 f1 f3 f4 f5⟩
 self:=fun _ _ _ _ _ st h=>Wi st.2 h
theorem Zdo:bootBuiltins "reversed" = some (.type "reversed"):=by decide +kernel
section
variable {X:Cx}{tg:Expr}
noncomputable def Nu (K:Pk)(ta:TA):TI:=fun σ H R=>ta σ H fun vs H1=>∃ a xs,vs=[.ref a]/\SqL K H1 a xs/\R (Ij K a xs.length) H1
theorem Zoc {a:Expr}{ta:TA}{p pos:Pos}(hg:Gl X "reversed")(hm:X.mg "reversed" = none)(ha:QA X [a] ta)(hs:starEach [a] X.env=[(false,eval a X.env)]:=by rfl):QI X tg (.Call (.Name "reversed" p) [a] [] pos) (Nu X.K ta):=by
 refine ⟨fun pins s σ H R I h=>?_⟩
 refine Call_ (Dp I hg hm Zdo (Q6 (Aj (ha.run pos pins s σ H _ I h) fun us s1 zq=>?_) hs rfl))
 obtain ⟨vs,H1,I1,r1,q1⟩:=zq
 obtain ⟨l,xs,e,hq,q⟩:=q1
 subst e
 cases r1 with
 | cons r rr =>
  cases rr
  cases r
  obtain ⟨its,rv,pl,hz⟩:=I1.list hq
  refine call_reversed_list pl.isList ?_
  have hl:=rv.length
  have st0:(s1.heap.push (V2 l (((its.toArray).size:Int) - 1))).IsRevIter s1.heap.objs.size l ((xs.length:Int) - 1 - ((0:Nat):Int)):=by
   refine ⟨_,P5 _ rfl,rfl,?_⟩
   have e:((its.toArray).size:Int) - 1=(xs.length:Int) - 1 - ((0:Nat):Int):=by simp [hl]
   rw [<- e]
   rfl
  refine Wi (it:=s1.heap.objs.size) (l:=l) (i:=(xs.length:Int) - 1 - ((0:Nat):Int)) st0 ?_
  refine ⟨s1.heap.objs.size,[s1.heap.objs.size],_,_,H1,rfl,I1.kept (t':=s1.toks) fun b o e=>Pp _ e,Znb l _ xs.length,⟨Qd _,st0⟩,fun b hb=>?_,q⟩
  have e:b=s1.heap.objs.size:=by simpa using hb
  subst e
  exact I1.fpOk (Po _) (I1.hok.fresh (Po _))
theorem Zb5 {K:Pk}{a:Addr}{xs:List V}{g:TG}{tb:TS}{D:Ends}{σ:St}{H:Hp}(Pv:Nat->St->Hp->Prop)(h0:Pv 0 σ H)(hl:∀ i σ H,i<=xs.length->Pv i σ H->SqL K H a xs)
  (hs:∀ i x σ H,i < xs.length->xs[xs.length - 1 - i]?=some x->Pv i σ H->g x σ H fun σ2 H2=>tb { D with nx:=Pv (i+1),ct:=Pv (i+1),bk:=D.nx } σ2 H2) (hd:∀ σ H,Pv xs.length σ H->D.nx σ H) :
  ∃ W:Nat->Nat->St->Hp->Prop,(∃ m,W 0 m σ H)/\∀ i m σ H,W i m σ H ->
   ((Ij K a xs.length).stop i H/\D.nx σ H)\/((Ij K a xs.length).go i H/\∃ N:St->Hp->Prop,(∀ σ' H',N σ' H'->∃ m',m' < m/\W (i+1) m' σ' H')/\∀ x H',(Ij K a xs.length).yld i H x H'->g x σ H' fun σ2 H2=>tb { D with nx:=N,ct:=N,bk:=D.nx } σ2 H2):=by
 refine ⟨fun i m σ H=>m=xs.length - i/\i<=xs.length/\Pv i σ H,⟨xs.length,by simp,Qd _,h0⟩,?_⟩
 rintro i m σ H ⟨rfl,hi,p⟩
 have q:=hl i σ H hi p
 by_cases hlt:i < xs.length
 ·refine .inr ⟨⟨xs,q,rfl,hlt⟩,Pv (i+1),fun σ' H' p'=>⟨xs.length - (i+1),by omega,rfl,hlt,p'⟩,fun x H' y=>?_⟩
  obtain ⟨e,y⟩:=y
  subst e
  exact hs i x σ _ hlt (y xs q) p
 ·have e:i=xs.length:=by omega
  subst e
  exact .inl ⟨rfl,hd σ H p⟩
end
section
variable {prog:Program}{w:World}{A:Around}{E:Value->Shared->Prop}{s:Shared}
theorem Zo3 {it t:Addr}{i:Nat}{items:Array Value}{x:Value}{Q:Value->Shared->Prop}(hit:s.heap.IsTupleIter it t i)(ht:s.heap.IsTuple t items)(hx:items[i]?=some x)
  (hQ:∀ h',h'.IsTupleIter it t (i+1)->P9 it s.heap h'->Q x { s with heap:=h' }):wpAny (model prog w) A (Q8 (.ref it)) Q E s:=by
 obtain ⟨o,ho,hc,hd⟩:=id hit
 obtain ⟨ol,hol,_,nl,hdl⟩:=ht
 unfold Q8
 refine Pl (Ri (name:=Q5 "__next__") hit.typeIs Ut
  (Rm Ut hit.typeIs Xa ?_ (W9 _)))
 show wpAny _ _ (field (.ref it) 0 >>= _) _ _ s
 refine Pl (P4 ho hd (x:=.ref t) rfl ?_)
 show wpAny _ _ (if (Value.ref t == Value.none)=true then _ else _) _ _ s
 rw [if_neg (show ¬ ((Value.ref t == Value.none)=true) from P6)]
 show wpAny _ _ (field (.ref it) 1 >>= _) _ _ s
 refine Pl (P4 ho hd (x:=.int i 0) rfl ?_)
 show wpAny _ _ (seqItems? (.ref t) >>= _) _ _ s
 refine Pl (Rp hol hdl ?_)
 simp only [Ua,hx]
 refine Pl (Tz ho hd (by simp) (Pm ⟨x,rfl,Pm (hQ _ ?_ (P9.update ..))⟩))
 exact ⟨_,Rt _ ho (Wg (Vg hd _)),(Obj.cls_mapFields ..).trans hc,by
  rw [Vg hd];simp [rawInt]⟩
theorem Zrw {it t:Addr}{i:Nat}{items:Array Value}{Q:Value->Shared->Prop}(hh:A.handled=none)(hit:s.heap.IsTupleIter it t i)(ht:s.heap.IsTuple t items)(hx:items[i]?=none)
  (hE:∀ h' e,Tb it s.heap h'->(∃ o,h'.get? e=some o/\o.cls=.type "StopIteration")->E (.ref e) { s with heap:=h' }):wpAny (model prog w) A (Q8 (.ref it)) Q E s:=by
 obtain ⟨o,ho,hc,hd⟩:=id hit
 obtain ⟨ol,hol,_,nl,hdl⟩:=ht
 unfold Q8
 refine Pl (Ri (name:=Q5 "__next__") hit.typeIs Ut
  (Rm Ut hit.typeIs Xa ?_ (W9 _)))
 show wpAny _ _ (field (.ref it) 0 >>= _) _ _ s
 refine Pl (P4 ho hd (x:=.ref t) rfl ?_)
 show wpAny _ _ (if (Value.ref t == Value.none)=true then _ else _) _ _ s
 rw [if_neg (show ¬ ((Value.ref t == Value.none)=true) from P6)]
 show wpAny _ _ (field (.ref it) 1 >>= _) _ _ s
 refine Pl (P4 ho hd (x:=.int i 0) rfl ?_)
 show wpAny _ _ (seqItems? (.ref t) >>= _) _ _ s
 refine Pl (Rp hol hdl ?_)
 simp only [Ua,hx]
 refine Pl (Se (Pl (Tz ho hd (by simp) ?_)))
 show wpAny _ _ (newExc (.type "StopIteration") [] >>= _) _ _ _
 refine Pl ?_
 simp only [newExc,newTuple]
 refine Pl (Rk ?_ (by size_fits))
 refine Pl (m:=firstArgMember _ _) (wpAny_of_eq (a:=Value.none) (by first | rfl | (simp only [firstArgMember];rfl)) ?_)
 refine Rk ?_ (by size_fits)
 simp only [raiseNew]
 refine Pl (wpAny_handled ?_)
 first | rw [show A.in1.handled=none from hh] | rw [hh]
 refine Pl (Pm (wpAny_throw ?_))
 exact hE _ _ (((P9.update ..).extBut.push _).push _) ⟨_,P5 _ rfl,rfl⟩
end
theorem Zcd {prog:Program}{w:World}{A:Around}(hh:A.handled=none)(it l:Addr)(hne:l≠it)(items:Array Value) :
  Draws prog w A it [it,l] items.size (fun i v=>items[i]?=some v) (fun i h=>h.IsTupleIter it l i/\h.IsTuple l items) where
 live:=fun _ _ st=>let ⟨o,ho,_⟩:=st.1;⟨o,ho⟩
 frame:=fun _ _ _ st hk=>⟨st.1.at fun o e=>hk it (by simp) o e,let ⟨o,e,r⟩:=st.2;⟨o,hk l (by simp) o e,r⟩⟩
 item:=fun i s Q E hi st hQ=>by
  refine Zo3 st.1 st.2 (x:=items[i]) (by simp [hi]) fun h' hit' hs'=>?_
  exact hQ _ h' s.toks (by simp [hi]) ⟨hit',st.2.extBut hs'.extBut hne⟩ hs'
 done:=fun s Q E st hE=>Zrw hh st.1 st.2 (by simp) hE
theorem Zmt (l:Addr)(items:Array Value)(n:Nat)(dct:Option Addr)(sl:Array (Option Value)) :
  Meets (Builtin.«enumerate.__new__» ⟨[.type "enumerate",.ref l],[]⟩) (fun _ R s=>s.heap.get? l=some { cls:=.type "tuple",dict:=dct,data:=.seq items n,slots:=sl } /\
   R (.ok (.ret (.ref (s.heap.push { cls:=.type "tuple_iterator",data:=.fields #[.ref l,.int 0 0] }).objs.size)))
    { s with heap:=(s.heap.push { cls:=.type "tuple_iterator",data:=.fields #[.ref l,.int 0 0] }).push { cls:=.type "enumerate",data:=.fields #[.none,.bool false,.ref s.heap.objs.size,rawInt 0,.none,.none] } }) :=
 .of_wp fun prog w A R s h=>by
  obtain ⟨hp,g,d,tk,os⟩:=s;obtain ⟨hl,h⟩:=h
  have hsub:=sub_enumerate
  have hL:Heap.IsTuple (Shared.heap ⟨hp,g,d,tk,os⟩) l items:=⟨_,hl,rfl,n,rfl⟩
  wp_walk using Uu hl
  refine wpAny_stack_any fun st=>Pm ?_
  split
  ·rename_i c _ _ _ _ _
   cases (c == Value.type "enumerate")
   ·wp_walk using Uu hl,T8 hL
    exact ⟨_,rfl,h⟩
   ·wp_walk using Uu hl,T8 hL
    exact ⟨_,rfl,h⟩
  ·wp_walk using Uu hl,T8 hL
   exact ⟨_,rfl,h⟩
section
variable {prog:Program}{w:World}{A:Around}{E:Value->Shared->Prop}{s:Shared}
theorem Zn1 {l:Addr}{items:Array Value}{Q:Value->Shared->Prop}(hL:s.heap.IsTuple l items)
  (h:∀ h',IsEnum h' (s.heap.objs.size+1) s.heap.objs.size 0 .none->h'.IsTupleIter s.heap.objs.size l 0->h'.objs.size=s.heap.objs.size+2 ->
   (∀ b o,s.heap.get? b=some o->h'.get? b=some o)->Q (.ref (s.heap.objs.size+1)) { s with heap:=h' }) :
  wpAny (model prog w) A (call (.type "enumerate") [.ref l]) Q E s:=by
 obtain ⟨⟨c,dct,dt,sl⟩,hl,hc,n,hd⟩:=hL
 replace hc:c=.type "tuple" := hc
 replace hd:dt=.seq items n:=hd
 subst hc hd
 refine callType_new PySem.F.called_enumerate (by decide) (PySem.F.typeCall_enumerate_1 _) (PySem.F.newCall_enumerate_1 _) (fun obj=>PySem.F.args_object_init_2 obj _) PySem.F.entry_enumerate_new
  (Zmt l items n dct sl) ⟨hl,?_⟩
 have hz:(s.heap.push { cls:=.type "tuple_iterator",data:=.fields #[.ref l,.int 0 0] }).objs.size=s.heap.objs.size+1:=Q4 ..
 show _/\_
 rw [hz]
 have he:IsEnum ((s.heap.push { cls:=.type "tuple_iterator",data:=.fields #[.ref l,.int 0 0] }).push
   { cls:=.type "enumerate",data:=.fields #[.none,.bool false,.ref s.heap.objs.size,rawInt 0,.none,.none] }) (s.heap.objs.size+1) s.heap.objs.size 0 .none:=by
  unfold IsEnum
  rw [<- hz]
  exact P5 _ rfl
 refine ⟨⟨_,he,rfl⟩,h _ he ⟨_,Pp _ (P5 _ rfl),rfl,rfl⟩ (by rw [Q4,hz]) fun b o e=>Pp _ (Pp _ e)⟩
noncomputable def Mz (h:Heap)(e it:Addr)(i:Int):Prop:=∃(a:Addr)(oa:Obj)(f1 old:Value),h.get? e=some { cls:=.type "enumerate",dict:=none,data:=.fields #[rawInt a,f1,.ref it,rawInt i,.none,old],slots:=#[] }/\h.get? a=some oa/\a≠e/\a≠it
theorem Zg1 {a:Addr}{Q:Option Obj->Shared->Prop}(h:Q (s.heap.get? a) s):wpAny (model prog w) A (loadIfAlive a) Q E s:=by
 intro Γ p hΓ
 show Sem.wp _ Γ (.loadIfAlive a .pure) _ _ p s
 rw [Sem.wp_loadIfAlive]
 exact h
theorem Zny {e it:Addr}{fp:List Addr}{n i:Nat}{P:Nat->Value->Prop}{St:Nat->Heap->Prop}{Q:Value->Shared->Prop}
  (D:Draws prog w A it fp n P St) (he0:Mz s.heap e it i) (hst:St i s.heap) (hlt:i < n) (hne:e≠it) (hef:e ∉ fp)
  (hQ:∀ x h' tk,P i x->Mz h' e it ((i:Int)+1)->St (i+1) h' ->
   h'.get? s.heap.objs.size=some { cls:=.type "tuple",data:=.seq #[.int i tk,x] }->h'.objs.size=s.heap.objs.size+1 ->
   (∀ b o,b≠e->b≠it->s.heap.get? b=some o->h'.get? b=some o)->Q (.ref s.heap.objs.size) { s with heap:=h',toks:=tk+1 }) :
  wpAny (model prog w) A (Builtin.«enumerate.__next__» ⟨[.ref e],[]⟩) (fun fin s'=>∃ v,fin=.done (.ret v)/\Q v s') E s:=by
 obtain ⟨a,oa,f1,old,he,hoa,hae,hai⟩:=he0
 obtain ⟨hp,g,d,tk₀,os⟩:=s
 show wpAny _ _ (field (.ref e) 2 >>= _) _ _ _
 refine Pl (P4 he rfl (x:=.ref it) rfl ?_)
 refine Pl (D.item i _ _ _ hlt hst fun x h₁ tk hPx hit₁ hs₁=>?_)
 replace hs₁:P9 it hp h₁:=hs₁
 have he₁:=(hs₁.2 e hne).trans he
 have ha₁:=hs₁.extBut a oa hai hoa
 show wpAny _ _ (field (.ref e) 3 >>= _) _ _ ⟨h₁,g,d,tk,os⟩
 refine Pl (P4 he₁ rfl (x:=rawInt i) rfl ?_)
 show wpAny _ _ (field (.ref e) 4 >>= _) _ _ ⟨h₁,g,d,tk,os⟩
 refine Pl (P4 he₁ rfl (x:=.none) rfl ?_)
 show wpAny _ _ (mkInt i >>= _) _ _ ⟨h₁,g,d,tk,os⟩
 refine Pl (wpAny_mkInt ?_)
 show wpAny _ _ (setField (.ref e) 3 (rawInt ((i:Int)+1)) >>= _) _ _ ⟨h₁,g,d,tk+1,os⟩
 refine Pl (Ru he₁ (by simp) fun h₂ he₂ hs₂=>?_)
 replace hs₂:P9 e h₁ h₂:=hs₂
 have ha₂:=hs₂.extBut a oa hae ha₁
 replace he₂:h₂.get? e=some { cls:=.type "enumerate",dict:=none,data:=.fields #[rawInt a,f1,.ref it,rawInt ((i:Int)+1),.none,old],slots:=#[] }:=he₂
 show wpAny _ _ (setField (.ref e) 4 .none >>= _) _ _ ⟨h₂,g,d,tk+1,os⟩
 refine Pl (Ru he₂ (by simp) fun h₃ he₃ hs₃=>?_)
 replace hs₃:P9 e h₂ h₃:=hs₃
 have ha₃:=hs₃.extBut a oa hae ha₂
 replace he₃:h₃.get? e=some { cls:=.type "enumerate",dict:=none,data:=.fields #[rawInt a,f1,.ref it,rawInt ((i:Int)+1),.none,old],slots:=#[] }:=he₃
 show wpAny _ _ (newTuple [.int i tk,x] >>= _) _ _ ⟨h₃,g,d,tk+1,os⟩
 refine Pl (wpAny_newTuple ?_)
 have he₄:(h₃.push { cls:=.type "tuple",data:=.seq #[.int i tk,x] }).get? e=some { cls:=.type "enumerate",dict:=none,data:=.fields #[rawInt a,f1,.ref it,rawInt ((i:Int)+1),.none,old],slots:=#[] }:=Pp _ he₃
 have ha₄:(h₃.push { cls:=.type "tuple",data:=.seq #[.int i tk,x] }).get? a=some oa:=Pp _ ha₃
 generalize hh₄:h₃.push { cls:=.type "tuple",data:=.seq #[.int i tk,x] }=h₄ at he₄ ha₄
 have hsz:h₃.objs.size=hp.objs.size:=by rw [hs₃.1,hs₂.1,hs₁.1]
 have hel:e < hp.objs.size:=Pr he
 have ht₄:h₄.get? hp.objs.size=some { cls:=.type "tuple",data:=.seq #[.int i tk,x] }:=by rw [<- hh₄,<- hsz];exact P5 _ rfl
 have hz₄:h₄.objs.size=hp.objs.size+1:=by rw [<- hh₄,Q4,hsz]
 have hk₄:∀ b o,b≠e->b≠it->hp.get? b=some o->h₄.get? b=some o:=fun b o hbe hbi hb=>by
  rw [<- hh₄];exact Pp _ (hs₃.extBut b o hbe (hs₂.extBut b o hbe (hs₁.extBut b o hbi hb)))
 have hit₄:St (i+1) h₄:=D.frame _ _ _ hit₁ fun b hb o y=>by
  have hbe:b≠e:=fun q=>hef (q ▸ hb)
  rw [<- hh₄];exact Pp _ (hs₃.extBut b o hbe (hs₂.extBut b o hbe y))
 show wpAny _ _ (Rq (.ref e) >>= _) _ _ ⟨h₄,g,d,tk+1,os⟩
 rw [hsz]
 clear hh₄ ha₃ ha₂ ha₁ he₃ hs₃ he₂ hs₂ he₁ hs₁ hit₁ hsz h₃ h₂ h₁
 refine Pl ?_
 unfold Rq
 refine Pl (P4 he₄ rfl (x:=rawInt a) rfl ?_)
 show wpAny _ _ (loadIfAlive ((a:Int).toNat) >>= _) _ _ ⟨h₄,g,d,tk+1,os⟩
 refine Pl (Zg1 ?_)
 rw [Ua]
 show wpAny _ _ (if (h₄.get? a).isNone=true then _ else _) _ _ ⟨h₄,g,d,tk+1,os⟩
 rw [ha₄]
 rw [if_neg (by simp)]
 refine Pl (P4 he₄ rfl (x:=f1) rfl ?_)
 have fin:∀ h₅,Mz h₅ e it ((i:Int)+1)->P9 e h₄ h₅->Q (.ref hp.objs.size) ⟨h₅,g,d,tk+1,os⟩:=fun h₅ hl hs₅ =>
  hQ x h₅ tk hPx hl (D.frame _ _ _ hit₄ fun b hb o y=>hs₅.extBut b o (fun q=>hef (q ▸ hb)) y) (hs₅.extBut _ _ (Qy hel) ht₄) (by rw [hs₅.1,hz₄]) fun b o hbe hbi hb=>hs₅.extBut b o hbe (hk₄ b o hbe hbi hb)
 by_cases hf:(f1 != Value.bool true)=true
 ·simp only [hf,if_true]
  refine Pl (Ru he₄ (by simp) fun h₅ he₅ hs₅=>?_)
  replace hs₅:P9 e h₄ h₅:=hs₅
  refine Pm ?_
  simp only [R4,if_false]
  refine Pm ⟨_,rfl,fin h₅ ⟨a,oa,.bool true,old,he₅,hs₅.extBut a oa hae ha₄,hae,hai⟩ hs₅⟩
 ·simp only [hf]
  refine Pm ?_
  simp only [R4,if_false]
  exact Pm ⟨_,rfl,fin h₄ ⟨a,oa,f1,old,he₄,ha₄,hae,hai⟩ (P9.refl ..)⟩
noncomputable def EnSt (h:Heap)(e it:Addr)(i:Nat):Prop:=(i=0/\∃ old,IsEnum h e it 0 old)\/(0 < i/\Mz h e it i)
theorem EnSt.obj {h:Heap}{e it:Addr}{i:Nat}(x:EnSt h e it i):∃ vs,h.get? e=some { cls:=.type "enumerate",dict:=none,data:=.fields vs,slots:=#[] }:=by
 rcases x with ⟨_,old,x⟩ | ⟨_,_,_,_,_,x,_⟩
 ·exact ⟨_,x⟩
 ·exact ⟨_,x⟩
theorem Zsc {e it:Addr}{fp:List Addr}{n i:Nat}{P:Nat->Value->Prop}{St:Nat->Heap->Prop}{Q:Option Value->Shared->Prop}
  (D:Draws prog w A.in1 it fp n P St) (he:EnSt s.heap e it i) (hst:St i s.heap) (hlt:i < n) (hne:e≠it) (hef:e ∉ fp)
  (hQ:∀ x h' tk,P i x->EnSt h' e it (i+1)->St (i+1) h' ->
   h'.get? s.heap.objs.size=some { cls:=.type "tuple",data:=.seq #[.int i tk,x] }->h'.objs.size=s.heap.objs.size+1 ->
   (∀ b o,b≠e->b≠it->s.heap.get? b=some o->h'.get? b=some o)->Q (some (.ref s.heap.objs.size)) { s with heap:=h',toks:=tk+1 }) :
  wpAny (model prog w) A (pyNext (.ref e)) Q E s:=by
 obtain ⟨vs,ho⟩:=he.obj
 have hT:s.TypeIs (.ref e) "enumerate" := ⟨_,ho,rfl⟩
 have hel:e < s.heap.objs.size:=Pr ho
 have hil:it < s.heap.objs.size:=by obtain ⟨_,y⟩:=D.live _ _ hst;exact Pr y
 rcases he with ⟨rfl,old,he⟩ | ⟨_,he⟩
 ·refine wpAny_pyNext_enum_itemD D he hst hlt hne hef fun x h' tk a b c z k q=>?_
  exact hQ x h' tk a (.inr ⟨V3 _,_,_,_,_,b,z,Qy hel,Qy hil⟩) c z k q
 ·unfold pyNext
  exact Pl (Rx (Ri (name:=Q5 "__next__") hT Uv
   (Rm Uv hT Xc
    (Zny D he hst hlt hne hef fun x h' tk a b c z k q=>Pm (hQ x h' tk a (.inr ⟨V3 _,b⟩) c z k q)) (Xb _))))
theorem Zi0 {e it:Addr}{fp:List Addr}{n:Nat}{P:Nat->Value->Prop}{St:Nat->Heap->Prop}{Q:Option Value->Shared->Prop}
  (D:Draws prog w A.in1 it fp n P St) (he:EnSt s.heap e it n) (hst:St n s.heap)
  (hQ:∀ h',Tb it s.heap h'->Q none { s with heap:=h' }):wpAny (model prog w) A (pyNext (.ref e)) Q E s:=by
 obtain ⟨vs,ho⟩:=he.obj
 have hT:s.TypeIs (.ref e) "enumerate" := ⟨_,ho,rfl⟩
 have h2:vs[2]?=some (.ref it):=by
  rcases he with ⟨rfl,old,he⟩ | ⟨_,a,oa,f1,old,he,_⟩
  ·unfold IsEnum at he
   rw [ho] at he
   injection he with he
   injection he with _ _ he _
   injection he with he
   rw [he];rfl
  ·rw [ho] at he
   injection he with he
   injection he with _ _ he _
   injection he with he
   rw [he];rfl
 unfold pyNext
 refine Pl (Rx (Ri (name:=Q5 "__next__") hT Uv
  (Rm Uv hT Xc ?_ (Xb _))))
 show wpAny _ _ (field (.ref e) 2 >>= _) _ _ _
 refine Pl (P4 ho rfl (x:=.ref it) h2 ?_)
 refine Pl (D.done _ _ _ hst fun h' x he' hx'=>?_)
 obtain ⟨o,ho',hc⟩:=hx'
 refine Pl (Uf (T := "StopIteration") (b:=true) ⟨o,ho',hc⟩ Vu ?_)
 exact Pm (hQ _ he')
end
theorem Zgi {prog:Program}{w:World}{A:Around}{E:Value->Shared->Prop}{s:Shared}{it:Addr}{T:String}{Q:Bool->Shared->Prop}(hT:s.TypeIs (.ref it) T)(n1:typeLookup (.type T) "__len__" = pure none)(n2:typeLookup (.type T) "__length_hint__" = pure none)(h:Q true s):wpAny (model prog w) A (T3 (.ref it)) Q E s:=by
 unfold T3
 refine Pl (Uh hT n1 ?_)
 show wpAny _ A (specialOf (Value.ref it) (Q5 "__length_hint__") >>= _) _ _ _
 refine Pl (Uh hT n2 ?_)
 exact Pm h
structure Src (X:Cx)(pins:List (Addr×Obj))(σ:St)(it:Addr)(T:String)(n:Nat)(H0:Hp)(J:Nat->List V->Hp->Heap->Prop):Prop where
 ty:∀ i ys H h,J i ys H h->∃ o,h.get? it=some o/\o.cls=.type T
 nl:(Value.type T == Value.type "list")=false/\(Value.type T == Value.type "tuple")=false
 hint:∃ mr:Bool,∀(A:Around)(s:Shared)(Q:Bool->Shared->Prop)(E:Value->Shared->Prop),s.TypeIs (.ref it) T->Q mr s->wpAny (model X.prog X.w) A (T3 (.ref it)) Q E s
 self:∀(A:Around)(s:Shared)(ys:List V)(H:Hp)(Q:Value->Shared->Prop)(E:Value->Shared->Prop),J 0 ys H s.heap->Q (.ref it) s->wpAny (model X.prog X.w) A (pyIter (.ref it)) Q E s
 keep:∀ i ys H h h' S zs zs',H0 S=none->H S=some (.lst zs)->J i ys H h->(∀ b o,b≠S->h.get? b=some o->h'.get? b=some o)->(∃ o,h'.get? S=some o)->J i ys (upd H S (.lst zs')) h'
 fresh:∀ i ys H h,J i ys H h->H it=none
 item:∀(A:Around)(i:Nat)(s:Shared)(H:Hp)(ys:List V)(E:Value->Shared->Prop),A.handled=none->i < n->Inv X pins σ H s->J i ys H s.heap ->
  wpAny (model X.prog X.w) A (pyNext (.ref it)) (fun r s'=>∃ u x H',r=some u/\RelV x u/\Inv X pins σ H' s'/\J (i+1) (ys++[x]) H' s'.heap/\∀ S zs,H S=some (.lst zs)->H' S=some (.lst zs)) E s
 done:∀(A:Around)(s:Shared)(H:Hp)(ys:List V)(E:Value->Shared->Prop),A.handled=none->Inv X pins σ H s->J n ys H s.heap ->
  wpAny (model X.prog X.w) A (pyNext (.ref it)) (fun r s'=>r=none/\Inv X pins σ H s') E s
section
variable {X:Cx}{pins:List (Addr×Obj)}{σ:St}{it:Addr}{T:String}{n:Nat}{H0:Hp}{J:Nat->List V->Hp->Heap->Prop}
theorem Zfk (C:Src X pins σ it T n H0 J)(hn:n<=sizeLine){A:Around}(hh:A.handled=none){R:Result->Shared->Prop}(S:Addr)(hS0:H0 S=none)(res:Value)
  (fin:∀ s' H' ys',Inv X pins σ H' s'->H' S=some (.lst ys')->ys'.length=n->(∃ h,J n ys' H' h)->R (.ok (.ret res)) s') :
  ∀(k i:Nat)(s:Shared)(H:Hp)(ys:List V),n - i=k->i<=n->Inv X pins σ H s->J i ys H s.heap->H S=some (.lst ys)->ys.length=i ->
  codeAny (model X.prog X.w) A (.builtin "list.extend.loop" ⟨[.ref S,.ref it,res],[]⟩) R s:=by
 intro k
 induction k with
 | zero =>
  intro i s H ys hk hi I j hS hl
  have hin:i=n:=by omega
  subst hin
  refine Tw PySem.F.entry_extend_loop ?_
  rw [Tj T6 _]
  show wpAny _ A.in1 (pyNext (.ref it) >>= _) _ _ s
  refine Pl (Aj (C.done A.in1 s H ys _ hh I j) fun r s' zq=>?_)
  obtain ⟨hr,I'⟩:=zq
  subst hr
  exact Pm (fin s' H ys I' hS hl ⟨_,j⟩)
 | succ k ih =>
  intro i s H ys hk hi I j hS hl
  have hlt:i < n:=by omega
  refine Tw PySem.F.entry_extend_loop ?_
  rw [Tj T6 _]
  show wpAny _ A.in1 (pyNext (.ref it) >>= _) _ _ s
  refine Pl (Aj (C.item A.in1 i s H ys _ hh hlt I j) fun r s' zq=>?_)
  obtain ⟨u,x,H',hr,rx,I',j',kS⟩:=zq
  subst hr
  have hS':=kS S ys hS
  obtain ⟨z,its,m,rv,hl',e⟩:=I'.lstM hS'
  show wpAny _ A.in1 (updateSeq S (·.push u) >>= _) _ _ _
  refine Pl ?_
  have hu:(its.toArray.push u)=(its++[u]).toArray:=by simp
  have I2:=I'.lset (f:=(·.push u)) (its':=its++[u]) (ys:=ys++[x]) (t':=s'.toks) hS' e hu (rv.append (.cons rx .nil)) (by rw [Px,Qm];omega)
  refine Ui e rfl (Pm ⟨Sy T6 _,ih (i+1) _ _ (ys++[x]) (by omega) hlt I2 ?_ Ad (by simp [hl])⟩)
   (by rw [Pq];omega) (by show (its.toArray.push u).size<=sizeLine+1;rw [Array.size_push,Pq];omega)
  exact C.keep _ _ _ _ _ S ys (ys++[x]) hS0 hS' j' (fun b o hb eb=>(Q2 _ _ (Qa hb)).trans eb) ⟨_,Rt _ e rfl⟩
theorem Nv {H:Hp}(C:Src X pins σ it T n H J)(hn:n<=sizeLine){A:Around}(hh:A.handled=none){s:Shared}{Q:VK}{E:Value->Shared->Prop}(I:Inv X pins σ H s)(j:J 0 [] H s.heap)
  (jn:∀ S,s.heap.objs.size<=S->H S=none->∀ h',(∀ b o,s.heap.get? b=some o->h'.get? b=some o)->J 0 [] (upd H S (.lst [])) h')
  (q:∀ S H' ys,H S=none->H' S=some (.lst ys)->ys.length=n->(∃ h,J n ys H' h)->Q (.ref S) H') :
  wpAny (model X.prog X.w) A (call (.type "list") [.ref it]) (EP X pins σ Q) E s:=by
 have hf:H s.heap.objs.size=none:=I.hok.fresh (Po _)
 have hne:s.heap.objs.size≠it:=by
  obtain ⟨o,e,_⟩:=C.ty _ _ _ _ j
  exact Qy (Pr e)
 refine callType_codes (Q₁:=fun obj s₁=>obj=.ref s.heap.objs.size/\s₁={ s with heap:=s.heap.push { cls:=.type "list",data:=.seq #[] } }) PySem.F.called_list (PySem.F.typeCall_list_1 _) PySem.F.entry_list_init
  (code_list_new _ ⟨rfl,rfl⟩) fun obj s₁ h₁=>?_
 obtain ⟨rfl,rfl⟩:=h₁
 have hS:(s.heap.push { cls:=.type "list",data:=.seq #[] }).get? s.heap.objs.size=some { cls:=.type "list",data:=.seq #[] }:=P5 _ rfl
 have I1:Inv X pins σ (upd H s.heap.objs.size (.lst [])) { s with heap:=s.heap.push { cls:=.type "list",data:=.seq ([]:List Value).toArray } }:=I.lnew (ys:=[]) (its:=[]) (t':=s.toks) .nil (by simp)
 have j1:J 0 [] (upd H s.heap.objs.size (.lst [])) (s.heap.push { cls:=.type "list",data:=.seq ([]:List Value).toArray })   := jn _ (Po _) hf _ fun b o e=>Pp _ e
 refine ⟨⟨_,hS,rfl⟩,PySem.F.args_list_init_2 _ _,?_⟩
 generalize hs1:({ s with heap:=s.heap.push { cls:=.type "list",data:=.seq ([]:List Value).toArray } }:Shared)=s1 at I1
 have hS1:s1.heap.get? s.heap.objs.size=some { cls:=.type "list",data:=.seq ([]:List Value).toArray }:=by rw [<- hs1];exact hS
 replace j1:J 0 [] (upd H s.heap.objs.size (.lst [])) s1.heap:=by rw [<- hs1];exact j1
 have hs1':({ s with heap:=s.heap.push { cls:=.type "list",data:=.seq #[] } }:Shared)=s1:=hs1
 first | rw [hs1'] | skip
 show wpAny _ A.in1.in1 (do let old <- Builtin.List.listItems (.ref s.heap.objs.size);Builtin.List.listUpdate (.ref s.heap.objs.size) (fun _=>#[]);letGo old.toList.reverse;Wb (.ref s.heap.objs.size) (.ref it) .none) _ _ s1
 generalize s.heap.objs.size=S at *
 refine Pl ?_
 unfold Builtin.List.listItems
 refine Pl (Rp hS1 rfl (Pm ?_))
 show wpAny _ A.in1.in1 (updateSeq S (fun _=>#[]) >>= fun _=>letGo (#[]:Array Value).toList.reverse >>= fun _=>Wb (.ref S) (.ref it) .none) _ _ s1
 refine Pl (Ui hS1 rfl ?_)
 have I2:=I1.lset (f:=fun _=>#[]) (its':=[]) (ys:=[]) (t':=s1.toks) Ad hS1 rfl .nil (by simp)
 have hS2:=Rt (Qu (fun _=>(#[]:Array Value))) hS1 rfl
 have j2:=C.keep _ _ _ _ (s1.heap.update S (Qu fun _=>#[])) S [] [] hf Ad j1 (fun b o hb eb=>(Q2 _ _ (Qa hb)).trans eb) ⟨_,hS2⟩
 rw [Ky] at I2 j2
 generalize hs2:({ s1 with heap:=s1.heap.update S (Qu fun _=>#[]),toks:=s1.toks }:Shared)=s2 at I2
 replace j2:J 0 [] (upd H S (.lst [])) s2.heap:=by rw [<- hs2];exact j2
 have hs2':({ s1 with heap:=s1.heap.update S (Qu fun _=>#[]) }:Shared)=s2:=hs2
 first | rw [hs2'] | skip
 refine Pl (Wa ?_)
 obtain ⟨oi,ei,ci⟩:=C.ty _ _ _ _ j2
 have hT:s2.TypeIs (.ref it) T:=⟨oi,ei,ci⟩
 unfold Wb
 refine Pl (T2 hT ?_)
 have h1:Builtin.List.listSameRef (.ref S) (.ref it)=false:=by simp [Builtin.List.listSameRef,hne]
 have h2:=C.nl.1
 have h3:=C.nl.2
 simp only [h1,h2,h3,Vx,R4,if_false]
 refine Pl (C.self _ s2 _ _ _ _ j2 ?_)
 refine Pl (Ql ?_)
 obtain ⟨mr,hmr⟩:=C.hint
 refine hmr _ _ _ _ hT ?_
 split
 ·show wpAny _ A.in1.in1 (rule "list.extend.makes-room" >>= fun _=>Builtin.List.listTouch (.ref S) >>= fun _ =>
   again (.builtin "list.extend.loop" ⟨[.ref S,.ref it,.none],[]⟩)) _ _ _
  refine Pl (Se ?_)
  refine Pl ?_
  show wpAny _ A.in1.in1 (updateSeq S (·.push .none) >>= fun _=>updateSeq S (·.pop)) _ _ _
  obtain ⟨_,its2,m2,rv2,_,e2⟩:=I2.lstM Ad
  cases rv2
  refine Pl (Ui e2 rfl ?_)
  have I3:=I2.lset (f:=(·.push Value.none)) (its':=[.none]) (ys:=[.non]) (t':=s2.toks) Ad e2 (by simp) (.cons rfl .nil) (by show 1<=sizeLine;decide)
  have hS3:=Rt (Qu (·.push Value.none)) e2 rfl
  have j3:=C.keep _ _ _ _ (s2.heap.update S (Qu (·.push Value.none))) S [] [.non] hf Ad j2 (fun b o hb eb=>(Q2 _ _ (Qa hb)).trans eb) ⟨_,hS3⟩
  rw [Ky] at I3 j3
  generalize hs3:({ s2 with heap:=s2.heap.update S (Qu (·.push Value.none)),toks:=s2.toks }:Shared)=s3 at I3
  replace j3:J 0 [] (upd H S (.lst [.non])) s3.heap:=by rw [<- hs3];exact j3
  have hs3':({ s2 with heap:=s2.heap.update S (Qu (·.push Value.none)) }:Shared)=s3:=hs3
  first | rw [hs3'] | skip
  obtain ⟨_,its3,m3,rv3,hl3,e3⟩:=I3.lstM Ad
  have hl3':its3.length=1:=hl3.symm
  refine Ui e3 rfl ?_ (by rw [Pq,hl3'];decide) (by show its3.toArray.pop.size<=sizeLine+1;rw [Array.size_pop,Pq,hl3'];decide)
  have I4:=I3.lset (f:=(·.pop)) (its':=[]) (ys:=[]) (t':=s3.toks) Ad e3 (by
   cases its3 with
   | nil=>simp at hl3'
   | cons a r=>cases r with
    | nil=>simp
    | cons b r'=>simp at hl3') .nil (by simp)
  have hS4:=Rt (Qu (·.pop)) e3 rfl
  have j4:=C.keep _ _ _ _ (s3.heap.update S (Qu (·.pop))) S [.non] [] hf Ad j3 (fun b o hb eb=>(Q2 _ _ (Qa hb)).trans eb) ⟨_,hS4⟩
  rw [Ky] at I4 j4
  refine Pm ⟨Sy T6 _,Zfk C hn (A:=A.in1) hh S hf .none ?_ n 0 _ _ [] rfl (Qd _) I4 j4 Ad rfl⟩
  intro s' H' ys' I' hS' hl' hj'
  exact ⟨rfl,.ref S,H',I',rfl,q S H' ys' hf hS' hl' hj'⟩
 ·refine Pm ⟨Sy T6 _,Zfk C hn (A:=A.in1) hh S hf .none ?_ n 0 _ _ [] rfl (Qd _) I2 j2 Ad rfl⟩
  intro s' H' ys' I' hS' hl' hj'
  exact ⟨rfl,.ref S,H',I',rfl,q S H' ys' hf hS' hl' hj'⟩
end
section
variable {X:Cx}{pins:List (Addr×Obj)}{σ:St}{H:Hp}{s:Shared}{h':Heap}
theorem Inv.turned2 {t':Nat}{i1 i2:Addr}(I:Inv X pins σ H s)(k:∀ b o,b≠i1->b≠i2->s.heap.get? b=some o->h'.get? b=some o)(f1:FpOk X pins H i1)(f2:FpOk X pins H i2):Inv X pins σ H { s with heap:=h',toks:=t' }:=by
 obtain ⟨n1,l1,_,e1,c1,p1⟩:=f1
 obtain ⟨n2,l2,_,e2,c2,p2⟩:=f2
 have nit:∀ b u,H b=some u->b≠i1/\b≠i2:=fun b u e=>⟨(fun z=>by rw [z,n1] at e;exact nomatch e),(fun z=>by rw [z,n2] at e;exact nomatch e)⟩
 refine I.step (g':=s.gens) (d':=s.drawn) (ch:=[i1,i2]) (fun b hb=>?_) (fun b o _ _ hc e _=>k b o (fun z=>hc (by simp [z])) (fun z=>hc (by simp [z])) e) (fun b o _ _ hc e _=>⟨o.slots,k b o (fun z=>hc (by simp [z])) (fun z=>hc (by simp [z])) e⟩) (fun _ _ _ _ n=>n)
  (fun b o hc e=>⟨o,k b o (fun z=>hc (by simp [z])) (fun z=>hc (by simp [z])) e⟩) (fun _ _ e=>e) (fun _ _ _ e=>e) (fun b ps e=>⟨#[],by rw [e];simp⟩) (fun m hm=>?_) (fun b u e=>?_) I.bare
 ·rcases Pu.mp hb with rfl | hb
  ·exact ⟨e1,l1,c1,p1⟩
  ·rw [Qi.mp hb]
   exact ⟨e2,l2,c2,p2⟩
 ·obtain ⟨o,es,ep,ho,r⟩:=hm
  exact ⟨o,es,ep,k _ o (Qa l1) (Qa l2) ho,r⟩
 ·refine (I.hok b u e).stay (fun c v hc q=>k c v ?_ ?_ q) (fun _ q=>q) fun _ _ q=>q
  ·rcases hc with z | z
   ·rw [z];exact (nit b u e).1
   ·exact (nit c _ z).1
  ·rcases hc with z | z
   ·rw [z];exact (nit b u e).2
   ·exact (nit c _ z).2
end
theorem FpOk.of {X:Cx}{pins:List (Addr×Obj)}{H H':Hp}{b:Addr}(f:FpOk X pins H b)(h:H' b=none):FpOk X pins H' b:=⟨h,f.2⟩
theorem SqT.kept {K:Pk}{H:Hp}{S a:Addr}{zs zs' xs:List V}(hS:H S=some (.lst zs))(h:SqT K H a xs):SqT K (upd H S (.lst zs')) a xs:=by
 rcases h with (h | ⟨o,h⟩) | h
 ·exact .inl (.inl (by rw [Ag (Fg h hS (by intro z;cases z))];exact h))
 ·exact .inl (.inr ⟨o,by rw [Ag (Fg h hS (by intro z;cases z))];exact h⟩)
 ·exact .inr h
theorem SqT.same {K:Pk}{H H':Hp}{a:Addr}{xs:List V}(h:SqT K H a xs)(e:Same H H'):SqT K H' a xs:=e.tup h
noncomputable def Zb1 (H:Hp)(xs:List V)(ys:List V):Prop:=∀(j:Nat)(y:V),ys[j]?=some y->∃(t:Addr)(x:V),y=V.ref t/\xs[j]?=some x/\H t=some (.tup [.int j,x])
noncomputable def JEn (K:Pk)(H0:Hp)(en it a:Addr)(xs:List V):Nat->List V->Hp->Heap->Prop:=fun i ys H h =>
 EnSt h en it i/\h.IsTupleIter it a i/\(H en=none/\H it=none)/\SqT K H a xs/\ys.length=i/\Zb1 H xs ys/\Same H0 H
theorem Zl3:typeLookup (.type "enumerate") "__len__" = pure none:=by rw [Su,Sk];kernel_rfl
theorem Zp8:typeLookup (.type "enumerate") "__length_hint__" = pure none:=by rw [Su,Sk];kernel_rfl
theorem Zmo {X:Cx}{pins:List (Addr×Obj)}{σ:St}{H0:Hp}{en it a:Addr}{xs:List V}(fe:FpOk X pins H0 en)(fi:FpOk X pins H0 it)(hne:en≠it)(hae:a≠en)(hai:a≠it):Src X pins σ en "enumerate" xs.length H0 (JEn X.K H0 en it a xs) where
 ty:=fun i ys H h j=>by
  obtain ⟨vs,e⟩:=j.1.obj
  exact ⟨_,e,rfl⟩
 nl:=by decide
 hint:=⟨_,fun A s Q E hT h=>Zgi hT Zl3 Zp8 h⟩
 self:=fun A s ys H Q E j q=>by
  rcases j.1 with ⟨_,old,e⟩ | ⟨z,_⟩
  ·exact Wv e q
  ·exact absurd z (Rg _)
 keep:=fun i ys H h h' S zs zs' h0 hS j k al=>by
  obtain ⟨j1,j2,⟨j3,j4⟩,j5,j6,j7,j8⟩:=j
  have ne1:en≠S:=fun z=>by rw [z,hS] at j3;cases j3
  have ne2:it≠S:=fun z=>by rw [z,hS] at j4;cases j4
  refine ⟨?_,?_,⟨by rw [Ag ne1];exact j3,by rw [Ag ne2];exact j4⟩,j5.kept hS,j6,fun m y hy=>?_,fun b o e=>?_⟩
  ·rcases j1 with ⟨z,old,e⟩ | ⟨z,a0,oa,f1,old,e,ea,x1,x2⟩
   ·exact .inl ⟨z,old,k _ _ ne1 e⟩
   ·by_cases hs:a0=S
    ·subst hs
     obtain ⟨o,eo⟩:=al
     exact .inr ⟨z,a0,o,f1,old,k _ _ ne1 e,eo,x1,x2⟩
    ·exact .inr ⟨z,a0,oa,f1,old,k _ _ ne1 e,k _ _ hs ea,x1,x2⟩
  ·exact j2.at fun o e=>k _ _ ne2 e
  ·obtain ⟨t,x,e1,e2,e3⟩:=j7 m y hy
   exact ⟨t,x,e1,e2,by rw [Ag (Fg e3 hS (by intro z;cases z))];exact e3⟩
  ·have:b≠S:=fun z=>by rw [z,h0] at e;cases e
   rw [Ag this]
   exact j8 b o e
 fresh:=fun i ys H h j=>j.2.2.1.1
 item:=fun A i s H ys E hh hi I j=>by
  obtain ⟨j1,j2,⟨j3,j4⟩,j5,j6,j7,j8⟩:=j
  obtain ⟨its,rv,p,hz⟩:=I.tuple j5
  have hl:=rv.length
  have D:=Zcd (prog:=X.prog) (w:=X.w) (A:=A.in1) hh it a hai its.toArray
  refine Zsc D j1 ⟨j2,p⟩ (by rw [Pq];omega) hne (by simp [hne,Qa hae]) fun x h' tk hx st' it' ht hsz kk=>?_
  have I1:Inv X pins σ H { s with heap:=h',toks:=tk+1 }:=I.turned2 (fun b o h1 h2 e=>kk b o h1 h2 e) (fe.of j3) (fi.of j4)
  have hx':its[i]?=some x:=by simpa using hx
  have hxs:i < xs.length:=hi
  obtain ⟨u,hu,ru⟩:=rv.get (Pn hxs)
  rw [hx'] at hu
  cases hu
  have hf:H s.heap.objs.size=none:=I.hok.fresh (Po _)
  have I2:Inv X pins σ (upd H s.heap.objs.size (.tup [.int i,xs[i]])) { s with heap:=h',toks:=tk+1 }:=by
   have hokN:HOk X.prog X.w (upd H s.heap.objs.size (.tup [.int i,xs[i]])) h':=fun b o e=>by
    by_cases hb:b=s.heap.objs.size
    ·subst hb
     rw [Ad] at e
     cases e
     exact ⟨by show 2<=sizeLine;decide,[.int i tk,x],.cons ⟨tk,rfl⟩ (.cons ru .nil),⟨_,ht,rfl,_,rfl⟩⟩
    ·rw [Ag hb] at e
     refine (I1.hok b o e).stay (fun c v _ q=>q) (fun c q=>?_) fun c zs q=>?_
     ·rw [Ag (A5 q hf)];exact q
     ·rw [Ag (A5 q hf)];exact q
   have u:Un (Bp X.stack) [en,it] H (upd H s.heap.objs.size (.tup [.int i,xs[i]])) s.heap h':={
    keep:=fun b o e n _ hx=>kk b o (fun z=>hx (by simp [z])) (fun z=>hx (by simp [z])) e
    slot:=fun b o e n _ hx=>⟨o.slots,kk b o (fun z=>hx (by simp [z])) (fun z=>hx (by simp [z])) e⟩
    free:=fun b o e n _=>by rw [Ag (P0 (Pr e))];exact n
    there:=fun b o e hx=>⟨o,kk b o (fun z=>hx (by simp [z])) (fun z=>hx (by simp [z])) e⟩
    tups:=fun b zs e=>by rw [Ag (A5 e hf)];exact e
    frzs:=fun b o u e=>by rw [Ag (A5 e hf)];exact e
    tbls:=fun b ps e=>⟨#[],by rw [Ag (A5 e hf),e];simp⟩ }
   refine I.call (g':=s.gens) (d':=s.drawn) (t':=tk+1) u hokN I.bare fun b hb=>?_
   rcases Pu.mp hb with rfl | hb
   ·exact ⟨fe.2.2.2.1,fe.2.1,fe.2.2.2.2.1,fe.2.2.2.2.2⟩
   ·rw [Qi.mp hb]
    exact ⟨fi.2.2.2.1,fi.2.1,fi.2.2.2.2.1,fi.2.2.2.2.2⟩
  have sm:Same H (upd H s.heap.objs.size (.tup [.int i,xs[i]])):=Same.upd hf
  have ne1:en≠s.heap.objs.size:=by obtain ⟨_,e⟩:=j1.obj;exact P0 (Pr e)
  have ne2:it≠s.heap.objs.size:=by obtain ⟨_,e,_⟩:=j2;exact P0 (Pr e)
  refine ⟨_,.ref s.heap.objs.size,_,rfl,rfl,I2,⟨st',it'.1,⟨by rw [Ag ne1];exact j3,by rw [Ag ne2];exact j4⟩,j5.same sm,by simp [j6],fun m y hy=>?_,j8.trans sm⟩,fun S zs e=>sm S _ e⟩
  by_cases hm:m < i
  ·rw [Q7 (by omega)] at hy
   obtain ⟨t,z,e1,e2,e3⟩:=j7 m y hy
   exact ⟨t,z,e1,e2,sm _ _ e3⟩
  ·have hlen:=(Pt.mp hy).1
   rw [Px,Qm] at hlen
   have:m=i:=by omega
   subst this
   rw [Rh (by omega),j6,Sd] at hy
   have hy:V.ref s.heap.objs.size=y:=by simpa using hy
   exact ⟨_,xs[m],hy.symm,Pn hxs,Ad⟩
 done:=fun A s H ys E hh I j=>by
  obtain ⟨j1,j2,⟨j3,j4⟩,j5,j6,j7,j8⟩:=j
  obtain ⟨its,rv,p,hz⟩:=I.tuple j5
  have hl:=rv.length
  have D:=Zcd (prog:=X.prog) (w:=X.w) (A:=A.in1) hh it a hai its.toArray
  have e:xs.length=its.toArray.size:=by rw [Pq];omega
  rw [e] at j1 j2
  refine Zi0 D j1 ⟨j2,p⟩ fun h' eb=>⟨rfl,?_⟩
  obtain ⟨g0,g1,g2,g3,g4,g5⟩:=fi.of j4
  exact I.turned (t':=s.toks) (fun b o hb e=>eb b o hb e) g0 g1 g3 g4 g5
section
variable {X:Cx}
theorem Ou:bootBuiltins "list" = some (.type "list"):=by decide +kernel
noncomputable def Om (K:Pk)(ta:TA):TE:=fun σ H Q=>ta σ H fun vs H1=>∃ a xs,vs=[.ref a]/\SqT K H1 a xs /\
 ∀(S:Addr)(ys:List V)(H2:Hp),H1 S=none->Same H1 H2->ys.length=xs.length->Zb1 H2 xs ys->H2 S=some (.lst ys)->Q (.ref S) H2
theorem Ztb {e:Expr}{ta:TA}{p p2 pos pos2:Pos}(hg:Gl X "list")(hm:X.mg "list" = none)(hg2:Gl X "enumerate")(hm2:X.mg "enumerate" = none)(ha:QA X [e] ta)(hc:X.calm=true:=by rfl)
  (hs:starEach [.Call (.Name "enumerate" p2) [e] [] pos2] X.env=[(false,eval (.Call (.Name "enumerate" p2) [e] [] pos2) X.env)]:=by rfl) (hs2:starEach [e] X.env=[(false,eval e X.env)]:=by rfl) :
  QE X (.Call (.Name "list" p) [.Call (.Name "enumerate" p2) [e] [] pos2] [] pos) (Om X.K ta):=by
 refine ⟨fun pins s σ H Q I h=>?_⟩
 refine Call_ (Dp I hg hm Ou (Q6 ?_ hs rfl))
 rw [hs]
 show wpAny _ _ (spliced ((false,eval (.Call (.Name "enumerate" p2) [e] [] pos2) X.env)::[])) _ _ s
 refine So ?_
 refine Call_ (Dp I hg2 hm2 Xe (Q6 (Aj (ha.run pos2 pins s σ H _ I h) fun us s1 zq=>?_) hs2 rfl))
 obtain ⟨vs,H1,I1,r1,q1⟩:=zq
 obtain ⟨a,xs,e1,hq,q⟩:=q1
 subst e1
 cases r1 with
 | cons r rr =>
  cases rr
  cases r
  obtain ⟨its,rv,pt,hz⟩:=I1.tuple hq
  have hlt:a < s1.heap.objs.size:=by obtain ⟨o,e,_⟩:=id pt;exact Pr e
  refine Zn1 (show s1.heap.IsTuple a its.toArray from pt) fun h' hen hit hsz hk=>?_
  refine Tq ?_
  have I2:Inv X pins σ H1 { s1 with heap:=h' }:=I1.kept (t':=s1.toks) hk
  have fe:=I1.fpOk (b:=s1.heap.objs.size+1) (Ta _) (I1.hok.fresh (Ta _))
  have fi:=I1.fpOk (b:=s1.heap.objs.size) (Po _) (I1.hok.fresh (Po _))
  have C:=Zmo (X:=X) (pins:=pins) (σ:=σ) (H0:=H1) (en:=s1.heap.objs.size+1) (it:=s1.heap.objs.size) (a:=a) (xs:=xs) fe fi (Nat.succ_ne_self _) (P0 (Vk hlt)) (P0 hlt)
  refine Nv C (by omega) (I1.ok.hd hc) I2 ⟨.inl ⟨rfl,_,hen⟩,hit,⟨fe.1,fi.1⟩,hq,rfl,fun j y hy=>by simp at hy,Same.refl _⟩ (fun S hge hS h2 k2=>?_) fun S H' ys hS hS' hl' hj=>?_
  ·have sm:Same H1 (upd H1 S (.lst [])):=Same.upd hS
   refine ⟨.inl ⟨rfl,_,k2 _ _ hen⟩,hit.at fun o e=>k2 _ _ e,⟨?_,?_⟩,hq.same sm,rfl,fun j y hy=>by simp at hy,sm⟩
   ·rw [Ag (show s1.heap.objs.size+1≠S from fun z=>?_)]
    ·exact fe.1
    ·have hge:h'.objs.size<=S:=hge
     omega
   ·rw [Ag (show s1.heap.objs.size≠S from fun z=>?_)]
    ·exact fi.1
    ·have hge:h'.objs.size<=S:=hge
     omega
  ·obtain ⟨h,j⟩:=hj
   exact q S ys H' hS j.2.2.2.2.2.2 hl' j.2.2.2.2.2.1 hS'
end
noncomputable def Ii (K:Pk)(a:Addr)(n:Nat):It :=
 ⟨fun i H=>∃ xs,SqL K H a xs/\xs.length=n/\i < n,fun i H x H'=>∃(t:Addr)(y:V),H t=none/\(∀ xs,SqL K H a xs->xs[i]?=some y)/\x=.ref t/\H'=upd H t (.tup [.int i,y]),fun i H=>i=n/\∃ xs,SqL K H a xs/\xs.length=n⟩
theorem Inv.pair {X:Cx}{pins:List (Addr×Obj)}{σ:St}{H:Hp}{s:Shared}{h':Heap}{tk:Nat}{i1 i2 T:Addr}{xs:List V}{its:List Value}(I:Inv X pins σ H s)(f1:FpOk X pins H i1)(f2:FpOk X pins H i2)
  (kk:∀ b o,b≠i1->b≠i2->s.heap.get? b=some o->h'.get? b=some o) (hT:s.heap.objs.size<=T) (rv:Vals xs its) (hz:xs.length<=sizeLine) (ht:h'.IsTuple T its.toArray):Inv X pins σ (upd H T (.tup xs)) { s with heap:=h',toks:=tk }:=by
 have hf:H T=none:=I.hok.fresh hT
 have I1:Inv X pins σ H { s with heap:=h',toks:=tk }:=I.turned2 kk f1 f2
 have hokN:HOk X.prog X.w (upd H T (.tup xs)) h':=fun b o e=>by
  by_cases hb:b=T
  ·subst hb
   rw [Ad] at e
   cases e
   exact ⟨hz,its,rv,ht⟩
  ·rw [Ag hb] at e
   refine (I1.hok b o e).stay (fun c v _ q=>q) (fun c q=>?_) fun c zs q=>?_
   ·rw [Ag (A5 q hf)];exact q
   ·rw [Ag (A5 q hf)];exact q
 have u:Un (Bp X.stack) [i1,i2] H (upd H T (.tup xs)) s.heap h':={
  keep:=fun b o e n _ hx=>kk b o (fun z=>hx (by simp [z])) (fun z=>hx (by simp [z])) e
  slot:=fun b o e n _ hx=>⟨o.slots,kk b o (fun z=>hx (by simp [z])) (fun z=>hx (by simp [z])) e⟩
  free:=fun b o e n _=>by rw [Ag (P0 (P7 (Pr e) hT))];exact n
  there:=fun b o e hx=>⟨o,kk b o (fun z=>hx (by simp [z])) (fun z=>hx (by simp [z])) e⟩
  tups:=fun b zs e=>by rw [Ag (A5 e hf)];exact e
  frzs:=fun b o u e=>by rw [Ag (A5 e hf)];exact e
  tbls:=fun b ps e=>⟨#[],by rw [Ag (A5 e hf),e];simp⟩ }
 refine I.call (g':=s.gens) (d':=s.drawn) (t':=tk) u hokN I.bare fun b hb=>?_
 rcases Pu.mp hb with rfl | hb
 ·exact ⟨f1.2.2.2.1,f1.2.1,f1.2.2.2.2.1,f1.2.2.2.2.2⟩
 ·rw [Qi.mp hb]
  exact ⟨f2.2.2.2.1,f2.2.1,f2.2.2.2.2.1,f2.2.2.2.2.2⟩
theorem Zpg {P:Program}{w:World}{K:Pk}{elts:List Expr}{kt:Nat}{pt:Pos}(a en it:Addr)(n:Nat)(hne:en≠it)(hae:a≠en)(hai:a≠it):F4 P w K (.Tuple elts kt pt) (Ii K a n) [en,it] en (fun i h=>(∃ old,IsEnum h en it i old)/\h.IsListIter it a i) where
 mem:=by simp
 obj:=fun i h st b hb=>by
  rcases Pu.mp hb with rfl | hb
  ·obtain ⟨old,e⟩:=st.1
   exact ⟨_,e,fun v z=>by
    have z':Data.fields _=Data.cell v:=z
    cases z'⟩
  ·rw [Qi.mp hb]
   obtain ⟨o,e,c,d⟩:=st.2
   exact ⟨o,e,fun v z=>by rw [d] at z;cases z⟩
 keep:=fun i h h' st k=>⟨let ⟨old,e⟩:=st.1;⟨old,k en (by simp) _ e⟩,st.2.at fun o e=>k it (by simp) o e⟩
 item:=by
  intro X hP hw hK hc i pins s σ H E I hf st hg
  subst hP hw hK
  obtain ⟨xs,hq,hl,hi⟩:=hg
  obtain ⟨its,rv,p,hz⟩:=I.list hq
  have hlen:=rv.length
  have fe:=hf en (by simp)
  have fi:=hf it (by simp)
  have W:=WalksT.enumerateD (prog:=X.prog) (w:=X.w) (A:=X.A) (Te (A:=X.A.in1) (I.ok.hd hc) it a hai its.toArray) en hne (by simp [hne,Qa hae]) (by simp)
  refine W.item i s _ _ (by rw [Pq];omega) ⟨st.1,st.2,p.isList⟩ fun T vals h1 tk hP hT ht mid k1=>?_
  obtain ⟨t,x,hx,rfl⟩:=hP
  refine ⟨_,rfl,W.go elts kt pt i T _ _ _ mid fun h2 st2 k2=>?_⟩
  have hx':its[i]?=some x:=by simpa using hx
  have hxs:i < xs.length:=by omega
  obtain ⟨u,hu,ru⟩:=rv.get (Pn hxs)
  rw [hx'] at hu
  cases hu
  have hTw:T ∉ [en,it]:=W.apart i T _ mid
  have ht2:h2.IsTuple T ([.int i t,x]:List Value).toArray:=by
   obtain ⟨o,eo,r⟩:=ht
   exact ⟨o,k2 T o hTw eo,r⟩
  have kk:∀ b o,b≠en->b≠it->s.heap.get? b=some o->h2.get? b=some o:=fun b o h1 h3 e=>k2 b o (by simp [h1,h3]) (k1 b o (by simp [h1,h3]) e)
  have I2:=I.pair (tk:=tk) (T:=T) (xs:=[.int i,xs[i]]) fe fi kk hT (.cons ⟨t,rfl⟩ (.cons ru .nil)) (by show 2<=sizeLine;decide) ht2
  refine ⟨.ref T,_,I2,rfl,⟨T,xs[i],I.hok.fresh hT,fun ys hy=>by rw [I.list_inj hy hq];exact Pn hxs,rfl,rfl⟩,⟨st2.1,st2.2.1⟩,fun b hb=>?_⟩
  have hb':b≠T:=fun z=>hTw (z ▸ hb)
  rw [Ag hb']
  exact (hf b hb).1
 done:=by
  intro X hP hw hK hc i pins s σ H E I hf st hg
  subst hP hw hK
  obtain ⟨rfl,xs,hq,hl⟩:=hg
  obtain ⟨its,rv,p,hz⟩:=I.list hq
  have hlen:=rv.length
  have fe:=hf en (by simp)
  have fi:=hf it (by simp)
  have W:=WalksT.enumerateD (prog:=X.prog) (w:=X.w) (A:=X.A) (Te (A:=X.A.in1) (I.ok.hd hc) it a hai its.toArray) en hne (by simp [hne,Qa hae]) (by simp)
  have e:i=its.toArray.size:=by rw [Pq];omega
  rw [e] at st
  exact W.done s _ _ ⟨st.1,st.2,p.isList⟩ fun h' tk kk=>⟨rfl,I.turned2 (fun b o h1 h2 e=>kk b o (by simp [h1,h2]) e) fe fi⟩
 self:=fun A i s Q E st h=>by
  obtain ⟨old,e⟩:=st.1
  exact Wv e h
section
variable {X:Cx}
noncomputable def Pd (K:Pk)(ta:TA):TI:=fun σ H R=>ta σ H fun vs H1=>∃ a xs,vs=[.ref a]/\SqL K H1 a xs/\R (Ii K a xs.length) H1
theorem Zrr {elts:List Expr}{kt:Nat}{pt:Pos}{e:Expr}{ta:TA}{p pos:Pos}(hg:Gl X "enumerate")(hm:X.mg "enumerate" = none)(ha:QA X [e] ta)(hs:starEach [e] X.env=[(false,eval e X.env)]:=by rfl):QI X (.Tuple elts kt pt) (.Call (.Name "enumerate" p) [e] [] pos) (Pd X.K ta):=by
 refine ⟨fun pins s σ H R I h=>?_⟩
 refine Call_ (Dp I hg hm Xe (Q6 (Aj (ha.run pos pins s σ H _ I h) fun us s1 zq=>?_) hs rfl))
 obtain ⟨vs,H1,I1,r1,q1⟩:=zq
 obtain ⟨l,xs,e1,hq,q⟩:=q1
 subst e1
 cases r1 with
 | cons r rr =>
  cases rr
  cases r
  obtain ⟨its,rv,pl,hz⟩:=I1.list hq
  have hlt:l < s1.heap.objs.size:=by obtain ⟨o,e,_⟩:=pl.isList;exact Pr e
  refine call_enumerate_list pl.isList fun h' hen hit hsz hk=>?_
  refine Wv hen ?_
  have fe:=I1.fpOk (b:=s1.heap.objs.size+1) (Ta _) (I1.hok.fresh (Ta _))
  have fi:=I1.fpOk (b:=s1.heap.objs.size) (Po _) (I1.hok.fresh (Po _))
  refine ⟨s1.heap.objs.size+1,[s1.heap.objs.size+1,s1.heap.objs.size],_,_,H1,rfl,I1.kept (t':=s1.toks) hk,Zpg l _ _ xs.length (Nat.succ_ne_self _) (P0 (Vk hlt)) (P0 hlt),⟨⟨_,hen⟩,hit⟩,fun b hb=>?_,q⟩
  rcases Pu.mp hb with rfl | hb
  ·exact fe
  ·rw [Qi.mp hb]
   exact fi
theorem Mw {K:Pk}{a:Addr}{xs:List V}{g:TG}{tb:TS}{D:Ends}{σ:St}{H:Hp}(Pv:Nat->St->Hp->Prop)(h0:Pv 0 σ H)(hl:∀ i σ H,i<=xs.length->Pv i σ H->SqL K H a xs)
  (hs:∀ i x t σ H,xs[i]?=some x->H t=none->Pv i σ H->g (.ref t) σ (upd H t (.tup [.int i,x])) fun σ2 H2=>tb { D with nx:=Pv (i+1),ct:=Pv (i+1),bk:=D.nx } σ2 H2) (hd:∀ σ H,Pv xs.length σ H->D.nx σ H) :
  ∃ W:Nat->Nat->St->Hp->Prop,(∃ m,W 0 m σ H)/\∀ i m σ H,W i m σ H ->
   ((Ii K a xs.length).stop i H/\D.nx σ H)\/((Ii K a xs.length).go i H/\∃ N:St->Hp->Prop,(∀ σ' H',N σ' H'->∃ m',m' < m/\W (i+1) m' σ' H')/\∀ x H',(Ii K a xs.length).yld i H x H'->g x σ H' fun σ2 H2=>tb { D with nx:=N,ct:=N,bk:=D.nx } σ2 H2):=by
 refine ⟨fun i m σ H=>m=xs.length - i/\i<=xs.length/\Pv i σ H,⟨xs.length,by simp,Qd _,h0⟩,?_⟩
 rintro i m σ H ⟨rfl,hi,p⟩
 have q:=hl i σ H hi p
 by_cases hlt:i < xs.length
 ·refine .inr ⟨⟨xs,q,rfl,hlt⟩,Pv (i+1),fun σ' H' p'=>⟨xs.length - (i+1),by omega,rfl,hlt,p'⟩,fun x H' y=>?_⟩
  obtain ⟨t,y,ht,hy,rfl,rfl⟩:=y
  exact hs i y t σ _ (hy xs q) ht p
 ·have e:i=xs.length:=by omega
  subst e
  exact .inl ⟨⟨rfl,xs,q,rfl⟩,hd σ H p⟩
end
end L2
namespace L2
open PySem PySem.SeqAt
open PySem.AutoSeq1 (wpAny_loadPart')
open PySem.MeetsSeq PySem.MeetsSeq2 PySem.MeetsSeq3 PySem.SeqRoads2
theorem Zrf (l b:Addr)(items items2:Array Value)(n n2:Nat)(dd dd2:Option Addr)(sl sl2:Array (Option Value))(hsz:items.size=items2.size)(e:Nat->Bool)(k:Nat) :
  ∀ i:Nat,items.size - i=k->Meets (Builtin.«list.__eq__.loop» ⟨[.ref l,.ref b,rawInt i,rawInt 3],[]⟩)
   (fun A R s=>s.heap.get? l=some { cls:=.type "list",dict:=dd,data:=.seq items n,slots:=sl }/\s.heap.get? b=some { cls:=.type "list",dict:=dd2,data:=.seq items2 n2,slots:=sl2 } /\
    (∀ j (h1:j < items.size) (h2:j < items2.size),EqAt A.in1 s items[j] items2[j] (e j)) /\
    R (.ok (.ret (.bool (!((Qg items.size).drop i).all e)))) s):=by
 induction k with
 | zero =>
  intro i hk prog w A R s h
  obtain ⟨hp,g,d,tk,os⟩:=s;obtain ⟨hl,hb,he,h⟩:=h
  wp_walk using wpAny_loadPart' hl,wpAny_loadPart' hb
  have hi1:items[((i:Nat):Int).toNat]?=none:=by simp;omega
  have hi2:items2[((i:Nat):Int).toNat]?=none:=by simp;omega
  have hd:(Qg items.size).drop i=[]:=by simp;omega
  rw [hd] at h
  rw [hi1,hi2]
  wp_walk using wpAny_loadPart' hl,wpAny_loadPart' hb
  show R (.ok (.ret (.bool (items.size != items2.size)))) _
  rw [hsz]
  simpa using h
 | succ k ih =>
  intro i hk prog w A R s h
  obtain ⟨hp,g,d,tk,os⟩:=s;obtain ⟨hl,hb,he,h⟩:=h
  wp_walk using wpAny_loadPart' hl,wpAny_loadPart' hb
  have hlt:i < items.size:=by omega
  have hlt2:i < items2.size:=by omega
  have hi1:items[((i:Nat):Int).toNat]?=some items[i]:=by simp [hlt]
  have hi2:items2[((i:Nat):Int).toNat]?=some items2[i]:=by simp [hlt2]
  have hd:(Qg items.size).drop i=i::(Qg items.size).drop (i+1):=by simp [Rs,hlt]
  have hc:((i:Int)+1)=((i+1:Nat):Int):=by push_cast;rfl
  rw [hd,Vy] at h
  rw [hi1,hi2]
  refine Pl (he i hlt hlt2 prog w _ _ ?_)
  cases hb':e i with
  | true =>
   rw [hb'] at h
   wp_walk
   rw [hc]
   exact ⟨Sy plain_eq_loop _,Tw entry_eq_loop (by
    rw [Tj plain_eq_loop _]
    exact ih (i+1) (by omega) prog w A R _ ⟨hl,hb,he,by simpa using h⟩)⟩
  | false =>
   rw [hb'] at h
   wp_walk using wpAny_loadPart' hl,wpAny_loadPart' hb
   rw [hi1,hi2]
   wp_walk
   simpa using h
theorem Zpb (l b:Addr)(items items2:Array Value)(n n2:Nat)(dd dd2:Option Addr)(sl sl2:Array (Option Value))(hsz:items.size=items2.size)(e:Nat->Bool) :
  Meets (Builtin.«list.__ne__» ⟨[.ref l,.ref b],[]⟩)
   (fun A R s=>s.heap.get? l=some { cls:=.type "list",dict:=dd,data:=.seq items n,slots:=sl }/\s.heap.get? b=some { cls:=.type "list",dict:=dd2,data:=.seq items2 n2,slots:=sl2 } /\
    (∀ j (h1:j < items.size) (h2:j < items2.size),EqAt A.in1 s items[j] items2[j] (e j)) /\
    R (.ok (.ret (.bool (!(Qg items.size).all e)))) s):=by
 intro prog w A R s h
 obtain ⟨hp,g,d,tk,os⟩:=s;obtain ⟨hl,hb,he,h⟩:=h
 have f3:=PySem.AutoSeq1.sub_list_list
 have hne:¬ (items.size != items2.size)=true:=by simp [hsz]
 wp_walk using wpAny_loadPart' hl,wpAny_loadPart' hb
 exact ⟨Sy plain_eq_loop _,Tw entry_eq_loop (by
  rw [Tj plain_eq_loop _]
  exact Zrf l b items items2 n n2 dd dd2 sl sl2 hsz e _ 0 rfl prog w A R _ ⟨hl,hb,he,by simpa using h⟩)⟩
theorem Zj2 (l b:Addr)(items items2:Array Value)(n n2:Nat)(dd dd2:Option Addr)(sl sl2:Array (Option Value))(e:Nat->Bool) :
  Meets (Builtin.«tuple.__ne__» ⟨[.ref l,.ref b],[]⟩)
   (fun A R s=>s.heap.get? l=some { cls:=.type "tuple",dict:=dd,data:=.seq items n,slots:=sl }/\s.heap.get? b=some { cls:=.type "tuple",dict:=dd2,data:=.seq items2 n2,slots:=sl2 } /\
    (∀ j (h1:j < items.size) (h2:j < items2.size),EqAt A.in1 s items[j] items2[j] (e j)) /\
    R (.ok (.ret (.bool (!((Qg (min items.size items2.size)).all e && items.size == items2.size))))) s) :=
 .of_wp fun prog w A R s h=>by
  obtain ⟨hp,g,d,tk,os⟩:=s;obtain ⟨hl,hb,he,h⟩:=h
  have f2:=PySem.AutoSeq1.sub_tuple_tuple
  have hZ:(items.toList.zip items2.toList).length=min items.size items2.size:=by simp
  wp_walk using wpAny_loadPart' hl,wpAny_loadPart' hb,wpAny_forIn_list _ (fun rest b s'=>b.1=none/\s'=⟨hp,g,d,tk,os⟩/\∃ i,rest=(items.toList.zip items2.toList).drop i /\
   R (.ok (.ret (.bool (!(((Qg (min items.size items2.size)).drop i).all e && items.size == items2.size))))) ⟨hp,g,d,tk,os⟩) _
  case turn =>
   rintro ⟨y,x⟩ rest b s' ⟨hb',rfl,i,hz,hR⟩
   have hlt:i < (items.toList.zip items2.toList).length:=by
    rcases Nat.lt_or_ge i (items.toList.zip items2.toList).length with h' | h'
    ·exact h'
    ·rw [Si h'] at hz;cases hz
   have hm:i < min items.size items2.size:=hZ ▸ hlt
   have h1:i < items.size:=P7 hm (Nat.min_le_left _ _)
   have h2:i < items2.size:=P7 hm (Nat.min_le_right _ _)
   rw [Rs hlt] at hz
   injection hz with hyx hrest
   have hy:y=items[i]:=by have:=congrArg Prod.fst hyx;simpa using this
   have hx:x=items2[i]:=by have:=congrArg Prod.snd hyx;simpa using this
   subst hy hx
   have hd:(Qg (min items.size items2.size)).drop i=i::(Qg (min items.size items2.size)).drop (i+1):=by simp [Rs,hm]
   rw [hd,Vy] at hR
   refine Pl (he i h1 h2 prog w _ _ ?_)
   cases hy:e i with
   | true =>
    rw [hy] at hR
    wp_walk
    exact ⟨rfl,rfl,i+1,hrest,by simpa using hR⟩
   | false =>
    rw [hy] at hR
    wp_walk
    exact ⟨_,rfl,by simpa using hR⟩
  case fin =>
   rintro ⟨b1,b2⟩ s' ⟨hb',rfl,i,hz,hR⟩
   simp only at hb'
   subst hb'
   have hge:min items.size items2.size<=i:=by
    rcases Nat.lt_or_ge i (items.toList.zip items2.toList).length with h' | h'
    ·rw [Rs h'] at hz;cases hz
    ·exact hZ ▸ h'
   rw [Si (by simpa using hge)] at hR
   wp_walk
   exact ⟨_,rfl,by simpa [Builtin.Tuple.tupleCompareSizes,bne] using hR⟩
  case h =>
   exact ⟨rfl,rfl,0,rfl,by simpa using h⟩
section
variable {prog:Program}{w:World}{A:Around}{E:Value->Shared->Prop}{s:Shared}
theorem Zr3 {l b:Addr}{items items2:Array Value}{e:Nat->Bool}{Q:Value->Shared->Prop}(hl:s.heap.IsList l items)(hb:s.heap.IsList b items2)(hsz:items.size=items2.size)(hu:A.units < cLine)
  (he:∀ j (h1:j < items.size) (h2:j < items2.size),EqAt A.in1 s items[j] items2[j] (e j)) (h:Q (.bool (!(Qg items.size).all e)) s):wpAny (model prog w) A (compareOp .NotEq (.ref l) (.ref b)) Q E s:=by
 obtain ⟨⟨cls,dd,data,sl⟩,ho,hc,n,hd⟩:=id hl
 obtain ⟨⟨cls2,dd2,data2,sl2⟩,ho2,hc2,n2,hd2⟩:=id hb
 simp only at hc hd hc2 hd2
 subst hc hd hc2 hd2
 exact richCompare_meets_room (op:=.NotEq) ⟨_,ho,rfl⟩ ⟨_,ho2,rfl⟩ F.slot_list_ne F.entry_list_ne (F.args_list_ne_2 _ _) (Zpb l b items items2 n n2 dd dd2 sl sl2 hsz e)
  ⟨ho,ho2,he,show Value.bool (!(Qg items.size).all e)≠Value.notImplemented/\Q (.bool (!(Qg items.size).all e)) s from ⟨(fun x=>nomatch x),h⟩⟩ hu
theorem Zl0 {l b:Addr}{items items2:Array Value}{e:Nat->Bool}{Q:Value->Shared->Prop}(hl:s.heap.IsTuple l items)(hb:s.heap.IsTuple b items2)(hu:A.units < cLine)
  (he:∀ j (h1:j < items.size) (h2:j < items2.size),EqAt A.in1 s items[j] items2[j] (e j)) (h:Q (.bool (!((Qg (min items.size items2.size)).all e && items.size == items2.size))) s):wpAny (model prog w) A (compareOp .NotEq (.ref l) (.ref b)) Q E s:=by
 obtain ⟨⟨cls,dd,data,sl⟩,ho,hc,n,hd⟩:=id hl
 obtain ⟨⟨cls2,dd2,data2,sl2⟩,ho2,hc2,n2,hd2⟩:=id hb
 simp only at hc hd hc2 hd2
 subst hc hd hc2 hd2
 exact richCompare_meets_room (op:=.NotEq) ⟨_,ho,rfl⟩ ⟨_,ho2,rfl⟩ F.slot_tuple_ne F.entry_tuple_ne (F.args_tuple_ne_2 _ _) (Zj2 l b items items2 n n2 dd dd2 sl sl2 e)
  ⟨ho,ho2,he,show Value.bool (!((Qg (min items.size items2.size)).all e && items.size == items2.size))≠Value.notImplemented/\Q (.bool (!((Qg (min items.size items2.size)).all e && items.size == items2.size))) s from ⟨(fun x=>nomatch x),h⟩⟩ hu
end
end L2
namespace L2
open PySem PySem.Spec PyProof.Rows
inductive Dt where
 | flat (v:V)
 | tup (ds:List Dt)
 | lst (ds:List Dt)
inductive IsD (K:Pk)(H:Hp):Nat->V->Dt->Prop where
 | flat {n:Nat} {v:V} (h:Cq v=true):IsD K H n v (.flat v)
 | tup {n:Nat} {a:Addr} {vs:List V} {ds:List Dt} (q:SqT K H a vs) (l:vs.length=ds.length) (h:∀(j:Nat)(v:V)(d:Dt),vs[j]?=some v->ds[j]?=some d->IsD K H n v d):IsD K H (n+1) (.ref a) (.tup ds)
 | lst {n:Nat} {a:Addr} {vs:List V} {ds:List Dt} (q:SqL K H a vs) (l:vs.length=ds.length) (h:∀(j:Nat)(v:V)(d:Dt),vs[j]?=some v->ds[j]?=some d->IsD K H n v d):IsD K H (n+1) (.ref a) (.lst ds)
theorem IsD.same {K:Pk}{H H':Hp}{n:Nat}{v:V}{d:Dt}(h:IsD K H n v d)(e:Same H H'):IsD K H' n v d:=by
 induction h with
 | flat h=>exact .flat h
 | tup q l _ ih=>exact .tup (e.tup q) l ih
 | lst q l _ ih=>exact .lst (e.seq q) l ih
theorem Zc0 {v:V}(h:Cq v=true):Ea v v=true:=by
 cases v with
 | non=>rfl
 | bl b=>simp [Ea]
 | int i=>simp [Ea]
 | str x=>simp [Ea]
 | byt _=>cases h
 | flt _=>cases h
 | ref _=>cases h
 | ty _=>cases h
section
variable {X:Cx}{pins:List (Addr×Obj)}{σ:St}{H:Hp}{s:Shared}
theorem Zo7 (I:Inv X pins σ H s):∀{n:Nat}{x y:V}{d:Dt},IsD X.K H n x d->IsD X.K H n y d->∀{A:Around}{u v:Value},RelV x u->RelV y v->A.units+n < cLine->Qc A s u v true:=by
 intro n
 induction n with
 | zero =>
  intro x y d hx hy A u v rx ry hu
  cases hx with
  | flat fx =>
   cases hy with
   | flat fy =>
    have:=Zbj (A:=A) (s:=s) rx ry fx fy
    rw [Zc0 fx] at this
    exact this
 | succ n ih =>
  intro x y d hx hy A u v rx ry hu
  cases hx with
  | flat fx =>
   cases hy with
   | flat fy =>
    have:=Zbj (A:=A) (s:=s) rx ry fx fy
    rw [Zc0 fx] at this
    exact this
  | @tup _ a vs ds q l h =>
   cases hy with
   | @tup _ b ws _ q' l' h' =>
    cases rx
    cases ry
    by_cases hab:a=b
    ·subst hab
     exact W5 _
    obtain ⟨its,r1,p1,_⟩:=I.tuple q
    obtain ⟨its2,r2,p2,_⟩:=I.tuple q'
    have l1:=r1.length
    have l2:=r2.length
    have:=SeqAt.RcAt.tuples (A:=A) (e:=fun _=>true) (show s.heap.IsTuple a its.toArray from p1) (show s.heap.IsTuple b its2.toArray from p2) (by omega) fun j h1 h2=>by
     have h1':j < vs.length:=by simp only [Pq] at h1;omega
     have h2':j < ws.length:=by simp only [Pq] at h2;omega
     obtain ⟨u1,g1,k1⟩:=r1.get (Pn h1')
     obtain ⟨u2,g2,k2⟩:=r2.get (Pn h2')
     have e1:its.toArray[j]=u1:=by
      have:its[j]?=some its[j]:=by simp
      rw [this] at g1
      simpa using g1
     have e2:its2.toArray[j]=u2:=by
      have:its2[j]?=some its2[j]:=by simp
      rw [this] at g2
      simpa using g2
     rw [e1,e2]
     have hd:j < ds.length:=by omega
     exact ih (h j _ _ (Pn h1') (Pn hd)) (h' j _ _ (Pn h2') (Pn hd)) k1 k2 (by show A.units+1+n < cLine;omega)
    have e:((Qg (min its.toArray.size its2.toArray.size)).all (fun _=>true) && its.toArray.size == its2.toArray.size)=true:=by
     have:its.toArray.size=its2.toArray.size:=by simp only [Pq];omega
     rw [this]
     simp
    rw [e] at this
    exact Qc.of_refs hab this
  | @lst _ a vs ds q l h =>
   cases hy with
   | @lst _ b ws _ q' l' h' =>
    cases rx
    cases ry
    by_cases hab:a=b
    ·subst hab
     exact W5 _
    obtain ⟨its,r1,p1,_⟩:=I.list q
    obtain ⟨its2,r2,p2,_⟩:=I.list q'
    have l1:=r1.length
    have l2:=r2.length
    have:=SeqAt.RcAt.lists (A:=A) (e:=fun _=>true) p1.isList p2.isList (by simp only [Pq];omega) (by omega) fun j h1 h2=>by
     have h1':j < vs.length:=by simp only [Pq] at h1;omega
     have h2':j < ws.length:=by simp only [Pq] at h2;omega
     obtain ⟨u1,g1,k1⟩:=r1.get (Pn h1')
     obtain ⟨u2,g2,k2⟩:=r2.get (Pn h2')
     have e1:its.toArray[j]=u1:=by
      have:its[j]?=some its[j]:=by simp
      rw [this] at g1
      simpa using g1
     have e2:its2.toArray[j]=u2:=by
      have:its2[j]?=some its2[j]:=by simp
      rw [this] at g2
      simpa using g2
     rw [e1,e2]
     have hd:j < ds.length:=by omega
     exact ih (h j _ _ (Pn h1') (Pn hd)) (h' j _ _ (Pn h2') (Pn hd)) k1 k2 (by show A.units+1+n < cLine;omega)
    have e:(Qg its.toArray.size).all (fun _=>true)=true:=by simp
    rw [e] at this
    exact Qc.of_refs hab this
theorem Mb (I:Inv X pins σ H s){n:Nat}{A:Around}{vs ws:List V}{its its2:List Value}{ds:List Dt}(r1:Vals vs its)(r2:Vals ws its2)(l:vs.length=ds.length)(l':ws.length=ds.length)
  (h:∀(j:Nat)(v:V)(d:Dt),vs[j]?=some v->ds[j]?=some d->IsD X.K H n v d) (h':∀(j:Nat)(v:V)(d:Dt),ws[j]?=some v->ds[j]?=some d->IsD X.K H n v d) (hu:A.units+n < cLine) :
  ∀ j (h1:j < its.toArray.size) (h2:j < its2.toArray.size),Qc A s its.toArray[j] its2.toArray[j] ((fun _=>true) j):=fun j h1 h2=>by
 have l1:=r1.length
 have l2:=r2.length
 have h1':j < vs.length:=by simp only [Pq] at h1;omega
 have h2':j < ws.length:=by simp only [Pq] at h2;omega
 obtain ⟨u1,g1,k1⟩:=r1.get (Pn h1')
 obtain ⟨u2,g2,k2⟩:=r2.get (Pn h2')
 have e1:its.toArray[j]=u1:=by
  have:its[j]?=some its[j]:=by simp
  rw [this] at g1
  simpa using g1
 have e2:its2.toArray[j]=u2:=by
  have:its2[j]?=some its2[j]:=by simp
  rw [this] at g2
  simpa using g2
 rw [e1,e2]
 have hd:j < ds.length:=by omega
 exact Zo7 I (h j _ _ (Pn h1') (Pn hd)) (h' j _ _ (Pn h2') (Pn hd)) k1 k2 hu
end
section
variable {X:Cx}
noncomputable def Mj (K:Pk)(b:Bool):R2:=fun x y H Q=>∃(a c:Addr)(n:Nat)(d:Dt),x=.ref a/\y=.ref c/\n<=190/\IsD K H n x d/\IsD K H n y d/\Q (.bl b) H
theorem Zsq (hu:X.A.units+200 < cLine):OpR X (compareOp .Eq) (Mj X.K true):=by
 intro pins s σ H x y v u Q I rx ry h
 obtain ⟨a,c,n,d,rfl,rfl,hn,hx,hy,q⟩:=h
 cases rx
 cases ry
 cases hx with
 | flat fx=>cases fx
 | @tup n _ vs ds qx l hd =>
  cases hy with
  | @tup _ _ ws _ qy l' hd' =>
   obtain ⟨its,r1,p1,_⟩:=I.tuple qx
   obtain ⟨its2,r2,p2,_⟩:=I.tuple qy
   have l1:=r1.length
   have l2:=r2.length
   refine SeqAt.eq_tupleAt (e:=fun _=>true) (show s.heap.IsTuple a its.toArray from p1) (show s.heap.IsTuple c its2.toArray from p2) (by omega) (Mb I r1 r2 l l' hd hd' (by show X.A.units+1+n < cLine;omega)) ?_
   have e:((Qg (min its.toArray.size its2.toArray.size)).all (fun _=>true) && its.toArray.size == its2.toArray.size)=true:=by
    have:its.toArray.size=its2.toArray.size:=by simp only [Pq];omega
    rw [this]
    simp
   rw [e]
   exact ⟨.bl true,H,I,rfl,q⟩
 | @lst n _ vs ds qx l hd =>
  cases hy with
  | @lst _ _ ws _ qy l' hd' =>
   obtain ⟨its,r1,p1,_⟩:=I.list qx
   obtain ⟨its2,r2,p2,_⟩:=I.list qy
   have l1:=r1.length
   have l2:=r2.length
   refine SeqAt.eq_listAt (e:=fun _=>true) p1.isList p2.isList (by simp only [Pq];omega) (by omega) (Mb I r1 r2 l l' hd hd' (by show X.A.units+1+n < cLine;omega)) ?_
   have e:(Qg its.toArray.size).all (fun _=>true)=true:=by simp
   rw [e]
   exact ⟨.bl true,H,I,rfl,q⟩
theorem Zm3 (hu:X.A.units+200 < cLine):OpR X (compareOp .NotEq) (Mj X.K false):=by
 intro pins s σ H x y v u Q I rx ry h
 obtain ⟨a,c,n,d,rfl,rfl,hn,hx,hy,q⟩:=h
 cases rx
 cases ry
 cases hx with
 | flat fx=>cases fx
 | @tup n _ vs ds qx l hd =>
  cases hy with
  | @tup _ _ ws _ qy l' hd' =>
   obtain ⟨its,r1,p1,_⟩:=I.tuple qx
   obtain ⟨its2,r2,p2,_⟩:=I.tuple qy
   have l1:=r1.length
   have l2:=r2.length
   refine Zl0 (e:=fun _=>true) (show s.heap.IsTuple a its.toArray from p1) (show s.heap.IsTuple c its2.toArray from p2) (by omega) (Mb I r1 r2 l l' hd hd' (by show X.A.units+1+n < cLine;omega)) ?_
   have e:(!((Qg (min its.toArray.size its2.toArray.size)).all (fun _=>true) && its.toArray.size == its2.toArray.size))=false:=by
    have:its.toArray.size=its2.toArray.size:=by simp only [Pq];omega
    rw [this]
    simp
   rw [e]
   exact ⟨.bl false,H,I,rfl,q⟩
 | @lst n _ vs ds qx l hd =>
  cases hy with
  | @lst _ _ ws _ qy l' hd' =>
   obtain ⟨its,r1,p1,_⟩:=I.list qx
   obtain ⟨its2,r2,p2,_⟩:=I.list qy
   have l1:=r1.length
   have l2:=r2.length
   refine Zr3 (e:=fun _=>true) p1.isList p2.isList (by simp only [Pq];omega) (by omega) (Mb I r1 r2 l l' hd hd' (by show X.A.units+1+n < cLine;omega)) ?_
   have e:(!(Qg its.toArray.size).all (fun _=>true))=false:=by simp
   rw [e]
   exact ⟨.bl false,H,I,rfl,q⟩
noncomputable def Mv (K:Pk):R2:=fun x y H Q=>rEq x y H Q\/Mj K true x y H Q
noncomputable def Zay (K:Pk):R2:=fun x y H Q=>rNe x y H Q\/Mj K false x y H Q
theorem Zd6 (hu:X.A.units+200 < cLine):OpR X (compareOp .Eq) (Mv X.K):=op_eq.or (Zsq hu)
theorem Zrg (hu:X.A.units+200 < cLine):OpR X (compareOp .NotEq) (Zay X.K):=op_ne.or (Zm3 hu)
theorem s_eq {K:Pk}{x y:V}{H:Hp}{Q:VK}(hs:Lr x y=true)(h:Q (.bl (decide (x=y))) H):Mv K x y H Q:=.inl ⟨hs,h⟩
theorem s_ne {K:Pk}{x y:V}{H:Hp}{Q:VK}(hs:Lr x y=true)(h:Q (.bl (!decide (x=y))) H):Zay K x y H Q:=.inl ⟨hs,h⟩
theorem Room.u200 {k:Nat}{A:Around}(r:Room k A):A.units+200 < cLine:=by have:=r.un;omega
end
section
variable {t u:TS}{c d:TT}{te ta tb tc:TE}{g:TG}{gs:Ee}{ts:TA}{D:Ends}{σ:St}{H:Hp}{Q:VK}{QB:Bool->Hp->Prop}{QA':List V->Hp->Prop}
theorem s_seq (h:t { D with nx:=u D } σ H):N4 t u D σ H:=h
theorem s_asg (h:te σ H fun x H1=>g x σ H1 D.nx):G7 te g D σ H:=h
theorem s_ret (h:te σ H D.rt):Zbn te D σ H:=h
theorem s_drop (h:te σ H fun _ H1=>D.nx σ H1):On te D σ H:=h
theorem s_next (h:D.nx σ H):Zb9 D σ H:=h
theorem s_ifS (h:c σ H fun b H1=>if b=true then t D σ H1 else u D σ H1):Nm c t u D σ H:=h
theorem s_var {i:Nat}{v:V}(e:σ[i]?=some (some v))(h:Q v H):N2 i σ H Q:=⟨v,e,h⟩
theorem s_c {v:V}(h:Q v H):tC v σ H Q:=h
theorem s_op {r:R2}(h:ta σ H fun x H1=>tb σ H1 fun y H2=>r x y H2 Q):Fe r ta tb σ H Q:=h
theorem s_un {r:V->Hp->VK->Prop}(h:ta σ H fun x H1=>r x H1 Q):tUn r ta σ H Q:=h
theorem s_test (h:te σ H fun x H'=>∃ k,x=.bl k/\QB k H'):Zbx te σ H QB:=h
theorem s_tB (h:te σ H fun x H'=>∃ k,x=.bl k/\QB k H'):tB te σ H QB:=h
theorem s_ex {b:Bool}{P:Bool->Prop}(h:P b):∃ k,V.bl b=V.bl k/\P k:=⟨b,rfl,h⟩
theorem s_exi {i:Int}{P:Int->Prop}(h:P i):∃ k,V.int i=V.int k/\P k:=⟨i,rfl,h⟩
theorem s_not (h:c σ H fun b H1=>QB (!b) H1):Zb3 c σ H QB:=h
theorem s_and (h:c σ H fun b H1=>if b=true then d σ H1 QB else QB false H1):O0 c d σ H QB:=h
theorem s_or (h:c σ H fun b H1=>if b=true then QB true H1 else d σ H1 QB):tOr c d σ H QB:=h
theorem s_andV (h:ta σ H fun x H1=>∃ k,x=.bl k/\if k=true then tb σ H1 Q else Q (.bl false) H1):O8 ta tb σ H Q:=h
theorem s_notV (h:ta σ H fun x H1=>∃ k,x=.bl k/\Q (.bl (!k)) H1):Zap ta σ H Q:=h
theorem s_nil (h:QA' [] H):Hy σ H QA':=h
theorem s_cons (h:te σ H fun x H1=>ts σ H1 fun xs H2=>QA' (x::xs) H2):Zab te ts σ H QA':=h
theorem s_vals {xs:List V}(h:QA' xs H):Zai xs σ H QA':=h
theorem s_tup (h:ts σ H fun xs H1=>xs.length<=sizeLine/\∀ p,H1 p=none->Q (.ref p) (upd H1 p (.tup xs))):Zax ts σ H Q:=h
theorem s_lst (h:ts σ H fun xs H1=>xs.length<=sizeLine/\∀ p,H1 p=none->Q (.ref p) (upd H1 p (.lst xs))):Zaw ts σ H Q:=h
theorem s_call {sp:Sp}{dvs:List V}{E:XK}(h:ts σ H fun vs H1=>sp (vs++dvs) H1 Q E):Jp sp dvs E ts σ H Q:=h
theorem s_cb {r:List V->Hp->VK->Prop}(h:ts σ H fun vs H1=>r vs H1 Q):tCB r ts σ H Q:=h
theorem s_bm {K:Pk}{T:String}{r:V->List V->Hp->VK->Prop}(h:te σ H fun x H1=>Jf K T x H1/\ts σ H1 fun xs H2=>r x xs H2 Q):tBM K T r te ts σ H Q:=h
theorem s_bm0 {K:Pk}{T:String}{r:V->List V->Hp->VK->Prop}(h:te σ H fun x H1=>Jf K T x H1/\r x [] H1 Q):Mc K T r te σ H Q:=h
theorem s_sl {r:V->Option Int->Option Int->Hp->VK->Prop}{tl th:TO}(h:te σ H fun x H1=>tl σ H1 fun l H2=>th σ H2 fun u H3=>r x l u H3 Q):tSl r te tl th σ H Q:=h
theorem s_po {QO':Option Int->Hp->Prop}(h:te σ H fun x H1=>∃ i,x=.int i/\QO' (some i) H1):Zbt te σ H QO':=h
theorem s_po0 {QO':Option Int->Hp->Prop}(h:QO' none H):Zas σ H QO':=h
theorem s_gname {i:Nat}{v:V}{QS':St->Hp->Prop}(h:QS' (σ.set i (some v)) H):Gs i v σ H QS':=h
theorem Da {K:Pk}{n:Nat}{a:Addr}{xs:List V}{QS':St->Hp->Prop}(q:SqT K H a xs)(l:xs.length=n)(h:gs xs σ H QS'):Np K n gs (.ref a) σ H QS':=⟨a,xs,rfl,q,l,h⟩
theorem s_gcons {v:V}{r:List V}{QS':St->Hp->Prop}(h:g v σ H fun σ' H'=>gs r σ' H' QS'):Zby g gs (v::r) σ H QS':=⟨v,r,rfl,h⟩
theorem s_gnil {QS':St->Hp->Prop}(h:QS' σ H):Ox [] σ H QS':=⟨rfl,h⟩
theorem s_gsub {to ti:TE}{tt:Kl}{v:V}{QS':St->Hp->Prop}(h:to σ H fun o H1=>ti σ H1 fun i H2=>tt o i v H2 fun H3=>QS' σ H3):N9 to ti tt v σ H QS':=h
theorem s_isN (h:ta σ H fun x H1=>Q (.bl (decide (x=.non))) H1):Zbm ta σ H Q:=h
theorem s_notN (h:ta σ H fun x H1=>Q (.bl (!decide (x=.non))) H1):Pf ta σ H Q:=h
end
section
variable {wi:TI}{σ0:St->St}{g:TG}{tt:TT}{te:TE}{ta:TA}{tb:TS}{D:Ends}{σ:St}{H:Hp}{Q:VK}{R:It->Hp->Prop}{K:Pk}
theorem s_comp (h:wi σ H fun J H1=>∀ L,H1 L=none->Jr J g tt te (σ0 σ) H1 L Q):La wi σ0 g tt te σ H Q:=h
theorem s_for (h:wi σ H fun J H1=>∃ W:Nat->Nat->St->Hp->Prop,(∃ m,W 0 m σ H1)/\∀ i m σ H,W i m σ H ->
 (J.stop i H/\D.nx σ H)\/(J.go i H/\∃ N:St->Hp->Prop,(∀ σ' H',N σ' H'->∃ m',m' < m/\W (i+1) m' σ' H')/\∀ x H',J.yld i H x H'->g x σ H' fun σ2 H2=>tb { D with nx:=N,ct:=N,bk:=D.nx } σ2 H2)):Ov wi g tb D σ H:=h
theorem s_rng1 (h:ta σ H fun vs H1=>∃ j:Int,vs=[.int j]/\-(2 ^ 62)<=j/\j < 2 ^ 62/\R (Gv 0 j.toNat) H1):N7 ta σ H R:=h
theorem s_exr {i:Int}{P:Int->Prop}(h:P i):∃ j,([V.int i]:List V)=[.int j]/\P j:=⟨i,rfl,h⟩
theorem s_iany (h:te σ H fun x H1=>(∃ a,x=.ref a/\(∃ xs,SqL K H1 a xs)/\R (Ha K a) H1)\/(∃ a,x=.ref a/\(∃ xs,SqT K H1 a xs)/\R (Hc K a) H1)\/∃ z,x=.str z/\R (Its z) H1):Of K te σ H R:=h
theorem s_irev (h:ta σ H fun vs H1=>∃ a xs,vs=[.ref a]/\SqL K H1 a xs/\R (Ij K a xs.length) H1):Nu K ta σ H R:=h
theorem s_ienum (h:ta σ H fun vs H1=>∃ a xs,vs=[.ref a]/\SqL K H1 a xs/\R (Ii K a xs.length) H1):Pd K ta σ H R:=h
theorem s_listen (h:ta σ H fun vs H1=>∃ a xs,vs=[.ref a]/\SqT K H1 a xs/\∀(S:Addr)(ys:List V)(H2:Hp),H1 S=none->Same H1 H2->ys.length=xs.length->Zb1 H2 xs ys->H2 S=some (.lst ys)->Q (.ref S) H2):Om K ta σ H Q:=h
theorem s_yes {QB:Bool->Hp->Prop}(h:QB true H):Zah σ H QB:=h
theorem s_turn {L:Addr}{Nx:List V->St->Hp->Prop}{x:V}(h:g x σ H fun σ2 H3=>tt σ2 H3 fun b H4=>if b=true then te σ2 H4 fun y H5=>∃ ys,H5 L=some (.lst ys)/\ys.length < sizeLine/\(∃ zs,upd H5 L (.lst (ys++[y])) L=some (.lst zs)/\Nx zs σ2 (upd H5 L (.lst (ys++[y])))) else ∃ zs,H4 L=some (.lst zs)/\Nx zs σ2 H4):Nl g tt te L Nx x σ H:=h
theorem Dd {l:Addr}{xs:List V}{y:V}(e:H l=some (.lst xs))(z:xs.length < sizeLine)(h:Q .non (upd H l (.lst (xs++[y])))):Zdc (.ref l) [y] H Q:=⟨l,xs,y,rfl,rfl,e,z,h⟩
theorem Lz {l:Addr}{xs:List V}{y:V}(e:H l=some (.lst (xs++[y])))(h:Q y (upd H l (.lst xs))):rPop (.ref l) [] H Q:=⟨l,xs++[y],y,rfl,rfl,e,by simp,by simpa using h⟩
theorem Zev {p:Addr}{xs:List V}{k:Int}{j:Nat}{v:V}{QH:Hp->Prop}(e:H p=some (.lst xs))(hj:Dm xs.length k=some j)(h:QH (upd H p (.lst (xs.set j v)))):Zfz (.ref p) (.int k) v H QH:=⟨p,xs,k,j,rfl,rfl,e,hj,h⟩
end
section
variable {X:Cx}(K:Pk)
theorem Cu (hK:X.K=K:=by rfl):OpR X (binaryOp .Add) (Je K):=by subst hK;exact op_addA
theorem Bg (hu:X.A.units+200 < cLine)(hK:X.K=K:=by rfl):OpR X (compareOp .Eq) (Mv K):=by subst hK;exact Zd6 hu
theorem Kk (hu:X.A.units+200 < cLine)(hK:X.K=K:=by rfl):OpR X (compareOp .NotEq) (Zay K):=by subst hK;exact Zrg hu
theorem Zag (hK:X.K=K:=by rfl):OpR X (compareOp .In) (Zbi K false):=by subst hK;exact Zju
theorem k_ix (hK:X.K=K:=by rfl):IxR X (Ji K):=by subst hK;exact Zk6
theorem Mq (hK:X.K=K:=by rfl):SlR X (rSlA K):=by subst hK;exact Zmr
theorem Ek (hK:X.K=K:=by rfl):Cd X (.builtin "len") (Ni K):=by subst hK;exact Zn7
inductive TyQ (K:Pk)(H:Hp):V->Value->Prop where
 | ty {x:V} {t:Value} (h:Dl K H x t):TyQ K H x t
 | tup {a:Addr} {xs:List V} (q:SqT K H a xs):TyQ K H (.ref a) (.type "tuple")
 | lst {a:Addr} {xs:List V} (q:SqL K H a xs):TyQ K H (.ref a) (.type "list")
noncomputable def Kt (K:Pk)(T:String):List V->Hp->VK->Prop:=fun xs H Q=>∃ x t b,xs=[x,.ty T]/\TyQ K H x t/\Qn K t (.type T)=some b/\Q (.bl b) H
theorem Zo6 {T:String}:Cd X (.builtin "isinstance") (Kt X.K T):=by
 intro pins s σ H xs us Q I r h
 obtain ⟨x,t,b,rfl,ty,e,q⟩:=h
 obtain ⟨u,v,rfl,ru,rv⟩:=r.two
 obtain rfl:v=Value.type T:=rv
 cases ty with
 | ty ty=>exact Zjo I ru ty e fun tk=>⟨.bl b,H,I.tok tk,rfl,q⟩
 | tup hq =>
  cases ru
  obtain ⟨its,_,p,_⟩:=I.tuple hq
  obtain ⟨o,h1,h2,_⟩:=p
  exact Qw PySem.W.kitx_tuple I.kIn ⟨o,h1,h2⟩ e (fun z=>nomatch z) fun tk=>⟨.bl b,H,I.tok tk,rfl,q⟩
 | lst hq =>
  cases ru
  obtain ⟨its,_,p,_⟩:=I.list hq
  obtain ⟨o,n,h1,h2,_⟩:=p
  exact Qw Wt I.kIn ⟨o,h1,h2⟩ e (fun z=>nomatch z) fun tk=>⟨.bl b,H,I.tok tk,rfl,q⟩
theorem B1 (T:String)(hK:X.K=K:=by rfl):Cd X (.builtin "isinstance") (Kt K T):=by subst hK;exact Zo6
noncomputable def Zk7 (K:Pk):List V->Hp->VK->Prop:=fun xs H Q=>∃ p ys,xs=[.ref p]/\(SqL K H p ys\/SqT K H p ys)/\∀ l,H l=none->Q (.ref l) (upd H l (.lst ys))
theorem Nw (hK:X.K=K:=by rfl):Cd X (.type "list") (Zk7 K):=by subst hK;exact Zpc
noncomputable def Zf6 (K:Pk):List V->Hp->VK->Prop:=fun xs H Q=>∃ p ys,xs=[.ref p]/\((SqL K H p ys/\∀ l,H l=none->Q (.ref l) (upd H l (.tup ys)))\/(SqT K H p ys/\Q (.ref p) H))
theorem Zt0 (hK:X.K=K:=by rfl):Cd X (.type "tuple") (Zf6 K):=by subst hK;exact Zre
noncomputable def rInt:List V->Hp->VK->Prop:=fun xs H Q=>(∃ i,xs=[.int i]/\Q (.int i) H)\/∃ k,xs=[.bl k]/\Q (.int (if k then 1 else 0)) H
theorem Oy:Cd X (.type "int") rInt:=Zo4
theorem s_intb {k:Bool}{H:Hp}{Q:VK}(h:Q (.int (if k=true then 1 else 0)) H):rInt [.bl k] H Q:=.inr ⟨k,rfl,h⟩
theorem C0 {tg l:Expr}{tl:TE}(hl:QE X l tl)(hK:X.K=K:=by rfl):QI X tg l (Of K tl):=by subst hK;exact Zp3 hl
theorem Nj {tg a:Expr}{ta:TA}{p pos:Pos}(hg:Gl X "reversed")(hm:X.mg "reversed" = none)(ha:QA X [a] ta)(hK:X.K=K:=by rfl)(hs:starEach [a] X.env=[(false,eval a X.env)]:=by rfl):QI X tg (.Call (.Name "reversed" p) [a] [] pos) (Nu K ta):=by subst hK;exact Zoc hg hm ha hs
theorem M7 {elts:List Expr}{kt:Nat}{pt:Pos}{e:Expr}{ta:TA}{p pos:Pos}(hg:Gl X "enumerate")(hm:X.mg "enumerate" = none)(ha:QA X [e] ta)(hK:X.K=K:=by rfl)(hs:starEach [e] X.env=[(false,eval e X.env)]:=by rfl):QI X (.Tuple elts kt pt) (.Call (.Name "enumerate" p) [e] [] pos) (Pd K ta):=by subst hK;exact Zrr hg hm ha hs
theorem Zqu {e:Expr}{ta:TA}{p p2 pos pos2:Pos}(hg:Gl X "list")(hm:X.mg "list" = none)(hg2:Gl X "enumerate")(hm2:X.mg "enumerate" = none)(ha:QA X [e] ta)(hK:X.K=K:=by rfl)(hc:X.calm=true:=by rfl)
  (hs:starEach [.Call (.Name "enumerate" p2) [e] [] pos2] X.env=[(false,eval (.Call (.Name "enumerate" p2) [e] [] pos2) X.env)]:=by rfl) (hs2:starEach [e] X.env=[(false,eval e X.env)]:=by rfl) :
  QE X (.Call (.Name "list" p) [.Call (.Name "enumerate" p2) [e] [] pos2] [] pos) (Om K ta):=by subst hK;exact Ztb hg hm hg2 hm2 ha hc hs hs2
theorem Cv {es:List Expr}{k:Nat}{pos:Pos}{t:Ee}{n:Nat}(hc:X.calm=true)(h:QGs X es t)(hK:X.K=K:=by rfl)(hn:(assignEach es X.env).length=n:=by rfl)(hst:(assignEach es X.env).findIdx? (·.1)=none:=by rfl):QG X (.Tuple es k pos) (Np K n t):=by subst hK;exact Zr8 hc h hn hst
noncomputable def Zcp (K:Pk)(ta:TE):TT:=fun σ H Q=>ta σ H fun x H'=>∃ k,Kg K x H' k/\Q k H'
theorem Gz {a:Expr}{ta:TE}(ha:QE X a ta)(he:∀ whole,isTrue a X.env whole=(do let v <- whole;standAt a.pos;holding [v] (truthy v)))(hK:X.K=K:=by rfl):QT X a (Zcp K ta):=by subst hK;exact ⟨Zjf ha.run he⟩
theorem Dk {o e:Expr}{es:List Expr}{to:TE}{t:TA}{name:Str}{apos cpos:Pos}{T id:String}{r:V->List V->Hp->VK->Prop}(pa:PlainAttrs T)(slot:Slot T name id)(hty:typeOf (.builtin id)=pure (.type "method_descriptor"))(hm:Jn X id r)(ho:QE X o to)(ha:QA X (e::es) t)(hK:X.K=K:=by rfl)
  (hbase:attributeBase o name X.env (eval o X.env)=eval o X.env:=by rfl) (hfew:((backTo cpos (starEach (e::es) X.env)).all (fun x=>!x.1) && (backToKw cpos (keywordEach [] X.env)).all (fun x=>x.1.isSome)
   && decide ((e::es).length+([]:List Keyword).length+(if ([]:List Keyword).isEmpty then 0 else 1) < 30))=true:=by rfl) (hline:(apos.endLine == cpos.line)=true:=by rfl) (hs:starEach (e::es) X.env=(false,eval e X.env)::starEach es X.env:=by rfl) (hplain:(backTo cpos (starEach es X.env)).any (·.1)=false:=by rfl):QE X (.Call (.Attribute o name apos) (e::es) [] cpos) (tBM K T r to t):=by subst hK;exact Zr7 pa slot hty hm ho ha hbase hfew hline hs hplain
theorem Mh {o:Expr}{to:TE}{name:Str}{apos cpos:Pos}{T id:String}{r:V->List V->Hp->VK->Prop}(pa:PlainAttrs T)(slot:Slot T name id)(hty:typeOf (.builtin id)=pure (.type "method_descriptor"))(hm:Jn X id r)(ho:QE X o to)(hK:X.K=K:=by rfl)(hbase:attributeBase o name X.env (eval o X.env)=eval o X.env:=by rfl)(hline:(apos.endLine == cpos.line)=true:=by rfl):QE X (.Call (.Attribute o name apos) [] [] cpos) (Mc K T r to):=by subst hK;exact Zoo pa slot hty hm ho hbase hline
end
section
variable {K:Pk}{σ:St}{H:Hp}{Q:VK}{QB:Bool->Hp->Prop}{ta:TE}
theorem s_truth (h:ta σ H fun x H'=>∃ k,Kg K x H' k/\QB k H'):Zcp K ta σ H QB:=h
theorem Ht {a:Addr}{xs:List V}{P:Bool->Prop}(q:SqL K H a xs)(h:P (!xs.isEmpty)):∃ k,Kg K (.ref a) H k/\P k:=⟨_,.inl ⟨xs,q,rfl⟩,h⟩
theorem Cj {T:String}{x:V}{t:Value}{b:Bool}(ty:Dl K H x t)(e:Qn K t (.type T)=some b)(h:Q (.bl b) H):Kt K T [x,.ty T] H Q:=⟨x,t,b,rfl,.ty ty,e,h⟩
theorem Fl {T:String}{a:Addr}{xs:List V}{b:Bool}(q:SqT K H a xs)(e:Qn K (.type "tuple") (.type T)=some b)(h:Q (.bl b) H):Kt K T [.ref a,.ty T] H Q:=⟨_,_,b,rfl,.tup q,e,h⟩
theorem Jw {T:String}{a:Addr}{xs:List V}{b:Bool}(q:SqL K H a xs)(e:Qn K (.type "list") (.type T)=some b)(h:Q (.bl b) H):Kt K T [.ref a,.ty T] H Q:=⟨_,_,b,rfl,.lst q,e,h⟩
theorem Zid {K:Pk}:Qn K (.type "int") (.type "bool")=some false:=Zl5 (l:=(fastBuiltinMro "int").get (by decide +kernel)) (by decide +kernel) (by decide) (by simp) (by decide +kernel)
theorem Zq1 {p:Addr}{ys:List V}(q:SqL K H p ys)(h:∀ l,H l=none->Q (.ref l) (upd H l (.tup ys))):Zf6 K [.ref p] H Q:=⟨p,ys,rfl,.inl ⟨q,h⟩⟩
theorem Cf {a:Addr}{xs:List V}{P:Prop}(q:SqL K H a xs)(h:P):Jf K "list" (.ref a) H/\P:=⟨.inl ⟨rfl,_,q⟩,h⟩
end
theorem s_nt {A B:Prop}(h:B):if (!true)=true then A else B:=by simpa using h
theorem s_nf {A B:Prop}(h:A):if (!false)=true then A else B:=by simpa using h
end L2
namespace L2
open PySem
inductive Tr where
 | mk (wd:Str) (note:Dt) (ps:List Tr)
noncomputable def Tr.wd:Tr->Str
 | .mk w _ _=>w
noncomputable def Tr.ps:Tr->List Tr
 | .mk _ _ ps=>ps
mutual
noncomputable def Tr.size:Tr->Nat
 | .mk _ _ ps=>1+Bz ps
noncomputable def Bz:List Tr->Nat
 | []=>0
 | t::r=>t.size+Bz r
end
theorem Tr.size_eq (t:Tr):t.size=1+Bz t.ps:=by
 cases t with
 | mk w n ps=>rw [Tr.size];rfl
theorem Zkj {ts:List Tr}{j:Nat}{t:Tr}(h:ts[j]?=some t):t.size<=Bz ts:=by
 induction ts generalizing j with
 | nil=>simp at h
 | cons x r ih =>
  rw [Bz]
  cases j with
  | zero=>simp at h;subst h;omega
  | succ j=>have:=ih (j:=j) (by simpa using h);omega
theorem Zok (ts:List Tr):ts.length<=Bz ts:=by
 induction ts with
 | nil=>simp [Bz]
 | cons t r ih =>
  have:=t.size_eq
  rw [Bz,Py]
  omega
noncomputable def SameT (H H':Hp):Prop:=∀ b,(∀ xs,H b=some (.tup xs)->H' b=some (.tup xs))/\∀ o u,H b=some (.frz o u)->H' b=some (.frz o u)
theorem Same.t {H H':Hp}(e:Same H H'):SameT H H':=fun b=>⟨fun xs h=>e b _ h,fun o u h=>e b _ h⟩
theorem SameT.refl (H:Hp):SameT H H:=fun _=>⟨fun _ h=>h,fun _ _ h=>h⟩
theorem SameT.trans {H H1 H2:Hp}(a:SameT H H1)(b:SameT H1 H2):SameT H H2:=fun c=>⟨fun xs h=>(b c).1 xs ((a c).1 xs h),fun o u h=>(b c).2 o u ((a c).2 o u h)⟩
theorem SameT.set {H:Hp}{S:Addr}{zs:List V}{o:HO}(h:H S=some (.lst zs)):SameT H (upd H S o):=fun b =>
 ⟨fun xs e=>by rw [Ag (Fg e h (by intro z;cases z))];exact e,fun o' u e=>by rw [Ag (Fg e h (by intro z;cases z))];exact e⟩
theorem SameT.new {H:Hp}{S:Addr}{o:HO}(h:H S=none):SameT H (upd H S o):=(Same.upd h).t
theorem SameT.tup {K:Pk}{H H':Hp}{a:Addr}{xs:List V}(e:SameT H H')(h:SqT K H a xs):SqT K H' a xs:=by
 rcases h with (h | ⟨o,h⟩) | h
 ·exact .inl (.inl ((e a).1 _ h))
 ·exact .inl (.inr ⟨o,(e a).2 _ _ h⟩)
 ·exact .inr h
noncomputable def IsN (K:Pk)(H:Hp)(v:V)(n:Dt):Prop:=(Cq v=true/\n=.flat v)\/∃(a:Addr)(vs:List V),v=.ref a/\SqT K H a vs/\vs.all Cq=true/\n=.tup (vs.map .flat)
theorem IsN.same {K:Pk}{H H':Hp}{v:V}{n:Dt}(h:IsN K H v n)(e:SameT H H'):IsN K H' v n:=by
 rcases h with h | ⟨a,vs,h1,h2,h3⟩
 ·exact .inl h
 ·exact .inr ⟨a,vs,h1,e.tup h2,h3⟩
inductive TrAt (K:Pk)(H:Hp):V->Tr->Prop where
 | mk {a p:Addr} {wd:Str} {nv:V} {n:Dt} {vs:List V} {ts:List Tr} (q:SqT K H a [.str wd,nv,.ref p]) (hn:IsN K H nv n) (qp:SqT K H p vs) (l:vs.length=ts.length)
   (h:∀(j:Nat)(v:V)(t:Tr),vs[j]?=some v->ts[j]?=some t->TrAt K H v t):TrAt K H (.ref a) (.mk wd n ts)
theorem TrAt.sameT {K:Pk}{H H':Hp}{v:V}{t:Tr}(h:TrAt K H v t)(e:SameT H H'):TrAt K H' v t:=by
 induction h with
 | mk q hn qp l _ ih=>exact .mk (e.tup q) (hn.same e) (e.tup qp) l ih
theorem TrAt.same {K:Pk}{H H':Hp}{v:V}{t:Tr}(h:TrAt K H v t)(e:Same H H'):TrAt K H' v t:=h.sameT e.t
noncomputable def Al {α:Type}(R:V->α->Prop)(vs:List V)(xs:List α):Prop:=vs.length=xs.length/\∀(j:Nat)(v:V)(x:α),vs[j]?=some v->xs[j]?=some x->R v x
section
variable {α:Type}{R R':V->α->Prop}{vs:List V}{xs:List α}{v:V}{x:α}
theorem Al.mono (h:Al R vs xs)(f:∀ v x,R v x->R' v x):Al R' vs xs:=⟨h.1,fun j v x a b=>f v x (h.2 j v x a b)⟩
theorem Al.nil:Al R [] []:=⟨rfl,fun j v x a _=>by simp at a⟩
theorem Al.snoc (h:Al R vs xs)(a:R v x):Al R (vs++[v]) (xs++[x]):=by
 refine ⟨by simp [h.1],fun j y z e1 e2=>?_⟩
 by_cases hj:j < vs.length
 ·rw [Q7 hj] at e1
  rw [Q7 (by have:=h.1;omega)] at e2
  exact h.2 j y z e1 e2
 ·have hl:=(Pt.mp e1).1
  rw [Px,Qm] at hl
  have hj':j=vs.length:=by omega
  subst hj'
  rw [Rh (Po _),Sd] at e1
  rw [h.1,Rh (Po _),Sd] at e2
  have e1:v=y:=by simpa using e1
  have e2:x=z:=by simpa using e2
  rw [<- e1,<- e2]
  exact a
theorem Al.split (h:Al R (vs++[v]) xs):∃ ys x,xs=ys++[x]/\Al R vs ys/\R v x:=by
 have hl:xs.length=vs.length+1:=by have:=h.1;simp at this;omega
 have hne:xs≠[]:=fun z=>by rw [z] at hl;simp at hl
 refine ⟨xs.dropLast,xs.getLast hne,(Xd hne).symm,⟨by simp [hl],fun j y z e1 e2=>?_⟩,?_⟩
 ·have hj:=(Pt.mp e1).1
  refine h.2 j y z (by rw [Q7 hj];exact e1) ?_
  rw [List.getElem?_dropLast] at e2
  split at e2
  ·exact e2
  ·cases e2
 ·refine h.2 vs.length v _ (by simp) ?_
  rw [List.getLast_eq_getElem,Pn (by omega)]
  congr 1
  simp [hl]
theorem Al.last (h:Al R vs xs)(hn:vs≠[]):∃ vs' v xs' x,vs=vs'++[v]/\xs=xs'++[x]/\Al R vs' xs'/\R v x:=by
 have e:=(Xd hn).symm
 rw [e] at h
 obtain ⟨ys,x,e2,a,r⟩:=h.split
 exact ⟨_,_,ys,x,e,e2,a,r⟩
theorem Al.get {j:Nat}(h:Al R vs xs)(e:vs[j]?=some v):∃ x,xs[j]?=some x/\R v x:=by
 have hj:=(Pt.mp e).1
 have hx:j < xs.length:=by have:=h.1;omega
 exact ⟨xs[j],Pn hx,h.2 j v _ e (Pn hx)⟩
theorem Al.get' {j:Nat}(h:Al R vs xs)(e:xs[j]?=some x):∃ v,vs[j]?=some v/\R v x:=by
 have hj:=(Pt.mp e).1
 have hv:j < vs.length:=by have:=h.1;omega
 exact ⟨vs[j],Pn hv,h.2 j _ x (Pn hv) e⟩
end
noncomputable def gapT:Tr:=.mk "gap" (.flat .non) []
theorem TrAt.gap {K:Pk}{H:Hp}{a p:Addr}(q:SqT K H a [.str "gap",.non,.ref p])(qp:SqT K H p []):TrAt K H (.ref a) gapT:=.mk q (.inl ⟨rfl,rfl⟩) qp rfl fun j v t e _=>by simp at e
mutual
noncomputable def walk:List Nat->Tr->List (List Nat×Tr)
 | pl,.mk w n ps=>(pl,.mk w n ps)::Bv pl 0 ps
noncomputable def Bv:List Nat->Nat->List Tr->List (List Nat×Tr)
 | _,_,[]=>[]
 | pl,i,t::r=>walk (pl++[i]) t++Bv pl (i+1) r
end
theorem Ze4 (pl:List Nat)(t:Tr):walk pl t=(pl,t)::Bv pl 0 t.ps:=by
 cases t with
 | mk w n ps=>rw [walk];rfl
mutual
theorem Fb:∀(pl:List Nat)(t:Tr),(walk pl t).length=t.size
 | pl,.mk w n ps=>by rw [walk,Tr.size,Py,Zd9 pl 0 ps];omega
theorem Zd9:∀(pl:List Nat)(i:Nat)(ts:List Tr),(Bv pl i ts).length=Bz ts
 | _,_,[]=>by rw [Bv,Bz];rfl
 | pl,i,t::r=>by rw [Bv,Bz,Px,Fb,Zd9]
end
mutual
theorem Kf:∀(pl:List Nat)(t:Tr)(x:List Nat×Tr),x∈walk pl t->x.1.length+1<=pl.length+t.size
 | pl,.mk w n ps,x,h=>by
  rw [walk] at h
  rw [Tr.size]
  rcases Pu.mp h with h | h
  ·subst h;show pl.length+1<=_;omega
  ·have:=Zdf pl 0 ps x h;omega
theorem Zdf:∀(pl:List Nat)(i:Nat)(ts:List Tr)(x:List Nat×Tr),x∈Bv pl i ts->x.1.length<=pl.length+Bz ts
 | _,_,[],x,h=>by rw [Bv] at h;cases h
 | pl,i,t::r,x,h=>by
  rw [Bv] at h
  rw [Bz]
  rcases Qq.mp h with h | h
  ·have:=Kf (pl++[i]) t x h
   rw [Px,Qm] at this
   omega
  ·have:=Zdf pl (i+1) r x h;omega
end
noncomputable def Bj (pl:List Nat):List V:=pl.map fun i=>V.int ((i:Nat):Int)
noncomputable def B6:List Nat->Nat->List Tr->List (List Nat×Tr)
 | _,_,[]=>[]
 | pl,i,t::r=>(pl++[i],t)::B6 pl (i+1) r
theorem Zcm (pl:List Nat):∀(i:Nat)(ts:List Tr),(B6 pl i ts).length=ts.length
 | _,[]=>rfl
 | i,t::r=>by rw [B6,Py,Py,Zcm pl (i+1) r]
theorem Zdx (pl:List Nat):∀(i j:Nat)(ts:List Tr),(B6 pl i ts)[j]?=(ts[j]?).map fun t=>(pl++[i+j],t)
 | _,_,[]=>by simp [B6]
 | i,0,t::r=>by simp [B6]
 | i,j+1,t::r=>by
  rw [B6,List.getElem?_cons_succ,List.getElem?_cons_succ,Zdx pl (i+1) j r]
  congr 1
  funext t
  rw [show i+1+j=i+(j+1) by omega]
theorem Zd4 (pl:List Nat):∀(i:Nat)(ts:List Tr),(B6 pl i ts).flatMap (fun x=>walk x.1 x.2)=Bv pl i ts
 | _,[]=>by simp [B6,Bv]
 | i,t::r=>by rw [B6,List.flatMap_cons,Bv,Zd4 pl (i+1) r]
noncomputable def Gr (st:List (List Nat×Tr)):List (List Nat×Tr):=st.reverse.flatMap fun x=>walk x.1 x.2
theorem Zsv:Gr []=[]:=rfl
theorem Pc (st:List (List Nat×Tr))(x:List Nat×Tr):Gr (st++[x])=x::Gr (st++(B6 x.1 0 x.2.ps).reverse):=by
 unfold Gr
 rw [Wm,Wm,List.reverse_reverse,Wn,Wn,Zd4]
 rw [List.reverse_singleton,List.flatMap_singleton,Ze4]
 rfl
noncomputable def E8 (st:List (List Nat×Tr)):Nat:=(Gr st).length
theorem Zjv (st:List (List Nat×Tr))(x:List Nat×Tr):E8 (st++(B6 x.1 0 x.2.ps).reverse) < E8 (st++[x]):=by
 unfold E8
 rw [Pc]
 exact W0 _
theorem Zlm (st:List (List Nat×Tr)):st.length<=E8 st:=by
 unfold E8 Gr
 have:∀ l:List (List Nat×Tr),l.length<=(l.flatMap fun x=>walk x.1 x.2).length:=fun l=>by
  induction l with
  | nil=>simp
  | cons x r ih =>
   rw [List.flatMap_cons,Px,Fb,Py]
   have:=x.2.size_eq
   omega
 have:=this st.reverse
 rw [Ve] at this
 exact this
theorem Zln {α:Type}{l:List α}{n i:Nat}{x:α}(hl:l.length=n)(hi:i < n)(hx:l[n - 1 - i]?=some x):(l.drop (n - (i+1))).reverse=(l.drop (n - i)).reverse++[x]:=by
 have hk:n - 1 - i < l.length:=by omega
 have e:l.drop (n - (i+1))=x::l.drop (n - i):=by
  have h1:n - (i+1)=n - 1 - i:=by omega
  rw [h1,Rs hk,show n - 1 - i+1=n - i by omega]
  rw [Pn hk] at hx
  rw [P8 hx]
 rw [e,List.reverse_cons]
mutual
theorem Oc:∀(pl:List Nat)(t:Tr),walk pl t=(walk [] t).map fun x=>(pl++x.1,x.2)
 | pl,.mk w n ps=>by
  have e:=Zfd pl [] 0 ps
  rw [Qx] at e
  rw [walk,walk,Rv,e]
  simp
theorem Zfd:∀(pl q:List Nat)(i:Nat)(ts:List Tr),Bv (pl++q) i ts=(Bv q i ts).map fun x=>(pl++x.1,x.2)
 | _,_,_,[]=>by rw [Bv,Bv];rfl
 | pl,q,i,t::r=>by
  rw [Bv,Bv,Rn,<- Zfd pl q (i+1) r,Oc (pl++q++[i]) t,Oc (q++[i]) t]
  simp
end
end L2
namespace L2
open PySem PySem.Spec PyProof.Rows
section
open PySem.AutoSeq1
theorem Zp7 (l:Addr)(items:Array Value)(n:Nat)(b:Addr)(items2:Array Value)(n2:Nat)(od:Option Addr)(sl:Array (Option Value))(hs0:¬(!items.isEmpty && Th (items.size+items2.size))=true)(hs1:items.size<=sizeLine)(hs2:items.size+items2.size<=sizeLine+1) :
  Meets (Builtin.«list.extend» ⟨[.ref l,.ref b],[]⟩) (fun _ R s=>s.heap.get? l=some { cls:=.type "list",dict:=none,data:=.seq items n,slots:=#[] }/\s.heap.get? b=some { cls:=.type "tuple",dict:=od,data:=.seq items2 n2,slots:=sl }/\R (.ok (.ret Value.none)) { s with heap:=s.heap.update l (Qu fun x=>x++items2),toks:=s.toks }) :=
 .of_wp fun prog w A R s h=>by
  obtain ⟨hp,g,d,tk,os⟩:=s;obtain ⟨hl,hb,h⟩:=h;have f1:=AutoSeq1.idx_int;have f2:=AutoSeq1.sub_tuple_tuple;have f3:=AutoSeq1.sub_list_list;have f4:=AutoSeq1.sub_tuple_list;have f5:=AutoSeq1.sub_list_tuple;
  have hz':(items++items2).size<=sizeLine+1:=by rw [Array.size_append];exact hs2
  wp_walk using (Ui hl rfl (hz:=hs1) (_hz':=hz')),AutoSeq1.wpAny_loadPart' hl,AutoSeq1.wpAny_loadPart' hb;exact ⟨_,rfl,h⟩
end
noncomputable def Zhp (K:Pk):V->List V->Hp->VK->Prop:=fun x vs H Q=>∃ l b xs zs,x=.ref l/\vs=[.ref b]/\H l=some (.lst xs)/\SqT K H b zs/\xs.length+zs.length<=sizeLine/\Q .non (upd H l (.lst (xs++zs)))
section
variable {X:Cx}
theorem Zlx:MtM X "list.extend" (Zhp X.K):=by
 intro pins s σ H x vs v us Q I rx rv h
 obtain ⟨l,b,xs,zs,rfl,rfl,hH,hB,hz,q⟩:=h
 cases rx
 obtain ⟨u,rfl,ru⟩:=rv.one
 cases ru
 obtain ⟨z,its,n,r,hl,e⟩:=I.lstM hH
 obtain ⟨its2,r2,⟨o2,e2,hc2,n2,hd2⟩,hz2⟩:=I.tuple hB
 obtain ⟨oc,od,odata,sl⟩:=o2
 simp only at hc2 hd2
 subst hc2 hd2
 have hl2:=r2.length
 have hsz:its.toArray.size+its2.toArray.size<=sizeLine:=by rw [Pq,Pq];omega
 have hlong:¬ (!its.toArray.isEmpty && Th (its.toArray.size+its2.toArray.size))=true:=by
  rw [Zat hsz,Bool.and_false]
  exact P6
 refine Tc F.slot_list_extend ⟨_,e,rfl⟩ F.entry_list_extend (F.args_list_extend_2 _ _)
  (Zp7 l its.toArray n b its2.toArray n2 od sl hlong (by rw [Pq];omega) (by omega)) ⟨e,e2,?_⟩
 refine ⟨.non,_,I.lset (its':=its++its2) hH e (by simp) (r.append r2) ?_,rfl,q⟩
 rw [Px]
 omega
noncomputable def rIsB:R2:=fun x y H Q=>∃ b,y=.bl b/\Q (.bl (decide (x=.bl b))) H
theorem Zkx:OpR X (compareOp .Is) rIsB:=by
 intro pins s σ H x y v u Q I rx ry h
 obtain ⟨b,rfl,q⟩:=h
 cases ry
 refine wpAny_is_plain ?_ (Br I q ?_)
 ·cases x <;> first | (cases rx;rfl) | (obtain ⟨t,rfl⟩:=rx;rfl)
 ·cases x <;> first
   | (cases rx;rfl)
   | (obtain ⟨t,rfl⟩:=rx;rfl)
   | (rename_i c;cases rx;cases c <;> cases b <;> rfl)
end
section
variable {X:Cx}(P:Program)(w:World)(K:Pk)
theorem Zjl (hK:X.K=K:=by rfl):MtM X "list.extend" (Zhp K):=by subst hK;exact Zlx
end
theorem s_chain {r r':R2}{ta tb tc:TE}{σ:St}{H:Hp}{Q:VK}(h:ta σ H fun x H1=>tb σ H1 fun y H2=>r x y H2 fun z H3=>∃ k,z=.bl k/\(if k=true then tc σ H3 fun w' H4=>r' y w' H4 Q else Q (.bl false) H3)):Zbc r r' ta tb tc σ H Q:=h
theorem Zjr:typeLookup (.type "list_reverseiterator") "__len__" = pure none:=by rw [Su,Sk];kernel_rfl
theorem Zse:typeLookup (.type "list_reverseiterator") "__length_hint__" = pure (some (.builtin "list_reverseiterator.__length_hint__")):=by rw [Su,Sk];kernel_rfl
theorem Zj4 {prog:Program}{w:World}{A:Around}{E:Value->Shared->Prop}{s:Shared}{it:Addr}{Q:Bool->Shared->Prop}(hT:s.TypeIs (.ref it) "list_reverseiterator")(h:Q false s):wpAny (model prog w) A (T3 (.ref it)) Q E s:=by
 unfold T3
 refine Pl (Uh hT Zjr ?_)
 show wpAny _ _ (specialOf (Value.ref it) (Q5 "__length_hint__") >>= _) _ _ _
 refine Pl (Uh hT Zse ?_)
 (generalize hid:("list_reverseiterator.__length_hint__" : String)=id0;(fail_if_success (clear hid id0));wp_delta;rw [show splitId id0=some ("list_reverseiterator", "__length_hint__") from by subst hid;decide +kernel];subst hid)
 refine Pl (Uf (b:=true) hT (by rw [isSubtype_type];kernel_rfl) ?_)
 exact Pm h
noncomputable def JRev (H0:Hp)(it a:Addr)(xs:List V):Nat->List V->Hp->Heap->Prop:=fun i ys H h =>
 i<=xs.length/\h.IsRevIter it a ((xs.length:Int) - 1 - (i:Int))/\H it=none/\ys=xs.reverse.take i/\Same H0 H
theorem Zry {X:Cx}{pins:List (Addr×Obj)}{σ:St}{H0:Hp}{it a:Addr}{xs:List V}(fi:FpOk X pins H0 it)(hq:SqL X.K H0 a xs):Src X pins σ it "list_reverseiterator" xs.length H0 (JRev H0 it a xs) where
 ty:=fun i ys H h j=>by
  obtain ⟨o,e,c,_⟩:=j.2.1
  exact ⟨o,e,c⟩
 nl:=by decide
 hint:=⟨_,fun A s Q E hT h=>Zj4 hT h⟩
 self:=fun A s ys H Q E j q=>Wi j.2.1 q
 keep:=fun i ys H h h' S zs zs' h0 hS j k al=>by
  obtain ⟨j1,j2,j3,j4,j5⟩:=j
  have ne1:it≠S:=fun z=>by rw [z,hS] at j3;cases j3
  exact ⟨j1,j2.at fun o e=>k it o ne1 e,by rw [Ag ne1];exact j3,j4,j5.over h0⟩
 fresh:=fun i ys H h j=>j.2.2.1
 item:=fun A i s H ys E hh hi I j=>by
  obtain ⟨j1,j2,j3,j4,j5⟩:=j
  have hqH:=j5.seq hq
  obtain ⟨its,rv,p,hz⟩:=I.list hqH
  have hx:xs[xs.length - 1 - i]?=some (xs[xs.length - 1 - i]'(by omega)):=Pn (by omega)
  obtain ⟨u,hu,ru⟩:=rv.get hx
  obtain ⟨f0,f1,f2,f3,f4,f5⟩:=fi.of j3
  have e:(xs.length:Int) - 1 - (i:Int)=((xs.length - 1 - i:Nat):Int):=by omega
  have hit:=j2
  rw [e] at hit
  refine wpAny_pyNext_rev_item hit p.isList (x:=u) (by simpa using hu) fun h' st' sb=>?_
  have I1:Inv X pins σ H { s with heap:=h' }:=I.turned (t':=s.toks) (fun b o hb e=>(sb.2 b hb).trans e) f0 f1 f3 f4 f5
  have e2:((xs.length - 1 - i:Nat):Int) - 1=(xs.length:Int) - 1 - ((i+1:Nat):Int):=by omega
  rw [e2] at st'
  refine ⟨u,_,H,rfl,ru,I1,⟨hi,st',j3,?_,j5⟩,fun S zs e=>e⟩
  rw [j4,R9]
  congr 1
  rw [List.getElem?_reverse (by simpa using hi),hx]
  rfl
 done:=fun A s H ys E hh I j=>by
  obtain ⟨j1,j2,j3,j4,j5⟩:=j
  obtain ⟨f0,f1,f2,f3,f4,f5⟩:=fi.of j3
  have e:(xs.length:Int) - 1 - (xs.length:Int)=-1:=by omega
  have hit:=j2
  rw [e] at hit
  exact wpAny_pyNext_rev_end hh hit fun h' eb=>⟨rfl,I.turned (t':=s.toks) (fun b o hb e=>eb b o hb e) f0 f1 f3 f4 f5⟩
section
variable {X:Cx}
noncomputable def Za3 (K:Pk)(ta:TA):TE:=fun σ H Q=>ta σ H fun vs H1=>∃ a xs,vs=[.ref a]/\SqL K H1 a xs /\
 ∀(S:Addr)(H2:Hp),H1 S=none->Same H1 H2->H2 S=some (.lst xs.reverse)->Q (.ref S) H2
theorem Zqh {e:Expr}{ta:TA}{p p2 pos pos2:Pos}(hg:Gl X "list")(hm:X.mg "list" = none)(hg2:Gl X "reversed")(hm2:X.mg "reversed" = none)(ha:QA X [e] ta)(hc:X.calm=true:=by rfl)
  (hs:starEach [.Call (.Name "reversed" p2) [e] [] pos2] X.env=[(false,eval (.Call (.Name "reversed" p2) [e] [] pos2) X.env)]:=by rfl) (hs2:starEach [e] X.env=[(false,eval e X.env)]:=by rfl) :
  QE X (.Call (.Name "list" p) [.Call (.Name "reversed" p2) [e] [] pos2] [] pos) (Za3 X.K ta):=by
 refine ⟨fun pins s σ H Q I h=>?_⟩
 refine Call_ (Dp I hg hm Ou (Q6 ?_ hs rfl))
 rw [hs]
 show wpAny _ _ (spliced ((false,eval (.Call (.Name "reversed" p2) [e] [] pos2) X.env)::[])) _ _ s
 refine So ?_
 refine Call_ (Dp I hg2 hm2 Zdo (Q6 (Aj (ha.run pos2 pins s σ H _ I h) fun us s1 zq=>?_) hs2 rfl))
 obtain ⟨vs,H1,I1,r1,q1⟩:=zq
 obtain ⟨a,xs,e1,hq,q⟩:=q1
 subst e1
 cases r1 with
 | cons r rr =>
  cases rr
  cases r
  obtain ⟨its,rv,pl,hz⟩:=I1.list hq
  have hl:=rv.length
  refine call_reversed_list pl.isList ?_
  refine Tq ?_
  have st0:(s1.heap.push (V2 a (((its.toArray).size:Int) - 1))).IsRevIter s1.heap.objs.size a ((xs.length:Int) - 1 - ((0:Nat):Int)):=by
   refine ⟨_,P5 _ rfl,rfl,?_⟩
   have e:((its.toArray).size:Int) - 1=(xs.length:Int) - 1 - ((0:Nat):Int):=by simp [hl]
   rw [<- e]
   rfl
  have I2:Inv X pins σ H1 { s1 with heap:=s1.heap.push (V2 a (((its.toArray).size:Int) - 1)) }:=I1.kept (t':=s1.toks) fun b o e=>Pp _ e
  have fi:=I1.fpOk (b:=s1.heap.objs.size) (Po _) (I1.hok.fresh (Po _))
  have C:=Zry (X:=X) (pins:=pins) (σ:=σ) (H0:=H1) (it:=s1.heap.objs.size) (a:=a) (xs:=xs) fi hq
  refine Nv C (by omega) (I1.ok.hd hc) I2 ⟨Qd _,st0,fi.1,rfl,Same.refl _⟩ (fun S hge hS h2 k2=>?_) fun S H' ys hS hS' hl' hj=>?_
  ·refine ⟨Qd _,st0.at fun o e=>k2 _ _ e,?_,rfl,Same.upd hS⟩
   rw [Ag (show s1.heap.objs.size≠S from fun z=>?_)]
   ·exact fi.1
   ·have hge:(s1.heap.push (V2 a (((its.toArray).size:Int) - 1))).objs.size<=S:=hge
    rw [Q4] at hge
    omega
  ·obtain ⟨h,j⟩:=hj
   obtain ⟨_,_,_,j4,j5⟩:=j
   rw [Sj (by simp)] at j4
   subst j4
   exact q S H' hS j5 hS'
theorem Zow (K:Pk){e:Expr}{ta:TA}{p p2 pos pos2:Pos}(hg:Gl X "list")(hm:X.mg "list" = none)(hg2:Gl X "reversed")(hm2:X.mg "reversed" = none)(ha:QA X [e] ta)(hK:X.K=K:=by rfl)(hc:X.calm=true:=by rfl)
  (hs:starEach [.Call (.Name "reversed" p2) [e] [] pos2] X.env=[(false,eval (.Call (.Name "reversed" p2) [e] [] pos2) X.env)]:=by rfl) (hs2:starEach [e] X.env=[(false,eval e X.env)]:=by rfl) :
  QE X (.Call (.Name "list" p) [.Call (.Name "reversed" p2) [e] [] pos2] [] pos) (Za3 K ta):=by subst hK;exact Zqh hg hm hg2 hm2 ha hc hs hs2
theorem s_listrev {K:Pk}{ta:TA}{σ:St}{H:Hp}{Q:VK}(h:ta σ H fun vs H1=>∃ a xs,vs=[.ref a]/\SqL K H1 a xs/\∀(S:Addr)(H2:Hp),H1 S=none->Same H1 H2->H2 S=some (.lst xs.reverse)->Q (.ref S) H2):Za3 K ta σ H Q:=h
theorem Zmn {l b:Addr}{xs zs:List V}{H:Hp}{Q:VK}(e:H l=some (.lst xs))(e2:H b=some (.lst zs))(hz:xs.length+zs.length<=sizeLine)(h:Q .non (upd H l (.lst (xs++zs)))):Zgl (.ref l) [.ref b] H Q:=⟨l,b,xs,zs,rfl,rfl,e,e2,hz,h⟩
theorem Zar:∀{ns:List Int}{us:List Value},Vals (ns.map V.int) us->∃ xs:List (Int×Tok),us=xs.map (fun p=>Value.int p.1 p.2)/\xs.map (·.1)=ns
 | [],_,.nil=>⟨[],rfl,rfl⟩
 | n::ns,_,.cons r t=>by
  obtain ⟨u,rfl⟩:=r
  obtain ⟨xs,e1,e2⟩:=Zar t
  exact ⟨(n,u)::xs,by rw [e1];rfl,by simp [e2]⟩
end
structure ZA (z TI TO i1 i2:Addr)(fp1 fp2:List Addr):Prop where
 TIz:TI≠z
 TOz:TO≠z
 TITO:TI≠TO
 z1:z ∉ fp1
 z2:z ∉ fp2
 TI1:TI≠i1
 TI2:TI≠i2
 TO1:TO ∉ fp1
 TO2:TO ∉ fp2
 m1:i1∈fp1
 m2:i2∈fp2
 n1:i1 ∉ fp2
 n2:i2 ∉ fp1
theorem ZA.i1z {z TI TO i1 i2:Addr}{fp1 fp2:List Addr}(D:ZA z TI TO i1 i2 fp1 fp2):i1≠z:=fun e=>D.z1 (e ▸ D.m1)
theorem ZA.i2z {z TI TO i1 i2:Addr}{fp1 fp2:List Addr}(D:ZA z TI TO i1 i2 fp1 fp2):i2≠z:=fun e=>D.z2 (e ▸ D.m2)
theorem ZA.TOi1 {z TI TO i1 i2:Addr}{fp1 fp2:List Addr}(D:ZA z TI TO i1 i2 fp1 fp2):TO≠i1:=fun e=>D.TO1 (e ▸ D.m1)
theorem ZA.TOi2 {z TI TO i1 i2:Addr}{fp1 fp2:List Addr}(D:ZA z TI TO i1 i2 fp1 fp2):TO≠i2:=fun e=>D.TO2 (e ▸ D.m2)
theorem Ce {prog:Program}{w:World}{A:Around}{it c:Addr}{fp:List Addr}{n i:Nat}{P:Nat->Value->Prop}{St:Nat->Heap->Prop}(D:Draws prog w A it fp n P St){h h':Heap}(st:St i h)(e:P9 c h h')(hc:c ∉ fp):St i h' :=
 D.frame i h h' st fun b hb o eo=>e.extBut b o (fun z=>hc (z ▸ hb)) eo
section
variable {prog:Program}{w:World}{A:Around}{E:Value->Shared->Prop}{s:Shared}{z TI TO i1 i2:Addr}{fp1 fp2:List Addr}{n1 n2 i:Nat}{P1 P2:Nat->Value->Prop}{St1 St2:Nat->Heap->Prop}{a b:Value}
theorem Zlv {Q:Value->Shared->Prop}(D1:Draws prog w A i1 fp1 n1 P1 St1)(D2:Draws prog w A i2 fp2 n2 P2 St2)(D:ZA z TI TO i1 i2 fp1 fp2)(hz:IsZip s.heap z TI TO .none)(hTI:IsPair s.heap TI (.ref i1) (.ref i2))(hTO:IsPair s.heap TO a b)
  (st1:St1 i s.heap) (st2:St2 i s.heap) (l1:i < n1) (l2:i < n2)
  (hQ:∀ x y h' tk,P1 i x->P2 i y->IsZip h' z TI TO (rawInt s.heap.objs.size)->IsPair h' TO x y->St1 (i+1) h'->St2 (i+1) h'->IsPair h' s.heap.objs.size x y->h'.objs.size=s.heap.objs.size+1 ->
   (∀ c o,c≠z->c≠TO->c≠i1->c≠i2->s.heap.get? c=some o->h'.get? c=some o)->Q (.ref s.heap.objs.size) { s with heap:=h',toks:=tk }) :
  wpAny (model prog w) A (Builtin.«zip.__next__» ⟨[.ref z],[]⟩) (fun fin s'=>∃ v,fin=.done (.ret v)/\Q v s') E s:=by
 show wpAny _ _ (field (.ref z) 2 >>= _) _ _ s
 refine Pl (P4 hz rfl (x:=Value.bool false) rfl ?_)
 show wpAny _ _ (field (.ref z) 3 >>= _) _ _ s
 refine Pl (P4 hz rfl (x:=Value.ref TI) rfl (Pl (Rp hTI rfl ?_)))
 show wpAny _ _ (Rq (.ref z) >>= _) _ _ s
 refine Pl ?_
 unfold Rq
 refine Pl (P4 hz rfl (x:=Value.none) rfl (Pm ?_))
 simp only [if_true]
 refine Pl (Se (Pl (P4 hz rfl (x:=Value.ref TO) rfl ?_)))
 refine Pl (Ru hz (by simp) fun h₁ hz₁ e1=>?_)
 replace hz₁:IsZip h₁ z TI TO Value.ellipsis:=hz₁
 refine Pl ?_
 simp only [List.zipIdx_cons,List.zipIdx_nil,Tv,Ul]
 refine Pl (Pl (Vz ?_))
 show wpAny _ _ (Q8 (.ref i1) >>= _) _ _ _
 refine Pl (D1.item i _ _ _ l1 (Ce D1 st1 e1 D.z1) fun x h₂ tk₂ px s12 e2=>Pm ?_)
 replace e2:P9 i1 h₁ h₂:=e2
 have p2:IsPair h₂ TO a b:=e2.extBut _ _ D.TOi1 (e1.extBut _ _ D.TOz hTO)
 refine Pl (Rp p2 rfl (Pl (Wj p2 fun h₃ p3 e3=>?_)))
 replace p3:IsPair h₃ TO x b:=p3
 replace e3:P9 TO h₂ h₃:=e3
 refine Pl (Wa (Pm (Pl (Pl (Vz ?_)))))
 show wpAny _ _ (Q8 (.ref i2) >>= _) _ _ _
 have s22:St2 i h₃:=Ce D2 (Ce D2 (Ce D2 st2 e1 D.z2) e2 D.n1) e3 D.TO2
 refine Pl (D2.item i _ _ _ l2 s22 fun y h₄ tk₄ py s24 e4=>Pm ?_)
 replace e4:P9 i2 h₃ h₄:=e4
 have p4:IsPair h₄ TO x b:=e4.extBut _ _ D.TOi2 p3
 refine Pl (Rp p4 rfl (Pl (Wj p4 fun h₅ p5 e5=>?_)))
 replace p5:IsPair h₅ TO x y:=p5
 replace e5:P9 TO h₄ h₅:=e5
 refine Pl (Wa (Pm (Pm (Pl (Rp p5 rfl (Pl (wpAny_newTuple ?_)))))))
 have sz:h₅.objs.size=s.heap.objs.size:=by rw [e5.1,e4.1,e3.1,e2.1,e1.1]
 have z5:IsZip h₅ z TI TO Value.ellipsis:=e5.extBut _ _ D.TOz.symm (e4.extBut _ _ D.i2z.symm (e3.extBut _ _ D.TOz.symm (e2.extBut _ _ D.i1z.symm hz₁)))
 have k5:∀ c o,c≠z->c≠TO->c≠i1->c≠i2->s.heap.get? c=some o->h₅.get? c=some o:=fun c o c1 c2 c3 c4 e=>e5.extBut _ _ c2 (e4.extBut _ _ c4 (e3.extBut _ _ c2 (e2.extBut _ _ c3 (e1.extBut _ _ c1 e))))
 have t1:St1 (i+1) h₅:=Ce D1 (Ce D1 (Ce D1 s12 e3 D.TO1) e4 D.n2) e5 D.TO1
 have t2:St2 (i+1) h₅:=Ce D2 s24 e5 D.TO2
 have zlt:z < h₅.objs.size:=Pr z5
 show wpAny _ _ (W8 (.ref z) (.ref h₅.objs.size) >>= _) _ _ _
 refine Pl ?_
 unfold W8
 have z6:IsZip (h₅.push { cls:=.type "tuple",data:=.seq #[x,y] }) z TI TO Value.ellipsis:=Pp _ z5
 refine Pl (Ru z6 (by simp) fun h₇ z7 e7=>?_)
 replace z7:IsZip h₇ z TI TO (rawInt h₅.objs.size):=z7
 refine Ru z7 (by simp) fun h₈ z8 e8=>?_
 replace z8:IsZip h₈ z TI TO (rawInt h₅.objs.size):=z8
 have up:∀ c o,c≠z->h₅.get? c=some o->h₈.get? c=some o:=fun c o c1 e=>e8.extBut _ _ c1 (e7.extBut _ _ c1 (Pp _ e))
 have t8:IsPair h₈ h₅.objs.size x y:=e8.extBut _ _ (Qy zlt) (e7.extBut _ _ (Qy zlt) (P5 _ rfl))
 have sz8:h₈.objs.size=h₅.objs.size+1:=by rw [e8.1,e7.1,Q4]
 rw [sz] at z8 t8 sz8
 refine Pm ⟨_,rfl,?_⟩
 show Q (.ref h₅.objs.size) _
 rw [sz]
 exact hQ x y h₈ tk₄ px py z8 (up _ _ D.TOz p5) (D1.frame _ _ _ t1 fun c hc o e=>up c o (fun q=>D.z1 (q ▸ hc)) e) (D2.frame _ _ _ t2 fun c hc o e=>up c o (fun q=>D.z2 (q ▸ hc)) e) t8 sz8 fun c o c1 c2 c3 c4 e=>up c o c1 (k5 c o c1 c2 c3 c4 e)
theorem Zmw {Q:Fin->Shared->Prop}(D1:Draws prog w A i1 fp1 n1 P1 St1)(D2:Draws prog w A i2 fp2 n2 P2 St2)(D:ZA z TI TO i1 i2 fp1 fp2)(hz:IsZip s.heap z TI TO .none)(hTI:IsPair s.heap TI (.ref i1) (.ref i2))(hTO:IsPair s.heap TO a b)
  (st1:St1 i s.heap) (st2:St2 i s.heap) (hend:i=n1\/(i < n1/\i=n2))
  (hE:∀ h' e tk,(∀ c o,c≠z->c≠TO->c≠i1->c≠i2->s.heap.get? c=some o->h'.get? c=some o)->(∃ o,h'.get? e=some o/\o.cls=.type "StopIteration")->E (.ref e) { s with heap:=h',toks:=tk }) :
  wpAny (model prog w) A (Builtin.«zip.__next__» ⟨[.ref z],[]⟩) Q E s:=by
 show wpAny _ _ (field (.ref z) 2 >>= _) _ _ s
 refine Pl (P4 hz rfl (x:=Value.bool false) rfl ?_)
 show wpAny _ _ (field (.ref z) 3 >>= _) _ _ s
 refine Pl (P4 hz rfl (x:=Value.ref TI) rfl (Pl (Rp hTI rfl ?_)))
 show wpAny _ _ (Rq (.ref z) >>= _) _ _ s
 refine Pl ?_
 unfold Rq
 refine Pl (P4 hz rfl (x:=Value.none) rfl (Pm ?_))
 simp only [if_true]
 refine Pl (Se (Pl (P4 hz rfl (x:=Value.ref TO) rfl ?_)))
 refine Pl (Ru hz (by simp) fun h₁ hz₁ e1=>?_)
 replace hz₁:IsZip h₁ z TI TO Value.ellipsis:=hz₁
 refine Pl ?_
 simp only [List.zipIdx_cons,List.zipIdx_nil,Tv,Ul]
 refine Pl (Pl (Vz ?_))
 show wpAny _ _ (Q8 (.ref i1) >>= _) _ _ _
 rcases hend with rfl | ⟨l1,rfl⟩
 ·refine Pl (D1.done _ _ _ (Ce D1 st1 e1 D.z1) fun h₂ e e2 he=>?_)
  obtain ⟨oe,hoe,hce⟩:=he
  replace e2:Tb i1 h₁ h₂:=e2
  have z2:IsZip h₂ z TI TO Value.ellipsis:=e2 _ _ D.i1z.symm hz₁
  have hez:e≠z:=fun x=>by subst x;rw [z2] at hoe;cases hoe;simp at hce
  refine Ru z2 (by simp) fun h₃ _ e3=>hE h₃ e s.toks (fun c o c1 _ c3 _ x=>e3.extBut _ _ c1 (e2 _ _ c3 (e1.extBut _ _ c1 x))) ⟨oe,e3.extBut _ _ hez hoe,hce⟩
 ·refine Pl (D1.item i _ _ _ l1 (Ce D1 st1 e1 D.z1) fun x h₂ tk₂ px s12 e2=>Pm ?_)
  replace e2:P9 i1 h₁ h₂:=e2
  have p2:IsPair h₂ TO a b:=e2.extBut _ _ D.TOi1 (e1.extBut _ _ D.TOz hTO)
  refine Pl (Rp p2 rfl (Pl (Wj p2 fun h₃ p3 e3=>?_)))
  replace e3:P9 TO h₂ h₃:=e3
  refine Pl (Wa (Pm (Pl (Pl (Vz ?_)))))
  show wpAny _ _ (Q8 (.ref i2) >>= _) _ _ _
  have s22:St2 i h₃:=Ce D2 (Ce D2 (Ce D2 st2 e1 D.z2) e2 D.n1) e3 D.TO2
  refine Pl (D2.done _ _ _ s22 fun h₄ e e4 he=>?_)
  obtain ⟨oe,hoe,hce⟩:=he
  replace e4:Tb i2 h₃ h₄:=e4
  have z4:IsZip h₄ z TI TO Value.ellipsis:=e4 _ _ D.i2z.symm (e3.extBut _ _ D.TOz.symm (e2.extBut _ _ D.i1z.symm hz₁))
  have hez:e≠z:=fun x=>by subst x;rw [z4] at hoe;cases hoe;simp at hce
  refine Ru z4 (by simp) fun h₅ _ e5=>hE h₅ e tk₂ (fun c o c1 c2 c3 c4 x=>e5.extBut _ _ c1 (e4 _ _ c4 (e3.extBut _ _ c2 (e2.extBut _ _ c3 (e1.extBut _ _ c1 x))))) ⟨oe,e5.extBut _ _ hez hoe,hce⟩
theorem Zgb {Q:Option Value->Shared->Prop}(D1:Draws prog w A.in1 i1 fp1 n1 P1 St1)(D2:Draws prog w A.in1 i2 fp2 n2 P2 St2)(D:ZA z TI TO i1 i2 fp1 fp2)(hz:IsZip s.heap z TI TO .none)(hTI:IsPair s.heap TI (.ref i1) (.ref i2))(hTO:IsPair s.heap TO a b)
  (st1:St1 i s.heap) (st2:St2 i s.heap) (l1:i < n1) (l2:i < n2)
  (hQ:∀ x y h' tk,P1 i x->P2 i y->IsZip h' z TI TO (rawInt s.heap.objs.size)->IsPair h' TO x y->St1 (i+1) h'->St2 (i+1) h'->IsPair h' s.heap.objs.size x y->h'.objs.size=s.heap.objs.size+1 ->
   (∀ c o,c≠z->c≠TO->c≠i1->c≠i2->s.heap.get? c=some o->h'.get? c=some o)->Q (some (.ref s.heap.objs.size)) { s with heap:=h',toks:=tk }) :
  wpAny (model prog w) A (pyNext (.ref z)) Q E s:=by
 have hT:s.TypeIs (.ref z) "zip" := ⟨_,hz,rfl⟩
 unfold pyNext
 exact Pl (Rx (Ri (name:=Q5 "__next__") hT R8
  (Rm R8 hT U6 (Zlv D1 D2 D hz hTI hTO st1 st2 l1 l2 fun x y h' tk a1 a2 a3 a4 a5 a6 a7 a8 a9=>Pm (hQ x y h' tk a1 a2 a3 a4 a5 a6 a7 a8 a9)) (U2 _))))
theorem Zd7 {Q:Option Value->Shared->Prop}(D1:Draws prog w A.in1 i1 fp1 n1 P1 St1)(D2:Draws prog w A.in1 i2 fp2 n2 P2 St2)(D:ZA z TI TO i1 i2 fp1 fp2)(hz:IsZip s.heap z TI TO .none)(hTI:IsPair s.heap TI (.ref i1) (.ref i2))(hTO:IsPair s.heap TO a b)
  (st1:St1 i s.heap) (st2:St2 i s.heap) (hend:i=n1\/(i < n1/\i=n2))
  (hQ:∀ h' tk,(∀ c o,c≠z->c≠TO->c≠i1->c≠i2->s.heap.get? c=some o->h'.get? c=some o)->Q none { s with heap:=h',toks:=tk }):wpAny (model prog w) A (pyNext (.ref z)) Q E s:=by
 have hT:s.TypeIs (.ref z) "zip" := ⟨_,hz,rfl⟩
 unfold pyNext
 refine Pl (Rx (Ri (name:=Q5 "__next__") hT R8
  (Rm R8 hT U6 (Zmw D1 D2 D hz hTI hTO st1 st2 hend fun h' e tk hk he=>?_) (U2 _))))
 obtain ⟨o,ho,hc⟩:=he
 exact Pl (Uf (T := "StopIteration") (b:=true) ⟨o,ho,hc⟩ Vu (Pm (hQ _ _ hk)))
end
section
variable {prog:Program}{w:World}{A:Around}{E:Value->Shared->Prop}{s:Shared}
end
section
variable {X:Cx}{pins:List (Addr×Obj)}{σ:St}{H:Hp}{s:Shared}{h':Heap}
theorem Inv.turnedL {t':Nat}{fp:List Addr}(I:Inv X pins σ H s)(k:∀ b o,b ∉ fp->s.heap.get? b=some o->h'.get? b=some o)(f:∀ b∈fp,FpOk X pins H b):Inv X pins σ H { s with heap:=h',toks:=t' }:=by
 have nit:∀ b u,H b=some u->b ∉ fp:=fun b u e hb=>by rw [(f b hb).1] at e;exact nomatch e
 refine I.step (g':=s.gens) (d':=s.drawn) (ch:=fp) (fun b hb=>?_) (fun b o _ _ hc e _=>k b o hc e) (fun b o _ _ hc e _=>⟨o.slots,k b o hc e⟩) (fun _ _ _ _ n=>n)
  (fun b o hc e=>⟨o,k b o hc e⟩) (fun _ _ e=>e) (fun _ _ _ e=>e) (fun b ps e=>⟨#[],by rw [e];simp⟩) (fun m hm=>?_) (fun b u e=>?_) I.bare
 ·obtain ⟨n1,l1,_,e1,c1,p1⟩:=f b hb
  exact ⟨e1,l1,c1,p1⟩
 ·obtain ⟨o,es,ep,ho,r⟩:=hm
  exact ⟨o,es,ep,k _ o (fun hb=>(f _ hb).2.1 rfl) ho,r⟩
 ·refine (I.hok b u e).stay (fun c v hc q=>k c v ?_ q) (fun _ q=>q) fun _ _ q=>q
  rcases hc with z | z
  ·rw [z];exact nit b u e
  ·exact nit c _ z
theorem Inv.pairL {tk:Nat}{fp:List Addr}{T:Addr}{xs:List V}{its:List Value}(I:Inv X pins σ H s)(f:∀ b∈fp,FpOk X pins H b)
  (kk:∀ b o,b ∉ fp->s.heap.get? b=some o->h'.get? b=some o) (hT:s.heap.objs.size<=T) (rv:Vals xs its) (hz:xs.length<=sizeLine) (ht:h'.IsTuple T its.toArray):Inv X pins σ (upd H T (.tup xs)) { s with heap:=h',toks:=tk }:=by
 have hf:H T=none:=I.hok.fresh hT
 have I1:Inv X pins σ H { s with heap:=h',toks:=tk }:=I.turnedL kk f
 have hokN:HOk X.prog X.w (upd H T (.tup xs)) h':=fun b o e=>by
  by_cases hb:b=T
  ·subst hb
   rw [Ad] at e
   cases e
   exact ⟨hz,its,rv,ht⟩
  ·rw [Ag hb] at e
   refine (I1.hok b o e).stay (fun c v _ q=>q) (fun c q=>?_) fun c zs q=>?_
   ·rw [Ag (A5 q hf)];exact q
   ·rw [Ag (A5 q hf)];exact q
 have u:Un (Bp X.stack) fp H (upd H T (.tup xs)) s.heap h':={
  keep:=fun b o e n _ hx=>kk b o hx e
  slot:=fun b o e n _ hx=>⟨o.slots,kk b o hx e⟩
  free:=fun b o e n _=>by rw [Ag (P0 (P7 (Pr e) hT))];exact n
  there:=fun b o e hx=>⟨o,kk b o hx e⟩
  tups:=fun b zs e=>by rw [Ag (A5 e hf)];exact e
  frzs:=fun b o u e=>by rw [Ag (A5 e hf)];exact e
  tbls:=fun b ps e=>⟨#[],by rw [Ag (A5 e hf),e];simp⟩ }
 refine I.call (g':=s.gens) (d':=s.drawn) (t':=tk) u hokN I.bare fun b hb=>?_
 obtain ⟨n1,l1,_,e1,c1,p1⟩:=f b hb
 exact ⟨e1,l1,c1,p1⟩
end
structure ZB (z TI TO i1 i2 a b:Addr):Prop where
 TIz:TI≠z
 TOz:TO≠z
 TITO:TI≠TO
 i1z:i1≠z
 i2z:i2≠z
 TI1:TI≠i1
 TI2:TI≠i2
 TO1:TO≠i1
 TO2:TO≠i2
 i12:i1≠i2
 az:a≠z
 aTO:a≠TO
 a1:a≠i1
 a2:a≠i2
 bz:b≠z
 bTO:b≠TO
 b1:b≠i1
 b2:b≠i2
theorem ZB.za {z TI TO i1 i2 a b:Addr}(D:ZB z TI TO i1 i2 a b):ZA z TI TO i1 i2 [i1,a] [i2,b] where
 TIz:=D.TIz
 TOz:=D.TOz
 TITO:=D.TITO
 z1:=by simp [D.i1z.symm,D.az.symm]
 z2:=by simp [D.i2z.symm,D.bz.symm]
 TI1:=D.TI1
 TI2:=D.TI2
 TO1:=by simp [D.TO1,D.aTO.symm]
 TO2:=by simp [D.TO2,D.bTO.symm]
 m1:=by simp
 m2:=by simp
 n1:=by simp [D.i12,D.b1.symm]
 n2:=by simp [D.i12.symm,D.a2.symm]
theorem Ze9 {n a b:Nat}(h1:a < n)(h2:b < n):ZB (n+4) (n+2) (n+3) n (n+1) a b:=by
 have f:∀ i j:Nat,i≠j->n+i≠n+j:=fun i j h e=>h (Nat.add_left_cancel e)
 have g:∀ i:Nat,a≠n+i:=fun i e=>absurd h1 (by rw [e];exact Nat.not_lt.mpr (Ts _ _))
 have g':∀ i:Nat,b≠n+i:=fun i e=>absurd h2 (by rw [e];exact Nat.not_lt.mpr (Ts _ _))
 exact ⟨f 2 4 (by decide),f 3 4 (by decide),f 2 3 (by decide),f 0 4 (by decide),f 1 4 (by decide),f 2 0 (by decide),f 2 1 (by decide),f 3 0 (by decide),f 3 1 (by decide),f 0 1 (by decide),g 4,g 3,g 0,g 1,g' 4,g' 3,g' 0,g' 1⟩
section
variable {X:Cx}
end
theorem Zkd {prog:Program}{w:World}{A:Around}{E:Value->Shared->Prop}{s:Shared}{t sl:Addr}{items:Array Value}{vl vu:Value}{lo hi:Option Int}{Q:Value->Shared->Prop}(ht:IsTup s.heap t items)(hs:s.heap.IsSliceOf sl vl vu .none)(pl:IsPart vl lo)(pu:IsPart vu hi)
  (hw:HT.sIx items.size 0 lo=0/\HT.sIx items.size items.size hi=items.size) (h:Q (.ref t) s):wpAny (model prog w) A (getItem (.ref t) (.ref sl)) Q E s:=by
 obtain ⟨os,hos,hcs,hds⟩:=id hs
 have hTs:s.TypeIs (.ref sl) "slice" := ⟨os,hos,hcs⟩
 unfold getItem
 try with_reducible refine Ql ?_
 first | refine Pl (Pm ?_) | skip
 refine Pl (wpAny_sequenceKey ht.typeIs (by decide) ?_)
 refine Pl (Ri (name:=Q5 "__getitem__") ht.typeIs Tg
  (Rm Tg ht.typeIs PyProof.Rows.entry_tuple_getitem ?_ (PyProof.Rows.args_tuple_getitem _ _)))
 show wpAny _ _ (Builtin.Tuple.tupleItemsOf (.ref t) >>= _) _ _ s
 refine Pl (PyProof.Rows.tupleItemsOf_ ht ?_)
 refine Pl (T2 hTs ?_)
 rw [if_pos (by decide)]
 refine Pl (HT.sliceApplied_gen hs pl pu ?_)
 have hyes:(((HT.sIx items.size 0 lo:Nat):Int) == 0 && (1:Int) == 1 && (HT.sIx items.size items.size hi - HT.sIx items.size 0 lo) == items.size)=true:=by
  rw [hw.1,hw.2]
  simp
 show wpAny _ _ (if (((HT.sIx items.size 0 lo:Nat):Int) == 0 && (1:Int) == 1 && (HT.sIx items.size items.size hi - HT.sIx items.size 0 lo) == items.size)=true then _ else _) _ _ s
 rw [if_pos hyes]
 refine Pl (m:=Builtin.Tuple.tupleIsExact (.ref t)) ?_
 unfold Builtin.Tuple.tupleIsExact
 refine Pl (T2 ht.typeIs (Pm ?_))
 rw [if_pos (by decide)]
 refine Pl (Se ?_)
 exact Pm ⟨_,rfl,Pm h⟩
noncomputable def rSlU (K:Pk):V->Option Int->Option Int->Hp->VK->Prop:=fun x lo hi H Q=>∃ a xs,x=.ref a/\SqT K H a xs/\∀ r H',Same H H'->SqT K H' r (Ck xs lo hi)->Q (.ref r) H'
theorem Zqc {X:Cx}:SlR X (rSlU X.K):=by
 intro pins s σ H x v vl vu lo hi sl Q I rx hs pl pu h
 obtain ⟨a,xs,rfl,hx,q⟩:=h
 by_cases hw:HT.sIx xs.length 0 lo=0/\HT.sIx xs.length xs.length hi=xs.length
 ·cases rx
  obtain ⟨its,r,ht,hz⟩:=I.tuple hx
  have hlen:its.toArray.size=xs.length:=by rw [Pq];exact r.length.symm
  refine ⟨"tuple",_,Tg.lookup,ht.typeIs,?_⟩
  refine Zkd ht hs pl pu (by rw [hlen];exact hw) ⟨.ref a,H,I,rfl,q a H (Same.refl H) ?_⟩
  have e:Ck xs lo hi=xs:=by unfold Ck;rw [hw.1,hw.2];simp
  rw [e]
  exact hx
 ·exact Zdu pins s σ H _ v vl vu lo hi sl Q I rx hs pl pu ⟨a,xs,rfl,hx,hw,fun p hp=>q p _ (Same.upd hp) (.of Ad)⟩
noncomputable def Ow (K:Pk):V->Option Int->Option Int->Hp->VK->Prop:=fun x lo hi H Q=>Zac K x lo hi H Q\/Od x lo hi H Q\/rSlU K x lo hi H Q
theorem Mp {X:Cx}(K:Pk)(hK:X.K=K:=by rfl):SlR X (Ow K):=by subst hK;exact sl_list.or (sl_str.or Zqc)
theorem Zoq {K:Pk}{a:Addr}{xs:List V}{lo hi:Option Int}{H:Hp}{Q:VK}(ha:SqL K H a xs)(h:∀ p,H p=none->Q (.ref p) (upd H p (.lst (Ck xs lo hi)))):Ow K (.ref a) lo hi H Q:=.inl ⟨a,xs,rfl,ha,h⟩
theorem Zba {K:Pk}{a:Addr}{xs:List V}{lo hi:Option Int}{H:Hp}{Q:VK}(ha:SqT K H a xs)(h:∀ r H',Same H H'->SqT K H' r (Ck xs lo hi)->Q (.ref r) H'):Ow K (.ref a) lo hi H Q:=.inr (.inr ⟨a,xs,rfl,ha,h⟩)
theorem s_aug {i:Nat}{te:TE}{ti:Iv}{D:Ends}{σ:St}{H:Hp}{x:V}(e:σ[i]?=some (some x))(h:te σ H fun y H1=>ti x y H1 fun z H2=>D.nx (σ.set i (some z)) H2):Za6 i te ti D σ H:=⟨x,e,h⟩
theorem s_ipI {g:Int->Int->Int}{i j:Int}{H:Hp}{Q:VK}(h:Q (.int (g i j)) H):ipI g (.int i) (.int j) H Q:=⟨i,j,rfl,rfl,h⟩
theorem Zcf (xs:List V)(k:Nat):Ck xs none (some (k:Int))=xs.take k:=by
 unfold Ck
 rw [HT.sIx_none,HT.sIx_nat,V4,Vv]
 by_cases h:k<=xs.length
 ·rw [Uj h]
 ·rw [Nat.min_eq_right (by omega),Sj (Po _),Sj (by omega)]
theorem Zr5 (xs:List V)(k:Nat):Ck xs (some (k:Int)) none=xs.drop k:=by
 unfold Ck
 rw [HT.sIx_none,HT.sIx_nat]
 by_cases h:k<=xs.length
 ·rw [Uj h,Sj (by simp)]
 ·rw [Nat.min_eq_right (by omega),Si (Po _),Si (by omega)]
  simp
theorem Zr1 (xs:List V):Ck xs none (some (-1))=xs.take (xs.length - 1):=by
 unfold Ck
 rw [HT.sIx_none,Vv]
 show xs.take ((if (-1:Int) < 0 then ((-1:Int)+(xs.length:Int)).toNat else min (-1:Int).toNat xs.length) - 0)=_
 rw [if_pos (by decide)]
 congr 1
 omega
structure Mvd (fs xs:List Addr)(h h':Heap):Prop where
 keep:∀ b o,b ∉ xs->b ∉ fs->h.get? b=some o->h'.get? b=some o
 slot:∀ b o,b ∉ xs->h.get? b=some o->∃ sl,h'.get? b=some { o with slots:=sl }
theorem Mvd.trans {fs xs:List Addr}{h h1 h2:Heap}(a:Mvd fs xs h h1)(b:Mvd fs xs h1 h2):Mvd fs xs h h2 :=
 ⟨fun c o n1 n2 e=>b.keep c o n1 n2 (a.keep c o n1 n2 e),fun c o n e=>by
  obtain ⟨sl,e1⟩:=a.slot c o n e
  obtain ⟨sl',e2⟩:=b.slot c _ n e1
  exact ⟨sl',e2⟩⟩
theorem Mvd.mono {fs xs ys:List Addr}{h h1:Heap}(a:Mvd fs xs h h1)(s:∀ b∈xs,b∈ys):Mvd fs ys h h1 :=
 ⟨fun c o n1 n2 e=>a.keep c o (fun z=>n1 (s c z)) n2 e,fun c o n e=>a.slot c o (fun z=>n (s c z)) e⟩
theorem Mvd.upd {fs:List Addr}{h:Heap}{a:Addr}(f:Obj->Obj):Mvd fs [a] h (h.update a f) :=
 ⟨fun c o n _ e=>by rw [Q2 _ _ (fun z=>n (by simp [z]))];exact e,fun c o n e=>⟨o.slots,by rw [Q2 _ _ (fun z=>n (by simp [z]))];exact e⟩⟩
theorem Mvd.push {fs xs:List Addr}{h:Heap}(o:Obj):Mvd fs xs h (h.push o):=⟨fun _ _ _ _ e=>Pp _ e,fun _ o _ e=>⟨o.slots,Pp _ e⟩⟩
theorem Mvd.fun {fs xs:List Addr}{h h1 base:Heap}{l:List Env}(a:Mvd fs xs h h1)(hl:h.FunFrames base l)(nx:∀ b∈xs,∃ o vs,h.get? b=some o/\o.data=.fields vs):h1.FunFrames base l :=
 hl.of_keeps fun b o e hd=>by
  obtain ⟨sl,e1⟩:=a.slot b o (fun z=>by
   obtain ⟨o',vs,e',d'⟩:=nx b z
   rw [e] at e'
   cases e'
   exact hd vs d') e
  exact ⟨_,e1,rfl⟩
noncomputable def K3 (h:Heap)(e T:Addr)(cls:Value)(od:Option Addr)(fl:Value):Prop :=
 ∃ oe vs oT ts,h.get? e=some oe/\oe.cls=cls/\oe.dict=od/\oe.data=.fields vs/\vs[1]?=some (.ref T)/\T≠e/\h.get? T=some oT/\oT.data=.fields ts/\ts[3]?=some fl/\vs[2]?=some .none
noncomputable abbrev F8 (h:Heap)(e T:Addr)(cls:Value)(od:Option Addr):Prop:=K3 h e T cls od .none
noncomputable def Fs (h:Heap)(e:Addr)(cls:Value)(od:Option Addr):Prop:=∃ oe vs,h.get? e=some oe/\oe.cls=cls/\oe.dict=od/\oe.data=.fields vs/\vs[1]?=some .none/\vs[2]?=some .none
section
variable {M:Model}{A:Around}{E:Value->Shared->Prop}{s:Shared}
theorem Zfy {base:Heap}{env:Env}{outer:List Env}{L e:Addr}{oe:Obj}{vs:Array Value}{head:Value}{hadNext:Bool}{Q:Unit->Shared->Prop}
  (hfr:A.frames=some (env::outer)) (hl:s.heap.FunFrames base (env::outer)) (hf:env.frame=some L) (he:s.heap.get? e=some oe) (hd:oe.data=.fields vs) (hsz:1 < vs.size) (hct:vs[2]?=some .none)
  (h:∀ h' T,s.heap.objs.size<=T->K3 h' e T oe.cls oe.dict (rawInt L)->Mvd (Bp (env::outer)) [e] s.heap h'->Q () { s with heap:=h' }) :
  wpAny M A (do let a <- frameOf env;let pl <- entryPlaceOf L hadNext;let b <- EntryCells.newEntry head a .none (rawInt L) .none pl;setField (.ref e) 1 b) Q E s:=by
 have hene:e ∉ Bp (env::outer):=fun hm=>by
  obtain ⟨_,o,ho,hnf⟩:=hl.mem hm
  rw [he] at ho
  cases ho
  exact hnf vs hd
 refine Pl (wpAny_frameOf_fun hfr hl hf fun h₁ s1=>?_)
 refine Pl (wpAny_entryPlaceOf fun pl hpl=>?_)
 unfold EntryCells.newEntry newFields
 refine Pl (Rk ?_ (hpl.sizeOk5 _ _ _ _ _))
 have e1:h₁.get? e=some oe:=(s1.2.1 e hene).trans he
 generalize hoT:({ cls:=.type "traceback",dict:=none,data:=.fields ([head,.ref L,.none,rawInt L,.none]++(if pl.isEmpty then Qt 6 Value.none else pl)).toArray }:Obj)=oT
 have e2:(h₁.push oT).get? e=some oe:=Pp _ e1
 refine Tz e2 hd hsz (h _ h₁.objs.size (by rw [s1.1];exact Po _) ?_ ?_)
 ·have nT:h₁.objs.size≠e:=Qy (Pr e1)
  have d3:=Vg hd (·.setIfInBounds 1 (Value.ref h₁.objs.size))
  have e3:=Rt (T1 (·.setIfInBounds 1 (Value.ref h₁.objs.size))) e2 (Wg d3)
  have fT:oT.isFreed=false:=by rw [<- hoT];rfl
  have e4:=(Q2 (h₁.push oT) (T1 (·.setIfInBounds 1 (Value.ref h₁.objs.size))) (Qa nT)).trans (P5 h₁ fT)
  refine ⟨_,_,_,_,e3,Obj.cls_mapFields _ _,?_,d3,by simp [hsz],nT,e4,by rw [<- hoT],?_⟩
  ·obtain ⟨c0,d0,t0,s0⟩:=oe
   cases t0 <;> rfl
  ·refine ⟨?_,by rw [Array.getElem?_setIfInBounds_ne (by decide)];exact hct⟩
   first | (simp;done) | (rcases hpl with rfl | ⟨_,_,_,_,_,_,_,rfl⟩ <;> simp)
 ·have m1:Mvd (Bp (env::outer)) [e] s.heap h₁:=⟨fun b o _ n e=>(s1.2.1 b n).trans e,fun b o _ e=>s1.2.2 b o e⟩
  exact (m1.trans (Mvd.push oT)).trans (Mvd.upd _)
theorem Mg {e T:Addr}{cls fl:Value}{od:Option Addr}{fs:List Addr}{Q:Unit->Shared->Prop}(x:K3 s.heap e T cls od fl)(h:∀ h',F8 h' e T cls od->Mvd fs [T] s.heap h'->Q () { s with heap:=h' }):wpAny M A (setFlight (.ref e) none) Q E s:=by
 obtain ⟨oe,vs,oT,ts,a1,a2,a3,a4,a5,a6,a7,a8,a9⟩:=x
 have hz:3 < ts.size:=(Uw.mp a9.1).1
 unfold setFlight
 refine Pl (P4 a1 a4 a5 ?_)
 rw [if_pos (show (Value.ref T != Value.none)=true from by simp)]
 refine Tz a7 a8 hz (h _ ?_ (Mvd.upd _))
 have d:=Vg a8 (·.setIfInBounds 3 ((none:Option Addr).elim Value.none fun f=>rawInt f))
 exact ⟨oe,vs,_,_,by rw [Q2 _ _ a6];exact a1,a2,a3,a4,a5,a6,Rt _ a7 (Wg d),d,by simp [hz],a9.2⟩
theorem Zje {base:Heap}{env:Env}{outer:List Env}{L e:Addr}{cls:Value}{od:Option Addr}{Q:Unit->Shared->Prop}
  (hfr:A.frames=some (env::outer)) (hl:s.heap.FunFrames base (env::outer)) (hf:env.frame=some L) (x:Fs s.heap e cls od)
  (h:∀ h' T,s.heap.objs.size<=T->K3 h' e T cls od (rawInt L)->Mvd (Bp (env::outer)) [e] s.heap h'->Q () { s with heap:=h' }):wpAny M A (noteFrame (.ref e) env) Q E s:=by
 obtain ⟨oe,vs,he,rfl,rfl,hd,h1,hct⟩:=x
 unfold noteFrame
 simp only [hf]
 refine Pl (P4 he hd h1 ?_)
 rw [if_neg (by decide)]
 exact Zfy hfr hl hf he hd (Uw.mp h1).1 hct h
theorem Zc4 {base:Heap}{env:Env}{outer:List Env}{L e T:Addr}{cls:Value}{od:Option Addr}{Q:Unit->Shared->Prop}
  (hfr:A.frames=some (env::outer)) (hl:s.heap.FunFrames base (env::outer)) (hf:env.frame=some L) (x:F8 s.heap e T cls od)
  (h:∀ h' T',s.heap.objs.size<=T'->K3 h' e T' cls od (rawInt L)->Mvd (Bp (env::outer)) [e,T] s.heap h'->Q () { s with heap:=h' }):wpAny M A (noteFrame (.ref e) env) Q E s:=by
 obtain ⟨oe,vs,oT,ts,he,rfl,rfl,hd,h1,nT,hT,dT,h3,hct⟩:=x
 unfold noteFrame
 simp only [hf]
 refine Pl (P4 he hd h1 ?_)
 rw [if_pos (show (Value.ref T != Value.none)=true from by simp)]
 refine Pl (P4 hT dT h3 ?_)
 rw [if_neg (show ¬ ((Value.none == rawInt L)=true) from by simp [rawInt])]
 refine Pl (Tz hT dT (Uw.mp h3).1 ?_)
 have m1:Mvd (Bp (env::outer)) [T] s.heap (s.heap.update T (T1 (·.setIfInBounds 3 Value.none))):=Mvd.upd _
 have he':(s.heap.update T (T1 (·.setIfInBounds 3 Value.none))).get? e=some oe:=(Q2 _ _ nT).trans he
 refine Zfy hfr (m1.fun hl fun b hb=>by rw [Qi.mp hb];exact ⟨oT,ts,hT,dT⟩) hf he' hd (Uw.mp h1).1 hct fun h' T' hz x m=>?_
 refine h h' T' ?_ x ((m1.mono (by simp)).trans (m.mono (by simp)))
 have:(s.heap.update T (T1 (·.setIfInBounds 3 Value.none))).objs.size=s.heap.objs.size:=Heap.size_after_update ..
 have hz:(s.heap.update T (T1 (·.setIfInBounds 3 Value.none))).objs.size<=T':=hz
 omega
theorem Zpw {base:Heap}{env:Env}{outer:List Env}{L e:Addr}{cls:Value}{od:Option Addr}{Q:Unit->Shared->Prop}
  (hfr:A.frames=some (env::outer)) (hl:s.heap.FunFrames base (env::outer)) (hf:env.frame=some L) (x:Fs s.heap e cls od)
  (h:∀ h' T,s.heap.objs.size<=T->F8 h' e T cls od->Mvd (Bp (env::outer)) [e,T] s.heap h'->Q () { s with heap:=h' }):wpAny M A (leaving env (.ref e)) Q E s:=by
 unfold leaving
 refine Pl (Zje hfr hl hf x fun h1 T hz y m=>?_)
 refine Mg (fs:=Bp (env::outer)) y fun h2 y2 m2=>h h2 T hz y2 ((m.mono (by simp)).trans (m2.mono (by simp)))
theorem Zic {base:Heap}{env:Env}{outer:List Env}{L e T:Addr}{cls:Value}{od:Option Addr}{Q:Unit->Shared->Prop}
  (hfr:A.frames=some (env::outer)) (hl:s.heap.FunFrames base (env::outer)) (hf:env.frame=some L) (x:F8 s.heap e T cls od)
  (h:∀ h' T',s.heap.objs.size<=T'->F8 h' e T' cls od->Mvd (Bp (env::outer)) [e,T,T'] s.heap h'->Q () { s with heap:=h' }):wpAny M A (leaving env (.ref e)) Q E s:=by
 unfold leaving
 refine Pl (Zc4 hfr hl hf x fun h1 T' hz y m=>?_)
 refine Mg (fs:=Bp (env::outer)) y fun h2 y2 m2=>h h2 T' hz y2 ((m.mono (by simp)).trans (m2.mono (by simp)))
end
theorem Zhh {X:Cx}{st:Stmt}:QS X st (fun _ _ _=>False):=⟨fun _ _ _ _ _ _ h=>h.elim⟩
noncomputable def Iy (h:Heap)(z TI TO i1 i2:Addr):Prop:=∃(a:Addr)(oa:Obj)(f1:Value),h.get? z=some { cls:=.type "zip",dict:=none,data:=.fields #[rawInt a,f1,.bool false,.ref TI,.ref TO],slots:=#[] }/\h.get? a=some oa/\a≠z/\a≠i1/\a≠i2
section
variable {prog:Program}{w:World}{A:Around}{E:Value->Shared->Prop}{s:Shared}{z TI TO i1 i2:Addr}{fp1 fp2:List Addr}{n1 n2 i:Nat}{P1 P2:Nat->Value->Prop}{St1 St2:Nat->Heap->Prop}{a b:Value}
theorem Zdl {Q:Bool->Shared->Prop}(hz:Iy s.heap z TI TO i1 i2)(h:∀ h',Iy h' z TI TO i1 i2->P9 z s.heap h'->Q false { s with heap:=h' }):wpAny (model prog w) A (Rq (.ref z)) Q E s:=by
 obtain ⟨a,oa,f1,e,ea,n0,n1,n2⟩:=hz
 unfold Rq
 refine Pl (P4 e rfl (x:=rawInt a) rfl ?_)
 show wpAny _ _ (loadIfAlive ((a:Int).toNat) >>= _) _ _ s
 refine Pl (Zg1 ?_)
 rw [Ua,ea]
 rw [if_neg (by simp)]
 refine Pl (P4 e rfl (x:=f1) rfl ?_)
 by_cases hf:(f1 != Value.bool true)=true
 ·simp only [hf,if_true]
  refine Pl (Ru e (by simp) fun h₅ e5 s5=>?_)
  replace s5:P9 z s.heap h₅:=s5
  exact Pm (h h₅ ⟨a,oa,.bool true,e5,s5.extBut a oa n0 ea,n0,n1,n2⟩ s5)
 ·simp only [hf]
  exact Pm (h s.heap ⟨a,oa,f1,e,ea,n0,n1,n2⟩ (P9.refl ..))
theorem Zq2 {Q:Value->Shared->Prop}(D1:Draws prog w A i1 fp1 n1 P1 St1)(D2:Draws prog w A i2 fp2 n2 P2 St2)(D:ZA z TI TO i1 i2 fp1 fp2)(hz:Iy s.heap z TI TO i1 i2)(hTI:IsPair s.heap TI (.ref i1) (.ref i2))
  (st1:St1 i s.heap) (st2:St2 i s.heap) (l1:i < n1) (l2:i < n2)
  (hQ:∀ x y h' tk,P1 i x->P2 i y->Iy h' z TI TO i1 i2->St1 (i+1) h'->St2 (i+1) h'->IsPair h' s.heap.objs.size x y->h'.objs.size=s.heap.objs.size+1 ->
   (∀ c o,c≠z->c≠i1->c≠i2->s.heap.get? c=some o->h'.get? c=some o)->Q (.ref s.heap.objs.size) { s with heap:=h',toks:=tk }) :
  wpAny (model prog w) A (Builtin.«zip.__next__» ⟨[.ref z],[]⟩) (fun fin s'=>∃ v,fin=.done (.ret v)/\Q v s') E s:=by
 obtain ⟨a0,oa0,f10,e0,_⟩:=id hz
 show wpAny _ _ (field (.ref z) 2 >>= _) _ _ s
 refine Pl (P4 e0 rfl (x:=Value.bool false) rfl ?_)
 show wpAny _ _ (field (.ref z) 3 >>= _) _ _ s
 refine Pl (P4 e0 rfl (x:=Value.ref TI) rfl (Pl (Rp hTI rfl ?_)))
 show wpAny _ _ (Rq (.ref z) >>= _) _ _ s
 refine Pl (Zdl hz fun h₁ hz₁ e1=>?_)
 simp only [R4,if_false]
 refine Pl ?_
 simp only [List.forIn_toArray,Tv,Ul]
 refine Pl (Pl (Ql ?_))
 show wpAny _ _ (Q8 (.ref i1) >>= _) _ _ _
 refine Pl (D1.item i _ _ _ l1 (Ce D1 st1 e1 D.z1) fun x h₂ tk₂ px s12 e2=>Pm (Pm ?_))
 replace e2:P9 i1 h₁ h₂:=e2
 refine Pl (Pl (Ql ?_))
 show wpAny _ _ (Q8 (.ref i2) >>= _) _ _ _
 have s22:St2 i h₂:=Ce D2 (Ce D2 st2 e1 D.z2) e2 D.n1
 refine Pl (D2.item i _ _ _ l2 s22 fun y h₄ tk₄ py s24 e4=>Pm (Pm (Pm ?_)))
 replace e4:P9 i2 h₂ h₄:=e4
 show wpAny _ _ (newTuple [x,y] >>= _) _ _ _
 refine Pl (wpAny_newTuple (Pm ⟨_,rfl,?_⟩))
 have sz:h₄.objs.size=s.heap.objs.size:=by rw [e4.1,e2.1,e1.1]
 show Q (.ref h₄.objs.size) { s with heap:=h₄.push { cls:=.type "tuple",data:=.seq #[x,y] },toks:=tk₄ }
 have up:∀ c o,h₄.get? c=some o->(h₄.push { cls:=.type "tuple",data:=.seq #[x,y] }).get? c=some o:=fun c o e=>Pp _ e
 have k4:∀ c o,c≠z->c≠i1->c≠i2->s.heap.get? c=some o->h₄.get? c=some o:=fun c o c1 c3 c4 e=>e4.extBut _ _ c4 (e2.extBut _ _ c3 (e1.extBut _ _ c1 e))
 have t8:IsPair (h₄.push { cls:=.type "tuple",data:=.seq #[x,y] }) h₄.objs.size x y:=P5 _ rfl
 rw [sz] at t8
 rw [sz]
 obtain ⟨a1,oa1,f1,g1,g2,g3,g4,g5⟩:=hz₁
 refine hQ x y _ tk₄ px py ⟨a1,oa1,f1,up _ _ (e4.extBut _ _ D.i2z.symm (e2.extBut _ _ D.i1z.symm g1)),up _ _ (e4.extBut _ _ g5 (e2.extBut _ _ g4 g2)),g3,g4,g5⟩ ?_ ?_ t8 (by rw [Q4,sz]) fun c o c1 c3 c4 e=>up c o (k4 c o c1 c3 c4 e)
 ·exact D1.frame _ _ _ (Ce D1 s12 e4 D.n2) fun c _ o e=>up c o e
 ·exact D2.frame _ _ _ s24 fun c _ o e=>up c o e
theorem Zil {Q:Fin->Shared->Prop}(D1:Draws prog w A i1 fp1 n1 P1 St1)(D2:Draws prog w A i2 fp2 n2 P2 St2)(D:ZA z TI TO i1 i2 fp1 fp2)(hz:Iy s.heap z TI TO i1 i2)(hTI:IsPair s.heap TI (.ref i1) (.ref i2))
  (st1:St1 i s.heap) (st2:St2 i s.heap) (hend:i=n1\/(i < n1/\i=n2))
  (hE:∀ h' e tk,(∀ c o,c≠z->c≠i1->c≠i2->s.heap.get? c=some o->h'.get? c=some o)->(∃ o,h'.get? e=some o/\o.cls=.type "StopIteration")->E (.ref e) { s with heap:=h',toks:=tk }) :
  wpAny (model prog w) A (Builtin.«zip.__next__» ⟨[.ref z],[]⟩) Q E s:=by
 obtain ⟨a0,oa0,f10,e0,_⟩:=id hz
 show wpAny _ _ (field (.ref z) 2 >>= _) _ _ s
 refine Pl (P4 e0 rfl (x:=Value.bool false) rfl ?_)
 show wpAny _ _ (field (.ref z) 3 >>= _) _ _ s
 refine Pl (P4 e0 rfl (x:=Value.ref TI) rfl (Pl (Rp hTI rfl ?_)))
 show wpAny _ _ (Rq (.ref z) >>= _) _ _ s
 refine Pl (Zdl hz fun h₁ hz₁ e1=>?_)
 simp only [R4,if_false]
 refine Pl ?_
 simp only [List.forIn_toArray,Tv,Ul]
 refine Pl (Pl (Ql ?_))
 show wpAny _ _ (Q8 (.ref i1) >>= _) _ _ _
 rcases hend with rfl | ⟨l1,rfl⟩
 ·refine Pl (D1.done _ _ _ (Ce D1 st1 e1 D.z1) fun h₂ e e2 he=>?_)
  replace e2:Tb i1 h₁ h₂:=e2
  exact hE h₂ e s.toks (fun c o c1 c3 _ x=>e2 _ _ c3 (e1.extBut _ _ c1 x)) he
 ·refine Pl (D1.item i _ _ _ l1 (Ce D1 st1 e1 D.z1) fun x h₂ tk₂ px s12 e2=>Pm (Pm ?_))
  replace e2:P9 i1 h₁ h₂:=e2
  refine Pl (Pl (Ql ?_))
  show wpAny _ _ (Q8 (.ref i2) >>= _) _ _ _
  have s22:St2 i h₂:=Ce D2 (Ce D2 st2 e1 D.z2) e2 D.n1
  refine Pl (D2.done _ _ _ s22 fun h₄ e e4 he=>?_)
  replace e4:Tb i2 h₂ h₄:=e4
  exact hE h₄ e tk₂ (fun c o c1 c3 c4 x=>e4 _ _ c4 (e2.extBut _ _ c3 (e1.extBut _ _ c1 x))) he
noncomputable def ZpSt (h:Heap)(z TI TO i1 i2:Addr)(i:Nat):Prop:=(i=0/\IsZip h z TI TO .none/\∃ u v,IsPair h TO u v)\/(0 < i/\Iy h z TI TO i1 i2)
theorem ZpSt.obj {h:Heap}{z TI TO i1 i2:Addr}{i:Nat}(x:ZpSt h z TI TO i1 i2 i):∃ vs,h.get? z=some { cls:=.type "zip",dict:=none,data:=.fields vs,slots:=#[] }:=by
 rcases x with ⟨_,x,_⟩ | ⟨_,_,_,_,x,_⟩
 ·exact ⟨_,x⟩
 ·exact ⟨_,x⟩
theorem Zn5 {Q:Option Value->Shared->Prop}(D1:Draws prog w A.in1 i1 fp1 n1 P1 St1)(D2:Draws prog w A.in1 i2 fp2 n2 P2 St2)(D:ZA z TI TO i1 i2 fp1 fp2)(hz:ZpSt s.heap z TI TO i1 i2 i)(hTI:IsPair s.heap TI (.ref i1) (.ref i2))(eTO:∃ o,s.heap.get? TO=some o)
  (st1:St1 i s.heap) (st2:St2 i s.heap) (l1:i < n1) (l2:i < n2)
  (hQ:∀ x y h' tk,P1 i x->P2 i y->ZpSt h' z TI TO i1 i2 (i+1)->(∃ o,h'.get? TO=some o)->St1 (i+1) h'->St2 (i+1) h'->IsPair h' s.heap.objs.size x y->h'.objs.size=s.heap.objs.size+1 ->
   (∀ c o,c≠z->c≠TO->c≠i1->c≠i2->s.heap.get? c=some o->h'.get? c=some o)->Q (some (.ref s.heap.objs.size)) { s with heap:=h',toks:=tk }) :
  wpAny (model prog w) A (pyNext (.ref z)) Q E s:=by
 obtain ⟨vs,ho⟩:=hz.obj
 have hT:s.TypeIs (.ref z) "zip" := ⟨_,ho,rfl⟩
 have zl:z < s.heap.objs.size:=Pr ho
 have l1':i1 < s.heap.objs.size:=by obtain ⟨_,y⟩:=D1.live _ _ st1;exact Pr y
 have l2':i2 < s.heap.objs.size:=by obtain ⟨_,y⟩:=D2.live _ _ st2;exact Pr y
 rcases hz with ⟨rfl,hz,u,v,hTO⟩ | ⟨hi,hz⟩
 ·exact Zgb D1 D2 D hz hTI hTO st1 st2 l1 l2 fun x y h' tk a1 a2 a3 a4 a5 a6 a7 a8 a9=>hQ x y h' tk a1 a2 (.inr ⟨V3 _,_,_,_,a3,a7,Qy zl,Qy l1',Qy l2'⟩) ⟨_,a4⟩ a5 a6 a7 a8 a9
 ·unfold pyNext
  exact Pl (Rx (Ri (name:=Q5 "__next__") hT R8
   (Rm R8 hT U6 (Zq2 D1 D2 D hz hTI st1 st2 l1 l2 fun x y h' tk a1 a2 a3 a4 a5 a6 a7 a8=>Pm (hQ x y h' tk a1 a2 (.inr ⟨V3 _,a3⟩) (let ⟨o,e⟩:=eTO;⟨o,a8 _ o D.TOz D.TOi1 D.TOi2 e⟩) a4 a5 a6 a7 fun c o c1 _ c3 c4 e=>a8 c o c1 c3 c4 e)) (U2 _))))
theorem Zos {Q:Option Value->Shared->Prop}(D1:Draws prog w A.in1 i1 fp1 n1 P1 St1)(D2:Draws prog w A.in1 i2 fp2 n2 P2 St2)(D:ZA z TI TO i1 i2 fp1 fp2)(hz:ZpSt s.heap z TI TO i1 i2 i)(hTI:IsPair s.heap TI (.ref i1) (.ref i2))
  (st1:St1 i s.heap) (st2:St2 i s.heap) (hend:i=n1\/(i < n1/\i=n2))
  (hQ:∀ h' tk,(∀ c o,c≠z->c≠TO->c≠i1->c≠i2->s.heap.get? c=some o->h'.get? c=some o)->Q none { s with heap:=h',toks:=tk }):wpAny (model prog w) A (pyNext (.ref z)) Q E s:=by
 obtain ⟨vs,ho⟩:=hz.obj
 have hT:s.TypeIs (.ref z) "zip" := ⟨_,ho,rfl⟩
 rcases hz with ⟨rfl,hz,u,v,hTO⟩ | ⟨hi,hz⟩
 ·exact Zd7 D1 D2 D hz hTI hTO st1 st2 hend hQ
 ·unfold pyNext
  refine Pl (Rx (Ri (name:=Q5 "__next__") hT R8
   (Rm R8 hT U6 (Zil D1 D2 D hz hTI st1 st2 hend fun h' e tk hk he=>?_) (U2 _))))
  obtain ⟨o,ho,hc⟩:=he
  exact Pl (Uf (T := "StopIteration") (b:=true) ⟨o,ho,hc⟩ Vu (Pm (hQ _ _ fun c o c1 _ c3 c4 e=>hk c o c1 c3 c4 e)))
end
noncomputable abbrev itZ (b:Bool)(l:Addr):Obj:={ cls:=.type (cond b "tuple_iterator" "list_iterator"),data:=.fields #[.ref l,.int 0 0] }
noncomputable def ZIt (b:Bool)(h:Heap)(a l:Addr)(i:Nat):Prop:=∃ o,h.get? a=some o/\o.cls=.type (cond b "tuple_iterator" "list_iterator")/\o.data=.fields #[.ref l,.int i 0]
theorem ZIt.at {b:Bool}{h h':Heap}{a l:Addr}{i:Nat}(x:ZIt b h a l i)(k:∀ o,h.get? a=some o->h'.get? a=some o):ZIt b h' a l i:=let ⟨o,e,r⟩:=x;⟨o,k o e,r⟩
noncomputable def ZIn (b:Bool)(h:Heap)(a:Addr)(xs:Array Value):Prop:=cond b (h.IsTuple a xs) (h.IsList a xs)
noncomputable def Fq (b:Bool)(K:Pk)(H:Hp)(a:Addr)(xs:List V):Prop:=cond b (SqT K H a xs) (SqL K H a xs)
theorem ZIn.lt {b:Bool}{h:Heap}{a:Addr}{xs:Array Value}(x:ZIn b h a xs):a < h.objs.size:=by
 cases b <;> exact let ⟨_,e,_⟩:=id x;Pr e
theorem ZIn.push {b:Bool}{h:Heap}{a:Addr}{xs:Array Value}(x:ZIn b h a xs)(o:Obj):ZIn b (h.push o) a xs:=by
 cases b
 ·exact Heap.IsList.push x _
 ·obtain ⟨o,e,r⟩:=id x
  exact ⟨o,Pp _ e,r⟩
theorem Same.sqZ {b:Bool}{K:Pk}{H H':Hp}{a:Addr}{xs:List V}(m:Same H H')(x:Fq b K H a xs):Fq b K H' a xs:=by
 cases b
 ·exact m.seq x
 ·exact m.tup x
theorem Inv.zin {X:Cx}{pins:List (Addr×Obj)}{σ:St}{H:Hp}{s:Shared}{b:Bool}{a:Addr}{xs:List V}(I:Inv X pins σ H s)(x:Fq b X.K H a xs):∃ its,Vals xs its/\ZIn b s.heap a its.toArray:=by
 cases b
 ·obtain ⟨its,rv,pl,hz⟩:=I.list x
  exact ⟨its,rv,pl.isList⟩
 ·obtain ⟨its,rv,pl,hz⟩:=I.tuple x
  exact ⟨its,rv,pl⟩
theorem Inv.zsz {X:Cx}{pins:List (Addr×Obj)}{σ:St}{H:Hp}{s:Shared}{b:Bool}{a:Addr}{xs:List V}(I:Inv X pins σ H s)(x:Fq b X.K H a xs):xs.length<=sizeLine:=by
 cases b
 ·obtain ⟨its,rv,pl,hz⟩:=I.list x
  have:=rv.length
  omega
 ·obtain ⟨its,rv,pl,hz⟩:=I.tuple x
  have:=rv.length
  omega
theorem M4 {prog:Program}{w:World}{A:Around}(b:Bool)(hh:A.handled=none)(it l:Addr)(hne:l≠it)(items:Array Value) :
  Draws prog w A it [it,l] items.size (fun i v=>items[i]?=some v) (fun i h=>ZIt b h it l i/\ZIn b h l items):=by
 cases b
 ·exact Te hh it l hne items
 ·exact Zcd hh it l hne items
theorem Zcj {prog:Program}{w:World}{A:Around}{E:Value->Shared->Prop}{s:Shared}{b:Bool}{a:Addr}{xs:Array Value}{Q:Value->Shared->Prop}(q:ZIn b s.heap a xs)
  (h:Q (.ref s.heap.objs.size) { s with heap:=s.heap.push (itZ b a) }):wpAny (model prog w) A (pyIter (.ref a)) Q E s:=by
 cases b
 ·exact Wu q h
 ·exact T8 q h
noncomputable abbrev zl1 (b:Bool)(h:Heap)(l1:Addr):Heap:=h.push (itZ b l1)
noncomputable abbrev zl2 (b gg:Bool)(h:Heap)(l1 l2:Addr):Heap:=(zl1 b h l1).push (itZ gg l2)
noncomputable abbrev zl3 (b gg:Bool)(h:Heap)(l1 l2:Addr):Heap:=(zl2 b gg h l1 l2).push { cls:=.type "tuple",data:=.seq #[.ref h.objs.size,.ref (zl1 b h l1).objs.size] }
noncomputable abbrev zl4 (b gg:Bool)(h:Heap)(l1 l2:Addr):Heap:=(zl3 b gg h l1 l2).push { cls:=.type "tuple",data:=.seq #[.none,.none] }
noncomputable abbrev Hk (b gg:Bool)(h:Heap)(l1 l2:Addr):Heap:=(zl4 b gg h l1 l2).push { cls:=.type "zip",data:=.fields #[.none,.bool false,.bool false,.ref (zl2 b gg h l1 l2).objs.size,.ref (zl3 b gg h l1 l2).objs.size] }
theorem Zqe (b gg:Bool)(l1 l2:Addr)(xs ys:Array Value) :
  Meets (Builtin.«zip.__new__» ⟨[.type "zip",.ref l1,.ref l2],[]⟩) (fun _ R s=>ZIn b s.heap l1 xs/\ZIn gg s.heap l2 ys/\R (.ok (.ret (.ref (zl4 b gg s.heap l1 l2).objs.size))) { s with heap:=Hk b gg s.heap l1 l2 }) :=
 .of_wp fun prog w A R s h=>by
  obtain ⟨hp,g,d,tk,os⟩:=s;obtain ⟨hl1,hl2,h⟩:=h
  have hsub:=sub_zip
  have q1:ZIn b (Shared.heap ⟨hp,g,d,tk,os⟩) l1 xs:=hl1
  have q2:ZIn gg (Shared.heap ⟨hp.push (itZ b l1),g,d,tk,os⟩) l2 ys:=hl2.push _
  wp_walk using Zcj q1,Zcj q2
  exact ⟨_,rfl,h⟩
theorem Zgv {b gg:Bool}{prog:Program}{w:World}{A:Around}{E:Value->Shared->Prop}{s:Shared}{l1 l2:Addr}{xs ys:Array Value}{Q:Value->Shared->Prop}(hl1:ZIn b s.heap l1 xs)(hl2:ZIn gg s.heap l2 ys)
  (h:∀ h',IsZip h' (s.heap.objs.size+4) (s.heap.objs.size+2) (s.heap.objs.size+3) .none->IsPair h' (s.heap.objs.size+2) (.ref s.heap.objs.size) (.ref (s.heap.objs.size+1)) ->
   IsPair h' (s.heap.objs.size+3) .none .none->ZIt b h' s.heap.objs.size l1 0->ZIt gg h' (s.heap.objs.size+1) l2 0->h'.objs.size=s.heap.objs.size+5 ->
   (∀ c o,s.heap.get? c=some o->h'.get? c=some o)->Q (.ref (s.heap.objs.size+4)) { s with heap:=h' }) :
  wpAny (model prog w) A (call (.type "zip") [.ref l1,.ref l2]) Q E s:=by
 refine callType_new PySem.F.called_zip (by decide) (PySem.F.typeCall_zip_2 _ _) (PySem.F.newCall_zip_2 _ _) (fun obj=>PySem.F.args_object_init_3 obj _ _) PySem.F.entry_zip_new (Zqe b gg l1 l2 xs ys) ⟨hl1,hl2,?_⟩
 have y1:(zl1 b s.heap l1).objs.size=s.heap.objs.size+1:=Q4 ..
 have y2:(zl2 b gg s.heap l1 l2).objs.size=s.heap.objs.size+2:=by rw [Q4,y1]
 have y3:(zl3 b gg s.heap l1 l2).objs.size=s.heap.objs.size+3:=by rw [Q4,y2]
 have y4:(zl4 b gg s.heap l1 l2).objs.size=s.heap.objs.size+4:=by rw [Q4,y3]
 have y5:(Hk b gg s.heap l1 l2).objs.size=s.heap.objs.size+5:=by rw [Q4,y4]
 have u5:(Hk b gg s.heap l1 l2).get? (zl4 b gg s.heap l1 l2).objs.size=some _:=P5 _ rfl
 have u4:(Hk b gg s.heap l1 l2).get? (zl3 b gg s.heap l1 l2).objs.size=some _:=Pp _ (P5 _ rfl)
 have u3:(Hk b gg s.heap l1 l2).get? (zl2 b gg s.heap l1 l2).objs.size=some _:=Pp _ (Pp _ (P5 _ rfl))
 have u2:(Hk b gg s.heap l1 l2).get? (zl1 b s.heap l1).objs.size=some _:=Pp _ (Pp _ (Pp _ (P5 _ rfl)))
 have u1:(Hk b gg s.heap l1 l2).get? s.heap.objs.size=some _:=Pp _ (Pp _ (Pp _ (Pp _ (P5 _ rfl))))
 show _/\_
 rw [y2,y3,y4] at u5
 rw [y1,y2] at u3
 rw [y3] at u4
 rw [y1] at u2
 rw [y4]
 exact ⟨⟨_,u5,rfl⟩,h _ u5 u3 u4 ⟨_,u1,rfl,rfl⟩ ⟨_,u2,rfl,rfl⟩ y5 fun c o x=>Pp _ (Pp _ (Pp _ (Pp _ (Pp _ x))))⟩
noncomputable def Nq (H:Hp)(xs ys zs:List V):Prop:=∀(j:Nat)(z:V),zs[j]?=some z->∃(t:Addr)(x y:V),z=V.ref t/\xs[j]?=some x/\ys[j]?=some y/\H t=some (.tup [x,y])
noncomputable def JZp (f gg:Bool)(K:Pk)(H0:Hp)(z TI TO i1 i2 a b:Addr)(xs ys:List V):Nat->List V->Hp->Heap->Prop:=fun i zs H h =>
 ZpSt h z TI TO i1 i2 i/\(IsPair h TI (.ref i1) (.ref i2)/\∃ o,h.get? TO=some o)/\ZIt f h i1 a i/\ZIt gg h i2 b i/\(∀ c∈[z,TI,TO,i1,i2],H c=none)/\zs.length=i/\Nq H xs ys zs/\Same H0 H
theorem Znw:typeLookup (.type "zip") "__len__" = pure none:=by rw [Su,Sk];kernel_rfl
theorem Zpm:typeLookup (.type "zip") "__length_hint__" = pure none:=by rw [Su,Sk];kernel_rfl
theorem Zno {f gg:Bool}{X:Cx}{pins:List (Addr×Obj)}{σ:St}{H0:Hp}{z TI TO i1 i2 a b:Addr}{xs ys:List V}(fp:∀ c∈[z,TI,TO,i1,i2],FpOk X pins H0 c)(D:ZB z TI TO i1 i2 a b)(ha:Fq f X.K H0 a xs)(hb:Fq gg X.K H0 b ys) :
  Src X pins σ z "zip" (min xs.length ys.length) H0 (JZp f gg X.K H0 z TI TO i1 i2 a b xs ys) where
 ty:=fun i zs H h j=>by
  obtain ⟨vs,e⟩:=j.1.obj
  exact ⟨_,e,rfl⟩
 nl:=by decide
 hint:=⟨_,fun A s Q E hT h=>Zgi hT Znw Zpm h⟩
 self:=fun A s zs H Q E j q=>by
  rcases j.1 with ⟨_,e,_⟩ | ⟨z,_⟩
  ·exact W1 e q
  ·exact absurd z (Rg _)
 keep:=fun i zs H h h' S us us' h0 hS j k al=>by
  obtain ⟨j1,⟨j2,jT⟩,j3,j4,j5,j6,j7,j8⟩:=j
  have ne:∀ c∈[z,TI,TO,i1,i2],c≠S:=fun c hc e=>by
   have:=j5 c hc
   rw [e,hS] at this
   cases this
  refine ⟨?_,⟨k _ _ (ne TI (by simp)) j2,let ⟨o,e⟩:=jT;⟨o,k _ _ (ne TO (by simp)) e⟩⟩,j3.at fun o e=>k _ _ (ne i1 (by simp)) e,j4.at fun o e=>k _ _ (ne i2 (by simp)) e,fun c hc=>by rw [Ag (ne c hc)];exact j5 c hc,j6,fun m y hy=>?_,j8.over h0⟩
  ·rcases j1 with ⟨z0,e,u,v,e2⟩ | ⟨z0,a0,oa,f1,e,ea,x1,x2,x3⟩
   ·exact .inl ⟨z0,k _ _ (ne z (by simp)) e,u,v,k _ _ (ne TO (by simp)) e2⟩
   ·by_cases hs:a0=S
    ·subst hs
     obtain ⟨o,eo⟩:=al
     exact .inr ⟨z0,a0,o,f1,k _ _ (ne z (by simp)) e,eo,x1,x2,x3⟩
    ·exact .inr ⟨z0,a0,oa,f1,k _ _ (ne z (by simp)) e,k _ _ hs ea,x1,x2,x3⟩
  ·obtain ⟨t,x,y',e1,e2,e3,e4⟩:=j7 m y hy
   exact ⟨t,x,y',e1,e2,e3,by rw [Ag (Fg e4 hS (by intro z;cases z))];exact e4⟩
 fresh:=fun i zs H h j=>j.2.2.2.2.1 z (by simp)
 item:=fun A i s H zs E hh hi I j=>by
  obtain ⟨j1,⟨j2,jT⟩,j3,j4,j5,j6,j7,j8⟩:=j
  obtain ⟨its,rv,p⟩:=I.zin (j8.sqZ ha)
  obtain ⟨its2,rv2,p2⟩:=I.zin (j8.sqZ hb)
  have g1:=rv.length
  have g2:=rv2.length
  have l1:i < xs.length:=by omega
  have l2:i < ys.length:=by omega
  have D1:=M4 (prog:=X.prog) (w:=X.w) (A:=A.in1) f hh i1 a D.a1 its.toArray
  have D2:=M4 (prog:=X.prog) (w:=X.w) (A:=A.in1) gg hh i2 b D.b2 its2.toArray
  refine Zn5 D1 D2 D.za j1 j2 jT ⟨j3,p⟩ ⟨j4,p2⟩ (by rw [Pq];omega) (by rw [Pq];omega) fun x y h' tk px py a1 aT a2 a3 a4 a5 a6=>?_
  have hx':its[i]?=some x:=by simpa using px
  have hy':its2[i]?=some y:=by simpa using py
  obtain ⟨u1,hu1,ru1⟩:=rv.get (Pn l1)
  obtain ⟨u2,hu2,ru2⟩:=rv2.get (Pn l2)
  rw [hx'] at hu1
  cases hu1
  rw [hy'] at hu2
  cases hu2
  have hf:H s.heap.objs.size=none:=I.hok.fresh (Po _)
  have fpH:∀ c∈[z,TI,TO,i1,i2],FpOk X pins H c:=fun c hc=>(fp c hc).of (j5 c hc)
  have kk:∀ c o,c ∉ [z,TI,TO,i1,i2]->s.heap.get? c=some o->h'.get? c=some o:=fun c o hc e=>by
   simp only [Pu,Qe,or_false,not_or] at hc
   exact a6 c o hc.1 hc.2.2.1 hc.2.2.2.1 hc.2.2.2.2 e
  have I2:=I.pairL (tk:=tk) (T:=s.heap.objs.size) (xs:=[xs[i],ys[i]]) (its:=[x,y]) fpH kk (Po _) (.cons ru1 (.cons ru2 .nil)) (by show 2<=sizeLine;decide) ⟨_,a4,rfl,_,rfl⟩
  have sm:Same H (upd H s.heap.objs.size (.tup [xs[i],ys[i]])):=Same.upd hf
  have lt:∀{c o},s.heap.get? c=some o->c≠s.heap.objs.size:=fun e=>P0 (Pr e)
  have nw:∀ c∈[z,TI,TO,i1,i2],c≠s.heap.objs.size:=fun c hc=>by
   simp only [Pu,Qe,or_false] at hc
   rcases hc with rfl | rfl | rfl | rfl | rfl
   ·obtain ⟨_,e⟩:=j1.obj;exact lt e
   ·exact lt j2
   ·obtain ⟨_,e⟩:=jT;exact lt e
   ·obtain ⟨_,e,_⟩:=j3;exact lt e
   ·obtain ⟨_,e,_⟩:=j4;exact lt e
  refine ⟨_,.ref s.heap.objs.size,_,rfl,rfl,I2,⟨a1,⟨a6 _ _ D.TIz D.TITO D.TI1 D.TI2 j2,aT⟩,a2.1,a3.1,fun c hc=>by rw [Ag (nw c hc)];exact j5 c hc,by simp [j6],fun m y hy=>?_,j8.trans sm⟩,fun S us e=>sm S _ e⟩
  by_cases hm:m < i
  ·rw [Q7 (by omega)] at hy
   obtain ⟨t,x,y',e1,e2,e3,e4⟩:=j7 m y hy
   exact ⟨t,x,y',e1,e2,e3,sm _ _ e4⟩
  ·have hlen:=(Pt.mp hy).1
   rw [Px,Qm] at hlen
   have:m=i:=by omega
   subst this
   rw [Rh (by omega),j6,Sd] at hy
   have hy:V.ref s.heap.objs.size=y:=by simpa using hy
   exact ⟨_,xs[m],ys[m],hy.symm,Pn l1,Pn l2,Ad⟩
 done:=fun A s H zs E hh I j=>by
  obtain ⟨j1,⟨j2,jT⟩,j3,j4,j5,j6,j7,j8⟩:=j
  obtain ⟨its,rv,p⟩:=I.zin (j8.sqZ ha)
  obtain ⟨its2,rv2,p2⟩:=I.zin (j8.sqZ hb)
  have g1:=rv.length
  have g2:=rv2.length
  have D1:=M4 (prog:=X.prog) (w:=X.w) (A:=A.in1) f hh i1 a D.a1 its.toArray
  have D2:=M4 (prog:=X.prog) (w:=X.w) (A:=A.in1) gg hh i2 b D.b2 its2.toArray
  have fpH:∀ c∈[z,TI,TO,i1,i2],FpOk X pins H c:=fun c hc=>(fp c hc).of (j5 c hc)
  refine Zos D1 D2 D.za j1 j2 ⟨j3,p⟩ ⟨j4,p2⟩ (by simp only [Pq];omega) fun h' tk kk=>⟨rfl,I.turnedL (fun c o hc e=>?_) fpH⟩
  simp only [Pu,Qe,or_false,not_or] at hc
  exact kk c o hc.1 hc.2.2.1 hc.2.2.2.1 hc.2.2.2.2 e
section
variable {X:Cx}
noncomputable def Za7 (f gg:Bool)(K:Pk)(ta:TA):TE:=fun σ H Q=>ta σ H fun vs H1=>∃ a b xs ys,vs=[.ref a,.ref b]/\Fq f K H1 a xs/\Fq gg K H1 b ys /\
 ∀(S:Addr)(zs:List V)(H2:Hp),H1 S=none->Same H1 H2->zs.length=min xs.length ys.length->Nq H2 xs ys zs->H2 S=some (.lst zs)->Q (.ref S) H2
theorem Zel (f gg:Bool)(K:Pk){e e2:Expr}{ta:TA}{p p2 pos pos2:Pos}(hg:Gl X "list")(hm:X.mg "list" = none)(hg2:Gl X "zip")(hm2:X.mg "zip" = none)(ha:QA X [e,e2] ta)(hK:X.K=K:=by rfl)(hc:X.calm=true:=by rfl)
  (hs:starEach [.Call (.Name "zip" p2) [e,e2] [] pos2] X.env=[(false,eval (.Call (.Name "zip" p2) [e,e2] [] pos2) X.env)]:=by rfl) (hs2:starEach [e,e2] X.env=[(false,eval e X.env),(false,eval e2 X.env)]:=by rfl) (hs3:starEach [e2] X.env=[(false,eval e2 X.env)]:=by rfl) :
  QE X (.Call (.Name "list" p) [.Call (.Name "zip" p2) [e,e2] [] pos2] [] pos) (Za7 f gg K ta):=by
 subst hK
 refine ⟨fun pins s σ H Q I h=>?_⟩
 refine Call_ (Dp I hg hm Ou (Q6 ?_ hs rfl))
 rw [hs]
 show wpAny _ _ (spliced ((false,eval (.Call (.Name "zip" p2) [e,e2] [] pos2) X.env)::[])) _ _ s
 refine So ?_
 refine Call_ (Dp I hg2 hm2 PyProof.Rows.boot_zip (Q6 (Aj (ha.run pos2 pins s σ H _ I h) fun us s1 ⟨vs,H1,I1,r1,q1⟩=>?_) (by rw [hs2,hs3]) (by rw [hs3];rfl)))
 obtain ⟨a,b,xs,ys,e1,hq,hq2,q⟩:=q1
 subst e1
 obtain ⟨u,v,rfl,ru,rv⟩:=r1.two
 cases ru
 cases rv
 obtain ⟨its,rv,pl⟩:=I1.zin hq
 obtain ⟨its2,rv2,pl2⟩:=I1.zin hq2
 have hz2:=I1.zsz hq2
 have lt1:a < s1.heap.objs.size:=pl.lt
 have lt2:b < s1.heap.objs.size:=pl2.lt
 refine Zgv pl pl2 fun h' a1 a2 a3 a4 a5 a6 hk=>?_
 refine Tq ?_
 have fr:∀ k,FpOk X pins H1 (s1.heap.objs.size+k):=fun k=>I1.fpOk (Ts _ _) (I1.hok.fresh (Ts _ _))
 have fp:∀ c∈[s1.heap.objs.size+4,s1.heap.objs.size+2,s1.heap.objs.size+3,s1.heap.objs.size,s1.heap.objs.size+1],FpOk X pins H1 c:=fun c hc=>by
  simp only [Pu,Qe,or_false] at hc
  rcases hc with rfl | rfl | rfl | rfl | rfl
  ·exact fr 4
  ·exact fr 2
  ·exact fr 3
  ·exact fr 0
  ·exact fr 1
 have C:=Zno (X:=X) (pins:=pins) (σ:=σ) (H0:=H1) fp (Ze9 lt1 lt2) hq hq2
 have I2:Inv X pins σ H1 { s1 with heap:=h' }:=I1.kept (t':=s1.toks) hk
 refine Nv C (by omega) (I1.ok.hd hc) I2 ⟨.inl ⟨rfl,a1,_,_,a3⟩,⟨a2,_,a3⟩,a4,a5,fun c hc=>(fp c hc).1,rfl,fun j y hy=>by simp at hy,Same.refl _⟩ (fun S hge hS h2 k2=>?_) fun S H' zs hS hS' hl' hj=>?_
 ·have sm:Same H1 (upd H1 S (.lst [])):=Same.upd hS
  refine ⟨.inl ⟨rfl,k2 _ _ a1,_,_,k2 _ _ a3⟩,⟨k2 _ _ a2,_,k2 _ _ a3⟩,a4.at fun o e=>k2 _ _ e,a5.at fun o e=>k2 _ _ e,fun c hc=>?_,rfl,fun j y hy=>by simp at hy,sm⟩
  have hge:h'.objs.size<=S:=hge
  rw [Ag (show c≠S from fun z=>?_)]
  ·exact (fp c hc).1
  ·simp only [Pu,Qe,or_false] at hc
   rcases hc with rfl | rfl | rfl | rfl | rfl <;> exact absurd z (P0 (P7 (by omega) hge))
 ·obtain ⟨h,j⟩:=hj
  exact q S zs H' hS j.2.2.2.2.2.2.2 hl' j.2.2.2.2.2.2.1 hS'
noncomputable abbrev Zfm:=Za7 true false
theorem Zsg (K:Pk){e e2:Expr}{ta:TA}{p p2 pos pos2:Pos}(hg:Gl X "list")(hm:X.mg "list" = none)(hg2:Gl X "zip")(hm2:X.mg "zip" = none)(ha:QA X [e,e2] ta)(hK:X.K=K:=by rfl)(hc:X.calm=true:=by rfl)
  (hs:starEach [.Call (.Name "zip" p2) [e,e2] [] pos2] X.env=[(false,eval (.Call (.Name "zip" p2) [e,e2] [] pos2) X.env)]:=by rfl) (hs2:starEach [e,e2] X.env=[(false,eval e X.env),(false,eval e2 X.env)]:=by rfl) (hs3:starEach [e2] X.env=[(false,eval e2 X.env)]:=by rfl) :
  QE X (.Call (.Name "list" p) [.Call (.Name "zip" p2) [e,e2] [] pos2] [] pos) (Zfm K ta):=Zel true false K hg hm hg2 hm2 ha hK hc hs hs2 hs3
theorem s_listzp {K:Pk}{ta:TA}{σ:St}{H:Hp}{Q:VK}(h:ta σ H fun vs H1=>∃ a b xs ys,vs=[.ref a,.ref b]/\SqT K H1 a xs/\SqL K H1 b ys /\
 ∀(S:Addr)(zs:List V)(H2:Hp),H1 S=none->Same H1 H2->zs.length=min xs.length ys.length->Nq H2 xs ys zs->H2 S=some (.lst zs)->Q (.ref S) H2):Zfm K ta σ H Q:=h
end
theorem Ztj:∀(xs ys:List Int),((Qg (min xs.length ys.length)).all (fun j=>xs.getD j 0 == ys.getD j 0) && xs.length == ys.length)=decide (xs=ys):=by
 intro xs ys
 rw [Tu,Sr,Ud,beq_iff_eq,decide_eq_true_iff]
 constructor
 ·rintro ⟨h1,h2⟩
  apply List.ext_getElem h2
  intro i g1 g2
  have:=h1 i (List.mem_range.mpr (by omega))
  rw [beq_iff_eq,Sg,Sg,Pn g1,Pn g2] at this
  exact this
 ·rintro rfl
  exact ⟨fun j _=>by simp,rfl⟩
section
variable {X:Cx}
end
section
variable {X:Cx}
end
noncomputable def Ci (P:Program)(w:World):Cz:=fun outer H s E ev s'=>∃(e T:Addr)(cls:Value)(od:Option Addr)(H':Hp),ev=.ref e/\s'.os=s.os/\AllBare s'.gens/\Un (Bp outer) [] H H' s.heap s'.heap/\HOk P w H' s'.heap /\
 s.heap.get? e=none/\s.heap.get? T=none/\H' e=none/\H' T=none/\F8 s'.heap e T cls od/\E cls od H'
section
variable {X:Cx}{pins:List (Addr×Obj)}{σ:St}{H:Hp}{s:Shared}
theorem Inv.old (I:Inv X pins σ H s)(hex:X.ex=[]){b:Addr}(h:s.heap.get? b=none):X.s₀.heap.get? b=none:=by
 cases q:X.s₀.heap.get? b with
 | none=>rfl
 | some o =>
  obtain ⟨o',e⟩:=I.base.there b o q (by rw [hex];simp)
  rw [h] at e
  cases e
theorem Inv.mvd (I:Inv X pins σ H s){h':Heap}{xs:List Addr}(m:Mvd (Bp X.stack) xs s.heap h')(hx:∀ b∈xs,X.s₀.heap.get? b=none/\H b=none)(hex:X.ex=[]):Un X.fs [] X.H₀ H X.s₀.heap h'/\HOk X.prog X.w H h':=by
 have low:∀ b o,X.s₀.heap.get? b=some o->b ∉ xs:=fun b o e hb=>by rw [(hx b hb).1] at e;cases e
 have neL:∀ b o,X.s₀.heap.get? b=some o->b≠X.env.locals:=fun b o e=>P0 (P7 (Pr e) I.ok.above)
 have nst:∀ b o,X.s₀.heap.get? b=some o->b ∉ X.fs->b ∉ Bp X.stack:=fun b o e hf hs=>by
  rcases I.ok.stk with z | ⟨z,z2⟩
  ·rw [z] at hs;exact hf hs
  ·rw [z] at hs
   unfold Bp at hs
   rw [Vd,z2] at hs
   rcases Pu.mp hs with q | q
   ·exact neL b o e q
   ·exact hf q
 have B:=I.base
 rw [hex] at B
 refine ⟨⟨fun b o e n hf _=>?_,fun b o e n hf _=>?_,fun b o e n _=>B.free b o e n (by simp),fun b o e _=>?_,B.tups,B.frzs,B.tbls⟩,fun b u e=>?_⟩
 ·exact m.keep b o (low b o e) (nst b o e hf) (B.keep b o e n hf (by simp))
 ·obtain ⟨sl,e1⟩:=B.slot b o e n hf (by simp)
  obtain ⟨sl',e2⟩:=m.slot b _ (low b o e) e1
  exact ⟨sl',e2⟩
 ·obtain ⟨o',e1⟩:=B.there b o e (by simp)
  obtain ⟨sl,e2⟩:=m.slot b o' (low b o e) e1
  exact ⟨_,e2⟩
 ·have tr:∀ c v,H c=some v->c ∉ xs/\c ∉ Bp X.stack:=fun c v q=>⟨(fun z=>by rw [(hx c z).2] at q;cases q),(fun z=>by rw [I.stkFree c z] at q;cases q)⟩
  refine (I.hok b u e).stay (fun c v hc q=>m.keep c v ?_ ?_ q) (fun _ q=>q) fun _ _ q=>q
  ·rcases hc with z | z
   ·rw [z];exact (tr b u e).1
   ·exact (tr c _ z).1
  ·rcases hc with z | z
   ·rw [z];exact (tr b u e).2
   ·exact (tr c _ z).2
end
section
variable {P:Program}{w:World}{K:Pk}{mg:Str->Option Value}{base:Heap}{N:List Str}{qual:Str}{scope:Scope}{f:Addr}{cd:Value}{A:Around}{outer:List Env}{s0:Shared}{H0:Hp}{E:XK}
theorem Jy {E':XK}(h:∀ cls od H',E' cls od H'->E cls od H'):Lk (Ci P w) (Cy (Ci P w) P w K mg base N qual scope f cd A outer s0 H0 E) E':=by
 intro pins σ H s ev s' I c
 obtain ⟨e,T,cls,od,H',rfl,h1,h2,h3,h4,h5,h6,h7,h8,h9,h10⟩:=c
 have J:Inv (Cy (Ci P w) P w K mg base N qual scope f cd A outer s0 H0 E) pins σ H' s':=I.call' (ch:=[]) h1 h3 h4 h2 (fun b z=>absurd z (by simp))
 refine Zic (base:=base) (outer:=outer) (L:=s0.heap.objs.size) J.ok.frames J.stack rfl h9 fun h' T' hT' y m=>?_
 obtain ⟨u,ok⟩:=J.mvd (h':=h') m (fun b hb=>by
  simp only [Pu,Qe,or_false] at hb
  rcases hb with rfl | rfl | rfl
  ·exact ⟨I.old rfl h5,h7⟩
  ·exact ⟨I.old rfl h6,h8⟩
  ·exact ⟨J.old rfl (Sl hT'),J.hok.fresh hT'⟩) rfl
 exact ⟨e,T',cls,od,H',rfl,J.os,J.bare,u,ok,I.old rfl h5,J.old rfl (Sl hT'),h7,J.hok.fresh hT',y,h _ _ _ h10⟩
theorem Zcu {pins:List (Addr×Obj)}{σ:St}{H:Hp}{s:Shared}{e:Addr}{cls:Value}{od:Option Addr}(I:Inv (Cy (Ci P w) P w K mg base N qual scope f cd A outer s0 H0 E) pins σ H s)(x:Fs s.heap e cls od)(he:s0.heap.get? e=none)(hn:H e=none)(h:E cls od H) :
  (Cy (Ci P w) P w K mg base N qual scope f cd A outer s0 H0 E).xe (.ref e) s:=by
 refine Zpw (base:=base) (outer:=outer) (L:=s0.heap.objs.size) I.ok.frames I.stack rfl x fun h' T hT y m=>?_
 obtain ⟨u,ok⟩:=I.mvd (h':=h') m (fun b hb=>by
  simp only [Pu,Qe,or_false] at hb
  rcases hb with rfl | rfl
  ·exact ⟨he,hn⟩
  ·exact ⟨I.old rfl (Sl hT),I.hok.fresh hT⟩) rfl
 exact ⟨e,T,cls,od,H,rfl,I.os,I.bare,u,ok,he,I.old rfl (Sl hT),hn,I.hok.fresh hT,y,h⟩
end
section
variable {P:Program}{w:World}{K:Pk}{mg:Str->Option Value}{base:Heap}
theorem Fun.okx {x qual:Str}{st:Stmt}{f:Addr}{fd:FuncData}{N ps:List Str}{k:Nat}{sp:Sp}(F:Fun K x qual st f fd)(S:Bf N ps (A0 st))(len:∀ vs H Q E,sp vs H Q E->vs.length=ps.length)
  (hbody:∀(cdv:Value)(A:Around)(outer:List Env)(s:Shared)(H:Hp)(vs:List V)(Q:VK)(E:XK),Room k (A.deeper (envOfC qual (A0 st) s.heap.objs.size f cdv))->sp vs H Q E ->
   ∃ t,Dh (Cy (Ci P w) P w K mg base N qual (A0 st) f cdv A outer s H E) (E6 st) t/\t { nx:=fun _ H'=>Q .non H',rt:=Q } (Db N vs) H):As P w K mg base (Ci P w) (k+1) f fd ps sp:=by
 obtain ⟨oc,od,kV,doc,pm,an,cdv,ct,osl,rfl,lk,hcd⟩:=F.ex
 refine Zhm lk hcd S len fun A outer s H vs Q E hr hsp=>?_
 obtain ⟨t,h,q⟩:=hbody cdv A outer s H vs Q E hr hsp
 exact ⟨t,h.run,q⟩
structure Dq (P:Program)(w:World)(K:Pk)(mg:Str->Option Value)(base:Heap)(k:Nat)(x:Str)(ps:List Str)(sp:Sp):Prop where
 ex:∃(f:Addr)(fd:FuncData),As P w K mg base (Ci P w) k f fd ps sp/\mg x=some (.ref f)/\Ro K (.ref f)=true/\Binds K fd ps []
theorem Zn8 {k:Nat}{x:Str}{ps:List Str}{sp:Sp}{f:Addr}{fd:FuncData}(F:As P w K mg base (Ci P w) k f fd ps sp)(m:mg x=some (.ref f))(kp:Ro K (.ref f)=true)(b:Binds K fd ps []):Dq P w K mg base k x ps sp:=⟨f,fd,F,m,kp,b⟩
end
section
variable {X:Cx}{k:Nat}{x:Str}{ps:List Str}{sp:Sp}{p pos np cpos:Pos}{e:Expr}{es:List Expr}{t:TA}{E:XK}
theorem Km (C:Dq X.prog X.w X.K X.mg X.base k x ps sp)(hr:Room k X.A)(hx:Lk (Ci X.prog X.w) X E)(ha:QA X (e::es) t)(hg:Gl X x:=by rfl)(hdb:(x == ("__debug__" : Str))=false:=by decide)
  (he:starEach (e::es) X.env=(false,eval e X.env)::starEach es X.env:=by rfl) (hpl:(backTo pos (starEach es X.env)).any (·.1)=false:=by rfl):QE X (.Call (.Name x p) (e::es) [] pos) (Jp sp [] E t):=by
 obtain ⟨f,fd,F,hm,hk,hb⟩:=C.ex
 exact ⟨Zck F hr hg hm hk hb .nil hx ha.run hdb he hpl⟩
noncomputable abbrev VE:List Value:=[.type "ValueError",.type "Exception",.type "BaseException",.type "object"]
noncomputable def Zha (X:Cx)(E:XK):Prop:=∀(pins:List (Addr×Obj))(σ:St)(H:Hp)(s:Shared)(a:Addr)(cls:Value)(od:Option Addr),Inv X pins σ H s->Fs s.heap a cls od->X.s₀.heap.get? a=none->H a=none->E cls od H->X.xe (.ref a) s
structure Ma (K:Pk)(C:Addr):Prop where
 ex:∃ bm dd nm bs ns qn hd sn sub ab col k0 k1 k2 k3 k5,K.lookup C=some (excClassObj nm qn C ns bs bm hd sn sub ab col dd k0 k1 k2 k3 k5 "ValueError.__new__")/\Sc K VE bm=true/\T0 K ns=true/\P3 K ns "__init__" = some none
theorem Zj8 {K:Pk}{h0:Heap}{C:Addr}(kin0:K.In h0)(q:Ma K C) :
  ∃ bm N nm q bs hdct sn sub ab col dd k0 k1 k2 k3 k5 mN,mN "__init__" = none/\∀ h:Heap,K.In h->h.get? C=some (excClassObj nm q C N bs bm hdct sn sub ab col dd k0 k1 k2 k3 k5 "ValueError.__new__")/\h.Ns N mN/\OwnTail h VE bm:=by
 obtain ⟨bm,dd,nm,bs,ns,qn,hd,sn,sub,ab,col,k0,k1,k2,k3,k5,ho,ht,hok,hni⟩:=q.ex
 have n0:h0.Ns ns (h0.nsMap ns):=.of_isNs (PySem.W.isNs_of_in kin0 hok)
 refine ⟨bm,ns,nm,qn,bs,hd,sn,sub,ab,col,dd,k0,k1,k2,k3,k5,h0.nsMap ns,PySem.W.nsMap_none_of_in kin0 hok hni,fun h kin=>⟨kin _ _ ho,?_,PySem.W.tail_of_in kin ht⟩⟩
 obtain ⟨o,es,ep,e,r⟩:=n0
 refine ⟨o,es,ep,?_,r⟩
 unfold T0 at hok
 split at hok
 ·rename_i hl
  have:=kin0 _ _ hl
  rw [e] at this
  cases this
  exact kin _ _ hl
 ·cases hok
theorem ObjOk.there {P:Program}{w:World}{H:Hp}{h:Heap}{a:Addr}{o:HO}(x:ObjOk P w H h a o):∃ u,h.get? a=some u:=by
 induction o with
 | lst xs=>obtain ⟨_,_,_,_,e⟩:=x;exact ⟨_,e⟩
 | tup xs=>obtain ⟨_,_,_,o,e,_⟩:=x;exact ⟨_,e⟩
 | dK kvs=>obtain ⟨_,_,vs,_,d⟩:=x;obtain ⟨o,e,_⟩:=Heap.dictOf_iff.mp d;exact ⟨_,e⟩
 | dT kvs=>obtain ⟨_,_,_,_,o,_,_,e,_⟩:=x;exact ⟨_,e⟩
 | set S n=>obtain ⟨o,_,_,_,e,_⟩:=x;exact ⟨_,e⟩
 | ins C dx fs=>obtain ⟨_,_,_,e,_⟩:=x;exact ⟨_,e⟩
 | own y=>exact x
 | xd fs=>obtain ⟨_,⟨o,_,_,e,_⟩,_⟩:=x;exact ⟨_,e⟩
 | met f y=>exact ⟨_,x⟩
 | rng lo hi=>obtain ⟨_,_,_,e⟩:=x;exact ⟨_,e⟩
 | frz o u _=>exact ⟨_,x.1⟩
 | tbl ps=>exact ⟨_,x⟩
 | ext φ=>exact x.2.1
theorem HOk.no {P:Program}{w:World}{H:Hp}{h:Heap}(x:HOk P w H h){a:Addr}(e:h.get? a=none):H a=none:=by
 cases q:H a with
 | none=>rfl
 | some u =>
  have z:=(x a u q).there
  rw [e] at z
  obtain ⟨o,z⟩:=z
  cases z
theorem Zi8 {C:Addr}{a:Expr}(hc:X.calm=true)(hC:Ma X.K C)(G:X.mg x=some (.ref C))(ha:QA X [a] t)(hx:Zha X E)(hex:X.ex=[])(hg:Gl X x:=by rfl)(hdb:(x == ("__debug__" : Str))=false:=by decide)
  (he:starEach [a] X.env=[(false,eval a X.env)]:=by rfl):QS X (.Raise (some (.Call (.Name x np) [a] [] cpos)) none pos) (fun D σ H=>t σ H fun vs H1=>vs.length<=sizeLine/\E (.ref C) none H1):=by
 refine ⟨fun pins s σ H D I h=>?_⟩
 obtain ⟨bm,N,nm,q,bs,hdct,sn,sub,ab,col,dd,k0,k1,k2,k3,k5,mN,cni,cl⟩:=Zj8 I.kIn hC
 obtain ⟨cC,cN,cT⟩:=cl _ I.kIn
 refine wpAny_Raise_call_subU (C:=C) (nm:=nm) (q:=q) (N:=N) (bs:=bs) (bm:=bm) (hdct:=hdct) (sn:=sn) (sub:=sub) (ab:=ab) (col:=col) (dd:=dd) (k0:=k0) (k1:=k1) (k2:=k2) (k3:=k3) (k5:=k5)
  T4 (by decide) T4 (mN:=mN) (cT.hasType T4.hasBase) (I.ok.hd hc) (by rw [he];rfl) cni (Hf I hg G ⟨rfl,?_⟩ hdb)
 rw [he]
 have ar:=ha.run cpos pins s σ H _ I h
 rw [he] at ar
 refine Vc (Q0 ar (fun us s2 h2=>?_) fun _ _ y=>y)
 obtain ⟨vs,H1,I1,r1,z,q1⟩:=h2
 obtain ⟨cC',cN',cT'⟩:=cl _ I1.kIn
 refine ⟨rfl,by rw [<- r1.length];exact z,cC',cN',cT',fun h' a' hm=>?_⟩
 obtain ⟨t',e1,_,_⟩:=hm.there
 have I2:Inv X pins σ H1 { s2 with heap:=h' }:=I1.kept (t':=s2.toks) hm.keeps
 exact hx pins σ H1 _ a' (.ref C) none I2 ⟨_,_,e1,rfl,rfl,rfl,rfl,rfl⟩ (I1.old hex hm.new) (I1.hok.no hm.new) q1
end
noncomputable def Ca (a:Addr)(cls:Value)(od:Option Addr):HO:=.ext fun h=>∃ o vs,h.get? a=some o/\o.cls=cls/\o.dict=od/\o.data=.fields vs/\vs[2]?=some .none
theorem Zpz {P:Program}{w:World}{H:Hp}{h:Heap}{a T:Addr}{cls:Value}{od:Option Addr}(x:F8 h a T cls od):ObjOk P w H h a (Ca a cls od):=by
 obtain ⟨oe,vs,oT,ts,a1,a2,a3,a4,a5,a6,a7,a8,a9⟩:=x
 refine ⟨⟨oe,vs,a1,a2,a3,a4,a9.2⟩,⟨oe,a1⟩,fun h1 h2 q k=>?_⟩
 obtain ⟨o,vs,q1,q2⟩:=q
 exact ⟨o,vs,k o q1,q2⟩
theorem Un.land {fs xs:List Addr}{H H':Hp}{h h1 h2:Heap}{e:Addr}{o:HO}(u:Un fs [] H H' h h1)(m:Mvd fs xs h1 h2)(hx:∀ b∈xs,h.get? b=none)(he:h.get? e=none)(hn:H' e=none):Un fs [] H (upd H' e o) h h2:=by
 have low:∀ b ob,h.get? b=some ob->b ∉ xs:=fun b ob q z=>by rw [hx b z] at q;cases q
 have ne:∀ b ob,h.get? b=some ob->b≠e:=fun b ob q z=>by rw [z,he] at q;cases q
 have ne':∀ b ob,H' b=some ob->b≠e:=fun b ob q z=>by rw [z,hn] at q;cases q
 refine ⟨fun b ob q n hf _=>m.keep b ob (low b ob q) hf (u.keep b ob q n hf (by simp)),fun b ob q n hf _=>?_,fun b ob q n _=>?_,fun b ob q _=>?_,fun b ys q=>?_,fun b ob v q=>?_,fun b ps q=>?_⟩
 ·obtain ⟨sl,e1⟩:=u.slot b ob q n hf (by simp)
  obtain ⟨sl',e2⟩:=m.slot b _ (low b ob q) e1
  exact ⟨sl',e2⟩
 ·rw [Ag (ne b ob q)];exact u.free b ob q n (by simp)
 ·obtain ⟨o',e1⟩:=u.there b ob q (by simp)
  obtain ⟨sl,e2⟩:=m.slot b o' (low b ob q) e1
  exact ⟨_,e2⟩
 ·have z:=u.tups b ys q
  rw [Ag (ne' b _ z)];exact z
 ·have z:=u.frzs b ob v q
  rw [Ag (ne' b _ z)];exact z
 ·obtain ⟨more,z⟩:=u.tbls b ps q
  exact ⟨more,by rw [Ag (ne' b _ z)];exact z⟩
theorem HOk.land {P:Program}{w:World}{fs xs:List Addr}{H:Hp}{h1 h2:Heap}{e:Addr}{o:HO}(x:HOk P w H h1)(m:Mvd fs xs h1 h2)(hx:∀ b∈xs,H b=none)(hf:∀ b∈fs,H b=none)(hn:H e=none)(new:ObjOk P w (upd H e o) h2 e o):HOk P w (upd H e o) h2:=by
 intro b u q
 by_cases hb:b=e
 ·subst hb
  rw [Ad] at q
  cases q
  exact new
 ·rw [Ag hb] at q
  have tr:∀ c v,H c=some v->c ∉ xs/\c ∉ fs:=fun c v q=>⟨(fun z=>by rw [hx c z] at q;cases q),(fun z=>by rw [hf c z] at q;cases q)⟩
  have ne':∀ b ob,H b=some ob->b≠e:=fun b ob q z=>by rw [z,hn] at q;cases q
  refine (x b u q).stay (fun c v hc z=>?_) (fun c z=>by rw [Ag (ne' c _ z)];exact z) fun c ys z=>by rw [Ag (ne' c _ z)];exact z
  rcases hc with r | r
  ·rw [r] at z ⊢
   exact m.keep b v (tr b u q).1 (tr b u q).2 z
  ·exact m.keep c v (tr c _ r).1 (tr c _ r).2 z
noncomputable abbrev TX:=St->Hp->VK->XK->Prop
noncomputable abbrev Fk:=Ends->(St->XK)->St->Hp->Prop
noncomputable def XP (X:Cx)(pins:List (Addr×Obj))(σ:St)(E:XK)(ev:Value)(s':Shared):Prop:=∃ H0 s0,Inv X pins σ H0 s0/\Ci X.prog X.w X.stack H0 s0 E ev s'
structure QX (X:Cx)(e:Expr)(t:TX):Prop where
 run:∀(pins:List (Addr×Obj))(s:Shared)(σ:St)(H:Hp)(Q:VK)(E:XK),Inv X pins σ H s->t σ H Q E->wpAny (model X.prog X.w) X.A (eval e X.env) (EP X pins σ Q) (XP X pins σ E) s
structure QXS (X:Cx)(sts:List Stmt)(t:Fk):Prop where
 run:∀(pins:List (Addr×Obj))(s:Shared)(σ:St)(H:Hp)(D:Ends)(E:St->XK),Inv X pins σ H s->t D E σ H->wpAny (model X.prog X.w) X.A (execs sts X.env) (SP X pins D) (fun ev s'=>∃ σ',XP X pins σ' (E σ') ev s') s
noncomputable abbrev Cx.to (X:Cx)(A:Around)(c:Bool)(XE:Value->Shared->Prop):Cx:={ X with A:=A,calm:=c,xe:=XE }
section
variable {X:Cx}{pins:List (Addr×Obj)}{σ:St}{H:Hp}{s:Shared}
theorem Inv.to (I:Inv X pins σ H s){A:Around}{c:Bool}{XE:Value->Shared->Prop}(hA:A.frames=X.A.frames)(hc:c=true->A.handled=none):Inv (X.to A c XE) pins σ H s :=
 ⟨⟨I.ok.mod,I.ok.kind,I.ok.glob,I.ok.blt,I.ok.above,I.ok.inj,I.ok.has,I.ok.cab,hc,hA.trans I.ok.frames,I.ok.stk,I.ok.exf,I.ok.bs,I.ok.bsz,I.ok.noex,I.ok.exfs,I.ok.funs,I.ok.frf⟩,I.os,I.bare,I.base,I.loc,I.cell,I.free,I.freeC,I.pin,I.hok,I.len⟩
theorem Inv.back {A:Around}{c:Bool}{XE:Value->Shared->Prop}(I:Inv (X.to A c XE) pins σ H s)(ok:X.Ok):Inv X pins σ H s :=
 ⟨ok,I.os,I.bare,I.base,I.loc,I.cell,I.free,I.freeC,I.pin,I.hok,I.len⟩
end
section
variable {X:Cx}{k:Nat}{x:Str}{ps:List Str}{sp:Sp}{p pos np cpos:Pos}{e:Expr}{es:List Expr}{t:TA}
theorem Ls (C:Dq X.prog X.w X.K X.mg X.base k x ps sp)(hr:Room k X.A)(ha:∀ XE,QA (X.to X.A X.calm XE) (e::es) t)(hg:Gl X x:=by rfl)(hdb:(x == ("__debug__" : Str))=false:=by decide)
  (he:starEach (e::es) X.env=(false,eval e X.env)::starEach es X.env:=by rfl) (hpl:(backTo pos (starEach es X.env)).any (·.1)=false:=by rfl):QX X (.Call (.Name x p) (e::es) [] pos) (fun σ H Q E=>t σ H fun vs H1=>sp vs H1 Q E):=by
 obtain ⟨f,fd,F,hm,hk,hb⟩:=C.ex
 refine ⟨fun pins s σ H Q E I h=>?_⟩
 refine To (Hf I hg hm ?_ hdb)
 refine Vf (h₀:=X.base) I.ok.mod.kin hk (Aj ((ha (XP X pins σ E)).run pos pins s σ H _ (I.to rfl I.ok.hd) h) fun us s1 zq=>?_) he hpl
 obtain ⟨vs,H1,I1,r,q⟩:=zq
 refine ⟨(I1.back I.ok).kIn,?_⟩
 have I1:=I1.back I.ok
 have hl:us.length=ps.length:=by rw [<- r.length];exact F.len _ _ _ _ q
 have hb':=hb s1 us I1.kIn (by simpa using hl)
 rw [Qx] at hb'
 refine Sf (Sz (F.run X.A X.stack s1 H1 ⟨us,[]⟩ us vs Q E hr I1.env0 hb' r q) fun r s' hq=>?_)
 cases r with
 | error e=>exact ⟨H1,s1,I1,hq⟩
 | ok fl =>
  cases fl with
  | ret u=>exact I1.after hq
  | next=>exact Qh hq
  | brk=>exact Qh hq
  | cont=>exact Qh hq
theorem Nc {i:Nat}{t:TX}{pos':Pos}(hN:X.N.Nodup)(hi:X.N[i]?=some x)(hx:Em X.env.scope x)(he:QX X e t)(hs:swapsWith e (some (.Name x pos')) pos.line X.env=pure false:=by rfl)(hf:X.fn x=true\/X.env.scope.names.lookup x=some .local:=by first | exact .inl rfl | exact .inr rfl | assumption) :
  QXS X [.Assign [.Name x pos'] e pos] (fun D E σ H=>t σ H (fun v H1=>D.nx (σ.set i (some v)) H1) (E σ)):=by
 refine ⟨fun pins s σ H D E I h=>?_⟩
 refine Vl (Q0 (wpAny_Assign_Name (Q:=SP X pins D) (Aj (he.run pins s σ H _ (E σ) I h) fun v s1 ⟨y,H1,I1,r1,q1⟩=>Hm I1 hN hi hx r1 (fun s2 I2=>⟨_,H1,I2,q1⟩) hf) hs) (fun f s1 q=>?_) fun ev s1 q=>⟨σ,q⟩)
 cases f with
 | next=>exact Sa q
 | ret v=>exact q
 | brk=>exact q
 | cont=>exact q
end
structure Nd (K:Pk)(C:Addr):Prop where
 ty:Qo K (.ref C)=some (.type "type")
 cl:(R6 K C).isSome=true
 bs:Pz K (.ref C) (.type "BaseException")=some true
theorem Zcq {K:Pk}{M:Model}{h:Heap}{C:Addr}(X:K.In h)(e:(R6 K C).isSome=true):R7 M h (isType (.ref C)) true:=by
 unfold R6 at e
 split at e
 ·rename_i c' d' cd' sl' ho
  intro A' Q' E' s' k q
  unfold isType loadHead
  exact Pl (Um (k _ _ (X _ _ ho)) (Pm q))
 ·cases e
theorem Zir {K:Pk}{M:Model}{A:Around}{E:Value->Shared->Prop}{s:Shared}{Q:Bool->Shared->Prop}{e C C':Addr}{oe:Obj}(X:K.In s.heap)(c:Nd K C)(he:s.heap.get? e=some oe)(hcls:oe.cls=.ref C')(hs:Pz K (.ref C') (.ref C)=some true)(h:Q true s) :
  wpAny M A (excMatches (.ref e) (.ref C)) Q E s:=by
 have L1:R7 M s.heap (typeOf (.ref C)) (.type "type"):=PySem.W.looks_typeIn X c.ty
 have L2:R7 M s.heap (isType (.ref C)) true:=Zcq X c.cl
 have L3:=Wo (M:=M) X c.bs
 have L4:R7 M s.heap (typeOf (.ref e)) (.ref C'):=by
  intro A' Q' E' s' k q
  unfold typeOf
  exact Pl (Um (k _ _ he) (Pm (by rw [hcls];exact q)))
 have L5:=Wo (M:=M) X hs
 have f:=tc_notTuple
 unfold excMatches
 unfold isInstance isExcClass
 repeat (first | with_reducible refine L1.here ?_ | with_reducible refine L2.here ?_ | with_reducible refine L3.here ?_ | with_reducible refine L4.here ?_ | with_reducible refine L5.here ?_ | wp_step)
 exact h
section
variable {X:Cx}{pins:List (Addr×Obj)}{σ:St}{H:Hp}{s:Shared}
theorem Ll {M:Model}{A:Around}{E:Value->Shared->Prop}{i:Nat}{n:Str}{hpos:Pos}{Q:Unit->Shared->Prop}(I:Inv X pins σ H s)(hN:X.N.Nodup)(hi:X.N[i]?=some n)(hk:X.env.scope.names.lookup n=some .local)
  (h:∀ s',Inv X pins (σ.set i none) H s'->Q () s'):wpAny M A (do bindName X.env n .none;unbindBehindTheSuite X.env n hpos) Q E s:=by
 obtain ⟨m,hn,hl⟩:=id I.loc
 have hcls:(X.env.scope.kind == .class || (X.env.scope.kind == .module && X.env.locals != X.env.globals))=false:=by rw [I.ok.kind];rfl
 have cne:=I.cne
 obtain ⟨oL,_,_,hoL,_⟩:=id hn
 refine wpAny_nameGoes_keeps hk hn hcls fun h' v hn' hs=>?_
 have hok:HOk X.prog X.w H h':=fun b ob e=>by
  refine (I.hok b ob e).stay (fun c w' hc q=>(hs.2 c ?_).trans q) (fun _ q=>q) fun _ _ q=>q
  rintro rfl
  rcases hc with rfl | hc
  ·rw [I.free] at e;cases e
  ·rw [I.free] at hc;cases hc
 refine h _ ⟨I.ok,I.os,I.bare,⟨fun b o e n hb hx=>?_,fun b o e n hb hx=>?_,I.base.free,fun b o e hx=>?_,I.base.tups,I.base.frzs,I.base.tbls⟩,⟨_,hn',fun j y v' e1 e2 e3=>?_⟩,fun y c e=>?_,I.free,I.freeC,fun p hp=>?_,hok,by simpa using I.len⟩
 ·exact (hs.2 b (P0 (P7 (Pr e) I.ok.above))).trans (I.base.keep b o e n hb hx)
 ·obtain ⟨sl,e1⟩:=I.base.slot b o e n hb hx
  exact ⟨sl,(hs.2 b (P0 (P7 (Pr e) I.ok.above))).trans e1⟩
 ·obtain ⟨o',e1⟩:=I.base.there b o e hx
  exact ⟨o',(hs.2 b (P0 (P7 (Pr e) I.ok.above))).trans e1⟩
 ·by_cases hj:j=i
  ·subst hj
   have hiσ:j < σ.length:=by rw [I.len];exact (Pt.mp hi).1
   rw [R1 hiσ] at e2
   cases e2
  ·rw [Sm (Qa hj)] at e2
   obtain ⟨u',r',q⟩:=hl j y v' e1 e2 e3
   refine ⟨u',r',?_⟩
   rcases q with ⟨k,e⟩ | ⟨k,c,e,z⟩
   ·refine .inl ⟨k,?_⟩
    have:y≠n:=fun e=>hj (O3 hN e1 (e ▸ hi))
    simp [this,e]
   ·exact .inr ⟨k,c,e,z.sameBut hs (cne y c e)⟩
 ·obtain ⟨w',z⟩:=I.cell y c e
  exact ⟨w',z.sameBut hs (cne y c e)⟩
 ·obtain ⟨e,n,ne,nf,d⟩:=I.pin p hp
  exact ⟨(hs.2 p.1 ne).trans e,n,ne,nf,d⟩
end
section
variable {X:Cx}{c n:Str}{np hpos pos:Pos}{body hbody:List Stmt}{b₀:Stmt}{tb:Fk}{th:TS}{i:Nat}{C:Addr}
noncomputable def Ends.gone (D:Ends)(i:Nat):Ends:={ nx:=fun σ H=>D.nx (σ.set i none) H,rt:=D.rt,bk:=fun σ H=>D.bk (σ.set i none) H,ct:=fun σ H=>D.ct (σ.set i none) H }
end
theorem Ff (self:Value):refuseLoop self "__setattr__" VE=pure ():=by kernel_rfl
noncomputable def G9:List Value->Bool
 | .ref _::r=>G9 r
 | l=>l == VE
theorem Zc8 (self:Value):∀{l:List Value},G9 l=true->refuseLoop self "__setattr__" l=pure ()
 | [],e=>by cases e
 | .ref c::r,e=>by rw [refuseLoop_ref];exact Zc8 self e
 | .none::r,e=>by rw [beq_iff_eq.mp (show (_ == _)=true from e)];exact Ff self
 | .ellipsis::r,e=>by rw [beq_iff_eq.mp (show (_ == _)=true from e)];exact Ff self
 | .notImplemented::r,e=>by rw [beq_iff_eq.mp (show (_ == _)=true from e)];exact Ff self
 | .bool _::r,e=>by rw [beq_iff_eq.mp (show (_ == _)=true from e)];exact Ff self
 | .int _ _::r,e=>by rw [beq_iff_eq.mp (show (_ == _)=true from e)];exact Ff self
 | .float _ _::r,e=>by rw [beq_iff_eq.mp (show (_ == _)=true from e)];exact Ff self
 | .str _ _::r,e=>by rw [beq_iff_eq.mp (show (_ == _)=true from e)];exact Ff self
 | .bytes _ _::r,e=>by rw [beq_iff_eq.mp (show (_ == _)=true from e)];exact Ff self
 | .type _::r,e=>by rw [beq_iff_eq.mp (show (_ == _)=true from e)];exact Ff self
 | .builtin _::r,e=>by rw [beq_iff_eq.mp (show (_ == _)=true from e)];exact Ff self
theorem Ly:∀{l:List Value},G9 l=true->l.contains (.type "object")=true/\l.contains (.type "BaseException")=true:=by
 intro l
 induction l with
 | nil=>intro e;cases e
 | cons c r ih =>
  intro e
  cases c with
  | ref a=>obtain ⟨x,y⟩:=ih e;exact ⟨by rw [List.contains_cons,x,Bool.or_true],by rw [List.contains_cons,y,Bool.or_true]⟩
  | _=>rw [beq_iff_eq.mp (show (_ == _)=true from e)];decide
structure ExC (K:Pk)(C:Addr):Prop where
 ov:((R6 K C).any fun cd=>G9 cd.mro)=true
 hd:Vj K C=true
 ga:Qk K (.ref C) "__getattribute__" = some (some (.builtin "BaseException.__getattribute__"))
 gt:Qk K (.ref C) "__getattr__" = some none
 sa:Qk K (.ref C) "__setattr__" = some (some (.builtin "object.__setattr__"))
 dc:Qo K (.ref C)=some (.type "type")
section
open PySem.W PySem.Builtin PySem.Builtin.ObjectAttr
variable {prog:Program}{w:World}{A:Around}{E:Value->Shared->Prop}{s:Shared}{K:Frag}{x C:Addr}{ox:Obj}{od:Option Obj}{name:Str}{R:Result->Shared->Prop}
theorem Zlc {tk:Tok}{v:Value}(X:K.In s.heap)(I:Sb s.heap x ox C od)(c:ExC K C)(ht:takerIn K C name=some none)
  (h:∀ b,wpAny (model prog w) A.in1 (storeInOwnDict (.ref x) (.ref C) (.str name tk) name v b)
   (fun fin s'=>match fin with | .done f=>R (.ok f) s' | .again c'=>c'.quiet=true/\codeAny (model prog w) A c' R s') (fun e s'=>R (.error e) s') s) :
  codeAny (model prog w) A (.call (.builtin "object.__setattr__") ⟨[.ref x,.str name tk,v],[]⟩) R s:=by
 have SF:=PySem.F.store_object
 obtain ⟨cd,hc,ho⟩:=any_some c.ov
 have ne:cd.mro.isEmpty=false:=by cases q:cd.mro with | nil=>rw [q] at ho;cases ho | cons _ _=>rfl
 have sub:Looks (model prog w) s.heap (isInstance (.ref x) (.type "object")) true:=I.type.andThen (looks_mroIn X (by unfold mroIn;rw [hc,Ss,if_neg (by rw [ne];decide),(Ly ho).1]))
 refine Wk SF.slot.plain SF.entry (@check_slot (model prog w) _ _ s "object.__setattr__" "object" "__setattr__" (.ref x) [.str name tk,v] [] _ SF.kind SF.split sub (SF.args (.ref x) (.str name tk) v) ?_)
 obtain ⟨attr,ha,hr⟩:=Option.bind_eq_some_iff.mp ht
 have hm:Looks (model prog w) s.heap (mroOf (.ref C)) cd.mro:=(looks_clsIn X hc).andThen .now
 have L3:Looks (model prog w) s.heap (storeTaker? attr) none:=by
  cases attr with
  | none=>exact .now
  | some a =>
   obtain ⟨b,hb,hz⟩:=Wf.mp hr
   refine (looks_takesIn X hb).andThen ?_
   cases b
   ·exact .now
   ·cases hz
 rw [osa_eq,refuse_eq]
 refine Pl (Pl (I.type.here (Pl (hm.here ?_))))
 rw [Zc8 _ ho]
 refine Pm (Pl (I.type.here (Pl ((looks_findIn X ha).here (Pl (L3.here ?_))))))
 exact h _
theorem Zm0 {expr:Bool}{v:Value}{Q:Value->Shared->Prop}(X:K.In s.heap)(I:Sb s.heap x ox C od)(c:ExC K C)(hf:findObj K C od name=some (.value v))(hh:handedIn v=true)(h:Q v { s with toks:=s.toks+1 }) :
  wpAny (model prog w) A (getAttr (.ref x) name expr) Q E s:=by
 obtain ⟨hp,g,d,t,os⟩:=s
 have L0:=I.type (M:=model prog w)
 have L1:=looks_findIn (M:=model prog w) X c.ga
 have L2:=looks_findIn (M:=model prog w) X c.gt
 have L3:=looks_find (M:=model prog w) X I hf
 have L4:Looks (model prog w) hp (isInstance (.ref x) (.type "BaseException")) true:=by
  obtain ⟨cd,hc,ho⟩:=any_some c.ov
  have ne:cd.mro.isEmpty=false:=by cases q:cd.mro with | nil=>rw [q] at ho;cases ho | cons _ _=>rfl
  exact I.type.andThen (looks_mroIn X (by unfold mroIn;rw [hc,Ss,if_neg (by rw [ne];decide),(Ly ho).2]))
 have f3:=U3.ga.bind (.ref x)
 have hx0:(expr && onTheHeap (Value.builtin "BaseException.__getattribute__"))=false:=by cases expr <;> rfl
 have hx2:(Value.builtin "BaseException.__getattribute__" == Value.builtin "object.__getattribute__")=false:=by decide +kernel
 have hx1:(onTheHeap (Value.ref C) && Value.builtin "BaseException.__getattribute__" == Value.builtin "object.__getattribute__")=false:=by rw [hx2];rfl
 unfold getAttr getAttrBy
 refine Pl (wpAny_mkText (Ql (Pl (L0.at (Pl (L1.at ?_))))))
 dsimp only
 rw [hx1]
 simp only [R4,if_false]
 unfold getAttrByItsOwn hookBefore callGetattribute
 rw [if_pos (show onTheHeap (Value.ref C)=true from rfl),hx0]
 refine Pl (L2.at ?_)
 simp only [R4,if_false]
 unfold boundAndCalled
 rw [f3]
 have hk:builtinKind "BaseException.__getattribute__" = some .slot:=by decide +kernel
 have hsplit:splitId "BaseException.__getattribute__" = some ("BaseException", "__getattribute__"):=by decide +kernel
 refine Pl (Rx (Ql (Pl (Pm (Sf (Wk U3.ga.plain PySem.F.entry_bexc_ga (@check_slot (model prog w) _ _ ⟨hp,g,d,t+1,os⟩ "BaseException.__getattribute__" "BaseException" "__getattribute__" (.ref x) [.str name t] [] _ hk hsplit L4 (PySem.F.args_bexc_ga (.ref x) (.str name t)) ?_)))))))
 show wpAny _ _ (Builtin.«object.__getattribute__» ⟨[.ref x,.str name t],[]⟩) _ _ _
 refine Pl (Pm (Pl (Pm (Pl (L0.at (Pl (L3.at ?_)))))))
 refine Pm ?_
 show wpAny _ _ (handedOut v) _ _ _
 rw [handedOut_of hh];exact Pm h
end
noncomputable def Ef (a:Addr)(cls:Value)(od:Option Addr):HO:=.ext fun h=>Fs h a cls od
theorem Zh2 {P:Program}{w:World}{H:Hp}{h:Heap}{a:Addr}{cls:Value}{od:Option Addr}(x:Fs h a cls od):ObjOk P w H h a (Ef a cls od):=by
 obtain ⟨oe,vs,a1,a2⟩:=id x
 refine ⟨x,⟨oe,a1⟩,fun h1 h2 q k=>?_⟩
 obtain ⟨o,vs,q1,q2⟩:=q
 exact ⟨o,vs,k o q1,q2⟩
theorem Zan {P:Program}{w:World}{H:Hp}{h:Heap}{a:Addr}{cls:Value}{od:Option Addr}(x:ObjOk P w H h a (Ef a cls od)):Fs h a cls od:=x.1
theorem Zcl {P:Program}{w:World}{H:Hp}{h:Heap}{a:Addr}{cls:Value}{od:Option Addr}(x:ObjOk P w H h a (Ca a cls od)):∃ o vs,h.get? a=some o/\o.cls=cls/\o.dict=od/\o.data=.fields vs:=let ⟨o,vs,a,b,c,d,_⟩:=x.1;⟨o,vs,a,b,c,d⟩
noncomputable def del (H:Hp)(a:Addr):Hp:=fun b=>if b=a then none else H b
theorem Zdi {H:Hp}{a:Addr}:del H a a=none:=by unfold del;rw [if_pos rfl]
theorem Nn {H:Hp}{a b:Addr}(h:b≠a):del H a b=H b:=by unfold del;rw [if_neg h]
section
variable {X:Cx}{pins:List (Addr×Obj)}{σ:St}{H:Hp}{s:Shared}
theorem Inv.del {a:Addr}{φ:Heap->Prop}(I:Inv X pins σ H s)(h0:X.s₀.heap.get? a=none)(e:H a=some (.ext φ)):Inv X pins σ (L2.del H a) s:=by
 have fr:∀ b,H b=none->L2.del H a b=none:=fun b q=>by
  unfold L2.del;split
  ·rfl
  ·exact q
 have st:∀ b o,H b=some o->(∀ φ,o≠.ext φ)->L2.del H a b=some o:=fun b o q n=>by
  rw [Nn fun z=>by rw [z,e] at q;cases q;exact n φ rfl]
  exact q
 refine ⟨I.ok,I.os,I.bare,⟨I.base.keep,I.base.slot,fun b o q n hx=>fr b (I.base.free b o q n hx),I.base.there,fun b xs q=>st b _ (I.base.tups b xs q) (by intro φ z;cases z),fun b o u q=>st b _ (I.base.frzs b o u q) (by intro φ z;cases z),fun b ps q=>?_⟩,I.loc,I.cell,fr _ I.free,fun x c q=>fr _ (I.freeC x c q),fun p hp=>?_,fun b o q=>?_,I.len⟩
 ·obtain ⟨more,z⟩:=I.base.tbls b ps q
  exact ⟨more,st b _ z (by intro φ z;cases z)⟩
 ·obtain ⟨q1,q2,q3⟩:=I.pin p hp
  exact ⟨q1,fr _ q2,q3⟩
 ·have hb:b≠a:=fun z=>by rw [z,Zdi] at q;cases q
  rw [Nn hb] at q
  exact (I.hok b o q).stay (fun _ _ _ z=>z) (fun c z=>st c _ z (by intro φ z;cases z)) fun c xs z=>st c _ z (by intro φ z;cases z)
end
section
variable {X:Cx}{pins:List (Addr×Obj)}{σ:St}{H:Hp}{s:Shared}{a C:Addr}{f:Str}{A:Around}{E:Value->Shared->Prop}
open PySem.W PySem.Builtin PySem.Builtin.ObjectAttr
theorem Zpu {y:V}{u:Value}{Q:Unit->Shared->Prop}(I:Inv X pins σ H s)(e:H a=some (Ef a (.ref C) none))(c:ExC X.K C)(n:NoAttr X.K C f)(ry:RelV y u)
  (h:∀ d s',H d=none->d≠a->Inv X pins σ (upd (upd H d (.xd [(f,y)])) a (Ef a (.ref C) (some d))) s'->Q () s'):wpAny (model X.prog X.w) A (setAttr (.ref a) f u) Q E s:=by
 obtain ⟨oe,vs,a1,a2,a3,a4,a5⟩:=Zan (I.hok a _ e)
 have J:Sb s.heap a oe C none:=⟨a1,a2,by unfold notCls;rw [a4],by rw [a3];trivial⟩
 refine PySem.W.set_plain I.kIn J c.sa (Zlc (s:={ s with toks:=s.toks+1 }) I.kIn J c n.taker fun b=>?_)
 obtain ⟨cd,hc,hd'⟩:=PySem.W.any_some c.hd
 obtain ⟨oc,odi,oda,osl⟩:=oe
 dsimp only at a2 a3 a4
 subst a2 a3 a4
 refine Pl (Pm (Pl (Pl (Um a1 (Pl (R7.here (s:={ s with toks:=s.toks+1 }) (PySem.W.looks_clsIn I.kIn hc) ?_))))))
 rw [hd']
 show wpAny _ _ (alloc { cls:=Value.type "dict",data:=Data.dict #[] } >>= fun d=>update a (fun o=>{ o with dict:=some d }) >>= fun _=>dictMade (.ref C) a d) _ _ _
 have sz:a < s.heap.objs.size:=Pr a1
 have ne:s.heap.objs.size≠a:=Qy sz
 generalize hoD:({ cls:=Value.type "dict",data:=Data.dict #[] }:Obj)=oD
 have fD:oD.isFreed=false:=by rw [<- hoD];rfl
 refine Pl (wpAny_alloc ?_)
 have b1:(s.heap.push oD).get? a=some { cls:=Value.ref C,data:=Data.fields vs,slots:=osl }:=Pp _ a1
 refine Pl (wpAny_update b1 ?_)
 refine Pm ?_
 dsimp only
 have b2:((s.heap.push oD).update a fun o=>{ o with dict:=some s.heap.objs.size }).get? a=some { cls:=Value.ref C,dict:=some s.heap.objs.size,data:=Data.fields vs,slots:=osl }:=Rt _ b1 rfl
 have b3:((s.heap.push oD).update a fun o=>{ o with dict:=some s.heap.objs.size }).get? s.heap.objs.size=some oD:=(Q2 _ _ (Qa ne)).trans (P5 _ fD)
 have b4:∀ b o,b≠a->s.heap.get? b=some o->((s.heap.push oD).update a fun o=>{ o with dict:=some s.heap.objs.size }).get? b=some o:=fun b o hb q=>(Q2 _ _ (Qa hb)).trans (Pp _ q)
 generalize ((s.heap.push oD).update a fun o=>{ o with dict:=some s.heap.objs.size })=h1 at b2 b3 b4 ⊢
 have n0:h1.Ns s.heap.objs.size (fun _=>none):=⟨oD,#[],_,b3,by rw [<- hoD],(fun e he=>absurd he (by simp)),fun _=>rfl⟩
 have n1:h1.Ns1 s.heap.objs.size (fun _=>none):=Heap.Ns1.of_empty n0
 unfold storeInDict
 refine Pl (Pm (Pl ?_))
 refine wpAny_nsSet1 (s:=⟨h1,s.gens,s.drawn,s.toks+1,s.os⟩) n1 fun h2 hn2 hs2=>?_
 obtain ⟨oD2,esD,epD,hoD2,hdD,hcD⟩:=hn2.count (PySem.Within.cons (ns:=[]) f u fun y hy=>absurd rfl hy)
 refine Pl (wpAny_lookBehind hoD2 (by rw [hdD];exact pastItsLine_dict (Qr hcD (by rw [Py];decide))) ?_)
 refine Pm (h s.heap.objs.size _ (I.hok.fresh (Po _)) ne ?_)
 have fD2:oD2.isFreed=false:=by
  obtain ⟨c0,d0,t0,s0⟩:=oD2
  dsimp only at hdD
  subst hdD
  rfl
 have k1:=P5 s.heap fD2
 have n2:(s.heap.push oD2).Ns1 s.heap.objs.size (fun x=>if x=f then some u else none):=by
  refine hn2.at fun o q=>?_
  rw [hoD2] at q
  cases q
  exact k1
 have I1:=I.laid (a:=s.heap.objs.size) (o:=.xd [(f,y)]) (h':=s.heap.push oD2) (t':=s.toks) (fun b u q=>Pp _ q) (Po _) ⟨_,n2,fun g=>by
  by_cases q:g=f
  ·rw [if_pos q,q,List.lookup_cons_self];exact ry
  ·rw [if_neg q]
   have:(g == f)=false:=by simpa using q
   rw [R5,this]
   exact True.intro⟩
 have ne':upd H s.heap.objs.size (.xd [(f,y)]) a=some (Ef a (.ref C) none):=by rw [Ag (Qa ne)];exact e
 refine I1.write (x:=a) (e:=a) (h':=h2) (t':=s.toks+1+1) (by rw [ne'];exact True.intro) (.inl rfl) (fun b w hb q=>?_) ⟨_,(hs2.2 a (Qa ne)).trans b2⟩ (Zh2 ⟨_,vs,(hs2.2 a (Qa ne)).trans b2,rfl,rfl,rfl,a5⟩)
 by_cases hb2:b=s.heap.objs.size
 ·rw [hb2] at q ⊢
  rw [k1] at q
  rw [<- q]
  exact hoD2
 ·have q':s.heap.get? b=some w:=by
   rw [Heap.get?_push_ne _ _ _ hb2] at q
   exact q
  exact (hs2.2 b hb2).trans (b4 b w hb q')
theorem Zrl {expr:Bool}{d:Addr}{fs:List (Str×V)}{v:V}{Q:Value->Shared->Prop}(I:Inv X pins σ H s)(e:H a=some (Ca a (.ref C) (some d)))(ed:H d=some (.xd fs))(c:ExC X.K C)(n:NoAttr X.K C f)(l:fs.lookup f=some v)
  (h:∀ u s',Inv X pins σ H s'->RelV v u->Q u s'):wpAny (model X.prog X.w) A (getAttr (.ref a) f expr) Q E s:=by
 obtain ⟨oe,vs,a1,a2,a3,a4⟩:=Zcl (I.hok a _ e)
 obtain ⟨mA,nA,r⟩:=I.hok d _ ed
 obtain ⟨od,hod,hl⟩:=Zb4 nA
 obtain ⟨u,hu,ru⟩:=RelO.some_of (v:=v) (o:=mA f) (by rw [<- l];exact r f)
 have J:Sb s.heap a oe C (some od):=⟨a1,a2,by unfold notCls;rw [a4],by rw [a3];exact hod⟩
 exact Zm0 I.kIn J c (PySem.W.findObj_own c.hd n rfl (by rw [hl,hu])) (Ztr ru) (h u _ (I.tok _) ru)
end
section
variable {X:Cx}{o e value:Expr}{f:Str}{pos pos':Pos}{ta tv:TE}
noncomputable def Zqz (K:Pk)(ta tv:TE)(f:Str):TS:=fun D σ H=>tv σ H fun y H1=>ta σ H1 fun x H2=>∃ a C,x=.ref a/\H2 a=some (Ef a (.ref C) none)/\ExC K C/\NoAttr K C f/\∀ d,H2 d=none->d≠a->D.nx σ (upd (upd H2 d (.xd [(f,y)])) a (Ef a (.ref C) (some d)))
theorem Zru (ha:QE X o ta)(hv:QE X value tv)(hs:swapsWith value (some (.Attribute o f pos')) pos.line X.env=pure false:=by rfl):QS X (.Assign [.Attribute o f pos'] value pos) (Zqz X.K ta tv f):=by
 refine ⟨fun pins s σ H D I h=>?_⟩
 refine plainObj_wpAny_Assign_Attribute (Aj (hv.run pins s σ H _ I h) fun u s1 zq=>?_) hs
 obtain ⟨y,H1,I1,ry,q⟩:=zq
 refine Aj (ha.run pins s1 σ H1 _ I1 q) fun ov s2 zq=>?_
 obtain ⟨x,H2,I2,rx,a,C,ex,ea,c,n,q2⟩:=zq
 subst ex
 obtain rfl:ov=Value.ref a:=rx
 exact Zpu I2 ea c n ry fun d s3 hd hda I3=>⟨σ,_,I3,q2 d hd hda⟩
noncomputable def Zfg (K:Pk)(ta:TE)(f:Str):TE:=fun σ H Q=>ta σ H fun x H1=>∃ a C d fs v,x=.ref a/\H1 a=some (Ca a (.ref C) (some d))/\H1 d=some (.xd fs)/\ExC K C/\NoAttr K C f/\fs.lookup f=some v/\Q v H1
theorem Znh (he:QE X e ta)(hb:attributeBase e f X.env (eval e X.env)=eval e X.env:=by rfl):QE X (.Attribute e f pos) (Zfg X.K ta f):=by
 refine ⟨fun pins s σ H Q I h=>?_⟩
 refine Zkv hb (Aj (he.run pins s σ H _ I h) fun u s1 zq=>?_)
 obtain ⟨x,H1,I1,rx,a,C,d,fs,v,ex,ea,ed,c,n,l,q⟩:=zq
 subst ex
 obtain rfl:u=Value.ref a:=rx
 exact Zrl I1 ea ed c n l fun u' s2 I2 ru=>⟨v,H1,I2,ru,q⟩
end
section
open PySem.W
end
structure Zaz (K:Pk)(C:Addr):Prop where
 ex:∃ bm dd nm bs ns qn hd sn sub ab col k0 k1 k2 k3 k5,K.lookup C=some (excClassObj nm qn C ns bs bm hd sn sub ab col dd k0 k1 k2 k3 k5 "ValueError.__new__")/\Sc K VE bm=true
theorem Zl7 {K:Pk}{C:Addr}(q:Zaz K C) :
  ∃ bm N nm q bs hdct sn sub ab col dd k0 k1 k2 k3 k5,∀ h:Heap,K.In h->h.get? C=some (excClassObj nm q C N bs bm hdct sn sub ab col dd k0 k1 k2 k3 k5 "ValueError.__new__")/\OwnTail h VE bm:=by
 obtain ⟨bm,dd,nm,bs,ns,qn,hd,sn,sub,ab,col,k0,k1,k2,k3,k5,ho,ht⟩:=q.ex
 exact ⟨bm,ns,nm,qn,bs,hd,sn,sub,ab,col,dd,k0,k1,k2,k3,k5,fun h kin=>⟨kin _ _ ho,PySem.W.tail_of_in kin ht⟩⟩
section
variable {prog:Program}{w:World}{A:Around}{E:Value->Shared->Prop}{h:Heap}{g:Array GenState}{d:Drawn}{t:Nat}{os:OsState}
variable {nm q:Str}{C N:Addr}{bs bm bmB:List Value}{hdct:Bool}{sn:List Str}{sub:List Value}{ab:Bool}{col:Option Bool}{dd:Option Addr}{k0 k1 k2 k3 k5:Option Value}{B Bn newId nid initId inN:String}{bmN:List Value}
theorem Zi6 {K:Pk}(Fn:ExcBaseFacts Bn newId inN bmN)(hBn:bmB.contains (.type Bn)=true)(F:ExcBaseFacts B nid initId bmB)(T:OwnTail h bmB bm){rest:List Value}{fI:Addr}{Q:Fin->Shared->Prop}(X:K.In h)
  (hC:h.get? C=some (excClassObj nm q C N bs bm hdct sn sub ab col dd k0 k1 k2 k3 k5 newId)) (hi:Qk K (.ref C) "__init__" = some (some (.ref fI))) (hf:Qo K (.ref fI)=some (.type "function"))
  (hq:∀ h' e,Heap.MadeExcOf h h' e (.ref C) rest ->
   wpAny (model prog w) A (call (.ref fI) (.ref e::rest)) (fun r s'=>r=.none/\Q (.done (.ret (.ref e))) s') E ⟨h',g,d,t,os⟩) (hrest:rest.length<=sizeLine:=by size_fits) :
  wpAny (model prog w) A (Builtin.«type.__call__» ⟨.ref C::rest,[]⟩) Q E ⟨h,g,d,t,os⟩:=by
 repeat (first | with_reducible refine Ww hC ?_ | with_reducible refine wpAny_madeBy_exc hC ?_ | wp_step)
 refine codeAny_call_builtin_code (Code.quiet_builtin _ Fn.quiet) (wpAny_check_new_subU Fn hBn T hC ?_)
 refine codeAny_exc_new_subU Fn hBn F T hC ?_ hrest
 show wpAny _ _ _ _ _ _
 have hC₁:=Pp { cls:=.ref C,data:=.fields #[.ref h.objs.size,.none,.none,.none,.bool false,.none] }
  (Pp { cls:=.type "tuple",data:=.seq rest.toArray } hC)
 have hget:((h.push { cls:=.type "tuple",data:=.seq rest.toArray }).push
   { cls:=.ref C,data:=.fields #[.ref h.objs.size,.none,.none,.none,.bool false,.none] }).get? (h.objs.size+1)=some
   { cls:=.ref C,data:=.fields #[.ref h.objs.size,.none,.none,.none,.bool false,.none] }:=by heap_get
 have hcC:(Value.ref C::bm).contains (.ref C)=true:=by simp
 have X₁:K.In ((h.push { cls:=.type "tuple",data:=.seq rest.toArray }).push { cls:=.ref C,data:=.fields #[.ref h.objs.size,.none,.none,.none,.bool false,.none] }):=fun b o e=>Pp _ (Pp _ (X b o e))
 unfold isInstance
 repeat (first | with_reducible refine Ww hget ?_ | (with_reducible refine wpAny_isSubtype_exc hC₁ ?_;rw [hcC]) | wp_step)
 show wpAny _ _ (typeLookup (.ref C) _) _ _ _
 refine (PySem.W.looks_findIn X₁ hi).at ?_
 refine Ql (Pl ((PySem.W.bind_fn X₁ _ hf).at ?_))
 refine Pl (Q0 (hq _ (h.objs.size+1) ⟨fun b o hb=>Pp _ (Pp _ hb),Sl (Ta _),h.objs.size,hget,Sl (Po _),?_⟩) (fun r s' hr=>?_) fun _ _ x=>x)
 ·exact Pp _ (Heap.get?_push_at rfl rfl)
 ·obtain ⟨rfl,hQ⟩:=hr
  wp_walk
  exact hQ
theorem Zlw {K:Pk}(Fn:ExcBaseFacts Bn newId inN bmN)(hBn:bmB.contains (.type Bn)=true)(F:ExcBaseFacts B nid initId bmB)(T:OwnTail h bmB bm){rest:List Value}{fI:Addr}{Q:Value->Shared->Prop}(X:K.In h)
  (hC:h.get? C=some (excClassObj nm q C N bs bm hdct sn sub ab col dd k0 k1 k2 k3 k5 newId)) (hi:Qk K (.ref C) "__init__" = some (some (.ref fI))) (hf:Qo K (.ref fI)=some (.type "function"))
  (hq:∀ h' e,Heap.MadeExcOf h h' e (.ref C) rest ->
   wpAny (model prog w) (A.under (.builtin "type.__call__" ⟨.ref C::rest,[]⟩)) (call (.ref fI) (.ref e::rest)) (fun r s'=>r=.none/\Q (.ref e) s') E ⟨h',g,d,t,os⟩) (hrest:rest.length<=sizeLine:=by size_fits) :
  wpAny (model prog w) A (call (.ref C) rest) Q E ⟨h,g,d,t,os⟩:=by
 have f1:=tc_lookup
 have f2:=tc_bind (.ref C)
 have hT:(⟨h,g,d,t,os⟩:Shared).TypeIs (.ref C) "type" := ⟨_,hC,rfl⟩
 refine Sf (codeAny_of_tree ?_)
 show wpAny _ _ (callAny (.ref C) _) _ _ _
 repeat (any_goals (first | assumption | with_reducible refine Ww hC ?_ | wp_step))
 refine ⟨rfl,?_⟩
 refine codeAny_call_builtin_at (Code.quiet_builtin _ (by decide +kernel)) entry_typeCall (wpAny_check_type_call_sub hC (Zi6 (hrest:=hrest) Fn hBn F T X hC hi hf fun h' e hm=>?_))
 exact hq h' e hm
end
theorem Zpj {K:Pk}{M:Model}{A:Around}{E:Value->Shared->Prop}{s:Shared}{env:Env}{x:Sem Value}{Q:Flow->Shared->Prop}{C:Addr}(hh:A.handled=none)(hb:Pz K (.ref C) (.type "BaseException")=some true)(hty:Qo K (.ref C)=some (.type "type"))
  (h:wpAny M A x (fun v s₁=>∃ e od,v=.ref e/\K.In s₁.heap/\Fs s₁.heap e (.ref C) od/\E (.ref e) s₁) E s):wpAny M A (raiseStmt env (some x) none) Q E s:=by
 unfold raiseStmt
 refine Pl (Q0 h (fun v s₁ h₁=>?_) fun _ _ x=>x)
 obtain ⟨e,od,rfl,X,⟨oe,vs,a1,a2,a3,a4,a5⟩,hE⟩:=h₁
 have L3:=Wo (M:=M) X hb
 have L4:R7 M s₁.heap (typeOf (.ref e)) (.ref C):=by
  intro A' Q' E' s' k q
  unfold typeOf
  exact Pl (Um (k _ _ a1) (Pm (by rw [a2];exact q)))
 have L5:R7 M s₁.heap (isInstance (.ref e) (.type "BaseException")) true:=L4.andThen L3
 have L6:R7 M s₁.heap (isType (.ref e)) false:=by
  intro A' Q' E' s' k q
  unfold isType loadHead
  refine Pl (Um (k _ _ a1) ?_)
  rw [a4]
  exact Pm q
 have L7:R7 M s₁.heap (typeOf (.ref C)) (.type "type"):=PySem.W.looks_typeIn X hty
 unfold excFromValue isExcClass raisedInstance
 obtain ⟨hp,g,d,tk,os⟩:=s₁
 repeat (first | with_reducible refine L6.at ?_ | with_reducible refine L5.at ?_ | with_reducible refine L4.at ?_ | with_reducible refine L7.at ?_ | wp_step)
 rw [a4]
 refine Pm ?_
 dsimp only
 rw [a5.1]
 refine Pm ?_
 rw [if_neg (by decide)]
 exact Pm (wpAny_raiseNew_none hh hE)
section
variable {X:Cx}{k:Nat}{x:Str}{sp:Sp}{ps:List Str}{C f:Addr}{fd:FuncData}{np cpos pos:Pos}{a:Expr}{t:TA}{E:XK}
structure Rz (K:Pk)(C f:Addr):Prop where
 ei:Zaz K C
 init:Qk K (.ref C) "__init__" = some (some (.ref f))
 fn:PySem.W.isFn K (.ref f)=true
 kp:Ro K (.ref C)=true
 bs:Pz K (.ref C) (.type "BaseException")=some true
 ty:Qo K (.ref C)=some (.type "type")
noncomputable def tRz (C:Addr)(sp:Sp)(E:XK)(t:TA):TS:=fun D σ H=>t σ H fun vs H1=>vs.length<=sizeLine/\∀ e,H1 e=none->sp (.ref e::vs) (upd H1 e (Ef e (.ref C) none)) (fun v H2=>v=.non/\∃ od,H2 e=some (Ef e (.ref C) od)/\E (.ref C) od (del H2 e)) (fun _ _ _=>False)
theorem Znm (hc:X.calm=true)(R:Rz X.K C f)(F:As X.prog X.w X.K X.mg X.base Az k f fd ps sp)(hr:Room (k+1) X.A)(hb:Binds X.K fd ps [])(G:X.mg x=some (.ref C))(ha:QA X [a] t)(hx:Zha X E)(hex:X.ex=[])(hg:Gl X x:=by rfl)(hdb:(x == ("__debug__" : Str))=false:=by decide)
  (he:starEach [a] X.env=(false,eval a X.env)::starEach [] X.env:=by rfl) (hpl:(backTo cpos (starEach [] X.env)).any (·.1)=false:=by rfl):QS X (.Raise (some (.Call (.Name x np) [a] [] cpos)) none pos) (tRz C sp E t):=by
 refine ⟨fun pins s σ H D I h=>?_⟩
 rw [arm_exec_Raise]
 refine Pl (Sx (Zpj (K:=X.K) (C:=C) (I.ok.hd hc) R.bs R.ty (Pl (Q0 (To (Hf I hg G ?_ hdb)) (fun v s₃ h₃=>Pl (Sx (Pm h₃))) fun _ _ x=>x))))
 refine Vf (h₀:=X.base) I.ok.mod.kin R.kp (Aj (ha.run cpos pins s σ H _ I h) fun us s1 zq=>?_) he hpl
 obtain ⟨vs,H1,I1,r,hz,q⟩:=zq
 refine ⟨I1.kIn,?_⟩
 obtain ⟨bm,N,nm,qn,bs,hdct,sn,sub,ab,col,dd,k0,k1,k2,k3,k5,cl⟩:=Zl7 R.ei
 obtain ⟨cC,cT⟩:=cl _ I1.kIn
 obtain ⟨hp,g,d,tk,os⟩:=s1
 refine Zlw T4 (by decide) T4 cT I1.kIn cC R.init (beq_iff_eq.mp R.fn) (fun h' e hm=>?_) (by show us.length<=sizeLine;rw [<- r.length];exact hz)
 obtain ⟨t',e1,_,_⟩:=hm.there
 have hn:H1 e=none:=I1.hok.no hm.new
 have mk:Fs h' e (.ref C) none:=⟨_,_,e1,rfl,rfl,rfl,rfl,rfl⟩
 have rf:Mvd (Bp X.stack) [] h' h':=⟨fun _ _ _ _ q=>q,fun _ o _ q=>⟨o.slots,q⟩⟩
 have I2:Inv X pins σ (upd H1 e (Ef e (.ref C) none)) ⟨h',g,d,tk,os⟩:=I1.call' (s':=⟨h',g,d,tk,os⟩) (ch:=[]) rfl ((Un.kept hm.keeps).land rf (fun b hb=>absurd hb (by simp)) hm.new hn) ((I1.hok.kept hm.keeps).land rf (fun b hb=>absurd hb (by simp)) (fun b hb=>I1.stkFree b hb) hn (Zh2 mk)) I1.bare (fun b z=>absurd z (by simp))
 have hq:=q e hn
 have r2:Vals (V.ref e::vs) (Value.ref e::us):=.cons rfl r
 have hl:(Value.ref e::us).length=ps.length:=by
  have z:=r2.length
  rw [F.len _ _ _ _ hq] at z
  exact z.symm
 have hb':=hb ⟨h',g,d,tk,os⟩ (Value.ref e::us) I2.kIn (by simpa using hl)
 rw [Qx] at hb'
 refine Sf (Sz (F.run _ X.stack _ _ ⟨Value.ref e::us,[]⟩ (Value.ref e::us) _ _ _ (hr.make C us []) (I2.env0.make C us []) hb' r2 hq) fun r s' hq'=>?_)
 cases r with
 | error e=>exact Qh hq'
 | ok fl =>
  cases fl with
  | ret u =>
   obtain ⟨v,H',I3,rv,ev,od,q3,q4⟩:=I2.after hq'
   subst ev
   obtain rfl:u=Value.none:=rv
   have h0:=I1.old hex hm.new
   exact ⟨rfl,e,od,rfl,I3.kIn,Zan (I3.hok e _ q3),hx pins σ _ s' e _ od (I3.del h0 q3) (Zan (I3.hok e _ q3)) h0 Zdi q4⟩
  | next=>exact Qh hq'
  | brk=>exact Qh hq'
  | cont=>exact Qh hq'
end
theorem Znx {X:Cx}{e:Expr}{f:Str}{pos:Pos}{ta:TE}(K:Pk)(he:QE X e ta)(hK:X.K=K:=by rfl)(hb:attributeBase e f X.env (eval e X.env)=eval e X.env:=by rfl):QE X (.Attribute e f pos) (Zfg K ta f):=by subst hK;exact Znh he hb
structure RoomN (k:Nat)(A:Around):Prop where
 dp:A.depth+3 * k+5 < recursionLimit
 un:A.units+16 * k+200 < cLine
theorem Room.n {k:Nat}{A:Around}(r:Room k A):RoomN k A:=⟨r.dp,r.un⟩
theorem RoomN.mono {j k:Nat}{A:Around}(r:RoomN k A)(h:j<=k):RoomN j A:=⟨by have:=r.dp;omega,by have:=r.un;omega⟩
theorem RoomN.deeper {k:Nat}{A:Around}(r:RoomN (k+1) A)(env:Env):RoomN k (A.deeper env) :=
 ⟨by have:=r.dp;show A.depth+1+3 * k+5 < _;omega,by have:=r.un;show A.units+3+16 * k+200 < _;omega⟩
theorem RoomN.mark {k:Nat}{A:Around}(r:RoomN k A)(e:Value):RoomN k (A.mark (some e)):=⟨r.dp,r.un⟩
section
variable {P:Program}{w:World}{K:Pk}{mg:Str->Option Value}{base:Heap}
end
section
variable {X:Cx}{k:Nat}{x:Str}{ps:List Str}{sp:Sp}{p pos:Pos}{e:Expr}{es:List Expr}{t:TA}
end
structure Ja (K:Pk)(D:Addr):Prop extends ExC K D where
 ca:Qk K (.ref D) "__class__" = some (some (.builtin "object.__class__"))
 cg:Ws K (.builtin "object.__class__") "__get__" = some (some (.builtin "getset_descriptor.__get__"))
 ct:W4 K (.builtin "object.__class__")=some true
section
open PySem.W PySem.Builtin PySem.Builtin.ObjectAttr
variable {prog:Program}{w:World}{A:Around}{E:Value->Shared->Prop}{s:Shared}{K:Frag}{x D:Addr}{ox:Obj}{od:Option Obj}
theorem Zkr {Q:Option Value->Shared->Prop}(X:K.In s.heap)(I:Sb s.heap x ox D od)(c:Ja K D)(h:Q (some (.ref D)) { s with toks:=s.toks+1 }):wpAny (model prog w) A (getAttr? (.ref x) "__class__") Q E s:=by
 obtain ⟨cd,hc,ho⟩:=any_some c.ov
 have ne:cd.mro.isEmpty=false:=by cases q:cd.mro with | nil=>rw [q] at ho;cases ho | cons _ _=>rfl
 have hf:findObj K D od "__class__" = some (.bind (.builtin "getset_descriptor.__get__") (.builtin "object.__class__")):=by
  unfold findObj
  rw [hc,Ss,c.ca,Ss]
  dsimp only
  rw [c.cg,Ss]
  dsimp only
  rw [c.ct]
  rfl
 have hm:mroIn K D (.type "object")=some true:=by unfold mroIn;rw [hc,Ss,if_neg (by rw [ne];decide),(Ly ho).1]
 obtain ⟨hp,g,d,t,os⟩:=s
 have L0:=I.type (M:=model prog w)
 have L1:=looks_findIn (M:=model prog w) X c.ga
 have L2:=looks_findIn (M:=model prog w) X c.gt
 have L3:=looks_find (M:=model prog w) X I hf
 have L4:Looks (model prog w) hp (isInstance (.ref x) (.type "BaseException")) true:=I.type.andThen (looks_mroIn X (by unfold mroIn;rw [hc,Ss,if_neg (by rw [ne];decide),(Ly ho).2]))
 have f3:=U3.ga.bind (.ref x)
 have hx2:(Value.builtin "BaseException.__getattribute__" == Value.builtin "object.__getattribute__")=false:=by decide +kernel
 have hx1:(onTheHeap (Value.ref D) && Value.builtin "BaseException.__getattribute__" == Value.builtin "object.__getattribute__")=false:=by rw [hx2];rfl
 have hk:builtinKind "BaseException.__getattribute__" = some .slot:=by decide +kernel
 have hsplit:splitId "BaseException.__getattribute__" = some ("BaseException", "__getattribute__"):=by decide +kernel
 unfold getAttr? getAttrBy? getAttrBy
 refine Pl (wpAny_mkText (Pl (Rx (Ql (Pl (L0.at (Pl (L1.at ?_))))))))
 dsimp only
 rw [hx1]
 simp only [R4,if_false]
 unfold getAttrByItsOwn hookBefore callGetattribute
 rw [if_pos (show onTheHeap (Value.ref D)=true from rfl)]
 refine Pl (L2.at ?_)
 simp only [Bool.false_and,R4,if_false]
 unfold boundAndCalled
 rw [f3]
 refine Pl (Rx (Ql (Pl (Pm (Sf (Wk U3.ga.plain PySem.F.entry_bexc_ga (@check_slot (model prog w) _ _ ⟨hp,g,d,t+1,os⟩ "BaseException.__getattribute__" "BaseException" "__getattribute__" (.ref x) [.str "__class__" t] [] _ hk hsplit L4 (PySem.F.args_bexc_ga (.ref x) (.str "__class__" t)) ?_)))))))
 show wpAny _ _ (Builtin.«object.__getattribute__» ⟨[.ref x,.str "__class__" t],[]⟩) _ _ _
 refine Pl (Pm (Pl (Pm (Pl (L0.at (Pl (L3.at ?_)))))))
 show wpAny _ _ (holding [.builtin "object.__class__"] (call (.builtin "getset_descriptor.__get__") [.builtin "object.__class__",.ref x,.ref D]) >>= ret) _ _ _
 refine Pl (Ql (Sf (class_get (s:=⟨hp,g,d,t+1,os⟩) (ox:=ox) (od:=od) X I hm (Pm ?_))))
 show wpAny _ _ (handedOut (.ref D)) _ _ _
 rw [handedOut_of rfl]
 exact Pm (Pm h)
theorem Pj (c:Ja K D):KitX K (.ref x) (.ref D) (fun h=>Sb h x ox D od) where
 ty:=fun _ _ _ I=>I.type
 it:=fun _ _ X _=>by
  obtain ⟨cd,hc,_⟩:=any_some c.ov
  exact Zcq X (by rw [hc];rfl)
 ne:=fun h tp dd its n sl X htp=>by
  obtain ⟨cdD,hcD,_⟩:=any_some c.ov
  refine Bool.eq_false_iff.mpr fun q=>?_
  have e:D=tp:=Value.ref.inj (beq_iff_eq.mp q)
  subst e
  unfold clsIn at hcD
  split at hcD
  ·rename_i c' d' cd' sl' ho
   have z:=(X _ _ ho).symm.trans htp
   cases z
  ·cases hcD
 ca:=fun X I k=>Zkr X I c k
end
noncomputable def rIsY (K:Pk):List V->Hp->VK->Prop:=fun xs H Q=>∃ a C C' od b,xs=[.ref a,.ref C]/\H a=some (Ca a (.ref C') od)/\(∀ d,od=some d->∃ fs,H d=some (.xd fs))/\Ja K C'/\Qn K (.ref C') (.ref C)=some b/\Q (.bl b) H
noncomputable def Zpd (K:Pk)(T:String):List V->Hp->VK->Prop:=fun xs H Q=>∃ a C' od b,xs=[.ref a,.ty T]/\H a=some (Ca a (.ref C') od)/\(∀ d,od=some d->∃ fs,H d=some (.xd fs))/\Ja K C'/\Qn K (.ref C') (.type T)=some b/\Q (.bl b) H
section
variable {X:Cx}{pins:List (Addr×Obj)}{σ:St}{H:Hp}{s:Shared}{a C':Addr}{od:Option Addr}
theorem Zbl (I:Inv X pins σ H s)(ea:H a=some (Ca a (.ref C') od))(hd:∀ d,od=some d->∃ fs,H d=some (.xd fs)):∃ ox oo,Sb s.heap a ox C' oo:=by
 obtain ⟨oe,vs,a1,a2,a3,a4⟩:=Zcl (I.hok a _ ea)
 cases od with
 | none=>exact ⟨oe,none,a1,a2,by unfold PySem.W.notCls;rw [a4],by rw [a3];trivial⟩
 | some d =>
  obtain ⟨fs,ed⟩:=hd d rfl
  obtain ⟨mA,nA,r⟩:=I.hok d _ ed
  obtain ⟨oD,hoD,hl⟩:=Zb4 nA
  exact ⟨oe,some oD,a1,a2,by unfold PySem.W.notCls;rw [a4],by rw [a3];exact hoD⟩
theorem Ln {K:Pk}(hK:X.K=K:=by rfl):Cd X (.builtin "isinstance") (rIsY K):=by
 subst hK
 intro pins s σ H xs us Q I r h
 obtain ⟨a,C,C',od,b,rfl,ea,hd,c,e,q⟩:=h
 obtain ⟨u,v,rfl,ru,rv⟩:=r.two
 obtain rfl:u=Value.ref a:=ru
 obtain rfl:v=Value.ref C:=rv
 obtain ⟨ox,oo,J⟩:=Zbl I ea hd
 exact Qw (Pj (ox:=ox) (od:=oo) c) I.kIn J e (fun z=>nomatch z) fun tk=>⟨.bl b,H,I.tok tk,rfl,q⟩
theorem Zqy {K:Pk}(T:String)(hK:X.K=K:=by rfl):Cd X (.builtin "isinstance") (Zpd K T):=by
 subst hK
 intro pins s σ H xs us Q I r h
 obtain ⟨a,C',od,b,rfl,ea,hd,c,e,q⟩:=h
 obtain ⟨u,v,rfl,ru,rv⟩:=r.two
 obtain rfl:u=Value.ref a:=ru
 obtain rfl:v=Value.type T:=rv
 obtain ⟨ox,oo,J⟩:=Zbl I ea hd
 exact Qw (Pj (ox:=ox) (od:=oo) c) I.kIn J e (fun z=>nomatch z) fun tk=>⟨.bl b,H,I.tok tk,rfl,q⟩
end
section
variable {X:Cx}
noncomputable def rEqI (K:Pk):R2:=fun x y H Q=>∃(a c:Addr)(xs ys:List Int),x=.ref a/\y=.ref c/\SqT K H a (xs.map V.int)/\SqT K H c (ys.map V.int)/\Q (.bl (decide (xs=ys))) H
theorem Zsr (hu:X.A.units+200 < cLine):OpR X (compareOp .Eq) (rEqI X.K):=by
 intro pins s σ H x y v u Q I rx ry h
 obtain ⟨a,c,xs,ys,rfl,rfl,hx,hy,q⟩:=h
 cases rx
 cases ry
 obtain ⟨its,r1,p1,_⟩:=I.tuple hx
 obtain ⟨its2,r2,p2,_⟩:=I.tuple hy
 obtain ⟨us,e1,f1⟩:=Zar r1
 obtain ⟨vs,e2,f2⟩:=Zar r2
 have l1:us.length=xs.length:=by rw [<- f1,Pw]
 have l2:vs.length=ys.length:=by rw [<- f2,Pw]
 refine SeqAt.eq_tupleAt (e:=fun j=>xs.getD j 0 == ys.getD j 0) (show s.heap.IsTuple a its.toArray from p1) (show s.heap.IsTuple c its2.toArray from p2) (by omega) (fun j h1 h2=>?_) ?_
 ·subst e1 e2
  simp only [Pq,Pw] at h1 h2
  have g1:xs.getD j 0=us[j].1:=by rw [<- f1,Sg,Qj,Pn h1];rfl
  have g2:ys.getD j 0=vs[j].1:=by rw [<- f2,Sg,Qj,Pn h2];rfl
  rw [g1,g2]
  simp only [List.getElem_toArray,List.getElem_map]
  exact Qc.int_int _ _ _ _
 ·have e:((Qg (min its.toArray.size its2.toArray.size)).all (fun j=>xs.getD j 0 == ys.getD j 0) && its.toArray.size == its2.toArray.size)=decide (xs=ys):=by
   have z1:its.toArray.size=xs.length:=by rw [Pq,e1,Pw,l1]
   have z2:its2.toArray.size=ys.length:=by rw [Pq,e2,Pw,l2]
   rw [z1,z2,Ztj]
  rw [e]
  exact ⟨.bl _,H,I,rfl,q⟩
noncomputable def rEqB (K:Pk):R2:=fun x y H Q=>Mv K x y H Q\/rEqI K x y H Q
theorem Zqa (K:Pk)(hu:X.A.units+200 < cLine)(hK:X.K=K:=by rfl):OpR X (compareOp .Eq) (rEqB K):=by subst hK;exact (Zd6 hu).or (Zsr hu)
theorem Zlf {K:Pk}{a c:Addr}{xs ys:List Int}{H:Hp}{Q:VK}(hx:SqT K H a (xs.map V.int))(hy:SqT K H c (ys.map V.int))(h:Q (.bl (decide (xs=ys))) H):rEqB K (.ref a) (.ref c) H Q:=.inr ⟨a,c,xs,ys,rfl,rfl,hx,hy,h⟩
end
end L2
namespace L2
open PySem
inductive Ga:Dt->Prop where
 | flat (v:V):Ga (.flat v)
 | tup {ds:List Dt} (l:ds.length<=5000) (h:∀ d∈ds,Ga d):Ga (.tup ds)
 | lst {ds:List Dt} (l:ds.length<=5000) (h:∀ d∈ds,Ga d):Ga (.lst ds)
section
variable {g:TG}{tt:TT}{te:TE}{σ0:St}{H1:Hp}{D:Addr}{Q:VK}
end
end L2
namespace L2
open PySem PySem.Spec PyProof.Rows
section
variable {X:Cx}
end
section
variable {prog:Program}{w:World}{A:Around}{E:Value->Shared->Prop}{s:Shared}
end
section
variable {X:Cx}
end
section
variable {g:TG}{tt:TT}{te:TE}{σ0:St}{H1:Hp}{D:Addr}{Q:VK}
end
section
variable {X:Cx}
open PySem.Builtin PySem.Builtin.Str in
end
section
variable {prog:Program}{w:World}{A:Around}{E:Value->Shared->Prop}{s:Shared}
end
section
variable {X:Cx}
end
section
variable {X:Cx}{k:Nat}{x:Str}{ps:List Str}{sp:Sp}{p pos:Pos}
end
section
variable {X:Cx}{k:Nat}{x m:Str}{ps:List Str}{sp:Sp}{E:XK}{C:Addr}{p pos apos:Pos}{e o:Expr}{es:List Expr}{ta:TE}{t:TA}{CX:Cz}{P:Program}{w:World}{mg:Str->Option Value}{base:Heap}
end
section
variable {X:Cx}{e o value:Expr}{f:Str}{pos pos':Pos}{ta tv:TE}{pins:List (Addr×Obj)}{σ:St}{H:Hp}{s:Shared}
noncomputable def tIfX (tc:TT)(t u:Fk):Fk:=fun D E σ H=>tc σ H fun d H1=>if d then t D E σ H1 else u D E σ H1
theorem Oz {c:Expr}{a b:List Stmt}{tc:TT}{t u:Fk}(hc:∀ XE,QT (X.to X.A X.calm XE) c tc)(ha:QXS X a t)(hb:QXS X b u):QXS X [.If c a b pos] (tIfX tc t u):=by
 refine ⟨fun pins s σ H D E I h=>?_⟩
 refine Vl (Q0 (wpAny_If (Q:=SP X pins D) (E:=fun ev s'=>∃ σ',XP X pins σ' (E σ') ev s') (Aj ((hc (fun ev s'=>∃ σ',XP X pins σ' (E σ') ev s')).run pins s σ H _ (I.to rfl I.ok.hd) h) fun d s1 ⟨H1,I1,q1⟩=>?_)) (fun f s1 q=>?_) fun ev s1 q=>q)
 ·have I1:=I1.back I.ok
  cases d with
  | true=>exact ha.run pins s1 σ H1 D E I1 q1
  | false=>exact hb.run pins s1 σ H1 D E I1 q1
 ·cases f with
  | next=>exact Sa q
  | ret v=>exact q
  | brk=>exact q
  | cont=>exact q
end
section
variable {X:Cx}{pins:List (Addr×Obj)}{σ:St}{H:Hp}{s:Shared}
end
section
variable {P:Program}{w:World}{K:Pk}{mg:Str->Option Value}{base:Heap}
end
section
variable {X:Cx}{k:Nat}{x:Str}{ps ks:List Str}{gV:List V->List V->List V}{sp:Sp}{E:XK}{C:Addr}{p pos kpos:Pos}{e:Expr}{es:List Expr}{kws:List Keyword}{te:TE}{t tk:TA}{CX:Cz}{nm:Option Str}{f:Addr}{fd:FuncData}{g:List Value->List Value->List Value}
end
section
variable {X:Cx}{pins:List (Addr×Obj)}{σ:St}{H:Hp}{s:Shared}
end
section
variable {κ:Type}[DecidableEq κ]
noncomputable def Bo (kvs:List (κ×V))(k:κ):Option V:=(kvs.find? fun kv=>decide (kv.1=k)).map (·.2)
noncomputable def Bc (kvs:List (κ×V))(k:κ)(v:V):List (κ×V) :=
 if (kvs.any fun kv=>decide (kv.1=k))=true then kvs.map (fun kv=>if kv.1=k then (kv.1,v) else kv) else kvs++[(k,v)]
theorem Fa {p:κ×V}{r:List (κ×V)}{k:κ}(e:p.1=k):Bo (p::r) k=some p.2:=by simp [Bo,Sv,e]
theorem Eu {p:κ×V}{r:List (κ×V)}{k:κ}(e:¬ p.1=k):Bo (p::r) k=Bo r k:=by simp [Bo,Sv,e]
theorem Nh (k:κ):∀ kvs:List (κ×V),(kvs.any fun kv=>decide (kv.1=k))=(Bo kvs k).isSome
 | []=>rfl
 | p::r=>by
  rw [Up]
  by_cases e:p.1=k
  ·simp only [Fa e,decide_eq_true e,Bool.true_or,Option.isSome_some]
  ·rw [Eu e,decide_eq_false e,Bool.false_or];exact Nh k r
theorem Zc7 (k j:κ)(y:V):∀ kvs:List (κ×V),Bo (kvs.map fun kv=>if kv.1=k then (kv.1,y) else kv) j=(Bo kvs j).map fun x=>if j=k then y else x
 | []=>rfl
 | p::r=>by
  have ih:=Zc7 k j y r
  rw [Rv]
  by_cases h:p.1=k
  ·rw [if_pos h]
   by_cases e:p.1=j
   ·rw [Fa (p:=(p.1,y)) e,Fa e,Vr,if_pos (e.symm.trans h)]
   ·rw [Eu (p:=(p.1,y)) e,Eu e,ih]
  ·rw [if_neg h]
   by_cases e:p.1=j
   ·rw [Fa (p:=p) e,Fa e,Vr,if_neg (fun z=>h (e.trans z))]
   ·rw [Eu (p:=p) e,Eu e,ih]
theorem Zex (k j:κ)(y:V):∀ kvs:List (κ×V),Bo kvs k=none->Bo (kvs++[(k,y)]) j=if j=k then some y else Bo kvs j
 | [],_=>by
  by_cases e:k=j
  ·rw [if_pos e.symm];exact Fa (p:=(k,y)) e
  ·rw [if_neg (fun z=>e z.symm)];exact Eu (p:=(k,y)) e
 | p::r,hn=>by
  rw [Tt]
  have hk:¬ p.1=k:=fun z=>by rw [Fa z] at hn;cases hn
  rw [Eu hk] at hn
  have ih:=Zex k j y r hn
  by_cases e:p.1=j
  ·rw [Fa e,Fa e,if_neg (fun z=>hk (e.trans z))]
  ·rw [Eu e,Eu e,ih]
theorem J2 (kvs:List (κ×V))(k j:κ)(y:V):Bo (Bc kvs k y) j=if j=k then some y else Bo kvs j:=by
 unfold Bc
 by_cases a:(kvs.any fun kv=>decide (kv.1=k))=true
 ·rw [if_pos a,Zc7]
  rw [Nh] at a
  by_cases e:j=k
  ·obtain ⟨x,hx⟩:=R0.mp a
   rw [if_pos e,e,hx,Vr,if_pos rfl]
  ·rw [if_neg e]
   cases Bo kvs j with
   | none=>rfl
   | some x=>rw [Vr,if_neg e]
 ·rw [if_neg a]
  refine Zex k j y kvs ?_
  rw [Nh] at a
  cases q:Bo kvs k with
  | none=>rfl
  | some x=>rw [q] at a;exact (a rfl).elim
theorem Ed (kvs:List (κ×V))(k:κ)(v:V):(Bc kvs k v).length<=kvs.length+1:=by
 unfold Bc
 split
 ·rw [Pw];omega
 ·rw [Px,Py,Vs];omega
theorem RelO.isSome_eq {o:Option V}{u:Option Value}(r:RelO o u):o.isSome=u.isSome:=by
 cases o with
 | none=>cases u with
  | none=>rfl
  | some _=>exact (show False from r).elim
 | some _=>cases u with
  | none=>exact (show False from r).elim
  | some _=>rfl
theorem RelO.getD {o:Option V}{u:Option Value}{d:V}{d':Value}(r:RelO o u)(rd:RelV d d'):RelV (o.getD d) (u.getD d'):=by
 cases o with
 | none=>cases u with
  | none=>exact rd
  | some _=>exact (show False from r).elim
 | some _=>cases u with
  | none=>exact (show False from r).elim
  | some _=>exact r
theorem KV.val {kvs:List (κ×V)}{vs:List (κ×Value)}(r:KV kvs vs)(k:κ):RelO (Bo kvs k) (valueAt vs k):=by
 unfold KV at r
 induction r with
 | nil=>exact True.intro
 | @cons p q ps qs h t ih =>
  obtain ⟨h1,h2⟩:=h
  by_cases e:p.1=k
  ·have e':q.1=k:=h1.symm.trans e
   have b:valueAt (q::qs) k=some q.2:=by simp [valueAt,Sv,e']
   rw [Fa e,b];exact h2
  ·have e':¬ q.1=k:=fun z=>e (h1.trans z)
   have b:valueAt (q::qs) k=valueAt qs k:=by simp [valueAt,Sv,e']
   rw [Eu e,b];exact ih
theorem KV.any {kvs:List (κ×V)}{vs:List (κ×Value)}(r:KV kvs vs)(k:κ):(kvs.any fun kv=>decide (kv.1=k))=vs.any fun kv=>decide (kv.1=k):=by
 unfold KV at r
 induction r with
 | nil=>rfl
 | cons h t ih=>rw [Up,Up,ih,h.1]
theorem KV.repl {kvs:List (κ×V)}{vs:List (κ×Value)}(r:KV kvs vs)(k:κ){y:V}{u:Value}(ry:RelV y u) :
  KV (kvs.map fun kv=>if kv.1=k then (kv.1,y) else kv) (vs.map fun kv=>if kv.1=k then (kv.1,u) else kv):=by
 unfold KV at r ⊢
 induction r with
 | nil=>exact .nil
 | @cons p q ps qs h t ih =>
  rw [Rv,Rv]
  refine .cons ?_ ih
  obtain ⟨h1,h2⟩:=h
  by_cases e:p.1=k
  ·rw [if_pos e,if_pos (h1.symm.trans e)];exact ⟨h1,ry⟩
  ·rw [if_neg e,if_neg (fun z=>e (h1.trans z))];exact ⟨h1,h2⟩
theorem KV.put {kvs:List (κ×V)}{vs:List (κ×Value)}(r:KV kvs vs)(k:κ){y:V}{u:Value}(ry:RelV y u):KV (Bc kvs k y) (stored vs k u):=by
 unfold Bc stored
 rw [r.any k]
 by_cases e:(vs.any fun kv=>decide (kv.1=k))=true
 ·rw [if_pos e,if_pos e];exact r.repl k ry
 ·rw [if_neg e,if_neg e];exact Paired.snoc r ⟨rfl,ry⟩
theorem KV.length {kvs:List (κ×V)}{vs:List (κ×Value)}(r:KV kvs vs):kvs.length=vs.length:=Uo r
end
theorem Gk {P:Program}{w:World}{k:Ap}{u:Value}(r:RelV (kV k) u):(Cn P w).is k u=true:=by
 cases k with
 | inl i=>obtain ⟨t,e⟩:=(show ∃ t,u=Value.int i t from r);subst e;exact Zjn P w i t
 | inr x=>obtain ⟨t,e⟩:=(show ∃ t,u=Value.str x t from r);subst e;exact Zps P w x t
theorem Zcr {P:Program}{w:World}:∀{ks:List Ap}{us:List Value},Vals (ks.map kV) us->ItemsAre (Cn P w) ks us
 | [],_,r=>by rw [List.map_nil] at r;cases r;exact .nil
 | k::ks,_,r=>by
  rw [Rv] at r
  cases r with
  | cons h t=>exact .cons (Gk h) (Zcr t)
noncomputable abbrev KT (H:Hp):List (List Ap×V)->List (List Ap×Addr×Value)->Prop:=Paired fun p q=>p.1=q.1/\H q.2.1=some (.tup (p.1.map kV))/\RelV p.2 q.2.2
theorem KT.val {H:Hp}{kvs:List (List Ap×V)}{xs:List (List Ap×Addr×Value)}(r:KT H kvs xs)(k:List Ap):RelO (Bo kvs k) ((atKey xs k).map (·.2)):=by
 induction r with
 | nil=>exact True.intro
 | @cons p q ps qs h t ih =>
  obtain ⟨h1,_,h2⟩:=h
  by_cases e:p.1=k
  ·have e':q.1=k:=h1.symm.trans e
   have b:atKey (q::qs) k=some q.2:=by simp [atKey,Sv,e']
   rw [Fa e,b];exact h2
  ·have e':¬ q.1=k:=fun z=>e (h1.trans z)
   have b:atKey (q::qs) k=atKey qs k:=by simp [atKey,Sv,e']
   rw [Eu e,b];exact ih
theorem KT.repl {H:Hp}{kvs:List (List Ap×V)}{xs:List (List Ap×Addr×Value)}(r:KT H kvs xs)(k:List Ap){y:V}{u:Value}(ry:RelV y u) :
  KT H (kvs.map fun kv=>if kv.1=k then (kv.1,y) else kv) (xs.map (putAt k u)):=by
 induction r with
 | nil=>exact .nil
 | @cons p q ps qs h t ih =>
  rw [Rv,Rv]
  refine .cons ?_ ih
  obtain ⟨h1,h2,h3⟩:=h
  unfold putAt
  by_cases e:p.1=k
  ·rw [if_pos e,if_pos (h1.symm.trans e)];exact ⟨h1,h2,ry⟩
  ·rw [if_neg e,if_neg (fun z=>e (h1.trans z))];exact ⟨h1,h2,h3⟩
theorem KT.put {H:Hp}{kvs:List (List Ap×V)}{xs:List (List Ap×Addr×Value)}(r:KT H kvs xs)(k:List Ap){b:Addr}{y:V}{u:Value}(hb:H b=some (.tup (k.map kV)))(ry:RelV y u) :
  KT H (Bc kvs k y) (storedH xs k b u):=by
 have e:(kvs.any fun kv=>decide (kv.1=k))=(atKey xs k).isSome:=by
  rw [Nh,(r.val k).isSome_eq,Wx]
 unfold Bc storedH
 rw [e]
 by_cases q:(atKey xs k).isSome=true
 ·rw [if_pos q,if_pos q];exact r.repl k ry
 ·rw [if_neg q,if_neg q];exact Paired.snoc r ⟨rfl,hb,ry⟩
theorem KT.keeps {H H':Hp}{kvs:List (List Ap×V)}{xs:List (List Ap×Addr×Value)}(r:KT H kvs xs)(ht:∀ b ys,H b=some (.tup ys)->H' b=some (.tup ys)):KT H' kvs xs :=
 Paired.mapP r fun _ _ z=>⟨z.1,ht _ _ z.2.1,z.2.2⟩
section
variable {P:Program}{w:World}{H:Hp}{h:Heap}{a:Addr}
theorem Zdh {u:HO}(ok:HOk P w H h)(e:Rd H a u):ObjOk P w H h a u:=e.ok ok
theorem Fv {kvs:List (Ap×V)}(ok:HOk P w H h)(e:Rd H a (.dK kvs)):kvs.length<=sizeLine/\(a == sysModules)=false/\∃ vs,KV kvs vs/\h.DictOf (Cn P w) a vs :=
 show ObjOk P w H h a (.dK kvs) from Zdh ok e
theorem Zcv {kvs:List (Ap×V)}(ok:HOk P w H h)(e:H a=some (.dK kvs)):kvs.length<=sizeLine/\(a == sysModules)=false/\∃ vs,KV kvs vs/\h.DictOf (Cn P w) a vs:=Fv ok (.inl e)
theorem F9 {ks:List Ap}(ok:HOk P w H h)(e:H a=some (.tup (ks.map kV))):(tupleKind (Cn P w)).is h ks a:=by
 obtain ⟨_,its,r,o,h1,h2,n,h3⟩:=(show ObjOk P w H h a (.tup (ks.map kV)) from ok a _ e)
 exact ⟨o,its.toArray,n,h1,h2,h3,by simpa using Zcr r⟩
theorem Go {kvs:List (List Ap×V)}(ok:HOk P w H h)(e:Rd H a (.dT kvs)):kvs.length<=sizeLine/\(a == sysModules)=false /\
  ∃ xs,KT H kvs xs/\h.DictOfH (tupleKind (Cn P w)) a xs:=by
 obtain ⟨z,y,xs,r,o,es,ep,h1,h2,h3,h4,h5⟩:=(show ObjOk P w H h a (.dT kvs) from Zdh ok e)
 refine ⟨z,y,xs,r,o,es,ep,h1,h2,h3,h4,fun x hx=>?_,h5⟩
 have all:∀{l:List (List Ap×V)}{m:List (List Ap×Addr×Value)},KT H l m->∀ x∈m,(tupleKind (Cn P w)).is h x.1 x.2.1:=by
  intro l m q
  induction q with
  | nil=>intro x hx;exact nomatch hx
  | @cons p q ps qs hq t ih =>
   intro x hx
   rcases Pu.mp hx with e | hx
   ·subst e
    exact F9 ok (by rw [<- hq.1];exact hq.2.1)
   ·exact ih x hx
 exact all r x hx
theorem Zes {kvs:List (List Ap×V)}(ok:HOk P w H h)(e:H a=some (.dT kvs)):kvs.length<=sizeLine/\(a == sysModules)=false /\
  ∃ xs,KT H kvs xs/\h.DictOfH (tupleKind (Cn P w)) a xs:=Go ok (.inl e)
end
noncomputable def DGet (H:Hp)(a:Addr)(y:V)(r:Option V):Prop :=
 (∃ kvs k,Rd H a (.dK kvs)/\y=kV k/\r=Bo kvs k)\/∃ kvs k b,Rd H a (.dT kvs)/\y=.ref b/\H b=some (.tup (k.map kV))/\r=Bo kvs k
noncomputable def DPut (H:Hp)(a:Addr)(y v:V)(H':Hp):Prop :=
 (∃ kvs k,H a=some (.dK kvs)/\y=kV k/\kvs.length < sizeLine/\H'=upd H a (.dK (Bc kvs k v))) \/
 ∃ kvs k b,H a=some (.dT kvs)/\y=.ref b/\H b=some (.tup (k.map kV))/\kvs.length < sizeLine/\H'=upd H a (.dT (Bc kvs k v))
theorem DGet.k {H:Hp}{a:Addr}{kvs:List (Ap×V)}{k:Ap}(e:H a=some (.dK kvs)):DGet H a (kV k) (Bo kvs k):=.inl ⟨kvs,k,.inl e,rfl,rfl⟩
theorem DGet.t {H:Hp}{a b:Addr}{kvs:List (List Ap×V)}{k:List Ap}(e:H a=some (.dT kvs))(eb:H b=some (.tup (k.map kV))):DGet H a (.ref b) (Bo kvs k):=.inr ⟨kvs,k,b,.inl e,rfl,eb,rfl⟩
theorem DPut.k {H:Hp}{a:Addr}{kvs:List (Ap×V)}{k:Ap}{v:V}(e:H a=some (.dK kvs))(hl:kvs.length < sizeLine):DPut H a (kV k) v (upd H a (.dK (Bc kvs k v))):=.inl ⟨kvs,k,e,rfl,hl,rfl⟩
theorem DPut.t {H:Hp}{a b:Addr}{kvs:List (List Ap×V)}{k:List Ap}{v:V}(e:H a=some (.dT kvs))(eb:H b=some (.tup (k.map kV)))(hl:kvs.length < sizeLine) :
  DPut H a (.ref b) v (upd H a (.dT (Bc kvs k v))):=.inr ⟨kvs,k,b,e,rfl,eb,hl,rfl⟩
section
variable {X:Cx}{pins:List (Addr×Obj)}{σ:St}{H:Hp}{s:Shared}{a:Addr}{y v:V}{u r:Value}{o:Option V}{A:Around}{E:Value->Shared->Prop}
theorem Inv.big (I:Inv X pins σ H s):sysModules < s.heap.objs.size:=by
 have h:mainGlobals < s.heap.objs.size:=(I.mod.glob.keeps I.bk).lt
 exact Nat.lt_trans (by decide) h
theorem Zlp {Q:Value->Shared->Prop}(hu:A.units+1 < cLine)(I:Inv X pins σ H s)(g:DGet H a y (some v))(ry:RelV y u)(h:∀ w' s',Inv X pins σ H s'->RelV v w'->Q w' s') :
  wpAny (model X.prog X.w) A (getItem (.ref a) u) Q E s:=by
 rcases g with ⟨kvs,k,e,ey,l⟩ | ⟨kvs,k,b,e,ey,eb,l⟩
 ·subst ey
  obtain ⟨z,hd,vs,rel,dd⟩:=Fv I.hok e
  obtain ⟨w',hw,rw'⟩:=RelO.some_of (v:=v) (o:=valueAt vs k) (by rw [l];exact rel.val k)
  exact wpAny_getItem_of (Gk ry) dd.mapOf hw (h w' _ (I.tok _) rw')
 ·subst ey
  cases (show u=Value.ref b from ry)
  obtain ⟨z,hd,xs,rel,dd⟩:=Go I.hok e
  obtain ⟨w',hw,rw'⟩:=RelO.some_of (v:=v) (o:=(atKey xs k).map (·.2)) (by rw [l];exact rel.val k)
  obtain ⟨p,hp,hp2⟩:=Wf.mp hw
  refine wpAny_getItem_heap (Tp hu) (F9 I.hok eb) dd hp ?_
  rw [hp2]
  exact h w' _ (I.tok _) rw'
theorem d_in {Q:Value->Shared->Prop}(hu:A.units+1 < cLine)(I:Inv X pins σ H s)(g:DGet H a y o)(ry:RelV y u)(h:∀ s',Inv X pins σ H s'->Q (.bool o.isSome) s') :
  wpAny (model X.prog X.w) A (compareOp .In u (.ref a)) Q E s:=by
 rcases g with ⟨kvs,k,e,ey,l⟩ | ⟨kvs,k,b,e,ey,eb,l⟩
 ·subst ey
  obtain ⟨z,hd,vs,rel,dd⟩:=Fv I.hok e
  refine wpAny_in_of (Gk ry) hd dd.mapOf ?_
  rw [<- (rel.val k).isSome_eq,<- l]
  exact h _ (I.tok _)
 ·subst ey
  cases (show u=Value.ref b from ry)
  obtain ⟨z,hd,xs,rel,dd⟩:=Go I.hok e
  refine wpAny_in_heap (Tp hu) (F9 I.hok eb) hd dd ?_
  have q:=(rel.val k).isSome_eq
  rw [Wx] at q
  rw [<- q,<- l]
  exact h _ (I.tok _)
theorem Zrm {Q:Value->Shared->Prop}(hu:A.units+1 < cLine)(I:Inv X pins σ H s)(g:DGet H a y o)(ry:RelV y u)(h:∀ s',Inv X pins σ H s'->Q (.bool (!o.isSome)) s') :
  wpAny (model X.prog X.w) A (compareOp .NotIn u (.ref a)) Q E s:=by
 rcases g with ⟨kvs,k,e,ey,l⟩ | ⟨kvs,k,b,e,ey,eb,l⟩
 ·subst ey
  obtain ⟨z,hd,vs,rel,dd⟩:=Fv I.hok e
  refine wpAny_notIn_of (Gk ry) hd dd.mapOf ?_
  rw [<- (rel.val k).isSome_eq,<- l]
  exact h _ (I.tok _)
 ·subst ey
  cases (show u=Value.ref b from ry)
  obtain ⟨z,hd,xs,rel,dd⟩:=Go I.hok e
  refine wpAny_notIn_heap (Tp hu) (F9 I.hok eb) hd dd ?_
  have q:=(rel.val k).isSome_eq
  rw [Wx] at q
  rw [<- q,<- l]
  exact h _ (I.tok _)
theorem Lo {h':Heap}{t':Nat}{ob:HO}(I:Inv X pins σ H s)(mu:Mut (H a))(hs:P9 a s.heap h')(he:∃ q,h'.get? a=some q)(new:ObjOk X.prog X.w (upd H a ob) h' a ob) :
  Inv X pins σ (upd H a ob) { s with heap:=h',toks:=t' } :=
 I.write (x:=a) (e:=a) mu (.inl rfl) (fun b q hb z=>(hs.2 b hb).trans z) he new
theorem Zaj {P:Program}{w:World}{H':Hp}{h':Heap}{kvs:List (Ap×V)}{vs:List (Ap×Value)}(z:kvs.length<=sizeLine)(hd:(a == sysModules)=false)(rel:KV kvs vs)(dd:h'.DictOf (Cn P w) a vs) :
  ObjOk P w H' h' a (.dK kvs):=⟨z,hd,vs,rel,dd⟩
theorem Zs4 {H':Hp}{Q:Unit->Shared->Prop}(hu:A.units+1 < cLine)(I:Inv X pins σ H s)(g:DPut H a y v H')(ry:RelV y u)(rv:RelV v r)(h:∀ s',Inv X pins σ H' s'->Q () s') :
  wpAny (model X.prog X.w) A (setItem (.ref a) u r) Q E s:=by
 rcases g with ⟨kvs,k,e,ey,l,eH⟩ | ⟨kvs,k,b,e,ey,eb,l,eH⟩
 ·subst ey eH
  obtain ⟨z,hd,vs,rel,dd⟩:=Zcv I.hok e
  have hz:vs.length<=sizeLine:=by rw [<- rel.length];exact z
  have hl:(Bc kvs k v).length<=sizeLine:=by have:=Ed kvs k v;omega
  refine wpAny_setItem_pairs (hsz:=hz) (Gk ry) dd fun h' dd' hs=>h _ ?_
  have he:∃ q,h'.get? a=some q:=let ⟨q,_,_,hq,_⟩:=dd';⟨q,hq⟩
  exact Lo I (by rw [e];exact True.intro) hs he (Zaj hl hd (rel.put k rv) dd')
 ·subst ey eH
  cases (show u=Value.ref b from ry)
  obtain ⟨z,hd,xs,rel,dd⟩:=Zes I.hok e
  have hz:xs.length<=sizeLine:=by rw [<- Uo rel];exact z
  have hl:(Bc kvs k v).length<=sizeLine:=by have:=Ed kvs k v;omega
  refine wpAny_setItem_heap (hsz:=hz) (Tp hu) (F9 I.hok eb) dd fun h' dd' hs=>h _ ?_
  obtain ⟨q,es,ep,hq,h2,h3,h4,_,h5⟩:=dd'
  refine Lo I (by rw [e];exact True.intro) hs ⟨q,hq⟩ ⟨hl,hd,_,(rel.put k eb rv).keeps fun c ys ec=>?_,q,es,ep,hq,h2,h3,h4,h5⟩
  rw [Ag (Fg ec e (fun z=>nomatch z))]
  exact ec
end
section
variable {X:Cx}{pins:List (Addr×Obj)}{σ:St}{H:Hp}{s:Shared}{a:Addr}{kvs:List (Ap×V)}{k:Ap}{u:Value}{A:Around}{E:Value->Shared->Prop}
end
noncomputable def Za1 (i:Expr):Prop:=∀ ov iv,subscripted i false ov iv=operate [ov,iv] (getItem ov iv)
theorem Zth {prog:Program}{w:World}{A:Around}{E:Value->Shared->Prop}{s:Shared}{env:Env}{value slice:Expr}{pos:Pos}{T id:String}{Q:Value->Shared->Prop}
  (hl:typeLookup (.type T) "__getitem__" = pure (some (.builtin id))) (hs:Za1 slice)
  (h:wpAny (model prog w) A (eval value env) (fun o s₁=>wpAny (model prog w) A (eval slice env) (fun i s₂=>s₂.TypeIs o T/\wpAny (model prog w) A (getItem o i) Q E s₂) E s₁) E s) :
  wpAny (model prog w) A (eval (.Subscript value slice pos) env) Q E s:=by
 refine Subscript_ (Q0 h (fun o s₁ h₁=>Q0 h₁ (fun i s₂ h₂=>?_) fun _ _ x=>x) fun _ _ x=>x)
 obtain ⟨hT,h₂⟩:=h₂
 unfold subscriptTail
 refine Pl ?_
 rw [getitemInPython_of_ne hT.not_modules]
 refine Pl (Uh hT hl ?_)
 have fin:wpAny (model prog w) A (subscripted slice false o i) (fun r s₃=>wpAny (model prog w) A (letTemporaryGo value o r >>= fun _=>pure r) Q E s₃) E s₂:=by
  rw [hs o i]
  exact wpAny_operating (Q0 h₂ (fun r s₃ h₃=>Pl (wpAny_letTemporaryGo (Pm h₃))) fun _ _ x=>x)
 first
  | exact Pm (Pl fin)
  | exact Pl (Pm (Pl fin))
  | exact Pl fin
theorem Zit {X:Cx}{pins:List (Addr×Obj)}{σ:St}{H:Hp}{s:Shared}{a:Addr}{y:V}{o:Option V}(I:Inv X pins σ H s)(g:DGet H a y o):s.TypeIs (.ref a) "dict" := by
 rcases g with ⟨kvs,k,e,_,_⟩ | ⟨kvs,k,b,e,_,_,_⟩
 ·obtain ⟨_,_,vs,_,dd⟩:=Fv I.hok e
  exact dd.typeIs
 ·obtain ⟨_,_,xs,_,dd⟩:=Go I.hok e
  exact dd.typeIs
noncomputable def Zbz (td ty:TE):TE:=fun σ H Q=>td σ H fun x H1=>ty σ H1 fun y H2=>∃ a v,x=.ref a/\DGet H2 a y (some v)/\Q v H2
noncomputable def Zam (ty td:TE):TE:=fun σ H Q=>ty σ H fun y H1=>td σ H1 fun x H2=>∃ a o,x=.ref a/\DGet H2 a y o/\Q (.bl o.isSome) H2
noncomputable def O6 (ty td:TE):TE:=fun σ H Q=>ty σ H fun y H1=>td σ H1 fun x H2=>∃ a o,x=.ref a/\DGet H2 a y o/\Q (.bl (!o.isSome)) H2
noncomputable def Zbo (td ty tv:TE):TS:=fun D σ H=>tv σ H fun v H1=>td σ H1 fun x H2=>ty σ H2 fun y H3=>∃ a H4,x=.ref a/\DPut H3 a y v H4/\D.nx σ H4
section
variable {X:Cx}{o i e value:Expr}{pos pos' tpos:Pos}{td ty tv:TE}
theorem Zna (hu:X.A.units+1 < cLine)(ho:PE X o td)(hi:PE X i ty)(hs:Za1 i):PE X (.Subscript o i pos) (Zbz td ty):=by
 intro pins s σ H Q I h
 refine Zth PySem.F.slot_dict_getitem.lookup hs (Aj (ho pins s σ H _ I h) fun u s1 zq=>?_)
 obtain ⟨x,H1,I1,rx,q1⟩:=zq
 refine Aj (hi pins s1 σ H1 _ I1 q1) fun iv s2 zq=>?_
 obtain ⟨y,H2,I2,ry,a,v,ex,g,q2⟩:=zq
 subst ex
 obtain rfl:u=Value.ref a:=rx
 exact ⟨Zit I2 g,Zlp hu I2 g ry fun w' s3 I3 rw'=>⟨v,H2,I3,rw',q2⟩⟩
theorem Zsf (hu:X.A.units+1 < cLine)(hi:PE X i ty)(ho:PE X o td):PC X .In i o (Zam ty td):=by
 intro pins s σ H Q I h
 refine Aj (hi pins s σ H _ I h) fun iv s1 zq=>?_
 obtain ⟨y,H1,I1,ry,q1⟩:=zq
 refine Aj (ho pins s1 σ H1 _ I1 q1) fun u s2 zq=>?_
 obtain ⟨x,H2,I2,rx,a,ov,ex,g,q2⟩:=zq
 subst ex
 obtain rfl:u=Value.ref a:=rx
 exact d_in hu I2 g ry fun s3 I3=>⟨.bl ov.isSome,H2,I3,rfl,q2⟩
theorem Zsi (hu:X.A.units+1 < cLine)(hi:PE X i ty)(ho:PE X o td):PC X .NotIn i o (O6 ty td):=by
 intro pins s σ H Q I h
 refine Aj (hi pins s σ H _ I h) fun iv s1 zq=>?_
 obtain ⟨y,H1,I1,ry,q1⟩:=zq
 refine Aj (ho pins s1 σ H1 _ I1 q1) fun u s2 zq=>?_
 obtain ⟨x,H2,I2,rx,a,ov,ex,g,q2⟩:=zq
 subst ex
 obtain rfl:u=Value.ref a:=rx
 exact Zrm hu I2 g ry fun s3 I3=>⟨.bl (!ov.isSome),H2,I3,rfl,q2⟩
theorem Zsa (hu:X.A.units+1 < cLine)(ho:PE X o td)(hi:PE X i ty)(hv:PE X value tv)(hs:swapsWith value (some (.Subscript o i pos')) pos.line X.env=pure false) :
  PS X (.Assign [.Subscript o i pos'] value pos) (Zbo td ty tv):=by
 intro pins s σ H D I h
 refine wpAny_Assign_Subscript (Aj (hv pins s σ H _ I h) fun r s1 zq=>?_) hs
 obtain ⟨v,H1,I1,rv,q1⟩:=zq
 refine Aj (ho pins s1 σ H1 _ I1 q1) fun u s2 zq=>?_
 obtain ⟨x,H2,I2,rx,q2⟩:=zq
 refine Aj (hi pins s2 σ H2 _ I2 q2) fun iv s3 zq=>?_
 obtain ⟨y,H3,I3,ry,a,H4,ex,g,q3⟩:=zq
 subst ex
 obtain rfl:u=Value.ref a:=rx
 exact Zs4 hu I3 g ry rv fun s4 I4=>⟨σ,H4,I4,q3⟩
end
theorem Zen {P:Program}{w:World}{H:Hp}(h:Heap)(hb:sysModules < h.objs.size):ObjOk P w H (h.push { cls:=.type "dict",data:=.dict #[] }) h.objs.size (.dK []) :=
 ⟨Qd _,beq_eq_false_iff_ne.mpr (Qa (P0 hb)),[],.nil,Heap.DictOf.new h⟩
theorem Zb0 {P:Program}{w:World}{H:Hp}(h:Heap)(hb:sysModules < h.objs.size):ObjOk P w H (h.push { cls:=.type "dict",data:=.dict #[] }) h.objs.size (.dT []) :=
 ⟨Qd _,beq_eq_false_iff_ne.mpr (Qa (P0 hb)),[],.nil,_,#[],0,P5 _ rfl,⟨rfl,rfl,rfl⟩,rfl,rfl,List.nodup_nil⟩
noncomputable def Zga:TE:=fun _ H Q=>∀ p,H p=none->Q (.ref p) (upd H p (.dK []))
noncomputable def Zhx:TE:=fun _ H Q=>∀ p,H p=none->Q (.ref p) (upd H p (.dT []))
section
variable {X:Cx}{pos:Pos}
theorem Zij:PE X (.Dict [] [] pos) Zga:=fun pins s σ H Q I h =>
 wpAny_Dict_empty ⟨.ref s.heap.objs.size,_,I.laid (a:=s.heap.objs.size) (o:=.dK []) (t':=s.toks) (fun _ _ q=>Pp _ q) (Po _) (Zen s.heap I.big),rfl,h _ (I.hok.fresh (Po _))⟩
theorem Zo0:PE X (.Dict [] [] pos) Zhx:=fun pins s σ H Q I h =>
 wpAny_Dict_empty ⟨.ref s.heap.objs.size,_,I.laid (a:=s.heap.objs.size) (o:=.dT []) (t':=s.toks) (fun _ _ q=>Pp _ q) (Po _) (Zb0 s.heap I.big),rfl,h _ (I.hok.fresh (Po _))⟩
end
structure M1 (X:Cx)(o:Expr)(m:Str)(apos:Pos)(e:Expr)(cpos:Pos):Prop where
 base:attributeBase o m X.env (eval o X.env)=eval o X.env
 few:((backTo cpos (starEach [e] X.env)).all (fun x=>!x.1) && (backToKw cpos (keywordEach [] X.env)).all (fun x=>x.1.isSome)
  && decide (([e]:List Expr).length+([]:List Keyword).length+(if ([]:List Keyword).isEmpty then 0 else 1) < 30))=true
 line:(apos.endLine == cpos.line)=true
 trees:backTo cpos (starEach [e] X.env)=[(false,eval e X.env)]
structure M2 (X:Cx)(o:Expr)(m:Str)(apos:Pos)(e f:Expr)(cpos:Pos):Prop where
 base:attributeBase o m X.env (eval o X.env)=eval o X.env
 few:((backTo cpos (starEach [e,f] X.env)).all (fun x=>!x.1) && (backToKw cpos (keywordEach [] X.env)).all (fun x=>x.1.isSome)
  && decide (([e,f]:List Expr).length+([]:List Keyword).length+(if ([]:List Keyword).isEmpty then 0 else 1) < 30))=true
 line:(apos.endLine == cpos.line)=true
 trees:backTo cpos (starEach [e,f] X.env)=[(false,eval e X.env),(false,eval f X.env)]
noncomputable def DcD (H:Hp)(a:Addr):Prop:=(∃ kvs,Rd H a (.dK kvs))\/∃ kvs,Rd H a (.dT kvs)
theorem Zct {X:Cx}{pins:List (Addr×Obj)}{σ:St}{H:Hp}{s:Shared}{a:Addr}(I:Inv X pins σ H s)(d:DcD H a) :
  s.TypeIs (.ref a) "dict" /\ (∀ b,Value.ref a=.ref b->∃ ob,s.heap.get? b=some ob/\ob.dict=none)/\(a == sysModules)=false:=by
 rcases d with ⟨kvs,e⟩ | ⟨kvs,e⟩
 ·obtain ⟨_,hd,vs,_,dd⟩:=Fv I.hok e
  refine ⟨dd.typeIs,fun b q=>?_,hd⟩
  cases q
  obtain ⟨ob,_,_,h1,h2,_⟩:=dd
  exact ⟨ob,h1,h2.2.1⟩
 ·obtain ⟨_,hd,xs,_,dd⟩:=Go I.hok e
  refine ⟨dd.typeIs,fun b q=>?_,hd⟩
  cases q
  obtain ⟨ob,_,_,h1,h2,_⟩:=dd
  exact ⟨ob,h1,h2.2.1⟩
section
variable {X:Cx}{pins:List (Addr×Obj)}{σ:St}{H:Hp}{s:Shared}{a:Addr}{y d:V}{u r:Value}{o:Option V}{A:Around}{E:Value->Shared->Prop}
theorem Zio {Q:Value->Shared->Prop}(hu:A.units+1 < cLine)(I:Inv X pins σ H s)(g:DGet H a y o)(ry:RelV y u)(h:∀ w' s',Inv X pins σ H s'->RelV (o.getD .non) w'->Q w' s') :
  wpAny (model X.prog X.w) A (call (.builtin "dict.get") [.ref a,u]) Q E s:=by
 rcases g with ⟨kvs,k,e,ey,l⟩ | ⟨kvs,k,b,e,ey,eb,l⟩
 ·subst ey
  obtain ⟨z,hd,vs,rel,dd⟩:=Fv I.hok e
  refine V5 Ti dd.typeIs U7 (PySem.F.args_dict_get_2 _ _) (meets_dict_get (Cn X.prog X.w) a (Gk ry) hd) ⟨_,dd.mapOf,h _ _ (I.tok _) ?_⟩
  rw [l]
  exact (rel.val k).getD rfl
 ·subst ey
  cases (show u=Value.ref b from ry)
  obtain ⟨z,hd,xs,rel,dd⟩:=Go I.hok e
  refine V5 Ti dd.typeIs U7 (PySem.F.args_dict_get_2 _ _) (meetsH_dict_get (tupleKind (Cn X.prog X.w)) a b hd) ⟨Tp hu,k,xs,F9 I.hok eb,dd,h _ _ (I.tok _) ?_⟩
  rw [l]
  exact (rel.val k).getD rfl
theorem Zs3 {Q:Value->Shared->Prop}(hu:A.units+1 < cLine)(I:Inv X pins σ H s)(g:DGet H a y o)(ry:RelV y u)(rd:RelV d r)(h:∀ w' s',Inv X pins σ H s'->RelV (o.getD d) w'->Q w' s') :
  wpAny (model X.prog X.w) A (call (.builtin "dict.get") [.ref a,u,r]) Q E s:=by
 rcases g with ⟨kvs,k,e,ey,l⟩ | ⟨kvs,k,b,e,ey,eb,l⟩
 ·subst ey
  obtain ⟨z,hd,vs,rel,dd⟩:=Fv I.hok e
  refine V5 Ti dd.typeIs U7 (PySem.F.args_dict_get_3 _ _ _) (meets_dict_get_default (Cn X.prog X.w) a (Gk ry) hd r) ⟨_,dd.mapOf,h _ _ (I.tok _) ?_⟩
  rw [l]
  exact (rel.val k).getD rd
 ·subst ey
  cases (show u=Value.ref b from ry)
  obtain ⟨z,hd,xs,rel,dd⟩:=Go I.hok e
  refine V5 Ti dd.typeIs U7 (PySem.F.args_dict_get_3 _ _ _) (meetsH_dict_get_default (tupleKind (Cn X.prog X.w)) a b hd r) ⟨Tp hu,k,xs,F9 I.hok eb,dd,h _ _ (I.tok _) ?_⟩
  rw [l]
  exact (rel.val k).getD rd
end
noncomputable def Zb7 (td ty:TE):TE:=fun σ H Q=>td σ H fun x H1=>∃ a,x=.ref a/\DcD H1 a/\ty σ H1 fun y H2=>∃ o,DGet H2 a y o/\Q (o.getD .non) H2
noncomputable def Oh (td ty tx:TE):TE:=fun σ H Q=>td σ H fun x H1=>∃ a,x=.ref a/\DcD H1 a/\ty σ H1 fun y H2=>tx σ H2 fun z H3=>∃ o,DGet H3 a y o/\Q (o.getD z) H3
section
variable {X:Cx}{o e f:Expr}{apos cpos:Pos}{td ty tx:TE}
theorem Zmk (hu:X.A.units+1 < cLine)(ho:PE X o td)(he:PE X e ty)(m:M1 X o "get" apos e cpos):PE X (.Call (.Attribute o "get" apos) [e] [] cpos) (Zb7 td ty):=by
 intro pins s σ H Q I h
 refine wpAny_Call_method m.base m.few m.line PySem.F.plainAttrs_dict Ti PySem.F.type_dict_get (Aj (ho pins s σ H _ I h) fun u s1 zq=>?_)
 obtain ⟨x,H1,I1,rx,a,ex,d,q1⟩:=zq
 subst ex
 obtain rfl:u=Value.ref a:=rx
 obtain ⟨t1,t2,_⟩:=Zct I1 d
 refine ⟨t1,t2,?_⟩
 rw [m.trees]
 refine U5 rfl (Vc (So (Aj (he pins s1 σ H1 _ I1 q1) fun iv s2 zq=>?_)))
 obtain ⟨y,H2,I2,ry,ov,g,q2⟩:=zq
 refine Tq ?_
 exact Zio hu I2 g ry fun w' s3 I3 rw'=>⟨_,H2,I3,rw',q2⟩
theorem Zlz (hu:X.A.units+1 < cLine)(ho:PE X o td)(he:PE X e ty)(hf:PE X f tx)(m:M2 X o "get" apos e f cpos):PE X (.Call (.Attribute o "get" apos) [e,f] [] cpos) (Oh td ty tx):=by
 intro pins s σ H Q I h
 refine wpAny_Call_method m.base m.few m.line PySem.F.plainAttrs_dict Ti PySem.F.type_dict_get (Aj (ho pins s σ H _ I h) fun u s1 zq=>?_)
 obtain ⟨x,H1,I1,rx,a,ex,d,q1⟩:=zq
 subst ex
 obtain rfl:u=Value.ref a:=rx
 obtain ⟨t1,t2,_⟩:=Zct I1 d
 refine ⟨t1,t2,?_⟩
 rw [m.trees]
 refine U5 rfl (Vc (So (Aj (he pins s1 σ H1 _ I1 q1) fun iv s2 ⟨y,H2,I2,ry,q2⟩ =>
  So (Aj (hf pins s2 σ H2 _ I2 q2) fun fv s3 ⟨z,H3,I3,rz,ov,g,q3⟩=>Tq ?_))))
 exact Zs3 hu I3 g ry rz fun w' s4 I4 rw'=>⟨_,H3,I4,rw',q3⟩
end
section
variable {X:Cx}{pins:List (Addr×Obj)}{σ:St}{H:Hp}{s:Shared}{a:Addr}{kvs:List (Ap×V)}{A:Around}{E:Value->Shared->Prop}
theorem Zj9 {Q:Value->Shared->Prop}(I:Inv X pins σ H s)(e:Rd H a (.dK kvs))(h:∀ p s',H p=none->Inv X pins σ (upd H p (.dK kvs)) s'->Q (.ref p) s'):wpAny (model X.prog X.w) A (call (.type "dict") [.ref a]) Q E s:=by
 obtain ⟨z,hd,vs,rel,dd⟩:=Fv I.hok e
 refine kt_call_dict hd dd (by rw [<- rel.length];exact z) fun h' dd' hs=>?_
 refine h _ _ (I.hok.fresh (Po _)) (I.laid (a:=s.heap.objs.size) (o:=.dK kvs) (t':=s.toks) (fun b q hq=>?_) (Po _) (Zaj z (beq_eq_false_iff_ne.mpr (Qa (P0 I.big))) rel dd'))
 exact (hs.2 b (P0 (Pr hq))).trans (Pp _ hq)
end
section
variable {X:Cx}{pins:List (Addr×Obj)}{σ:St}{H:Hp}{s:Shared}{a:Addr}{y:V}{u:Value}{A:Around}{E:Value->Shared->Prop}
end
end L2
namespace PySem
theorem Zik:typeLookup (.type "list") "keys" = pure none:=by rw [Su,Sk];kernel_rfl
theorem Zim {prog:Program}{w:World}{A:Around}{E:Value->Shared->Prop}{s:Shared}{a:Addr}{o:Obj}{xs:Array Value}{k:Nat}{name:Str}{Q:Option Value->Shared->Prop}
  (hx:s.heap.get? a=some o) (hc:o.cls=.type "list") (hdat:o.data=.seq xs k) (hd:o.dict=none) (hmiss:typeLookup (.type "list") name=pure none) (hname:(["__module__", "__name__", "__qualname__", "__doc__", "__annotations__"]:List Str).contains name=false) (hA:A.handled=none)
  (h:∀ h' tk,(∀ b ob,s.heap.get? b=some ob->h'.get? b=some ob)->Q none { s with heap:=h',toks:=tk }) (hsz:name.length+100<=sizeLine:=by size_fits) :
  wpAny (model prog w) A (getAttr? (.ref a) name) Q E s:=by
 obtain ⟨c,dct,dat,sl⟩:=o
 simp only at hc hdat hd
 subst hc hdat hd
 obtain ⟨hp,g,d,tk,os⟩:=s
 have hT:∀ tk',(⟨hp,g,d,tk',os⟩:Shared).TypeIs (.ref a) "list" := fun _=>⟨_,hx,rfl⟩
 have f1:=sub_AttributeError
 have f3:=Wd.lookup
 have f4:=Wd.bind (.ref a)
 have f5:=am_list_getattr_none
 unfold getAttr? getAttrBy? getAttrBy
 repeat (any_goals (first | assumption | exact hT _ | ((with_reducible show wpAny _ _ (call (Value.builtin "list.__getattribute__") _ _) _ _ _);refine Tc Wd (hT _) am_entry_list_getattribute (F.args_list_getattribute_2 _ _) (meets_getattribute_miss_list a xs k sl name _ hmiss hname hsz) ⟨hx,hA,fun h' tk' e hx'=>?_⟩) | wp_step))
 obtain ⟨t',u',he⟩:=hx'.there
 unfold getattributeRaised
 repeat (any_goals (first | assumption | wp_step))
 exact h _ _ hx'.keeps
namespace F
theorem entry_dict_update_loop:entryFor table "dict.update.loop" = some Builtin.«dict.update.loop»:=entryFor_of_tree (by kernel_rfl)
theorem plain_dict_update_loop:plainId "dict.update.loop" = true:=by decide +kernel
end F
end PySem
namespace L2
open PySem PySem.Spec PyProof.Rows
section
variable {X:Cx}{pins:List (Addr×Obj)}{σ:St}{H:Hp}{s:Shared}{a:Addr}{y v:V}{u r:Value}{A:Around}{E:Value->Shared->Prop}
theorem Zgn {H':Hp}{Q:Unit->Shared->Prop}(hu:A.units < cLine)(I:Inv X pins σ H s)(g:DPut H a y v H')(ry:RelV y u)(rv:RelV v r)(h:∀ s',Inv X pins σ H' s'->P9 a s.heap s'.heap->Q () s') :
  wpAny (model X.prog X.w) A (dictSet a u r) Q E s:=by
 rcases g with ⟨kvs,k,e,ey,l,eH⟩ | ⟨kvs,k,b,e,ey,eb,l,eH⟩
 ·subst ey eH
  obtain ⟨z,hd,vs,rel,dd⟩:=Zcv I.hok e
  have hz:vs.length<=sizeLine:=by rw [<- rel.length];exact z
  have hl:(Bc kvs k v).length<=sizeLine:=by have:=Ed kvs k v;omega
  refine wpAny_dictSet_pairs (hsz:=hz) (Gk ry) dd fun h' dd' hs=>h _ ?_ hs
  have he:∃ q,h'.get? a=some q:=let ⟨q,_,_,hq,_⟩:=dd';⟨q,hq⟩
  exact Lo I (by rw [e];exact True.intro) hs he (Zaj hl hd (rel.put k rv) dd')
 ·subst ey eH
  cases (show u=Value.ref b from ry)
  obtain ⟨z,hd,xs,rel,dd⟩:=Zes I.hok e
  have hz:xs.length<=sizeLine:=by rw [<- Uo rel];exact z
  have hl:(Bc kvs k v).length<=sizeLine:=by have:=Ed kvs k v;omega
  refine wpAny_dictSet_heap (hsz:=hz) hu (F9 I.hok eb) dd fun h' dd' hs=>h _ ?_ hs
  obtain ⟨q,es,ep,hq,h2,h3,h4,_,h5⟩:=dd'
  refine Lo I (by rw [e];exact True.intro) hs ⟨q,hq⟩ ⟨hl,hd,_,(rel.put k eb rv).keeps fun c ys ec=>?_,q,es,ep,hq,h2,h3,h4,h5⟩
  rw [Ag (Fg ec e (fun z=>nomatch z))]
  exact ec
theorem Zl2 {R:Result->Shared->Prop}{p it d:Addr}{xs:List V}{Hs:Nat->Hp}{res:Value}(hh:A.handled=none)(hu:A.units+1 < cLine)(hdi:d≠it)(hd:∀ i,i<=xs.length->SqL X.K (Hs i) p xs)(hf:∀ i,FpOk X pins (Hs i) it)
  (hs:∀ i x,xs[i]?=some x->∃(c:Addr)(y v:V),x=.ref c/\SqT X.K (Hs i) c [y,v]/\DPut (Hs i) d y v (Hs (i+1)))
  (fin:∀ s',Inv X pins σ (Hs xs.length) s'->R (.ok (.ret res)) s') :
  ∀(k i:Nat)(s:Shared),xs.length - i=k->i<=xs.length->Inv X pins σ (Hs i) s->s.heap.IsListIter it p i ->
  codeAny (model X.prog X.w) A (.builtin "dict.update.loop" ⟨[.ref d,.ref it,rawInt i,res],[]⟩) R s:=by
 intro k
 induction k with
 | zero =>
  intro i s hk hi I st
  have hin:i=xs.length:=by omega
  subst hin
  obtain ⟨its,rv,pl,hz⟩:=I.list (hd _ hi)
  obtain ⟨f0,f1,f2,f3,f4,f5⟩:=hf xs.length
  have hl:=rv.length
  refine Tw PySem.F.entry_dict_update_loop ?_
  rw [Tj PySem.F.plain_dict_update_loop _]
  show wpAny _ A.in1 (pyNext (.ref it) >>= _) _ _ s
  refine Pl (wpAny_pyNext_list_end hh st pl.isList (by simp;omega) fun h' eb=>?_)
  have I':=I.turned (t':=s.toks) (fun b o hb e=>eb b o hb e) f0 f1 f3 f4 f5
  exact Pl (Pm (Pm (fin _ I')))
 | succ k ih =>
  intro i s hk hi I st
  have hlt:i < xs.length:=by omega
  obtain ⟨its,rv,pl,hz⟩:=I.list (hd _ hi)
  obtain ⟨c,y,v,ex,hc,hput⟩:=hs i _ (Pn hlt)
  obtain ⟨u,hu',ru⟩:=rv.get (Pn hlt)
  rw [ex] at ru
  cases ru
  obtain ⟨f0,f1,f2,f3,f4,f5⟩:=hf i
  refine Tw PySem.F.entry_dict_update_loop ?_
  rw [Tj PySem.F.plain_dict_update_loop _]
  show wpAny _ A.in1 (pyNext (.ref it) >>= _) _ _ s
  refine Pl (wpAny_pyNext_list_item st pl.isList (x:=.ref c) (by simpa using hu') fun h' st' sb=>?_)
  have I1:Inv X pins σ (Hs i) { s with heap:=h' }:=I.turned (t':=s.toks) (fun b o hb e=>(sb.2 b hb).trans e) f0 f1 f3 f4 f5
  obtain ⟨its2,rv2,pt,hz2⟩:=I1.tuple hc
  obtain ⟨u1,u2,rfl,r1,r2⟩:∃ u1 u2,its2=[u1,u2]/\RelV y u1/\RelV v u2:=by
   cases rv2 with
   | cons r1 t=>cases t with
    | cons r2 t=>cases t;exact ⟨_,_,rfl,r1,r2⟩
  obtain ⟨ot,et,ct,nt,dt⟩:=pt
  obtain ⟨oc,od,oda,osl⟩:=ot
  cases ct
  cases dt
  refine Pl (Ql ?_)
  refine Pl (wpAny_tryCatch ?_)
  have hT:(⟨h',s.gens,s.drawn,s.toks,s.os⟩:Shared).TypeIs (.ref c) "tuple" := ⟨_,et,rfl⟩
  unfold Builtin.Dict.pairItems
  refine Pl (T2 hT ?_)
  rw [if_pos (by decide)]
  refine Pl ?_
  unfold seqItems?
  refine Pl (wpAny_load et (Pm (Pm ?_)))
  show wpAny _ A.in1 (holding [u1,u2] (dictSet d u1 u2)) _ _ _
  refine Ql (Zgn (by exact hu) I1 hput r1 r2 fun s2 I2 sb2=>?_)
  refine Pm ⟨Sy PySem.F.plain_dict_update_loop _,?_⟩
  have e1:rawInt ((i:Int)+1)=rawInt (((i+1:Nat)):Int):=rfl
  rw [e1]
  exact ih (i+1) s2 (by omega) hlt I2 (st'.at fun o e=>(sb2.2 it (Qa hdi)).trans e)
noncomputable def B3 {κ:Type}[DecidableEq κ](kvs:List (κ×V))(l:List (κ×V)):List (κ×V):=l.foldl (fun a kv=>Bc a kv.1 kv.2) kvs
theorem Zet {κ:Type}[DecidableEq κ](l:List (κ×V)):∀ kvs:List (κ×V),(B3 kvs l).length<=kvs.length+l.length:=by
 induction l with
 | nil=>intro kvs;exact Po _
 | cons kv r ih =>
  intro kvs
  have h1:=ih (Bc kvs kv.1 kv.2)
  have h2:=Ed kvs kv.1 kv.2
  rw [Py]
  show (B3 (Bc kvs kv.1 kv.2) r).length<=_
  omega
theorem Zgh {κ:Type}[DecidableEq κ]{l:List (κ×V)}{i:Nat}{kv:κ×V}(h:l[i]?=some kv)(kvs:List (κ×V)):B3 kvs (l.take (i+1))=Bc (B3 kvs (l.take i)) kv.1 kv.2:=by
 unfold B3
 rw [R9,h,Wy]
 rfl
noncomputable def Ze5 (K:Pk):List V->Hp->VK->Prop:=fun xs H Q=>∃(p:Addr)(vs:List V),xs=[.ref p]/\SqL K H p vs /\
 ((∃ kvs:List (Ap×V),Al (fun x (kv:Ap×V)=>∃ a,x=.ref a/\SqT K H a [kV kv.1,kv.2]) vs kvs/\∀ d,H d=none->Q (.ref d) (upd H d (.dK (B3 [] kvs)))) \/
   (∃ kvs:List (List Ap×V),Al (fun x (kv:List Ap×V)=>∃ a b,x=.ref a/\SqT K H a [.ref b,kv.2]/\H b=some (.tup (kv.1.map kV))) vs kvs/\∀ d,H d=none->Q (.ref d) (upd H d (.dT (B3 [] kvs)))))
theorem Zei {p:Addr}{vs:List V}{Q:VK}{Hs:Nat->Hp}(hu:A.units+3 < cLine)(hh:A.handled=none)(I:Inv X pins σ H s)(hq:SqL X.K H p vs)(d:Addr)(hdd:d=s.heap.objs.size)
  (h0:Inv X pins σ (Hs 0) { s with heap:=s.heap.push { cls:=.type "dict",data:=.dict #[] } }) (hs0:∀ i b,H b=none->b≠d->Hs i b=none) (hsd:∀ i,i<=vs.length->SqL X.K (Hs i) p vs)
  (hs:∀ i x,vs[i]?=some x->∃(c:Addr)(y v:V),x=.ref c/\SqT X.K (Hs i) c [y,v]/\DPut (Hs i) d y v (Hs (i+1))) (q:Q (.ref d) (Hs vs.length)) :
  wpAny (model X.prog X.w) A (call (.type "dict") [.ref p]) (EP X pins σ Q) E s:=by
 refine callType_codes (Q₁:=fun obj s₁=>obj=.ref s.heap.objs.size/\s₁={ s with heap:=s.heap.push { cls:=.type "dict",data:=.dict #[] } }) F.kt_called_dict (F.kt_typeCall_dict_1 _) F.entry_dict_init (kt_code_dict_new _ ⟨rfl,rfl⟩) ?_
 rintro obj s₁ ⟨rfl,rfl⟩
 have hnT:({ s with heap:=s.heap.push { cls:=.type "dict",data:=.dict #[] } }:Shared).TypeIs (.ref s.heap.objs.size) "dict" := ⟨_,P5 _ rfl,rfl⟩
 refine ⟨hnT,F.args_dict_init_2 _ _,?_⟩
 unfold Builtin.«dict.__init__»
 refine Pl ?_
 unfold Builtin.Dict.selfAndRest
 refine Pl (wpAny_notOrdered_dict hnT ?_)
 show wpAny _ _ (pure (s.heap.objs.size,[Value.ref p])) _ _ _
 refine Pm ?_
 show wpAny _ _ (Builtin.Dict.updateFrom "dict.__init__" s.heap.objs.size (.ref p) [] .none) _ _ _
 subst hdd
 obtain ⟨its,rv,pl,hz⟩:=h0.list (hsd 0 (Qd _))
 have hsz:s.heap.objs.size < (s.heap.push { cls:=Value.type "dict",data:=Data.dict #[] }).objs.size:=by rw [Q4];exact W0 _
 generalize hs1:({ s with heap:=s.heap.push { cls:=.type "dict",data:=.dict #[] } }:Shared)=s1 at *
 have hsz1:s.heap.objs.size < s1.heap.objs.size:=by rw [<- hs1];exact hsz
 obtain ⟨ol,nl,el,cl,dn,dl⟩:=pl
 unfold Builtin.Dict.updateFrom
 refine Pl (T2 ⟨_,el,cl⟩ ?_)
 rw [if_pos (by decide)]
 refine Pl (Zim el cl dl dn Zik (by decide +kernel) hh (fun h2 tk2 kp=>?_) (by decide +kernel))
 rw [if_pos (by decide)]
 refine Pl (Se ?_)
 have I2:Inv X pins σ (Hs 0) { s1 with heap:=h2,toks:=tk2 }:=h0.kept kp
 have pl2:h2.IsList p its.toArray:=⟨ol,kp _ _ el,cl,nl,dl⟩
 refine Pl (Wu pl2 ?_)
 have hsz2:s.heap.objs.size < h2.objs.size:=by
  obtain ⟨on,en,_⟩:=hnT
  exact Pr (kp _ _ en)
 have hHn:∀ i,Hs i h2.objs.size=none:=fun i=>hs0 i _ (I.hok.fresh (Ur hsz2)) (Qy hsz2)
 refine Pm ⟨Sy PySem.F.plain_dict_update_loop _,Zl2 (A:=A.in1) (Hs:=Hs) (xs:=vs) (p:=p) hh (by show A.units+1+1 < cLine;omega) (P0 hsz2) hsd (fun i=>I2.fpOk (Po _) (hHn i)) hs (fun s' I'=>?_) vs.length 0 _ rfl (Qd _) (I2.kept (t':=tk2) fun b o e=>Pp _ e) ⟨_,P5 _ rfl,rfl,rfl⟩⟩
 exact ⟨rfl,.ref s.heap.objs.size,_,I',rfl,q⟩
theorem Zkb (hu:X.A.units+3 < cLine)(hh:X.calm=true):Cd X (.type "dict") (Ze5 X.K):=by
 intro pins s σ H xs us Q I r h
 obtain ⟨p,vs,rfl,hq,h⟩:=h
 obtain ⟨u,rfl,rx⟩:=Jg r
 cases rx
 have hf:H s.heap.objs.size=none:=I.hok.fresh (Po _)
 have hpd:p≠s.heap.objs.size:=by
  obtain ⟨its,rv,⟨o,n,e,_⟩,hz⟩:=I.list hq
  exact P0 (Pr e)
 have hn:vs.length<=sizeLine:=by
  obtain ⟨its,rv,_,hz⟩:=I.list hq
  exact hz
 rcases h with ⟨kvs,al,q⟩ | ⟨kvs,al,q⟩
 ·refine Zei (Hs:=fun i=>upd H s.heap.objs.size (.dK (B3 [] (kvs.take i)))) hu (I.ok.hd hh) I hq s.heap.objs.size rfl (I.laid (a:=s.heap.objs.size) (o:=.dK []) (t':=s.toks) (fun _ _ q=>Pp _ q) (Po _) (Zen s.heap I.big)) (fun i b hb hd=>by show upd H _ _ b=none;rw [Ag hd];exact hb) (fun i _=>(Same.upd hf).seq hq) (fun i x hx=>?_) ?_
  ·obtain ⟨kv,hkv,c,rfl,hc⟩:=al.get hx
   have hi:i < vs.length:=(Pt.mp hx).1
   refine ⟨c,_,_,rfl,(Same.upd hf).tup hc,?_⟩
   show DPut _ _ _ _ (upd H s.heap.objs.size (.dK (B3 [] (kvs.take (i+1)))))
   rw [Zgh hkv]
   have hl:(B3 [] (kvs.take i)).length < sizeLine:=by have:=Zet (kvs.take i) ([]:List (Ap×V));rw [Qb] at this;simp only [Vs] at this;omega
   have r:=DPut.k (H:=upd H s.heap.objs.size (.dK (B3 [] (kvs.take i)))) (k:=kv.1) (v:=kv.2) Ad hl
   rw [Ky] at r
   exact r
  ·show Q _ (upd H s.heap.objs.size (.dK (B3 [] (kvs.take vs.length))))
   rw [al.1,Q3]
   exact q _ hf
 ·refine Zei (Hs:=fun i=>upd H s.heap.objs.size (.dT (B3 [] (kvs.take i)))) hu (I.ok.hd hh) I hq s.heap.objs.size rfl (I.laid (a:=s.heap.objs.size) (o:=.dT []) (t':=s.toks) (fun _ _ q=>Pp _ q) (Po _) (Zb0 s.heap I.big)) (fun i b hb hd=>by show upd H _ _ b=none;rw [Ag hd];exact hb) (fun i _=>(Same.upd hf).seq hq) (fun i x hx=>?_) ?_
  ·obtain ⟨kv,hkv,c,b,rfl,hc,hb⟩:=al.get hx
   have hi:i < vs.length:=(Pt.mp hx).1
   refine ⟨c,_,_,rfl,(Same.upd hf).tup hc,?_⟩
   show DPut _ _ _ _ (upd H s.heap.objs.size (.dT (B3 [] (kvs.take (i+1)))))
   rw [Zgh hkv]
   have hl:(B3 [] (kvs.take i)).length < sizeLine:=by have:=Zet (kvs.take i) ([]:List (List Ap×V));rw [Qb] at this;simp only [Vs] at this;omega
   have r:=DPut.t (H:=upd H s.heap.objs.size (.dT (B3 [] (kvs.take i)))) (v:=kv.2) Ad ((Same.upd hf) _ _ hb) hl
   rw [Ky] at r
   exact r
  ·show Q _ (upd H s.heap.objs.size (.dT (B3 [] (kvs.take vs.length))))
   rw [al.1,Q3]
   exact q _ hf
end
theorem Room.u1 {k:Nat}{A:Around}(r:Room k A):A.units+1 < cLine:=by have:=r.u200;omega
section
variable {X:Cx}{k:Nat}{x m f:Str}{ps:List Str}{sp:Sp}{E:XK}{C:Addr}{p pos pos' tpos apos:Pos}{e o i value:Expr}{es:List Expr}{ta tv td ty:TE}{t:TA}{CX:Cz}{P:Program}{w:World}{mg:Str->Option Value}{base:Heap}{K:Pk}
theorem Zcb (K:Pk)(hu:X.A.units+200 < cLine)(hh:X.calm=true)(hK:X.K=K:=by rfl):Cd X (.type "dict") (Ze5 K):=by subst hK;exact Zkb (by omega) hh
theorem Ir (hu:X.A.units+1 < cLine)(ho:QE X o td)(hi:QE X i ty)(hs:Za1 i):QE X (.Subscript o i pos) (Zbz td ty):=⟨Zna hu ho.run hi.run hs⟩
theorem Zhk (hu:X.A.units+1 < cLine)(hi:QE X i ty)(ho:QE X o td):QC X .In i o (Zam ty td):=⟨Zsf hu hi.run ho.run⟩
noncomputable def Za9 (K:Pk):R2:=fun x y H Q=>Je K x y H Q\/∃(a b:Addr)(xs ys:List V),x=.ref a/\y=.ref b/\H a=some (.tup xs)/\H b=some (.tup ys)/\xs.length+ys.length<=sizeLine/\∀ p H',Same H H'->H' p=some (.tup (xs++ys))->Q (.ref p) H'
theorem Zsj:OpR X (binaryOp .Add) (Za9 X.K):=by
 refine op_addA.or ?_
 intro pins s σ H x y v u Q I rx ry h
 obtain ⟨a,b,xs,ys,rfl,rfl,ha,hb,hz,q⟩:=h
 have ha':SqT X.K H a xs:=SqT.of ha
 have hb':SqT X.K H b ys:=SqT.of hb
 by_cases hx:xs=[]
 ·subst hx
  cases rx
  cases ry
  obtain ⟨its,r1,p1,_⟩:=I.tuple ha'
  obtain ⟨its2,r2,p2,_⟩:=I.tuple hb'
  cases r1
  obtain ⟨⟨cls,dd,data,sl⟩,ho,hc,n,hd⟩:=id p1
  obtain ⟨⟨cls2,dd2,data2,sl2⟩,ho2,hc2,n2,hd2⟩:=id p2
  simp only at hc hd hc2 hd2
  subst hc hd hc2 hd2
  exact V0 ⟨_,ho,rfl⟩ ⟨_,ho2,rfl⟩ Vm Vw U4 U0 (Uy _ _)
   (tuple_addW0 a b _ _ n n2 dd dd2 sl sl2 (by simp)) ⟨ho,ho2,⟨.ref b,H,I,rfl,q b H (Same.refl H) hb⟩⟩
 ·refine Zh1 pins s σ H _ _ v u Q I rx ry ⟨a,b,xs,ys,rfl,rfl,ha',hb',hx,hz,fun e=>?_,fun _ p hp=>q p _ (fun c o e=>by rw [Ag (A5 e hp)];exact e) Ad⟩
  subst e
  exact q a H (Same.refl H) (by rw [Qx];exact ha)
theorem Zdw (K:Pk)(hK:X.K=K:=by rfl):OpR X (binaryOp .Add) (Za9 K):=by subst hK;exact Zsj
theorem Ziw {a b:Addr}{xs ys:List V}{H:Hp}{Q:VK}(ha:H a=some (.tup xs))(hb:H b=some (.tup ys))(hz:xs.length+ys.length<=sizeLine)(h:∀ p H',Same H H'->H' p=some (.tup (xs++ys))->Q (.ref p) H'):Za9 K (.ref a) (.ref b) H Q:=.inr ⟨a,b,xs,ys,rfl,rfl,ha,hb,hz,h⟩
theorem s_dget {td ty:TE}{σ:St}{H:Hp}{Q:VK}(h:td σ H fun x H1=>ty σ H1 fun y H2=>∃ a v,x=.ref a/\DGet H2 a y (some v)/\Q v H2):Zbz td ty σ H Q:=h
theorem s_din {td ty:TE}{σ:St}{H:Hp}{Q:VK}(h:ty σ H fun y H1=>td σ H1 fun x H2=>∃ a o,x=.ref a/\DGet H2 a y o/\Q (.bl o.isSome) H2):Zam ty td σ H Q:=h
end
end L2
namespace L2
open PySem
noncomputable def RowT (K:Pk)(H:Hp)(v:V)(x:List Nat×Tr):Prop:=∃(a p:Addr)(u:V),v=.ref a/\SqT K H a [.ref p,u]/\H p=some (.tup (Bj x.1))/\TrAt K H u x.2
theorem RowT.same {K:Pk}{H H':Hp}(e:SameT H H')(v:V)(x:List Nat×Tr)(h:RowT K H v x):RowT K H' v x:=by
 obtain ⟨a,p,u,r,q,qp,t⟩:=h
 exact ⟨a,p,u,r,e.tup q,(e p).1 _ qp,t.sameT e⟩
theorem Zo5 {κ:Type}[DecidableEq κ](l:List (κ×V))(kv:κ×V)(kvs:List (κ×V)):B3 kvs (l++[kv])=Bc (B3 kvs l) kv.1 kv.2:=by
 unfold B3
 rw [Wy]
 rfl
noncomputable def Ft {κ:Type}[DecidableEq κ](l:List (κ×V))(k:κ):Option V:=(l.reverse.find? fun kv=>decide (kv.1=k)).map (·.2)
theorem Zgq {κ:Type}[DecidableEq κ](l:List (κ×V))(kv:κ×V)(k:κ):Ft (l++[kv]) k=if kv.1=k then some kv.2 else Ft l k:=by
 unfold Ft
 rw [Wm,List.reverse_singleton,List.singleton_append,Sv]
 by_cases h:kv.1=k
 ·simp [h]
 ·simp [h]
theorem Zdq {α:Type}{P:List α->Prop}(h0:P [])(h1:∀ l x,P l->P (l++[x]))(l:List α):P l:=by
 rw [<- l.reverse_reverse]
 induction l.reverse with
 | nil=>exact h0
 | cons x r ih=>rw [List.reverse_cons];exact h1 _ _ ih
theorem Zjq {κ:Type}[DecidableEq κ](l:List (κ×V))(k:κ):Bo (B3 [] l) k=Ft l k:=by
 refine Zdq (P:=fun l=>Bo (B3 [] l) k=Ft l k) rfl (fun l kv ih=>?_) l
 rw [Zo5,Zgq,J2,ih]
 by_cases h:kv.1=k
 ·rw [if_pos h,if_pos h.symm]
 ·rw [if_neg h,if_neg (Qa h)]
noncomputable def Bq (pl:List Nat):List Ap:=pl.map fun i:Nat=>Sum.inl ((i:Nat):Int)
theorem Ld (pl:List Nat):(Bq pl).map kV=Bj pl:=by unfold Bq Bj;rw [V6];rfl
section
variable {K:Pk}{HB H H':Hp}{C:Addr}{kvs:List (List Ap×V)}{L:Ml}{S:MS}
end
section
variable {g:TG}{tt:TT}{te:TE}{σ0:St}{H1:Hp}{D:Addr}{Q:VK}
theorem Zja {K:Pk}{a:Addr}{xs:List V}(Pv:Nat->List V->St->Hp->Prop)(h0:Pv 0 [] σ0 (upd H1 D (.lst [])))(hl:∀ i ys σ H,i<=xs.length->Pv i ys σ H->SqT K H a xs)
  (hs:∀ i x ys σ H,xs[i]?=some x->H D=some (.lst ys)->Pv i ys σ H->Nl g tt te D (Pv (i+1)) x σ H)
  (hd:∀ ys σ H,H D=some (.lst ys)->Pv xs.length ys σ H->Q (.ref D) H):Jr (Hc K a) g tt te σ0 H1 D Q:=by
 refine ⟨fun i m σ H=>m=xs.length - i/\i<=xs.length/\∃ ys,H D=some (.lst ys)/\Pv i ys σ H,⟨xs.length,by simp,Qd _,[],Ad,h0⟩,?_⟩
 rintro i m σ H ⟨rfl,hi,ys,hD,p⟩
 have q:=hl i ys σ H hi p
 by_cases hlt:i < xs.length
 ·refine .inr ⟨⟨xs,xs[i],q,by simp [hlt]⟩,fun σ2 H2=>∃ zs,H2 D=some (.lst zs)/\Pv (i+1) zs σ2 H2,fun σ' H' p'=>⟨xs.length - (i+1),by omega,rfl,hlt,p'⟩,fun x H' y=>?_⟩
  obtain ⟨e,y⟩:=y
  subst e
  exact hs i x ys σ _ (y xs q) hD p
 ·have e:i=xs.length:=by omega
  subst e
  exact .inl ⟨⟨xs,q,Po _⟩,hd ys σ H hD p⟩
end
theorem Zf9 {a b:List Nat}(h:Bq a=Bq b):a=b:=by
 unfold Bq at h
 induction a generalizing b with
 | nil=>cases b with
  | nil=>rfl
  | cons y r=>simp at h
 | cons x l ih=>cases b with
  | nil=>simp at h
  | cons y r =>
   simp only [Rv,List.cons.injEq] at h
   have h1:x=y:=by have:=Sum.inl.inj h.1;omega
   rw [h1,ih h.2]
end L2
namespace L2
open PySem PySem.Spec PyProof.Rows
section
variable {X:Cx}
end
end L2
namespace L2
open PySem PySem.Spec PySem.Calls PySem.W PyProof.Rows
section
variable {X:Cx}
end
end L2
namespace L2
open PySem PySem.Spec PyProof.Rows
section
variable {X:Cx}{c n:Str}{np hpos pos:Pos}{body hbody:List Stmt}{b₀:Stmt}{tb:Fk}{th:TS}{i:Nat}{C:Addr}
end
theorem Zhn:∀{Cs:List Addr}{its:List Value},Vals (Cs.map V.ref) its->its=Cs.map Value.ref
 | [],its,h=>by cases h;rfl
 | c::r,its,h=>by
  cases h with
  | cons a b =>
   rw [Zhn b]
   have a:_=Value.ref c:=a
   rw [a]
   rfl
noncomputable def rIsZ (K:Pk):List V->Hp->VK->Prop:=fun xs H Q=>∃ a tp C' od b,∃ Cs:List Addr,xs=[.ref a,.ref tp]/\SqT K H tp (Cs.map V.ref)/\H a=some (Ca a (.ref C') od)/\(∀ d,od=some d->∃ fs,H d=some (.xd fs))/\Ja K C'/\Sw K (.ref C') (Cs.map Value.ref)=some b/\Q (.bl b) H
theorem Zhi {X:Cx}{K:Pk}(hK:X.K=K:=by rfl):Cd X (.builtin "isinstance") (rIsZ K):=by
 subst hK
 intro pins s σ H xs us Q I r h
 obtain ⟨a,tp,C',od,b,Cs,rfl,ht,ea,hd,c,e,q⟩:=h
 obtain ⟨u,v,rfl,ru,rv⟩:=r.two
 obtain rfl:u=Value.ref a:=ru
 obtain rfl:v=Value.ref tp:=rv
 obtain ⟨ox,oo,J⟩:=Zbl I ea hd
 obtain ⟨its,r1,⟨o,h1,h2,n,h3⟩,_⟩:=I.tuple ht
 have e1:=Zhn r1
 subst e1
 obtain ⟨oc,od',odt,osl⟩:=o
 have h2:oc=.type "tuple" := h2
 have h3:odt=.seq (Cs.map Value.ref).toArray n:=h3
 subst h2 h3
 exact PySem.W.kia_tup (Pj (ox:=ox) (od:=oo) c) I.kIn J h1 e (fun z=>nomatch z) fun tk=>⟨.bl b,H,I.tok tk,rfl,q⟩
noncomputable def Zib (tk tv:TE):TE:=fun σ H Q=>∀ p,H p=none->tk σ (upd H p (.dT [])) fun x H1=>tv σ H1 fun y H2=>∃ H3,DPut H2 p x y H3/\Q (.ref p) H3
section
variable {X:Cx}{o i e f k v value:Expr}{pos pos' apos cpos:Pos}{td ty tx tk tv:TE}
theorem Zs8 (hu:X.A.units+1 < cLine)(hk:PE X k tk)(hv:PE X v tv):PE X (.Dict [some k] [v] pos) (Zib tk tv):=by
 intro pins s σ H Q I q
 have hn:=I.hok.fresh (Po s.heap.objs.size)
 have I1:=I.laid (a:=s.heap.objs.size) (o:=.dT []) (h':=s.heap.push { cls:=.type "dict",data:=.dict #[] }) (t':=s.toks) (fun _ _ q=>Pp _ q) (Po _) (Zb0 s.heap I.big)
 show wpAny _ _ (eval (.Dict [some k] [v] pos) X.env) _ _ s
 rw [arm_eval_Dict,zip_pairTrees [some k] [v] X.env pos rfl rfl,dictDisplay_pairs _ (by simp [pairTrees]) (by simp [pairTrees])]
 refine Pl (Sx (Pl ?_))
 unfold subDict
 refine Pl (wpAny_alloc ?_)
 refine Pl (Ql ?_)
 rw [if_pos (by simp [pairTrees])]
 refine Pl (pairTrees_cons_walk (Aj (hk pins _ σ _ _ I1 (q _ hn)) fun kv s1 zq=>?_))
 obtain ⟨x,H1,I2,rx,q1⟩:=zq
 refine Aj (hv pins s1 σ H1 _ I2 q1) fun vv s2 zq=>?_
 obtain ⟨y,H2,I3,ry,H3,g,q2⟩:=zq
 refine pairTrees_nil_walk ?_
 refine Ql ?_
 rw [Tv]
 refine Pl (Pl (Pl (Zgn (by omega) I3 g rx ry fun s4 I4 _=>Pm ?_)))
 dsimp only
 rw [Ul]
 exact Pm (Pm (Pm (Pm ⟨.ref s.heap.objs.size,H3,I4,rfl,q2⟩)))
theorem Zls (hu:X.A.units+1 < cLine)(hk:QE X k tk)(hv:QE X v tv):QE X (.Dict [some k] [v] pos) (Zib tk tv):=⟨Zs8 hu hk.run hv.run⟩
theorem Zbq:QE X (.Dict [] [] pos) Zga:=⟨Zij⟩
theorem Zp4:QE X (.Dict [] [] pos) Zhx:=⟨Zo0⟩
theorem Zn2 (hu:X.A.units+1 < cLine)(hi:QE X i ty)(ho:QE X o td):QC X .NotIn i o (O6 ty td):=⟨Zsi hu hi.run ho.run⟩
theorem Ho (hu:X.A.units+1 < cLine)(ho:QE X o td)(hi:QE X i ty)(hv:QE X value tv)(hs:swapsWith value (some (.Subscript o i pos')) pos.line X.env=pure false:=by rfl):QS X (.Assign [.Subscript o i pos'] value pos) (Zbo td ty tv):=⟨Zsa hu ho.run hi.run hv.run hs⟩
theorem Zi3 (hu:X.A.units+1 < cLine)(ho:QE X o td)(he:QE X e ty)(h1:attributeBase o "get" X.env (eval o X.env)=eval o X.env:=by rfl)(h2:((backTo cpos (starEach [e] X.env)).all (fun x=>!x.1) && (backToKw cpos (keywordEach [] X.env)).all (fun x=>x.1.isSome) && decide (([e]:List Expr).length+([]:List Keyword).length+(if ([]:List Keyword).isEmpty then 0 else 1) < 30))=true:=by rfl)(h3:(apos.endLine == cpos.line)=true:=by rfl)(h4:backTo cpos (starEach [e] X.env)=[(false,eval e X.env)]:=by rfl):QE X (.Call (.Attribute o "get" apos) [e] [] cpos) (Zb7 td ty):=⟨Zmk hu ho.run he.run ⟨h1,h2,h3,h4⟩⟩
theorem Zdj (hu:X.A.units+1 < cLine)(ho:QE X o td)(he:QE X e ty)(hf:QE X f tx)(h1:attributeBase o "get" X.env (eval o X.env)=eval o X.env:=by rfl)(h2:((backTo cpos (starEach [e,f] X.env)).all (fun x=>!x.1) && (backToKw cpos (keywordEach [] X.env)).all (fun x=>x.1.isSome) && decide (([e,f]:List Expr).length+([]:List Keyword).length+(if ([]:List Keyword).isEmpty then 0 else 1) < 30))=true:=by rfl)(h3:(apos.endLine == cpos.line)=true:=by rfl)(h4:backTo cpos (starEach [e,f] X.env)=[(false,eval e X.env),(false,eval f X.env)]:=by rfl):QE X (.Call (.Attribute o "get" apos) [e,f] [] cpos) (Oh td ty tx):=⟨Zlz hu ho.run he.run hf.run ⟨h1,h2,h3,h4⟩⟩
end
noncomputable def Zpv:List V->Hp->VK->Prop:=fun xs H Q=>∃ a kvs,xs=[.ref a]/\H a=some (.dK kvs)/\∀ p,H p=none->Q (.ref p) (upd H p (.dK kvs))
theorem Zkk {X:Cx}:Cd X (.type "dict") Zpv:=by
 intro pins s σ H xs us Q I r h
 obtain ⟨a,kvs,rfl,e,q⟩:=h
 obtain ⟨u,rfl,ru⟩:=r.one
 obtain rfl:u=Value.ref a:=ru
 exact Zj9 I (.inl e) fun p s' hp I'=>⟨.ref p,_,I',rfl,q p hp⟩
theorem M3 {X:Cx}{b:List Stmt}:Dh X b (fun _ _ _=>False):=⟨fun _ _ _ _ _ _ h=>h.elim⟩
theorem Zdt {X:Cx}{pos:Pos}{i j:Nat}{x y:Str}{a b:Expr}{ta:TA}{px py pt:Pos}{kt k2 pt2}(hc:X.calm=true)(hN:X.N.Nodup)(hi:X.N[i]?=some x)(hj:X.N[j]?=some y)(hij:i≠j)
  (hx:X.env.scope.names.lookup x=some .local) (hy:X.env.scope.names.lookup y=some .local) (ha:QA X [a,b] ta)
  (hw:swappedStores [.Tuple [.Name x px,.Name y py] kt pt] (.Tuple [a,b] k2 pt2) X.env=pure (some [x,y]):=by rfl)
  (hs:swapsWithSole [.Tuple [.Name x px,.Name y py] kt pt] (.Tuple [a,b] k2 pt2) pos.line X.env=pure false:=by rfl) :
  QS X (.Assign [.Tuple [.Name x px,.Name y py] kt pt] (.Tuple [a,b] k2 pt2) pos) (O7 i j ta):=⟨Zk0 hc hN hi hj hij hx hy ha.run hw hs⟩
theorem s_par {i j:Nat}{ta:TA}{D:Ends}{σ:St}{H:Hp}(h:ta σ H fun vs H1=>∃ v w,vs=[v,w]/\D.nx ((σ.set i (some v)).set j (some w)) H1):O7 i j ta D σ H:=h
theorem s_ifE {c:TT}{ta tb:TE}{σ:St}{H:Hp}{Q:VK}(h:c σ H fun b H1=>if b=true then ta σ H1 Q else tb σ H1 Q):tIf c ta tb σ H Q:=h
theorem Znt {b:Bool}{P Q:Prop}(hb:b=false)(h:Q):if b=true then P else Q:=by rw [if_neg (by rw [hb];decide)];exact h
theorem s_dput {td ty tv:TE}{D:Ends}{σ:St}{H:Hp}(h:tv σ H fun v H1=>td σ H1 fun x H2=>ty σ H2 fun y H3=>∃ a H4,x=.ref a/\DPut H3 a y v H4/\D.nx σ H4):Zbo td ty tv D σ H:=h
theorem s_dget2 {td ty tx:TE}{σ:St}{H:Hp}{Q:VK}(h:td σ H fun x H1=>∃ a,x=.ref a/\DcD H1 a/\ty σ H1 fun y H2=>tx σ H2 fun z H3=>∃ o,DGet H3 a y o/\Q (o.getD z) H3):Oh td ty tx σ H Q:=h
theorem N3 {t:TS}{X:St->Hp->Prop}{rt:VK}{bk ct:St->Hp->Prop}{σ:St}{H:Hp}(R:St->Hp->Prop)(h1:∀ Y:St->Hp->Prop,(∀ σ' H',R σ' H'->Y σ' H')->t ⟨Y,rt,bk,ct⟩ σ H)(h2:∀ σ' H',R σ' H'->X σ' H'):t ⟨X,rt,bk,ct⟩ σ H:=h1 X h2
theorem viaE {t:TE}{Q:VK}{σ:St}{H:Hp}(R:V->Hp->Prop)(h1:∀ Y:VK,(∀ v H',R v H'->Y v H')->t σ H Y)(h2:∀ v H',R v H'->Q v H'):t σ H Q:=h1 Q h2
section
variable {X:Cx}
end
section
variable {X:Cx}
end
section
variable {g:TG}{tt:TT}{te:TE}{σ0:St}{H1:Hp}{D:Addr}{Q:VK}
end
noncomputable def Ib (K:Pk)(a b:Addr):It :=
 ⟨fun i H=>∃ xs ys,SqL K H a xs/\SqL K H b ys/\i < xs.length/\i < ys.length,
   fun i H x H'=>∃(t:Addr)(y z:V),H t=none/\(∀ xs,SqL K H a xs->xs[i]?=some y)/\(∀ ys,SqL K H b ys->ys[i]?=some z)/\x=.ref t/\H'=upd H t (.tup [y,z]),
   fun i H=>∃ xs ys,SqL K H a xs/\SqL K H b ys/\i=min xs.length ys.length⟩
theorem Zs1 {P:Program}{w:World}{K:Pk}{elts:List Expr}{kt:Nat}{pt:Pos}(a b z TI TO i1 i2:Addr)(D:ZB z TI TO i1 i2 a b) :
  F4 P w K (.Tuple elts kt pt) (Ib K a b) [z,TI,TO,i1,i2] z (fun i h=>IsZip h z TI TO .none/\IsPair h TI (.ref i1) (.ref i2)/\(∃ u v,IsPair h TO u v)/\h.IsListIter i1 a i/\h.IsListIter i2 b i) where
 mem:=by simp
 obj:=fun i h st c hc=>by
  obtain ⟨q1,q2,⟨u,v,q3⟩,q4,q5⟩:=st
  simp only [Pu,Qe,or_false] at hc
  rcases hc with rfl | rfl | rfl | rfl | rfl
  ·exact ⟨_,q1,fun v z=>by cases z⟩
  ·exact ⟨_,q2,fun v z=>by cases z⟩
  ·exact ⟨_,q3,fun v z=>by cases z⟩
  ·obtain ⟨o,e,c,d⟩:=q4
   exact ⟨o,e,fun v z=>by rw [d] at z;cases z⟩
  ·obtain ⟨o,e,c,d⟩:=q5
   exact ⟨o,e,fun v z=>by rw [d] at z;cases z⟩
 keep:=fun i h h' st k=>by
  obtain ⟨q1,q2,⟨u,v,q3⟩,q4,q5⟩:=st
  exact ⟨k z (by simp) _ q1,k TI (by simp) _ q2,⟨u,v,k TO (by simp) _ q3⟩,q4.at fun o e=>k i1 (by simp) o e,q5.at fun o e=>k i2 (by simp) o e⟩
 item:=by
  intro X hP hw hK hc i pins s σ H E I hf st hg
  subst hP hw hK
  obtain ⟨xs,ys,hx,hy,l1,l2⟩:=hg
  obtain ⟨its,rv,p,hz⟩:=I.list hx
  obtain ⟨its2,rv2,p2,hz2⟩:=I.list hy
  have g1:=rv.length
  have g2:=rv2.length
  obtain ⟨q1,q2,⟨u,v,q3⟩,q4,q5⟩:=st
  have hh:X.A.in1.handled=none:=I.ok.hd hc
  have D1:=Te (prog:=X.prog) (w:=X.w) (A:=X.A.in1) hh i1 a D.a1 its.toArray
  have D2:=Te (prog:=X.prog) (w:=X.w) (A:=X.A.in1) hh i2 b D.b2 its2.toArray
  refine Zgb D1 D2 D.za q1 q2 q3 ⟨q4,p.isList⟩ ⟨q5,p2.isList⟩ (by rw [Pq];omega) (by rw [Pq];omega) fun x y h1 tk px py a1 a2 a3 a4 a5 a6 a7=>?_
  refine ⟨_,rfl,wpAny_letOwnedTupleGo_zip a1 fun h2 a8 a9=>?_⟩
  replace a9:P9 z h1 h2:=a9
  have hx':its[i]?=some x:=by simpa using px
  have hy':its2[i]?=some y:=by simpa using py
  obtain ⟨u1,hu1,ru1⟩:=rv.get (Pn l1)
  obtain ⟨u2,hu2,ru2⟩:=rv2.get (Pn l2)
  rw [hx'] at hu1
  cases hu1
  rw [hy'] at hu2
  cases hu2
  have lt:∀{c o},s.heap.get? c=some o->s.heap.objs.size≠c:=fun e=>Qy (Pr e)
  have nz:s.heap.objs.size≠z:=lt q1
  have ht2:h2.IsTuple s.heap.objs.size ([x,y]:List Value).toArray:=⟨_,a9.extBut _ _ nz a5,rfl,_,rfl⟩
  have kk:∀ b o,b ∉ [z,TI,TO,i1,i2]->s.heap.get? b=some o->h2.get? b=some o:=fun b o hb e=>by
   simp only [Pu,Qe,or_false,not_or] at hb
   exact a9.extBut _ _ hb.1 (a7 b o hb.1 hb.2.2.1 hb.2.2.2.1 hb.2.2.2.2 e)
  have I2:=I.pairL (tk:=tk) (T:=s.heap.objs.size) (xs:=[xs[i],ys[i]]) hf kk (Po _) (.cons ru1 (.cons ru2 .nil)) (by show 2<=sizeLine;decide) ht2
  refine ⟨.ref s.heap.objs.size,_,I2,rfl,⟨_,xs[i],ys[i],I.hok.fresh (Po _),fun zs hz=>by rw [I.list_inj hz hx];exact Pn l1,fun zs hz=>by rw [I.list_inj hz hy];exact Pn l2,rfl,rfl⟩,
   ⟨a8,a9.extBut _ _ D.TIz (a7 _ _ D.TIz D.TITO D.TI1 D.TI2 q2),⟨_,_,a9.extBut _ _ D.TOz a2⟩,a3.1.at fun o e=>a9.extBut _ _ D.i1z e,a4.1.at fun o e=>a9.extBut _ _ D.i2z e⟩,fun c hc=>?_⟩
  have hb':c≠s.heap.objs.size:=by
   simp only [Pu,Qe,or_false] at hc
   rcases hc with rfl | rfl | rfl | rfl | rfl
   ·exact (lt q1).symm
   ·exact (lt q2).symm
   ·exact (lt q3).symm
   ·obtain ⟨_,e,_⟩:=q4;exact (lt e).symm
   ·obtain ⟨_,e,_⟩:=q5;exact (lt e).symm
  rw [Ag hb']
  exact (hf c hc).1
 done:=by
  intro X hP hw hK hc i pins s σ H E I hf st hg
  subst hP hw hK
  obtain ⟨xs,ys,hx,hy,rfl⟩:=hg
  obtain ⟨its,rv,p,hz⟩:=I.list hx
  obtain ⟨its2,rv2,p2,hz2⟩:=I.list hy
  have g1:=rv.length
  have g2:=rv2.length
  obtain ⟨q1,q2,⟨u,v,q3⟩,q4,q5⟩:=st
  have hh:X.A.in1.handled=none:=I.ok.hd hc
  have D1:=Te (prog:=X.prog) (w:=X.w) (A:=X.A.in1) hh i1 a D.a1 its.toArray
  have D2:=Te (prog:=X.prog) (w:=X.w) (A:=X.A.in1) hh i2 b D.b2 its2.toArray
  refine Zd7 D1 D2 D.za q1 q2 q3 ⟨q4,p.isList⟩ ⟨q5,p2.isList⟩ (by simp only [Pq];omega) fun h' tk kk=>⟨rfl,I.turnedL (fun b o hb e=>?_) hf⟩
  simp only [Pu,Qe,or_false,not_or] at hb
  exact kk b o hb.1 hb.2.2.1 hb.2.2.2.1 hb.2.2.2.2 e
 self:=fun A i s Q E st h=>W1 st.1 h
section
variable {X:Cx}
noncomputable def Zh5 (K:Pk)(ta:TA):TI:=fun σ H R=>ta σ H fun vs H1=>∃ a b xs ys,vs=[.ref a,.ref b]/\SqL K H1 a xs/\SqL K H1 b ys/\R (Ib K a b) H1
theorem Zoe (K:Pk){elts:List Expr}{kt:Nat}{pt:Pos}{e e2:Expr}{ta:TA}{p pos:Pos}(hg:Gl X "zip")(hm:X.mg "zip" = none)(ha:QA X [e,e2] ta)(hK:X.K=K:=by rfl)
  (hs:starEach [e,e2] X.env=[(false,eval e X.env),(false,eval e2 X.env)]:=by rfl) (hs2:starEach [e2] X.env=[(false,eval e2 X.env)]:=by rfl):QI X (.Tuple elts kt pt) (.Call (.Name "zip" p) [e,e2] [] pos) (Zh5 K ta):=by
 subst hK
 refine ⟨fun pins s σ H R I h=>?_⟩
 refine Call_ (Dp I hg hm PyProof.Rows.boot_zip (Q6 (Aj (ha.run pos pins s σ H _ I h) fun us s1 ⟨vs,H1,I1,r1,q1⟩=>?_) (by rw [hs,hs2]) (by rw [hs2];rfl)))
 obtain ⟨a,b,xs,ys,e1,hq,hq2,q⟩:=q1
 subst e1
 obtain ⟨u,v,rfl,ru,rv⟩:=r1.two
 cases ru
 cases rv
 obtain ⟨its,rv,pl,hz⟩:=I1.list hq
 obtain ⟨its2,rv2,pl2,hz2⟩:=I1.list hq2
 have lt1:a < s1.heap.objs.size:=by obtain ⟨o,e,_⟩:=id pl.isList;exact Pr e
 have lt2:b < s1.heap.objs.size:=by obtain ⟨o,e,_⟩:=id pl2.isList;exact Pr e
 refine Zgv (b:=false) (gg:=false) (show ZIn false s1.heap a its.toArray from pl.isList) (show ZIn false s1.heap b its2.toArray from pl2.isList) fun h' a1 a2 a3 a4 a5 a6 hk=>?_
 refine W1 a1 ?_
 have fr:∀ k,FpOk X pins H1 (s1.heap.objs.size+k):=fun k=>I1.fpOk (Ts _ _) (I1.hok.fresh (Ts _ _))
 refine ⟨_,[s1.heap.objs.size+4,s1.heap.objs.size+2,s1.heap.objs.size+3,s1.heap.objs.size,s1.heap.objs.size+1],_,_,H1,rfl,I1.kept (t':=s1.toks) hk,Zs1 a b _ _ _ _ _ (Ze9 lt1 lt2),⟨a1,a2,⟨_,_,a3⟩,a4,a5⟩,fun c hc=>?_,q⟩
 simp only [Pu,Qe,or_false] at hc
 rcases hc with rfl | rfl | rfl | rfl | rfl
 ·exact fr 4
 ·exact fr 2
 ·exact fr 3
 ·exact fr 0
 ·exact fr 1
theorem s_izipm {K:Pk}{ta:TA}{σ:St}{H:Hp}{R:It->Hp->Prop}(h:ta σ H fun vs H1=>∃ a b xs ys,vs=[.ref a,.ref b]/\SqL K H1 a xs/\SqL K H1 b ys/\R (Ib K a b) H1):Zh5 K ta σ H R:=h
theorem Zmi {K:Pk}{a b:Addr}{xs ys:List V}{g:TG}{tb:TS}{D:Ends}{σ:St}{H:Hp}(Pv:Nat->St->Hp->Prop)(h0:Pv 0 σ H)(hl:∀ i σ H,i<=min xs.length ys.length->Pv i σ H->SqL K H a xs/\SqL K H b ys)
  (hs:∀ i x y t σ H,xs[i]?=some x->ys[i]?=some y->H t=none->Pv i σ H->g (.ref t) σ (upd H t (.tup [x,y])) fun σ2 H2=>tb { D with nx:=Pv (i+1),ct:=Pv (i+1),bk:=D.nx } σ2 H2) (hd:∀ σ H,Pv (min xs.length ys.length) σ H->D.nx σ H) :
  ∃ W:Nat->Nat->St->Hp->Prop,(∃ m,W 0 m σ H)/\∀ i m σ H,W i m σ H ->
   ((Ib K a b).stop i H/\D.nx σ H)\/((Ib K a b).go i H/\∃ N:St->Hp->Prop,(∀ σ' H',N σ' H'->∃ m',m' < m/\W (i+1) m' σ' H')/\∀ x H',(Ib K a b).yld i H x H'->g x σ H' fun σ2 H2=>tb { D with nx:=N,ct:=N,bk:=D.nx } σ2 H2):=by
 refine ⟨fun i m σ H=>m=min xs.length ys.length - i/\i<=min xs.length ys.length/\Pv i σ H,⟨min xs.length ys.length,by simp,Qd _,h0⟩,?_⟩
 rintro i m σ H ⟨rfl,hi,p⟩
 obtain ⟨q,q'⟩:=hl i σ H hi p
 by_cases hlt:i < min xs.length ys.length
 ·refine .inr ⟨⟨xs,ys,q,q',by omega,by omega⟩,Pv (i+1),fun σ' H' p'=>⟨min xs.length ys.length - (i+1),by omega,rfl,hlt,p'⟩,fun x H' y=>?_⟩
  obtain ⟨t,y,z,ht,hy,hz,rfl,rfl⟩:=y
  exact hs i y z t σ _ (hy xs q) (hz ys q') ht p
 ·have e:i=min xs.length ys.length:=by omega
  subst e
  exact .inl ⟨⟨xs,ys,q,q',rfl⟩,hd σ H p⟩
end
theorem s_dget1 {td ty:TE}{σ:St}{H:Hp}{Q:VK}(h:td σ H fun x H1=>∃ a,x=.ref a/\DcD H1 a/\ty σ H1 fun y H2=>∃ o,DGet H2 a y o/\Q (o.getD .non) H2):Zb7 td ty σ H Q:=h
theorem s_isB {x:V}{b:Bool}{H:Hp}{Q:VK}(h:Q (.bl (decide (x=.bl b))) H):rIsB x (.bl b) H Q:=⟨b,rfl,h⟩
theorem s_dnotin {td ty:TE}{σ:St}{H:Hp}{Q:VK}(h:ty σ H fun y H1=>td σ H1 fun x H2=>∃ a o,x=.ref a/\DGet H2 a y o/\Q (.bl (!o.isSome)) H2):O6 ty td σ H Q:=h
section
variable {X:Cx}
noncomputable abbrev Zec (f:Bool):=Za7 f true
theorem Zob (f:Bool)(K:Pk){e e2:Expr}{ta:TA}{p p2 pos pos2:Pos}(hg:Gl X "list")(hm:X.mg "list" = none)(hg2:Gl X "zip")(hm2:X.mg "zip" = none)(ha:QA X [e,e2] ta)(hK:X.K=K:=by rfl)(hc:X.calm=true:=by rfl)
  (hs:starEach [.Call (.Name "zip" p2) [e,e2] [] pos2] X.env=[(false,eval (.Call (.Name "zip" p2) [e,e2] [] pos2) X.env)]:=by rfl) (hs2:starEach [e,e2] X.env=[(false,eval e X.env),(false,eval e2 X.env)]:=by rfl) (hs3:starEach [e2] X.env=[(false,eval e2 X.env)]:=by rfl) :
  QE X (.Call (.Name "list" p) [.Call (.Name "zip" p2) [e,e2] [] pos2] [] pos) (Zec f K ta):=Zel f true K hg hm hg2 hm2 ha hK hc hs hs2 hs3
theorem s_listzt {f:Bool}{K:Pk}{ta:TA}{σ:St}{H:Hp}{Q:VK}(h:ta σ H fun vs H1=>∃ a b xs ys,vs=[.ref a,.ref b]/\Fq f K H1 a xs/\SqT K H1 b ys /\
 ∀(S:Addr)(zs:List V)(H2:Hp),H1 S=none->Same H1 H2->zs.length=min xs.length ys.length->Nq H2 xs ys zs->H2 S=some (.lst zs)->Q (.ref S) H2):Zec f K ta σ H Q:=h
end
theorem Zol:entryFor table "proto.unchain" = some Builtin.«proto.unchain»:=entryFor_of_fast (by kernel_rfl)
section
variable {prog:Program}{w:World}{A:Around}{E:Value->Shared->Prop}{s:Shared}
theorem Zlj {it a:Addr}{x left step:Int}{oa:Obj}{vs:Array Value}{Q:Option Value->Shared->Prop}(hh:A.handled=some (.ref a))(ha:s.heap.get? a=some oa)(hda:oa.data=.fields vs)(hc:vs[2]?=some .none)(hit:IsRangeIter s.heap it x left step)(hleft:left<=0)
  (hQ:∀ h',Tb it s.heap h'->Q none { s with heap:=h' }):wpAny (model prog w) A (pyNext (.ref it)) Q E s:=by
 have hT:s.TypeIs (.ref it) "range_iterator" := ⟨_,hit,rfl⟩
 unfold pyNext
 refine Pl (Rx (Ri (name:=Q5 "__next__") hT F.slot_range_iterator_next
  (Rm F.slot_range_iterator_next hT F.entry_range_iterator_next ?_ (F.args_range_iterator_next_1 _))))
 show wpAny _ _ (field (.ref it) 0 >>= _) _ _ s
 refine Pl (P4 hit rfl (x:=rawInt x) rfl ?_)
 show wpAny _ _ (field (.ref it) 1 >>= _) _ _ s
 refine Pl (P4 hit rfl (x:=rawInt left) rfl ?_)
 show wpAny _ _ (field (.ref it) 2 >>= _) _ _ s
 refine Pl (P4 hit rfl (x:=rawInt step) rfl ?_)
 show wpAny _ _ (if left<=0 then _ else _) _ _ s
 rw [if_pos hleft]
 refine Pl (Se ?_)
 refine Pl ?_
 show wpAny _ _ (newExc (.type "StopIteration") [] >>= _) _ _ _
 refine Pl ?_
 simp only [newExc,newTuple]
 refine Pl (Rk ?_ (by size_fits))
 refine Pl (m:=firstArgMember _ _) (wpAny_of_eq (a:=Value.none) (by first | rfl | (simp only [firstArgMember];rfl)) ?_)
 refine Rk ?_ (by size_fits)
 simp only [raiseNew]
 refine Pl (wpAny_handled ?_)
 first | rw [show A.in1.handled=some (.ref a) from hh] | rw [hh]
 have la:a < s.heap.objs.size:=Pr ha
 have ne:(Value.ref a != Value.ref (s.heap.push { cls:=Value.type "tuple",data:=Data.seq #[] }).objs.size)=true:=by
  have n1:¬ a=s.heap.objs.size+1:=P0 (Vk la)
  simp [n1]
 show wpAny _ _ (if (Value.ref a != Value.ref (s.heap.push { cls:=Value.type "tuple",data:=Data.seq #[] }).objs.size)=true then _ else _) _ _ _
 rw [if_pos ne]
 refine Pl (Ql (runValue_entry Zol ?_))
 show wpAny _ _ (field (.ref a) 2 >>= _) _ _ _
 refine Pl (P4 (Pp _ (Pp _ ha)) hda hc ?_)
 refine Pm ⟨_,rfl,?_⟩
 show wpAny _ _ (setField (.ref (s.heap.push { cls:=Value.type "tuple",data:=Data.seq #[] }).objs.size) 2 (.ref a) >>= _) _ _ _
 refine Pl (Tz (P5 _ rfl) rfl (by simp;omega) ?_)
 refine wpAny_throw ?_
 refine Pl (Uf (T := "StopIteration") (b:=true) ⟨_,Rt _ (P5 _ rfl) rfl,rfl⟩ Vu ?_)
 exact Pm (hQ _ fun b o hb e=>(Q2 _ _ (fun z=>by
   have l2:b < s.heap.objs.size:=Pr e
   have l3:(s.heap.push { cls:=Value.type "tuple",data:=Data.seq #[] }).objs.size=s.heap.objs.size+1:=by simp
   rw [<- z,l3] at l2
   exact absurd l2 (Nat.not_lt_of_le (Ta _)))).trans (Pp _ (Pp _ e)))
end
noncomputable def Zb8 (a:Addr)(ta:TA)(g:TG)(tb:TS):TS:=fun D σ H=>ta σ H fun vs H1=>∃ j:Int,vs=[.int j]/\-(2 ^ 62)<=j/\j < 2 ^ 62/\∃ W:Nat->Nat->St->Hp->Prop,(∃ m,W 0 m σ H1)/\∀ i m σ H,W i m σ H ->
 ((j.toNat<=i/\∃ cls od,H a=some (Ca a cls od))/\D.nx σ H)\/(i < j.toNat/\∃ N:St->Hp->Prop,(∀ σ' H',N σ' H'->∃ m',m' < m/\W (i+1) m' σ' H')/\g (.int (0+(i:Nat))) σ H fun σ2 H2=>tb { D with nx:=N,ct:=N,bk:=D.nx } σ2 H2)
section
variable {X:Cx}{tg:Expr}
noncomputable def PIEH (X:Cx)(pins:List (Addr×Obj))(σ:St)(R:Nat->Hp->Prop)(itv:Value)(s2:Shared):Prop:=∃(it:Addr)(n:Nat)(H':Hp),itv=.ref it/\Inv X pins σ H' s2/\IsRangeIter s2.heap it (0+((0:Nat):Int) * 1) ((n:Int) - ((0:Nat):Int)) 1/\FpOk X pins H' it/\R n H'
theorem Zp2 {pins:List (Addr×Obj)}{σ:St}{H:Hp}{s:Shared}{R:Nat->Hp->Prop}{E:Value->Shared->Prop}{hi:Int}{t u v:Tok}{tk:Nat}(I:Inv X pins σ H s)(h3:-(2 ^ 62)<=hi)(h4:hi < 2 ^ 62)
  (q:R hi.toNat H):wpAny (model X.prog X.w) X.A (pyIter (.ref s.heap.objs.size)) (PIEH X pins σ R) E { s with heap:=s.heap.push { cls:=.type "range",data:=.fields #[.int 0 t,.int hi u,.int 1 v] },toks:=tk }:=by
 refine wpAny_pyIter_range (IsRange.new ..) (small_one (by omega) (by omega) h3 h4) ?_
 have I1:Inv X pins σ H { s with heap:=s.heap.push { cls:=.type "range",data:=.fields #[.int 0 t,.int hi u,.int 1 v] },toks:=tk }:=I.kept fun b o e=>Pp _ e
 refine ⟨(s.heap.push { cls:=.type "range",data:=.fields #[.int 0 t,.int hi u,.int 1 v] }).objs.size,hi.toNat,H,rfl,I1.kept (t':=tk) fun b o e=>Pp _ e,?_,I1.fpOk (Po _) (I1.hok.fresh (Po _)),q⟩
 have e1:(0:Int)+((0:Nat):Int) * 1=0:=by simp
 have e2:((hi.toNat:Nat):Int) - ((0:Nat):Int)=Builtin.Range.rangeSize 0 hi 1:=by rw [rangeSize_one];split <;> omega
 rw [e1,e2]
 exact P5 _ rfl
theorem Zp9 {a:Addr}{e:Expr}{body:List Stmt}{ta:TA}{g:TG}{tb:TS}{p pos pos2:Pos}(hh:X.A.handled=some (.ref a))(hp:PassesOwn (model X.prog X.w) X.A X.env X.xe)(hgl:Gl X "range")(hm:X.mg "range" = none)(ha:PA X [e] ta)(hg:PG X tg g)(hb:PSs X body tb)
  (hse:starEach [e] X.env=[(false,eval e X.env)]:=by rfl) (hs:∀ x,foldedSetIterable (.Call (.Name "range" p) [e] [] pos) X.env x=pure x:=by intro _;rfl):PS X (.For tg (.Call (.Name "range" p) [e] [] pos) body [] pos2) (Zb8 a ta g tb):=by
 intro pins s σ H D I h
 have hR:wpAny (model X.prog X.w) X.A (eval (.Call (.Name "range" p) [e] [] pos) X.env) (fun v s1=>wpAny (model X.prog X.w) X.A (pyIter v) (PIEH X pins σ fun n H1=>∃ W:Nat->Nat->St->Hp->Prop,(∃ m,W 0 m σ H1)/\∀ i m σ H,W i m σ H ->
   ((n<=i/\∃ cls od,H a=some (Ca a cls od))/\D.nx σ H)\/(i < n/\∃ N:St->Hp->Prop,(∀ σ' H',N σ' H'->∃ m',m' < m/\W (i+1) m' σ' H')/\g (.int (0+(i:Nat))) σ H fun σ2 H2=>tb { D with nx:=N,ct:=N,bk:=D.nx } σ2 H2)) X.xe s1) X.xe s:=by
  refine Call_ (Dp I hgl hm boot_range (Q6 (Aj (ha pos pins s σ H _ I h) fun us s1 zq=>?_) hse rfl))
  obtain ⟨vs,H1,I1,r1,q1⟩:=zq
  obtain ⟨j,ej,j1,j2,q⟩:=q1
  subst ej
  cases r1 with
  | cons r rr =>
   cases rr
   obtain ⟨t,rfl⟩:=r
   exact call_range_1 (Zp2 I1 j1 j2 q)
 refine wpAny_For (Aj hR fun v s1 h1=>Aj h1 fun itv s2 h2=>?_) hs
 obtain ⟨it,n0,H2,rfl,I2,st2,f2,W,⟨m0,w0⟩,turn⟩:=h2
 have stat:∀{H':Hp},H' it=none->FpOk X pins H' it:=fun hn=>⟨hn,f2.2⟩
 refine codeAny_forLoop_any (fun n s'=>∃(i:Nat)(σ':St)(H':Hp),Inv X pins σ' H' s'/\IsRangeIter s'.heap it (0+((i:Nat):Int) * 1) ((n0:Int) - ((i:Nat):Int)) 1/\H' it=none/\W i n σ' H') ?_ m0 ⟨0,σ,H2,I2,st2,f2.1,w0⟩
 rintro n s3 ⟨i,σ3,H3,I3,st3,fr3,w3⟩
 obtain ⟨f0,f1,f2',f3,f4,f5⟩:=stat fr3
 rcases turn i n σ3 H3 w3 with ⟨⟨stop,cls,od,hx⟩,qn⟩ | ⟨go,N,hN,step⟩
 ·obtain ⟨oa,vs,o1,o2,o3,o4,o5⟩:=(I3.hok a _ hx).1
  refine Rc hp (Zlj hh o1 o4 o5 st3 (by omega) fun h' eb=>?_)
  exact Sa ⟨σ3,H3,I3.turned (t':=s3.toks) (fun b o hb e=>eb b o hb e) f0 f1 f3 f4 f5,qn⟩
 ·refine Rc hp (wpAny_pyNext_range_item st3 (by omega) fun h' st5 kk=>?_)
  have I5:Inv X pins σ3 H3 { s3 with heap:=h',toks:=s3.toks+1 }:=I3.turned (fun b o hb e=>(kk.2 b hb).trans e) f0 f1 f3 f4 f5
  have ex:((i+1:Nat):Int)=(i:Nat)+1:=by omega
  have st5':IsRangeIter h' it (0+((i+1:Nat):Int) * 1) ((n0:Int) - ((i+1:Nat):Int)) 1:=by
   rw [show (0:Int)+((i+1:Nat):Int) * 1=0+((i:Nat):Int) * 1+1 by omega,show (n0:Int) - ((i+1:Nat):Int)=(n0:Int) - ((i:Nat):Int) - 1 by omega]
   exact st5
  refine Rc hp (Jk (s:={ s3 with heap:=h',toks:=s3.toks+1 }) (n := "range_iterator") st5 rfl rfl (by decide) ?_)
  have ob:∀ b∈[it],∃ o,h'.get? b=some o/\∀ v,o.data≠.cell v:=fun b hb=>by
   have e:b=it:=by simpa using hb
   subst e
   exact ⟨_,st5,fun v z=>by
    have z':Data.fields _=Data.cell v:=z
    cases z'⟩
  have I5':=I5.pinned (fp:=[it]) (fun b hb=>by
   have e:b=it:=by simpa using hb
   subst e
   exact stat fr3) ob
  have rx:RelV (.int (0+(i:Nat))) (.int (0+((i:Nat):Int) * 1) s3.toks):=⟨s3.toks,by rw [Int.mul_one]⟩
  refine Rc hp (Aj (hg _ _ σ3 H3 _ _ _ I5' rx step) fun _ s6 zq=>?_)
  obtain ⟨σ6,H6,I6,q6⟩:=zq
  refine Rc hp (Aj (hb _ s6 σ6 H6 _ I6 q6) fun f s7 q7=>?_)
  have again:∀{σ7:St}{H7:Hp},Inv X (pins++Jo [it] h') σ7 H7 s7->N σ7 H7->∃ m,m < n/\∃(i:Nat)(σ':St)(H':Hp),Inv X pins σ' H' s7/\IsRangeIter s7.heap it (0+((i:Nat):Int) * 1) ((n0:Int) - ((i:Nat):Int)) 1/\H' it=none/\W i m σ' H':=fun {σ7 H7} I7 n7=>by
   obtain ⟨m',hm,w7⟩:=hN σ7 H7 n7
   have pp:=I7.pin (it,_) (Rb _ (Rb _ (Ke (by simp) st5')))
   exact ⟨m',hm,i+1,σ7,H7,I7.unpinned,pp.1,pp.2.1,w7⟩
  cases f with
  | next=>obtain ⟨σ7,H7,I7,n7⟩:=q7;exact again I7 n7
  | cont=>obtain ⟨σ7,H7,I7,n7⟩:=q7;exact again I7 n7
  | brk=>obtain ⟨σ7,H7,I7,q7⟩:=q7;exact ⟨σ7,H7,I7.unpinned,q7⟩
  | ret v=>obtain ⟨x7,σ7,H7,I7,r7,q7⟩:=q7;exact ⟨x7,σ7,H7,I7.unpinned,r7,q7⟩
end
section
variable {X:Cx}{c n:Str}{np hpos pos:Pos}{body hbody:List Stmt}{b₀:Stmt}{tb:Fk}{th:Addr->TS}{i:Nat}{C:Addr}
noncomputable def Zeg (K:Pk)(C:Addr)(i:Nat)(tb:Fk)(th:Addr->TS):TS:=fun D σ H=>tb D (fun σ1 cls od H2=>(∃ C',cls=.ref C'/\Pz K (.ref C') (.ref C)=some true)/\∀ a,H2 a=none->th a (D.gone i) (σ1.set i (some (.ref a))) (upd H2 a (Ca a cls od))) σ H
theorem Zof (hN:X.N.Nodup)(hi:X.N[i]?=some n)(hk:X.env.scope.names.lookup n=some .local)(hC:Nd X.K C)(G:X.mg c=some (.ref C))(hf:X.env.frame=some X.env.locals)(hst:X.stack=X.env::X.outer)(hb:QXS X body tb)(hh:∀(e:Addr) XE,Dh (X.to (X.A.mark (some (.ref e))) false XE) (b₀::hbody) (th e))(hg:Gl X c:=by rfl)(hdb:(c == ("__debug__" : Str))=false:=by decide) :
  QS X (.Try body [.ExceptHandler (some (.Name c np)) (some n) (b₀::hbody) hpos] [] [] pos) (Zeg X.K C i tb th):=by
 refine ⟨fun pins s σ H D I h=>?_⟩
 refine wpAny_Try_except (Q0 (hb.run pins s σ H D _ I h) (fun f s1 q=>?_) fun ev s1 q=>?_)
 ·cases f with
  | next=>exact Sa q
  | ret v=>exact q
  | brk=>exact q
  | cont=>exact q
 ·obtain ⟨σ1,H0,s0,I0,e,T,cls,od,H',rfl,h1,h2,h3,h4,h5,h6,h7,h8,h9,⟨C',rfl,hsub⟩,h10⟩:=q
  have J:Inv X pins σ1 H' s1:=I0.call' (ch:=[]) h1 h3 h4 h2 (fun b z=>absurd z (by simp))
  have hfr:X.A.frames=some (X.env::X.outer):=by rw [<- hst];exact J.ok.frames
  have hstk:=J.stack
  rw [hst] at hstk
  refine Zc4 (base:=X.base) hfr hstk hf h9 fun h' T' hT' y m=>Mg (fs:=Bp (X.env::X.outer)) y fun h'' y' m'=>?_
  have M1:Mvd (Bp X.stack) [e,T,T'] s1.heap h'':=by rw [hst];exact (m.mono (by simp)).trans (m'.mono (by simp))
  have fT':s0.heap.get? T'=none:=by
   cases q:s0.heap.get? T' with
   | none=>rfl
   | some o =>
    obtain ⟨o',z⟩:=h3.there T' o q (by simp)
    exact absurd (Pr z) (Nat.not_lt.mpr hT')
  have hT'n:H' T'=none:=J.hok.fresh hT'
  have fx:∀ b∈[e,T,T'],s0.heap.get? b=none/\H' b=none:=by
   intro b hb
   simp only [Pu,Qe,or_false] at hb
   rcases hb with rfl | rfl | rfl
   ·exact ⟨h5,h7⟩
   ·exact ⟨h6,h8⟩
   ·exact ⟨fT',hT'n⟩
  have land:∀{h3':Heap},Mvd (Bp X.stack) [e,T,T'] s1.heap h3'->F8 h3' e T' (.ref C') od->Inv X pins σ1 (upd H' e (Ca e (.ref C') od)) { s1 with heap:=h3' }:=fun {h3'} mm ll =>
   I0.call' (s':={ s1 with heap:=h3' }) (ch:=[]) h1 (h3.land mm (fun b hb=>(fx b hb).1) h5 h7) (h4.land mm (fun b hb=>(fx b hb).2) (fun b hb=>J.stkFree b hb) h7 (Zpz ll)) h2 (fun b z=>absurd z (by simp))
  have I1:=land M1 y'
  refine wpAny_handleBy_cons (codeAny_handlers_test ?_) (by intro q;cases q)
  have I1':Inv (X.to (X.A.mark (some (.ref e))) false (notedBy (model X.prog X.w) (X.A.mark (some (.ref e))) X.env fun x s₁=>True)) pins σ1 (upd H' e (Ca e (.ref C') od)) { s1 with heap:=h'' }:=I1.to rfl (by simp)
  refine Hf I1' hg G ?_ hdb
  obtain ⟨oe,vs,oT,ts,a1,a2,a3,a4,a5,a6,a7,a8,a9⟩:=id y'
  refine Zir I1.kIn hC a1 a2 hsub ?_
  refine codeAny_handlers_suite_as (Mg (fs:=Bp X.stack) y' fun h4' y4 m4=>?_)
  have I2:=land (M1.trans (m4.mono (by simp))) y4
  refine Hm (v:=.ref e) I2 hN hi (.inl hk) rfl (fun s3 I3=>?_) (.inr hk)
  refine Q0 ((hh e _).run pins s3 _ _ (D.gone i) (I3.to rfl (by simp)) (h10 e h7)) (fun f s4 q=>?_) fun ev s4 q=>q
  cases f with
  | next =>
   obtain ⟨σ',H4,I4,q⟩:=q
   exact Ll (I4.back I.ok) hN hi hk fun s5 I5=>⟨_,H4,I5,q⟩
  | ret v =>
   obtain ⟨u,σ',H4,I4,r,q⟩:=q
   exact Ll (I4.back I.ok) hN hi hk fun s5 I5=>⟨u,_,H4,I5,r,q⟩
  | brk =>
   obtain ⟨σ',H4,I4,q⟩:=q
   exact Ll (I4.back I.ok) hN hi hk fun s5 I5=>⟨_,H4,I5,q⟩
  | cont =>
   obtain ⟨σ',H4,I4,q⟩:=q
   exact Ll (I4.back I.ok) hN hi hk fun s5 I5=>⟨_,H4,I5,q⟩
end
structure Gg (P:Program)(w:World)(K:Pk)(mg:Str->Option Value)(base:Heap)(k:Nat)(f:Addr)(fd:FuncData)(ps:List Str)(sp:Addr->Sp):Prop where
 len:∀ a vs H Q E,sp a vs H Q E->vs.length=ps.length
 run:∀(ax:Addr)(A:Around)(outer:List Env)(s:Shared)(H:Hp)(args:Args)(us:List Value)(vs:List V)(Q:VK)(E:XK),RoomN k A->A.handled=some (.ref ax)->Env0 P w K mg base A outer s H->BindsTo s fd args (ps.zip us)->Vals vs us->sp ax vs H Q E ->
  codeAny (model P w) A (.call (.ref f) args) (CR Az outer P w H s Q E) s
section
variable {P:Program}{w:World}{K:Pk}{mg:Str->Option Value}{base:Heap}
theorem Zrz {k:Nat}{f:Addr}{name qual:Str}{params:Arguments}{body:List Stmt}{scope:Scope}{dV kV doc pm cdv ct oc:Value}{an od:Option Addr}
  {osl:Array (Option Value)} {N ps:List Str} {sp:Addr->Sp} (lk:K.lookup f=some ⟨oc,od,.func (Ry name qual params body scope dV kV doc pm an cdv ct),osl⟩) (hcd:Vt K cdv qual=true) (S:Bf N ps scope)
  (len:∀ a vs H Q E,sp a vs H Q E->vs.length=ps.length)
  (hbody:∀(ax:Addr)(A:Around)(outer:List Env)(s:Shared)(H:Hp)(vs:List V)(Q:VK)(E:XK),RoomN k (A.deeper (envOfC qual scope s.heap.objs.size f cdv))->(A.deeper (envOfC qual scope s.heap.objs.size f cdv)).handled=some (.ref ax)->sp ax vs H Q E ->
   ∃ t,PSs ((Cy Az P w K mg base N qual scope f cdv A outer s H E).to (A.deeper (envOfC qual scope s.heap.objs.size f cdv)) false (fun _ _=>False)) body t/\t { nx:=fun _ H'=>Q .non H',rt:=Q } (Db N vs) H) :
  Gg P w K mg base (k+1) f (Ry name qual params body scope dV kV doc pm an cdv ct) ps sp:=by
 refine ⟨len,fun ax A outer s H args us vs Q E hr hh e0 hb r hsp=>?_⟩
 have hl:=len _ _ _ _ _ hsp
 have KX:K.In s.heap:=e0.mod.kin.keeps fun b o e=>(e0.bs b o e).1
 have lim:s.heap.NoLimit:=e0.mod.nolimit.keeps fun b o e=>(e0.bs b o e).1
 have hkind:∀ y∈ps.zip us,scope.names.lookup y.1=some .local\/(scope.names.lookup y.1=some .cell/\((cellsFrom (s.heap.objs.size+1) scope.names []).lookup y.1).isSome=true):=fun ⟨n,v⟩ hy=>by
  rcases S.par n (Ug hy).1 with q | q
  ·exact .inl q
  ·exact .inr ⟨q,We _ _ _ (.inl q)⟩
 refine codeAny_call_function (by have:=hr.dp;omega) (KX _ _ lk) rfl S.co S.gen rfl (PySem.W.codeRec_of KX hcd) (hb _ _ _ _ ?_)
 refine wpAny_newFunctionEnv_cells S.kind hkind fun env he s1 x=>?_
 subst he
 refine ⟨lim.keeps x.toInCall.keep,codeAny_func ?_⟩
 obtain ⟨t,ht,hq⟩:=hbody ax A outer s H vs Q E (hr.deeper _) hh hsp
 have e0':Env0 P w K mg base { A with handled:=none } outer s H:=⟨e0.frames,e0.mod,e0.bs,e0.bsz,e0.funs,e0.frf,e0.hok,e0.bare⟩
 have I0:Inv (Cy Az P w K mg base N qual scope f cdv { A with handled:=none } outer s H E) [] (Db N vs) H s1:=Zfb S rfl e0' hl r x
 have I:Inv ((Cy Az P w K mg base N qual scope f cdv A outer s H E).to (A.deeper (envOfC qual scope s.heap.objs.size f cdv)) false (fun _ _=>False)) [] (Db N vs) H s1:=I0.to (A:=A.deeper (envOfC qual scope s.heap.objs.size f cdv)) (c:=false) (XE:=fun _ _=>False) rfl (by simp)
 refine Q0 (ht [] s1 (Db N vs) H _ I hq) (fun fl s' hs=>?_) fun e s' hs=>Qh hs
 have fin:∀{σ':St}{H':Hp}{v:V}{u:Value},Inv ((Cy Az P w K mg base N qual scope f cdv A outer s H E).to (A.deeper (envOfC qual scope s.heap.objs.size f cdv)) false (fun _ _=>False)) [] σ' H' s'->RelV v u->Q v H'->CE outer P w H s Q u s' :=
  fun {σ' H' v u} J rv q=>⟨v,H',J.os,J.bare,J.base,J.hok,rv,q⟩
 cases fl with
 | ret u =>
  obtain ⟨v,σ',H',J,rv,q⟩:=hs
  exact fin J rv q
 | next =>
  obtain ⟨σ',H',J,q⟩:=hs
  exact fin (v:=V.non) (u:=Value.none) J rfl q
 | brk =>
  obtain ⟨_,_,_,q⟩:=hs
  exact Qh q
 | cont =>
  obtain ⟨_,_,_,q⟩:=hs
  exact Qh q
theorem Fun.okH {x qual:Str}{st:Stmt}{f:Addr}{fd:FuncData}{N ps:List Str}{k:Nat}{sp:Addr->Sp}(F:Fun K x qual st f fd)(S:Bf N ps (A0 st))(len:∀ a vs H Q E,sp a vs H Q E->vs.length=ps.length)
  (hbody:∀(ax:Addr)(cdv:Value)(A:Around)(outer:List Env)(s:Shared)(H:Hp)(vs:List V)(Q:VK)(E:XK),RoomN k (A.deeper (envOfC qual (A0 st) s.heap.objs.size f cdv))->(A.deeper (envOfC qual (A0 st) s.heap.objs.size f cdv)).handled=some (.ref ax)->sp ax vs H Q E ->
   ∃ t,Dh ((Cy Az P w K mg base N qual (A0 st) f cdv A outer s H E).to (A.deeper (envOfC qual (A0 st) s.heap.objs.size f cdv)) false (fun _ _=>False)) (E6 st) t/\t { nx:=fun _ H'=>Q .non H',rt:=Q } (Db N vs) H):Gg P w K mg base (k+1) f fd ps sp:=by
 obtain ⟨oc,od,kV,doc,pm,an,cdv,ct,osl,rfl,lk,hcd⟩:=F.ex
 refine Zrz lk hcd S len fun ax A outer s H vs Q E hr hh hsp=>?_
 obtain ⟨t,h,q⟩:=hbody ax cdv A outer s H vs Q E hr hh hsp
 exact ⟨t,h.run,q⟩
structure Ik (P:Program)(w:World)(K:Pk)(mg:Str->Option Value)(base:Heap)(k:Nat)(x:Str)(ps:List Str)(sp:Addr->Sp):Prop where
 ex:∃(f:Addr)(fd:FuncData),Gg P w K mg base k f fd ps sp/\mg x=some (.ref f)/\Ro K (.ref f)=true/\Binds K fd ps []
theorem Zsh {k:Nat}{x:Str}{ps:List Str}{sp:Addr->Sp}{f:Addr}{fd:FuncData}(F:Gg P w K mg base k f fd ps sp)(m:mg x=some (.ref f))(kp:Ro K (.ref f)=true)(b:Binds K fd ps []):Ik P w K mg base k x ps sp:=⟨f,fd,F,m,kp,b⟩
end
section
variable {X:Cx}{k:Nat}{x:Str}{ps:List Str}{sp:Addr->Sp}{p pos:Pos}{e:Expr}{es:List Expr}{t:TA}
theorem Zad (C:Ik X.prog X.w X.K X.mg X.base k x ps sp)(hr:RoomN k X.A){ax:Addr}(hh:X.A.handled=some (.ref ax))(ha:QA X (e::es) t)(hg:Gl X x:=by rfl)(hdb:(x == ("__debug__" : Str))=false:=by decide)
  (he:starEach (e::es) X.env=(false,eval e X.env)::starEach es X.env:=by rfl) (hpl:(backTo pos (starEach es X.env)).any (·.1)=false:=by rfl):QE X (.Call (.Name x p) (e::es) [] pos) (Jp (sp ax) [] E0 t):=by
 obtain ⟨f,fd,F,hm,hk,hb⟩:=C.ex
 refine ⟨fun pins s σ H Q I h=>?_⟩
 refine To (Hf I hg hm ?_ hdb)
 refine Vf (h₀:=X.base) I.ok.mod.kin hk (Aj (ha.run pos pins s σ H _ I h) fun us s1 zq=>?_) he hpl
 obtain ⟨vs,H1,I1,r,q⟩:=zq
 refine ⟨I1.kIn,?_⟩
 have q:sp ax (vs++[]) H1 Q E0:=q
 rw [Qx] at q
 have hl:us.length=ps.length:=by rw [<- r.length];exact F.len _ _ _ _ _ q
 have hb':=hb s1 us I1.kIn (by simpa using hl)
 rw [Qx] at hb'
 refine Sf (Sz (F.run ax X.A X.stack s1 H1 ⟨us,[]⟩ us vs Q _ hr hh I1.env0 hb' r q) fun r s' hq=>?_)
 cases r with
 | error e=>exact Qh hq
 | ok fl =>
  cases fl with
  | ret u=>exact I1.after hq
  | next=>exact Qh hq
  | brk=>exact Qh hq
  | cont=>exact Qh hq
end
theorem RoomN.u200 {k:Nat}{A:Around}(r:RoomN k A):A.units+200 < cLine:=by have:=r.un;omega
section
variable {X:Cx}{tg:Expr}
theorem Zqr {a:Addr}{e:Expr}{body:List Stmt}{ta:TA}{g:TG}{tb:TS}{p pos pos2:Pos}(hp:PassesOwn (model X.prog X.w) X.A X.env X.xe)(hh:X.A.handled=some (.ref a))(hgl:Gl X "range")(hm:X.mg "range" = none)(ha:QA X [e] ta)(hg:QG X tg g)(hb:Dh X body tb)
  (hse:starEach [e] X.env=[(false,eval e X.env)]:=by rfl) (hs:∀ x,foldedSetIterable (.Call (.Name "range" p) [e] [] pos) X.env x=pure x:=by intro _;rfl):QS X (.For tg (.Call (.Name "range" p) [e] [] pos) body [] pos2) (Zb8 a ta g tb):=⟨Zp9 hh hp hgl hm ha.run hg.run hb.run hse hs⟩
end
end L2
local macro_rules | `(tactic| walk_at "sc")=>`(tactic| exact ⟨rfl,rfl,rfl,by decide +kernel,rfl,by decide +kernel,by decide +kernel⟩)
namespace L2
open PySem PySem.Spec PyProof.Rows
theorem Bs:0<=sizeLine:=by decide
theorem B5:1<=sizeLine:=by decide
theorem Bu:2<=sizeLine:=by decide
theorem B2:3<=sizeLine:=by decide
theorem sz4:4<=sizeLine:=by decide
theorem sz5:5<=sizeLine:=by decide
theorem sz8:8<=sizeLine:=by decide
theorem sz9:9<=sizeLine:=by decide
theorem RoomN.m {j k:Nat}{A:Around}(r:RoomN k A)(h:j<=k:=by decide):RoomN j A:=r.mono h
theorem Room.m {j k:Nat}{A:Around}(r:Room k A)(h:j<=k:=by decide):Room j A:=r.mono h
section
variable {X:Cx}{a b:Expr}{ta tb:TE}{pos:Pos}{K:Pk}
theorem Aq (i:Nat){ps:List Str}{sc:Scope}{x:Str}{e:Expr}{te:TE}{pos':Pos}(S:Bf X.N ps sc)(he:QE X e te)(hi:X.N[i]?=some x:=by rfl)(hx:Em X.env.scope x:=by exact Or.inl rfl)(hs:swapsWith e (some (.Name x pos')) pos.line X.env=pure false:=by rfl)(hf:X.fn x=true\/X.env.scope.names.lookup x=some .local:=by first | exact .inl rfl | exact .inr rfl | assumption):QS X (.Assign [.Name x pos'] e pos) (G7 te (Gs i)):=Zbe S.nd hi hx he hs hf
theorem Ao (K:Pk)(ha:QE X a ta)(hb:QE X b tb)(hs:Pg b:=by exact fun _ _=>rfl)(hK:X.K=K:=by rfl):QE X (.Subscript a b pos) (Fe (Ji K) ta tb):=Zox (k_ix K hK) ha hb hs
end
end L2
namespace K37
theorem lz1 {α:Type}{vs:List α}(h:vs.length=1):∃ u,vs=[u]:=by
 cases vs with
 | nil=>cases h
 | cons u r=>cases Rr (Nat.succ.inj h);exact ⟨u,rfl⟩
theorem lz2 {α:Type}{vs:List α}(h:vs.length=2):∃ u v,vs=[u,v]:=by
 cases vs with
 | nil=>cases h
 | cons u r=>obtain ⟨v,rfl⟩:=lz1 (Nat.succ.inj h);exact ⟨u,v,rfl⟩
end K37
namespace K37
open PySem L2
noncomputable def Ac (i:Nat):Stmt:=Tf.main.body.getD i (.Pass ⟨0,0,0,0⟩)
noncomputable abbrev Kx:Stmt:=Ac 15
noncomputable abbrev K2:Stmt:=Ac 17
noncomputable abbrev Ie:Stmt:=Ac 18
noncomputable abbrev Jm:Stmt:=Ac 19
noncomputable abbrev Jb:Stmt:=Ac 20
noncomputable abbrev Lh:Stmt:=Ac 21
noncomputable abbrev Li:Stmt:=Ac 22
noncomputable abbrev K9:Stmt:=Ac 24
noncomputable abbrev Ks:Stmt:=Ac 25
noncomputable abbrev Lj:Stmt:=Ac 26
noncomputable abbrev Kv:Stmt:=Ac 27
noncomputable abbrev Ko:Stmt:=Ac 32
noncomputable abbrev Jz:Stmt:=Ac 33
noncomputable abbrev Kp:Stmt:=Ac 34
noncomputable abbrev Lc:Stmt:=Ac 35
noncomputable abbrev Ka:Stmt:=Ac 36
noncomputable abbrev Le:Stmt:=Ac 37
noncomputable abbrev Lb:Stmt:=Ac 38
noncomputable abbrev Lf:Stmt:=Ac 39
noncomputable abbrev K5:Stmt:=Ac 40
noncomputable abbrev K7:Stmt:=Ac 43
noncomputable abbrev Im:Stmt:=Ac 44
noncomputable abbrev Ix:Stmt:=Ac 45
noncomputable abbrev Hg:Stmt:=Ac 46
noncomputable abbrev Ih:Stmt:=Ac 47
noncomputable abbrev Kz:Stmt:=Ac 49
noncomputable abbrev Kh:Stmt:=Ac 50
noncomputable abbrev F7:Stmt:=Ac 51
noncomputable abbrev Ju:Stmt:=Ac 52
noncomputable abbrev K6:Stmt:=Ac 53
noncomputable abbrev Ku:Stmt:=Ac 54
noncomputable abbrev Jv:Stmt:=Ac 55
noncomputable abbrev Jx:Stmt:=Ac 56
structure Txt (K:Pk)(mg:Str->Option Value):Prop where
 isinstance:mg "isinstance" = none
 int:mg "int" = none
 bool:mg "bool" = none
 reversed:mg "reversed" = none
 list:mg "list" = none
 enumerate:mg "enumerate" = none
 len:mg "len" = none
 zip:mg "zip" = none
 dict:mg "dict" = none
 tuple:mg "tuple" = none
 range:mg "range" = none
 str:mg "str" = none
 ValueError:mg "ValueError" = none
structure Script (K:Pk)(H:Hp)(a:Addr):Prop where
 ex:∃ ns:List Int,SqL K H a (ns.map V.int)/\ns.length<=63
theorem Script.same {K:Pk}{H H':Hp}{a:Addr}(S:Script K H a)(h:Same H H'):Script K H' a:=by
 obtain ⟨ns,q,l⟩:=S.ex
 exact ⟨ns,h.seq q,l⟩
theorem big:100000<=sizeLine:=by decide
end K37
local macro_rules | `(tactic| walk_at "r1")=>`(tactic| (first | (with_reducible first | refine L2.s_seq ?_ | refine L2.s_asg ?_ | refine L2.s_ret ?_ | refine L2.s_ifS ?_ | refine L2.s_ifE ?_ | refine L2.s_dget ?_ | refine L2.s_din ?_ | refine L2.s_dput ?_ | refine L2.s_dget2 ?_ | refine L2.s_izipm ?_ | refine L2.s_dnotin ?_ | refine L2.s_listzt ?_ | refine L2.s_dget1 ?_ | refine L2.s_isB ?_ | refine L2.s_par ?_ | refine L2.s_test ?_ | refine L2.s_op ?_ | refine L2.s_c ?_ | refine L2.s_cons ?_ | refine L2.s_nil ?_ | refine L2.s_call ?_ | refine L2.s_cb ?_ | refine L2.s_gname ?_ | refine L2.s_ex ?_ | refine L2.s_exi ?_ | refine L2.s_drop ?_ | refine L2.s_next ?_ | refine L2.s_un ?_ | refine L2.s_tB ?_ | refine L2.s_not ?_ | refine L2.s_and ?_ | refine L2.s_or ?_ | refine L2.s_andV ?_ | refine L2.s_orV ?_ | refine L2.s_notV ?_ | refine L2.s_vals ?_ | refine L2.s_tup ?_ | refine L2.s_lst ?_ | refine L2.s_bm ?_ | refine L2.s_bm0 ?_ | refine L2.s_sl ?_ | refine L2.s_po ?_ | refine L2.s_po0 ?_ | refine L2.s_gcons ?_ | refine L2.s_gnil ?_ | refine L2.s_gsub ?_ | refine L2.s_isN ?_ | refine L2.s_notN ?_ | refine L2.s_rI0 ?_ | refine L2.s_rU ?_ | refine L2.s_add_int ?_ | refine L2.s_lt ?_ | refine L2.s_le ?_ | refine L2.iteT ?_ | refine L2.iteF ?_ | refine L2.s_comp ?_ | refine L2.s_for ?_ | refine L2.s_rng1 ?_ | refine L2.s_rng3 ?_ | refine L2.s_exr ?_ | refine L2.s_iany ?_ | refine L2.s_irev ?_ | refine L2.s_ienum ?_ | refine L2.s_listen ?_ | refine L2.s_listrev ?_ | refine L2.s_izip ?_ | refine L2.s_ienumT ?_ | refine L2.s_listzp ?_ | refine L2.s_ipI ?_ | refine L2.s_yes ?_ | refine L2.s_turn ?_ | refine L2.s_int_b ?_ | refine L2.s_intb ?_ | refine L2.s_truth ?_ | refine L2.s_chain ?_ | refine L2.s_nt ?_ | refine L2.s_nf ?_) | ((with_reducible refine' L2.s_var ?e ?_); (case e=>exact rfl)) | ((with_reducible refine' L2.s_aug ?e ?_); (case e=>exact rfl)) | ((with_reducible refine' L2.s_eq ?e ?_); (case e=>exact rfl)) | ((with_reducible refine' L2.s_ne ?e ?_); (case e=>exact rfl)) | ((with_reducible refine' L2.s_neb ?e ?_); (case e=>exact rfl)) | ((with_reducible refine' L2.s_rI ?c ?_); (case c=>first | decide | exact ⟨by decide,by decide⟩ | exact ⟨by decide,by decide,by decide⟩)) | ((with_reducible refine' L2.s_mul_r ?a ?b ?_); (case a=>decide); (case b=>decide)) | ((with_reducible refine' L2.s_mul_l ?a ?b ?_); (case a=>decide); (case b=>decide)) | ((with_reducible refine' L2.s_exr3 ?e ?_); (case e=>decide))))
local macro_rules | `(tactic| walk_at "r")=>`(tactic| (repeat walk_at "r1"))
local macro_rules | `(tactic| walk_at "q")=>`(tactic| (repeat (first | (with_reducible first | refine L2.s_gcons ?_ | refine L2.s_gname ?_ | refine L2.s_gnil ?_ | refine L2.s_seq ?_ | refine L2.s_asg ?_ | refine L2.s_c ?_ | refine L2.s_lst ?_ | refine L2.s_tup ?_ | refine L2.s_cons ?_ | refine L2.s_nil ?_) | ((with_reducible refine' L2.s_var ?e ?_); (case e=>exact rfl)))))
namespace K37
open PySem L2
section
variable {P:Program}{w:World}{K:Pk}{mg:Str->Option Value}{base:Heap}
noncomputable def Hq (K:Pk)(n:Nat):Sp:=fun vs H Q _=>∃(x y:V)(d:Dt)(m:Nat),vs=[x,y]/\m < n/\IsD K H m x d/\IsD K H m y d/\Ga d/\∀ H',Same H H'->Q (.bl true) H'
theorem sc_law_same:Bf ["_law_found", "_law_due", "_law_k"] ["_law_found", "_law_due"] (A0 F7):=by walk_at "sc"
theorem Zsn {n:Nat}{f:Addr}{fd:FuncData}(F:Fun K "_law_same" "_law_same" F7 f fd)(T:Txt K mg)(C__law_same:Ba P w K mg base (n+1) "_law_same" ["_law_found", "_law_due"] (Hq K n)):As P w K mg base Az (n+2) f fd ["_law_found", "_law_due"] (Hq K (n+1)):=by
 refine F.okq sc_law_same (fun vs H Q E h=>?_) (fun cdv A outer s H vs Q E hr h=>?_)
 ·obtain ⟨x,y,d,m,rfl,_⟩:=h
  rfl
 ·obtain ⟨x,y,d,m,rfl,hm,hx,hy,hd,q⟩:=h
  refine ⟨_,Ae (Au (B0 (A9 (B1 K "bool") (by rfl) T.isinstance (by decide +kernel) (Aa (qv 1) (Aa (Bx (v:=.ty "bool") (by rfl) T.bool (by decide +kernel) rfl) Ab)))) (Af (Am (Di (A9 (B1 K "bool") (by rfl) T.isinstance (by decide +kernel) (Aa (qv 0) (Aa (Bx (v:=.ty "bool") (by rfl) T.bool (by decide +kernel) rfl) Ab))) (Eo (Et (Bg K hr.u200) (qv 0) (qv 1) (A1 _)))))) Aw)
   (Ae (Au (B0 (A9 (B1 K "int") (by rfl) T.isinstance (by decide +kernel) (Aa (qv 1) (Aa (Bx (v:=.ty "int") (by rfl) T.int (by decide +kernel) rfl) Ab)))) (Af (Am (Di (A9 (B1 K "int") (by rfl) T.isinstance (by decide +kernel) (Aa (qv 0) (Aa (Bx (v:=.ty "int") (by rfl) T.int (by decide +kernel) rfl) Ab))) (Di (My (A9 (B1 K "bool") (by rfl) T.isinstance (by decide +kernel) (Aa (qv 0) (Aa (Bx (v:=.ty "bool") (by rfl) T.bool (by decide +kernel) rfl) Ab)))) (Eo (Et (Bg K hr.u200) (qv 0) (qv 1) (A1 _))))))) Aw)
   (Ae (Au (B0 (A9 (B1 K "str") (by rfl) T.isinstance (by decide +kernel) (Aa (qv 1) (Aa (Bx (v:=.ty "str") (by rfl) T.str (by decide +kernel) rfl) Ab)))) (Af (Am (Di (A9 (B1 K "str") (by rfl) T.isinstance (by decide +kernel) (Aa (qv 0) (Aa (Bx (v:=.ty "str") (by rfl) T.str (by decide +kernel) rfl) Ab))) (Eo (Et (Bg K hr.u200) (qv 0) (qv 1) (A1 _)))))) Aw)
   (Ae (Au (Gj (Iz (qv 1))) (Af (Am (N6 (Iz (qv 0))))) Aw)
   (Ae (Au (B0 (A9 (B1 K "tuple") (by rfl) T.isinstance (by decide +kernel) (Aa (qv 1) (Aa (Bx (v:=.ty "tuple") (by rfl) T.tuple (by decide +kernel) rfl) Ab)))) (Af (Au (Dv (B0 (A9 (B1 K "tuple") (by rfl) T.isinstance (by decide +kernel) (Aa (qv 0) (Aa (Bx (v:=.ty "tuple") (by rfl) T.tuple (by decide +kernel) rfl) Ab))))) (Af (Am Ct)) Aw)) (Af (Au (Dv (B0 (A9 (B1 K "list") (by rfl) T.isinstance (by decide +kernel) (Aa (qv 0) (Aa (Bx (v:=.ty "list") (by rfl) T.list (by decide +kernel) rfl) Ab))))) (Af (Am Ct)) Aw)))
   (Ae (Au (A8 (Kk K hr.u200) (A9 (Ek K) (by rfl) T.len (by decide +kernel) (Aa (qv 0) Ab)) (A9 (Ek K) (by rfl) T.len (by decide +kernel) (Aa (qv 1) Ab)) (A1 _)) (Af (Am Ct)) Aw)
   (Ae (Cg Qf rfl (Kb rfl T.range (Aa (A9 (Ek K) (by rfl) T.len (by decide +kernel) (Aa (qv 1) Ab)) Ab)) (Ax (i:=2) sc_law_same.nd rfl (Or.inl rfl)) (Af (Au (Dv (B0 (Ay C__law_same (hr.mono (by omega)) (Aa (Ao K (qv 0) (qv 2)) (Aa (Ao K (qv 1) (qv 2)) Ab))))) (Af (Am Ct)) Aw)))
   (Af (Am Ct)))))))),?_⟩
  have bg:=big
  cases hx with
  | flat hv =>
   cases hy with
   | flat _ =>
   cases x with
   | non =>
    walk_at "r"
    refine Cj (b:=false) .non rfl ?_
    walk_at "r"
    refine Cj (b:=false) .non rfl ?_
    walk_at "r"
    refine Cj (b:=false) .non rfl ?_
    walk_at "r"
    rw [decide_eq_true (Eq.refl _)]
    walk_at "r"
    exact q H (Same.refl _)
   | bl b =>
    walk_at "r"
    refine Cj (b:=true) (.bl b) rfl ?_
    walk_at "r"
    refine Cj (b:=true) (.bl b) rfl ?_
    walk_at "r"
    rw [decide_eq_true (Eq.refl _)]
    walk_at "r"
    exact q H (Same.refl _)
   | int b =>
    walk_at "r"
    refine Cj (b:=false) (.int b) rfl ?_
    walk_at "r"
    refine Cj (b:=true) (.int b) rfl ?_
    walk_at "r"
    refine Cj (b:=true) (.int b) rfl ?_
    walk_at "r"
    refine Cj (b:=false) (.int b) rfl ?_
    walk_at "r"
    rw [decide_eq_true (Eq.refl _)]
    walk_at "r"
    exact q H (Same.refl _)
   | str b =>
    walk_at "r"
    refine Cj (b:=false) (.str b) rfl ?_
    walk_at "r"
    refine Cj (b:=false) (.str b) rfl ?_
    walk_at "r"
    refine Cj (b:=true) (.str b) rfl ?_
    walk_at "r"
    refine Cj (b:=true) (.str b) rfl ?_
    walk_at "r"
    rw [decide_eq_true (Eq.refl _)]
    walk_at "r"
    exact q H (Same.refl _)
   | _=>exact absurd hv (by simp [Cq])
  | @tup k a vs ds qa la ha =>
   cases hy with
   | @tup _ c ws _ qc lc hc =>
   cases hd with
   | tup hl hds =>
   have eN:decide (V.ref c=V.non)=false:=decide_eq_false (fun z=>by cases z)
   walk_at "r"
   refine Fl (b:=false) qc rfl ?_
   walk_at "r"
   refine Fl (b:=false) qc rfl ?_
   walk_at "r"
   refine Fl (b:=false) qc rfl ?_
   walk_at "r"
   rw [eN]
   walk_at "r"
   refine Fl (b:=true) qc rfl ?_
   walk_at "r"
   refine Fl (b:=true) qa rfl ?_
   walk_at "r"
   refine Gf qa ?_
   walk_at "r"
   refine Gf qc ?_
   walk_at "r"
   rw [la,lc,decide_eq_true (Eq.refl _)]
   walk_at "r"
   refine Gf qc ?_
   walk_at "r"
   rw [lc]
   refine ⟨by omega,by omega,?_⟩
   refine K8 (n:=(ds.length:Int).toNat) (fun i σ' H'=>∃ v2,σ'=[some (.ref a),some (.ref c),v2]/\Same H H') ⟨none,rfl,Same.refl _⟩ ?_ ?_
   ·rintro i σ' H' hi ⟨v2,rfl,sm⟩
    have hi:i < ds.length:=by omega
    have e0:(0:Int)+(i:Int)=((i:Nat):Int):=by omega
    rw [e0]
    have hiv:i < vs.length:=by omega
    have hiw:i < ws.length:=by omega
    walk_at "r"
    refine A4 (sm.tup qa) (Df (Pn hiv)) ?_
    walk_at "r"
    refine A4 (sm.tup qc) (Df (Pn hiw)) ?_
    walk_at "r"
    refine ⟨vs[i],ws[i],ds[i],k,rfl,by omega,(ha i _ _ (Pn hiv) (Pn hi)).same sm,(hc i _ _ (Pn hiw) (Pn hi)).same sm,hds _ (Ue hi),fun H2 s2=>?_⟩
    walk_at "r"
    exact ⟨_,rfl,sm.trans s2⟩
   ·rintro σ' H' ⟨v2,rfl,sm⟩
    walk_at "r"
    exact q H' sm
  | @lst k a vs ds qa la ha =>
   cases hy with
   | @lst _ c ws _ qc lc hc =>
   cases hd with
   | lst hl hds =>
   have eN:decide (V.ref c=V.non)=false:=decide_eq_false (fun z=>by cases z)
   walk_at "r"
   refine Jw (b:=false) qc rfl ?_
   walk_at "r"
   refine Jw (b:=false) qc rfl ?_
   walk_at "r"
   refine Jw (b:=false) qc rfl ?_
   walk_at "r"
   rw [eN]
   walk_at "r"
   refine Jw (b:=false) qc rfl ?_
   walk_at "r"
   refine Jw (b:=true) qa rfl ?_
   walk_at "r"
   refine Hr qa ?_
   walk_at "r"
   refine Hr qc ?_
   walk_at "r"
   rw [la,lc,decide_eq_true (Eq.refl _)]
   walk_at "r"
   refine Hr qc ?_
   walk_at "r"
   rw [lc]
   refine ⟨by omega,by omega,?_⟩
   refine K8 (n:=(ds.length:Int).toNat) (fun i σ' H'=>∃ v2,σ'=[some (.ref a),some (.ref c),v2]/\Same H H') ⟨none,rfl,Same.refl _⟩ ?_ ?_
   ·rintro i σ' H' hi ⟨v2,rfl,sm⟩
    have hi:i < ds.length:=by omega
    have e0:(0:Int)+(i:Int)=((i:Nat):Int):=by omega
    rw [e0]
    have hiv:i < vs.length:=by omega
    have hiw:i < ws.length:=by omega
    walk_at "r"
    refine Bl (sm.seq qa) (Df (Pn hiv)) ?_
    walk_at "r"
    refine Bl (sm.seq qc) (Df (Pn hiw)) ?_
    walk_at "r"
    refine ⟨vs[i],ws[i],ds[i],k,rfl,by omega,(ha i _ _ (Pn hiv) (Pn hi)).same sm,(hc i _ _ (Pn hiw) (Pn hi)).same sm,hds _ (Ue hi),fun H2 s2=>?_⟩
    walk_at "r"
    exact ⟨_,rfl,sm.trans s2⟩
   ·rintro σ' H' ⟨v2,rfl,sm⟩
    walk_at "r"
    exact q H' sm
noncomputable def Zg0:Addr->Sp:=fun _ vs H Q _=>∃ z:Int,vs=[.int z,.int z]/\∀ H',Same H H'->Q (.bl true) H'
theorem Zsz {f:Addr}{fd:FuncData}(F:Fun K "_law_same" "_law_same" F7 f fd)(T:Txt K mg):Gg P w K mg base 1 f fd ["_law_found", "_law_due"] Zg0:=by
 refine F.okH sc_law_same (fun ax vs H Q E h=>?_) (fun ax cdv A outer s H vs Q E hr hh h=>?_)
 ·obtain ⟨z,rfl,_⟩:=h
  rfl
 ·obtain ⟨z,rfl,q⟩:=h
  refine ⟨_,Ae (Au (B0 (A9 (B1 K "bool") (by rfl) T.isinstance (by decide +kernel) (Aa (qv 1) (Aa (Bx (v:=.ty "bool") (by rfl) T.bool (by decide +kernel) rfl) Ab)))) (Af (Am (Di (A9 (B1 K "bool") (by rfl) T.isinstance (by decide +kernel) (Aa (qv 0) (Aa (Bx (v:=.ty "bool") (by rfl) T.bool (by decide +kernel) rfl) Ab))) (Eo (Et (Bg K hr.u200) (qv 0) (qv 1) (A1 _)))))) Aw)
   (Ae (Au (B0 (A9 (B1 K "int") (by rfl) T.isinstance (by decide +kernel) (Aa (qv 1) (Aa (Bx (v:=.ty "int") (by rfl) T.int (by decide +kernel) rfl) Ab)))) (Af (Am (Di (A9 (B1 K "int") (by rfl) T.isinstance (by decide +kernel) (Aa (qv 0) (Aa (Bx (v:=.ty "int") (by rfl) T.int (by decide +kernel) rfl) Ab))) (Di (My (A9 (B1 K "bool") (by rfl) T.isinstance (by decide +kernel) (Aa (qv 0) (Aa (Bx (v:=.ty "bool") (by rfl) T.bool (by decide +kernel) rfl) Ab)))) (Eo (Et (Bg K hr.u200) (qv 0) (qv 1) (A1 _))))))) Aw)
   (M3)),?_⟩
  walk_at "r"
  refine Cj (b:=false) (.int z) rfl ?_
  walk_at "r"
  refine Cj (b:=true) (.int z) rfl ?_
  walk_at "r"
  refine Cj (b:=true) (.int z) rfl ?_
  walk_at "r"
  refine Cj (b:=false) (.int z) rfl ?_
  walk_at "r"
  rw [decide_eq_true (Eq.refl _)]
  walk_at "r"
  exact q H (Same.refl _)
theorem Zk5 {a:Addr}{ta:TA}{g:TG}{tb:TS}{D:Ends}{σ:St}{H:Hp}(h:ta σ H fun vs H1=>∃ j:Int,vs=[.int j]/\-(2 ^ 62)<=j/\j < 2 ^ 62/\∃ W:Nat->Nat->St->Hp->Prop,(∃ m,W 0 m σ H1)/\∀ i m σ H,W i m σ H ->
 ((j.toNat<=i/\∃ cls od,H a=some (Ca a cls od))/\D.nx σ H)\/(i < j.toNat/\∃ N:St->Hp->Prop,(∀ σ' H',N σ' H'->∃ m',m' < m/\W (i+1) m' σ' H')/\g (.int (0+(i:Nat))) σ H fun σ2 H2=>tb { D with nx:=N,ct:=N,bk:=D.nx } σ2 H2)):Zb8 a ta g tb D σ H:=h
theorem Zpl {a:Addr}{n:Nat}{g:TG}{tb:TS}{D:Ends}{σ:St}{H:Hp}(Pv:Nat->St->Hp->Prop)(h0:Pv 0 σ H)(step:∀ i σ' H',i < n->Pv i σ' H'->g (.int (0+(i:Nat))) σ' H' fun σ2 H2=>tb { D with nx:=Pv (i+1),ct:=Pv (i+1),bk:=D.nx } σ2 H2)
  (fin:∀ σ' H',Pv n σ' H'->(∃ cls od,H' a=some (Ca a cls od))/\D.nx σ' H'):∃ W:Nat->Nat->St->Hp->Prop,(∃ m,W 0 m σ H)/\∀ i m σ H,W i m σ H ->
 ((n<=i/\∃ cls od,H a=some (Ca a cls od))/\D.nx σ H)\/(i < n/\∃ N:St->Hp->Prop,(∀ σ' H',N σ' H'->∃ m',m' < m/\W (i+1) m' σ' H')/\g (.int (0+(i:Nat))) σ H fun σ2 H2=>tb { D with nx:=N,ct:=N,bk:=D.nx } σ2 H2):=by
 refine ⟨fun i m σ H=>i<=n/\m=n - i/\Pv i σ H,⟨n,Qd _,by omega,h0⟩,?_⟩
 rintro i m σ' H' ⟨h1,rfl,h2⟩
 by_cases e:i=n
 ·subst e
  obtain ⟨k1,k2⟩:=fin σ' H' h2
  exact .inl ⟨⟨Po _,k1⟩,k2⟩
 ·exact .inr ⟨by omega,Pv (i+1),fun σ2 H2 p=>⟨n - (i+1),by omega,by omega,rfl,p⟩,step i σ' H' (by omega) h2⟩
noncomputable def Zew (K:Pk):Addr->Sp:=fun ax vs H Q _=>∃(a c:Addr)(zs:List Int),vs=[.ref a,.ref c]/\SqT K H a (zs.map V.int)/\SqT K H c (zs.map V.int)/\zs.length<=1000/\(∃ cls od,H ax=some (Ca ax cls od))/\∀ H',Same H H'->Q (.bl true) H'
theorem Zlo {f:Addr}{fd:FuncData}(F:Fun K "_law_same" "_law_same" F7 f fd)(T:Txt K mg)(C__law_same:Ik P w K mg base 1 "_law_same" ["_law_found", "_law_due"] Zg0):Gg P w K mg base 2 f fd ["_law_found", "_law_due"] (Zew K):=by
 refine F.okH sc_law_same (fun ax vs H Q E h=>?_) (fun ax cdv A outer s H vs Q E hr hh h=>?_)
 ·obtain ⟨a,c,zs,rfl,_⟩:=h
  rfl
 ·obtain ⟨a,c,zs,rfl,qa,qc,hl,⟨cls,od,hx⟩,q⟩:=h
  refine ⟨_,Ae (Au (B0 (A9 (B1 K "bool") (by rfl) T.isinstance (by decide +kernel) (Aa (qv 1) (Aa (Bx (v:=.ty "bool") (by rfl) T.bool (by decide +kernel) rfl) Ab)))) (Af (Am (Di (A9 (B1 K "bool") (by rfl) T.isinstance (by decide +kernel) (Aa (qv 0) (Aa (Bx (v:=.ty "bool") (by rfl) T.bool (by decide +kernel) rfl) Ab))) (Eo (Et (Bg K hr.u200) (qv 0) (qv 1) (A1 _)))))) Aw)
   (Ae (Au (B0 (A9 (B1 K "int") (by rfl) T.isinstance (by decide +kernel) (Aa (qv 1) (Aa (Bx (v:=.ty "int") (by rfl) T.int (by decide +kernel) rfl) Ab)))) (Af (Am (Di (A9 (B1 K "int") (by rfl) T.isinstance (by decide +kernel) (Aa (qv 0) (Aa (Bx (v:=.ty "int") (by rfl) T.int (by decide +kernel) rfl) Ab))) (Di (My (A9 (B1 K "bool") (by rfl) T.isinstance (by decide +kernel) (Aa (qv 0) (Aa (Bx (v:=.ty "bool") (by rfl) T.bool (by decide +kernel) rfl) Ab)))) (Eo (Et (Bg K hr.u200) (qv 0) (qv 1) (A1 _))))))) Aw)
   (Ae (Au (B0 (A9 (B1 K "str") (by rfl) T.isinstance (by decide +kernel) (Aa (qv 1) (Aa (Bx (v:=.ty "str") (by rfl) T.str (by decide +kernel) rfl) Ab)))) (Af (Am (Di (A9 (B1 K "str") (by rfl) T.isinstance (by decide +kernel) (Aa (qv 0) (Aa (Bx (v:=.ty "str") (by rfl) T.str (by decide +kernel) rfl) Ab))) (Eo (Et (Bg K hr.u200) (qv 0) (qv 1) (A1 _)))))) Aw)
   (Ae (Au (Gj (Iz (qv 1))) (Af (Am (N6 (Iz (qv 0))))) Aw)
   (Ae (Au (B0 (A9 (B1 K "tuple") (by rfl) T.isinstance (by decide +kernel) (Aa (qv 1) (Aa (Bx (v:=.ty "tuple") (by rfl) T.tuple (by decide +kernel) rfl) Ab)))) (Af (Au (Dv (B0 (A9 (B1 K "tuple") (by rfl) T.isinstance (by decide +kernel) (Aa (qv 0) (Aa (Bx (v:=.ty "tuple") (by rfl) T.tuple (by decide +kernel) rfl) Ab))))) (Af (Am Ct)) Aw)) (Af (Au (Dv (B0 (A9 (B1 K "list") (by rfl) T.isinstance (by decide +kernel) (Aa (qv 0) (Aa (Bx (v:=.ty "list") (by rfl) T.list (by decide +kernel) rfl) Ab))))) (Af (Am Ct)) Aw)))
   (Ae (Au (A8 (Kk K hr.u200) (A9 (Ek K) (by rfl) T.len (by decide +kernel) (Aa (qv 0) Ab)) (A9 (Ek K) (by rfl) T.len (by decide +kernel) (Aa (qv 1) Ab)) (A1 _)) (Af (Am Ct)) Aw)
   (Ae (Zqr Qf hh (by rfl) T.range (Aa (A9 (Ek K) (by rfl) T.len (by decide +kernel) (Aa (qv 1) Ab)) Ab) (Ax (i:=2) sc_law_same.nd rfl (Or.inl rfl)) (Af (Au (Dv (B0 (Zad C__law_same hr.m hh (Aa (Ao K (qv 0) (qv 2)) (Aa (Ao K (qv 1) (qv 2)) Ab))))) (Af (Am Ct)) Aw)))
   (Af (Am Ct)))))))),?_⟩
  have bg:=big
  have lz:(zs.map V.int).length=zs.length:=Pw ..
  have eN:decide (V.ref c=V.non)=false:=decide_eq_false (fun z=>by cases z)
  walk_at "r"
  refine Fl (b:=false) qc rfl ?_
  walk_at "r"
  refine Fl (b:=false) qc rfl ?_
  walk_at "r"
  refine Fl (b:=false) qc rfl ?_
  walk_at "r"
  rw [eN]
  walk_at "r"
  refine Fl (b:=true) qc rfl ?_
  walk_at "r"
  refine Fl (b:=true) qa rfl ?_
  walk_at "r"
  refine Gf qa ?_
  walk_at "r"
  refine Gf qc ?_
  walk_at "r"
  rw [decide_eq_true (Eq.refl _)]
  walk_at "r"
  refine Zk5 ?_
  walk_at "r"
  refine Gf qc ?_
  walk_at "r"
  refine ⟨by omega,by omega,?_⟩
  refine Zpl (fun i σ' H'=>∃ v2,σ'=[some (.ref a),some (.ref c),v2]/\Same H H') ⟨none,rfl,Same.refl _⟩ ?_ ?_
  ·rintro i σ' H' hi ⟨v2,rfl,sm⟩
   have hi:i < zs.length:=by omega
   have e0:(0:Int)+(i:Int)=((i:Nat):Int):=by omega
   rw [e0]
   have hz:(zs.map V.int)[i]?=some (.int zs[i]):=by rw [Qj,Pn hi];rfl
   walk_at "r"
   refine A4 (sm.tup qa) (Df hz) ?_
   walk_at "r"
   refine A4 (sm.tup qc) (Df hz) ?_
   walk_at "r"
   refine ⟨zs[i],rfl,fun H2 s2=>?_⟩
   walk_at "r"
   exact ⟨_,rfl,sm.trans s2⟩
  ·rintro σ' H' ⟨v2,rfl,sm⟩
   refine ⟨⟨cls,od,sm _ _ hx⟩,?_⟩
   walk_at "r"
   exact q H' sm
structure XcB (K:Pk)(C TB NP NF PA TL ND NN CA NC NR NS:Addr)(b:Bool):Prop where
 v:Qn K (.ref C) (.type "ValueError")=some true
 o1:Sw K (.ref C) [.ref NF,.ref PA,.ref TL,.ref ND,.ref NN]=some false
 o2:Sw K (.ref C) [.ref CA,.ref NC,.ref NR,.ref NS]=some false
 kb:Qn K (.ref C) (.ref TB)=some (!b)
 kp:Qn K (.ref C) (.ref NP)=some b
 x:Ja K C
noncomputable def Zrp (K:Pk)(TB:Addr):Addr->Sp:=fun ax vs H Q _=>∃ y:V,vs=[.ref ax,y]/\H ax=some (Ca ax (.ref TB) none)/\∀(p:Addr)(H':Hp),Same H H'->H' p=some (.tup [.str "big"])->Q (.ref p) H'
noncomputable def Zd1 (K:Pk)(NP:Addr):Addr->Sp:=fun ax vs H Q _=>∃(d p c:Addr)(zs:List Int),vs=[.ref ax,.ref c]/\H ax=some (Ca ax (.ref NP) (some d))/\H d=some (.xd [("place",.ref p)])/\SqT K H p (zs.map V.int)/\SqT K H c (zs.map V.int)/\zs.length<=1000/\∀(r:Addr)(H':Hp),Same H H'->H' r=some (.tup [.str "place"])->Q (.ref r) H'
noncomputable def Zdn (K:Pk)(TB NP:Addr):Addr->Sp:=fun a vs H Q E=>Zrp K TB a vs H Q E\/Zd1 K NP a vs H Q E
theorem Zte:Bf ["_law_e", "_law_place"] ["_law_e", "_law_place"] (A0 Ku):=by walk_at "sc"
theorem Ztk {N_TooBig N_NoPlace N_NoForm N_Parted N_TooLong N_NoDeed N_NoName N_Caught N_NoCall N_NoRow N_NoStep:Addr}{f:Addr}{fd:FuncData}(F:Fun K "_law_refusal" "_law_refusal" Ku f fd)(T:Txt K mg)(C__law_same:Ik P w K mg base 2 "_law_same" ["_law_found", "_law_due"] (Zew K))
  (G_TooBig:mg "TooBig" = some (.ref N_TooBig)) (G_NoPlace:mg "NoPlace" = some (.ref N_NoPlace)) (G_NoForm:mg "NoForm" = some (.ref N_NoForm)) (G_Parted:mg "Parted" = some (.ref N_Parted)) (G_TooLong:mg "TooLong" = some (.ref N_TooLong)) (G_NoDeed:mg "NoDeed" = some (.ref N_NoDeed)) (G_NoName:mg "NoName" = some (.ref N_NoName)) (G_Caught:mg "Caught" = some (.ref N_Caught)) (G_NoCall:mg "NoCall" = some (.ref N_NoCall)) (G_NoRow:mg "NoRow" = some (.ref N_NoRow)) (G_NoStep:mg "NoStep" = some (.ref N_NoStep))
  (xC:ExC K N_NoPlace) (nA:NoAttr K N_NoPlace "place") (OB:XcB K N_TooBig N_TooBig N_NoPlace N_NoForm N_Parted N_TooLong N_NoDeed N_NoName N_Caught N_NoCall N_NoRow N_NoStep false) (OP:XcB K N_NoPlace N_TooBig N_NoPlace N_NoForm N_Parted N_TooLong N_NoDeed N_NoName N_Caught N_NoCall N_NoRow N_NoStep true):Gg P w K mg base 3 f fd ["_law_e", "_law_place"] (Zdn K N_TooBig N_NoPlace):=by
 refine F.okH Zte (fun ax vs H Q E h=>?_) (fun a1 cdv A outer s H vs Q E hr hh h=>?_)
 ·rcases h with ⟨y,rfl,_⟩ | ⟨d,pp,c,zs,rfl,_⟩ <;> rfl
 ·obtain ⟨C,b,od,y,rfl,e1,e0,O,q⟩:∃(C:Addr)(b:Bool)(od:Option Addr)(y:V),vs=[.ref a1,y]/\H a1=some (Ca a1 (.ref C) od)/\(∀ H',Same H H'->∀ d,od=some d->∃ fs,H' d=some (.xd fs))/\XcB K C N_TooBig N_NoPlace N_NoForm N_Parted N_TooLong N_NoDeed N_NoName N_Caught N_NoCall N_NoRow N_NoStep b/\((b=false/\∀(p:Addr)(H':Hp),Same H H'->H' p=some (.tup [.str "big"])->Q (.ref p) H')\/(b=true/\Zd1 K N_NoPlace a1 [.ref a1,y] H Q E)):=by
   rcases h with ⟨y,rfl,e1,q⟩ | ⟨d,pp,c,zs,rfl,e1,e0,r⟩
   ·exact ⟨_,_,_,y,rfl,e1,(fun H' _ d hd=>nomatch hd),OB,.inl ⟨rfl,q⟩⟩
   ·exact ⟨_,_,_,_,rfl,e1,(fun H' s d hd=>by cases hd;exact ⟨_,s _ _ e0⟩),OP,.inr ⟨rfl,d,pp,c,zs,rfl,e1,e0,r⟩⟩
  refine ⟨_,Ae (Au (QW.qt (Pi (Dv (B0 (A9 (Zqy (K:=K) "ValueError") (by rfl) T.isinstance (by decide +kernel) (Aa (qv 0) (Aa (Bx (v:=.ty "ValueError") (by rfl) T.ValueError (by decide +kernel) rfl) Ab))))) (Zak (B0 (A9 (Zhi (K:=K)) (by rfl) T.isinstance (by decide +kernel) (Aa (qv 0) (Aa (Ar (Aa (Dz (v:=.ref N_NoForm) (by rfl) G_NoForm rfl) (Aa (Dz (v:=.ref N_Parted) (by rfl) G_Parted rfl) (Aa (Dz (v:=.ref N_TooLong) (by rfl) G_TooLong rfl) (Aa (Dz (v:=.ref N_NoDeed) (by rfl) G_NoDeed rfl) (Aa (Dz (v:=.ref N_NoName) (by rfl) G_NoName rfl) Ab)))))) Ab))))))) (Af (Am (Ar (Aa Av Ab)))) Aw)
   (Ae (Au (B0 (A9 (Zhi (K:=K)) (by rfl) T.isinstance (by decide +kernel) (Aa (qv 0) (Aa (Ar (Aa (Dz (v:=.ref N_Caught) (by rfl) G_Caught rfl) (Aa (Dz (v:=.ref N_NoCall) (by rfl) G_NoCall rfl) (Aa (Dz (v:=.ref N_NoRow) (by rfl) G_NoRow rfl) (Aa (Dz (v:=.ref N_NoStep) (by rfl) G_NoStep rfl) Ab))))) Ab)))) (Af (Am (Ar (Aa Av Ab)))) Aw)
   (Ae (Au (QW.qt (Ia (B0 (A9 (Ln (K:=K)) (by rfl) T.isinstance (by decide +kernel) (Aa (qv 0) (Aa (Dz (v:=.ref N_TooBig) (by rfl) G_TooBig rfl) Ab)))) (Kr (Dv (B0 (A9 (Ln (K:=K)) (by rfl) T.isinstance (by decide +kernel) (Aa (qv 0) (Aa (Dz (v:=.ref N_NoPlace) (by rfl) G_NoPlace rfl) Ab)))))))) (Af (Am (Ar (Aa Av Ab)))) Aw)
   (Ae (Au (QW.qt (Ia (B0 (A9 (Ln (K:=K)) (by rfl) T.isinstance (by decide +kernel) (Aa (qv 0) (Aa (Dz (v:=.ref N_NoPlace) (by rfl) G_NoPlace rfl) Ab)))) (Ia (Dv (B0 (A9 (Ln (K:=K)) (by rfl) T.isinstance (by decide +kernel) (Aa (qv 0) (Aa (Dz (v:=.ref N_TooBig) (by rfl) G_TooBig rfl) Ab))))) (Kr (B0 (Zad C__law_same hr.m hh (Aa (Znx K (qv 0)) (Aa (qv 1) Ab)))))))) (Af (Am (Ar (Aa Av Ab)))) Aw)
   (Af (Am (Ar (Aa Av Ab))))))),?_⟩
  walk_at "r"
  refine ⟨a1,_,od,_,rfl,e1,e0 _ (Same.refl _),O.x,O.v,?_⟩
  walk_at "r"
  refine ⟨sz5,fun p hp=>?_⟩
  walk_at "r"
  have s1:Same H (upd H p (.tup [.ref N_NoForm,.ref N_Parted,.ref N_TooLong,.ref N_NoDeed,.ref N_NoName])):=Same.upd hp
  refine ⟨a1,p,_,od,_,[N_NoForm,N_Parted,N_TooLong,N_NoDeed,N_NoName],rfl,SqT.of Ad,s1 _ _ e1,e0 _ s1,O.x,O.o1,?_⟩
  revert s1
  generalize upd H p (.tup [.ref N_NoForm,.ref N_Parted,.ref N_TooLong,.ref N_NoDeed,.ref N_NoName])=H1
  intro s1
  walk_at "r"
  refine ⟨sz4,fun p2 hp2=>?_⟩
  walk_at "r"
  have s2:Same H (upd H1 p2 (.tup [.ref N_Caught,.ref N_NoCall,.ref N_NoRow,.ref N_NoStep])):=s1.trans (Same.upd hp2)
  refine ⟨a1,p2,_,od,_,[N_Caught,N_NoCall,N_NoRow,N_NoStep],rfl,SqT.of Ad,s2 _ _ e1,e0 _ s2,O.x,O.o2,?_⟩
  revert s2
  generalize upd H1 p2 (.tup [.ref N_Caught,.ref N_NoCall,.ref N_NoRow,.ref N_NoStep])=H2
  intro s2
  walk_at "r"
  refine ⟨a1,_,_,od,_,rfl,s2 _ _ e1,e0 _ s2,O.x,O.kb,?_⟩
  rcases q with ⟨rfl,q⟩ | ⟨rfl,d,pp,c,zs,ey,e3,e4,qp,qc,hl,q⟩
  ·walk_at "r"
   refine ⟨a1,_,_,od,_,rfl,s2 _ _ e1,e0 _ s2,O.x,O.kp,?_⟩
   walk_at "r"
   refine ⟨B5,fun p3 hp3=>?_⟩
   walk_at "r"
   exact q p3 _ (s2.trans (Same.upd hp3)) Ad
  ·cases ey
   walk_at "r"
   refine ⟨a1,_,_,od,_,rfl,s2 _ _ e1,e0 _ s2,O.x,O.kp,?_⟩
   walk_at "r"
   refine ⟨a1,_,_,od,_,rfl,s2 _ _ e1,e0 _ s2,O.x,O.kb,?_⟩
   walk_at "r"
   refine ⟨_,rfl,a1,N_NoPlace,d,_,_,rfl,s2 _ _ e3,s2 _ _ e4,xC,nA,rfl,?_⟩
   walk_at "r"
   refine ⟨pp,c,zs,rfl,s2.tup qp,s2.tup qc,hl,⟨_,_,s2 _ _ e1⟩,fun H3 s3=>?_⟩
   walk_at "r"
   refine ⟨B5,fun p3 hp3=>?_⟩
   walk_at "r"
   exact q p3 _ ((s2.trans s3).trans (Same.upd hp3)) Ad
end
inductive Sh where
 | num | truth | any | to (a b:Nat) | same (k:Nat)
 deriving DecidableEq
noncomputable def shV:Sh->List V
 | .num=>[.str "num"]
 | .truth=>[.str "truth"]
 | .any=>[.str "any"]
 | .to a b=>[.str "to",.int (a:Nat),.int (b:Nat)]
 | .same k=>[.str "same",.int (k:Nat)]
noncomputable def Sh.parts:Sh->List Nat
 | .to a b=>[a,b]
 | .same k=>[k]
 | _=>[]
noncomputable def Sh.wd:Sh->Str
 | .num => "num"
 | .truth => "truth"
 | .any => "any"
 | .to _ _ => "to"
 | .same _ => "same"
theorem Zoy (s:Sh):shV s=.str s.wd::s.parts.map fun n=>V.int ((n:Nat):Int):=by cases s <;> rfl
noncomputable def Sh.isSame:Sh->Bool
 | .same _=>true
 | _=>false
noncomputable abbrev Ai:=List Sh
inductive LastN (sh:Ai):Nat->Nat->Nat->Prop where
 | root {i:Nat} {s:Sh} (h:sh[i]?=some s) (hs:s.isSame=false):LastN sh 0 i i
 | step {n i k r:Nat} (h:sh[i]?=some (.same k)) (t:LastN sh n k r):LastN sh (n+1) i r
noncomputable def Last (sh:Ai)(i r:Nat):Prop:=∃ n,LastN sh n i r
theorem LastN.at {sh:Ai}{n i r:Nat}(h:LastN sh n i r):∃ s,sh[r]?=some s/\s.isSame=false:=by
 induction h with
 | root h hs=>exact ⟨_,h,hs⟩
 | step _ _ ih=>exact ih
theorem Last.at {sh:Ai}{i r:Nat}(h:Last sh i r):∃ s,sh[r]?=some s/\s.isSame=false:=let ⟨_,h⟩:=h;h.at
theorem LastN.uniq {sh:Ai}{n m i r r':Nat}(h:LastN sh n i r)(h':LastN sh m i r'):r=r':=by
 induction h generalizing m r' with
 | root h hs =>
  cases h' with
  | root=>rfl
  | step h2 _=>rw [h] at h2;cases h2;cases hs
 | step h _ ih =>
  cases h' with
  | root h2 hs=>rw [h] at h2;cases h2;cases hs
  | step h2 t=>rw [h] at h2;cases h2;exact ih t
theorem Last.uniq {sh:Ai}{i r r':Nat}(h:Last sh i r)(h':Last sh i r'):r=r':=let ⟨_,h⟩:=h;let ⟨_,h'⟩:=h';h.uniq h'
noncomputable abbrev Ps:=Nat->Option Bool
noncomputable def Bb (ps:Ps)(i:Nat)(b:Bool):Ps:=fun j=>if j=i then some b else ps j
inductive E4 (sh:Ai)(ps:Ps):List Nat->List Nat->Option (List Nat)->Prop where
 | nil {w:List Nat}:E4 sh ps [] w (some w)
 | hit {p r:Nat} {rest w:List Nat} (h:Last sh p r) (h2:ps r=some false):E4 sh ps (p::rest) w none
 | go {p r:Nat} {rest w:List Nat} {o:Option (List Nat)} (h:Last sh p r) (h2:ps r≠some false) (t:E4 sh ps rest (w++[r]) o):E4 sh ps (p::rest) w o
inductive HoldsN (sh:Ai):Nat->Ps->List Nat->Bool->Prop where
 | nil {ps:Ps}:HoldsN sh 0 ps [] false
 | seen {n:Nat} {ps:Ps} {w:List Nat} {Ac:Nat} {x b:Bool} (h:ps Ac=some x) (t:HoldsN sh n (Bb ps Ac true) w b):HoldsN sh (n+1) ps (w++[Ac]) b
 | hit {ps:Ps} {w:List Nat} {Ac:Nat} {s:Sh} (h:ps Ac=none) (hs:sh[Ac]?=some s) (hp:E4 sh (Bb ps Ac false) s.parts (w++[Ac]) none):HoldsN sh 1 ps (w++[Ac]) true
 | go {n:Nat} {ps:Ps} {w w':List Nat} {Ac:Nat} {s:Sh} {b:Bool} (h:ps Ac=none) (hs:sh[Ac]?=some s) (hp:E4 sh (Bb ps Ac false) s.parts (w++[Ac]) (some w')) (t:HoldsN sh n (Bb ps Ac false) w' b):HoldsN sh (n+1) ps (w++[Ac]) b
inductive JoinN:Nat->Ai->List (Nat×Nat)->Option Ai->Prop where
 | nil {m:Ai}:JoinN 0 m [] (some m)
 | eq {n:Nat} {m:Ai} {w:List (Nat×Nat)} {p:Nat×Nat} {l:Nat} {o:Option Ai} (h1:Last m p.1 l) (h2:Last m p.2 l) (t:JoinN n m w o):JoinN (n+1) m (w++[p]) o
 | anyR {n:Nat} {m:Ai} {w:List (Nat×Nat)} {p:Nat×Nat} {l r:Nat} {o:Option Ai} (h1:Last m p.1 l) (h2:Last m p.2 r) (ne:l≠r) (hr:m[r]?=some .any) (t:JoinN n (m.set r (.same l)) w o):JoinN (n+1) m (w++[p]) o
 | anyL {n:Nat} {m:Ai} {w:List (Nat×Nat)} {p:Nat×Nat} {l r:Nat} {sr:Sh} {o:Option Ai} (h1:Last m p.1 l) (h2:Last m p.2 r) (ne:l≠r) (hr:m[r]?=some sr) (hn:sr≠.any) (hl:m[l]?=some .any) (t:JoinN n (m.set l (.same r)) w o):JoinN (n+1) m (w++[p]) o
 | to {n:Nat} {m:Ai} {w:List (Nat×Nat)} {p:Nat×Nat} {l r a b c d:Nat} {o:Option Ai} (h1:Last m p.1 l) (h2:Last m p.2 r) (ne:l≠r) (hl:m[l]?=some (.to a b)) (hr:m[r]?=some (.to c d)) (t:JoinN n (m.set l (.same r)) (w++[(a,c),(b,d)]) o):JoinN (n+1) m (w++[p]) o
 | clash {m:Ai} {w:List (Nat×Nat)} {p:Nat×Nat} {l r:Nat} {sl sr:Sh} (h1:Last m p.1 l) (h2:Last m p.2 r) (ne:l≠r) (hl:m[l]?=some sl) (hr:m[r]?=some sr) (nl:sl≠.any) (nr:sr≠.any) (nt:sl.wd ≠ "to" \/ sr.wd ≠ "to"):JoinN 1 m (w++[p]) none
inductive FitG:List (Nat×Nat)->Ai->List Bool->Ai->Prop where
 | nil {m:Ai}:FitG [] m [] m
 | ok {g a n k r:Nat} {m m1 m':Ai} {ps:List (Nat×Nat)} {fs:List Bool} (j:JoinN n m [(g,a)] (some m1)) (hn:n<=1000) (l:Last m1 g r) (h:HoldsN m1 k (fun _=>none) [r] false) (hk:k<=1000) (t:FitG ps m1 fs m'):FitG ((g,a)::ps) m (true::fs) m'
 | clash {g a n:Nat} {m m':Ai} {ps:List (Nat×Nat)} {fs:List Bool} (j:JoinN n m [(g,a)] none) (hn:n<=1000) (t:FitG ps m fs m'):FitG ((g,a)::ps) m (false::fs) m'
 | loop {g a n k r:Nat} {m m1 m':Ai} {ps:List (Nat×Nat)} {fs:List Bool} (j:JoinN n m [(g,a)] (some m1)) (hn:n<=1000) (l:Last m1 g r) (h:HoldsN m1 k (fun _=>none) [r] true) (hk:k<=1000) (t:FitG ps m fs m'):FitG ((g,a)::ps) m (false::fs) m'
section
variable {P:Program}{w:World}{K:Pk}{mg:Str->Option Value}{base:Heap}
noncomputable def ShE (K:Pk)(H:Hp)(u:V)(s:Sh):Prop:=∃ p,u=.ref p/\SqT K H p (shV s)
structure ShG (K:Pk)(H:Hp)(a:Addr)(sh:Ai):Prop where
 ex:∃ us:List V,H a=some (.lst us)/\Al (ShE K H) us sh
theorem ShE.same {H H':Hp}(e:SameT H H')(u:V)(s:Sh)(h:ShE K H u s):ShE K H' u s:=let ⟨p,e1,q⟩:=h;⟨p,e1,e.tup q⟩
theorem ShG.same {H H':Hp}{a:Addr}{sh:Ai}(h:ShG K H a sh)(s:Same H H'):ShG K H' a sh:=let ⟨us,e,al⟩:=h.ex;⟨us,s _ _ e,al.mono (ShE.same s.t)⟩
theorem ShG.at {H:Hp}{a:Addr}{sh:Ai}{i:Nat}{s:Sh}(h:ShG K H a sh)(hi:sh[i]?=some s):∃ us p,H a=some (.lst us)/\B4 us ((i:Nat):Int)=some (.ref p)/\SqT K H p (.str s.wd::s.parts.map fun n=>V.int ((n:Nat):Int)):=by
 obtain ⟨us,e,al⟩:=h.ex
 obtain ⟨u,hu,p,rfl,q⟩:=al.get' hi
 rw [Zoy] at q
 exact ⟨us,p,e,Df hu,q⟩
theorem Zer (s:Sh):decide (V.str s.wd=V.str "same")=s.isSame:=by
 cases s with
 | to a b=>exact (by decide:decide (V.str "to" = V.str "same")=false)
 | same k=>exact (by decide:decide (V.str "same" = V.str "same")=true)
 | _=>decide
theorem D6 {x:V}{xs:List V}:B4 (x::xs) 0=some x:=by
 have h:B4 (x::xs) ((0:Nat):Int)=some x:=Df rfl
 exact h
noncomputable def Lq (K:Pk):Sp:=fun vs H Q _=>∃(a:Addr)(sh:Ai)(i r:Nat),vs=[.ref a,.int (i:Nat)]/\ShG K H a sh/\Last sh i r/\Q (.int (r:Nat)) H
theorem Nz:Bf ["shapes", "kind", "last"] ["shapes", "kind"] (A0 Ka):=by walk_at "sc"
theorem Zll {f:Addr}{fd:FuncData}(F:Fun K "last_same" "last_same" Ka f fd)(T:Txt K mg):As P w K mg base Az 1 f fd ["shapes", "kind"] (Lq K):=by
 refine F.okq Nz (fun vs H Q E h=>?_) (fun cdv A outer s H vs Q E hr h=>?_)
 ·obtain ⟨a,sh,i,r,rfl,_⟩:=h
  rfl
 ·obtain ⟨a,sh,i,r,rfl,S,⟨n0,L⟩,q⟩:=h
  refine ⟨_,Ae (Aq 2 Nz (qv 1))
   (Ae (Jd Qf (A8 (Bg K hr.u200) (Ao K (Ao K (qv 0) (qv 2)) Ah) Av (A1 _)) (Af (Aq 2 Nz (Ao K (Ao K (qv 0) (qv 2)) Ah))))
   (Af (Am (qv 2)))),?_⟩
  walk_at "r"
  refine ⟨fun n σ' H'=>H'=H/\∃ j:Nat,σ'=[some (.ref a),some (.int (i:Nat)),some (.int (j:Nat))]/\LastN sh n j r,⟨n0,rfl,i,rfl,L⟩,?_⟩
  rintro n σ' H' ⟨rfl,j,rfl,L⟩
  walk_at "r"
  cases L with
  | @root _ s h hs =>
   obtain ⟨us,p,e,eu,qp⟩:=S.at h
   refine Bl (SqL.of e) eu ?_
   walk_at "r"
   refine A4 qp D6 ?_
   walk_at "r"
   rw [Zer,hs]
   walk_at "r"
   exact q
  | @step n _ k _ h t =>
   obtain ⟨us,p,e,eu,qp⟩:=S.at h
   refine Bl (SqL.of e) eu ?_
   walk_at "r"
   refine A4 qp D6 ?_
   walk_at "r"
   rw [Zer,show (Sh.same k).isSame=true from rfl]
   refine iteT ?_
   refine ⟨fun σ2 H2=>∃ m',m' < n+1/\H2=H'/\∃ j':Nat,σ2=[some (.ref a),some (.int (i:Nat)),some (.int (j':Nat))]/\LastN sh m' j' r,fun _ _ h=>h,?_⟩
   walk_at "r"
   refine Bl (SqL.of e) eu ?_
   walk_at "r"
   refine A4 qp rfl ?_
   walk_at "r"
   exact ⟨n,by omega,rfl,k,rfl,t⟩
noncomputable def Ak (ns:List Nat):List V:=ns.map fun n=>V.int ((n:Nat):Int)
theorem Gp (a b:List Nat):Ak (a++b)=Ak a++Ak b:=by unfold Ak;exact Rn ..
noncomputable def DcN {α:Type}(kvs:List (Ap×V))(ps:Nat->Option α)(g:α->V):Prop:=∀ i:Nat,Bo kvs (.inl ((i:Nat):Int))=(ps i).map g
theorem Zgu {i j:Nat}(h:(Sum.inl ((i:Nat):Int):Ap)=.inl ((j:Nat):Int)):i=j:=by have:=Sum.inl.inj h;omega
theorem DcN.put {α:Type}{kvs:List (Ap×V)}{ps:Nat->Option α}{g:α->V}(h:DcN kvs ps g)(i:Nat)(x:α):DcN (Bc kvs (.inl ((i:Nat):Int)) (g x)) (fun j=>if j=i then some x else ps j) g:=fun j=>by
 rw [J2]
 show _=Option.map g (if j=i then some x else ps j)
 by_cases hj:j=i
 ·rw [if_pos (by rw [hj]),if_pos hj]
  rfl
 ·rw [if_neg fun z=>hj (Zgu z),if_neg hj]
  exact h j
theorem M0 {s:Sh}:Ck (V.str s.wd::s.parts.map fun n=>V.int ((n:Nat):Int)) (some 1) none=Ak s.parts:=by
 cases s <;> rfl
theorem M9 {s:Sh}:¬ (HT.sIx (V.str s.wd::s.parts.map fun n=>V.int ((n:Nat):Int)).length 0 (some 1)=0/\HT.sIx (V.str s.wd::s.parts.map fun n=>V.int ((n:Nat):Int)).length (V.str s.wd::s.parts.map fun n=>V.int ((n:Nat):Int)).length none=(V.str s.wd::s.parts.map fun n=>V.int ((n:Nat):Int)).length):=by
 rintro ⟨h,_⟩
 rw [show (1:Int)=((1:Nat):Int) from rfl,HT.sIx_nat,Py] at h
 omega
theorem Zao (s:Sh):s.parts.length<=2:=by cases s <;> simp [Sh.parts]
theorem HoldsN.inv {sh:Ai}{n:Nat}{ps:Ps}{w:List Nat}{b:Bool}(h:HoldsN sh n ps w b):(w=[]/\b=false)\/(∃ w1 Ac x n',w=w1++[Ac]/\n=n'+1/\ps Ac=some x/\HoldsN sh n' (Bb ps Ac true) w1 b) \/
  ∃ w1 Ac s o n',w=w1++[Ac]/\n=n'+1/\ps Ac=none/\sh[Ac]?=some s/\E4 sh (Bb ps Ac false) s.parts (w1++[Ac]) o/\(o=none->b=true)/\∀ w',o=some w'->HoldsN sh n' (Bb ps Ac false) w' b:=by
 cases h with
 | nil=>exact .inl ⟨rfl,rfl⟩
 | seen h t=>exact .inr (.inl ⟨_,_,_,_,rfl,rfl,h,t⟩)
 | hit h hs hp=>exact .inr (.inr ⟨_,_,_,_,0,rfl,rfl,h,hs,hp,fun _=>rfl,fun _ e=>by cases e⟩)
 | go h hs hp t=>exact .inr (.inr ⟨_,_,_,_,_,rfl,rfl,h,hs,hp,fun e=>(by cases e),fun _ e=>by cases e;exact t⟩)
theorem Zg6 {H:Hp}{x y:Addr}{us vs:List V}(h:H x=some (.lst us))(h':H y=some (.tup vs)):y≠x:=fun z=>by rw [z,h] at h';cases h'
noncomputable def Zeu (K:Pk):Sp:=fun vs H Q _=>∃(a:Addr)(sh:Ai)(i r N:Nat)(b:Bool),vs=[.ref a,.int (i:Nat)]/\ShG K H a sh/\Last sh i r/\HoldsN sh N (fun _=>none) [r] b/\N<=1000/\∀ H',Same H H'->Q (.bl b) H'
structure HoJ (K:Pk)(H:Hp)(pd pw:Addr)(N n:Nat)(ps:Ps)(w:List Nat)(H':Hp):Prop where
 ed:∃ kvs,H' pd=some (.dK kvs)/\DcN kvs ps V.bl/\kvs.length+n<=N
 ew:H' pw=some (.lst (Ak w))
 wl:w.length+2 * n<=1+2 * N
 sm:Same H H'
theorem sc_holds_itself:Bf ["shapes", "kind", "passed", "waiting", "top", "part", "inner"] ["shapes", "kind"] (A0 Le):=by walk_at "sc"
theorem Zn9 {f:Addr}{fd:FuncData}(F:Fun K "holds_itself" "holds_itself" Le f fd)(T:Txt K mg)(C_last_same:Ba P w K mg base 1 "last_same" ["shapes", "kind"] (Lq K)):As P w K mg base Az 2 f fd ["shapes", "kind"] (Zeu K):=by
 refine F.okq sc_holds_itself (fun vs H Q E h=>?_) (fun cdv A outer s H vs Q E hr h=>?_)
 ·obtain ⟨a,sh,i,r,N,b,rfl,_⟩:=h
  rfl
 ·obtain ⟨a,sh,i,r,N,b,rfl,S,L,HN,hN,q⟩:=h
  refine ⟨_,Ae (Aq 2 sc_holds_itself (Zbq))
   (Ae (Aq 3 sc_holds_itself (Bh (Aa (Ay C_last_same hr.m (Aa (qv 0) (Aa (qv 1) Ab))) Ab)))
   (Ae (Jd Qf (Gz K (qv 3) (by intro _;rfl)) (Ae (Aq 4 sc_holds_itself (Ao K (qv 3) (Fo F3 Ah)))
   (Ae (Au (Gj (Zhk hr.u1 (qv 4) (qv 2))) (Ae (Ho hr.u1 (qv 2) (qv 4) Ct)
   (Ae (Cm (Mh K Qp U8 U9 Md (qv 3)))
   (Af (Ze7)))) Aw)
   (Ae (Ho hr.u1 (qv 2) (qv 4) Ct)
   (Af (Cg Qf rfl (C0 K (Gh (Mq K) (Ao K (qv 0) (qv 4)) (Gn Ah) (Gw))) (Ax (i:=5) sc_holds_itself.nd rfl (Or.inl rfl)) (Ae (Aq 6 sc_holds_itself (Ay C_last_same hr.m (Aa (qv 0) (Aa (qv 5) Ab))))
   (Ae (Au (A8 Zkx (Zi3 hr.u1 (qv 2) (qv 6)) Ct (A1 _)) (Af (Am Ct)) Aw)
   (Af (Cm (Dk K Qp Q9 Ra D4 (qv 3) (Aa (qv 6) Ab))))))))))))
   (Af (Am Ct)))),?_⟩
  have bg:=big
  walk_at "r"
  refine fun pd hpd=>?_
  have s1:=Same.upd (o:=.dK []) hpd
  walk_at "r"
  refine ⟨a,sh,i,r,rfl,S.same s1,L,?_⟩
  walk_at "r"
  refine ⟨B5,fun pw hpw=>?_⟩
  have s2:=Same.upd (o:=.lst [.int (r:Nat)]) hpw
  have nd:pd≠pw:=A5 Ad hpw
  have hpw0:=s1.free hpw
  walk_at "r"
  refine ⟨fun n σ' H'=>∃ v4 v5 v6 ps w,σ'=[some (.ref a),some (.int (i:Nat)),some (.ref pd),some (.ref pw),v4,v5,v6]/\HoJ K H pd pw N n ps w H'/\HoldsN sh n ps w b,
   ⟨N,none,none,none,fun _=>none,[r],rfl,⟨⟨[],s2 _ _ Ad,fun _=>rfl,by simp⟩,Ad,by simp,s1.trans s2⟩,HN⟩,?_⟩
  rintro n σ' H1 ⟨v4,v5,v6,ps,w0,rfl,J,hh⟩
  obtain ⟨kvs,ed,dc,kl⟩:=J.ed
  have ew:=J.ew
  have wl:=J.wl
  have sm:=J.sm
  walk_at "r"
  refine Ht (SqL.of ew) ?_
  have turn:∀(w':List Nat)(Ac:Nat),w0=w'++[Ac]->(!(Ak w0).isEmpty)=true/\Ak w0=Ak w'++[.int (Ac:Nat)]:=fun w' Ac e=>by
   have:Ak w0=Ak w'++[.int (Ac:Nat)]:=by rw [e,Gp];rfl
   exact ⟨by rw [this];simp,this⟩
  rcases hh.inv with ⟨rfl,rfl⟩ | ⟨w1,Ac,x,n,rfl,rfl,h,t⟩ | ⟨w1,Ac,s,o,n,rfl,rfl,h,hs,hp,ho,hgo⟩
  ·refine iteF ?_
   walk_at "r"
   exact q _ sm
  ·obtain ⟨e1,e2⟩:=turn w1 Ac rfl
   rw [e1]
   rw [e2] at ew
   refine iteT ?_
   refine ⟨fun σ2 H2=>∃ m',m' < n+1/\∃ v4 v5 v6 ps w,σ2=[some (.ref a),some (.int (i:Nat)),some (.ref pd),some (.ref pw),v4,v5,v6]/\HoJ K H pd pw N m' ps w H2/\HoldsN sh m' ps w b,fun _ _ h=>h,?_⟩
   walk_at "r"
   refine Bl (SqL.of ew) (Gx _ _) ?_
   walk_at "r"
   refine ⟨pd,_,rfl,DGet.k (k:=.inl ((Ac:Nat):Int)) ed,?_⟩
   rw [dc Ac,h]
   refine ⟨true,rfl,?_⟩
   walk_at "r"
   refine ⟨pd,_,rfl,DPut.k (k:=.inl ((Ac:Nat):Int)) ed (by omega),?_⟩
   walk_at "r"
   have ew2:upd H1 pd (.dK (Bc kvs (.inl ((Ac:Nat):Int)) (.bl true))) pw=some (.lst (Ak w1++[.int (Ac:Nat)])):=by rw [Ag nd.symm];exact ew
   refine Cf (SqL.of ew2) ?_
   refine Lz ew2 ?_
   have hl:=Ed kvs (.inl ((Ac:Nat):Int)) (.bl true)
   rw [Px,Qm] at wl
   exact ⟨n,by omega,_,_,_,Bb ps Ac true,w1,rfl,⟨⟨_,by rw [Ag nd];exact Ad,dc.put Ac true,by omega⟩,Ad,by omega,(sm.over hpd).over hpw0⟩,t⟩
  ·obtain ⟨e1,e2⟩:=turn w1 Ac rfl
   rw [e1]
   have ew0:=ew
   rw [e2] at ew
   refine iteT ?_
   refine ⟨fun σ2 H2=>∃ m',m' < n+1/\∃ v4 v5 v6 ps w,σ2=[some (.ref a),some (.int (i:Nat)),some (.ref pd),some (.ref pw),v4,v5,v6]/\HoJ K H pd pw N m' ps w H2/\HoldsN sh m' ps w b,fun _ _ h=>h,?_⟩
   walk_at "r"
   refine Bl (SqL.of ew) (Gx _ _) ?_
   walk_at "r"
   refine ⟨pd,_,rfl,DGet.k (k:=.inl ((Ac:Nat):Int)) ed,?_⟩
   rw [dc Ac,h]
   refine ⟨false,rfl,?_⟩
   walk_at "r"
   refine ⟨pd,_,rfl,DPut.k (k:=.inl ((Ac:Nat):Int)) ed (by omega),?_⟩
   have hl:=Ed kvs (.inl ((Ac:Nat):Int)) (.bl false)
   have dc2:DcN (Bc kvs (.inl ((Ac:Nat):Int)) (.bl false)) (Bb ps Ac false) V.bl:=dc.put Ac false
   have ed2:upd H1 pd (.dK (Bc kvs (.inl ((Ac:Nat):Int)) (.bl false))) pd=some (.dK (Bc kvs (.inl ((Ac:Nat):Int)) (.bl false))):=Ad
   have ew2:upd H1 pd (.dK (Bc kvs (.inl ((Ac:Nat):Int)) (.bl false))) pw=some (.lst (Ak (w1++[Ac]))):=by rw [Ag nd.symm];exact ew0
   have sm2:Same H (upd H1 pd (.dK (Bc kvs (.inl ((Ac:Nat):Int)) (.bl false)))):=sm.over hpd
   revert ed2 ew2 sm2
   generalize upd H1 pd (.dK (Bc kvs (.inl ((Ac:Nat):Int)) (.bl false)))=H2
   generalize Bc kvs (.inl ((Ac:Nat):Int)) (.bl false)=kv2 at hl dc2
   intro ed2 ew2 sm2
   obtain ⟨us,p,e,eu,qp⟩:=(S.same sm2).at hs
   walk_at "r"
   refine Bl (SqL.of e) eu ?_
   walk_at "r"
   refine .inr (.inr ⟨p,_,rfl,qp,M9,fun p3 h3=>?_⟩)
   rw [M0]
   have s3:=Same.upd (o:=.tup (Ak s.parts)) h3
   refine .inr (.inl ⟨p3,rfl,⟨_,SqT.of Ad⟩,?_⟩)
   have hpl:=Zao s
   rw [Px,Qm] at wl
   refine Op (K:=K) (a:=p3) (xs:=Ak s.parts) (fun j σ' H'=>∃ v5 v6 wj,σ'=[some (.ref a),some (.int (i:Nat)),some (.ref pd),some (.ref pw),some (.int (Ac:Nat)),v5,v6]/\H' pd=some (.dK kv2)/\H' pw=some (.lst (Ak wj))/\wj.length=w1.length+1+j/\Same H H'/\H' p3=some (.tup (Ak s.parts))/\E4 sh (Bb ps Ac false) (s.parts.drop j) wj o)
    ⟨_,_,w1++[Ac],rfl,s3 _ _ ed2,s3 _ _ ew2,by simp,sm2.trans s3,Ad,hp⟩ ?_ ?_ ?_
   ·rintro j σ' H' _ ⟨_,_,_,_,_,_,_,_,e,_⟩
    exact SqT.of e
   ·rintro j x σ' H3 hx ⟨v5',v6',wj,rfl,ed3,ew3,lw,sm3,ep3,hpu⟩
    have hj:j < s.parts.length:=by have:=(Pt.mp hx).1;unfold Ak at this;rwa [Pw] at this
    have hxv:x=.int ((s.parts[j]:Nat):Int):=by unfold Ak at hx;rw [Qj,Pn hj] at hx;exact (P8 hx).symm
    subst hxv
    rw [Rs hj] at hpu
    have hmem:∃ r2,Last sh s.parts[j] r2/\((Bb ps Ac false r2=some false/\o=none)\/(Bb ps Ac false r2≠some false/\E4 sh (Bb ps Ac false) (s.parts.drop (j+1)) (wj++[r2]) o)):=by
     cases hpu with
     | hit h1 h2=>exact ⟨_,h1,.inl ⟨h2,rfl⟩⟩
     | go h1 h2 t=>exact ⟨_,h1,.inr ⟨h2,t⟩⟩
    obtain ⟨r2,hL2,hc⟩:=hmem
    walk_at "r"
    refine ⟨a,sh,s.parts[j],r2,rfl,S.same sm3,hL2,?_⟩
    walk_at "r"
    refine ⟨pd,rfl,.inl ⟨_,.inl ed3⟩,?_⟩
    walk_at "r"
    refine ⟨_,DGet.k (k:=.inl ((r2:Nat):Int)) ed3,?_⟩
    rw [dc2 r2]
    rcases hc with ⟨h1,h2⟩ | ⟨h1,h2⟩
    ·rw [h1]
     walk_at "r"
     rw [show (decide ((Option.map V.bl (some false)).getD V.non=V.bl false))=true from rfl]
     walk_at "r"
     have:=ho h2
     subst this
     exact q _ sm3
    ·have hd:decide (((Bb ps Ac false r2).map V.bl).getD .non=V.bl false)=false:=by
      generalize Bb ps Ac false r2=z at h1
      match z,h1 with
      | none,_=>rfl
      | some true,_=>rfl
      | some false,h=>exact absurd rfl h
     walk_at "r"
     rw [hd]
     walk_at "r"
     refine Cf (SqL.of ew3) ?_
     walk_at "r"
     have hwl:(Ak wj).length < sizeLine:=by unfold Ak;rw [Pw];omega
     refine Dd ew3 hwl ?_
     refine ⟨_,_,wj++[r2],rfl,by rw [Ag nd];exact ed3,by rw [Ad,Gp];rfl,by simp [lw];omega,sm3.over hpw0,by rw [Ag (Zg6 ew3 ep3)];exact ep3,h2⟩
   ·rintro σ' H3 ⟨v5',v6',wj,rfl,ed3,ew3,lw,sm3,ep3,hpu⟩
    have e9:(Ak s.parts).length=s.parts.length:=by unfold Ak;exact Pw ..
    rw [e9,W2] at hpu
    cases hpu
    refine ⟨n,by omega,_,_,_,Bb ps Ac false,wj,rfl,⟨⟨kv2,ed3,dc2,by omega⟩,ew3,by omega,sm3⟩,hgo wj rfl⟩
theorem ShG.off {H:Hp}{a x:Addr}{sh:Ai}{zs:List V}{o:HO}(h:ShG K H a sh)(n:a≠x)(e:H x=some (.lst zs)):ShG K (upd H x o) a sh:=by
 obtain ⟨us,e1,al⟩:=h.ex
 exact ⟨us,by rw [Ag n];exact e1,al.mono (ShE.same (SameT.set e))⟩
theorem ShG.set {H:Hp}{a p:Addr}{sh:Ai}{us:List V}{i:Nat}{s:Sh}(e:H a=some (.lst us))(al:Al (ShE K H) us sh)(hp:SqT K H p (shV s)):ShG K (upd H a (.lst (us.set i (.ref p)))) a (sh.set i s):=by
 have st:SameT H (upd H a (.lst (us.set i (.ref p)))):=SameT.set e
 refine ⟨us.set i (.ref p),Ad,by rw [Qs,Qs];exact al.1,fun k u x hu hx=>?_⟩
 by_cases hki:k=i
 ·subst hki
  have hl:=(Pt.mp hu).1
  rw [Qs] at hl
  rw [R1 hl] at hu
  rw [R1 (by rw [<- al.1];exact hl)] at hx
  have hu:V.ref p=u:=by simpa using hu
  have hx:s=x:=by simpa using hx
  subst hx
  exact ⟨p,hu.symm,st.tup hp⟩
 ·rw [Sm (fun z=>hki z.symm)] at hu hx
  exact ShE.same st _ _ (al.2 k u x hu hx)
noncomputable def PaAt (K:Pk)(H:Hp)(v:V)(x:Nat×Nat):Prop:=∃ a,v=.ref a/\SqT K H a [.int (x.1:Nat),.int (x.2:Nat)]
theorem PaAt.same {H H':Hp}(e:SameT H H')(v:V)(x:Nat×Nat)(h:PaAt K H v x):PaAt K H' v x:=let ⟨a,e1,q⟩:=h;⟨a,e1,e.tup q⟩
noncomputable def Zf1 (m:Ai)(g a:Nat):Option Ai->Prop
 | none=>(∃ n,n<=1000/\JoinN n m [(g,a)] none)\/∃ n k r m1,n<=1000/\JoinN n m [(g,a)] (some m1)/\Last m1 g r/\HoldsN m1 k (fun _=>none) [r] true/\k<=1000
 | some m1=>∃ n k r,n<=1000/\JoinN n m [(g,a)] (some m1)/\Last m1 g r/\HoldsN m1 k (fun _=>none) [r] false/\k<=1000
noncomputable def Zg7 (K:Pk):Sp:=fun vs H Q _=>∃(a:Addr)(sh:Ai)(i j:Nat)(o:Option Ai),vs=[.ref a,.int (i:Nat),.int (j:Nat)]/\ShG K H a sh/\Zf1 sh i j o /\
 (∀ a' m1 H',o=some m1->Same H H'->H a'=none->ShG K H' a' m1->Q (.ref a') H')/\(∀ H',o=none->Same H H'->Q .non H')
theorem Jj (s:Sh):decide (V.str s.wd=V.str "any")=decide (s=.any):=by
 cases s with
 | to a b=>exact (by decide:decide (V.str "to" = V.str "any")=false)
 | same k=>exact (by decide:decide (V.str "same" = V.str "any")=false)
 | _=>decide
theorem Za5 (s:Sh):decide (V.str s.wd=V.str "to")=decide (s.wd = "to"):=by
 by_cases h:s.wd = "to"
 ·rw [h];decide
 ·rw [decide_eq_false h,decide_eq_false (fun e=>h (by injection e))]
theorem Zg8 {s:Sh}(h:s.wd = "to"):∃ a b,s=.to a b:=by
 cases s with
 | to a b=>exact ⟨a,b,rfl⟩
 | num=>exact absurd h (by decide)
 | truth=>exact absurd h (by decide)
 | any=>exact absurd h (by decide)
 | same k=>exact absurd h (by show ¬ (("same" : Str) = "to");decide)
theorem Zss {α:Type}{R:V->α->Prop}{vs us:List V}{xs ys:List α}(h:Al R vs xs)(h2:Al R us ys):Al R (vs++us) (xs++ys):=by
 refine ⟨by rw [Px,Px,h.1,h2.1],fun j v x e1 e2=>?_⟩
 by_cases hj:j < vs.length
 ·rw [Q7 hj] at e1
  rw [Q7 (by rw [<- h.1];exact hj)] at e2
  exact h.2 j v x e1 e2
 ·rw [Rh (by omega)] at e1
  rw [Rh (by rw [<- h.1];omega),<- h.1] at e2
  exact h2.2 _ v x e1 e2
structure JoJ (K:Pk)(H:Hp)(am pw:Addr)(N n:Nat)(m:Ai)(w:List (Nat×Nat))(H':Hp):Prop where
 sh:ShG K H' am m
 ew:∃ wv,H' pw=some (.lst wv)/\Al (PaAt K H') wv w
 wl:w.length+n<=1+N
 sm:Same H H'
theorem JoinN.inv {n:Nat}{m:Ai}{w:List (Nat×Nat)}{o:Option Ai}(h:JoinN n m w o):(w=[]/\o=some m)\/∃ w1 p l r,w=w1++[p]/\Last m p.1 l/\Last m p.2 r/\((l=r/\∃ n',n=n'+1/\JoinN n' m w1 o)\/(l≠r/\∃ sl sr,m[l]?=some sl/\m[r]?=some sr /\
  ((sr=.any/\∃ n',n=n'+1/\JoinN n' (m.set r (.same l)) w1 o)\/(sr≠.any/\sl=.any/\∃ n',n=n'+1/\JoinN n' (m.set l (.same r)) w1 o)\/(∃ a b c d n',sl=.to a b/\sr=.to c d/\n=n'+1/\JoinN n' (m.set l (.same r)) (w1++[(a,c),(b,d)]) o) \/
   (sl≠.any/\sr≠.any/\(sl.wd ≠ "to" \/ sr.wd ≠ "to")/\o=none)))):=by
 cases h with
 | nil=>exact .inl ⟨rfl,rfl⟩
 | eq h1 h2 t=>exact .inr ⟨_,_,_,_,rfl,h1,h2,.inl ⟨rfl,_,rfl,t⟩⟩
 | @anyR _ _ _ _ l r _ h1 h2 ne hr t =>
  obtain ⟨sl,hl,_⟩:=h1.at
  exact .inr ⟨_,_,_,_,rfl,h1,h2,.inr ⟨ne,sl,.any,hl,hr,.inl ⟨rfl,_,rfl,t⟩⟩⟩
 | anyL h1 h2 ne hr hn hl t=>exact .inr ⟨_,_,_,_,rfl,h1,h2,.inr ⟨ne,_,_,hl,hr,.inr (.inl ⟨hn,rfl,_,rfl,t⟩)⟩⟩
 | to h1 h2 ne hl hr t=>exact .inr ⟨_,_,_,_,rfl,h1,h2,.inr ⟨ne,_,_,hl,hr,.inr (.inr (.inl ⟨_,_,_,_,_,rfl,rfl,rfl,t⟩))⟩⟩
 | clash h1 h2 ne hl hr nl nr nt=>exact .inr ⟨_,_,_,_,rfl,h1,h2,.inr ⟨ne,_,_,hl,hr,.inr (.inr (.inr ⟨nl,nr,nt,rfl⟩))⟩⟩
theorem sc_joined:Bf ["shapes", "one", "other", "made", "waiting", "pair", "left", "right"] ["shapes", "one", "other"] (A0 Lb):=by walk_at "sc"
theorem Ztw {f:Addr}{fd:FuncData}(F:Fun K "joined" "joined" Lb f fd)(T:Txt K mg)(C_last_same:Ba P w K mg base 1 "last_same" ["shapes", "kind"] (Lq K))(C_holds_itself:Ba P w K mg base 2 "holds_itself" ["shapes", "kind"] (Zeu K)):As P w K mg base Az 3 f fd ["shapes", "one", "other"] (Zg7 K):=by
 refine F.okq sc_joined (fun vs H Q E h=>?_) (fun cdv A outer s H vs Q E hr h=>?_)
 ·obtain ⟨a,sh,i,j,o,rfl,_⟩:=h
  rfl
 ·obtain ⟨a,sh,i,j,o,rfl,S,hJ,q,qn⟩:=h
  refine ⟨_,Ae (Aq 3 sc_joined (Ep (Nw K) (by rfl) T.list (by decide +kernel) (Aa (qv 0) Ab)))
   (Ae (Aq 4 sc_joined (Bh (Aa (Ar (Aa (qv 1) (Aa (qv 2) Ab))) Ab)))
   (Ae (Jd Qf (Gz K (qv 4) (by intro _;rfl)) (Ae (Aq 5 sc_joined (Mh K Qp U8 U9 Md (qv 4)))
   (Ae (Zdt (i:=6) (j:=7) rfl sc_joined.nd rfl rfl (by decide) rfl rfl (Aa (Ay C_last_same hr.m (Aa (qv 3) (Aa (Ao K (qv 5) Ah) Ab))) (Aa (Ay C_last_same hr.m (Aa (qv 3) (Aa (Ao K (qv 5) Ah) Ab))) Ab)))
   (Ae (Au (A8 (Bg K hr.u200) (qv 6) (qv 7) (A1 _)) (Af (Ze7)) Aw)
   (Ae (Au (A8 (Bg K hr.u200) (Ao K (Ao K (qv 3) (qv 7)) Ah) Av (A1 _)) (Af (Zdt (i:=6) (j:=7) rfl sc_joined.nd rfl rfl (by decide) rfl rfl (Aa (qv 7) (Aa (qv 6) Ab)))) Aw)
   (Ae (Au (QW.qt (Ia (A8 (Bg K hr.u200) (Ao K (Ao K (qv 3) (qv 6)) Ah) Av (A1 _)) (Kr (A8 (Bg K hr.u200) (Ao K (Ao K (qv 3) (qv 7)) Ah) Av (A1 _))))) (Af (Cm (Dk K Qp PySem.F.slot_list_extend PySem.F.type_list_extend Zpn (qv 4) (Aa (Zob true K (by rfl) T.list (by rfl) T.zip (Aa (Gh (Mq K) (Ao K (qv 3) (qv 6)) (Gn Ah) (Gw)) (Aa (Gh (Mq K) (Ao K (qv 3) (qv 7)) (Gn Ah) (Gw)) Ab))) Ab)))) (Af (Au (A8 (Kk K hr.u200) (Ao K (Ao K (qv 3) (qv 6)) Ah) Av (A1 _)) (Af (Am Eh)) Aw)))
   (Af (Ng (Ar (Aa Av (Aa (qv 7) Ab))) (Zm7 (qv 3) (qv 6) Zqj)))))))))
   (Af (Am (Pb (B0 (Ay C_holds_itself hr.m (Aa (qv 3) (Aa (qv 1) Ab)))) Eh (qv 3)))))),?_⟩
  have bg:=big
  obtain ⟨N,oj,hN,hJN,hfin,hno⟩:∃ N oj,N<=1000/\JoinN N sh [(i,j)] oj/\(∀ m1,oj=some m1->∃ k r b,Last m1 i r/\HoldsN m1 k (fun _=>none) [r] b/\k<=1000/\o=cond b none (some m1))/\(oj=none->o=none):=by
   cases o with
   | none =>
    rcases hJ with ⟨n,h1,h2⟩ | ⟨n,k,r,m1,h1,h2,h3,h4,h5⟩
    ·exact ⟨n,none,h1,h2,(fun m1 e=>by cases e),fun _=>rfl⟩
    ·exact ⟨n,some m1,h1,h2,(fun m2 e=>by cases e;exact ⟨k,r,true,h3,h4,h5,rfl⟩),fun e=>by cases e⟩
   | some m1 =>
    obtain ⟨n,k,r,h1,h2,h3,h4,h5⟩:=hJ
    exact ⟨n,some m1,h1,h2,(fun m2 e=>by cases e;exact ⟨k,r,false,h3,h4,h5,rfl⟩),fun e=>by cases e⟩
  obtain ⟨us,ea,ala⟩:=S.ex
  walk_at "r"
  refine ⟨a,us,rfl,.inl (SqL.of ea),fun am ham=>?_⟩
  have s1:=Same.upd (o:=.lst us) ham
  have S1:ShG K (upd H am (.lst us)) am sh:=⟨us,Ad,ala.mono (ShE.same s1.t)⟩
  have em1:upd H am (.lst us) am=some (.lst us):=Ad
  revert s1 S1 em1
  generalize upd H am (.lst us)=H1
  intro s1 S1 em1
  walk_at "r"
  refine ⟨Bu,fun pt hpt=>?_⟩
  walk_at "r"
  refine ⟨B5,fun pw hpw=>?_⟩
  walk_at "r"
  have s2:=Same.upd (o:=.tup [.int (i:Nat),.int (j:Nat)]) hpt
  have s3:=Same.upd (o:=.lst [.ref pt]) hpw
  have npw:am≠pw:=A5 (s2 _ _ em1) hpw
  have hpw0:H pw=none:=(s1.trans s2).free hpw
  have ham0:H am=none:=ham
  refine ⟨fun n σ' H'=>∃ v5 v6 v7 m w,σ'=[some (.ref a),some (.int (i:Nat)),some (.int (j:Nat)),some (.ref am),some (.ref pw),v5,v6,v7]/\JoJ K H am pw N n m w H'/\JoinN n m w oj,
   ⟨N,none,none,none,sh,[(i,j)],rfl,⟨S1.same (s2.trans s3),⟨_,Ad,Al.nil.snoc ⟨pt,rfl,SqT.of (s3 _ _ Ad)⟩⟩,by simp,(s1.trans s2).trans s3⟩,hJN⟩,?_⟩
  rintro n σ' H2 ⟨v5,v6,v7,m,w0,rfl,J,hh⟩
  obtain ⟨wv,ew,alw⟩:=J.ew
  walk_at "r"
  refine Ht (SqL.of ew) ?_
  rcases hh.inv with ⟨rfl,ho⟩ | ⟨w1,pp,l,r,rfl,hl,hr2,hcase⟩
  ·have hwv:wv=[]:=Rr alw.1
   subst hwv
   refine iteF ?_
   obtain ⟨k,r,b,h1,h2,h3,h4⟩:=hfin m ho
   walk_at "r"
   refine ⟨am,m,i,r,k,b,rfl,J.sh,h1,h2,h3,fun H3 s3=>?_⟩
   cases b with
   | true =>
    walk_at "r"
    exact qn H3 h4 (J.sm.trans s3)
   | false =>
    walk_at "r"
    exact q am m H3 h4 (J.sm.trans s3) ham0 (J.sh.same s3)
  obtain ⟨wv',pv,w1',p',rfl,ee,alw',hpv⟩:=alw.last (fun z=>by rw [z] at alw;have:=alw.1;simp at this)
  obtain ⟨rfl,e2⟩:=Vn ee rfl
  cases e2
  obtain ⟨pq,rfl,qpq⟩:=hpv
  rw [show (!(wv'++[V.ref pq]).isEmpty)=true by simp]
  refine iteT ?_
  refine ⟨fun σ2 H2=>∃ m',m' < n/\∃ v5 v6 v7 m w,σ2=[some (.ref a),some (.int (i:Nat)),some (.int (j:Nat)),some (.ref am),some (.ref pw),v5,v6,v7]/\JoJ K H am pw N m' m w H2/\JoinN m' m w oj,fun _ _ h=>h,?_⟩
  have wl:=J.wl
  rw [Px,Qm] at wl
  walk_at "r"
  refine Cf (SqL.of ew) ?_
  refine Lz ew ?_
  have ew3:upd H2 pw (.lst wv') pw=some (.lst wv'):=Ad
  have S3:=J.sh.off (o:=.lst wv') npw ew
  have sm3:=J.sm.over (o:=.lst wv') hpw0
  have t3:=SameT.set (o:=.lst wv') ew
  have q3:=t3.tup qpq
  have al3:=alw'.mono (PaAt.same t3)
  revert ew3 S3 sm3 q3 al3
  generalize upd H2 pw (.lst wv')=H3
  intro ew3 S3 sm3 q3 al3
  walk_at "r"
  refine A4 q3 rfl ?_
  walk_at "r"
  refine ⟨am,m,pp.1,l,rfl,S3,hl,?_⟩
  walk_at "r"
  refine A4 q3 rfl ?_
  walk_at "r"
  refine ⟨am,m,pp.2,r,rfl,S3,hr2,?_⟩
  refine ⟨_,_,rfl,?_⟩
  walk_at "r"
  rcases hcase with ⟨rfl,n',rfl,t⟩ | ⟨ne,sl,sr,esl,esr,hc⟩
  ·rw [decide_eq_true (Eq.refl _)]
   walk_at "r"
   exact ⟨n',by omega,_,_,_,m,w1,rfl,⟨S3,⟨wv',ew3,al3⟩,by omega,sm3⟩,t⟩
  rw [decide_eq_false (show ¬ V.int ((l:Nat):Int)=V.int ((r:Nat):Int) from fun z=>ne (by injection z with z;omega))]
  refine iteF ?_
  with_reducible refine s_next ?_
  walk_at "q"
  refine N3 (R:=fun σ' H'=>H'=H3/\∃ x y sx sy,σ'=[some (.ref a),some (.int (i:Nat)),some (.int (j:Nat)),some (.ref am),some (.ref pw),some (.ref pq),some (.int (x:Nat)),some (.int (y:Nat))]/\m[x]?=some sx/\m[y]?=some sy/\((sx=.any/\∃ n',n=n'+1/\JoinN n' (m.set x (.same y)) w1 oj)\/(∃ a b c d n',sx=.to a b/\sy=.to c d/\n=n'+1/\JoinN n' (m.set x (.same y)) (w1++[(a,c),(b,d)]) oj)\/(sx≠.any/\(sx.wd ≠ "to" \/ sy.wd ≠ "to")/\oj=none))) ?_ ?_
  ·intro Y hY
   obtain ⟨us5,pr,e5,eur,qr⟩:=S3.at esr
   walk_at "r"
   refine Bl (SqL.of e5) eur ?_
   walk_at "r"
   refine A4 qr D6 ?_
   walk_at "r"
   rw [Jj]
   rcases hc with ⟨rfl,n',rfl,t⟩ | ⟨hn,rfl,n',rfl,t⟩ | ⟨a1,b1,c1,d1,n',rfl,rfl,rfl,t⟩ | ⟨nl,nr,nt,rfl⟩
   ·rw [decide_eq_true (Eq.refl Sh.any)]
    walk_at "r"
    refine ⟨_,_,rfl,?_⟩
    exact hY _ _ ⟨rfl,r,l,.any,sl,rfl,esr,esl,.inl ⟨rfl,n',rfl,t⟩⟩
   ·rw [decide_eq_false hn]
    walk_at "r"
    exact hY _ _ ⟨rfl,l,r,.any,sr,rfl,esl,esr,.inl ⟨rfl,n',rfl,t⟩⟩
   ·rw [decide_eq_false (fun e=>by cases e)]
    walk_at "r"
    exact hY _ _ ⟨rfl,l,r,_,_,rfl,esl,esr,.inr (.inl ⟨a1,b1,c1,d1,n',rfl,rfl,rfl,t⟩)⟩
   ·rw [decide_eq_false nr]
    walk_at "r"
    exact hY _ _ ⟨rfl,l,r,sl,sr,rfl,esl,esr,.inr (.inr ⟨nl,nt,rfl⟩)⟩
  rintro _ _ ⟨rfl,x,y,sx,sy,rfl,hx,hy,hc⟩
  obtain ⟨us3,em3,alm3⟩:=S3.ex
  obtain ⟨us4,px,e4,eux,qx⟩:=S3.at hx
  obtain ⟨us5,py,e5,euy,qy⟩:=S3.at hy
  rw [em3] at e4 e5
  cases e4
  cases e5
  have hxl:x < us3.length:=by rw [alm3.1];exact (Pt.mp hx).1
  walk_at "r"
  refine Bl (SqL.of em3) eux ?_
  walk_at "r"
  refine A4 qx D6 ?_
  walk_at "r"
  rw [Za5]
  rcases hc with ⟨rfl,n',rfl,t⟩ | ⟨a1,b1,c1,d1,n',rfl,rfl,rfl,t⟩ | ⟨nl,nt,ho⟩
  ·rw [show decide (Sh.any.wd = "to")=false by decide]
   walk_at "r"
   refine Bl (SqL.of em3) eux ?_
   walk_at "r"
   refine A4 qx D6 ?_
   walk_at "r"
   rw [Jj,decide_eq_true (Eq.refl Sh.any)]
   walk_at "r"
   refine ⟨Bu,fun p7 h7=>?_⟩
   have s7:=Same.upd (o:=.tup [.str "same",.int (y:Nat)]) h7
   walk_at "r"
   refine Zev (j:=x) (s7 _ _ em3) (by unfold Dm;simp [hxl]) ?_
   refine ⟨n',by omega,_,_,_,m.set x (.same y),w1,rfl,⟨ShG.set (s7 _ _ em3) (alm3.mono (ShE.same s7.t)) (SqT.of Ad),⟨wv',by rw [Ag npw.symm];exact s7 _ _ ew3,(al3.mono (PaAt.same s7.t)).mono (PaAt.same (SameT.set (s7 _ _ em3)))⟩,by omega,(sm3.trans s7).over ham0⟩,t⟩
  ·rw [show decide ((Sh.to a1 b1).wd = "to")=true from rfl]
   walk_at "r"
   refine Bl (SqL.of em3) euy ?_
   walk_at "r"
   refine A4 qy D6 ?_
   walk_at "r"
   rw [Za5,show decide ((Sh.to c1 d1).wd = "to")=true from rfl]
   walk_at "r"
   refine Cf (SqL.of ew3) ?_
   walk_at "r"
   refine Bl (SqL.of em3) eux ?_
   walk_at "r"
   refine .inr (.inr ⟨px,_,rfl,qx,M9,fun p4 h4=>?_⟩)
   rw [M0]
   have s4:=Same.upd (o:=.tup (Ak (Sh.to a1 b1).parts)) h4
   walk_at "r"
   refine Bl (SqL.of (s4 _ _ em3)) euy ?_
   walk_at "r"
   refine .inr (.inr ⟨py,_,rfl,s4.tup qy,M9,fun p5 h5=>?_⟩)
   rw [M0]
   have s5:=Same.upd (o:=.tup (Ak (Sh.to c1 d1).parts)) h5
   walk_at "r"
   refine ⟨p4,p5,_,_,rfl,s5.tup (SqT.of Ad),SqT.of Ad,fun zl zs H6 hzl s6 lz hz ezl=>?_⟩
   have s46:=(s4.trans s5).trans s6
   walk_at "r"
   have lz:zs.length=2:=lz
   have hwl:wv'.length<=2000:=by rw [al3.1];omega
   refine Zmn (s46 _ _ ew3) ezl (by omega) ?_
   have nz:pw≠zl:=A5 ((s4.trans s5) _ _ ew3) hzl
   have alz:Al (PaAt K H6) zs [(a1,c1),(b1,d1)]:=by
    refine ⟨lz,fun k v x e1 e2=>?_⟩
    obtain ⟨tt,x1,y1,rfl,h1,h2,h3⟩:=hz k v e1
    match k,e2,h1,h2 with
    | 0,e2,h1,h2=>cases e2;cases h1;cases h2;exact ⟨tt,rfl,SqT.of h3⟩
    | 1,e2,h1,h2=>cases e2;cases h1;cases h2;exact ⟨tt,rfl,SqT.of h3⟩
   have ew7:upd H6 pw (.lst (wv'++zs)) pw=some (.lst (wv'++zs)):=Ad
   have t7:=SameT.set (o:=.lst (wv'++zs)) (s46 _ _ ew3)
   have em7:upd H6 pw (.lst (wv'++zs)) am=some (.lst us3):=by rw [Ag npw];exact s46 _ _ em3
   have al7:Al (PaAt K (upd H6 pw (.lst (wv'++zs)))) (wv'++zs) (w1++[(a1,c1),(b1,d1)]):=Zss ((al3.mono (PaAt.same s46.t)).mono (PaAt.same t7)) (alz.mono (PaAt.same t7))
   have alm7:=(alm3.mono (ShE.same s46.t)).mono (ShE.same t7)
   have sm7:Same H (upd H6 pw (.lst (wv'++zs))):=(sm3.trans s46).over hpw0
   revert ew7 em7 al7 alm7 sm7
   generalize upd H6 pw (.lst (wv'++zs))=H7
   intro ew7 em7 al7 alm7 sm7
   walk_at "r"
   refine ⟨Bu,fun p8 h8=>?_⟩
   have s8:=Same.upd (o:=.tup [.str "same",.int (y:Nat)]) h8
   walk_at "r"
   refine Zev (j:=x) (s8 _ _ em7) (by unfold Dm;simp [hxl]) ?_
   refine ⟨n',by omega,_,_,_,m.set x (.same y),w1++[(a1,c1),(b1,d1)],rfl,⟨ShG.set (s8 _ _ em7) (alm7.mono (ShE.same s8.t)) (SqT.of Ad),⟨_,by rw [Ag npw.symm];exact s8 _ _ ew7,(al7.mono (PaAt.same s8.t)).mono (PaAt.same (SameT.set (s8 _ _ em7)))⟩,by simp;omega,(sm7.trans s8).over ham0⟩,t⟩
  ·by_cases hxt:sx.wd = "to"
   ·have hyt:sy.wd ≠ "to" := nt.resolve_left fun h=>h hxt
    rw [decide_eq_true hxt]
    walk_at "r"
    refine Bl (SqL.of em3) euy ?_
    walk_at "r"
    refine A4 qy D6 ?_
    walk_at "r"
    rw [Za5,decide_eq_false hyt]
    walk_at "r"
    refine Bl (SqL.of em3) eux ?_
    walk_at "r"
    refine A4 qx D6 ?_
    walk_at "r"
    rw [Jj,decide_eq_false nl]
    walk_at "r"
    exact qn _ (hno ho) sm3
   ·rw [decide_eq_false hxt]
    walk_at "r"
    refine Bl (SqL.of em3) eux ?_
    walk_at "r"
    refine A4 qx D6 ?_
    walk_at "r"
    rw [Jj,decide_eq_false nl]
    walk_at "r"
    exact qn _ (hno ho) sm3
inductive Kq:List (Nat×Nat)->Ai->List Bool->Ai->Prop where
 | nil {m:Ai}:Kq [] m [] m
 | cons {g a:Nat} {m m':Ai} {o:Option Ai} {ps:List (Nat×Nat)} {fs:List Bool} (j:Zf1 m g a o) (t:Kq ps (o.getD m) fs m'):Kq ((g,a)::ps) m (o.isSome::fs) m'
theorem FitG.o {ps:List (Nat×Nat)}{m m':Ai}{fs:List Bool}(h:FitG ps m fs m'):Kq ps m fs m':=by
 induction h with
 | nil=>exact .nil
 | ok j hn l h hk _ ih=>exact .cons (o:=some _) ⟨_,_,_,hn,j,l,h,hk⟩ ih
 | clash j hn _ ih=>exact .cons (o:=none) (.inl ⟨_,hn,j⟩) ih
 | loop j hn l h hk _ ih=>exact .cons (o:=none) (.inr ⟨_,_,_,_,hn,j,l,h,hk⟩) ih
noncomputable def Zh8 (K:Pk):Sp:=fun vs H Q _=>∃(a b:Addr)(m m':Ai)(pv:List V)(ps:List (Nat×Nat))(fs:List Bool),vs=[.ref a,.ref b]/\ShG K H a m/\H b=some (.lst pv)/\Al (PaAt K H) pv ps/\FitG ps m fs m'/\ps.length<=1000 /\
 ∀ r a' c H',Same H H'->SqT K H' r [.ref a',.ref c]->H' c=some (.lst (fs.map V.bl))->ShG K H' a' m'->Q (.ref r) H'
theorem sc_fitted:Bf ["shapes", "pairs", "made", "fits", "given", "asked", "after"] ["shapes", "pairs"] (A0 Lf):=by walk_at "sc"
theorem Znn {f:Addr}{fd:FuncData}(F:Fun K "fitted" "fitted" Lf f fd)(T:Txt K mg)(C_joined:Ba P w K mg base 3 "joined" ["shapes", "one", "other"] (Zg7 K)):As P w K mg base Az 4 f fd ["shapes", "pairs"] (Zh8 K):=by
 refine F.okq sc_fitted (fun vs H Q E h=>?_) (fun cdv A outer s H vs Q E hr h=>?_)
 ·obtain ⟨a,b,m,m',pv,ps,fs,rfl,_⟩:=h
  rfl
 ·obtain ⟨a,b,m,m',pv,ps,fs,rfl,S,eb,al,hfit,hl,q⟩:=h
  refine ⟨_,Ae (Aq 2 sc_fitted (qv 0))
   (Ae (Aq 3 sc_fitted (Bh Ab))
   (Ae (Cg Qf rfl (C0 K (qv 1)) (Cv K (n:=2) rfl (Bk (Ax (i:=4) sc_fitted.nd rfl (Or.inl rfl)) (Bk (Ax (i:=5) sc_fitted.nd rfl (Or.inl rfl)) (Cw)))) (Ae (Aq 6 sc_fitted (Ay C_joined hr.m (Aa (qv 2) (Aa (qv 4) (Aa (qv 5) Ab)))))
   (Ae (Cm (Dk K Qp Q9 Ra D4 (qv 3) (Aa (N6 (Zeb (qv 6))) Ab)))
   (Af (Aq 2 sc_fitted (Pb (Gj (Iz (qv 6))) (qv 2) (qv 6)))))))
   (Af (Am (Ar (Aa (qv 2) (Aa (qv 3) Ab))))))),?_⟩
  have bg:=big
  have eN:∀ c:Addr,decide (V.ref c=V.non)=false:=fun c=>decide_eq_false (fun z=>by cases z)
  walk_at "r"
  refine ⟨Bs,fun pf hpf=>?_⟩
  have s1:=Same.upd (o:=.lst []) hpf
  obtain ⟨us,ea,_⟩:=S.ex
  walk_at "r"
  refine .inl ⟨b,rfl,⟨_,SqL.of (s1 _ _ eb)⟩,?_⟩
  refine M8 (K:=K) (a:=b) (xs:=pv) (fun i σ' H'=>∃ v4 v5 v6 am m1 fd1 fr,σ'=[some (.ref a),some (.ref b),some (.ref am),some (.ref pf),v4,v5,v6]/\H' pf=some (.lst (fd1.map V.bl))/\fd1.length=i/\ShG K H' am m1/\am≠pf/\Same H H'/\Kq (ps.drop i) m1 fr m'/\fd1++fr=fs)
   ⟨none,none,none,a,m,[],fs,rfl,Ad,rfl,S.same s1,A5 ea hpf,s1,hfit.o,rfl⟩ ?_ ?_ ?_
  ·rintro i σ' H' _ ⟨_,_,_,_,_,_,_,_,_,_,_,_,sm,_⟩
   exact SqL.of (sm _ _ eb)
  ·rintro i x σ' H1 hx ⟨v4,v5,v6,am,m1,fd1,fr,rfl,ef,lf,S1,nf,sm,ft,efs⟩
   obtain ⟨y,hy,p,rfl,qp⟩:=al.get hx
   obtain ⟨g,k⟩:=y
   have hi:=(Pt.mp hy).1
   have hdr:ps.drop i=(g,k)::ps.drop (i+1):=by
    rw [Rs hi]
    rw [Pn hi] at hy
    rw [P8 hy]
   rw [hdr] at ft
   have hlen:(fd1.map V.bl).length < sizeLine:=by rw [Pw];omega
   cases ft with
   | @cons _ _ _ _ o _ fs2 j t =>
   have efs2:(fd1++[o.isSome])++fs2=fs:=by rw [<- efs,Rl];rfl
   walk_at "r"
   refine Da (sm.tup qp) rfl ?_
   walk_at "r"
   refine ⟨am,m1,g,k,o,rfl,S1,j,fun a' m2 H2 ho s2 hn S2=>?_,fun H2 ho s2=>?_⟩
   ·subst ho
    walk_at "r"
    refine Cf (SqL.of (s2 _ _ ef)) ?_
    walk_at "r"
    refine Dd (s2 _ _ ef) hlen ?_
    rw [eN a']
    walk_at "r"
    rw [eN a']
    walk_at "r"
    exact ⟨_,_,_,a',m2,fd1++[true],fs2,rfl,by rw [Ad,Rn];rfl,by simp [lf],S2.off (A5 ef hn).symm (s2 _ _ ef),(A5 ef hn).symm,(sm.trans s2).over hpf,t,efs2⟩
   ·subst ho
    walk_at "r"
    refine Cf (SqL.of (s2 _ _ ef)) ?_
    walk_at "r"
    refine Dd (s2 _ _ ef) hlen ?_
    rw [decide_eq_true (Eq.refl V.non)]
    walk_at "r"
    rw [decide_eq_true (Eq.refl V.non)]
    walk_at "r"
    exact ⟨_,_,_,am,m1,fd1++[false],fs2,rfl,by rw [Ad,Rn];rfl,by simp [lf],(S1.same s2).off nf (s2 _ _ ef),nf,(sm.trans s2).over hpf,t,efs2⟩
  ·rintro σ' H1 ⟨v4,v5,v6,am,m1,fd1,fr,rfl,ef,lf,S1,nf,sm,ft,efs⟩
   rw [al.1,W2] at ft
   cases ft
   rw [Qx] at efs
   subst efs
   walk_at "r"
   refine ⟨Bu,fun r hr'=>?_⟩
   have s2:=Same.upd (o:=.tup [.ref am,.ref pf]) hr'
   exact q r am pf _ (sm.trans s2) (SqT.of Ad) (s2 _ _ ef) (S1.same s2)
inductive Kd where
 | num | truth | any (n:Nat) | to (a b:Kd)
 deriving DecidableEq
inductive KdAt (K:Pk)(H:Hp):V->Kd->Prop where
 | num {a:Addr} (q:SqT K H a [.str "num"]):KdAt K H (.ref a) .num
 | truth {a:Addr} (q:SqT K H a [.str "truth"]):KdAt K H (.ref a) .truth
 | any {a:Addr} {n:Nat} (q:SqT K H a [.str "any",.int (n:Nat)]):KdAt K H (.ref a) (.any n)
 | to {a:Addr} {u v:V} {x y:Kd} (q:SqT K H a [.str "to",u,v]) (hx:KdAt K H u x) (hy:KdAt K H v y):KdAt K H (.ref a) (.to x y)
theorem KdAt.same {H H':Hp}{v:V}{k:Kd}(h:KdAt K H v k)(e:SameT H H'):KdAt K H' v k:=by
 induction h with
 | num q=>exact .num (e.tup q)
 | truth q=>exact .truth (e.tup q)
 | any q=>exact .any (e.tup q)
 | to q _ _ ih1 ih2=>exact .to (e.tup q) ih1 ih2
noncomputable abbrev Td:=Nat->Option Kd
noncomputable def Cb (td:Td)(i:Nat)(k:Kd):Td:=fun j=>if j=i then some k else td j
inductive Lasts (sh:Ai):List Nat->List Nat->Prop where
 | nil:Lasts sh [] []
 | cons {p r:Nat} {ps rs:List Nat} (h:Last sh p r) (t:Lasts sh ps rs):Lasts sh (p::ps) (r::rs)
theorem Lasts.at {sh:Ai}{ps rs:List Nat}(h:Lasts sh ps rs):ps.length=rs.length/\∀ j (h1:j < ps.length) (h2:j < rs.length),Last sh ps[j] rs[j]:=by
 induction h with
 | nil=>exact ⟨rfl,fun j h1=>absurd h1 (Tx _)⟩
 | cons h _ ih =>
  refine ⟨by rw [Py,Py,ih.1],fun j h1 h2=>?_⟩
  match j,h1,h2 with
  | 0,_,_=>exact h
  | j+1,h1,h2=>exact ih.2 j (by simpa using h1) (by simpa using h2)
inductive MkK (td:Td):Sh->List Nat->Kd->Prop where
 | num:MkK td .num [] .num
 | truth:MkK td .truth [] .truth
 | to {a b r s:Nat} {x y:Kd} (hx:td r=some x) (hy:td s=some y):MkK td (.to a b) [r,s] (.to x y)
noncomputable def Co (td:Td)(rs:List Nat):List Nat:=rs.filter fun r=>(td r).isNone
inductive ToldN (sh:Ai):Nat->Td->Nat->List Nat->Td->Prop where
 | nil {td:Td} {c:Nat}:ToldN sh 0 td c [] td
 | seen {n c x r:Nat} {td td':Td} {w rs:List Nat} {s:Sh} {k:Kd} (hl:Last sh x r) (hs:sh[r]?=some s) (hp:Lasts sh s.parts rs) (h:td r=some k) (t:ToldN sh n td c w td'):ToldN sh (n+1) td c (w++[x]) td'
 | miss {n c x r p:Nat} {td td':Td} {w rs q:List Nat} {s:Sh} (hl:Last sh x r) (hs:sh[r]?=some s) (hp:Lasts sh s.parts rs) (h:td r=none) (hm:Co td rs=p::q) (t:ToldN sh n td c (w++[x]++[p]) td'):ToldN sh (n+1) td c (w++[x]) td'
 | any {n c x r:Nat} {td td':Td} {w rs:List Nat} (hl:Last sh x r) (hs:sh[r]?=some .any) (hp:Lasts sh Sh.any.parts rs) (h:td r=none) (t:ToldN sh n (Cb td r (.any c)) (c+1) (w++[x]) td'):ToldN sh (n+1) td c (w++[x]) td'
 | mk {n c x r:Nat} {td td':Td} {w rs:List Nat} {s:Sh} {k:Kd} (hl:Last sh x r) (hs:sh[r]?=some s) (hp:Lasts sh s.parts rs) (h:td r=none) (hm:Co td rs=[]) (hk:MkK td s rs k) (t:ToldN sh n (Cb td r k) c (w++[x]) td'):ToldN sh (n+1) td c (w++[x]) td'
theorem ToldN.inv {sh:Ai}{n c:Nat}{td td':Td}{w:List Nat}(h:ToldN sh n td c w td'):(w=[]/\td'=td)\/∃ w1 x r s rs n',w=w1++[x]/\n=n'+1/\Last sh x r/\sh[r]?=some s/\Lasts sh s.parts rs /\
  ((∃ k,td r=some k/\ToldN sh n' td c w1 td')\/(∃ p q,td r=none/\Co td rs=p::q/\ToldN sh n' td c (w1++[x]++[p]) td')\/(td r=none/\Co td rs=[]/\s=.any/\ToldN sh n' (Cb td r (.any c)) (c+1) (w1++[x]) td')\/(∃ k,td r=none/\Co td rs=[]/\MkK td s rs k/\ToldN sh n' (Cb td r k) c (w1++[x]) td')):=by
 cases h with
 | nil=>exact .inl ⟨rfl,rfl⟩
 | seen hl hs hp h t=>exact .inr ⟨_,_,_,_,_,_,rfl,rfl,hl,hs,hp,.inl ⟨_,h,t⟩⟩
 | miss hl hs hp h hm t=>exact .inr ⟨_,_,_,_,_,_,rfl,rfl,hl,hs,hp,.inr (.inl ⟨_,_,h,hm,t⟩)⟩
 | any hl hs hp h t=>exact .inr ⟨_,_,_,_,_,_,rfl,rfl,hl,hs,hp,.inr (.inr (.inl ⟨h,by cases hp;rfl,rfl,t⟩))⟩
 | mk hl hs hp h hm hk t=>exact .inr ⟨_,_,_,_,_,_,rfl,rfl,hl,hs,hp,.inr (.inr (.inr ⟨_,h,hm,hk,t⟩))⟩
noncomputable def TdAt (K:Pk)(H:Hp)(kvs:List (Ap×V))(td:Td):Prop:=∀ i:Nat,(td i=none->Bo kvs (.inl ((i:Nat):Int))=none)/\∀ k,td i=some k->∃ v,Bo kvs (.inl ((i:Nat):Int))=some v/\KdAt K H v k
theorem TdAt.same {H H':Hp}{kvs:List (Ap×V)}{td:Td}(h:TdAt K H kvs td)(e:SameT H H'):TdAt K H' kvs td:=fun i=>⟨(h i).1,fun k hk=>let ⟨v,h1,h2⟩:=(h i).2 k hk;⟨v,h1,h2.same e⟩⟩
theorem TdAt.has {H:Hp}{kvs:List (Ap×V)}{td:Td}(h:TdAt K H kvs td)(i:Nat):(Bo kvs (.inl ((i:Nat):Int))).isSome=(td i).isSome:=by
 cases e:td i with
 | none=>rw [(h i).1 e];rfl
 | some k=>obtain ⟨v,h1,_⟩:=(h i).2 k e;rw [h1];rfl
theorem TdAt.put {H:Hp}{kvs:List (Ap×V)}{td:Td}{v:V}{k:Kd}(h:TdAt K H kvs td)(i:Nat)(hv:KdAt K H v k):TdAt K H (Bc kvs (.inl ((i:Nat):Int)) v) (Cb td i k):=fun j=>by
 rw [J2]
 by_cases hj:j=i
 ·have e1:Cb td i k j=some k:=if_pos hj
  rw [if_pos (by rw [hj]),e1]
  exact ⟨(fun e=>by cases e),fun k' e=>⟨v,rfl,by cases e;exact hv⟩⟩
 ·have e1:Cb td i k j=td j:=if_neg hj
  rw [if_neg fun z=>hj (Zgu z),e1]
  exact h j
theorem Zqv (td:Td)(rs:List Nat)(r:Nat):Co td (rs++[r])=Co td rs++if (td r).isNone=true then [r] else []:=by
 unfold Co
 rw [List.filter_append]
 cases e:(td r).isNone with
 | true=>rw [if_pos rfl,List.filter_cons_of_pos (by exact e)];rfl
 | false=>rw [if_neg (by decide),List.filter_cons_of_neg (by rw [e];decide)];rfl
theorem Znr {td:Td}{rs:List Nat}{r:Nat}(h:Co td rs=[])(hr:r∈rs):∃ k,td r=some k:=by
 cases e:td r with
 | some k=>exact ⟨k,rfl⟩
 | none =>
  have:r∈Co td rs:=Vo.mpr ⟨hr,by rw [e];rfl⟩
  rw [h] at this
  cases this
noncomputable def Zho (K:Pk):Sp:=fun vs H Q _=>∃(a b:Addr)(sh:Ai)(ws:List Nat)(ks:List Kd)(N:Nat)(td':Td),vs=[.ref a,.ref b]/\ShG K H a sh/\H b=some (.lst (Ak ws))/\ToldN sh N (fun _=>none) 0 ws.reverse td'/\N<=2000/\ws.length<=1000/\ks.length=ws.length/\(∀(j x:Nat)(k:Kd),ws[j]?=some x->ks[j]?=some k->∃ r,Last sh x r/\td' r=some k) /\
 ∀ c us H',Same H H'->H c=none->H' c=some (.lst us)->Al (KdAt K H') us ks->Q (.ref c) H'
structure ToJ (K:Pk)(H:Hp)(pd pw:Addr)(M n:Nat)(td:Td)(w:List Nat)(H':Hp):Prop where
 ed:∃ kvs,H' pd=some (.dK kvs)/\TdAt K H' kvs td/\kvs.length+n<=M
 ew:H' pw=some (.lst (Ak w))
 wl:w.length+n<=M
 sm:Same H H'
theorem dk_t {H:Hp}{S:Addr}{kv:List (Ap×V)}{o2:HO}(h:H S=some (.dK kv)):SameT H (upd H S o2):=fun b =>
 ⟨fun xs e=>by rw [Ag (Fg e h (by intro z;cases z))];exact e,fun o' u e=>by rw [Ag (Fg e h (by intro z;cases z))];exact e⟩
theorem Zj3:(["part", "shapes"]:List Str).Nodup:=by decide +kernel
theorem Zrx:(["part", "told"]:List Str).Nodup:=by decide +kernel
theorem Zo2:(["part", "told"]:List Str).Nodup:=by decide +kernel
theorem Zjp:(["kind", "told", "shapes"]:List Str).Nodup:=by decide +kernel
theorem sc_kinds_told:Bf ["shapes", "wanted", "told", "many_unknown", "waiting", "kind", "parts", "missing"] ["shapes", "wanted"] (A0 K5):=by walk_at "sc"
theorem Zqk {f:Addr}{fd:FuncData}(F:Fun K "kinds_told" "kinds_told" K5 f fd)(T:Txt K mg)(C_last_same:Ba P w K mg base 1 "last_same" ["shapes", "kind"] (Lq K)):As P w K mg base Az 2 f fd ["shapes", "wanted"] (Zho K):=by
 refine F.okq sc_kinds_told (fun vs H Q E h=>?_) (fun cdv A outer s H vs Q E hr h=>?_)
 ·obtain ⟨a,b,sh,ws,ks,N,td',rfl,_⟩:=h
  rfl
 ·obtain ⟨a,b,sh,ws,ks,N,td',rfl,S,eb,hT,hN,hl,lk,hks,q⟩:=h
  refine ⟨_,Ae (Zbe (i:=2) sc_kinds_told.nd rfl (Or.inr rfl) (Zbq))
   (Ae (Aq 3 sc_kinds_told Ah)
   (Ae (Aq 4 sc_kinds_told (Zow K (by rfl) T.list (by rfl) T.reversed (Aa (qv 1) Ab)))
   (Ae (Jd Qf (Gz K (qv 4) (by intro _;rfl)) (Ae (Aq 5 sc_kinds_told (Ay C_last_same hr.m (Aa (qv 0) (Aa (Ao K (qv 4) (Fo F3 Ah)) Ab))))
   (Ae (N0 (i:=6) (N:=["part", "shapes"]) (σ0:=C7 1 [0]) rfl (E2 rfl (by decide +kernel) (by decide +kernel) (by decide +kernel)) (C0 K (Gh (Mq K) (Ao K (qv 0) (qv 5)) (Gn Ah) (Gw))) (Ew rfl (by rfl)) (fun _ _ _ _=>Ax (i:=0) Zj3 rfl (Or.inl rfl)) (fun _ _ _ _=>Ge) (fun _ _ _ _=>Ay C_last_same hr.m (Aa (qv 1) (Aa (qv 0) Ab))) sc_kinds_told.nd rfl (Or.inl rfl))
   (Ae (N0 (i:=7) (N:=["part", "told"]) (σ0:=C7 1 [2]) rfl (E2 rfl (by decide +kernel) (by decide +kernel) (by decide +kernel)) (C0 K (qv 6)) (Ew rfl (by rfl)) (fun _ _ _ _=>Ax (i:=0) Zrx rfl (Or.inl rfl)) (fun _ _ _ _=>Ot (Gj (Zn2 hr.u1 (qv 0) (qv 1)))) (fun _ _ _ _=>qv 0) sc_kinds_told.nd rfl (Or.inl rfl))
   (Af (Au (Gj (Zhk hr.u1 (qv 5) (qv 2))) (Af (Cm (Mh K Qp U8 U9 Md (qv 4)))) (Af (Au (Gz K (qv 7) (by intro _;rfl)) (Af (Cm (Dk K Qp Q9 Ra D4 (qv 4) (Aa (Ao K (qv 7) Ah) Ab)))) (Af (Au (A8 (Bg K hr.u200) (Ao K (Ao K (qv 0) (qv 5)) Ah) Av (A1 _)) (Ae (Ho hr.u1 (qv 2) (qv 5) (Ar (Aa Av (Aa (qv 3) Ab))))
   (Af (Zrb (i:=3) sc_kinds_told.nd rfl (Or.inl rfl) Ah Zks))) (Af (Ho hr.u1 (qv 2) (qv 5) (A7 (Cu K) (Ar (Aa (Ao K (Ao K (qv 0) (qv 5)) Ah) Ab)) (Ep (Zt0 K) (by rfl) T.tuple (by decide +kernel) (Aa (Gb (N:=["part", "told"]) (σ0:=C7 1 [2]) rfl (E2 rfl (by decide +kernel) (by decide +kernel) (by decide +kernel)) (C0 K (qv 6)) (Ew rfl (by rfl)) (fun _ _ _ _=>Ax (i:=0) Zo2 rfl (Or.inl rfl)) (fun _ _ _ _=>Ge) (fun _ _ _ _=>Ir hr.u1 (qv 1) (qv 0) (fun _ _=>rfl))) Ab)))))))))))))))
   (Af (Am (Gb (N:=["kind", "told", "shapes"]) (σ0:=C7 1 [2,0]) rfl (E2 rfl (by decide +kernel) (by decide +kernel) (by decide +kernel)) (C0 K (qv 1)) (Ew rfl (by rfl)) (fun _ _ _ _=>Ax (i:=0) Zjp rfl (Or.inl rfl)) (fun _ _ _ _=>Ge) (fun _ _ _ _=>Ir hr.u1 (qv 1) (Ay C_last_same hr.m (Aa (qv 2) (Aa (qv 0) Ab))) (fun _ _=>rfl)))))))),?_⟩
  have bg:=big
  walk_at "r"
  refine fun pd hpd=>?_
  have s1:=Same.upd (o:=.dK []) hpd
  walk_at "r"
  refine ⟨b,Ak ws,rfl,SqL.of (s1 _ _ eb),fun pw H2 hpw s2 ew=>?_⟩
  have nd:pd≠pw:=A5 Ad hpw
  have hpw0:H pw=none:=s1.free hpw
  have ew:H2 pw=some (.lst (Ak ws.reverse)):=by rw [ew];unfold Ak;rw [List.map_reverse]
  walk_at "r"
  refine ⟨fun n σ' H'=>∃ v5 v6 v7 td w,∃ c:Nat,σ'=[some (.ref a),some (.ref b),some (.ref pd),some (.int (c:Nat)),some (.ref pw),v5,v6,v7]/\ToJ K H pd pw (N+ws.length) n td w H'/\ToldN sh n td c w td',
   ⟨N,none,none,none,fun _=>none,ws.reverse,0,rfl,⟨⟨[],s2 _ _ Ad,fun i=>⟨fun _=>rfl,fun k e=>by cases e⟩,by simp⟩,ew,by rw [Ve];omega,s1.trans s2⟩,hT⟩,?_⟩
  rintro n σ' H3 ⟨v5,v6,v7,td,w0,c,rfl,J,hh⟩
  obtain ⟨kvs,ed,tda,kl⟩:=J.ed
  have wl:=J.wl
  walk_at "r"
  refine Ht (SqL.of J.ew) ?_
  rcases hh.inv with ⟨rfl,rfl⟩ | ⟨w1,x,r,sp,rs,n,rfl,rfl,hL,hs,hp,hc⟩
  ·refine iteF ?_
   walk_at "r"
   refine .inl ⟨b,rfl,⟨_,SqL.of (J.sm _ _ eb)⟩,fun D hD=>?_⟩
   have hD0:H D=none:=J.sm.free hD
   have nDd:D≠pd:=(A5 ed hD).symm
   refine Hv (K:=K) (a:=b) (xs:=Ak ws) (Pv:=fun i ys σ' H'=>∃ x0,σ'=[x0,some (.ref pd),some (.ref a)]/\H' pd=some (.dK kvs)/\Al (KdAt K H') ys (ks.take i)/\TdAt K H' kvs td'/\Same H H') ⟨none,rfl,by rw [Ag nDd.symm];exact ed,.nil,tda.same (SameT.new hD),J.sm.put hD⟩ ?_ ?_ ?_
   ·rintro i ys σ' H' _ ⟨_,_,_,_,_,sm⟩
    exact SqL.of (sm _ _ eb)
   ·rintro i x ys σ' H' hx hys ⟨x0,rfl,ed,aly,td,sm⟩
    have hi:i < ws.length:=by have:=(Pt.mp hx).1;unfold Ak at this;rwa [Pw] at this
    have hik:i < ks.length:=by omega
    have hx':x=.int (ws[i]:Nat):=by unfold Ak at hx;rw [Qj,Pn hi] at hx;exact (P8 hx).symm
    subst hx'
    obtain ⟨r,hr1,hr2⟩:=hks i _ _ (Pn hi) (Pn hik)
    obtain ⟨v,hv,kv⟩:=(td r).2 _ hr2
    walk_at "r"
    refine ⟨a,sh,ws[i],r,rfl,S.same sm,hr1,?_⟩
    refine ⟨pd,v,rfl,by rw [<- hv];exact DGet.k (k:=.inl ((r:Nat):Int)) ed,?_⟩
    have t6:SameT H' (upd H' D (.lst (ys++[v]))):=SameT.set hys
    refine ⟨ys,hys,by rw [aly.1,Qb];omega,_,Ad,_,rfl,by rw [Ag nDd.symm];exact ed,?_,td.same t6,sm.over hD0⟩
    rw [Re,Pn hik]
    exact (aly.mono fun _ _ h=>h.same t6).snoc (kv.same t6)
   ·rintro ys σ' H' hys ⟨x0,rfl,ed,aly,td,sm⟩
    have e2:(Ak ws).length=ks.length:=by unfold Ak;rw [Pw,lk]
    rw [e2,Q3] at aly
    exact q D ys H' sm hD0 hys aly
  have ew3:=J.ew
  rw [Px,Qm] at wl
  have erv:Ak (w1++[x])=Ak w1++[.int (x:Nat)]:=by rw [Gp];rfl
  rw [erv] at ew3 ⊢
  rw [show (!(Ak w1++[V.int ((x:Nat):Int)]).isEmpty)=true by simp]
  refine iteT ?_
  refine ⟨fun σ2 H2=>∃ m',m' < n+1/\∃ v5 v6 v7 td w,∃ c:Nat,σ2=[some (.ref a),some (.ref b),some (.ref pd),some (.int (c:Nat)),some (.ref pw),v5,v6,v7]/\ToJ K H pd pw (N+ws.length) m' td w H2/\ToldN sh m' td c w td',fun _ _ h=>h,?_⟩
  walk_at "r"
  refine Bl (SqL.of ew3) (Gx _ _) ?_
  walk_at "r"
  refine ⟨a,sh,x,r,rfl,S.same J.sm,hL,?_⟩
  walk_at "r"
  obtain ⟨us,p,e,eu,qp⟩:=(S.same J.sm).at hs
  refine Bl (SqL.of e) eu ?_
  walk_at "r"
  refine .inr (.inr ⟨p,_,rfl,qp,M9,fun p3 h3=>?_⟩)
  rw [M0]
  have s4:=Same.upd (o:=.tup (Ak sp.parts)) h3
  obtain ⟨lp,hpa⟩:=hp.at
  have hpl:=Zao sp
  refine .inr (.inl ⟨p3,rfl,⟨_,SqT.of Ad⟩,fun D hD=>?_⟩)
  refine Zja (K:=K) (a:=p3) (xs:=Ak sp.parts) (Pv:=fun i ys σ' H'=>∃ x0,σ'=[x0,some (.ref a)]/\ys=Ak (rs.take i)/\H' p3=some (.tup (Ak sp.parts))/\Same H3 H') ⟨none,rfl,rfl,(Same.upd hD) _ _ Ad,s4.put hD⟩ ?_ ?_ ?_
  ·rintro i ys σ' H' _ ⟨_,_,_,e,_⟩
   exact SqT.of e
  ·rintro i x ys σ' H' hx hys ⟨x0,rfl,rfl,ep3,sm⟩
   have hi:i < sp.parts.length:=by have:=(Pt.mp hx).1;unfold Ak at this;rwa [Pw] at this
   have hir:i < rs.length:=by omega
   have hx':x=.int (sp.parts[i]:Nat):=by unfold Ak at hx;rw [Qj,Pn hi] at hx;exact (P8 hx).symm
   subst hx'
   walk_at "r"
   refine ⟨a,sh,sp.parts[i],rs[i],rfl,S.same (J.sm.trans sm),hpa i hi hir,?_⟩
   refine ⟨_,hys,by unfold Ak;rw [Pw,Qb];omega,_,Ad,_,rfl,?_,by rw [Ag (Zg6 hys ep3)];exact ep3,sm.over (s4.free hD)⟩
   rw [Re,Pn hir,Gp]
   rfl
  ·rintro ys σ' H5 hys ⟨x0,rfl,rfl,ep3,sm5⟩
   have e2:(Ak sp.parts).length=rs.length:=by unfold Ak;rw [Pw,lp]
   rw [e2,Q3] at hys
   walk_at "r"
   have ed5:=sm5 _ _ ed
   have tda5:=tda.same sm5.t
   refine .inl ⟨D,rfl,⟨_,SqL.of hys⟩,fun D2 hD2=>?_⟩
   have nD2:D2≠D:=(A5 hys hD2).symm
   have nD2d:D2≠pd:=(A5 ed5 hD2).symm
   refine Hv (K:=K) (a:=D) (xs:=Ak rs) (Pv:=fun i ys σ' H'=>∃ x0,σ'=[x0,some (.ref pd)]/\ys=Ak (Co td (rs.take i))/\H' D=some (.lst (Ak rs))/\H' pd=some (.dK kvs)/\Same H5 H') ⟨none,rfl,rfl,by rw [Ag nD2.symm];exact hys,by rw [Ag nD2d.symm];exact ed5,Same.upd hD2⟩ ?_ ?_ ?_
   ·rintro i ys σ' H' _ ⟨_,_,_,e,_⟩
    exact SqL.of e
   ·rintro i x ys σ' H' hx hys2 ⟨x0,rfl,rfl,eD,edd,sm⟩
    have hir:i < rs.length:=by have:=(Pt.mp hx).1;unfold Ak at this;rwa [Pw] at this
    have hx':x=.int (rs[i]:Nat):=by unfold Ak at hx;rw [Qj,Pn hir] at hx;exact (P8 hx).symm
    subst hx'
    have hml:(Co td (rs.take i)).length<=rs.length:=Qr (Wh _ _) (by rw [Qb];omega)
    have hms:=Zqv td (rs.take i) rs[i]
    rw [show rs.take i++[rs[i]]=rs.take (i+1) by rw [Re,Pn hir];rfl] at hms
    walk_at "r"
    refine ⟨pd,_,rfl,DGet.k (k:=.inl ((rs[i]:Nat):Int)) edd,?_⟩
    rw [tda.has rs[i]]
    cases et:td rs[i] with
    | some k =>
     rw [et] at hms
     have hms:Co td (rs.take (i+1))=Co td (rs.take i):=by rw [hms];exact Qx _
     refine ⟨false,rfl,?_⟩
     refine iteF ?_
     exact ⟨_,hys2,_,rfl,by rw [hms],eD,edd,sm⟩
    | none =>
     rw [et] at hms
     have hms:Co td (rs.take (i+1))=Co td (rs.take i)++[rs[i]]:=hms
     refine ⟨true,rfl,?_⟩
     refine iteT ?_
     walk_at "r"
     refine ⟨_,hys2,by unfold Ak;rw [Pw];omega,_,Ad,_,rfl,by rw [hms,Gp];rfl,by rw [Ag nD2.symm];exact eD,by rw [Ag nD2d.symm];exact edd,sm.over hD2⟩
   ·rintro ys σ' H6 hys2 ⟨x0,rfl,rfl,eD,edd,sm6⟩
    have e3:(Ak rs).length=rs.length:=by unfold Ak;exact Pw ..
    rw [e3,Q3] at hys2
    have s36:Same H3 H6:=sm5.trans sm6
    have tda6:=tda.same s36.t
    have ew6:=s36 _ _ ew3
    have e6:=s36 _ _ e
    have qp6:=s36.tup qp
    walk_at "r"
    refine ⟨pd,_,rfl,DGet.k (k:=.inl ((r:Nat):Int)) edd,?_⟩
    rw [tda.has r]
    rcases hc with ⟨k,hk,t⟩ | ⟨p',q',hk,hm,t⟩ | ⟨hk,hm,rfl,t⟩ | ⟨k,hk,hm,hmk,t⟩
    ·rw [hk]
     refine ⟨true,rfl,?_⟩
     walk_at "r"
     refine Cf (SqL.of ew6) ?_
     refine Lz ew6 ?_
     exact ⟨n,by omega,_,_,_,td,w1,c,rfl,⟨⟨kvs,by rw [Ag nd];exact edd,tda6.same (SameT.set ew6),by omega⟩,Ad,by omega,(J.sm.trans s36).over hpw0⟩,t⟩
    ·rw [hk]
     rw [hm] at hys2
     refine ⟨false,rfl,?_⟩
     walk_at "r"
     refine Ht (SqL.of hys2) ?_
     refine iteT ?_
     walk_at "r"
     refine Cf (SqL.of ew6) ?_
     walk_at "r"
     refine Bl (SqL.of hys2) D6 ?_
     walk_at "r"
     have hwl:(Ak w1++[V.int ((x:Nat):Int)]).length < sizeLine:=by unfold Ak;rw [Px,Pw,Qm];omega
     refine Dd ew6 hwl ?_
     exact ⟨n,by omega,_,_,_,td,w1++[x]++[p'],c,rfl,⟨⟨kvs,by rw [Ag nd];exact edd,tda6.same (SameT.set ew6),by omega⟩,by rw [Ad,Gp,Gp];rfl,by simp;omega,(J.sm.trans s36).over hpw0⟩,t⟩
    ·rw [hk]
     rw [hm] at hys2
     refine ⟨false,rfl,?_⟩
     walk_at "r"
     refine Ht (SqL.of hys2) ?_
     refine iteF ?_
     walk_at "r"
     refine Bl (SqL.of e6) eu ?_
     walk_at "r"
     refine A4 qp6 D6 ?_
     walk_at "r"
     rw [Jj,decide_eq_true (Eq.refl Sh.any)]
     walk_at "r"
     refine ⟨Bu,fun p8 h8=>?_⟩
     have s8:=Same.upd (o:=.tup [.str "any",.int (c:Nat)]) h8
     walk_at "r"
     refine ⟨pd,_,rfl,DPut.k (k:=.inl ((r:Nat):Int)) (s8 _ _ edd) (by omega),?_⟩
     have t9:=dk_t (o2:=.dK (Bc kvs (.inl ((r:Nat):Int)) (.ref p8))) (s8 _ _ edd)
     have hl9:=Ed kvs (.inl ((r:Nat):Int)) (.ref p8)
     walk_at "r"
     have ec:((c:Nat):Int)+1=((c+1:Nat):Int):=by omega
     rw [ec]
     exact ⟨n,by omega,_,_,_,Cb td r (.any c),w1++[x],c+1,rfl,⟨⟨_,Ad,((tda6.same s8.t).same t9).put r (.any (t9.tup (SqT.of Ad))),by omega⟩,by rw [Ag nd.symm,erv];exact s8 _ _ ew6,by simp;omega,((J.sm.trans s36).trans s8).over hpd⟩,t⟩
    ·rw [hk]
     rw [hm] at hys2
     have hna:sp≠.any:=by cases hmk <;> exact fun z=>by cases z
     refine ⟨false,rfl,?_⟩
     walk_at "r"
     refine Ht (SqL.of hys2) ?_
     refine iteF ?_
     walk_at "r"
     refine Bl (SqL.of e6) eu ?_
     walk_at "r"
     refine A4 qp6 D6 ?_
     walk_at "r"
     rw [Jj,decide_eq_false hna]
     walk_at "r"
     refine Bl (SqL.of e6) eu ?_
     walk_at "r"
     refine A4 qp6 D6 ?_
     walk_at "r"
     refine ⟨B5,fun p8 h8=>?_⟩
     have s8:=Same.upd (o:=.tup [.str sp.wd]) h8
     walk_at "r"
     refine .inl ⟨D,rfl,⟨_,SqL.of (s8 _ _ eD)⟩,fun D9 h9=>?_⟩
     have eD8:=s8 _ _ eD
     have nD9:D9≠D:=(A5 eD8 h9).symm
     have nD9d:D9≠pd:=(A5 (s8 _ _ edd) h9).symm
     refine Hv (K:=K) (a:=D) (xs:=Ak rs) (Pv:=fun i ys σ' H'=>∃ x0,σ'=[x0,some (.ref pd)]/\H' D=some (.lst (Ak rs))/\H' pd=some (.dK kvs)/\TdAt K H' kvs td/\Al (fun v i=>∃ k,td i=some k/\KdAt K H' v k) ys (rs.take i)/\Same (upd H6 p8 (.tup [.str sp.wd])) H') ⟨none,rfl,by rw [Ag nD9.symm];exact eD8,by rw [Ag nD9d.symm];exact s8 _ _ edd,(tda6.same s8.t).same (SameT.new h9),.nil,Same.upd h9⟩ ?_ ?_ ?_
     ·rintro i ys σ' H' _ ⟨_,_,e,_⟩
      exact SqL.of e
     ·rintro i x ys σ' H' hx hys3 ⟨x0,rfl,eD',edd',tda',aly,sm⟩
      have hir:i < rs.length:=by have:=(Pt.mp hx).1;unfold Ak at this;rwa [Pw] at this
      have hx':x=.int (rs[i]:Nat):=by unfold Ak at hx;rw [Qj,Pn hir] at hx;exact (P8 hx).symm
      subst hx'
      obtain ⟨k1,hk1⟩:=Znr hm (Ue hir)
      obtain ⟨v,hv,kv⟩:=(tda' rs[i]).2 k1 hk1
      walk_at "r"
      refine ⟨pd,v,rfl,by rw [<- hv];exact DGet.k (k:=.inl ((rs[i]:Nat):Int)) edd',?_⟩
      have t6:SameT H' (upd H' D9 (.lst (ys++[v]))):=SameT.set hys3
      refine ⟨ys,hys3,by rw [aly.1,Qb];omega,_,Ad,_,rfl,by rw [Ag nD9.symm];exact eD',by rw [Ag nD9d.symm];exact edd',tda'.same t6,?_,sm.over h9⟩
      rw [Re,Pn hir]
      exact (aly.mono fun _ _ ⟨k,h1,h2⟩=>⟨k,h1,h2.same t6⟩).snoc ⟨k1,hk1,kv.same t6⟩
     ·rintro zs σ' H' hys3 ⟨x0,rfl,eD',edd',tda',aly,sm⟩
      rw [e3,Q3] at aly
      walk_at "r"
      refine Zq1 (SqL.of hys3) fun pa ha=>?_
      have sa:=Same.upd (o:=.tup zs) ha
      have hzl:zs.length<=2:=by rw [aly.1];omega
      refine Zbp ((sm.trans sa).tup (SqT.of Ad)) (SqT.of Ad) (by show 1+zs.length<=sizeLine;omega) fun r9 Hb sb qr=>?_
      have sB:Same H' Hb:=sa.trans sb
      have sAll:Same H3 Hb:=s36.trans ((s8.trans sm).trans sB)
      walk_at "r"
      refine ⟨pd,_,rfl,DPut.k (k:=.inl ((r:Nat):Int)) (sB _ _ edd') (by omega),?_⟩
      have tP:=dk_t (o2:=.dK (Bc kvs (.inl ((r:Nat):Int)) (.ref r9))) (sB _ _ edd')
      have hl9:=Ed kvs (.inl ((r:Nat):Int)) (.ref r9)
      have kr:KdAt K Hb (.ref r9) k:=by
       have aly':=aly.mono fun v i (h:∃ k,td i=some k/\KdAt K H' v k)=>(show ∃ k,td i=some k/\KdAt K Hb v k from let ⟨k,h1,h2⟩:=h;⟨k,h1,h2.same sB.t⟩)
       cases hmk with
       | num =>
        have:zs=[]:=Rr aly.1
        subst this
        exact .num qr
       | truth =>
        have:zs=[]:=Rr aly.1
        subst this
        exact .truth qr
       | @to _ _ r1 r2 x1 y1 hx1 hy1 =>
        obtain ⟨u,v,rfl⟩:=lz2 (vs:=zs) aly'.1
        obtain ⟨k1,h1,h2⟩:=aly'.2 0 u r1 rfl rfl
        obtain ⟨k2,h3,h4⟩:=aly'.2 1 v r2 rfl rfl
        rw [hx1] at h1
        rw [hy1] at h3
        cases h1
        cases h3
        exact .to qr h2 h4
      exact ⟨n,by omega,_,_,_,Cb td r k,w1++[x],c,rfl,⟨⟨_,Ad,((tda'.same sB.t).same tP).put r (kr.same tP),by omega⟩,by rw [Ag nd.symm,erv];exact sAll _ _ ew3,by simp;omega,(J.sm.trans sAll).over hpd⟩,t⟩
noncomputable def Ob (K:Pk):Sp:=fun vs H Q _=>∃(v:V)(t:Tr),vs=[v]/\TrAt K H v t/\t.size<=2000/\∀(p:Addr)(rows:List V)(H':Hp),Same H H'->H p=none->H' p=some (.lst rows)->Al (RowT K H') rows (walk [] t)->Q (.ref p) H'
theorem sc_placed_forms:Bf ["tree", "told", "waiting", "pair", "number", "part"] ["tree"] (A0 K2):=by walk_at "sc"
noncomputable def PlJ (K:Pk)(H:Hp)(v:V)(t:Tr)(pt pw:Addr)(m:Nat)(σ:St)(H':Hp):Prop:=∃(v3 v4 v5:Option V)(tv wv:List V)(dn st:List (List Nat×Tr)),σ=[some v,some (.ref pt),some (.ref pw),v3,v4,v5]/\H' pt=some (.lst tv)/\H' pw=some (.lst wv) /\
 Al (RowT K H') tv dn/\Al (RowT K H') wv st/\dn++Gr st=walk [] t/\m=E8 st/\Same H H'
theorem Zjg {f:Addr}{fd:FuncData}(F:Fun K "placed_forms" "placed_forms" K2 f fd)(T:Txt K mg):As P w K mg base Az 1 f fd ["tree"] (Ob K):=by
 refine F.okq sc_placed_forms (fun vs H Q E h=>?_) (fun cdv A outer s H vs Q E hr h=>?_)
 ·obtain ⟨v,t,rfl,_⟩:=h
  rfl
 ·obtain ⟨v,t,rfl,ht,hz,q⟩:=h
  refine ⟨_,Ae (Aq 1 sc_placed_forms (Bh Ab))
   (Ae (Aq 2 sc_placed_forms (Bh (Aa (Ar (Aa (Ar Ab) (Aa (qv 0) Ab))) Ab)))
   (Ae (Jd Qf (Gz K (qv 2) (by intro _;rfl)) (Ae (Aq 3 sc_placed_forms (Mh K Qp U8 U9 Md (qv 2)))
   (Ae (Cm (Dk K Qp Q9 Ra D4 (qv 1) (Aa (qv 3) Ab)))
   (Af (Cg Qf rfl (Nj K rfl T.reversed (Aa (Zqu K (by rfl) T.list (by rfl) T.enumerate (Aa (Ao K (Ao K (qv 3) Ah) Ah) Ab)) Ab)) (Cv K (n:=2) rfl (Bk (Ax (i:=4) sc_placed_forms.nd rfl (Or.inl rfl)) (Bk (Ax (i:=5) sc_placed_forms.nd rfl (Or.inl rfl)) (Cw)))) (Af (Cm (Dk K Qp Q9 Ra D4 (qv 2) (Aa (Ar (Aa (A7 (Zdw K) (Ao K (qv 3) Ah) (Ar (Aa (qv 4) Ab))) (Aa (qv 5) Ab))) Ab)))))))))
   (Af (Am (qv 1))))),?_⟩
  have bg:=big
  walk_at "r"
  refine ⟨Bs,fun pt hpt=>?_⟩
  walk_at "r"
  refine ⟨Bs,fun p0 hp0=>?_⟩
  walk_at "r"
  refine ⟨Bu,fun p1 hp1=>?_⟩
  walk_at "r"
  refine ⟨B5,fun pw hpw=>?_⟩
  walk_at "r"
  have s0:Same (upd H pt (.lst [])) _:=((Same.upd (o:=.tup []) hp0).put (o:=.tup [.ref p0,v]) hp1).put (o:=.lst [.ref p1]) hpw
  have s1:Same (upd (upd H pt (.lst [])) p0 (.tup [])) _:=(Same.upd (o:=.tup [.ref p0,v]) hp1).put (o:=.lst [.ref p1]) hpw
  have s2:=Same.upd (o:=.lst [.ref p1]) hpw
  have sH:=(Same.upd (o:=.lst []) hpt).trans s0
  have ept:=s0 pt _ Ad
  have epw:upd (upd (upd (upd H pt (.lst [])) p0 (.tup [])) p1 (.tup [.ref p0,v])) pw (.lst [.ref p1]) pw=some (.lst [.ref p1]):=Ad
  have ep0:=s1 p0 _ Ad
  have ep1:=s2 p1 _ Ad
  have npw:pt≠pw:=fun z=>by rw [z] at ept;rw [Ad] at ept;cases ept
  have hpw0:H pw=none:=((Same.upd (o:=.lst []) hpt).trans ((Same.upd (o:=.tup []) hp0).put (o:=.tup [.ref p0,v]) hp1)).free hpw
  refine ⟨PlJ K H v t pt pw,⟨_,none,none,none,[],[.ref p1],[],[([],t)],rfl,ept,epw,.nil,Al.nil.snoc ⟨p1,p0,v,rfl,SqT.of ep1,ep0,ht.same sH⟩,by simp [Gr],rfl,sH⟩,?_⟩
  rintro m σ' H' ⟨v3,v4,v5,tv,wv,dn,st,rfl,et,ew,al1,al2,hw,rfl,sm⟩
  have hdl:dn.length+E8 st=t.size:=by
   have:=congrArg V9 hw
   rw [Px,Fb] at this
   exact this
  have htl:tv.length=dn.length:=al1.1
  walk_at "r"
  refine Ht (SqL.of ew) ?_
  by_cases hwv:wv=[]
  ·subst hwv
   have hst:st=[]:=Rr al2.1.symm
   subst hst
   refine iteF ?_
   walk_at "r"
   rw [Zsv,Qx] at hw
   rw [hw] at al1
   exact q pt tv H' sm hpt et al1
  obtain ⟨wv',tp,st',x,rfl,rfl,al3,hrow⟩:=al2.last hwv
  have hne:(!(wv'++[tp]).isEmpty)=true:=by simp
  rw [hne]
  refine iteT ?_
  obtain ⟨pl,tx⟩:=x
  have hx:(pl,tx)∈walk [] t:=by rw [<- hw,Pc];simp
  have hpl:pl.length<=2000:=by have:=Kf [] t _ hx;simp at this;omega
  have hload:=Zjv st' (pl,tx)
  have hll:=Zlm (st'++(B6 pl 0 tx.ps).reverse)
  refine ⟨fun σ2 H2=>∃ m',m' < E8 (st'++[(pl,tx)])/\PlJ K H v t pt pw m' σ2 H2,fun _ _ h=>h,?_⟩
  walk_at "r"
  refine Cf (SqL.of ew) ?_
  refine Lz ew ?_
  have t1:SameT H' (upd H' pw (.lst wv')):=SameT.set ew
  have et2:upd H' pw (.lst wv') pt=some (.lst tv):=by rw [Ag npw];exact et
  walk_at "r"
  refine Cf (SqL.of et2) ?_
  walk_at "r"
  refine Dd et2 (by omega) ?_
  have t2:SameT H' (upd (upd H' pw (.lst wv')) pt (.lst (tv++[tp]))):=t1.trans (SameT.set et2)
  have et3:upd (upd H' pw (.lst wv')) pt (.lst (tv++[tp])) pt=some (.lst (tv++[tp])):=Ad
  have ew3:upd (upd H' pw (.lst wv')) pt (.lst (tv++[tp])) pw=some (.lst wv'):=by rw [Ag npw.symm,Ad]
  have sm3:Same H (upd (upd H' pw (.lst wv')) pt (.lst (tv++[tp]))):=(sm.over hpw0).over hpt
  revert t2 et3 ew3 sm3
  generalize upd (upd H' pw (.lst wv')) pt (.lst (tv++[tp]))=H3
  intro t2 et3 ew3 sm3
  have hrow3:=RowT.same t2 _ _ hrow
  obtain ⟨a,p,u,rfl,qa,qp,hu⟩:=id hrow3
  cases hu with
  | @mk b pp wd nv n vs ts qb hn qpp hl hch =>
  walk_at "r"
  refine A4 qa rfl ?_
  walk_at "r"
  refine A4 qb rfl ?_
  walk_at "r"
  refine ⟨pp,vs,rfl,qpp,fun S ys H4 hS s4 hl4 hpairs hS4=>?_⟩
  walk_at "r"
  refine ⟨S,ys,rfl,SqL.of hS4,?_⟩
  have nSp:pw≠S:=A5 ew3 hS
  have nSt:pt≠S:=A5 et3 hS
  have al4:Al (RowT K H4) wv' st':=al3.mono (RowT.same (t2.trans s4.t))
  have hkl:(B6 pl 0 ts).length=ys.length:=by rw [Zcm];omega
  refine Zb5 (K:=K) (a:=S) (xs:=ys) (fun j σ5 H5=>∃(v4 v5:Option V)(wv5:List V),σ5=[some v,some (.ref pt),some (.ref pw),some (.ref a),v4,v5]/\H5 pt=some (.lst (tv++[.ref a]))/\H5 pw=some (.lst wv5)/\H5 S=some (.lst ys)/\Al (RowT K H5) wv5 (st'++((B6 pl 0 ts).drop (ys.length - j)).reverse)/\SameT H4 H5/\Same H H5)
   ⟨_,_,wv',rfl,s4 _ _ et3,s4 _ _ ew3,hS4,by rw [V4,Si (by omega)];simpa using al4,SameT.refl _,sm3.trans s4⟩ ?_ ?_ ?_
  ·rintro j σ5 H5 _ ⟨_,_,_,_,_,_,e,_⟩
   exact SqL.of e
  ·rintro i y σ5 H5 hi hy ⟨v4',v5',wv5,rfl,e5t,e5w,e5s,al5,t5,sm5⟩
   obtain ⟨tt,xw,rfl,hxw,htt⟩:=hpairs _ _ hy
   have htt5:=(t5 tt).1 _ htt
   walk_at "r"
   refine Da (SqT.of htt5) rfl ?_
   walk_at "r"
   refine Cf (SqL.of e5w) ?_
   walk_at "r"
   have T5:SameT H3 H5:=s4.t.trans t5
   refine A4 (T5.tup qa) rfl ?_
   walk_at "r"
   refine ⟨B5,fun p6 h6=>?_⟩
   refine Ziw (((T5.trans (SameT.new h6)) p).1 _ qp) Ad (by show (Bj pl).length+1<=sizeLine;unfold Bj;rw [Pw];omega) fun r H7 s7 q7=>?_
   walk_at "r"
   refine ⟨Bu,fun p7 h7=>?_⟩
   walk_at "r"
   have s57:Same H5 H7:=(Same.upd h6).trans s7
   have s58:=s57.put (o:=.tup [.ref r,xw]) h7
   have hlw:wv5.length=st'.length+((B6 pl 0 ts).drop (ys.length - i)).length:=by have:=al5.1;simp at this ⊢;omega
   have hlk:(st'++(B6 pl 0 ts).reverse).length=st'.length+ys.length:=by rw [Px,Ve,hkl]
   have hll':(st'++(B6 pl 0 ts).reverse).length<=2000:=by
    have h1:E8 (st'++(B6 pl 0 (Tr.mk wd n ts).ps).reverse) < E8 (st'++[(pl,Tr.mk wd n ts)]):=hload
    have h2:(st'++(B6 pl 0 (Tr.mk wd n ts).ps).reverse).length<=E8 (st'++(B6 pl 0 (Tr.mk wd n ts).ps).reverse):=hll
    have h3:(Tr.mk wd n ts).ps=ts:=rfl
    rw [h3] at h1 h2
    omega
   have hdr:((B6 pl 0 ts).drop (ys.length - i)).length<=ys.length:=by rw [Uc];omega
   refine Dd (s58 _ _ e5w) (by omega) ?_
   have e8w:=s58 _ _ e5w
   have t9:SameT H5 (upd (upd H7 p7 (.tup [.ref r,xw])) pw (.lst (wv5++[.ref p7]))):=s58.t.trans (SameT.set e8w)
   obtain ⟨tk,htk,hat⟩:∃ tk,ts[ys.length - 1 - i]?=some tk/\TrAt K H3 xw tk:=by
    have hj:=(Pt.mp hxw).1
    have hj':ys.length - 1 - i < ts.length:=by omega
    exact ⟨_,Pn hj',hch _ _ _ hxw (Pn hj')⟩
   have hkid:(B6 pl 0 ts)[ys.length - 1 - i]?=some (pl++[ys.length - 1 - i],tk):=by
    rw [Zdx,htk]
    simp
   refine ⟨_,_,wv5++[.ref p7],rfl,?_,Ad,?_,?_,t5.trans t9,(sm5.trans s58).over hpw0⟩
   ·rw [Ag npw];exact s58 _ _ e5t
   ·rw [Ag nSp.symm];exact s58 _ _ e5s
   ·rw [Zln hkl hi hkid,<- Rl]
    refine (al5.mono (RowT.same t9)).snoc ⟨p7,r,xw,rfl,(SameT.set e8w).tup (SqT.of Ad),?_,hat.sameT (T5.trans t9)⟩
    have q9:=(((SameT.new (o:=.tup [.ref r,xw]) h7).trans (SameT.set (o:=.lst (wv5++[.ref p7])) e8w)) r).1 _ q7
    have e:Bj (pl++[ys.length - 1 - i])=Bj pl++[.int ((ys.length - 1 - i:Nat):Int)]:=by unfold Bj;rw [Rn];rfl
    show upd _ _ _ r=some (.tup (Bj (pl++[ys.length - 1 - i])))
    rw [e]
    exact q9
  ·rintro σ5 H5 ⟨v4',v5',wv5,rfl,e5t,e5w,e5s,al5,t5,sm5⟩
   rw [Sd,Vv] at al5
   refine ⟨_,hload,_,_,_,tv++[.ref a],wv5,dn++[(pl,.mk wd n ts)],_,rfl,e5t,e5w,?_,al5,?_,rfl,sm5⟩
   ·exact (al1.mono (RowT.same (t2.trans (s4.t.trans t5)))).snoc (RowT.same (s4.t.trans t5) _ _ hrow3)
   ·rw [<- hw,Pc,Rl]
    rfl
noncomputable def A6 (m:Nat)(w:Str):Nat×List Nat×List Nat×Ai :=
 if w = "num" then (0,[],[],[]) else if w = "truth" then (1,[],[],[]) else if w = "plus" \/ w = "minus" then (0,[0,0],[],[]) else if w = "less" then (1,[0,0],[],[]) else
 if w = "if" then (m,[1,m,m],[],[.any]) else if w = "gap" \/ w = "odd" \/ w = "name" then (m,[],[],[.any]) else if w = "let" then (m+1,[m,m+1],[m],[.any,.any]) else
 if w = "fn" then (m+2,[m+1],[m],[.any,.any,.to m (m+1)]) else if w = "rec" then (m+2,[m+1],[m+2,m],[.any,.any,.to m (m+1)]) else (m+1,[m+2,m],[],[.any,.any,.to m (m+1)])
noncomputable def Bt (a:Addr)(H H':Hp):Prop:=∀ x o,x≠a->H x=some o->H' x=some o
theorem Jh {H H':Hp}(s:Same H H')(a:Addr):Bt a H H':=fun x o _ h=>s x o h
theorem Bt.trans {a:Addr}{H H1 H2:Hp}(h:Bt a H H1)(g:Bt a H1 H2):Bt a H H2:=fun x o n e=>g x o n (h x o n e)
theorem Bt.upd {a:Addr}{H:Hp}{o:HO}:Bt a H (upd H a o):=fun x o' n e=>by rw [Ag n];exact e
theorem Bt.t {a:Addr}{H H':Hp}{us:List V}(h:Bt a H H')(e:H a=some (.lst us)):SameT H H':=fun b =>
 ⟨fun xs e1=>h b _ (fun z=>by rw [z,e] at e1;cases e1) e1,fun o u e1=>h b _ (fun z=>by rw [z,e] at e1;cases e1) e1⟩
theorem ShG.snoc {H:Hp}{a p:Addr}{us:List V}{sh:Ai}{s:Sh}(e:H a=some (.lst us))(al:Al (ShE K H) us sh)(hp:SqT K H p (shV s)):ShG K (upd H a (.lst (us++[.ref p]))) a (sh++[s]) :=
 ⟨us++[.ref p],Ad,(al.mono (ShE.same (SameT.set e))).snoc ⟨p,rfl,(SameT.set e).tup hp⟩⟩
noncomputable def Zdr:Sp:=fun vs H Q _=>∃(a:Addr)(x:V)(us:List V),vs=[.ref a,x]/\H a=some (.lst us)/\us.length < 5000/\Q (.int (us.length:Nat)) (upd H a (.lst (us++[x])))
noncomputable def Ze1 (K:Pk):Sp:=fun vs H Q _=>∃(a:Addr)(w:Str)(sh:Ai),vs=[.ref a,.str w]/\sh.length<=1000/\ShG K H a sh /\
 ∀(r b c:Addr)(H':Hp),Bt a H H'->ShG K H' a (sh++(A6 sh.length w).2.2.2)->SqT K H' r [.int ((A6 sh.length w).1:Nat),.ref b,.ref c]->H' b=some (.lst (Ak (A6 sh.length w).2.1))->H b=none->b≠a->H' c=some (.lst (Ak (A6 sh.length w).2.2.1))->H c=none->c≠a->c≠b->Q (.ref r) H'
theorem Fh {x y:Str}:decide (V.str x=V.str y)=decide (x=y):=by
 by_cases h:x=y
 ·subst h;simp
 ·rw [decide_eq_false h,decide_eq_false (fun e=>h (by injection e))]
theorem Zjj (a b:Str):(a == b)=decide (b=a):=by
 rw [Tu,beq_iff_eq,decide_eq_true_iff]
 exact eq_comm
theorem Ki (a t:Str)(r:List V):Fx (.str t) (.str a::r)=(decide (t=a) || Fx (.str t) r):=by
 show ((a == t) || _)=_
 rw [Zjj]
 rfl
theorem Zcn (x:V):Fx x []=false:=rfl
theorem in2 {w x y:Str}:Fx (.str w) [.str x,.str y]=decide (w=x\/w=y):=by
 rw [Ki,Ki,Zcn,Vx]
 by_cases h1:w=x <;> by_cases h2:w=y <;> simp [h1,h2]
theorem in3 {w x y z:Str}:Fx (.str w) [.str x,.str y,.str z]=decide (w=x\/w=y\/w=z):=by
 rw [Ki,Ki,Ki,Zcn,Vx]
 by_cases h1:w=x <;> by_cases h2:w=y <;> by_cases h3:w=z <;> simp [h1,h2,h3]
theorem L8:Bf ["shapes", "word", "one", "other", "function"] ["shapes", "word"] (A0 Jz):=by walk_at "sc"
theorem Zm5 {f:Addr}{fd:FuncData}(F:Fun K "kinds_of_word" "kinds_of_word" Jz f fd)(T:Txt K mg)(G_NUM:Ec mg "NUM" (.int 0))(G_TRUTH:Ec mg "TRUTH" (.int 1))(C_new_kind:Ba P w K mg base 1 "new_kind" ["shapes", "shape"] Zdr):As P w K mg base Az 2 f fd ["shapes", "word"] (Ze1 K):=by
 refine F.okq L8 (fun vs H Q E h=>?_) (fun cdv A outer s H vs Q E hr h=>?_)
 ·obtain ⟨a,w,sh,rfl,_⟩:=h
  rfl
 ·obtain ⟨a,w,sh,rfl,hm2,S,q⟩:=h
  refine ⟨_,Ae (Au (A8 (Bg K hr.u200) (qv 1) Av (A1 _)) (Af (Am (Ar (Aa (D7 G_NUM) (Aa (Bh Ab) (Aa (Bh Ab) Ab)))))) Aw)
   (Ae (Au (A8 (Bg K hr.u200) (qv 1) Av (A1 _)) (Af (Am (Ar (Aa (D7 G_TRUTH) (Aa (Bh Ab) (Aa (Bh Ab) Ab)))))) Aw)
   (Ae (Au (A8 (Zag K) (qv 1) (Ar (Aa Av (Aa Av Ab))) (by rfl)) (Af (Am (Ar (Aa (D7 G_NUM) (Aa (Bh (Aa (D7 G_NUM) (Aa (D7 G_NUM) Ab))) (Aa (Bh Ab) Ab)))))) Aw)
   (Ae (Au (A8 (Bg K hr.u200) (qv 1) Av (A1 _)) (Af (Am (Ar (Aa (D7 G_TRUTH) (Aa (Bh (Aa (D7 G_NUM) (Aa (D7 G_NUM) Ab))) (Aa (Bh Ab) Ab)))))) Aw)
   (Ae (Aq 2 L8 (Ay C_new_kind hr.m (Aa (qv 0) (Aa (Ar (Aa Av Ab)) Ab))))
   (Ae (Au (A8 (Bg K hr.u200) (qv 1) Av (A1 _)) (Af (Am (Ar (Aa (qv 2) (Aa (Bh (Aa (D7 G_TRUTH) (Aa (qv 2) (Aa (qv 2) Ab)))) (Aa (Bh Ab) Ab)))))) Aw)
   (Ae (Au (A8 (Zag K) (qv 1) (Ar (Aa Av (Aa Av (Aa Av Ab)))) (by rfl)) (Af (Am (Ar (Aa (qv 2) (Aa (Bh Ab) (Aa (Bh Ab) Ab)))))) Aw)
   (Ae (Aq 3 L8 (Ay C_new_kind hr.m (Aa (qv 0) (Aa (Ar (Aa Av Ab)) Ab))))
   (Ae (Au (A8 (Bg K hr.u200) (qv 1) Av (A1 _)) (Af (Am (Ar (Aa (qv 3) (Aa (Bh (Aa (qv 2) (Aa (qv 3) Ab))) (Aa (Bh (Aa (qv 2) Ab)) Ab)))))) Aw)
   (Ae (Aq 4 L8 (Ay C_new_kind hr.m (Aa (qv 0) (Aa (Ar (Aa Av (Aa (qv 2) (Aa (qv 3) Ab)))) Ab))))
   (Ae (Au (A8 (Bg K hr.u200) (qv 1) Av (A1 _)) (Af (Am (Ar (Aa (qv 4) (Aa (Bh (Aa (qv 3) Ab)) (Aa (Bh (Aa (qv 2) Ab)) Ab)))))) Aw)
   (Ae (Au (A8 (Bg K hr.u200) (qv 1) Av (A1 _)) (Af (Am (Ar (Aa (qv 4) (Aa (Bh (Aa (qv 3) Ab)) (Aa (Bh (Aa (qv 4) (Aa (qv 2) Ab))) Ab)))))) Aw)
   (Af (Am (Ar (Aa (qv 3) (Aa (Bh (Aa (qv 4) (Aa (qv 2) Ab))) (Aa (Bh Ab) Ab))))))))))))))))),?_⟩
  have bg:=big
  obtain ⟨us,ea,ala⟩:=S.ex
  have la:us.length=sh.length:=ala.1
  have fin:∀(H1:Hp)(g:Nat)(xs ys:List Nat)(new:Ai)(us1:List V),Bt a H H1->H1 a=some (.lst us1)->ShG K H1 a (sh++new)->A6 sh.length w=(g,xs,ys,new)->∀ b,H1 b=none->∀ c,upd H1 b (.lst (Ak xs)) c=none->∀ r,upd (upd H1 b (.lst (Ak xs))) c (.lst (Ak ys)) r=none->Q (.ref r) (upd (upd (upd H1 b (.lst (Ak xs))) c (.lst (Ak ys))) r (.tup [.int (g:Nat),.ref b,.ref c])):=by
   rintro H1 g xs ys new us1 hb e1 S1 hk b h1 c h2 r h3
   rw [hk] at q
   have s1:=Same.upd (o:=.lst (Ak xs)) h1
   have s2:=Same.upd (o:=.lst (Ak ys)) h2
   have s3:=Same.upd (o:=.tup [.int (g:Nat),.ref b,.ref c]) h3
   have fr:∀{x:Addr},H1 x=none->H x=none:=fun {x} hx=>by
    cases e:H x with
    | none=>rfl
    | some o=>rw [hb x o (fun z=>by rw [z,e1] at hx;cases hx) e] at hx;cases hx
   exact q r b c _ (hb.trans (Jh ((s1.trans s2).trans s3) a)) (S1.same ((s1.trans s2).trans s3)) (SqT.of Ad) ((s2.trans s3) _ _ Ad) (fr h1) (A5 e1 h1).symm (s3 _ _ Ad) (fr (s1.free h2)) (A5 (s1 _ _ e1) h2).symm (A5 Ad h2).symm
  have old:∀(H1:Hp)(g:Nat)(xs ys:List Nat),Same H H1->A6 sh.length w=(g,xs,ys,[])->∀ b,H1 b=none->∀ c,upd H1 b (.lst (Ak xs)) c=none->∀ r,upd (upd H1 b (.lst (Ak xs))) c (.lst (Ak ys)) r=none->Q (.ref r) (upd (upd (upd H1 b (.lst (Ak xs))) c (.lst (Ak ys))) r (.tup [.int (g:Nat),.ref b,.ref c])):=fun H1 g xs ys s1 hk=>fin H1 g xs ys [] us (Jh s1 a) (s1 _ _ ea) (by rw [Qx];exact S.same s1) hk
  unfold A6 at fin old
  walk_at "r"
  rw [Fh]
  refine Bw (fun c=>?_) (fun c=>?_)
  ·have c:=of_decide_eq_true c
   rw [if_pos c] at old
   walk_at "r"
   refine ⟨Bs,fun b hb=>?_⟩
   walk_at "r"
   refine ⟨Bs,fun c hc=>?_⟩
   walk_at "r"
   refine ⟨B2,fun r hr'=>?_⟩
   exact old H 0 [] [] (Same.refl _) rfl b hb c hc r hr'
  have c1:¬ w = "num" := fun e=>c (decide_eq_true e)
  rw [if_neg c1] at fin old
  walk_at "r"
  rw [Fh]
  refine Bw (fun c=>?_) (fun c=>?_)
  ·have c:=of_decide_eq_true c
   rw [if_pos c] at old
   walk_at "r"
   refine ⟨Bs,fun b hb=>?_⟩
   walk_at "r"
   refine ⟨Bs,fun c hc=>?_⟩
   walk_at "r"
   refine ⟨B2,fun r hr'=>?_⟩
   exact old H 1 [] [] (Same.refl _) rfl b hb c hc r hr'
  have c1:¬ w = "truth" := fun e=>c (decide_eq_true e)
  rw [if_neg c1] at fin old
  walk_at "r"
  refine ⟨Bu,fun p1 h1=>?_⟩
  refine Og (.inr (SqT.of Ad)) rfl rfl ?_
  rw [if_neg P6,in2]
  have s1:Same H (upd H p1 (.tup [.str "plus",.str "minus"])):=Same.upd h1
  revert s1
  generalize upd H p1 (.tup [.str "plus",.str "minus"])=H1
  intro s1
  walk_at "r"
  refine Bw (fun c=>?_) (fun c=>?_)
  ·have c:=of_decide_eq_true c
   rw [if_pos c] at old
   walk_at "r"
   refine ⟨Bu,fun b hb=>?_⟩
   walk_at "r"
   refine ⟨Bs,fun c hc=>?_⟩
   walk_at "r"
   refine ⟨B2,fun r hr'=>?_⟩
   exact old H1 0 [0,0] [] s1 rfl b hb c hc r hr'
  have c1:¬ (w = "plus" \/ w = "minus"):=fun e=>c (decide_eq_true e)
  rw [if_neg c1] at fin old
  walk_at "r"
  rw [Fh]
  refine Bw (fun c=>?_) (fun c=>?_)
  ·have c:=of_decide_eq_true c
   rw [if_pos c] at old
   walk_at "r"
   refine ⟨Bu,fun b hb=>?_⟩
   walk_at "r"
   refine ⟨Bs,fun c hc=>?_⟩
   walk_at "r"
   refine ⟨B2,fun r hr'=>?_⟩
   exact old H1 1 [0,0] [] s1 rfl b hb c hc r hr'
  have c1:¬ w = "less" := fun e=>c (decide_eq_true e)
  rw [if_neg c1] at fin
  clear old
  walk_at "r"
  refine ⟨B5,fun p2 h2=>?_⟩
  walk_at "r"
  have s2:=s1.put (o:=.tup [.str "any"]) h2
  have ea2:=s2 _ _ ea
  refine ⟨a,.ref p2,us,rfl,ea2,by omega,?_⟩
  have S2:=ShG.snoc (K:=K) (s:=.any) ea2 (ala.mono (ShE.same s2.t)) (SqT.of Ad)
  have b2:Bt a H (upd (upd H1 p2 (.tup [.str "any"])) a (.lst (us++[.ref p2]))):=(Jh s2 a).trans Bt.upd
  have ea3:upd (upd H1 p2 (.tup [.str "any"])) a (.lst (us++[.ref p2])) a=some (.lst (us++[.ref p2])):=Ad
  revert S2 b2 ea3
  generalize upd (upd H1 p2 (.tup [.str "any"])) a (.lst (us++[.ref p2]))=H2
  intro S2 b2 ea3
  rw [la]
  walk_at "r"
  rw [Fh]
  refine Bw (fun c=>?_) (fun c=>?_)
  ·have c:=of_decide_eq_true c
   rw [if_pos c] at fin
   walk_at "r"
   refine ⟨B2,fun b hb=>?_⟩
   walk_at "r"
   refine ⟨Bs,fun c hc=>?_⟩
   walk_at "r"
   refine ⟨B2,fun r hr'=>?_⟩
   exact fin H2 sh.length [1,sh.length,sh.length] [] [.any] _ b2 ea3 S2 rfl b hb c hc r hr'
  have c1:¬ w = "if" := fun e=>c (decide_eq_true e)
  rw [if_neg c1] at fin
  walk_at "r"
  refine ⟨B2,fun p3 h3=>?_⟩
  refine Og (.inr (SqT.of Ad)) rfl rfl ?_
  rw [if_neg P6,in3]
  have s3:=Same.upd (o:=.tup [.str "gap",.str "odd",.str "name"]) h3
  have S3:=S2.same s3
  have b3:=b2.trans (Jh s3 a)
  have ea4:=s3 _ _ ea3
  revert S3 b3 ea4
  generalize upd H2 p3 (.tup [.str "gap",.str "odd",.str "name"])=H3
  intro S3 b3 ea4
  walk_at "r"
  refine Bw (fun c=>?_) (fun c=>?_)
  ·have c:=of_decide_eq_true c
   rw [if_pos c] at fin
   walk_at "r"
   refine ⟨Bs,fun b hb=>?_⟩
   walk_at "r"
   refine ⟨Bs,fun c hc=>?_⟩
   walk_at "r"
   refine ⟨B2,fun r hr'=>?_⟩
   exact fin H3 sh.length [] [] [.any] _ b3 ea4 S3 rfl b hb c hc r hr'
  have c1:¬ (w = "gap" \/ w = "odd" \/ w = "name"):=fun e=>c (decide_eq_true e)
  rw [if_neg c1] at fin
  walk_at "r"
  refine ⟨B5,fun p4 h4=>?_⟩
  have s4:=Same.upd (o:=.tup [.str "any"]) h4
  walk_at "r"
  obtain ⟨us3,ea3',al3⟩:=S3.ex
  rw [ea4] at ea3'
  cases ea3'
  have l3:(us++[V.ref p2]).length=sh.length+1:=by rw [Px,la];rfl
  refine ⟨a,.ref p4,_,rfl,s4 _ _ ea4,by omega,?_⟩
  have S4:=ShG.snoc (K:=K) (s:=.any) (s4 _ _ ea4) (al3.mono (ShE.same s4.t)) (SqT.of Ad)
  have b4:Bt a H (upd (upd H3 p4 (.tup [.str "any"])) a (.lst (us++[.ref p2]++[.ref p4]))):=(b3.trans (Jh s4 a)).trans Bt.upd
  have ea5:upd (upd H3 p4 (.tup [.str "any"])) a (.lst (us++[.ref p2]++[.ref p4])) a=some (.lst (us++[.ref p2]++[.ref p4])):=Ad
  revert S4 b4 ea5
  generalize upd (upd H3 p4 (.tup [.str "any"])) a (.lst (us++[.ref p2]++[.ref p4]))=H4
  intro S4 b4 ea5
  rw [l3]
  rw [Rl] at S4
  walk_at "r"
  rw [Fh]
  refine Bw (fun c=>?_) (fun c=>?_)
  ·have c:=of_decide_eq_true c
   rw [if_pos c] at fin
   walk_at "r"
   refine ⟨Bu,fun b hb=>?_⟩
   walk_at "r"
   refine ⟨B5,fun c hc=>?_⟩
   walk_at "r"
   refine ⟨B2,fun r hr'=>?_⟩
   exact fin H4 (sh.length+1) [sh.length,sh.length+1] [sh.length] [.any,.any] _ b4 ea5 S4 rfl b hb c hc r hr'
  have c1:¬ w = "let" := fun e=>c (decide_eq_true e)
  rw [if_neg c1] at fin
  walk_at "r"
  refine ⟨B2,fun p6 h6=>?_⟩
  have s6:=Same.upd (o:=.tup [.str "to",.int (sh.length:Nat),.int (sh.length+1:Nat)]) h6
  walk_at "r"
  obtain ⟨us5,ea5',al5⟩:=S4.ex
  rw [ea5] at ea5'
  cases ea5'
  have l5:(us++[V.ref p2]++[V.ref p4]).length=sh.length+2:=by rw [Px,l3];rfl
  refine ⟨a,.ref p6,_,rfl,s6 _ _ ea5,by omega,?_⟩
  have S6:=ShG.snoc (K:=K) (s:=.to sh.length (sh.length+1)) (s6 _ _ ea5) (al5.mono (ShE.same s6.t)) (SqT.of Ad)
  have b6:Bt a H (upd (upd H4 p6 (.tup [.str "to",.int (sh.length:Nat),.int (sh.length+1:Nat)])) a (.lst (us++[.ref p2]++[.ref p4]++[.ref p6]))):=(b4.trans (Jh s6 a)).trans Bt.upd
  have ea7:upd (upd H4 p6 (.tup [.str "to",.int (sh.length:Nat),.int (sh.length+1:Nat)])) a (.lst (us++[.ref p2]++[.ref p4]++[.ref p6])) a=some (.lst (us++[.ref p2]++[.ref p4]++[.ref p6])):=Ad
  revert S6 b6 ea7
  generalize upd (upd H4 p6 (.tup [.str "to",.int (sh.length:Nat),.int (sh.length+1:Nat)])) a (.lst (us++[.ref p2]++[.ref p4]++[.ref p6]))=H6
  intro S6 b6 ea7
  rw [l5]
  rw [Rl] at S6
  walk_at "r"
  rw [Fh]
  refine Bw (fun c=>?_) (fun c=>?_)
  ·have c:=of_decide_eq_true c
   rw [if_pos c] at fin
   walk_at "r"
   refine ⟨B5,fun b hb=>?_⟩
   walk_at "r"
   refine ⟨B5,fun c hc=>?_⟩
   walk_at "r"
   refine ⟨B2,fun r hr'=>?_⟩
   exact fin H6 (sh.length+2) [sh.length+1] [sh.length] [.any,.any,.to sh.length (sh.length+1)] _ b6 ea7 S6 rfl b hb c hc r hr'
  have c1:¬ w = "fn" := fun e=>c (decide_eq_true e)
  rw [if_neg c1] at fin
  walk_at "r"
  rw [Fh]
  refine Bw (fun c=>?_) (fun c=>?_)
  ·have c:=of_decide_eq_true c
   rw [if_pos c] at fin
   walk_at "r"
   refine ⟨B5,fun b hb=>?_⟩
   walk_at "r"
   refine ⟨Bu,fun c hc=>?_⟩
   walk_at "r"
   refine ⟨B2,fun r hr'=>?_⟩
   exact fin H6 (sh.length+2) [sh.length+1] [sh.length+2,sh.length] [.any,.any,.to sh.length (sh.length+1)] _ b6 ea7 S6 rfl b hb c hc r hr'
  have c1:¬ w = "rec" := fun e=>c (decide_eq_true e)
  rw [if_neg c1] at fin
  walk_at "r"
  refine ⟨Bu,fun b hb=>?_⟩
  walk_at "r"
  refine ⟨Bs,fun c hc=>?_⟩
  walk_at "r"
  refine ⟨B2,fun r hr'=>?_⟩
  exact fin H6 (sh.length+1) [sh.length+2,sh.length] [] [.any,.any,.to sh.length (sh.length+1)] _ b6 ea7 S6 rfl b hb c hc r hr'
noncomputable abbrev Ev:=Str->Option Nat
noncomputable def C9 (e:Ev)(ns:List Str)(ks:List Nat):Ev:=(ns.zip ks).foldl (fun e p=>fun s=>if s=p.1 then some p.2 else e s) e
noncomputable def DcS (kvs:List (Ap×V))(e:Ev):Prop:=∀ s:Str,Bo kvs (.inr s)=(e s).map fun n=>V.int ((n:Nat):Int)
theorem DcS.put {kvs:List (Ap×V)}{e:Ev}(h:DcS kvs e)(s:Str)(n:Nat):DcS (Bc kvs (.inr s) (.int (n:Nat))) (fun t=>if t=s then some n else e t):=fun t=>by
 rw [J2]
 show _=Option.map _ (if t=s then some n else e t)
 by_cases ht:t=s
 ·rw [if_pos (by rw [ht]),if_pos ht]
  rfl
 ·rw [if_neg fun z=>ht (Sum.inr.inj z),if_neg ht]
  exact h t
structure EvAt (H:Hp)(a:Addr)(e:Ev)(m:Nat):Prop where
 ex:∃ kvs,H a=some (.dK kvs)/\DcS kvs e/\kvs.length<=m
theorem EvAt.same {H H':Hp}{a:Addr}{e:Ev}{m:Nat}(h:EvAt H a e m)(s:Same H H'):EvAt H' a e m:=let ⟨kvs,h1,h2,h3⟩:=h.ex;⟨kvs,s _ _ h1,h2,h3⟩
noncomputable def Zeh (K:Pk):Sp:=fun vs H Q _=>∃(a n k:Addr)(e:Ev)(ns:List Str)(ks:List Nat)(m:Nat),vs=[.ref a,.ref n,.ref k]/\EvAt H a e m/\m<=5000/\H n=some (.lst (ns.map V.str))/\H k=some (.lst (Ak ks))/\ns.length<=2/\∀ p H',Same H H'->H p=none->EvAt H' p (C9 e ns ks) (m+2)->Q (.ref p) H'
theorem Zq8 {e:Ev}{ns:List Str}{ks:List Nat}{i:Nat}{s:Str}{n:Nat}(h1:ns[i]?=some s)(h2:ks[i]?=some n):C9 e (ns.take (i+1)) (ks.take (i+1))=fun t=>if t=s then some n else C9 e (ns.take i) (ks.take i) t:=by
 unfold C9
 have hz:(ns.take (i+1)).zip (ks.take (i+1))=(ns.take i).zip (ks.take i)++[(s,n)]:=by
  rw [Re,Re,h1,h2]
  have l1:=(Pt.mp h1).1
  have l2:=(Pt.mp h2).1
  exact List.zip_append (by rw [Qb,Qb];omega)
 rw [hz,Wy]
 rfl
theorem Zhf:∀(ns:List Str)(ks:List Nat),(ns.take (min ns.length ks.length)).zip (ks.take (min ns.length ks.length))=ns.zip ks
 | [],_=>by simp
 | _::_,[]=>by simp
 | a::r,b::s=>by
  have:=Zhf r s
  rw [Py,Py,show min (r.length+1) (s.length+1)=min r.length s.length+1 by omega,Wp,Wp,List.zip_cons_cons,List.zip_cons_cons,this]
theorem Zn4 (e:Ev)(ns:List Str)(ks:List Nat):C9 e (ns.take (min ns.length ks.length)) (ks.take (min ns.length ks.length))=C9 e ns ks:=by
 unfold C9
 rw [Zhf]
theorem sc_with_names:Bf ["around", "names", "kinds", "made", "name", "kind"] ["around", "names", "kinds"] (A0 Kp):=by walk_at "sc"
theorem Zsk {f:Addr}{fd:FuncData}(F:Fun K "with_names" "with_names" Kp f fd)(T:Txt K mg):As P w K mg base Az 1 f fd ["around", "names", "kinds"] (Zeh K):=by
 refine F.okq sc_with_names (fun vs H Q E h=>?_) (fun cdv A outer s H vs Q E hr h=>?_)
 ·obtain ⟨a,n,k,e,ns,ks,m,rfl,_⟩:=h
  rfl
 ·obtain ⟨a,n,k,e,ns,ks,m,rfl,he,hm,hn,hk,hl,q⟩:=h
  refine ⟨_,Ae (Aq 3 sc_with_names (Ep Zkk (by rfl) T.dict (by decide +kernel) (Aa (qv 0) Ab)))
   (Ae (Cg Qf rfl (Zoe K rfl T.zip (Aa (qv 1) (Aa (qv 2) Ab))) (Cv K (n:=2) rfl (Bk (Ax (i:=4) sc_with_names.nd rfl (Or.inl rfl)) (Bk (Ax (i:=5) sc_with_names.nd rfl (Or.inl rfl)) (Cw)))) (Af (Ho hr.u1 (qv 3) (qv 4) (qv 5))))
   (Af (Am (qv 3)))),?_⟩
  have bg:=big
  obtain ⟨kvs,ea,dc,kl⟩:=he.ex
  walk_at "r"
  refine ⟨a,kvs,rfl,ea,fun p hp=>?_⟩
  have s1:=Same.upd (o:=.dK kvs) hp
  walk_at "r"
  refine ⟨n,k,_,_,rfl,SqL.of (s1 _ _ hn),SqL.of (s1 _ _ hk),?_⟩
  refine Zmi (K:=K) (a:=n) (b:=k) (xs:=ns.map V.str) (ys:=Ak ks) (fun i σ' H'=>∃ v4 v5 kv,σ'=[some (.ref a),some (.ref n),some (.ref k),some (.ref p),v4,v5]/\H' p=some (.dK kv)/\DcS kv (C9 e (ns.take i) (ks.take i))/\kv.length<=m+i/\Same H H')
   ⟨_,_,kvs,rfl,Ad,dc,kl,s1⟩ ?_ ?_ ?_
  ·rintro i σ' H' _ ⟨_,_,_,_,_,_,_,sm⟩
   exact ⟨SqL.of (sm _ _ hn),SqL.of (sm _ _ hk)⟩
  ·rintro i x y t σ' H' hx hy ht ⟨v4,v5,kv,rfl,ep,dcv,lv,sm⟩
   have hi:i < ns.length:=by have:=(Pt.mp hx).1;rwa [Pw] at this
   have hik:i < ks.length:=by have:=(Pt.mp hy).1;unfold Ak at this;rwa [Pw] at this
   have hxv:x=.str ns[i]:=by rw [Qj,Pn hi] at hx;exact (P8 hx).symm
   have hyv:y=.int ((ks[i]:Nat):Int):=by unfold Ak at hy;rw [Qj,Pn hik] at hy;exact (P8 hy).symm
   subst hxv hyv
   have s2:=Same.upd (o:=.tup [.str ns[i],.int ((ks[i]:Nat):Int)]) ht
   refine Da (SqT.of Ad) rfl ?_
   walk_at "r"
   refine ⟨p,_,rfl,DPut.k (k:=.inr ns[i]) (s2 _ _ ep) (by omega),?_⟩
   have hl2:=Ed kv (.inr ns[i]) (.int ((ks[i]:Nat):Int))
   refine ⟨_,_,_,rfl,Ad,?_,by omega,(sm.trans s2).over hp⟩
   rw [Zq8 (Pn hi) (Pn hik)]
   exact dcv.put _ _
  ·rintro σ' H' ⟨v4,v5,kv,rfl,ep,dcv,lv,sm⟩
   have e1:min (ns.map V.str).length (Ak ks).length=min ns.length ks.length:=by unfold Ak;rw [Pw,Pw]
   rw [e1] at dcv lv
   rw [Zn4] at dcv
   walk_at "r"
   exact q p H' sm hp ⟨kv,ep,dcv,by omega⟩
end
end K37
namespace K19
open PySem L2
noncomputable def C4 (w:Str)(n:Dt):Prop:=(w = "fn" \/ w = "let" \/ w = "name" -> ∃ t:Str,n=.flat (.str t))/\(w = "rec" -> ∃ t u:Str,n=.tup [.flat (.str t),.flat (.str u)])
inductive TrSh:Tr->Prop where
 | mk {w:Str} {n:Dt} {ts:List Tr} (h:C4 w n) (hs:∀ t∈ts,TrSh t):TrSh (.mk w n ts)
theorem Fw {w:Str}{n:Dt}(h1:w ≠ "fn")(h2:w ≠ "let")(h3:w ≠ "name")(h4:w ≠ "rec"):C4 w n:=⟨fun h=>by rcases h with h | h | h <;> contradiction,fun h=>absurd h h4⟩
theorem TrSh.gap:TrSh gapT:=.mk (Fw (by decide +kernel) (by decide +kernel) (by decide +kernel) (by decide +kernel)) (fun t h=>nomatch h)
inductive Sub:Tr->List Nat->Prop where
 | nil (t:Tr):Sub t []
 | cons {w:Str} {n:Dt} {ts:List Tr} {j:Nat} {t:Tr} {r:List Nat} (h:ts[j]?=some t) (s:Sub t r):Sub (.mk w n ts) (j::r)
mutual
theorem Zav:∀(t:Tr)(x:List Nat×Tr),x∈walk [] t->Sub t x.1
 | .mk w n ps,x,h=>by
  rw [walk] at h
  rcases Pu.mp h with rfl | h
  ·exact .nil _
  ·obtain ⟨j,t,r,e1,e2,e3⟩:=Zgt 0 ps x h
   rw [e2,V7]
   exact .cons e1 e3
theorem Zgt:∀(i:Nat)(ts:List Tr)(x:List Nat×Tr),x∈Bv [] i ts->∃(j:Nat)(t:Tr)(r:List Nat),ts[j]?=some t/\x.1=(i+j)::r/\Sub t r
 | _,[],x,h=>by rw [Bv] at h;cases h
 | i,t::q,x,h=>by
  rw [Bv] at h
  rcases Qq.mp h with h | h
  ·rw [Oc] at h
   obtain ⟨y,hy,rfl⟩:=V8.mp h
   exact ⟨0,t,y.1,rfl,rfl,Zav t y hy⟩
  ·obtain ⟨j,t',r,e1,e2,e3⟩:=Zgt (i+1) q x h
   exact ⟨j+1,t',r,by simpa using e1,by rw [e2];congr 1;omega,e3⟩
end
noncomputable def Bm:Tr->List Nat->List Tr
 | t,[]=>[t]
 | .mk w n ps,k::r=>.mk w n ps::(match ps[k]? with | some u=>Bm u r | none=>[])
theorem Iq {w:Str}{n:Dt}{ts:List Tr}{j:Nat}{t:Tr}{r:List Nat}(h:ts[j]?=some t):Bm (.mk w n ts) (j::r)=.mk w n ts::Bm t r:=by rw [Bm,h]
theorem Io {t:Tr}{pl:List Nat}(s:Sub t pl):(Bm t pl).length=pl.length+1:=by
 induction s with
 | nil t=>cases t;rfl
 | cons h _ ih=>rw [Iq h,Py,ih,Py]
theorem Lw (t:Tr)(pl:List Nat):(Bm t pl)[0]?=some t:=by
 cases t with
 | mk w n ps=>cases pl <;> rfl
theorem Kc {t:Tr}{pl:List Nat}(s:Sub t pl):∀(i:Nat)(k:Nat),pl[i]?=some k->∃ w n ps u,(Bm t pl)[i]?=some (.mk w n ps)/\ps[k]?=some u/\(Bm t pl)[i+1]?=some u:=by
 induction s with
 | nil t=>intro i k h;simp at h
 | @cons w n ts j u r h s ih =>
  intro i k hk
  rw [Iq h]
  cases i with
  | zero =>
   have:j=k:=by simpa using hk
   subst this
   exact ⟨w,n,ts,u,rfl,h,by simpa using Lw u r⟩
  | succ i =>
   obtain ⟨w',n',ps,u',a,b,c⟩:=ih i k (by simpa using hk)
   exact ⟨w',n',ps,u',by simpa using a,b,by simpa using c⟩
theorem Zmp {t:Tr}{pl:List Nat}(s:Sub t pl)(h:TrSh t):∀ u∈Bm t pl,TrSh u:=by
 induction s with
 | nil t=>intro u hu;cases t;rw [Bm,Qi] at hu;rw [hu];exact h
 | cons hj _ ih =>
  cases h with
  | mk h1 hs =>
   intro u hu
   rw [Iq hj] at hu
   rcases Pu.mp hu with rfl | hu
   ·exact .mk h1 hs
   ·exact ih (hs _ (Rj hj)) u hu
noncomputable def Jl:Dt->List Str
 | .flat (.str t)=>[t]
 | _=>[]
noncomputable def Kn:Dt->List Str
 | .tup [.flat (.str t),.flat (.str u)]=>[t,u]
 | _=>[]
noncomputable def nb (w:Str)(n:Dt)(k:Nat):List Str:=if w = "fn" then Jl n else if w = "rec" then Kn n else if w = "let" /\ k=1 then Jl n else []
noncomputable def C5:Tr->List Nat->List (List Str)
 | _,[]=>[]
 | .mk w n ps,k::r=>nb w n k::(match ps[k]? with | some u=>C5 u r | none=>[])
theorem Hn {w:Str}{n:Dt}{ts:List Tr}{j:Nat}{t:Tr}{r:List Nat}(h:ts[j]?=some t):C5 (.mk w n ts) (j::r)=nb w n j::C5 t r:=by rw [C5,h]
theorem Zhw {t:Tr}{pl:List Nat}(s:Sub t pl):(C5 t pl).length=pl.length:=by
 induction s with
 | nil t=>cases t;rfl
 | cons h _ ih=>rw [Hn h,Py,ih,Py]
theorem Zra {t:Tr}{pl:List Nat}(s:Sub t pl):∀(i k:Nat)(w:Str)(n:Dt)(ps:List Tr),pl[i]?=some k->(Bm t pl)[i]?=some (.mk w n ps)->(C5 t pl)[i]?=some (nb w n k):=by
 induction s with
 | nil t=>intro i k w n ps h;simp at h
 | @cons w n ts j u r h s ih =>
  intro i k w' n' ps hk hp
  rw [Iq h] at hp
  rw [Hn h]
  cases i with
  | zero =>
   have e1:j=k:=by simpa using hk
   have e2:Tr.mk w n ts=Tr.mk w' n' ps:=by simpa using hp
   cases e2
   subst e1
   rfl
  | succ i=>simpa using ih i k w' n' ps (by simpa using hk) (by simpa using hp)
noncomputable def C1 (d:Nat):List (List Str)->List (Str×Nat)
 | []=>[]
 | l::r=>l.map (fun x=>(x,d))++C1 (d+1) r
theorem Zd8:∀(d:Nat)(a b:List (List Str)),C1 d (a++b)=C1 d a++C1 (d+a.length) b
 | d,[],b=>by simp [C1]
 | d,l::r,b=>by
  rw [Tt,C1,C1,Zd8,Rl,Py]
  congr 3
  omega
theorem Ze0:∀(d:Nat)(ls:List (List Str)),(C1 d ls).map (·.1)=ls.flatten
 | _,[]=>rfl
 | d,l::r=>by
  rw [C1,Rn,Ze0,Ub,V6]
  congr 1
  exact List.map_id l
noncomputable def bn (t:Tr)(pl:List Nat):List (Str×Nat):=C1 0 (C5 t pl)
noncomputable def Dj (t:Tr)(pl:List Nat):List Str:=(C5 t pl).flatten
theorem Ztf (t:Tr)(pl:List Nat):(bn t pl).map (·.1)=Dj t pl:=Ze0 0 _
noncomputable def B9 (x:Str):Nat->List Str->Option Nat
 | _,[]=>none
 | d,y::r=>match B9 x (d+1) r with
  | some k=>some k
  | none=>if y=x then some d else none
theorem Zed (x:Str):∀(d:Nat)(a b:List Str),B9 x d (a++b)=match B9 x (d+a.length) b with | some k=>some k | none=>B9 x d a
 | d,[],b=>by
  rw [W6,Vs,Nat.add_zero]
  cases B9 x d b <;> rfl
 | d,y::r,b=>by
  rw [Tt,B9,Zed,Py,show d+1+r.length=d+(r.length+1) by omega]
  cases B9 x (d+(r.length+1)) b with
  | some k=>rfl
  | none=>rfl
theorem Ztp (x y:Str)(d:Nat)(a:List Str):B9 x d (a++[y])=if y=x then some (d+a.length) else B9 x d a:=by
 rw [Zed,B9,B9]
 by_cases h:y=x
 ·rw [if_pos h,if_pos h]
 ·rw [if_neg h,if_neg h]
noncomputable def C2:Tr->List Nat->Tr->Tr
 | _,[],f=>f
 | .mk w n ps,k::r,f=>match ps[k]? with
  | some u=>.mk w n (ps.set k (C2 u r f))
  | none=>.mk w n ps
theorem Lm {w:Str}{n:Dt}{ts:List Tr}{j:Nat}{t f:Tr}{r:List Nat}(h:ts[j]?=some t):C2 (.mk w n ts) (j::r) f=.mk w n (ts.set j (C2 t r f)):=by rw [C2,h]
theorem Zae (t f:Tr):C2 t [] f=f:=by cases t;rfl
theorem Kw {ts:List Tr}{j:Nat}{t u:Tr}(h:ts[j]?=some t):(ts.set j u)[j]?=some u:=by
 rw [R1 (Pt.mp h).1]
theorem Zih {t f:Tr}{sp pl:List Nat}(s:Sub t sp)(s':Sub t pl)(hn:pl.take sp.length≠sp):Sub (C2 t sp f) pl/\C5 (C2 t sp f) pl=C5 t pl:=by
 induction s generalizing pl with
 | nil t=>exact absurd (by simp) hn
 | @cons w n ts j t r h s ih =>
  rw [Lm h]
  cases s' with
  | nil _=>exact ⟨.nil _,rfl⟩
  | @cons _ _ _ j' t' r' h' s' =>
   by_cases e:j'=j
   ·subst e
    rw [h] at h'
    cases h'
    have:=ih s' (fun z=>hn (by rw [Py,Wp,z]))
    exact ⟨.cons (Kw h) this.1,by rw [Hn (Kw h),this.2,Hn h]⟩
   ·have h2:(ts.set j (C2 t r f))[j']?=some t':=by rw [Sm (Qa e)];exact h'
    exact ⟨.cons h2 s',by rw [Hn h2,Hn h']⟩
theorem Zo8 {t f:Tr}{sp:List Nat}(s:Sub t sp)(h:TrSh t)(hf:TrSh f):TrSh (C2 t sp f):=by
 induction s with
 | nil t=>rw [Zae];exact hf
 | cons hj _ ih =>
  rw [Lm hj]
  cases h with
  | mk h1 hs =>
   refine .mk h1 fun u hu=>?_
   rcases List.mem_or_eq_of_mem_set hu with hu | rfl
   ·exact hs u hu
   ·exact ih (hs _ (Rj hj))
theorem Zl1 {t f:Tr}{pl:List Nat}(s:Sub t pl):∀(m k:Nat)(w:Str)(n:Dt)(ps:List Tr)(u:Tr),pl[m]?=some k->(Bm t pl)[m]?=some (.mk w n ps)->(Bm t pl)[m+1]?=some u->C2 (.mk w n ps) (pl.drop m) f=.mk w n (ps.set k (C2 u (pl.drop (m+1)) f)):=by
 intro m k w n ps u hk hp hu
 obtain ⟨w',n',ps',u',a,b,c⟩:=Kc s m k hk
 rw [hp] at a
 cases a
 rw [hu] at c
 cases c
 have hl:=(Pt.mp hk)
 obtain ⟨g,e⟩:=hl
 rw [Rs g,e,Lm b]
end K19
namespace K37
open PySem L2 K19
section
variable {P:Program}{w:World}{K:Pk}{mg:Str->Option Value}{base:Heap}
noncomputable def Oi (K:Pk):Sp:=fun vs H Q _=>∃(v:V)(w:Str)(n:Dt)(ps:List Tr)(k:Nat),vs=[v,.int (k:Nat)]/\TrAt K H v (.mk w n ps)/\C4 w n /\
 ∀(q:Addr)(H':Hp),H q=none->Same H H'->H' q=some (.lst ((nb w n k).map V.str))->Q (.ref q) H'
theorem Hj {x y:Str}:decide (V.str x=V.str y)=decide (x=y):=by
 by_cases h:x=y
 ·subst h;simp
 ·rw [decide_eq_false h,decide_eq_false (fun e=>h (by injection e))]
theorem M5 {H:Hp}{nv:V}{t:Str}(h:IsN K H nv (.flat (.str t))):nv=.str t:=by
 rcases h with ⟨_,e⟩ | ⟨a,vs,_,_,_,e⟩
 ·injection e with e
  exact e.symm
 ·cases e
theorem Zso {H:Hp}{nv:V}{t u:Str}(h:IsN K H nv (.tup [.flat (.str t),.flat (.str u)])):∃ a,nv=.ref a/\SqT K H a [.str t,.str u]:=by
 rcases h with ⟨_,e⟩ | ⟨a,vs,e1,q,_,e⟩
 ·cases e
 ·injection e with e
  obtain ⟨x,y,rfl⟩:=lz2 (vs:=vs) (by first | exact e | (have:=congrArg V9 e;rw [Pw] at this;exact this.symm))
  simp only [Rv,List.map_nil,List.cons.injEq,Dt.flat.injEq,and_true] at e
  obtain ⟨rfl,rfl⟩:=e
  exact ⟨a,e1,q⟩
theorem Zjc:Bf ["form", "number"] ["form", "number"] (A0 K9):=by walk_at "sc"
theorem Zrc {f:Addr}{fd:FuncData}(F:Fun K "names_bound" "names_bound" K9 f fd)(T:Txt K mg):As P w K mg base Az 1 f fd ["form", "number"] (Oi K):=by
 refine F.okq Zjc (fun vs H Q E h=>?_) (fun cdv A outer s H vs Q E hr h=>?_)
 ·obtain ⟨v,w,n,ps,k,rfl,_⟩:=h
  rfl
 ·obtain ⟨v,w,n,ps,k,rfl,ht,hsh,q⟩:=h
  refine ⟨_,Ae (Au (A8 (Bg K hr.u200) (Ao K (qv 0) Ah) Av (A1 _)) (Af (Am (Bh (Aa (Ao K (qv 0) Ah) Ab)))) Aw)
   (Ae (Au (A8 (Bg K hr.u200) (Ao K (qv 0) Ah) Av (A1 _)) (Af (Am (Ep (Nw K) (by rfl) T.list (by decide +kernel) (Aa (Ao K (qv 0) Ah) Ab)))) Aw)
   (Ae (Au (QW.qt (Ia (A8 (Bg K hr.u200) (Ao K (qv 0) Ah) Av (A1 _)) (Kr (A8 (Bg K hr.u200) (qv 1) Ah (A1 _))))) (Af (Am (Bh (Aa (Ao K (qv 0) Ah) Ab)))) Aw)
   (Af (Am (Bh Ab))))),?_⟩
  cases ht with
  | @mk b pp _ nv _ us _ qb hn qp l hch =>
  walk_at "r"
  refine A4 qb rfl ?_
  walk_at "r"
  rw [Hj]
  refine Bw (fun c=>?_) (fun c=>?_)
  ·have c:=of_decide_eq_true c
   obtain ⟨t,rfl⟩:=hsh.1 (.inl c)
   have:=M5 hn
   subst this
   walk_at "r"
   refine A4 qb rfl ?_
   walk_at "r"
   refine ⟨B5,fun p hp=>?_⟩
   refine q p _ hp (Same.upd hp) ?_
   rw [Ad,nb,if_pos c]
   rfl
  have c1:¬ w = "fn" := fun e=>c (decide_eq_true e)
  walk_at "r"
  refine A4 qb rfl ?_
  walk_at "r"
  rw [Hj]
  refine Bw (fun c=>?_) (fun c=>?_)
  ·have c:=of_decide_eq_true c
   obtain ⟨t,u,rfl⟩:=hsh.2 c
   obtain ⟨na,rfl,qn⟩:=Zso hn
   walk_at "r"
   refine A4 qb rfl ?_
   walk_at "r"
   refine ⟨na,_,rfl,.inr qn,fun p hp=>?_⟩
   refine q p _ hp (Same.upd hp) ?_
   rw [Ad,nb,if_neg c1,if_pos c]
   rfl
  have c2:¬ w = "rec" := fun e=>c (decide_eq_true e)
  have none:¬ (w = "let" /\ k=1)->∀ p,H p=none->Q (.ref p) (upd H p (.lst [])):=fun h p hp=>by
   refine q p _ hp (Same.upd hp) ?_
   rw [Ad,nb,if_neg c1,if_neg c2,if_neg h]
   rfl
  walk_at "r"
  refine A4 qb rfl ?_
  walk_at "r"
  rw [Hj]
  refine Bw (fun c=>?_) (fun c=>?_)
  ·have c:=of_decide_eq_true c
   walk_at "r"
   refine Bw (fun c3=>?_) (fun c3=>?_)
   ·have c3:k=1:=by
     have:(k:Int)=1:=by simpa using c3
     omega
    obtain ⟨t,rfl⟩:=hsh.1 (.inr (.inl c))
    have:=M5 hn
    subst this
    walk_at "r"
    refine A4 qb rfl ?_
    walk_at "r"
    refine ⟨B5,fun p hp=>?_⟩
    refine q p _ hp (Same.upd hp) ?_
    rw [Ad,nb,if_neg c1,if_neg c2,if_pos ⟨c,c3⟩]
    rfl
   ·walk_at "r"
    refine ⟨Bs,fun p hp=>none (fun e=>c3 ?_) p hp⟩
    rw [e.2]
    decide
  ·walk_at "r"
   refine ⟨Bs,fun p hp=>none (fun e=>c (decide_eq_true e.1)) p hp⟩
noncomputable def Ig:Dt->Str
 | .flat (.str t)=>t
 | _ => ""
noncomputable abbrev An:=List Nat->Option Ev
noncomputable def D8 (A:An)(pl:List Nat)(f:Nat->Ev):Nat->An
 | 0=>A
 | m+1=>fun q=>if q=pl++[m] then some (f m) else D8 A pl f m q
noncomputable abbrev Dn:=List Nat->Option Nat
noncomputable def E9 (D:Dn)(pl:List Nat):Nat->List Nat->Dn
 | _,[]=>D
 | i,a::r=>E9 (fun q=>if q=pl++[i] then some a else D q) pl (i+1) r
theorem Zch (pl:List Nat)(a:Nat):∀(xs:List Nat)(D:Dn)(i:Nat),E9 D pl i (xs++[a])=fun q=>if q=pl++[i+xs.length] then some a else E9 D pl i xs q
 | [],D,i=>by simp [E9]
 | x::r,D,i=>by
  rw [Tt,E9,Zch pl a r _ (i+1),E9,Py]
  have:i+1+r.length=i+(r.length+1):=by omega
  rw [this]
theorem Zc2 (A:An)(pl:List Nat)(f:Nat->Ev):∀ m,D8 A pl f m pl=A pl
 | 0=>rfl
 | m+1=>by
  have h:¬ pl=pl++[m]:=fun e=>by have:=congrArg V9 e;simp at this
  show (if pl=pl++[m] then _ else _)=_
  rw [if_neg h]
  exact Zc2 A pl f m
theorem nbl3 (w:Str)(n:Dt)(k:Nat):(nb w n k).length<=2:=by
 have h1:(Jl n).length<=2:=by unfold Jl;split <;> simp
 have h2:(Kn n).length<=2:=by unfold Kn;split <;> simp
 unfold nb
 split
 ·exact h1
 ·split
  ·exact h2
  ·split
   ·exact h1
   ·simp
noncomputable def Ej (m:Nat)(w:Str)(n:Dt)(e:Ev):Nat:=if w = "name" then (e (Ig n)).getD (A6 m w).1 else (A6 m w).1
inductive KinG:List (List Nat×Tr)->Ai->Dn->An->List (Nat×Nat)->Ai->Prop where
 | nil {sh:Ai} {D:Dn} {A:An}:KinG [] sh D A [] sh
 | cons {pl:List Nat} {w:Str} {n:Dt} {ts:List Tr} {rs:List (List Nat×Tr)} {sh sh':Ai} {D:Dn} {A:An} {e:Ev} {ps:List (Nat×Nat)} (hA:A pl=some e) (hsh:C4 w n)
   (k:KinG rs (sh++(A6 sh.length w).2.2.2) (E9 D pl 0 (A6 sh.length w).2.1) (D8 A pl (fun j=>C9 e (nb w n j) (A6 sh.length w).2.2.1) (A6 sh.length w).2.1.length) ps sh'):KinG ((pl,.mk w n ts)::rs) sh D A ((Ej sh.length w n e,(D pl).getD (Ej sh.length w n e))::ps) sh'
noncomputable def Zfl (K:Pk):Sp:=fun vs H Q _=>∃(p:Addr)(rows:List V)(rs:List (List Nat×Tr))(ps:List (Nat×Nat))(sh':Ai),vs=[.ref p]/\H p=some (.lst rows)/\Al (RowT K H) rows rs/\rs.length<=40/\(∀ r∈rs,r.1.length<=40)/\KinG rs [.num,.truth] (fun _=>none) (fun q=>if q=[] then some (fun _=>none) else none) ps sh' /\
 ∀ r a b pv H',Same H H'->SqT K H' r [.ref a,.ref b]->ShG K H' a sh'->H' b=some (.lst pv)->Al (PaAt K H') pv ps->Q (.ref r) H'
structure KiF (H:Hp)(a b c d:Addr):Prop where
 ha:H a=none
 hb:H b=none
 hc:H c=none
 hd:H d=none
 ab:a≠b
 cd:c≠d
structure KiJ (K:Pk)(H:Hp)(a b c d:Addr)(sh:Ai)(x:Nat)(D:Dn)(E:An)(ps:List (Nat×Nat))(H':Hp):Prop where
 sg:ShG K H' a sh
 pr:∃ pv,H' b=some (.lst pv)/\Al (PaAt K H') pv ps
 ac:∃ kc,H' c=some (.dT kc)/\kc.length<=x/\∀ q,Bo kc (Bq q)=(D q).map fun n=>V.int ((n:Nat):Int)
 ad:∃ kd,H' d=some (.dT kd)/\kd.length<=x+1/\∀ q e,E q=some e->∃ y,Bo kd (Bq q)=some (.ref y)/\EvAt H' y e (2 * q.length)
 sm:Same H H'
theorem C3 {H:Hp}{x y:Addr}{o o':HO}(h:H x=some o)(h':H y=some o')(n:o≠o'):x≠y:=fun z=>by rw [z,h'] at h;exact n (P8 h).symm
theorem SameT.dt {H:Hp}{S:Addr}{kv:List (List Ap×V)}{o2:HO}(h:H S=some (.dT kv)):SameT H (upd H S o2):=fun b =>
 ⟨fun xs e=>by rw [Ag (C3 e h (fun z=>by cases z))];exact e,fun o' u e=>by rw [Ag (C3 e h (fun z=>by cases z))];exact e⟩
theorem EvAt.off {H:Hp}{a S:Addr}{e:Ev}{m:Nat}{o o2:HO}(h:EvAt H a e m)(hs:H S=some o)(n:∀ kv,o≠.dK kv):EvAt (upd H S o2) a e m:=by
 obtain ⟨kvs,h1,h2,h3⟩:=h.ex
 exact ⟨kvs,by rw [Ag (C3 h1 hs (fun z=>n _ z.symm))];exact h1,h2,h3⟩
theorem KiJ.keep {H H1 H2:Hp}{a b c d:Addr}{sh:Ai}{x:Nat}{D:Dn}{E:An}{ps:List (Nat×Nat)}(J:KiJ K H a b c d sh x D E ps H1)(s:Same H1 H2):KiJ K H a b c d sh x D E ps H2:=by
 obtain ⟨pv,e1,al⟩:=J.pr
 obtain ⟨kc,e2,l2,v2⟩:=J.ac
 obtain ⟨kd,e3,l3,v3⟩:=J.ad
 exact ⟨J.sg.same s,⟨pv,s _ _ e1,al.mono (PaAt.same s.t)⟩,⟨kc,s _ _ e2,l2,v2⟩,⟨kd,s _ _ e3,l3,fun q e hq=>let ⟨y,h1,h2⟩:=v3 q e hq;⟨y,h1,h2.same s⟩⟩,J.sm.trans s⟩
theorem KiJ.kind {H H1 H2:Hp}{a b c d:Addr}{sh sh':Ai}{x:Nat}{D:Dn}{E:An}{ps:List (Nat×Nat)}(J:KiJ K H a b c d sh x D E ps H1)(F:KiF H a b c d)(h:Bt a H1 H2)(S:ShG K H2 a sh'):KiJ K H a b c d sh' x D E ps H2:=by
 obtain ⟨pv,e1,al⟩:=J.pr
 obtain ⟨kc,e2,l2,v2⟩:=J.ac
 obtain ⟨kd,e3,l3,v3⟩:=J.ad
 obtain ⟨us,ea,_⟩:=J.sg.ex
 have t:=h.t ea
 refine ⟨S,⟨pv,h _ _ F.ab.symm e1,al.mono (PaAt.same t)⟩,⟨kc,h _ _ (C3 e2 ea (fun z=>by cases z)) e2,l2,v2⟩,⟨kd,h _ _ (C3 e3 ea (fun z=>by cases z)) e3,l3,fun q e hq=>?_⟩,fun y o e=>h y o (fun z=>by rw [z,F.ha] at e;cases e) (J.sm y o e)⟩
 obtain ⟨y,h1,ev⟩:=v3 q e hq
 obtain ⟨kvs,h2,h3,h4⟩:=ev.ex
 exact ⟨y,h1,kvs,h _ _ (C3 h2 ea (fun z=>by cases z)) h2,h3,h4⟩
theorem KiJ.pair {H H1:Hp}{a b c d:Addr}{sh:Ai}{x:Nat}{D:Dn}{E:An}{ps:List (Nat×Nat)}{pv:List V}{v:V}{y:Nat×Nat}(J:KiJ K H a b c d sh x D E ps H1)(F:KiF H a b c d)(eb:H1 b=some (.lst pv))(al:Al (PaAt K H1) pv ps)(hv:PaAt K H1 v y):KiJ K H a b c d sh x D E (ps++[y]) (upd H1 b (.lst (pv++[v]))):=by
 obtain ⟨kc,e2,l2,v2⟩:=J.ac
 obtain ⟨kd,e3,l3,v3⟩:=J.ad
 have t:=SameT.set (o:=.lst (pv++[v])) eb
 refine ⟨J.sg.off F.ab eb,⟨_,Ad,(al.mono (PaAt.same t)).snoc (PaAt.same t _ _ hv)⟩,⟨kc,by rw [Ag (C3 e2 eb (fun z=>by cases z))];exact e2,l2,v2⟩,⟨kd,by rw [Ag (C3 e3 eb (fun z=>by cases z))];exact e3,l3,fun q e hq=>?_⟩,J.sm.over F.hb⟩
 obtain ⟨y,h1,h2⟩:=v3 q e hq
 exact ⟨y,h1,h2.off eb (fun kv z=>by cases z)⟩
theorem Zia {kv:List (List Ap×V)}{q z:List Nat}{v:V}:Bo (Bc kv (Bq q) v) (Bq z)=if z=q then some v else Bo kv (Bq z):=by
 rw [J2]
 by_cases h:z=q
 ·rw [if_pos h,if_pos (by rw [h])]
 ·rw [if_neg h,if_neg fun e=>h (Zf9 e)]
theorem KiJ.ask {H H1:Hp}{a b c d:Addr}{sh:Ai}{x n:Nat}{D:Dn}{E:An}{ps:List (Nat×Nat)}{kc:List (List Ap×V)}{q:List Nat}(J:KiJ K H a b c d sh x D E ps H1)(F:KiF H a b c d)(ec:H1 c=some (.dT kc))(lc:kc.length<=x)(vc:∀ q,Bo kc (Bq q)=(D q).map fun n=>V.int ((n:Nat):Int)):KiJ K H a b c d sh (x+1) (fun z=>if z=q then some n else D z) E ps (upd H1 c (.dT (Bc kc (Bq q) (.int (n:Nat))))):=by
 obtain ⟨pv,e1,al⟩:=J.pr
 obtain ⟨kd,e3,l3,v3⟩:=J.ad
 obtain ⟨us,ea,ala⟩:=J.sg.ex
 have t:=SameT.dt (o2:=.dT (Bc kc (Bq q) (.int (n:Nat)))) ec
 refine ⟨⟨us,by rw [Ag (C3 ea ec (fun z=>by cases z))];exact ea,ala.mono (ShE.same t)⟩,⟨pv,by rw [Ag (C3 e1 ec (fun z=>by cases z))];exact e1,al.mono (PaAt.same t)⟩,⟨_,Ad,?_,fun z=>?_⟩,⟨kd,by rw [Ag F.cd.symm];exact e3,by omega,fun q e hq=>?_⟩,J.sm.over F.hc⟩
 ·have:=Ed kc (Bq q) (.int (n:Nat))
  omega
 ·rw [Zia,vc z]
  split <;> rfl
 ·obtain ⟨y,h1,h2⟩:=v3 q e hq
  exact ⟨y,h1,h2.off ec (fun kv z=>by cases z)⟩
theorem KiJ.name {H H1:Hp}{a b c d y:Addr}{sh:Ai}{x:Nat}{D:Dn}{E:An}{ps:List (Nat×Nat)}{kd:List (List Ap×V)}{q:List Nat}{e:Ev}(J:KiJ K H a b c d sh (x+1) D E ps H1)(F:KiF H a b c d)(ed:H1 d=some (.dT kd))(ld:kd.length<=x+1)(vd:∀ q e,E q=some e->∃ y,Bo kd (Bq q)=some (.ref y)/\EvAt H1 y e (2 * q.length))(he:EvAt H1 y e (2 * q.length)):KiJ K H a b c d sh (x+1) D (fun z=>if z=q then some e else E z) ps (upd H1 d (.dT (Bc kd (Bq q) (.ref y)))):=by
 obtain ⟨pv,e1,al⟩:=J.pr
 obtain ⟨kc,e2,l2,v2⟩:=J.ac
 obtain ⟨us,ea,ala⟩:=J.sg.ex
 have t:=SameT.dt (o2:=.dT (Bc kd (Bq q) (.ref y))) ed
 refine ⟨⟨us,by rw [Ag (C3 ea ed (fun z=>by cases z))];exact ea,ala.mono (ShE.same t)⟩,⟨pv,by rw [Ag (C3 e1 ed (fun z=>by cases z))];exact e1,al.mono (PaAt.same t)⟩,⟨kc,by rw [Ag F.cd];exact e2,l2,v2⟩,⟨_,Ad,?_,fun z e' hz=>?_⟩,J.sm.over F.hd⟩
 ·have:=Ed kd (Bq q) (.ref y)
  omega
 ·rw [Zia]
  have hz:(if z=q then some e else E z)=some e':=hz
  by_cases h:z=q
  ·rw [if_pos h] at hz ⊢
   cases hz
   exact ⟨y,rfl,by rw [h];exact he.off ed (fun kv z=>by cases z)⟩
  ·rw [if_neg h] at hz ⊢
   obtain ⟨y',h1,h2⟩:=vd z e' hz
   exact ⟨y',h1,h2.off ed (fun kv z=>by cases z)⟩
theorem KiJ.imp {H H1:Hp}{a b c d:Addr}{sh:Ai}{x x':Nat}{D D':Dn}{E E':An}{ps:List (Nat×Nat)}(J:KiJ K H a b c d sh x D E ps H1)(hx:x<=x')(hD:D=D')(hE:∀ q e,E' q=some e->E q=some e):KiJ K H a b c d sh x' D' E' ps H1:=by
 subst hD
 obtain ⟨kc,e2,l2,v2⟩:=J.ac
 obtain ⟨kd,e3,l3,v3⟩:=J.ad
 exact ⟨J.sg,J.pr,⟨kc,e2,by omega,v2⟩,⟨kd,e3,by omega,fun q e hq=>v3 q e (hE q e hq)⟩,J.sm⟩
theorem Zd0 (m:Nat)(w:Str):(A6 m w).2.1.length<=3/\(A6 m w).2.2.2.length<=3:=by
 unfold A6
 repeat (first | split | exact ⟨by decide,by decide⟩ | (constructor <;> simp))
theorem Ziv (pl:List Nat)(j:Nat):Bj (pl++[j])=Bj pl++[.int ((j:Nat):Int)]:=by unfold Bj;rw [Rn];rfl
theorem sc_kinds_in:Bf ["placed", "shapes", "pairs", "asked_at", "around_at", "place", "form", "given", "asked", "bound", "number", "kind", "part"] ["placed"] (A0 Lc):=by walk_at "sc"
theorem Zkp {f:Addr}{fd:FuncData}(F:Fun K "kinds_in" "kinds_in" Lc f fd)(T:Txt K mg){fs s0 s1:Addr}(G_FIRST_SHAPES:Ec mg "FIRST_SHAPES" (.ref fs))(hfs:∀ H,SqT K H fs [.ref s0,.ref s1])(hs0:∀ H,SqT K H s0 [.str "num"])(hs1:∀ H,SqT K H s1 [.str "truth"])
  (C_kinds_of_word:Ba P w K mg base 2 "kinds_of_word" ["shapes", "word"] (Ze1 K)) (C_with_names:Ba P w K mg base 1 "with_names" ["around", "names", "kinds"] (Zeh K)) (C_names_bound:Ba P w K mg base 1 "names_bound" ["form", "number"] (Oi K)):As P w K mg base Az 3 f fd ["placed"] (Zfl K):=by
 refine F.okq sc_kinds_in (fun vs H Q E h=>?_) (fun cdv A outer s H vs Q E hr h=>?_)
 ·obtain ⟨p,rows,rs,ps,sh',rfl,_⟩:=h
  rfl
 ·obtain ⟨p,rows,rs,ps,sh',rfl,ep,al,hl,hpl,hK,q⟩:=h
  refine ⟨_,Ae (Aq 1 sc_kinds_in (Ep (Nw K) (by rfl) T.list (by decide +kernel) (Aa (D7 G_FIRST_SHAPES) Ab)))
   (Ae (Aq 2 sc_kinds_in (Bh Ab))
   (Ae (Aq 3 sc_kinds_in (Zp4))
   (Ae (Aq 4 sc_kinds_in (Zls hr.u1 (Ar Ab) (Zbq)))
   (Ae (Cg Qf rfl (C0 K (qv 0)) (Cv K (n:=2) rfl (Bk (Ax (i:=5) sc_kinds_in.nd rfl (Or.inl rfl)) (Bk (Ax (i:=6) sc_kinds_in.nd rfl (Or.inl rfl)) (Cw)))) (Ae (Ng (Ay C_kinds_of_word hr.m (Aa (qv 1) (Aa (Ao K (qv 6) Ah) Ab))) (Cv K (n:=3) rfl (Bk (Ax (i:=7) sc_kinds_in.nd rfl (Or.inl rfl)) (Bk (Ax (i:=8) sc_kinds_in.nd rfl (Or.inl rfl)) (Bk (Ax (i:=9) sc_kinds_in.nd rfl (Or.inl rfl)) (Cw))))))
   (Ae (Au (A8 (Bg K hr.u200) (Ao K (qv 6) Ah) Av (A1 _)) (Af (Aq 7 sc_kinds_in (Zdj hr.u1 (Ir hr.u1 (qv 4) (qv 5) (fun _ _=>rfl)) (Ao K (qv 6) Ah) (qv 7)))) Aw)
   (Ae (Cm (Dk K Qp Q9 Ra D4 (qv 2) (Aa (Ar (Aa (qv 7) (Aa (Zdj hr.u1 (qv 3) (qv 5) (qv 7)) Ab))) Ab)))
   (Af (Cg Qf rfl (M7 K rfl T.enumerate (Aa (qv 8) Ab)) (Cv K (n:=2) rfl (Bk (Ax (i:=10) sc_kinds_in.nd rfl (Or.inl rfl)) (Bk (Ax (i:=11) sc_kinds_in.nd rfl (Or.inl rfl)) (Cw)))) (Ae (Aq 12 sc_kinds_in (A7 (Zdw K) (qv 5) (Ar (Aa (qv 10) Ab))))
   (Ae (Ho hr.u1 (qv 3) (qv 12) (qv 11))
   (Af (Ho hr.u1 (qv 4) (qv 12) (Ay C_with_names hr.m (Aa (Ir hr.u1 (qv 4) (qv 5) (fun _ _=>rfl)) (Aa (Ay C_names_bound hr.m (Aa (qv 6) (Aa (qv 10) Ab))) (Aa (qv 9) Ab))))))))))))))
   (Af (Am (Ar (Aa (qv 1) (Aa (qv 2) Ab))))))))),?_⟩
  have bg:=big
  walk_at "r"
  refine ⟨fs,_,rfl,.inr (hfs H),fun a ha=>?_⟩
  have t1:=Same.upd (o:=.lst [.ref s0,.ref s1]) ha
  walk_at "r"
  refine ⟨Bs,fun b hb=>?_⟩
  have t2:=Same.upd (o:=.lst []) hb
  walk_at "r"
  refine fun c hc=>?_
  have t3:=Same.upd (o:=.dT []) hc
  walk_at "r"
  refine fun d hd=>?_
  have t4:=Same.upd (o:=.dT []) hd
  walk_at "r"
  refine ⟨Bs,fun e0 he0=>?_⟩
  have t5:=Same.upd (o:=.tup []) he0
  refine fun e1 he1=>?_
  have t6:=Same.upd (o:=.dK []) he1
  have ed:=(t5.trans t6) d _ Ad
  have ee0:=t6 e0 _ Ad
  refine ⟨_,DPut.t (k:=Bq []) ed (by show _=some (HO.tup []);exact ee0) (by show 0 < sizeLine;decide),?_⟩
  have sH:=((((t1.trans t2).trans t3).trans t4).trans t5).trans t6
  have fK:KiF H a b c d:=⟨ha,t1.free hb,(t1.trans t2).free hc,((t1.trans t2).trans t3).free hd,A5 Ad hb,A5 Ad hd⟩
  have J0:KiJ K H a b c d [.num,.truth] 0 (fun _=>none) (fun _=>none) [] _:=⟨⟨[.ref s0,.ref s1],((((t2.trans t3).trans t4).trans t5).trans t6) a _ Ad,(Al.nil.snoc (x:=Sh.num) ⟨s0,rfl,hs0 _⟩).snoc (x:=Sh.truth) ⟨s1,rfl,hs1 _⟩⟩,⟨[],(((t3.trans t4).trans t5).trans t6) b _ Ad,.nil⟩,⟨[],((t4.trans t5).trans t6) c _ Ad,Po _,fun q=>rfl⟩,⟨[],ed,Qd _,fun q e h=>by cases h⟩,sH⟩
  have J1:=((J0.imp (x':=1) (by decide) rfl (fun _ _ h=>h)).name (x:=0) (q:=[]) (y:=e1) (e:=fun _=>none) fK ed (Qd _) (fun q e h=>by cases h) ⟨[],Ad,fun _=>rfl,Po _⟩)
  revert J1
  generalize upd _ d _=H1
  intro J1
  walk_at "r"
  refine .inl ⟨p,rfl,⟨_,SqL.of (J1.sm _ _ ep)⟩,?_⟩
  refine M8 (K:=K) (a:=p) (xs:=rows) (fun i σ' H'=>∃ v5 v6 v7 v8 v9 v10 v11 v12 sh D E ps1 ps2,σ'=[some (.ref p),some (.ref a),some (.ref b),some (.ref c),some (.ref d),v5,v6,v7,v8,v9,v10,v11,v12]/\KiJ K H a b c d sh (1+3 * i) D E ps1 H'/\sh.length<=2+3 * i/\ps1.length=i/\KinG (rs.drop i) sh D E ps2 sh'/\ps1++ps2=ps)
   ⟨_,_,_,_,_,_,_,_,[.num,.truth],fun _=>none,fun q=>if q=[] then some (fun _=>none) else none,[],ps,rfl,J1.imp (by decide) rfl (fun q e h=>h),Po _,rfl,hK,rfl⟩ ?_ ?_ ?_
  ·rintro i σ' H' _ ⟨_,_,_,_,_,_,_,_,_,_,_,_,_,_,J,_⟩
   exact SqL.of (J.sm _ _ ep)
  ·rintro i x σ' H2 hx ⟨v5,v6,v7,v8,v9,v10,v11,v12,sh,D,E1,ps1,ps2,rfl,J,hm,hpn,hKi,hps⟩
   obtain ⟨y,hy,hrow⟩:=al.get hx
   have hi:=(Pt.mp hy).1
   obtain ⟨pl,t⟩:=y
   have hplen:pl.length<=40:=hpl _ (Rj hy)
   have hdr:rs.drop i=(pl,t)::rs.drop (i+1):=by
    rw [Rs hi]
    rw [Pn hi] at hy
    rw [P8 hy]
   rw [hdr] at hKi
   cases hKi with
   | @cons _ wd n ts _ _ _ _ _ ev ps3 hA hsh hK2 =>
   obtain ⟨ra,pp,u,rfl,qra,epp,hu⟩:=hrow
   have hu0:=hu
   cases hu with
   | @mk bq pq _ nv _ us _ qb hno qpp hul hch =>
   obtain ⟨kl1,kl2⟩:=Zd0 sh.length wd
   walk_at "r"
   refine Da (J.sm.tup qra) rfl ?_
   walk_at "r"
   refine A4 (J.sm.tup qb) rfl ?_
   walk_at "r"
   refine ⟨a,wd,sh,rfl,by omega,J.sg,fun r bb cc H3 hbt S3 qr ebb hbb nbb ecc hcc ncc ncb=>?_⟩
   have J3:=J.kind fK hbt S3
   obtain ⟨pv,eb3,alp⟩:=J3.pr
   obtain ⟨kc,ec3,lc3,vc3⟩:=J3.ac
   obtain ⟨kd3,ed3,_,vd3⟩:=J3.ad
   have hbb0:b≠bb:=by
    obtain ⟨pv0,eb0,_⟩:=J.pr
    exact A5 eb0 hbb
   have hbc0:b≠cc:=by
    obtain ⟨pv0,eb0,_⟩:=J.pr
    exact A5 eb0 hcc
   have epp3:H3 pp=some (.tup ((Bq pl).map kV)):=by rw [Ld];exact J3.sm _ _ epp
   refine Da qr rfl ?_
   walk_at "q"
   refine N3 (R:=fun σ' H'=>H'=H3/\σ'=[some (.ref p),some (.ref a),some (.ref b),some (.ref c),some (.ref d),some (.ref pp),some (.ref bq),some (.int (Ej sh.length wd n ev:Nat)),some (.ref bb),some (.ref cc),v10,v11,v12]) ?_ ?_
   ·intro Y hY
    walk_at "r"
    refine A4 (J3.sm.tup qb) rfl ?_
    walk_at "r"
    rw [Fh]
    refine Bw (fun cn=>?_) (fun cn=>?_)
    ·have cn:=of_decide_eq_true cn
     obtain ⟨y,vy,evy⟩:=vd3 pl ev hA
     obtain ⟨kvy,ey,dcy,_⟩:=evy.ex
     obtain ⟨tn,rfl⟩:=hsh.1 (.inr (.inr cn))
     have hnv:=M5 hno
     subst hnv
     walk_at "r"
     refine ⟨d,.ref y,rfl,by rw [<- vy];exact DGet.t ed3 epp3,?_⟩
     refine ⟨y,rfl,.inl ⟨_,.inl ey⟩,?_⟩
     walk_at "r"
     refine A4 (J3.sm.tup qb) rfl ?_
     walk_at "r"
     refine ⟨_,DGet.k (k:=.inr tn) ey,?_⟩
     rw [dcy tn]
     have eg:((ev tn).map fun n=>V.int ((n:Nat):Int)).getD (.int ((A6 sh.length wd).1:Nat))=.int (Ej sh.length wd (.flat (.str tn)) ev:Nat):=by
      unfold Ej
      rw [if_pos cn]
      show _=V.int (((ev tn).getD _:Nat):Int)
      cases ev tn <;> rfl
     rw [eg]
     walk_at "r"
     exact hY _ _ ⟨rfl,rfl⟩
    ·have cn:¬ wd = "name" := fun e=>cn (decide_eq_true e)
     have eg:Ej sh.length wd n ev=(A6 sh.length wd).1:=if_neg cn
     rw [eg] at hY
     exact hY _ _ ⟨rfl,rfl⟩
   rintro _ H3x ⟨hHx,rfl⟩
   rw [hHx]
   clear hHx
   walk_at "r"
   refine Cf (SqL.of eb3) ?_
   walk_at "r"
   refine ⟨c,rfl,.inr ⟨_,.inl ec3⟩,?_⟩
   walk_at "r"
   refine ⟨_,DGet.t ec3 epp3,?_⟩
   generalize hgv:Ej sh.length wd n ev=gv
   have eg:(Bo kc (Bq pl)).getD (.int (gv:Nat))=.int (((D pl).getD gv:Nat):Int):=by
    rw [vc3]
    cases D pl <;> rfl
   rw [eg]
   walk_at "r"
   refine ⟨Bu,fun pt hpt=>?_⟩
   have s4:=Same.upd (o:=.tup [.int (gv:Nat),.int (((D pl).getD gv:Nat):Int)]) hpt
   walk_at "r"
   have hpvl:pv.length < sizeLine:=by rw [alp.1,hpn];omega
   refine Dd (s4 _ _ eb3) hpvl ?_
   have J4:=(J3.keep s4).pair (v:=.ref pt) (y:=(gv,(D pl).getD gv)) fK (s4 _ _ eb3) (alp.mono (PaAt.same s4.t)) ⟨pt,rfl,SqT.of Ad⟩
   have ebb4:upd (upd H3 pt (.tup [.int (gv:Nat),.int (((D pl).getD gv:Nat):Int)])) b (.lst (pv++[.ref pt])) bb=some (.lst (Ak (A6 sh.length wd).2.1)):=by rw [Ag hbb0.symm];exact s4 _ _ ebb
   have ecc4:upd (upd H3 pt (.tup [.int (gv:Nat),.int (((D pl).getD gv:Nat):Int)])) b (.lst (pv++[.ref pt])) cc=some (.lst (Ak (A6 sh.length wd).2.2.1)):=by rw [Ag hbc0.symm];exact s4 _ _ ecc
   revert J4 ebb4 ecc4
   generalize upd (upd H3 pt (.tup [.int (gv:Nat),.int (((D pl).getD gv:Nat):Int)])) b (.lst (pv++[.ref pt]))=H4
   intro J4 ebb4 ecc4
   generalize has:(A6 sh.length wd).2.1=as at ebb4 kl1 hK2 ebb
   generalize hbd:(A6 sh.length wd).2.2.1=bd at ecc4 hK2 ecc
   walk_at "r"
   refine ⟨bb,_,rfl,SqL.of ebb4,?_⟩
   have hasl:(Ak as).length=as.length:=by unfold Ak;exact Pw ..
   refine Mw (K:=K) (a:=bb) (xs:=Ak as) (fun j σ5 H5=>∃ Dw Fd He,σ5=[some (.ref p),some (.ref a),some (.ref b),some (.ref c),some (.ref d),some (.ref pp),some (.ref bq),some (.int (gv:Nat)),some (.ref bb),some (.ref cc),Dw,Fd,He]/\KiJ K H a b c d (sh++(A6 sh.length wd).2.2.2) (1+3 * i+j) (E9 D pl 0 (as.take j)) (D8 E1 pl (fun j=>C9 ev (nb wd n j) bd) j) (ps1++[(gv,(D pl).getD gv)]) H5/\H5 bb=some (.lst (Ak as))/\H5 cc=some (.lst (Ak bd)))
    ⟨_,_,_,rfl,J4.imp (Po _) (by rw [List.take_zero];rfl) (fun q e hq=>hq),ebb4,ecc4⟩ ?_ ?_ ?_
   ·rintro j σ5 H5 _ ⟨_,_,_,_,_,e,_⟩
    exact SqL.of e
   ·rintro j x tt σ5 H5 hx2 htt ⟨Dw,Fd,He,rfl,J5,ebb5,ecc5⟩
    have hj:j < as.length:=by have:=(Pt.mp hx2).1;rwa [hasl] at this
    have hxv:x=.int ((as[j]:Nat):Int):=by unfold Ak at hx2;rw [Qj,Pn hj] at hx2;exact (P8 hx2).symm
    subst hxv
    have s6:=Same.upd (o:=.tup [.int (j:Nat),.int ((as[j]:Nat):Int)]) htt
    have J6:=J5.keep s6
    refine Da (SqT.of Ad) rfl ?_
    have ebb6:=s6 _ _ ebb5
    have ecc6:=s6 _ _ ecc5
    revert J6 ebb6 ecc6
    generalize upd H5 tt (.tup [.int (j:Nat),.int ((as[j]:Nat):Int)])=H6
    intro J6 ebb6 ecc6
    walk_at "r"
    refine ⟨B5,fun p7 h7=>?_⟩
    have s7:=Same.upd (o:=.tup [.int (j:Nat)]) h7
    refine .inr ⟨pp,p7,_,_,rfl,rfl,s7 _ _ (J6.sm _ _ epp),Ad,by show (Bj pl).length+1<=sizeLine;unfold Bj;rw [Pw];omega,fun pa H8 s8 epa=>?_⟩
    have s78:=s7.trans s8
    have J8:=J6.keep s78
    have ebb8:=s78 _ _ ebb6
    have ecc8:=s78 _ _ ecc6
    rw [<- Ziv] at epa
    have epa8:H8 pa=some (.tup ((Bq (pl++[j])).map kV)):=by rw [Ld];exact epa
    obtain ⟨kc8,ec8,lc8,vc8⟩:=J8.ac
    obtain ⟨kd8,ed8,ld8,_⟩:=J8.ad
    walk_at "r"
    refine ⟨c,_,rfl,DPut.t (k:=Bq (pl++[j])) ec8 epa8 (by omega),?_⟩
    have J9:=J8.ask (n:=as[j]) (q:=pl++[j]) fK ec8 lc8 vc8
    have t9:=SameT.dt (o2:=.dT (Bc kc8 (Bq (pl++[j])) (.int ((as[j]:Nat):Int)))) ec8
    have epa9:=(t9 pa).1 _ epa8
    have ebb9:upd H8 c (.dT (Bc kc8 (Bq (pl++[j])) (.int ((as[j]:Nat):Int)))) bb=some (.lst (Ak as)):=by rw [Ag (C3 ebb8 ec8 (fun z=>by cases z))];exact ebb8
    have ecc9:upd H8 c (.dT (Bc kc8 (Bq (pl++[j])) (.int ((as[j]:Nat):Int)))) cc=some (.lst (Ak bd)):=by rw [Ag (C3 ecc8 ec8 (fun z=>by cases z))];exact ecc8
    have ed98:upd H8 c (.dT (Bc kc8 (Bq (pl++[j])) (.int ((as[j]:Nat):Int)))) d=some (.dT kd8):=by rw [Ag fK.cd.symm];exact ed8
    revert J9 epa9 ebb9 ecc9 ed98
    generalize upd H8 c (.dT (Bc kc8 (Bq (pl++[j])) (.int ((as[j]:Nat):Int))))=H9
    intro J9 epa9 ebb9 ecc9 ed98
    obtain ⟨kd9,ed9,_,vd9⟩:=J9.ad
    rw [ed9] at ed98
    cases ed98
    have hApl:D8 E1 pl (fun j=>C9 ev (nb wd n j) bd) j pl=some ev:=by rw [Zc2];exact hA
    obtain ⟨e9,ve9,he9⟩:=vd9 pl ev hApl
    have epp9:H9 pp=some (.tup ((Bq pl).map kV)):=by rw [Ld];exact J9.sm _ _ epp
    walk_at "r"
    refine ⟨d,.ref e9,rfl,by rw [<- ve9];exact DGet.t ed9 epp9,?_⟩
    walk_at "r"
    refine ⟨.ref bq,wd,n,ts,j,rfl,hu0.same J9.sm,hsh,fun pn HA hpn sA epn=>?_⟩
    walk_at "r"
    refine ⟨e9,pn,cc,ev,nb wd n j,bd,2 * pl.length,rfl,he9.same sA,by omega,epn,sA _ _ ecc9,nbl3 _ _ _,fun pz HB sB' hpz evz=>?_⟩
    have sB:=sA.trans sB'
    walk_at "r"
    have JB:=J9.keep sB
    have lda:kd8.length < sizeLine:=by omega
    have edB:=sB _ _ ed9
    refine ⟨d,_,rfl,DPut.t (k:=Bq (pl++[j])) edB (sB _ _ epa9) lda,?_⟩
    have evz':EvAt HB pz (C9 ev (nb wd n j) bd) (2 * (pl++[j]).length):=by rw [Px,Qm];exact evz
    refine ⟨_,_,_,rfl,(JB.name (x:=1+3 * i+j) (q:=pl++[j]) (y:=pz) fK edB (by omega) (fun q e hq=>let ⟨y,h1,h2⟩:=vd9 q e hq;⟨y,h1,h2.same sB⟩) evz').imp (by omega) ?_ (fun q e hq=>hq),?_,?_⟩
    ·rw [Re,Pn hj]
     show _=E9 D pl 0 (as.take j++[as[j]])
     rw [Zch,Qb,Uj (Ur hj),V7]
    ·rw [Ag (C3 (sB _ _ ebb9) edB (fun z=>by cases z))]
     exact sB _ _ ebb9
    ·rw [Ag (C3 (sB _ _ ecc9) edB (fun z=>by cases z))]
     exact sB _ _ ecc9
   ·rintro σ5 H5 ⟨Dw,Fd,He,rfl,J5,ebb5,ecc5⟩
    rw [hasl] at J5
    rw [hgv] at hps
    refine ⟨_,_,_,_,_,_,_,_,_,_,_,ps1++[(gv,(D pl).getD gv)],ps3,rfl,J5.imp (by omega) (by rw [Sj (Po _)]) (fun q e hq=>hq),by rw [Px];omega,by simp [hpn],hK2,by rw [<- hps,Rl];rfl⟩
  ·rintro σ' H2 ⟨v5,v6,v7,v8,v9,v10,v11,v12,sh,D,E1,ps1,ps2,rfl,J,hm,hpn,hKi,hps⟩
   rw [al.1,W2] at hKi
   cases hKi
   rw [Qx] at hps
   subst hps
   obtain ⟨pv,eb,alp⟩:=J.pr
   walk_at "r"
   refine ⟨Bu,fun r hr'=>?_⟩
   have s3:=Same.upd (o:=.tup [.ref a,.ref b]) hr'
   exact q r a b pv _ (J.sm.trans s3) (SqT.of Ad) (J.sg.same s3) (s3 _ _ eb) (alp.mono (PaAt.same s3.t))
noncomputable def Pa:Sp:=fun vs H Q _=>∃ k:Int,vs=[.int k]/\Q (.bl true) H
theorem Zn0:Bf ["thing"] ["thing"] (A0 Kx):=by walk_at "sc"
theorem Ztt {f:Addr}{fd:FuncData}(F:Fun K "is_whole" "is_whole" Kx f fd)(T:Txt K mg):As P w K mg base Az 1 f fd ["thing"] Pa:=by
 refine F.okq Zn0 (fun vs H Q E h=>?_) (fun cdv A outer s H vs Q E hr h=>?_)
 ·obtain ⟨k,rfl,_⟩:=h
  rfl
 ·obtain ⟨k,rfl,q⟩:=h
  refine ⟨_,Af (Am (Di (A9 (B1 K "int") (by rfl) T.isinstance (by decide +kernel) (Aa (qv 0) (Aa (Bx (v:=.ty "int") (by rfl) T.int (by decide +kernel) rfl) Ab))) (Eo (My (A9 (B1 K "bool") (by rfl) T.isinstance (by decide +kernel) (Aa (qv 0) (Aa (Bx (v:=.ty "bool") (by rfl) T.bool (by decide +kernel) rfl) Ab))))))),?_⟩
  walk_at "r"
  refine Cj (.int _) Zlh ?_
  walk_at "r"
  refine Cj (.int _) Zid ?_
  walk_at "r"
  exact q
noncomputable def Zdk (K:Pk):Sp:=fun vs H Q _=>∃(v:V)(w:Str)(n:Dt)(ps:List Tr)(k:Nat),vs=[v,.int (k:Nat)]/\TrAt K H v (.mk w n ps)/\k < ps.length/\Q (.bl true) H
theorem Zfc:Bf ["form", "number"] ["form", "number"] (A0 Ie):=by walk_at "sc"
theorem Zkw {f:Addr}{fd:FuncData}(F:Fun K "has_part" "has_part" Ie f fd)(T:Txt K mg)(C_is_whole:Ba P w K mg base 1 "is_whole" ["thing"] Pa):As P w K mg base Az 2 f fd ["form", "number"] (Zdk K):=by
 refine F.okq Zfc (fun vs H Q E h=>?_) (fun cdv A outer s H vs Q E hr h=>?_)
 ·obtain ⟨v,w,n,ps,k,rfl,_⟩:=h
  rfl
 ·obtain ⟨v,w,n,ps,k,rfl,ht,hk,q⟩:=h
  refine ⟨_,Af (Am (Di (Ay C_is_whole hr.m (Aa (qv 1) Ab)) (Eo (Zg2 Zd3 Me Ah (qv 1) (A9 (Ek K) (by rfl) T.len (by decide +kernel) (Aa (Ao K (qv 0) Ah) Ab)))))),?_⟩
  cases ht with
  | @mk b pp _ nv _ us _ qb hn qp l hch =>
  walk_at "r"
  refine ⟨_,rfl,?_⟩
  walk_at "r"
  refine Bw (fun _=>?_) (fun c=>absurd (decide_eq_true (by omega)) c)
  walk_at "r"
  refine A4 qb rfl ?_
  walk_at "r"
  refine Gf qp ?_
  walk_at "r"
  have e:decide ((k:Int) < (us.length:Int))=true:=decide_eq_true (by omega)
  rw [e]
  exact q
theorem Gx {α:Type}{xs:List α}{x:α}(h:xs[xs.length - 1]?=some x):B4 xs (-1)=some x:=by
 have hl:=(Pt.mp h).1
 unfold B4 Dm
 rw [if_neg (by omega),if_pos (by omega)]
 have e:((-1:Int)+(xs.length:Int)).toNat=xs.length - 1:=by omega
 simpa [e] using h
theorem Za2 {α:Type}{xs:List α}{i:Int}{x:α}(j:Nat)(hj:(j:Int)=i)(h:xs[j]?=some x):B4 xs i=some x:=by
 have hl:=(Pt.mp h).1
 subst hj
 unfold B4 Dm
 rw [if_pos (by omega),if_pos (by omega)]
 simpa using h
theorem Zbv {pl:List Nat}{i:Nat}{v:V}(h:(Bj pl)[i]?=some v):∃ k,v=.int (k:Nat)/\pl[i]?=some k:=by
 unfold Bj at h
 rw [Qj] at h
 cases e:pl[i]? with
 | none=>rw [e] at h;cases h
 | some x=>rw [e] at h;exact ⟨x,(P8 h).symm,rfl⟩
theorem Hz (pl:List Nat):(Bj pl).length=pl.length:=by unfold Bj;simp
noncomputable def Ms (K:Pk):Sp:=fun vs H Q _=>∃(v:V)(t:Tr)(p:Addr)(pl:List Nat),vs=[v,.ref p]/\TrAt K H v t/\SqT K H p (Bj pl)/\Sub t pl/\pl.length<=1000 /\
 ∀(q:Addr)(ws:List V)(H':Hp),H q=none->Same H H'->H' q=some (.lst ws)->Al (TrAt K H') ws (Bm t pl)->Q (.ref q) H'
theorem sc_forms_down_to:Bf ["tree", "place", "passed", "number"] ["tree", "place"] (A0 Jm):=by walk_at "sc"
theorem Zm2 {f:Addr}{fd:FuncData}(F:Fun K "forms_down_to" "forms_down_to" Jm f fd)(T:Txt K mg)(C_has_part:Ba P w K mg base 2 "has_part" ["form", "number"] (Zdk K)):As P w K mg base Az 3 f fd ["tree", "place"] (Ms K):=by
 refine F.okq sc_forms_down_to (fun vs H Q E h=>?_) (fun cdv A outer s H vs Q E hr h=>?_)
 ·obtain ⟨v,t,p,pl,rfl,_⟩:=h
  rfl
 ·obtain ⟨v,t,p,pl,rfl,ht,hp,hs,hl,q⟩:=h
  refine ⟨_,Ae (Aq 2 sc_forms_down_to (Bh (Aa (qv 0) Ab)))
   (Ae (Cg Qf rfl (C0 K (qv 1)) (Ax (i:=3) sc_forms_down_to.nd rfl (Or.inl rfl)) (Ae (Au (Dv (B0 (Ay C_has_part hr.m (Aa (Ao K (qv 2) (Fo F3 Ah)) (Aa (qv 3) Ab))))) (Af Zhh) Aw)
   (Af (Cm (Dk K Qp Q9 Ra D4 (qv 2) (Aa (Ao K (Ao K (Ao K (qv 2) (Fo F3 Ah)) Ah) (qv 3)) Ab))))))
   (Af (Am (qv 2)))),?_⟩
  have bg:=big
  walk_at "r"
  refine ⟨B5,fun q0 hq0=>?_⟩
  obtain ⟨H1,s1,e1,z9⟩:=Dc hq0 (.lst [v])
  rw [z9]
  walk_at "r"
  refine .inr (.inl ⟨p,rfl,⟨_,s1.tup hp⟩,?_⟩)
  have p0:(Bm t pl).take 1=[t]:=by
   have:=Lw t pl
   cases e:Bm t pl with
   | nil=>rw [e] at this;cases this
   | cons a r =>
    rw [e] at this
    have h:a=t:=by simpa using this
    rw [h]
    rfl
  refine Op (K:=K) (a:=p) (xs:=Bj pl) (fun i σ' H'=>∃ w3 ws,σ'=[some v,some (.ref p),some (.ref q0),w3]/\H' q0=some (.lst ws)/\Al (TrAt K H') ws ((Bm t pl).take (i+1))/\Same H H') ⟨none,[v],rfl,e1,by rw [p0];exact Al.nil.snoc (ht.same s1),s1⟩ ?_ ?_ ?_
  ·rintro i σ' H' _ ⟨_,_,_,_,_,sm⟩
   exact sm.tup hp
  ·rintro i x σ' H' hx ⟨w3,ws,rfl,e2,al,sm⟩
   obtain ⟨k,rfl,hk⟩:=Zbv hx
   obtain ⟨w',n',ps,u,a1,a2,a3⟩:=Kc hs i k hk
   have hi:=(Pt.mp hk).1
   have hpl:=Io hs
   have hwl:ws.length=i+1:=by rw [al.1,Qb];omega
   have hx1:((Bm t pl).take (i+1))[i]?=some (.mk w' n' ps):=by rw [Vh,if_pos (by omega)];exact a1
   obtain ⟨vi,hvi,hti⟩:=al.get' hx1
   have hlast:B4 ws (-1)=some vi:=Gx (by rw [hwl];exact hvi)
   cases hti with
   | @mk b pp _ nv _ us _ qb hn qp l hch =>
   have hku:k < us.length:=by rw [l];exact (Pt.mp a2).1
   walk_at "r"
   refine Bl (SqL.of e2) hlast ?_
   walk_at "r"
   refine ⟨_,w',n',ps,k,rfl,.mk qb hn qp l hch,by omega,?_⟩
   walk_at "r"
   refine Cf (SqL.of e2) ?_
   walk_at "r"
   refine Bl (SqL.of e2) hlast ?_
   walk_at "r"
   refine A4 qb rfl ?_
   walk_at "r"
   refine A4 qp (Za2 k rfl (Pn hku)) ?_
   walk_at "r"
   refine Dd e2 (by omega) ?_
   walk_at "r"
   have t3:SameT H' (upd H' q0 (.lst (ws++[us[k]]))):=SameT.set e2
   refine ⟨_,ws++[us[k]],rfl,Ad,?_,sm.over hq0⟩
   have e3:(Bm t pl).take (i+1+1)=(Bm t pl).take (i+1)++[u]:=by rw [R9,a3];rfl
   rw [e3]
   exact (al.mono fun _ _ z=>z.sameT t3).snoc ((hch k _ u (Pn hku) a2).sameT t3)
  ·rintro σ' H' ⟨w3,ws,rfl,e2,al,sm⟩
   rw [Hz,Sj (by rw [Io hs];omega)] at al
   walk_at "r"
   exact q q0 ws H' hq0 sm e2 al
noncomputable def BdAt (K:Pk)(H:Hp)(pl:List Nat)(v:V)(x:Str×Nat):Prop:=∃(a b:Addr),v=.ref a/\SqT K H a [.str x.1,.ref b]/\SqT K H b (Bj (pl.take x.2))
theorem BdAt.same {H H':Hp}{pl:List Nat}(e:SameT H H')(v:V)(x:Str×Nat)(h:BdAt K H pl v x):BdAt K H' pl v x:=by
 obtain ⟨a,b,h1,h2,h3⟩:=h
 exact ⟨a,b,h1,e.tup h2,e.tup h3⟩
theorem Zgp (w:Str)(n:Dt)(k:Nat):(nb w n k).length<=2:=by
 have h1:(Jl n).length<=2:=by unfold Jl;split <;> simp
 have h2:(Kn n).length<=2:=by unfold Kn;split <;> simp
 unfold nb
 split
 ·exact h1
 ·split
  ·exact h2
  ·split
   ·exact h1
   ·simp
theorem Zcy {t:Tr}{pl:List Nat}(s:Sub t pl):∀ l∈C5 t pl,l.length<=2:=by
 induction s with
 | nil t=>intro l h;cases t;cases h
 | cons h _ ih =>
  intro l hl
  rw [Hn h] at hl
  rcases Pu.mp hl with rfl | hl
  ·exact Zgp _ _ _
  ·exact ih l hl
theorem Os:∀(d:Nat)(ls:List (List Str)),(∀ l∈ls,l.length<=2)->(C1 d ls).length<=2 * ls.length
 | _,[],_=>by simp [C1]
 | d,l::r,h=>by
  have h1:=h l T7
  have h2:=Os (d+1) r fun x hx=>h x (R3 _ hx)
  rw [C1,Px,Pw,Py]
  omega
theorem Zem {t:Tr}{pl:List Nat}(s:Sub t pl):(bn t pl).length<=2 * pl.length:=by
 have:=Os 0 (C5 t pl) (Zcy s)
 rw [Zhw s] at this
 exact this
theorem Zmq (pl:List Nat)(k:Nat):(Bj pl).take k=Bj (pl.take k):=by unfold Bj;rw [List.map_take]
noncomputable def Zfi (K:Pk):Sp:=fun vs H Q _=>∃(v:V)(t:Tr)(p:Addr)(pl:List Nat),vs=[v,.ref p]/\TrAt K H v t/\TrSh t/\SqT K H p (Bj pl)/\Sub t pl/\pl.length<=1000 /\
 ∀(q:Addr)(ws:List V)(H':Hp),H q=none->Same H H'->H' q=some (.lst ws)->Al (BdAt K H' pl) ws (bn t pl)->Q (.ref q) H'
theorem sc_bindings_at:Bf ["tree", "place", "told", "depth", "above", "name"] ["tree", "place"] (A0 Ks):=by walk_at "sc"
theorem Zm6 {f:Addr}{fd:FuncData}(F:Fun K "bindings_at" "bindings_at" Ks f fd)(T:Txt K mg)(C_forms_down_to:Ba P w K mg base 3 "forms_down_to" ["tree", "place"] (Ms K))(C_names_bound:Ba P w K mg base 1 "names_bound" ["form", "number"] (Oi K)):As P w K mg base Az 4 f fd ["tree", "place"] (Zfi K):=by
 refine F.okq sc_bindings_at (fun vs H Q E h=>?_) (fun cdv A outer s H vs Q E hr h=>?_)
 ·obtain ⟨v,t,p,pl,rfl,_⟩:=h
  rfl
 ·obtain ⟨v,t,p,pl,rfl,ht,hsh,hp,hs,hl,q⟩:=h
  refine ⟨_,Ae (Aq 2 sc_bindings_at (Bh Ab))
   (Ae (Cg Qf rfl (M7 K rfl T.enumerate (Aa (Gh (Mp K) (Ay C_forms_down_to hr.m (Aa (qv 0) (Aa (qv 1) Ab))) (Gw) (Gn (Fo F3 Ah))) Ab)) (Cv K (n:=2) rfl (Bk (Ax (i:=3) sc_bindings_at.nd rfl (Or.inl rfl)) (Bk (Ax (i:=4) sc_bindings_at.nd rfl (Or.inl rfl)) (Cw)))) (Af (Cg Qf rfl (C0 K (Ay C_names_bound hr.m (Aa (qv 4) (Aa (Ao K (qv 1) (qv 3)) Ab)))) (Ax (i:=5) sc_bindings_at.nd rfl (Or.inl rfl)) (Af (Cm (Dk K Qp Q9 Ra D4 (qv 2) (Aa (Ar (Aa (qv 5) (Aa (Gh (Mp K) (qv 1) (Gw) (Gn (qv 3))) Ab))) Ab)))))))
   (Af (Am (qv 2)))),?_⟩
  have bg:=big
  have hpl:=Io hs
  have hll:=Zhw hs
  have hbl:=Zem hs
  walk_at "r"
  refine ⟨Bs,fun q0 hq0=>?_⟩
  obtain ⟨H1,s1,e1,z9⟩:=Dc hq0 (.lst [])
  rw [z9]
  walk_at "r"
  refine ⟨v,t,p,pl,rfl,ht.same s1,s1.tup hp,hs,hl,fun q2 ws H2 hq2 s2 e2 al=>?_⟩
  walk_at "r"
  refine Zoq (SqL.of e2) fun q3 hq3=>?_
  have ec:Ck ws none (some (-1))=ws.take pl.length:=by rw [Zr1,al.1,hpl];rfl
  rw [ec]
  obtain ⟨H3,s3,e3,z9⟩:=Dc hq3 (.lst (ws.take pl.length))
  rw [z9]
  walk_at "r"
  refine ⟨q3,_,rfl,SqL.of e3,?_⟩
  have s13:=s1.trans (s2.trans s3)
  have hwl:(ws.take pl.length).length=pl.length:=by rw [Qb,al.1];omega
  have n3:q0≠q3:=A5 ((s2 _ _ e1)) hq3
  refine Mw (K:=K) (a:=q3) (xs:=ws.take pl.length) (fun i σ' H'=>∃ w3 w4 w5 vs,σ'=[some v,some (.ref p),some (.ref q0),w3,w4,w5]/\H' q0=some (.lst vs)/\H' q3=some (.lst (ws.take pl.length))/\Al (BdAt K H' pl) vs (C1 0 ((C5 t pl).take i))/\SameT H3 H'/\Same H H') ⟨none,none,none,[],rfl,(s2.trans s3) _ _ e1,e3,Al.nil,SameT.refl _,s13⟩ ?_ ?_ ?_
  ·rintro i σ' H' _ ⟨_,_,_,_,_,_,e,_⟩
   exact SqL.of e
  ·rintro i x tt σ' H' hx htt ⟨w3,w4,w5,vs,rfl,e4,e5,al4,t4,sm4⟩
   have hi:i < pl.length:=by have:=(Pt.mp hx).1;rw [hwl] at this;exact this
   have hk:pl[i]?=some pl[i]:=Pn hi
   have hx':ws[i]?=some x:=by rw [Vh,if_pos hi] at hx;exact hx
   obtain ⟨w',n',ps,u,a1,a2,a3⟩:=Kc hs i _ hk
   obtain ⟨ti,hti,hat⟩:=al.get hx'
   rw [a1] at hti
   cases hti
   have hsi:C4 w' n':=by
    cases Zmp hs hsh _ (Rj a1) with
    | mk h _=>exact h
   have hla:=Zra hs i _ w' n' ps hk a1
   obtain ⟨H6,s6,e6,z9⟩:=Dc htt (.tup [.int i,x])
   rw [z9]
   walk_at "r"
   refine Da (SqT.of e6) rfl ?_
   walk_at "r"
   refine A4 (s6.tup (sm4.tup hp)) (v:=.int (pl[i]:Nat)) (Za2 i rfl (by unfold Bj;rw [Qj,hk];rfl)) ?_
   walk_at "r"
   refine ⟨x,w',n',ps,pl[i],rfl,(hat.sameT (s3.t.trans t4)).same s6,hsi,fun q7 H7 hq7 s7 e7=>?_⟩
   refine .inl ⟨q7,rfl,⟨_,SqL.of e7⟩,?_⟩
   have s67:=s6.trans s7
   have n07:q0≠q7:=A5 (s6 _ _ e4) hq7
   have n37:q3≠q7:=A5 (s6 _ _ e5) hq7
   refine M8 (K:=K) (a:=q7) (xs:=(nb w' n' pl[i]).map V.str) (fun j σ' H'=>∃ w5 us,σ'=[some v,some (.ref p),some (.ref q0),some (.int i),some x,w5]/\H' q0=some (.lst us)/\H' q3=some (.lst (ws.take pl.length))/\H' q7=some (.lst ((nb w' n' pl[i]).map V.str))/\Al (BdAt K H' pl) us (C1 0 ((C5 t pl).take i)++((nb w' n' pl[i]).take j).map fun y=>(y,i))/\SameT H3 H'/\Same H H') ⟨_,vs,rfl,s67 _ _ e4,s67 _ _ e5,e7,by simpa using al4.mono (BdAt.same s67.t),t4.trans s67.t,sm4.trans s67⟩ ?_ ?_ ?_
   ·rintro j σ' H' _ ⟨_,_,_,_,_,e,_⟩
    exact SqL.of e
   ·rintro j y σ' H8 hy ⟨w5',us,rfl,e8,e8b,e8c,al8,t8,sm8⟩
    rw [Qj] at hy
    cases hyy:(nb w' n' pl[i])[j]? with
    | none=>rw [hyy] at hy;cases hy
    | some yy =>
    rw [hyy] at hy
    have hy:V.str yy=y:=by simpa using hy
    subst hy
    have hnl:=Zgp w' n' pl[i]
    have hul:us.length<=2 * pl.length+2:=by
     rw [al8.1,Px,Pw,Qb]
     have:=Os 0 ((C5 t pl).take i) (fun l hl=>Zcy hs l (List.mem_of_mem_take hl))
     rw [Qb] at this
     omega
    walk_at "r"
    refine Cf (SqL.of e8) ?_
    walk_at "r"
    refine Zba (sm8.tup hp) fun r9 H9 s9 q9=>?_
    rw [Zcf,Zmq] at q9
    walk_at "r"
    refine ⟨Bu,fun p10 h10=>?_⟩
    have s10:Same H8 (upd H9 p10 (.tup [.str yy,.ref r9])):=s9.put h10
    have e10:=s10 _ _ e8
    walk_at "r"
    refine Dd e10 (by omega) ?_
    walk_at "r"
    have t11:SameT H8 (upd (upd H9 p10 (.tup [.str yy,.ref r9])) q0 (.lst (us++[.ref p10]))):=s10.t.trans (SameT.set e10)
    refine ⟨_,us++[.ref p10],rfl,Ad,by rw [Ag n3.symm];exact s10 _ _ e8b,by rw [Ag n07.symm];exact s10 _ _ e8c,?_,t8.trans t11,(sm8.trans s10).over hq0⟩
    rw [R9,hyy,Rn,<- Rl]
    refine (al8.mono (BdAt.same t11)).snoc ⟨p10,r9,rfl,(SameT.set e10).tup (SqT.of Ad),?_⟩
    exact ((Same.upd (o:=.tup [.str yy,.ref r9]) h10).t.trans (SameT.set e10)).tup q9
   ·rintro σ' H8 ⟨w5',us,rfl,e8,e8b,e8c,al8,t8,sm8⟩
    rw [Pw,Q3] at al8
    refine ⟨_,_,_,us,rfl,e8,e8b,?_,t8,sm8⟩
    rw [R9,hla,Zd8]
    have e9:C1 (0+((C5 t pl).take i).length) (some (nb w' n' pl[i])).toList=(nb w' n' pl[i]).map fun y=>(y,i):=by
     rw [Qb,hll,V7,Uj (by omega)]
     simp [C1]
    rw [e9]
    exact al8
  ·rintro σ' H' ⟨w3,w4,w5,vs,rfl,e4,e5,al4,t4,sm4⟩
   rw [hwl,Sj (by omega)] at al4
   walk_at "r"
   exact q q0 vs H' hq0 sm4 e4 al4
noncomputable def Zfr (K:Pk):Sp:=fun vs H Q _=>∃(v:V)(t:Tr)(p:Addr)(pl:List Nat),vs=[v,.ref p]/\TrAt K H v t/\TrSh t/\SqT K H p (Bj pl)/\Sub t pl/\pl.length<=1000 /\
 ∀(q:Addr)(H':Hp),H q=none->Same H H'->H' q=some (.lst ((Dj t pl).map V.str))->Q (.ref q) H'
theorem Zf4:(["name", "where"]:List Str).Nodup:=by decide +kernel
theorem Znv:Bf ["tree", "place"] ["tree", "place"] (A0 Lj):=by walk_at "sc"
theorem Zjd {f:Addr}{fd:FuncData}(F:Fun K "names_at" "names_at" Lj f fd)(T:Txt K mg)(C_bindings_at:Ba P w K mg base 4 "bindings_at" ["tree", "place"] (Zfi K)):As P w K mg base Az 5 f fd ["tree", "place"] (Zfr K):=by
 refine F.okq Znv (fun vs H Q E h=>?_) (fun cdv A outer s H vs Q E hr h=>?_)
 ·obtain ⟨v,t,p,pl,rfl,_⟩:=h
  rfl
 ·obtain ⟨v,t,p,pl,rfl,ht,hsh,hp,hs,hl,q⟩:=h
  refine ⟨_,Af (Am (Gb (N:=["name", "where"]) (σ0:=C7 2 []) rfl (E2 rfl (by decide +kernel) (by decide +kernel) (by decide +kernel)) (C0 K (Ay C_bindings_at hr.m (Aa (qv 0) (Aa (qv 1) Ab)))) (Ew rfl (by rfl)) (fun _ _ _ _=>Cv K (n:=2) rfl (Bk (Ax (i:=0) Zf4 rfl (Or.inl rfl)) (Bk (Ax (i:=1) Zf4 rfl (Or.inl rfl)) (Cw)))) (fun _ _ _ _=>Ge) (fun _ _ _ _=>qv 0))),?_⟩
  have bg:=big
  have hbl:=Zem hs
  walk_at "r"
  refine ⟨v,t,p,pl,rfl,ht,hsh,hp,hs,hl,fun q1 ws H1 hq1 s1 e1 al=>?_⟩
  refine .inl ⟨q1,rfl,⟨_,SqL.of e1⟩,fun D hD=>?_⟩
  have nD:q1≠D:=A5 e1 hD
  refine Hv (K:=K) (a:=q1) (xs:=ws) (Pv:=fun i ys σ' H'=>∃ v0 v1,σ'=[v0,v1]/\H' q1=some (.lst ws)/\ys=(((bn t pl).take i).map fun x=>V.str x.1)/\SameT H1 H'/\Same H1 H') ⟨none,none,rfl,by rw [Ag nD];exact e1,rfl,SameT.new hD,Same.upd hD⟩ ?_ ?_ ?_
  ·rintro i ys σ' H' _ ⟨_,_,_,e,_⟩
   exact SqL.of e
  ·rintro i x ys σ' H' hx hys ⟨v0,v1,rfl,e,rfl,t2,sm⟩
   obtain ⟨y,hy,a,b,rfl,g1,g2⟩:=al.get hx
   have hi:=(Pt.mp hx).1
   have hwl:ws.length<=2000:=by rw [al.1];omega
   walk_at "r"
   refine Da (t2.tup g1) rfl ?_
   walk_at "r"
   refine ⟨_,hys,by rw [Pw,Qb];omega,_,Ad,?_⟩
   refine ⟨_,_,rfl,by rw [Ag nD];exact e,?_,t2.trans (SameT.set hys),sm.over hD⟩
   rw [R9,hy,Rn]
   rfl
  ·rintro ys σ' H' hys ⟨v0,v1,rfl,e,rfl,t2,sm⟩
   rw [al.1,Q3] at hys
   refine q D H' (s1.free hD) (s1.trans sm) ?_
   rw [hys,<- Ztf,V6]
   rfl
noncomputable def L9:Option Nat->V
 | none=>.non
 | some i=>.int (i:Nat)
noncomputable def Zgc (K:Pk):Sp:=fun vs H Q _=>∃(v:V)(t:Tr)(p:Addr)(pl:List Nat)(x:Str),vs=[v,.ref p,.str x]/\TrAt K H v t/\TrSh t/\SqT K H p (Bj pl)/\Sub t pl/\pl.length<=1000 /\
 ∀(H':Hp),Same H H'->Q (L9 (B9 x 0 (Dj t pl))) H'
theorem sc_binding_at:Bf ["tree", "place", "name", "last", "number", "bound"] ["tree", "place", "name"] (A0 Kv):=by walk_at "sc"
theorem Zmj {f:Addr}{fd:FuncData}(F:Fun K "binding_at" "binding_at" Kv f fd)(T:Txt K mg)(C_names_at:Ba P w K mg base 5 "names_at" ["tree", "place"] (Zfr K)):As P w K mg base Az 6 f fd ["tree", "place", "name"] (Zgc K):=by
 refine F.okq sc_binding_at (fun vs H Q E h=>?_) (fun cdv A outer s H vs Q E hr h=>?_)
 ·obtain ⟨v,t,p,pl,x,rfl,_⟩:=h
  rfl
 ·obtain ⟨v,t,p,pl,x,rfl,ht,hsh,hp,hs,hl,q⟩:=h
  refine ⟨_,Ae (Aq 3 sc_binding_at Eh)
   (Ae (Cg Qf rfl (M7 K rfl T.enumerate (Aa (Ay C_names_at hr.m (Aa (qv 0) (Aa (qv 1) Ab))) Ab)) (Cv K (n:=2) rfl (Bk (Ax (i:=4) sc_binding_at.nd rfl (Or.inl rfl)) (Bk (Ax (i:=5) sc_binding_at.nd rfl (Or.inl rfl)) (Cw)))) (Af (Au (A8 (Bg K hr.u200) (qv 5) (qv 2) (A1 _)) (Af (Aq 3 sc_binding_at (qv 4))) Aw)))
   (Af (Am (qv 3)))),?_⟩
  walk_at "r"
  refine ⟨v,t,p,pl,rfl,ht,hsh,hp,hs,hl,fun q1 H1 hq1 s1 e1=>?_⟩
  walk_at "r"
  refine ⟨q1,_,rfl,SqL.of e1,?_⟩
  refine Mw (K:=K) (a:=q1) (xs:=(Dj t pl).map V.str) (fun i σ' H'=>∃ w4 w5,σ'=[some v,some (.ref p),some (.str x),some (L9 (B9 x 0 ((Dj t pl).take i))),w4,w5]/\Same H1 H') ⟨none,none,rfl,Same.refl _⟩ ?_ ?_ ?_
  ·rintro i σ' H' _ ⟨_,_,_,sm⟩
   exact SqL.of (sm _ _ e1)
  ·rintro i y tt σ' H' hy htt ⟨w4,w5,rfl,sm⟩
   rw [Qj] at hy
   cases hyy:(Dj t pl)[i]? with
   | none=>rw [hyy] at hy;cases hy
   | some yy =>
   rw [hyy] at hy
   have hy:V.str yy=y:=by simpa using hy
   subst hy
   have hi:=(Pt.mp hyy).1
   have e2:B9 x 0 ((Dj t pl).take (i+1))=if yy=x then some i else B9 x 0 ((Dj t pl).take i):=by
    rw [R9,hyy]
    show B9 x 0 (_++[yy])=_
    rw [Ztp,Qb,V7,Uj (by omega)]
   obtain ⟨H3,s3,e3,z9⟩:=Dc htt (.tup [.int i,.str yy])
   rw [z9]
   walk_at "r"
   refine Da (SqT.of e3) rfl ?_
   walk_at "r"
   rw [Hj]
   refine Bw (fun c=>?_) (fun c=>?_)
   ·have c:=of_decide_eq_true c
    walk_at "r"
    refine ⟨some (.int i),some (.str yy),?_,sm.trans s3⟩
    rw [e2,if_pos c]
    rfl
   ·have c:¬ yy=x:=fun e=>c (decide_eq_true e)
    walk_at "r"
    refine ⟨some (.int i),some (.str yy),?_,sm.trans s3⟩
    rw [e2,if_neg c]
    rfl
  ·rintro σ' H' ⟨w4,w5,rfl,sm⟩
   rw [Pw,Q3]
   walk_at "r"
   exact q H' (s1.trans sm)
noncomputable def Cp (t:Tr)(pl:List Nat)(f:Tr)(fb:Bool):Str:=match f with
 | .mk w n _=>if fb=false then "unlike" else if w = "odd" then "odd" else if w = "name" /\ B9 (Ig n) 0 (Dj t pl)=none then "free" else ""
noncomputable def Zg3 (K:Pk):Sp:=fun vs H Q _=>∃(v:V)(t:Tr)(p:Addr)(pl:List Nat)(u:V)(w:Str)(n:Dt)(ps:List Tr)(fb:Bool),vs=[v,.ref p,u,.bl fb]/\TrAt K H v t/\TrSh t/\SqT K H p (Bj pl)/\Sub t pl/\pl.length<=1000/\TrAt K H u (.mk w n ps)/\C4 w n/\∀ H',Same H H'->Q (.str (Cp t pl (.mk w n ps) fb)) H'
theorem Zto:Bf ["tree", "place", "form", "fits"] ["tree", "place", "form", "fits"] (A0 K7):=by walk_at "sc"
theorem Zoi {f:Addr}{fd:FuncData}(F:Fun K "mark_of" "mark_of" K7 f fd)(T:Txt K mg)(C_binding_at:Ba P w K mg base 6 "binding_at" ["tree", "place", "name"] (Zgc K)):As P w K mg base Az 7 f fd ["tree", "place", "form", "fits"] (Zg3 K):=by
 refine F.okq Zto (fun vs H Q E h=>?_) (fun cdv A outer s H vs Q E hr h=>?_)
 ·obtain ⟨v,t,p,pl,u,w,n,ps,fb,rfl,_⟩:=h
  rfl
 ·obtain ⟨v,t,p,pl,u,w,n,ps,fb,rfl,htv,hts,hp,hsub,hpl,ht,hsh,q⟩:=h
  refine ⟨_,Ae (Au (Dv (Gz K (qv 3) (by intro _;rfl))) (Af (Am Av)) Aw)
   (Ae (Au (A8 (Bg K hr.u200) (Ao K (qv 2) Ah) Av (A1 _)) (Af (Am Av)) Aw)
   (Ae (Au (QW.qt (Ia (A8 (Bg K hr.u200) (Ao K (qv 2) Ah) Av (A1 _)) (Kr (Gj (Iz (Ay C_binding_at hr.m (Aa (qv 0) (Aa (qv 1) (Aa (Ao K (qv 2) Ah) Ab))))))))) (Af (Am Av)) Aw)
   (Af (Am Av)))),?_⟩
  have htu:=ht
  cases ht with
  | @mk bq pp _ nv _ us _ qb hn qp l hch =>
  have q:∀ H',Same H H'->Q (.str (if fb=false then "unlike" else if w = "odd" then "odd" else if w = "name" /\ B9 (Ig n) 0 (Dj t pl)=none then "free" else "")) H':=q
  walk_at "r"
  refine ⟨fb,by show fb=fb;rfl,?_⟩
  cases fb with
  | false =>
   rw [if_pos rfl] at q
   walk_at "r"
   exact q _ (Same.refl _)
  | true =>
   rw [if_neg (by decide)] at q
   walk_at "r"
   refine A4 qb rfl ?_
   walk_at "r"
   rw [Fh]
   refine Bw (fun c=>?_) (fun c=>?_)
   ·rw [if_pos (of_decide_eq_true c)] at q
    walk_at "r"
    exact q _ (Same.refl _)
   rw [if_neg (fun e=>c (decide_eq_true e))] at q
   walk_at "r"
   refine A4 qb rfl ?_
   walk_at "r"
   rw [Fh]
   by_cases cn:w = "name"
   ·rw [decide_eq_true cn]
    obtain ⟨tn,rfl⟩:=hsh.1 (.inr (.inr cn))
    have hnv:=M5 hn
    subst hnv
    walk_at "r"
    refine A4 qb rfl ?_
    walk_at "r"
    refine ⟨v,t,p,pl,tn,rfl,htv,hts,hp,hsub,hpl,fun H1 s1=>?_⟩
    have q:∀ H',Same H H'->Q (.str (if w = "name" /\ B9 tn 0 (Dj t pl)=none then "free" else "")) H':=q
    cases e:B9 tn 0 (Dj t pl) with
    | none =>
     rw [if_pos ⟨cn,e⟩] at q
     walk_at "r"
     rw [show decide (L9 none=V.non)=true from rfl]
     walk_at "r"
     exact q _ s1
    | some k =>
     rw [if_neg (fun z=>by rw [e] at z;cases z.2)] at q
     walk_at "r"
     rw [show decide (L9 (some k)=V.non)=false from rfl]
     walk_at "r"
     exact q _ s1
   ·rw [decide_eq_false cn]
    rw [if_neg (fun z=>cn z.1)] at q
    walk_at "r"
    exact q _ (Same.refl _)
noncomputable def flat (ps:List (Nat×Nat)):List Nat:=ps.flatMap fun p=>[p.1,p.2]
theorem Mr:∀ ps:List (Nat×Nat),(flat ps).length=2 * ps.length
 | []=>rfl
 | p::r=>by
  have:=Mr r
  have e:flat (p::r)=p.1::p.2::flat r:=rfl
  rw [e,Py,Py,Py,this]
  omega
theorem Zoj (ps:List (Nat×Nat))(p:Nat×Nat):flat (ps++[p])=flat ps++[p.1,p.2]:=by unfold flat;rw [Wn];rfl
theorem KinG.len {rs:List (List Nat×Tr)}{sh sh':Ai}{D:Dn}{A:An}{ps:List (Nat×Nat)}(h:KinG rs sh D A ps sh'):ps.length=rs.length:=by
 induction h with
 | nil=>rfl
 | cons _ _ _ ih=>rw [Py,Py,ih]
theorem FitG.len {ps:List (Nat×Nat)}{m m':Ai}{fs:List Bool}(h:FitG ps m fs m'):fs.length=ps.length:=by
 induction h with
 | nil=>rfl
 | ok _ _ _ _ _ _ ih=>rw [Py,Py,ih]
 | clash _ _ _ ih=>rw [Py,Py,ih]
 | loop _ _ _ _ _ _ ih=>rw [Py,Py,ih]
structure Fm (t:Tr)(ks:List Kd)(fs:List Bool):Prop where
 ex:∃ ps sh1 sh2 N td',KinG (walk [] t) [.num,.truth] (fun _=>none) (fun q=>if q=[] then some (fun _=>none) else none) ps sh1/\FitG ps sh1 fs sh2/\ToldN sh2 N (fun _=>none) 0 (flat ps).reverse td'/\N<=2000/\ks.length=(flat ps).length/\∀(j x:Nat)(k:Kd),(flat ps)[j]?=some x->ks[j]?=some k->∃ r,Last sh2 x r/\td' r=some k
noncomputable abbrev Rw:=List Nat×Kd×Option Kd×Str
noncomputable def Es (t:Tr)(ks:List Kd)(fs:List Bool)(i:Nat)(x:List Nat×Tr):Rw:=(x.1,ks.getD (2 * i) .num,(if x.1=[] then none else some (ks.getD (2 * i+1) .num)),Cp t x.1 x.2 (fs.getD i false))
noncomputable def Be (t:Tr)(ks:List Kd)(fs:List Bool):List Rw:=(walk [] t).mapIdx (Es t ks fs)
noncomputable def AkD (K:Pk)(H:Hp)(v:V)(a:Option Kd):Prop:=(a=none/\v=.non)\/∃ k,a=some k/\KdAt K H v k
theorem AkD.same {H H':Hp}{v:V}{a:Option Kd}(h:AkD K H v a)(e:SameT H H'):AkD K H' v a:=by
 rcases h with h | ⟨k,h1,h2⟩
 ·exact .inl h
 ·exact .inr ⟨k,h1,h2.same e⟩
noncomputable def LkAt (K:Pk)(H:Hp)(v:V)(r:Rw):Prop:=∃(e p:Addr)(g a:V),v=.ref e/\SqT K H e [.ref p,g,a,.str r.2.2.2]/\H p=some (.tup (Bj r.1))/\KdAt K H g r.2.1/\AkD K H a r.2.2.1
theorem LkAt.same {H H':Hp}(e:SameT H H')(v:V)(r:Rw)(h:LkAt K H v r):LkAt K H' v r:=by
 obtain ⟨c,p,g,a,h1,h2,h3,h4,h5⟩:=h
 exact ⟨c,p,g,a,h1,e.tup h2,(e p).1 _ h3,h4.same e,h5.same e⟩
noncomputable def Lg (K:Pk):Sp:=fun vs H Q _=>∃(v:V)(t:Tr)(ks:List Kd)(fs:List Bool),vs=[v]/\TrAt K H v t/\TrSh t/\t.size<=40/\Fm t ks fs/\∀(p:Addr)(rows:List V)(H':Hp),Same H H'->H p=none->H' p=some (.lst rows)->Al (LkAt K H') rows (Be t ks fs)->Q (.ref p) H'
theorem Zjz (pl:List Nat):Bj pl=(pl.map fun i=>((i:Nat):Int)).map V.int:=by unfold Bj;rw [V6];rfl
theorem Zpe {rs:List (List Nat×Tr)}{sh sh':Ai}{D:Dn}{A:An}{ps:List (Nat×Nat)}(h:KinG rs sh D A ps sh'):∀ x∈rs,∃ w n ts,x.2=.mk w n ts/\C4 w n:=by
 induction h with
 | nil=>intro x hx;cases hx
 | cons _ hsh _ ih =>
  intro x hx
  rcases Pu.mp hx with rfl | hx
  ·exact ⟨_,_,_,rfl,hsh⟩
  ·exact ih x hx
theorem sc_looks:Bf ["tree", "placed", "shapes", "pairs", "settled", "fits", "wanted", "pair", "kinds", "rows", "number", "asked"] ["tree"] (A0 Im):=by walk_at "sc"
theorem Zfh {f:Addr}{fd:FuncData}(F:Fun K "looks" "looks" Im f fd)(T:Txt K mg)(G_MOST_FORMS:Ec mg "MOST_FORMS" (.int 40))(C_placed_forms:Ba P w K mg base 1 "placed_forms" ["tree"] (Ob K))(C_kinds_in:Ba P w K mg base 3 "kinds_in" ["placed"] (Zfl K))(C_fitted:Ba P w K mg base 4 "fitted" ["shapes", "pairs"] (Zh8 K))(C_kinds_told:Ba P w K mg base 2 "kinds_told" ["shapes", "wanted"] (Zho K))(C_mark_of:Ba P w K mg base 7 "mark_of" ["tree", "place", "form", "fits"] (Zg3 K)):As P w K mg base Az 8 f fd ["tree"] (Lg K):=by
 refine F.okq sc_looks (fun vs H Q E h=>?_) (fun cdv A outer s H vs Q E hr h=>?_)
 ·obtain ⟨v,t,ks,fs,rfl,_⟩:=h
  rfl
 ·obtain ⟨v,t,ks,fs,rfl,ht,hts,hsz,⟨ps,sh1,sh2,N,td',hK,hF,hT,hN,hkl,hks⟩,q⟩:=h
  refine ⟨_,Ae (Aq 1 sc_looks (Ay C_placed_forms hr.m (Aa (qv 0) Ab)))
   (Ae (Au (A8 Nk (A9 (Ek K) (by rfl) T.len (by decide +kernel) (Aa (qv 1) Ab)) (D7 G_MOST_FORMS) (A1 _)) (Af Zhh) Aw)
   (Ae (Ng (Ay C_kinds_in hr.m (Aa (qv 1) Ab)) (Cv K (n:=2) rfl (Bk (Ax (i:=2) sc_looks.nd rfl (Or.inl rfl)) (Bk (Ax (i:=3) sc_looks.nd rfl (Or.inl rfl)) (Cw)))))
   (Ae (Ng (Ay C_fitted hr.m (Aa (qv 2) (Aa (qv 3) Ab))) (Cv K (n:=2) rfl (Bk (Ax (i:=4) sc_looks.nd rfl (Or.inl rfl)) (Bk (Ax (i:=5) sc_looks.nd rfl (Or.inl rfl)) (Cw)))))
   (Ae (Aq 6 sc_looks (Bh Ab))
   (Ae (Cg Qf rfl (C0 K (qv 3)) (Ax (i:=7) sc_looks.nd rfl (Or.inl rfl)) (Af (Cm (Dk K Qp PySem.F.slot_list_extend PySem.F.type_list_extend (Zjl K) (qv 6) (Aa (qv 7) Ab)))))
   (Ae (Aq 8 sc_looks (Ay C_kinds_told hr.m (Aa (qv 4) (Aa (qv 6) Ab))))
   (Ae (Aq 9 sc_looks (Bh Ab))
   (Ae (Cg Qf rfl (M7 K rfl T.enumerate (Aa (qv 1) Ab)) (Cv K (n:=2) rfl (Bk (Ax (i:=10) sc_looks.nd rfl (Or.inl rfl)) (Bk (Ax (i:=7) sc_looks.nd rfl (Or.inl rfl)) (Cw)))) (Ae (Aq 11 sc_looks (Pb (A8 (Zqa K hr.u200) (Ao K (qv 7) Ah) (Ar Ab) (A1 _)) Eh (Ao K (qv 8) (A7 (Cu K) (A7 J7 Ah (qv 10)) Ah))))
   (Af (Cm (Dk K Qp Q9 Ra D4 (qv 9) (Aa (Ar (Aa (Ao K (qv 7) Ah) (Aa (Ao K (qv 8) (A7 J7 Ah (qv 10))) (Aa (qv 11) (Aa (Ay C_mark_of hr.m (Aa (qv 0) (Aa (Ao K (qv 7) Ah) (Aa (Ao K (qv 7) Ah) (Aa (Ao K (qv 5) (qv 10)) Ab))))) Ab))))) Ab))))))
   (Af (Am (qv 9))))))))))),?_⟩
  have bg:=big
  have hwl:(walk [] t).length=t.size:=Fb _ _
  have hpl:ps.length=t.size:=by rw [hK.len,hwl]
  have hfl:fs.length=t.size:=by rw [hF.len,hpl]
  have hfps:(flat ps).length=2 * t.size:=by rw [Mr,hpl]
  walk_at "r"
  refine ⟨v,t,rfl,ht,by omega,fun pp rows H1 s1 hpp er al=>?_⟩
  have hrl:rows.length=t.size:=by rw [al.1,hwl]
  walk_at "r"
  refine Hr (SqL.of er) ?_
  walk_at "r"
  refine Znt ?_ ?_
  ·have:¬ ((40:Int) < (rows.length:Nat)):=by omega
   simpa using this
  walk_at "r"
  refine ⟨pp,rows,walk [] t,ps,sh1,rfl,er,al,by omega,fun r hr2=>by have:=Kf [] t r hr2;simp at this;omega,hK,fun r a b pv H2 s2 qr sh eb alp=>?_⟩
  refine Da qr rfl ?_
  walk_at "r"
  refine ⟨a,b,sh1,sh2,pv,ps,fs,rfl,sh,eb,alp,hF,by omega,fun r2 a2 c2 H3 s3 qr2 ec2 sg2=>?_⟩
  refine Da qr2 rfl ?_
  walk_at "r"
  refine ⟨Bs,fun pw hpw=>?_⟩
  have s4:=Same.upd (o:=.lst []) hpw
  have eb4:=s4 _ _ (s3 _ _ eb)
  walk_at "r"
  refine .inl ⟨b,rfl,⟨_,SqL.of eb4⟩,?_⟩
  refine M8 (K:=K) (a:=b) (xs:=pv) (fun i σ' H'=>∃ v7 v8 v9 v10 v11,σ'=[some v,some (.ref pp),some (.ref a),some (.ref b),some (.ref a2),some (.ref c2),some (.ref pw),v7,v8,v9,v10,v11]/\H' pw=some (.lst (Ak (flat (ps.take i))))/\Same H3 H')
   ⟨_,_,_,_,_,rfl,Ad,s4⟩ ?_ ?_ ?_
  ·rintro i σ' H' _ ⟨_,_,_,_,_,_,_,sm⟩
   exact SqL.of (sm _ _ (s3 _ _ eb))
  ·rintro i x σ' H5 hx ⟨v7,v8,v9,v10,v11,rfl,ew,sm⟩
   obtain ⟨y,hy,pa,rfl,qpa⟩:=alp.get hx
   have hi:=(Pt.mp hy).1
   have hfl2:(Ak (flat (ps.take i))).length=2 * i:=by unfold Ak;rw [Pw,Mr,Qb];omega
   walk_at "r"
   refine Cf (SqL.of ew) ?_
   walk_at "r"
   refine ⟨pw,pa,_,_,rfl,rfl,ew,(s3.trans sm).tup qpa,by rw [hfl2];show 2 * i+2<=sizeLine;omega,?_⟩
   refine ⟨_,_,_,_,_,rfl,?_,sm.over hpw⟩
   rw [Ad,Re,hy]
   show some (HO.lst (Ak (flat (ps.take i))++[.int (y.1:Nat),.int (y.2:Nat)]))=some (.lst (Ak (flat (ps.take i++[y]))))
   rw [Zoj,Gp]
   rfl
  ·rintro σ' H5 ⟨v7,v8,v9,v10,v11,rfl,ew,sm⟩
   rw [alp.1,Q3] at ew
   walk_at "r"
   refine ⟨a2,pw,sh2,flat ps,ks,N,td',rfl,sg2.same sm,ew,hT,hN,by omega,hkl,hks,fun c3 us H6 s6 hc3 ec3 alk=>?_⟩
   walk_at "r"
   refine ⟨Bs,fun pr hpr=>?_⟩
   have s7:=Same.upd (o:=.lst []) hpr
   have sA:Same H1 H6:=((s2.trans s3).trans sm).trans s6
   have hpr0:H pr=none:=(s1.trans sA).free hpr
   walk_at "r"
   refine ⟨pp,rows,rfl,SqL.of (s7 _ _ (sA _ _ er)),?_⟩
   have e6:H6 c2=some (.lst (fs.map V.bl)):=(sm.trans s6) _ _ ec2
   refine Mw (K:=K) (a:=pp) (xs:=rows) (fun i σ' H'=>∃ w7 Dw Fd rv,σ'=[some v,some (.ref pp),some (.ref a),some (.ref b),some (.ref a2),some (.ref c2),some (.ref pw),w7,some (.ref c3),some (.ref pr),Dw,Fd]/\H' pr=some (.lst rv)/\Al (LkAt K H') rv ((Be t ks fs).take i)/\Same H6 H')
    ⟨_,_,_,[],rfl,Ad,.nil,s7⟩ ?_ ?_ ?_
   ·rintro i σ' H' _ ⟨_,_,_,_,_,_,_,sm2⟩
    exact SqL.of (sm2 _ _ (sA _ _ er))
   ·rintro i x tt σ' H7 hx htt ⟨w7,Dw,Fd,rv,rfl,erv,alr,sm2⟩
    obtain ⟨y,hy,ra,pl,u,rfl,qra,epl,hu⟩:=al.get hx
    have hi:=(Pt.mp hy).1
    have hr0:(Be t ks fs)[i]?=some (Es t ks fs i y):=by unfold Be;rw [Wl,hy];rfl
    have hif:i < fs.length:=by omega
    have hik:2 * i < ks.length:=by omega
    have hik1:2 * i+1 < ks.length:=by omega
    have g0:ks.getD (2 * i) .num=ks[2 * i]:=by rw [Sg,Pn hik];rfl
    have g1:ks.getD (2 * i+1) .num=ks[2 * i+1]:=by rw [Sg,Pn hik1];rfl
    have gf:fs.getD i false=fs[i]:=by rw [Sg,Pn hif];rfl
    have s8:=Same.upd (o:=.tup [.int (i:Nat),.ref ra]) htt
    have sB:Same H1 (upd H7 tt (.tup [.int (i:Nat),.ref ra])):=(sA.trans sm2).trans s8
    have sC:Same H6 (upd H7 tt (.tup [.int (i:Nat),.ref ra])):=sm2.trans s8
    have erv8:=s8 _ _ erv
    have alr8:=alr.mono (LkAt.same s8.t)
    refine Da (SqT.of Ad) rfl ?_
    revert sB sC erv8 alr8
    generalize upd H7 tt (.tup [.int (i:Nat),.ref ra])=H8
    intro sB sC erv8 alr8
    obtain ⟨kv,hkv,kk⟩:=alk.get' (Pn hik)
    obtain ⟨kw,hkw,kk2⟩:=alk.get' (Pn hik1)
    have epl8:=sB _ _ epl
    have qpl8:SqT K H8 pl (Bj y.1):=SqT.of epl8
    have i2:(2:Int) * (i:Nat)=((2 * i:Nat):Int):=by omega
    have i3:(2:Int) * (i:Nat)+1=((2 * i+1:Nat):Int):=by omega
    walk_at "q"
    refine viaE (R:=fun av H'=>AkD K H6 av (Es t ks fs i y).2.2.1/\Same H8 H') ?_ ?_
    ·intro Y hY
     walk_at "r"
     refine A4 (sB.tup qra) rfl ?_
     walk_at "r"
     refine ⟨Bs,fun p9 h9=>?_⟩
     have s9:=Same.upd (o:=.tup []) h9
     refine Zlf (xs:=y.1.map fun i=>((i:Nat):Int)) (ys:=[]) (by rw [<- Zjz];exact s9.tup qpl8) (SqT.of Ad) ?_
     walk_at "r"
     refine Bw (fun c=>?_) (fun c=>?_)
     ·have c:y.1=[]:=by simpa using c
      walk_at "r"
      exact hY _ _ ⟨.inl ⟨if_pos c,rfl⟩,s9⟩
     ·have c:y.1≠[]:=fun e=>c (by rw [e];rfl)
      walk_at "r"
      rw [i3]
      refine Bl (SqL.of (s9 _ _ (sC _ _ ec3))) (Df hkw) ?_
      refine hY _ _ ⟨.inr ⟨_,if_neg c,?_⟩,s9⟩
      rw [g1]
      exact kk2
    rintro av H9 ⟨kav,s9⟩
    walk_at "q"
    walk_at "r"
    refine Cf (SqL.of (s9 _ _ erv8)) ?_
    walk_at "r"
    refine A4 ((sB.trans s9).tup qra) rfl ?_
    walk_at "r"
    rw [i2]
    refine Bl (SqL.of ((sC.trans s9) _ _ ec3)) (Df hkv) ?_
    walk_at "r"
    refine A4 ((sB.trans s9).tup qra) rfl ?_
    walk_at "r"
    refine A4 ((sB.trans s9).tup qra) rfl ?_
    walk_at "r"
    have hfb2:(fs.map V.bl)[i]?=some (.bl fs[i]):=by rw [Qj,Pn hif];rfl
    refine Bl (SqL.of ((sC.trans s9) _ _ e6)) (Df hfb2) ?_
    walk_at "r"
    obtain ⟨wd,n,ts,hyt,hshy⟩:=Zpe hK y (Rj hy)
    have hdep:=Kf [] t y (Rj hy)
    have hsubt:=Zav t y (Rj hy)
    have hmg:(Es t ks fs i y).2.2.2=Cp t y.1 (.mk wd n ts) fs[i]:=by show Cp t y.1 y.2 (fs.getD i false)=_;rw [gf,hyt]
    refine ⟨v,t,pl,y.1,u,wd,n,ts,fs[i],rfl,ht.same ((s1.trans sB).trans s9),hts,(s9.tup qpl8),hsubt,by simp at hdep;omega,by rw [<- hyt];exact hu.same (sB.trans s9),hshy,fun HX sX=>?_⟩
    rw [<- hmg]
    walk_at "r"
    refine ⟨sz4,fun pz hpz=>?_⟩
    have sz:=Same.upd (o:=.tup [.ref pl,kv,av,.str (Es t ks fs i y).2.2.2]) hpz
    walk_at "r"
    have s9X:=(s9.trans sX).trans sz
    have erv9:=s9X _ _ erv8
    have hrv:rv.length < sizeLine:=by rw [alr.1,Qb];omega
    refine Dd erv9 hrv ?_
    have tz:SameT H8 (upd (upd HX pz (.tup [.ref pl,kv,av,.str (Es t ks fs i y).2.2.2])) pr (.lst (rv++[.ref pz]))):=s9X.t.trans (SameT.set erv9)
    refine ⟨_,_,_,rv++[.ref pz],rfl,Ad,?_,?_⟩
    ·rw [Re,hr0]
     refine (alr8.mono (LkAt.same tz)).snoc ⟨pz,pl,kv,av,rfl,(SameT.set erv9).tup (SqT.of Ad),(tz pl).1 _ epl8,?_,(kav.same sC.t).same tz⟩
     show KdAt K _ kv (ks.getD (2 * i) .num)
     rw [g0]
     exact (kk.same sC.t).same tz
    ·exact (sC.trans s9X).over hpr
   ·rintro σ' H7 ⟨w7,Dw,Fd,rv,rfl,erv,alr,sm2⟩
    have e9:rows.length=(Be t ks fs).length:=by unfold Be;rw [T9,hrl,hwl]
    rw [e9,Q3] at alr
    walk_at "r"
    exact q pr rv H7 ((s1.trans sA).trans sm2) hpr0 erv alr
noncomputable def mB (r:Rw):Bool:=decide (r.2.2.2 ≠ "")
theorem Zjh {ds:List Rw}{i:Nat}{r:Rw}(h:ds[i]?=some r):(ds.take (i+1)).filter mB=(ds.take i).filter mB++if mB r=true then [r] else []:=by
 rw [Re,h,List.filter_append]
 cases e:mB r with
 | true=>rw [if_pos rfl];show _++List.filter mB [r]=_;rw [List.filter_cons_of_pos e];rfl
 | false=>rw [if_neg (by decide)];show _++List.filter mB [r]=_;rw [List.filter_cons_of_neg (by rw [e];decide)];rfl
theorem Zqd (ds:List Rw)(i:Nat):((ds.take i).filter mB).length<=i:=Qr (Wh _ _) (by rw [Qb];omega)
theorem Zmf (t:Tr)(pl:List Nat)(f:Tr)(fb:Bool):Cp t pl f fb∈(["", "unlike", "odd", "free"]:List Str):=by
 cases f with
 | mk w n ps =>
 show (if fb=false then "unlike" else if w = "odd" then "odd" else if w = "name" /\ B9 (Ig n) 0 (Dj t pl)=none then "free" else "" : Str)∈(["", "unlike", "odd", "free"]:List Str)
 by_cases h1:fb=false
 ·rw [if_pos h1];simp
 ·rw [if_neg h1]
  by_cases h2:w = "odd"
  ·rw [if_pos h2];simp
  ·rw [if_neg h2]
   by_cases h3:w = "name" /\ B9 (Ig n) 0 (Dj t pl)=none
   ·rw [if_pos h3];simp
   ·rw [if_neg h3];simp
theorem Zri {t:Tr}{ks:List Kd}{fs:List Bool}{i:Nat}{r:Rw}(h:(Be t ks fs)[i]?=some r):(r.2.2.2 = "" /\ mB r=false)\/(mB r=true/\(r.2.2.2 = "unlike" \/ r.2.2.2 = "odd" \/ r.2.2.2 = "free")):=by
 unfold Be at h
 rw [Wl] at h
 obtain ⟨x,hx,rfl⟩:=Wf.mp h
 have m:=Zmf t x.1 x.2 (fs.getD i false)
 unfold mB
 show (Cp t x.1 x.2 (fs.getD i false) = "" /\ decide (Cp t x.1 x.2 (fs.getD i false) ≠ "")=false)\/(decide (Cp t x.1 x.2 (fs.getD i false) ≠ "")=true/\(Cp t x.1 x.2 (fs.getD i false) = "unlike" \/ Cp t x.1 x.2 (fs.getD i false) = "odd" \/ Cp t x.1 x.2 (fs.getD i false) = "free"))
 generalize Cp t x.1 x.2 (fs.getD i false)=z at m
 simp only [Pu,Qe,or_false] at m
 rcases m with rfl | rfl | rfl | rfl
 ·exact .inl ⟨rfl,by decide⟩
 ·exact .inr ⟨by decide,.inl rfl⟩
 ·exact .inr ⟨by decide,.inr (.inl rfl)⟩
 ·exact .inr ⟨by decide,.inr (.inr rfl)⟩
noncomputable def MkAt (K:Pk)(H:Hp)(v:V)(r:Rw):Prop:=∃(e p:Addr),v=.ref e/\SqT K H e [.ref p,.str r.2.2.2]/\SqT K H p (Bj r.1)
theorem MkAt.same {H H':Hp}(e:SameT H H')(v:V)(r:Rw)(h:MkAt K H v r):MkAt K H' v r:=let ⟨c,p,h1,h2,h3⟩:=h;⟨c,p,h1,e.tup h2,e.tup h3⟩
noncomputable def Zbw (K:Pk):Sp:=fun vs H Q _=>∃(v:V)(t:Tr)(ks:List Kd)(fs:List Bool),vs=[v]/\TrAt K H v t/\TrSh t/\t.size<=40/\Fm t ks fs/\∀(p:Addr)(rows:List V)(H':Hp),Same H H'->H' p=some (.lst rows)->Al (MkAt K H') rows ((Be t ks fs).filter mB)->Q (.ref p) H'
theorem Gq:(["place", "given", "asked", "mark"]:List Str).Nodup:=by decide +kernel
theorem Zdm:Bf ["tree"] ["tree"] (A0 Ix):=by walk_at "sc"
theorem Zhu {f:Addr}{fd:FuncData}(F:Fun K "marks" "marks" Ix f fd)(T:Txt K mg)(C_looks:Ba P w K mg base 8 "looks" ["tree"] (Lg K)):As P w K mg base Az 9 f fd ["tree"] (Zbw K):=by
 refine F.okq Zdm (fun vs H Q E h=>?_) (fun cdv A outer s H vs Q E hr h=>?_)
 ·obtain ⟨v,t,ks,fs,rfl,_⟩:=h
  rfl
 ·obtain ⟨v,t,ks,fs,rfl,ht,hts,hsz,hlk,q⟩:=h
  refine ⟨_,Af (Am (Gb (N:=["place", "given", "asked", "mark"]) (σ0:=C7 4 []) rfl (E2 rfl (by decide +kernel) (by decide +kernel) (by decide +kernel)) (C0 K (Ay C_looks hr.m (Aa (qv 0) Ab))) (Ew rfl (by rfl)) (fun _ _ _ _=>Cv K (n:=4) rfl (Bk (Ax (i:=0) Gq rfl (Or.inl rfl)) (Bk (Ax (i:=1) Gq rfl (Or.inl rfl)) (Bk (Ax (i:=2) Gq rfl (Or.inl rfl)) (Bk (Ax (i:=3) Gq rfl (Or.inl rfl)) (Cw)))))) (fun _ _ _ _=>Ot (Gz K (qv 3) (by intro _;rfl))) (fun _ _ _ _=>Ar (Aa (qv 0) (Aa (qv 3) Ab))))),?_⟩
  have bg:=big
  walk_at "r"
  refine ⟨v,t,ks,fs,rfl,ht,hts,hsz,hlk,fun pL rows H1 s1 _ er al=>?_⟩
  have hdl:(Be t ks fs).length=t.size:=by unfold Be;rw [T9];exact Fb _ _
  refine .inl ⟨pL,rfl,⟨_,SqL.of er⟩,fun D hD=>?_⟩
  have nD:pL≠D:=A5 er hD
  refine Hv (K:=K) (a:=pL) (xs:=rows) (Pv:=fun i ys σ' H'=>∃ x0 x1 x2 x3,σ'=[x0,x1,x2,x3]/\Al (MkAt K H') ys (((Be t ks fs).take i).filter mB)/\Same H1 H') ⟨none,none,none,none,rfl,.nil,Same.upd hD⟩ ?_ ?_ ?_
  ·rintro i ys σ' H' _ ⟨_,_,_,_,_,_,sm⟩
   exact SqL.of (sm _ _ er)
  ·rintro i x ys σ' H' hx hys ⟨x0,x1,x2,x3,rfl,aly,sm⟩
   have hi:=(Pt.mp hx).1
   obtain ⟨r,hr0,e,p,g,a,rfl,qe,qp,_,_⟩:=al.get hx
   have hfl:=Zqd (Be t ks fs) i
   have hln:i < t.size:=by rw [<- hdl,<- al.1];exact hi
   have fs':=Zjh hr0
   have hit:mB r=true->∀ z:Str,r.2.2.2=z->∀ p2,H' p2=none->∃ y,upd H' p2 (.tup [.ref p,.str z]) D=some (.lst y)/\y.length < sizeLine/\∃ zs,upd (upd H' p2 (.tup [.ref p,.str z])) D (.lst (y++[.ref p2])) D=some (.lst zs)/\Al (MkAt K (upd (upd H' p2 (.tup [.ref p,.str z])) D (.lst (y++[.ref p2])))) zs (((Be t ks fs).take (i+1)).filter mB)/\Same H1 (upd (upd H' p2 (.tup [.ref p,.str z])) D (.lst (y++[.ref p2]))):=fun h2 z h1 p2 h3=>by
    rw [h2,if_pos rfl] at fs'
    have s2:=Same.upd (o:=.tup [.ref p,.str z]) h3
    have t6:=s2.t.trans (SameT.set (o:=.lst (ys++[.ref p2])) (s2 _ _ hys))
    refine ⟨ys,s2 _ _ hys,by rw [aly.1];omega,_,Ad,?_,(sm.trans s2).over hD⟩
    rw [fs']
    exact (aly.mono (MkAt.same t6)).snoc ⟨p2,p,rfl,(SameT.set (s2 _ _ hys)).tup (by rw [h1];exact SqT.of Ad),t6.tup (SqT.of (sm _ _ qp))⟩
   walk_at "r"
   refine Da (sm.tup qe) rfl ?_
   walk_at "r"
   rcases Zri hr0 with ⟨h1,h2⟩ | ⟨h2,h1 | h1 | h1⟩
   ·rw [h1]
    refine ⟨false,⟨by decide,by decide⟩,?_⟩
    rw [h2,if_neg (by decide),Qx] at fs'
    refine iteF ?_
    exact ⟨ys,hys,_,_,_,_,rfl,by rw [fs'];exact aly,sm⟩
   all_goals
    rw [h1]
    refine ⟨true,⟨by decide,by decide⟩,?_⟩
    refine iteT ?_
    walk_at "r"
    refine ⟨Bu,fun p2 h3=>?_⟩
    obtain ⟨y,k1,k2,zs,k3,k4,k5⟩:=hit h2 _ h1 p2 h3
    exact ⟨y,k1,k2,zs,k3,_,_,_,_,rfl,k4,k5⟩
  ·rintro ys σ' H' hys ⟨x0,x1,x2,x3,rfl,aly,sm⟩
   rw [al.1,Q3] at aly
   exact q D ys H' (s1.trans sm) hys aly
noncomputable def Zco (K:Pk):Sp:=fun vs H Q _=>∃(v u:V)(w:Str)(n:Dt)(ps:List Tr)(tu:Tr)(k:Nat),vs=[v,.int (k:Nat),u]/\TrAt K H v (.mk w n ps)/\TrAt K H u tu/\k < ps.length/\ps.length<=1000 /\
 ∀(v':V)(H':Hp),Same H H'->TrAt K H' v' (.mk w n (ps.set k tu))->Q v' H'
theorem Zqx {α:Type}{xs:List α}{k:Nat}{x:α}(h:k < xs.length):xs.take k++[x]++xs.drop (k+1)=xs.set k x:=by
 rw [List.set_eq_take_append_cons_drop,if_pos h,Rl]
 rfl
theorem Zdv:Bf ["form", "number", "part", "parts"] ["form", "number", "part"] (A0 Lh):=by walk_at "sc"
theorem Zix {f:Addr}{fd:FuncData}(F:Fun K "with_part" "with_part" Lh f fd)(T:Txt K mg):As P w K mg base Az 1 f fd ["form", "number", "part"] (Zco K):=by
 refine F.okq Zdv (fun vs H Q E h=>?_) (fun cdv A outer s H vs Q E hr h=>?_)
 ·obtain ⟨v,u,w,n,ps,tu,k,rfl,_⟩:=h
  rfl
 ·obtain ⟨v,u,w,n,ps,tu,k,rfl,ht,hu,hk,hl,q⟩:=h
  refine ⟨_,Ae (Aq 3 Zdv (Ao K (qv 0) Ah))
   (Af (Am (Ar (Aa (Ao K (qv 0) Ah) (Aa (Ao K (qv 0) Ah) (Aa (A7 (Cu K) (A7 (Cu K) (Gh (Mp K) (qv 3) (Gw) (Gn (qv 1))) (Ar (Aa (qv 2) Ab))) (Gh (Mp K) (qv 3) (Gn (A7 (Cu K) (qv 1) Ah)) (Gw))) Ab)))))),?_⟩
  have bg:=big
  cases ht with
  | @mk b pp _ nv _ us _ qb hn qp l hch =>
  walk_at "r"
  refine A4 qb rfl ?_
  walk_at "r"
  refine A4 qb rfl ?_
  walk_at "r"
  refine A4 qb rfl ?_
  walk_at "r"
  refine Zba qp fun r1 H1 s1 q1=>?_
  rw [Zcf] at q1
  walk_at "r"
  refine ⟨B5,fun p2 h2=>?_⟩
  have s2:=Same.upd (o:=.tup [u]) h2
  refine Zbp (s2.tup q1) (SqT.of Ad) (by rw [Qb];show _+1<=sizeLine;omega) fun r3 H3 s3 q3=>?_
  have s13:=s1.trans (s2.trans s3)
  walk_at "r"
  refine Zba (s13.tup qp) fun r4 H4 s4 q4=>?_
  have ek:(k:Int)+1=((k+1:Nat):Int):=by omega
  rw [ek,Zr5] at q4
  refine Zbp (s4.tup q3) q4 (by rw [Px,Qb,Uc];show _+1+_<=sizeLine;omega) fun r5 H5 s5 q5=>?_
  rw [Zqx (by omega)] at q5
  walk_at "r"
  refine ⟨B2,fun p6 h6=>?_⟩
  have s6:=Same.upd (o:=.tup [.str w,nv,.ref r5]) h6
  have sm:=s13.trans (s4.trans (s5.trans s6))
  refine q (.ref p6) _ sm (.mk (SqT.of Ad) (hn.same sm.t) (s6.tup q5) (by rw [Qs,Qs];exact l) fun j x y g1 g2=>?_)
  by_cases e:k=j
  ·subst e
   rw [R1 (by omega)] at g1 g2
   cases g1
   cases g2
   exact hu.same sm
  ·rw [Sm e] at g1 g2
   exact (hch j x y g1 g2).same sm
noncomputable def Zez (K:Pk):Sp:=fun vs H Q _=>∃(v u:V)(t tu:Tr)(p:Addr)(pl:List Nat),vs=[v,.ref p,u]/\TrAt K H v t/\SqT K H p (Bj pl)/\Sub t pl/\pl.length<=1000/\t.size<=1000/\TrAt K H u tu /\
 ∀(v':V)(H':Hp),Same H H'->TrAt K H' v' (C2 t pl tu)->Q v' H'
theorem Zmy {t:Tr}{pl:List Nat}(s:Sub t pl):∀ u∈Bm t pl,u.size<=t.size:=by
 induction s with
 | nil t=>intro u hu;cases t;rw [Bm,Qi] at hu;rw [hu];exact Po _
 | cons hj _ ih =>
  intro u hu
  rw [Iq hj] at hu
  rcases Pu.mp hu with rfl | hu
  ·exact Po _
  ·have:=ih u hu
   have:=Zkj hj
   rw [Tr.size]
   omega
theorem sc_with_at:Bf ["tree", "place", "form", "made", "number", "above"] ["tree", "place", "form"] (A0 Li):=by walk_at "sc"
theorem Zn3 {f:Addr}{fd:FuncData}(F:Fun K "with_at" "with_at" Li f fd)(T:Txt K mg)(C_forms_down_to:Ba P w K mg base 3 "forms_down_to" ["tree", "place"] (Ms K))(C_with_part:Ba P w K mg base 1 "with_part" ["form", "number", "part"] (Zco K)):As P w K mg base Az 4 f fd ["tree", "place", "form"] (Zez K):=by
 refine F.okq sc_with_at (fun vs H Q E h=>?_) (fun cdv A outer s H vs Q E hr h=>?_)
 ·obtain ⟨v,u,t,tu,p,pl,rfl,_⟩:=h
  rfl
 ·obtain ⟨v,u,t,tu,p,pl,rfl,ht,hp,hs,hl,hz,hu,q⟩:=h
  refine ⟨_,Ae (Aq 3 sc_with_at (qv 2))
   (Ae (Cg Qf rfl (Nj K rfl T.reversed (Aa (Zsg K (by rfl) T.list (by rfl) T.zip (Aa (qv 1) (Aa (Ay C_forms_down_to hr.m (Aa (qv 0) (Aa (qv 1) Ab))) Ab))) Ab)) (Cv K (n:=2) rfl (Bk (Ax (i:=4) sc_with_at.nd rfl (Or.inl rfl)) (Bk (Ax (i:=5) sc_with_at.nd rfl (Or.inl rfl)) (Cw)))) (Af (Aq 3 sc_with_at (Ay C_with_part hr.m (Aa (qv 5) (Aa (qv 4) (Aa (qv 3) Ab)))))))
   (Af (Am (qv 3)))),?_⟩
  have hpl:=Io hs
  walk_at "r"
  refine ⟨v,t,p,pl,rfl,ht,hp,hs,hl,fun q1 ws H1 hq1 s1 e1 al=>?_⟩
  walk_at "r"
  refine ⟨p,q1,_,ws,rfl,s1.tup hp,SqL.of e1,fun S zs H2 hS s2 hzl hpairs hS2=>?_⟩
  have hzl:zs.length=pl.length:=by rw [hzl,Hz,al.1,hpl];omega
  walk_at "r"
  refine ⟨S,zs,rfl,SqL.of hS2,?_⟩
  have s12:=s1.trans s2
  have hlastp:(Bm t pl)[pl.length]?=some ((Bm t pl)[pl.length]'(by omega)):=Pn (by omega)
  refine Zb5 (K:=K) (a:=S) (xs:=zs) (fun j σ' H'=>∃ w4 w5 m tm,σ'=[some v,some (.ref p),some u,some m,w4,w5]/\(Bm t pl)[pl.length - j]?=some tm/\TrAt K H' m (C2 tm (pl.drop (pl.length - j)) tu)/\Same H2 H') ⟨none,none,u,_,rfl,hlastp,by rw [V4,Si (Po _),Zae];exact hu.same s12,Same.refl _⟩ ?_ ?_ ?_
  ·rintro j σ' H' _ ⟨_,_,_,_,_,_,_,sm⟩
   exact SqL.of (sm _ _ hS2)
  ·rintro j z σ' H' hj hz1 ⟨w4,w5,m,tm,rfl,htm,hm,sm⟩
   obtain ⟨tt,x,y,rfl,hx,hy,htt⟩:=hpairs _ _ hz1
   obtain ⟨k,rfl,hk⟩:=Zbv hx
   obtain ⟨w',n',ps,u',a1,a2,a3⟩:=Kc hs _ k hk
   rw [hzl] at hk a1 a3 hy hj
   obtain ⟨ty,hty,hat⟩:=al.get hy
   rw [a1] at hty
   cases hty
   have e2:pl.length - 1 - j+1=pl.length - j:=by omega
   rw [e2,htm] at a3
   cases a3
   have hps:ps.length<=1000:=by
    have:=Zmy hs _ (Rj a1)
    rw [Tr.size] at this
    have:=Zok ps
    omega
   walk_at "r"
   refine Da (SqT.of (sm _ _ htt)) rfl ?_
   walk_at "r"
   refine ⟨y,m,w',n',ps,_,k,rfl,hat.same (s2.trans sm),hm,(Pt.mp a2).1,hps,fun v' H3 s3 hv'=>?_⟩
   walk_at "r"
   have e3:pl.length - (j+1)=pl.length - 1 - j:=by omega
   refine ⟨_,_,v',_,rfl,by rw [e3];exact a1,?_,sm.trans s3⟩
   rw [e3,Zl1 hs _ k w' n' ps tm hk a1 (by rw [e2];exact htm),e2]
   exact hv'
  ·rintro σ' H' ⟨w4,w5,m,tm,rfl,htm,hm,sm⟩
   rw [hzl,Sd] at htm hm
   rw [Lw] at htm
   cases htm
   walk_at "r"
   exact q m H' (s12.trans sm) hm
mutual
theorem Zc5:∀(pl:List Nat)(t:Tr)(x:List Nat×Tr),x∈walk pl t->pl <+: x.1
 | pl,.mk w n ps,x,h=>by
  rw [walk] at h
  rcases Pu.mp h with rfl | h
  ·exact List.prefix_rfl
  ·obtain ⟨j,_,h⟩:=Na pl 0 ps x h
   exact List.IsPrefix.trans ⟨[j],rfl⟩ h
theorem Na:∀(pl:List Nat)(i:Nat)(ts:List Tr)(x:List Nat×Tr),x∈Bv pl i ts->∃ j,i<=j/\pl++[j] <+: x.1
 | pl,i,[],x,h=>by rw [Bv] at h;cases h
 | pl,i,t::r,x,h=>by
  rw [Bv] at h
  rcases Qq.mp h with h | h
  ·exact ⟨i,Po _,Zc5 (pl++[i]) t x h⟩
  ·obtain ⟨j,h1,h2⟩:=Na pl (i+1) r x h
   exact ⟨j,by omega,h2⟩
end
noncomputable def Nb (x y:List Nat):Prop:=x.take y.length≠y
theorem Zgy {x y:List Nat}(h:¬ y <+: x):Nb x y:=fun e=>h (by rw [List.prefix_iff_eq_take];exact e.symm)
mutual
theorem Zda:∀(pl:List Nat)(t:Tr),(walk pl t).Pairwise fun x y=>Nb x.1 y.1
 | pl,.mk w n ps=>by
  rw [walk]
  refine List.Pairwise.cons (fun y hy=>Zgy fun h=>?_) (Zgg pl 0 ps)
  obtain ⟨j,_,h2⟩:=Na pl 0 ps y hy
  have l1:=h.length_le
  have l2:=h2.length_le
  rw [Px,Qm] at l2
  have l1:y.1.length<=pl.length:=l1
  omega
theorem Zgg:∀(pl:List Nat)(i:Nat)(ts:List Tr),(Bv pl i ts).Pairwise fun x y=>Nb x.1 y.1
 | pl,i,[]=>by rw [Bv];exact List.Pairwise.nil
 | pl,i,t::r=>by
  rw [Bv]
  refine List.pairwise_append.mpr ⟨Zda (pl++[i]) t,Zgg pl (i+1) r,fun x hx y hy=>Zgy fun h=>?_⟩
  obtain ⟨j,h1,h2⟩:=Na pl (i+1) r y hy
  have p1:=Zc5 (pl++[i]) t x hx
  have p2:=h2.trans h
  have e:pl++[i]=pl++[j]:=by
   rw [List.prefix_iff_eq_take] at p1 p2
   rw [p1,p2,Px,Px]
   rfl
  have:i=j:=by simpa using e
  omega
end
theorem Zmz (t:Tr)(ks:List Kd)(fs:List Bool):(Be t ks fs).Pairwise fun x y=>Nb x.1 y.1:=by
 have e:(Be t ks fs).map (·.1)=(walk [] t).map (·.1):=by
  unfold Be
  apply List.ext_getElem?
  intro i
  rw [Qj,Qj,Wl]
  cases (walk [] t)[i]? <;> rfl
 have h:((walk [] t).map (·.1)).Pairwise Nb:=Wz.mpr (Zda [] t)
 rw [<- e] at h
 exact Wz.mp h
theorem Zeo:∀(ts:List Tr)(j:Nat)(t u:Tr),ts[j]?=some t->Bz (ts.set j u)+t.size=Bz ts+u.size
 | [],j,t,u,h=>by cases h
 | x::r,0,t,u,h=>by
  cases h
  show Bz (u::r)+x.size=Bz (x::r)+u.size
  rw [Bz,Bz]
  omega
 | x::r,j+1,t,u,h=>by
  have:=Zeo r j t u (by simpa using h)
  show Bz (x::r.set j u)+t.size=Bz (x::r)+u.size
  rw [Bz,Bz]
  omega
theorem Znz {t f:Tr}{pl:List Nat}(s:Sub t pl):(C2 t pl f).size<=t.size+f.size:=by
 induction s with
 | nil t=>rw [Zae];omega
 | @cons w n ts j t r h s ih =>
  rw [Lm h,Tr.size,Tr.size]
  have:=Zeo ts j t (C2 t r f) h
  omega
noncomputable def Hh (t:Tr):List (List Nat)->Tr
 | []=>t
 | p::r=>C2 (Hh t r) p gapT
theorem Zcw {t:Tr}:∀(ps:List (List Nat)),ps.Pairwise Nb->(∀ p∈ps,Sub t p)->(∀ p,Sub t p->(∀ q∈ps,Nb p q)->Sub (Hh t ps) p)/\(Hh t ps).size<=t.size+ps.length/\(TrSh t->TrSh (Hh t ps))
 | [],_,_=>⟨fun p h _=>h,Po _,fun h=>h⟩
 | a::r,h,hs=>by
  obtain ⟨h1,h2⟩:=List.pairwise_cons.mp h
  obtain ⟨i1,i2,i3⟩:=Zcw r h2 fun p hp=>hs p (by simp [hp])
  have sa:=i1 a (hs a (by simp)) h1
  refine ⟨fun p hp hq=>(Zih sa (i1 p hp fun q hq'=>hq q (by simp [hq'])) (hq a (by simp))).1,?_,fun ht=>Zo8 sa (i3 ht) TrSh.gap⟩
  have:=Znz (f:=gapT) sa
  have:gapT.size=1:=by decide
  show (C2 (Hh t r) a gapT).size<=_
  rw [Py]
  omega
structure Zge (K:Pk)(ag:Addr):Prop where
 tr:∀ H:Hp,TrAt K H (.ref ag) gapT
noncomputable def Zdd (K:Pk):Sp:=fun vs H Q _=>∃(v:V)(t:Tr)(ks:List Kd)(fs:List Bool),vs=[v]/\TrAt K H v t/\TrSh t/\t.size<=40/\Fm t ks fs/\∀(u:V)(H':Hp),Same H H'->TrAt K H' u (Hh t (((Be t ks fs).filter mB).map (·.1)))->Q u H'
theorem sc_blanked:Bf ["tree", "made", "place", "mark"] ["tree"] (A0 Ih):=by walk_at "sc"
theorem Zoh {ag:Addr}{f:Addr}{fd:FuncData}(F:Fun K "blanked" "blanked" Ih f fd)(T:Txt K mg)(G_GAP:Ec mg "GAP" (.ref ag))(GA:Zge K ag)(C_marks:Ba P w K mg base 9 "marks" ["tree"] (Zbw K))(C_with_at:Ba P w K mg base 4 "with_at" ["tree", "place", "form"] (Zez K)):As P w K mg base Az 10 f fd ["tree"] (Zdd K):=by
 refine F.okq sc_blanked (fun vs H Q E h=>?_) (fun cdv A outer s H vs Q E hr h=>?_)
 ·obtain ⟨v,t,ks,fs,rfl,_⟩:=h
  rfl
 ·obtain ⟨v,t,ks,fs,rfl,ht,hts,hsz,hlk,q⟩:=h
  refine ⟨_,Ae (Aq 1 sc_blanked (qv 0))
   (Ae (Cg Qf rfl (Nj K rfl T.reversed (Aa (Ay C_marks hr.m (Aa (qv 0) Ab)) Ab)) (Cv K (n:=2) rfl (Bk (Ax (i:=2) sc_blanked.nd rfl (Or.inl rfl)) (Bk (Ax (i:=3) sc_blanked.nd rfl (Or.inl rfl)) (Cw)))) (Af (Aq 1 sc_blanked (Ay C_with_at hr.m (Aa (qv 1) (Aa (qv 2) (Aa (D7 G_GAP) Ab)))))))
   (Af (Am (qv 1)))),?_⟩
  have bg:=big
  walk_at "r"
  refine ⟨v,t,ks,fs,rfl,ht,hts,hsz,hlk,fun pL rows H1 s1 er al=>?_⟩
  have hdl:(Be t ks fs).length=t.size:=by unfold Be;rw [T9];exact Fb _ _
  have hnb:(((Be t ks fs).filter mB).map (·.1)).Pairwise Nb:=Wz.mpr ((Zmz t ks fs).filter mB)
  have hsub:∀ p∈((Be t ks fs).filter mB).map (·.1),Sub t p/\p.length<=40:=fun p hp=>by
   obtain ⟨r,hr1,rfl⟩:=V8.mp hp
   have hr2:=(Vo.mp hr1).1
   unfold Be at hr2
   obtain ⟨i,hi,e⟩:=List.mem_mapIdx.mp hr2
   rw [<- e]
   have m:(walk [] t)[i]∈walk [] t:=Ue _
   refine ⟨Zav t _ m,?_⟩
   have:=Kf [] t _ m
   simp at this
   show ((walk [] t)[i]).1.length<=40
   omega
  have hfl:((Be t ks fs).filter mB).length<=t.size:=by rw [<- hdl];exact Wh _ _
  revert hnb hsub hfl
  have hps:∀(j:Nat)(x:V),rows[j]?=some x->∃ r,((Be t ks fs).filter mB)[j]?=some r/\MkAt K H1 x r:=fun j x h=>al.get h
  have hl:=al.1
  revert hps hl q
  generalize (Be t ks fs).filter mB=ms
  intro q hps hl hnb hsub hfl
  refine ⟨pL,rows,rfl,SqL.of er,?_⟩
  refine Zb5 (K:=K) (a:=pL) (xs:=rows) (fun j σ' H'=>∃ w2 w3 m,σ'=[some v,some m,w2,w3]/\TrAt K H' m (Hh t ((ms.map (·.1)).drop (ms.length - j)))/\Same H1 H') ⟨none,none,v,rfl,by rw [V4,Si (by simp)];exact ht.same s1,Same.refl _⟩ ?_ ?_ ?_
  ·rintro j σ' H' _ ⟨_,_,_,_,_,sm⟩
   exact SqL.of (sm _ _ er)
  ·rintro j z σ' H' hj hz1 ⟨w2,w3,m,rfl,hm,sm⟩
   obtain ⟨r,hr1,e,p,rfl,qe,qp⟩:=hps _ _ hz1
   rw [hl] at hr1 hj
   have hpl:(ms.map (·.1))[ms.length - 1 - j]?=some r.1:=by rw [Qj,hr1];rfl
   have hd:(ms.map (·.1)).drop (ms.length - 1 - j)=r.1::(ms.map (·.1)).drop (ms.length - j):=by
    have hlt:ms.length - 1 - j < (ms.map (·.1)).length:=by rw [Pw];omega
    rw [Rs hlt]
    have e1:(ms.map (·.1))[ms.length - 1 - j]=r.1:=by
     have:=Pn hlt
     rw [hpl] at this
     exact (P8 this).symm
    rw [e1,show ms.length - 1 - j+1=ms.length - j by omega]
   have hpw:=hnb.sublist (List.drop_sublist (ms.length - 1 - j) _)
   rw [hd] at hpw
   obtain ⟨p1,p2⟩:=List.pairwise_cons.mp hpw
   have mem:∀ q∈(ms.map (·.1)).drop (ms.length - j),q∈ms.map (·.1):=fun q hq=>List.mem_of_mem_drop hq
   obtain ⟨b1,b2,b3⟩:=Zcw (t:=t) _ p2 fun q hq=>(hsub q (mem q hq)).1
   have hr0:=hsub r.1 (Rj hpl)
   have hlen:((ms.map (·.1)).drop (ms.length - j)).length<=40:=by rw [Uc,Pw];omega
   walk_at "r"
   refine Da (sm.tup qe) rfl ?_
   walk_at "r"
   refine ⟨m,.ref ag,_,gapT,p,r.1,rfl,hm,sm.tup qp,b1 r.1 hr0.1 p1,by omega,by omega,GA.tr _,fun v' H3 s3 hv'=>?_⟩
   walk_at "r"
   refine ⟨_,_,v',rfl,?_,sm.trans s3⟩
   rw [show ms.length - (j+1)=ms.length - 1 - j by omega,hd]
   exact hv'
  ·rintro σ' H' ⟨w2,w3,m,rfl,hm,sm⟩
   rw [hl,Sd,Vv] at hm
   walk_at "r"
   exact q m H' (s1.trans sm) hm
end
section
variable {P:Program}{w:World}{K:Pk}{mg:Str->Option Value}{base:Heap}
noncomputable def En (K:Pk)(TB:Addr):Sp:=fun vs H _ E=>∃(v:V)(t:Tr),vs=[v]/\TrAt K H v t/\40 < t.size/\t.size<=100/\∀ H',Same H H'->E (.ref TB) none H'
theorem Zff {N_TooBig:Addr}{f:Addr}{fd:FuncData}(F:Fun K "looks" "looks" Im f fd)(T:Txt K mg)(G_MOST_FORMS:Ec mg "MOST_FORMS" (.int 40))(C_placed_forms:Ba P w K mg base 1 "placed_forms" ["tree"] (Ob K))(R_TooBig:Ma K N_TooBig)(G_TooBig:mg "TooBig" = some (.ref N_TooBig)):As P w K mg base (Ci P w) 8 f fd ["tree"] (En K N_TooBig):=by
 refine F.okx sc_looks (fun vs H Q E h=>?_) (fun cdv A outer s H vs Q E hr h=>?_)
 ·obtain ⟨v,t,rfl,_⟩:=h
  rfl
 ·obtain ⟨v,t,rfl,ht,hz,hz2,q⟩:=h
  refine ⟨_,Ae (Aq 1 sc_looks (Ay C_placed_forms hr.m (Aa (qv 0) Ab)))
   (Ae (Au (A8 Nk (A9 (Ek K) (by rfl) T.len (by decide +kernel) (Aa (qv 1) Ab)) (D7 G_MOST_FORMS) (A1 _)) (Af (Zi8 rfl R_TooBig G_TooBig (Aa Av Ab) (fun _ _ _ _ _ _ _ I x h0 hn he=>Zcu I x h0 hn he) rfl)) Aw)
   (M3)),?_⟩
  have bg:=big
  walk_at "r"
  refine ⟨v,t,rfl,ht,by omega,fun pp rows H1 s1 hpp er al=>?_⟩
  have hwl:(walk [] t).length=t.size:=Fb _ _
  have hrl:rows.length=t.size:=by rw [al.1,hwl]
  walk_at "r"
  refine Hr (SqL.of er) ?_
  walk_at "r"
  rw [decide_eq_true (show (40:Int) < (rows.length:Nat) by omega)]
  walk_at "r"
  exact ⟨B5,q _ s1⟩
theorem Zjs {N_TooBig:Addr}{f:Addr}{fd:FuncData}(F:Fun K "blanked" "blanked" Ih f fd)(T:Txt K mg)(C_marks:Dq P w K mg base 9 "marks" ["tree"] (En K N_TooBig)):As P w K mg base (Ci P w) 10 f fd ["tree"] (En K N_TooBig):=by
 refine F.okx sc_blanked (fun vs H Q E h=>?_) (fun cdv A outer s H vs Q E hr h=>?_)
 ·obtain ⟨v,t,rfl,_⟩:=h
  rfl
 ·obtain ⟨v,t,rfl,ht,hz,hz2,q⟩:=h
  refine ⟨_,Ae (Aq 1 sc_blanked (qv 0))
   (Ae (Cg PassesOwn.leaving rfl (Nj K rfl T.reversed (Aa (Km C_marks hr.m (Jy (fun _ _ _ h=>h)) (Aa (qv 0) Ab)) Ab)) (Cv K (n:=2) rfl (Bk (Ax (i:=2) sc_blanked.nd rfl (Or.inl rfl)) (Bk (Ax (i:=3) sc_blanked.nd rfl (Or.inl rfl)) (Cw)))) (M3))
   (Af (Am (qv 1)))),?_⟩
  walk_at "r"
  exact ⟨v,t,rfl,ht,hz,hz2,q⟩
noncomputable def Zgz (K:Pk):Sp:=fun vs H Q _=>∃(v:V)(t:Tr)(p:Addr)(pl:List Nat)(tx:Tr),vs=[v,.ref p]/\TrAt K H v t/\SqT K H p (Bj pl)/\Sub t pl/\pl.length<=1000/\(Bm t pl)[pl.length]?=some tx /\
 ∀(u:V)(H':Hp),Same H H'->TrAt K H' u tx->Q u H'
theorem Zhv:Bf ["tree", "place"] ["tree", "place"] (A0 Jb):=by walk_at "sc"
theorem Ztu {f:Addr}{fd:FuncData}(F:Fun K "form_at" "form_at" Jb f fd)(T:Txt K mg)(C_forms_down_to:Ba P w K mg base 3 "forms_down_to" ["tree", "place"] (Ms K)):As P w K mg base Az 4 f fd ["tree", "place"] (Zgz K):=by
 refine F.okq Zhv (fun vs H Q E h=>?_) (fun cdv A outer s H vs Q E hr h=>?_)
 ·obtain ⟨v,t,p,pl,tx,rfl,_⟩:=h
  rfl
 ·obtain ⟨v,t,p,pl,tx,rfl,ht,hp,hs,hl,hx,q⟩:=h
  refine ⟨_,Af (Am (Ao K (Ay C_forms_down_to hr.m (Aa (qv 0) (Aa (qv 1) Ab))) (Fo F3 Ah))),?_⟩
  have hpl:=Io hs
  walk_at "r"
  refine ⟨v,t,p,pl,rfl,ht,hp,hs,hl,fun q1 ws H1 hq1 s1 e1 al=>?_⟩
  obtain ⟨u,hu,hat⟩:=al.get' hx
  have hwl:ws.length - 1=pl.length:=by rw [al.1,hpl];omega
  walk_at "r"
  refine Bl (SqL.of e1) (Gx (by rw [hwl];exact hu)) ?_
  exact q u H1 s1 hat
noncomputable def KrAt (K:Pk)(H:Hp)(v:V)(r:Rw):Prop:=∃(c p:Addr)(g:V),v=.ref c/\SqT K H c [.ref p,g]/\H p=some (.tup (Bj r.1))/\KdAt K H g r.2.1
theorem KrAt.same {H H':Hp}(e:SameT H H')(v:V)(r:Rw)(h:KrAt K H v r):KrAt K H' v r:=let ⟨c,p,g,h1,h2,h3,h4⟩:=h;⟨c,p,g,h1,e.tup h2,(e p).1 _ h3,h4.same e⟩
theorem Zh9 {H:Hp}:∀(rows:List V)(rs:List Rw),Al (KrAt K H) rows rs->∃ kvs:List (List Ap×V),Al (fun v (kv:List Ap×V)=>∃ a b,v=.ref a/\SqT K H a [.ref b,kv.2]/\H b=some (.tup (kv.1.map kV))) rows kvs /\
  ∀ pl:List Nat,(Ft kvs (Bq pl)=none/\∀ r∈rs,r.1≠pl)\/∃ u r,Ft kvs (Bq pl)=some u/\r∈rs/\r.1=pl/\KdAt K H u r.2.1:=by
 intro rows
 refine Zdq (P:=fun rows=>∀ rs,Al (KrAt K H) rows rs->∃ kvs:List (List Ap×V),Al (fun v (kv:List Ap×V)=>∃ a b,v=.ref a/\SqT K H a [.ref b,kv.2]/\H b=some (.tup (kv.1.map kV))) rows kvs /\
  ∀ pl:List Nat,(Ft kvs (Bq pl)=none/\∀ r∈rs,r.1≠pl)\/∃ u r,Ft kvs (Bq pl)=some u/\r∈rs/\r.1=pl/\KdAt K H u r.2.1) ?_ ?_ rows
 ·intro ws al
  have:ws=[]:=Rr al.1.symm
  subst this
  exact ⟨[],.nil,fun z=>.inl ⟨rfl,fun r hr=>nomatch hr⟩⟩
 ·intro l v ih ws al
  obtain ⟨l',v',ws',x,e1,rfl,al',a,p,u,rfl,q,hp,t⟩:=al.last (by simp)
  obtain ⟨rfl,e2⟩:=Vn e1 rfl
  cases e2
  obtain ⟨kvs,ak,hk⟩:=ih ws' al'
  refine ⟨kvs++[(Bq x.1,u)],ak.snoc ⟨a,p,rfl,q,by rw [Ld];exact hp⟩,fun pl=>?_⟩
  rw [Zgq]
  by_cases hz:x.1=pl
  ·refine .inr ⟨u,x,?_,by simp,hz,t⟩
   rw [if_pos (by rw [hz])]
  ·rw [if_neg (fun h=>hz (Zf9 h))]
   rcases hk pl with ⟨h1,h2⟩ | ⟨u',r,h1,h2,h3⟩
   ·refine .inl ⟨h1,fun r hr=>?_⟩
    rcases Qq.mp hr with hr | hr
    ·exact h2 r hr
    ·rw [Qi.mp hr];exact hz
   ·exact .inr ⟨u',r,h1,by simp [h2],h3⟩
noncomputable def Zhs (K:Pk):Sp:=fun vs H Q _=>∃(v:V)(t:Tr)(ks:List Kd)(fs:List Bool)(p:Addr)(pl:List Nat),vs=[v,.ref p]/\TrAt K H v t/\TrSh t/\t.size<=40/\Fm t ks fs/\SqT K H p (Bj pl)/\H p=some (.tup (Bj pl))/\Sub t pl/\pl.length<=1000/\(∃ r∈Be t ks fs,r.1=pl)/\(∃ tx,(Bm t pl)[pl.length]?=some tx) /\
 ∀(u:V)(r:Rw)(H':Hp),Same H H'->r∈Be t ks fs->r.1=pl->KdAt K H' u r.2.1->Q u H'
theorem Zce:(["row"]:List Str).Nodup:=by decide +kernel
theorem Ip:Bf ["tree", "place", "given"] ["tree", "place"] (A0 Hg):=by walk_at "sc"
theorem Znc {f:Addr}{fd:FuncData}(F:Fun K "kind_at" "kind_at" Hg f fd)(T:Txt K mg)(C_looks:Ba P w K mg base 8 "looks" ["tree"] (Lg K))(C_form_at:Ba P w K mg base 4 "form_at" ["tree", "place"] (Zgz K)):As P w K mg base Az 9 f fd ["tree", "place"] (Zhs K):=by
 refine F.okq Ip (fun vs H Q E h=>?_) (fun cdv A outer s H vs Q E hr h=>?_)
 ·obtain ⟨v,t,ks,fs,p,pl,rfl,_⟩:=h
  rfl
 ·obtain ⟨v,t,ks,fs,pa,pl,rfl,ht,hts,hsz,hlk,hpa,hpe,hsub,hpl,hin,⟨tx,htx⟩,q⟩:=h
  refine ⟨_,Ae (Aq 2 Ip (Ep (Zcb K hr.u200 rfl) (by rfl) T.dict (by decide +kernel) (Aa (Gb (N:=["row"]) (σ0:=C7 1 []) rfl (E2 rfl (by decide +kernel) (by decide +kernel) (by decide +kernel)) (C0 K (Ay C_looks hr.m (Aa (qv 0) Ab))) (Ew rfl (by rfl)) (fun _ _ _ _=>Ax (i:=0) Zce rfl (Or.inl rfl)) (fun _ _ _ _=>Ge) (fun _ _ _ _=>Ar (Aa (Ao K (qv 0) Ah) (Aa (Ao K (qv 0) Ah) Ab)))) Ab)))
   (Ae (Cm (Ay C_form_at hr.m (Aa (qv 0) (Aa (qv 1) Ab))))
   (Af (Am (Ir hr.u1 (qv 2) (qv 1) (fun _ _=>rfl))))),?_⟩
  have bg:=big
  walk_at "r"
  refine ⟨v,t,ks,fs,rfl,ht,hts,hsz,hlk,fun pL rows H1 s1 _ er al=>?_⟩
  have hdl:(Be t ks fs).length=t.size:=by unfold Be;rw [T9];exact Fb _ _
  refine .inl ⟨pL,rfl,⟨_,SqL.of er⟩,fun D hD=>?_⟩
  have nD:pL≠D:=A5 er hD
  refine Hv (K:=K) (a:=pL) (xs:=rows) (Pv:=fun i ys σ' H'=>∃ x0,σ'=[x0]/\Al (KrAt K H') ys ((Be t ks fs).take i)/\Same H1 H') ⟨none,rfl,.nil,Same.upd hD⟩ ?_ ?_ ?_
  ·rintro i ys σ' H' _ ⟨_,_,_,sm⟩
   exact SqL.of (sm _ _ er)
  ·rintro i x ys σ' H' hx hys ⟨x0,rfl,aly,sm⟩
   have hi:=(Pt.mp hx).1
   obtain ⟨r,hr0,e,p,g,a,rfl,qe,qp,hg,_⟩:=al.get hx
   have hln:i < t.size:=by rw [<- hdl,<- al.1];exact hi
   walk_at "r"
   refine A4 (sm.tup qe) rfl ?_
   walk_at "r"
   refine A4 (sm.tup qe) rfl ?_
   walk_at "r"
   refine ⟨Bu,fun p2 h3=>?_⟩
   have s2:=Same.upd (o:=.tup [.ref p,g]) h3
   have t6:=s2.t.trans (SameT.set (o:=.lst (ys++[.ref p2])) (s2 _ _ hys))
   refine ⟨ys,s2 _ _ hys,by rw [aly.1,Qb];omega,_,Ad,_,rfl,?_,(sm.trans s2).over hD⟩
   rw [Re,hr0]
   exact (aly.mono (KrAt.same t6)).snoc ⟨p2,p,g,rfl,(SameT.set (s2 _ _ hys)).tup (SqT.of Ad),(t6 p).1 _ (sm _ _ qp),(hg.same sm.t).same t6⟩
  ·rintro ys σ' H' hys ⟨x0,rfl,aly,sm⟩
   rw [al.1,Q3] at aly
   walk_at "r"
   obtain ⟨kvs,alk,look⟩:=Zh9 (K:=K) (H:=H') ys _ aly
   refine ⟨D,ys,rfl,SqL.of hys,.inr ⟨kvs,alk,fun dd hdd=>?_⟩⟩
   obtain ⟨H3,s3,e3,z9⟩:=Dc hdd (.dT (B3 [] kvs))
   rw [z9]
   have sA:Same H H3:=(s1.trans sm).trans s3
   walk_at "r"
   refine ⟨v,t,pa,pl,tx,rfl,ht.same sA,sA.tup hpa,hsub,hpl,htx,fun u0 H4 s4 _=>?_⟩
   walk_at "r"
   rcases look pl with ⟨_,l2⟩ | ⟨u,r,l1,l2,l3,l4⟩
   ·obtain ⟨r,h1,h2⟩:=hin
    exact absurd h2 (l2 r h1)
   ·have g:DGet H4 dd (.ref pa) (Bo (B3 [] kvs) (Bq pl)):=DGet.t (s4 _ _ e3) (by rw [Ld];exact (sA.trans s4) _ _ hpe)
    rw [Zjq,l1] at g
    refine ⟨dd,u,rfl,g,?_⟩
    exact q u r H4 (sA.trans s4) l2 l3 ((l4.same s3.t).same s4.t)
theorem Zj7 {N_TooBig:Addr}{f:Addr}{fd:FuncData}(F:Fun K "kind_at" "kind_at" Hg f fd)(T:Txt K mg)(C_looks:Dq P w K mg base 8 "looks" ["tree"] (En K N_TooBig)):As P w K mg base (Ci P w) 9 f fd ["tree", "place"] (fun vs H Q E=>∃ v y,vs=[v,y]/\En K N_TooBig [v] H Q E):=by
 refine F.okx Ip (fun vs H Q E h=>?_) (fun cdv A outer s H vs Q E hr h=>?_)
 ·obtain ⟨v,y,rfl,_⟩:=h
  rfl
 ·obtain ⟨v,y,rfl,v',t,e,ht,hz,hz2,q⟩:=h
  cases e
  refine ⟨_,Ae (Aq 2 Ip (Ep (Zcb K hr.u200 rfl) (by rfl) T.dict (by decide +kernel) (Aa (Gb (N:=["row"]) (σ0:=C7 1 []) rfl (E2 rfl (by decide +kernel) (by decide +kernel) (by decide +kernel)) (C0 K (Km C_looks hr.m (Jy (fun _ _ _ h=>h)) (Aa (qv 0) Ab))) (Ew rfl (by rfl)) (fun _ _ _ _=>Ax (i:=0) Zce rfl (Or.inl rfl)) (fun _ _ _ _=>Ge) (fun _ _ _ _=>Ar (Aa (Ao K (qv 0) Ah) (Aa (Ao K (qv 0) Ah) Ab)))) Ab)))
   (M3),?_⟩
  walk_at "r"
  exact ⟨v,t,rfl,ht,hz,hz2,q⟩
theorem Zgd {N_TooBig:Addr}{f:Addr}{fd:FuncData}(F:Fun K "marks" "marks" Ix f fd)(T:Txt K mg)(C_looks:Dq P w K mg base 8 "looks" ["tree"] (En K N_TooBig)):As P w K mg base (Ci P w) 9 f fd ["tree"] (En K N_TooBig):=by
 refine F.okx Zdm (fun vs H Q E h=>?_) (fun cdv A outer s H vs Q E hr h=>?_)
 ·obtain ⟨v,t,rfl,_⟩:=h
  rfl
 ·obtain ⟨v,t,rfl,ht,hz,hz2,q⟩:=h
  refine ⟨_,Af (Am (Gb (N:=["place", "given", "asked", "mark"]) (σ0:=C7 4 []) rfl (E2 rfl (by decide +kernel) (by decide +kernel) (by decide +kernel)) (C0 K (Km C_looks hr.m (Jy (fun _ _ _ h=>h)) (Aa (qv 0) Ab))) (Ew rfl (by rfl)) (fun _ _ _ _=>Cv K (n:=4) rfl (Bk (Ax (i:=0) Gq rfl (Or.inl rfl)) (Bk (Ax (i:=1) Gq rfl (Or.inl rfl)) (Bk (Ax (i:=2) Gq rfl (Or.inl rfl)) (Bk (Ax (i:=3) Gq rfl (Or.inl rfl)) (Cw)))))) (fun _ _ _ _=>Ot (Gz K (qv 3) (by intro _;rfl))) (fun _ _ _ _=>Ar (Aa (qv 0) (Aa (qv 3) Ab))))),?_⟩
  walk_at "r"
  exact ⟨v,t,rfl,ht,hz,hz2,q⟩
noncomputable def Zfq (K:Pk):Sp:=fun vs H Q _=>∃(v:V)(w:Str)(n:Dt)(ps:List Tr)(k:Int),vs=[v,.int k]/\TrAt K H v (.mk w n ps)/\Q (.bl (decide (0<=k/\k < ps.length))) H
theorem Zou {f:Addr}{fd:FuncData}(F:Fun K "has_part" "has_part" Ie f fd)(T:Txt K mg)(C_is_whole:Ba P w K mg base 1 "is_whole" ["thing"] Pa):As P w K mg base Az 2 f fd ["form", "number"] (Zfq K):=by
 refine F.okq Zfc (fun vs H Q E h=>?_) (fun cdv A outer s H vs Q E hr h=>?_)
 ·obtain ⟨v,w,n,ps,k,rfl,_⟩:=h
  rfl
 ·obtain ⟨v,w,n,ps,k,rfl,ht,q⟩:=h
  refine ⟨_,Af (Am (Di (Ay C_is_whole hr.m (Aa (qv 1) Ab)) (Eo (Zg2 Zd3 Me Ah (qv 1) (A9 (Ek K) (by rfl) T.len (by decide +kernel) (Aa (Ao K (qv 0) Ah) Ab)))))),?_⟩
  cases ht with
  | @mk b pp _ nv _ us _ qb hn qp l hch =>
  walk_at "r"
  refine ⟨_,rfl,?_⟩
  walk_at "r"
  refine Bw (fun c=>?_) (fun c=>?_)
  ·have c:0<=k:=by simpa using c
   walk_at "r"
   refine A4 qb rfl ?_
   walk_at "r"
   refine Gf qp ?_
   walk_at "r"
   have e:decide (k < (us.length:Int))=decide (0<=k/\k < (ps.length:Int)):=by rw [l];exact decide_eq_decide.mpr ⟨fun h=>⟨c,h⟩,fun h=>h.2⟩
   rw [e]
   exact q
  ·have c:¬ 0<=k:=fun h=>c (by simpa using h)
   have e:decide (0<=k/\k < (ps.length:Int))=false:=decide_eq_false fun h=>c h.1
   rw [e] at q
   walk_at "r"
   exact q
noncomputable abbrev zsS (i j:Nat):Stmt:=match Ac i with | .ClassDef _ _ _ b _ _ _ _ _ _ _=>b.getD j (.Pass ⟨0,0,0,0⟩) | s=>s
noncomputable abbrev Jt:Stmt:=zsS 10 0
theorem Zlk:Bf ["self", "place"] ["self", "place"] (A0 Jt):=by walk_at "sc"
noncomputable def Zek (K:Pk):Sp:=fun vs H Q _=>∃(a C:Addr)(v:V),vs=[.ref a,v]/\H a=some (Ef a (.ref C) none)/\ExC K C/\NoAttr K C "place" /\ ∀ d,H d=none->d≠a->Q .non (upd (upd H d (.xd [("place",v)])) a (Ef a (.ref C) (some d)))
theorem Zs9 {f:Addr}{fd:FuncData}(F:Fun K "__init__" "NoPlace.__init__" Jt f fd):As P w K mg base Az 1 f fd ["self", "place"] (Zek K):=by
 refine F.okq Zlk (fun vs H Q E h=>?_) (fun cdv A outer s H vs Q E hr h=>?_)
 ·obtain ⟨a,C,v,rfl,_⟩:=h
  rfl
 ·obtain ⟨a,C,v,rfl,h1,h2,h3,q⟩:=h
  refine ⟨_,Af (Zru (qv 0) (qv 1)),?_⟩
  exact ⟨v,rfl,.ref a,rfl,a,C,rfl,h1,h2,h3,q⟩
structure Bad (t:Tr)(pl:List Nat)(far:Int):Prop where
 sub:Sub t pl
 ex:∃ w n ps,(Bm t pl)[pl.length]?=some (.mk w n ps)/\¬ (0<=far/\far < (ps.length:Int))
noncomputable def Ez (pl:List Nat)(far:Int)(rest:List V):List V:=Bj pl++.int far::rest
theorem Zm1 {pl:List Nat}{far:Int}{rest:List V}{i:Nat}(hi:i < pl.length){v:V}(h:(Ez pl far rest)[i]?=some v):∃ k,v=.int (k:Nat)/\pl[i]?=some k:=by
 unfold Ez at h
 rw [Q7 (by rw [Hz];exact hi)] at h
 exact Zbv h
theorem Zov {pl:List Nat}{far:Int}{rest:List V}{v:V}(h:(Ez pl far rest)[pl.length]?=some v):v=.int far:=by
 unfold Ez at h
 rw [Rh (by rw [Hz];exact Po _),Hz,Sd] at h
 exact (P8 h).symm
noncomputable def Rf (C:Addr)(H:Hp)(p:Addr)(E:XK):Prop:=∀(d:Addr)(H':Hp),Same H H'->H' d=some (.xd [("place",.ref p)])->E (.ref C) (some d) H'
theorem Rf.same {C:Addr}{H H':Hp}{p:Addr}{E:XK}(h:Rf C H p E)(s:Same H H'):Rf C H' p E:=fun d H2 s2 e=>h d H2 (s.trans s2) e
noncomputable def Mx (K:Pk)(C:Addr):Sp:=fun vs H _ E=>∃(v:V)(t:Tr)(p:Addr)(pl:List Nat)(far:Int)(rest:List V),vs=[v,.ref p]/\TrAt K H v t/\SqT K H p (Ez pl far rest)/\Bad t pl far/\pl.length<=1000/\Rf C H p E
theorem Zrt {f:Addr}{fd:FuncData}(F:Fun K "forms_down_to" "forms_down_to" Jm f fd)(T:Txt K mg)(C_has_part:Ba P w K mg base 2 "has_part" ["form", "number"] (Zfq K))
  {C fi:Addr} {fdi:FuncData} (R_NoPlace:Rz K C fi) (F_NoPlace:As P w K mg base Az 1 fi fdi ["self", "place"] (Zek K)) (b_NoPlace:Binds K fdi ["self", "place"] []) (G_NoPlace:mg "NoPlace" = some (.ref C)) (xC:ExC K C) (nA:NoAttr K C "place"):As P w K mg base (Ci P w) 3 f fd ["tree", "place"] (Mx K C):=by
 refine F.okx sc_forms_down_to (fun vs H Q E h=>?_) (fun cdv A outer s H vs Q E hr h=>?_)
 ·obtain ⟨v,t,p,pl,far,rest,rfl,_⟩:=h
  rfl
 ·obtain ⟨v,t,p,pl,far,rest,rfl,ht,hp,hb,hl,q⟩:=h
  refine ⟨_,Ae (Aq 2 sc_forms_down_to (Bh (Aa (qv 0) Ab)))
   (Ae (Cg PassesOwn.leaving rfl (C0 K (qv 1)) (Ax (i:=3) sc_forms_down_to.nd rfl (Or.inl rfl)) (Ae (Au (Dv (B0 (Ay C_has_part hr.m (Aa (Ao K (qv 2) (Fo F3 Ah)) (Aa (qv 3) Ab))))) (Af (Znm rfl R_NoPlace F_NoPlace hr.m b_NoPlace G_NoPlace (Aa (qv 1) Ab) (fun _ _ _ _ _ _ _ I x h0 hn he=>Zcu I x h0 hn he) rfl)) Aw)
   (Af (Cm (Dk K Qp Q9 Ra D4 (qv 2) (Aa (Ao K (Ao K (Ao K (qv 2) (Fo F3 Ah)) Ah) (qv 3)) Ab))))))
   (Af (Am (qv 2)))),?_⟩
  have bg:=big
  have hs:=hb.sub
  walk_at "r"
  refine ⟨B5,fun q0 hq0=>?_⟩
  obtain ⟨H1,s1,e1,z9⟩:=Dc hq0 (.lst [v])
  rw [z9]
  walk_at "r"
  refine .inr (.inl ⟨p,rfl,⟨_,s1.tup hp⟩,?_⟩)
  have p0:(Bm t pl).take 1=[t]:=by
   have:=Lw t pl
   cases e:Bm t pl with
   | nil=>rw [e] at this;cases this
   | cons a r =>
    rw [e] at this
    have h:a=t:=by simpa using this
    rw [h]
    rfl
  refine Op (K:=K) (a:=p) (xs:=Ez pl far rest) (fun i σ' H'=>i<=pl.length/\∃ w3 ws,σ'=[some v,some (.ref p),some (.ref q0),w3]/\H' q0=some (.lst ws)/\Al (TrAt K H') ws ((Bm t pl).take (i+1))/\Same H H') ⟨Qd _,none,[v],rfl,e1,by rw [p0];exact Al.nil.snoc (ht.same s1),s1⟩ ?_ ?_ ?_
  ·rintro i σ' H' _ ⟨_,_,_,_,_,_,sm⟩
   exact sm.tup hp
  ·rintro i x σ' H' hx ⟨hil,w3,ws,rfl,e2,al,sm⟩
   have hpl:=Io hs
   have hwl:ws.length=i+1:=by rw [al.1,Qb];omega
   by_cases hi:i < pl.length
   ·obtain ⟨k,rfl,hk⟩:=Zm1 hi hx
    obtain ⟨w',n',ps,u,a1,a2,a3⟩:=Kc hs i k hk
    have hx1:((Bm t pl).take (i+1))[i]?=some (.mk w' n' ps):=by rw [Vh,if_pos (by omega)];exact a1
    obtain ⟨vi,hvi,hti⟩:=al.get' hx1
    have hlast:B4 ws (-1)=some vi:=Gx (by rw [hwl];exact hvi)
    cases hti with
    | @mk b pp _ nv _ us _ qb hn qp l hch =>
    have hku:k < us.length:=by rw [l];exact (Pt.mp a2).1
    walk_at "r"
    refine Bl (SqL.of e2) hlast ?_
    walk_at "r"
    refine ⟨_,w',n',ps,k,rfl,.mk qb hn qp l hch,?_⟩
    rw [decide_eq_true (show (0:Int)<=(k:Int)/\(k:Int) < (ps.length:Int) from ⟨by omega,by omega⟩)]
    walk_at "r"
    refine Cf (SqL.of e2) ?_
    walk_at "r"
    refine Bl (SqL.of e2) hlast ?_
    walk_at "r"
    refine A4 qb rfl ?_
    walk_at "r"
    refine A4 qp (Za2 k rfl (Pn hku)) ?_
    walk_at "r"
    refine Dd e2 (by omega) ?_
    walk_at "r"
    have t3:SameT H' (upd H' q0 (.lst (ws++[us[k]]))):=SameT.set e2
    refine ⟨hi,_,ws++[us[k]],rfl,Ad,?_,sm.over hq0⟩
    have e3:(Bm t pl).take (i+1+1)=(Bm t pl).take (i+1)++[u]:=by rw [R9,a3];rfl
    rw [e3]
    exact (al.mono fun _ _ z=>z.sameT t3).snoc ((hch k _ u (Pn hku) a2).sameT t3)
   ·obtain rfl:i=pl.length:=by omega
    obtain rfl:=Zov hx
    obtain ⟨w',n',ps,a1,a2⟩:=hb.ex
    have hx1:((Bm t pl).take (pl.length+1))[pl.length]?=some (.mk w' n' ps):=by rw [Vh,if_pos (by omega)];exact a1
    obtain ⟨vi,hvi,hti⟩:=al.get' hx1
    have hlast:B4 ws (-1)=some vi:=Gx (by rw [hwl];exact hvi)
    walk_at "r"
    refine Bl (SqL.of e2) hlast ?_
    walk_at "r"
    refine ⟨_,w',n',ps,far,rfl,hti,?_⟩
    rw [decide_eq_false a2]
    walk_at "r"
    refine ⟨.ref p,rfl,?_⟩
    refine ⟨B5,fun e he=>⟨e,C,.ref p,rfl,Ad,xC,nA,fun d hd hde=>⟨rfl,some d,Ad,q d _ ?_ ?_⟩⟩⟩
    ·intro b o hbo
     have hb':=sm b o hbo
     have n1:b≠e:=fun z=>by rw [z,he] at hb';cases hb'
     rw [Ag hde] at hd
     have n2:b≠d:=fun z=>by rw [z,hd] at hb';cases hb'
     rw [Nn n1,Ag n1,Ag n2,Ag n1]
     exact hb'
    ·rw [Nn hde,Ag hde,Ad]
  ·rintro σ' H' ⟨hil,_⟩
   unfold Ez at hil
   rw [Px,Hz,Py] at hil
   omega
theorem Zrq {C:Addr}{f:Addr}{fd:FuncData}(F:Fun K "form_at" "form_at" Jb f fd)(T:Txt K mg)(C_forms_down_to:Dq P w K mg base 3 "forms_down_to" ["tree", "place"] (Mx K C)):As P w K mg base (Ci P w) 4 f fd ["tree", "place"] (Mx K C):=by
 refine F.okx Zhv (fun vs H Q E h=>?_) (fun cdv A outer s H vs Q E hr h=>?_)
 ·obtain ⟨v,t,p,pl,far,rest,rfl,_⟩:=h
  rfl
 ·obtain ⟨v,t,p,pl,far,rest,rfl,ht,hp,hb,hl,q⟩:=h
  refine ⟨_,Af (Am (Ao K (Km C_forms_down_to hr.m (Jy (fun _ _ _ h=>h)) (Aa (qv 0) (Aa (qv 1) Ab))) (Fo F3 Ah))),?_⟩
  walk_at "r"
  exact ⟨v,t,p,pl,far,rest,rfl,ht,hp,hb,hl,q⟩
noncomputable def Zdg (K:Pk)(C:Addr):Sp:=fun vs H _ E=>∃(v:V)(t:Tr)(ks:List Kd)(fs:List Bool)(p:Addr)(pl:List Nat)(far:Int)(rest:List V),vs=[v,.ref p]/\TrAt K H v t/\TrSh t/\t.size<=40/\Fm t ks fs/\SqT K H p (Ez pl far rest)/\Bad t pl far/\pl.length<=1000/\Rf C H p E
theorem Zr2 {C:Addr}{f:Addr}{fd:FuncData}(F:Fun K "kind_at" "kind_at" Hg f fd)(T:Txt K mg)(C_looks:Ba P w K mg base 8 "looks" ["tree"] (Lg K))(C_form_at:Dq P w K mg base 4 "form_at" ["tree", "place"] (Mx K C)):As P w K mg base (Ci P w) 9 f fd ["tree", "place"] (Zdg K C):=by
 refine F.okx Ip (fun vs H Q E h=>?_) (fun cdv A outer s H vs Q E hr h=>?_)
 ·obtain ⟨v,t,ks,fs,p,pl,far,rest,rfl,_⟩:=h
  rfl
 ·obtain ⟨v,t,ks,fs,pa,pl,far,rest,rfl,ht,hts,hsz,hlk,hpa,hbad,hpl,q⟩:=h
  refine ⟨_,Ae (Aq 2 Ip (Ep (Zcb K hr.u200 rfl) (by rfl) T.dict (by decide +kernel) (Aa (Gb (N:=["row"]) (σ0:=C7 1 []) rfl (E2 rfl (by decide +kernel) (by decide +kernel) (by decide +kernel)) (C0 K (Ay C_looks hr.m (Aa (qv 0) Ab))) (Ew rfl (by rfl)) (fun _ _ _ _=>Ax (i:=0) Zce rfl (Or.inl rfl)) (fun _ _ _ _=>Ge) (fun _ _ _ _=>Ar (Aa (Ao K (qv 0) Ah) (Aa (Ao K (qv 0) Ah) Ab)))) Ab)))
   (Ae (Cm (Km C_form_at hr.m (Jy (fun _ _ _ h=>h)) (Aa (qv 0) (Aa (qv 1) Ab))))
   (Af (Am (Ir hr.u1 (qv 2) (qv 1) (fun _ _=>rfl))))),?_⟩
  have bg:=big
  walk_at "r"
  refine ⟨v,t,ks,fs,rfl,ht,hts,hsz,hlk,fun pL rows H1 s1 _ er al=>?_⟩
  have hdl:(Be t ks fs).length=t.size:=by unfold Be;rw [T9];exact Fb _ _
  refine .inl ⟨pL,rfl,⟨_,SqL.of er⟩,fun D hD=>?_⟩
  have nD:pL≠D:=A5 er hD
  refine Hv (K:=K) (a:=pL) (xs:=rows) (Pv:=fun i ys σ' H'=>∃ x0,σ'=[x0]/\Al (KrAt K H') ys ((Be t ks fs).take i)/\Same H1 H') ⟨none,rfl,.nil,Same.upd hD⟩ ?_ ?_ ?_
  ·rintro i ys σ' H' _ ⟨_,_,_,sm⟩
   exact SqL.of (sm _ _ er)
  ·rintro i x ys σ' H' hx hys ⟨x0,rfl,aly,sm⟩
   have hi:=(Pt.mp hx).1
   obtain ⟨r,hr0,e,p,g,a,rfl,qe,qp,hg,_⟩:=al.get hx
   have hln:i < t.size:=by rw [<- hdl,<- al.1];exact hi
   walk_at "r"
   refine A4 (sm.tup qe) rfl ?_
   walk_at "r"
   refine A4 (sm.tup qe) rfl ?_
   walk_at "r"
   refine ⟨Bu,fun p2 h3=>?_⟩
   have s2:=Same.upd (o:=.tup [.ref p,g]) h3
   have t6:=s2.t.trans (SameT.set (o:=.lst (ys++[.ref p2])) (s2 _ _ hys))
   refine ⟨ys,s2 _ _ hys,by rw [aly.1,Qb];omega,_,Ad,_,rfl,?_,(sm.trans s2).over hD⟩
   rw [Re,hr0]
   exact (aly.mono (KrAt.same t6)).snoc ⟨p2,p,g,rfl,(SameT.set (s2 _ _ hys)).tup (SqT.of Ad),(t6 p).1 _ (sm _ _ qp),(hg.same sm.t).same t6⟩
  ·rintro ys σ' H' hys ⟨x0,rfl,aly,sm⟩
   rw [al.1,Q3] at aly
   walk_at "r"
   obtain ⟨kvs,alk,_⟩:=Zh9 (K:=K) (H:=H') ys _ aly
   refine ⟨D,ys,rfl,SqL.of hys,.inr ⟨kvs,alk,fun dd hdd=>?_⟩⟩
   obtain ⟨H3,s3,e3,z9⟩:=Dc hdd (.dT (B3 [] kvs))
   rw [z9]
   have sA:Same H H3:=(s1.trans sm).trans s3
   walk_at "r"
   exact ⟨v,t,pa,pl,far,rest,rfl,ht.same sA,sA.tup hpa,hbad,hpl,q.same sA⟩
end
noncomputable def El (w:Str):Nat:=(A6 0 w).2.1.length
theorem Zmd (m:Nat)(w:Str):(A6 m w).2.1.length=El w:=by
 unfold El A6
 by_cases h1:w = "num"
 ·rw [if_pos h1,if_pos h1]
 rw [if_neg h1,if_neg h1]
 by_cases h2:w = "truth"
 ·rw [if_pos h2,if_pos h2]
 rw [if_neg h2,if_neg h2]
 by_cases h3:w = "plus" \/ w = "minus"
 ·rw [if_pos h3,if_pos h3]
 rw [if_neg h3,if_neg h3]
 by_cases h4:w = "less"
 ·rw [if_pos h4,if_pos h4]
 rw [if_neg h4,if_neg h4]
 by_cases h5:w = "if"
 ·rw [if_pos h5,if_pos h5];rfl
 rw [if_neg h5,if_neg h5]
 by_cases h6:w = "gap" \/ w = "odd" \/ w = "name"
 ·rw [if_pos h6,if_pos h6]
 rw [if_neg h6,if_neg h6]
 by_cases h7:w = "let"
 ·rw [if_pos h7,if_pos h7];rfl
 rw [if_neg h7,if_neg h7]
 by_cases h8:w = "fn"
 ·rw [if_pos h8,if_pos h8];rfl
 rw [if_neg h8,if_neg h8]
 by_cases h9:w = "rec"
 ·rw [if_pos h9,if_pos h9];rfl
 rw [if_neg h9,if_neg h9]
 rfl
inductive AT:Tr->Prop where
 | mk {w:Str} {n:Dt} {ts:List Tr} (hw:C4 w n) (hl:ts.length=El w) (h:∀ t∈ts,AT t):AT (.mk w n ts)
theorem Zd2 (A:An)(pl:List Nat)(f:Nat->Ev):∀ m j,j < m->D8 A pl f m (pl++[j])=some (f j)
 | 0,j,h=>absurd h (Tx _)
 | m+1,j,h=>by
  show (if pl++[j]=pl++[m] then some (f m) else D8 A pl f m (pl++[j]))=_
  by_cases e:j=m
  ·rw [e,if_pos rfl]
  ·rw [if_neg fun z=>e (by simpa using z)]
   exact Zd2 A pl f m j (by omega)
theorem Zgs (A:An)(pl:List Nat)(f:Nat->Ev)(q:List Nat)(h:∀ j,q≠pl++[j]):∀ m,D8 A pl f m q=A q
 | 0=>rfl
 | m+1=>by
  show (if q=pl++[m] then some (f m) else D8 A pl f m q)=_
  rw [if_neg (h m)]
  exact Zgs A pl f q h m
mutual
theorem Zg9:∀(t:Tr)(pl:List Nat)(sh:Ai)(D:Dn)(A:An)(rest:List (List Nat×Tr)),AT t->(A pl).isSome=true ->
  (∀ sh2 D2 (A2:An),(∀ q,(∀ j,¬ pl++[j] <+: q)->A2 q=A q)->∃ ps sh',KinG rest sh2 D2 A2 ps sh')->∃ ps sh',KinG (walk pl t++rest) sh D A ps sh'
 | .mk w n ts,pl,sh,D,A,rest,h,hA,hr=>by
  cases h with
  | mk hw hl h =>
  obtain ⟨e,he⟩:=R0.mp hA
  obtain ⟨ps,sh',k⟩:=Zfe ts pl 0 (sh++(A6 sh.length w).2.2.2) (E9 D pl 0 (A6 sh.length w).2.1) (D8 A pl (fun j=>C9 e (nb w n j) (A6 sh.length w).2.2.1) (A6 sh.length w).2.1.length) rest h
   (fun j _ hj=>by rw [Zd2 _ _ _ _ _ (by rw [Zmd];omega)];rfl)
   (fun sh2 D2 A2 hq=>hr sh2 D2 A2 fun q hq2=>by
    rw [hq q fun j _=>hq2 j]
    exact Zgs A pl _ q (fun j z=>hq2 j (by rw [z];exact List.prefix_rfl)) _)
  rw [walk,Tt]
  exact ⟨_,_,.cons he hw k⟩
theorem Zfe:∀(ts:List Tr)(pl:List Nat)(i:Nat)(sh:Ai)(D:Dn)(A:An)(rest:List (List Nat×Tr)),(∀ t∈ts,AT t)->(∀ j,i<=j->j < i+ts.length->(A (pl++[j])).isSome=true) ->
  (∀ sh2 D2 (A2:An),(∀ q,(∀ j,i<=j->¬ pl++[j] <+: q)->A2 q=A q)->∃ ps sh',KinG rest sh2 D2 A2 ps sh')->∃ ps sh',KinG (Bv pl i ts++rest) sh D A ps sh'
 | [],pl,i,sh,D,A,rest,_,_,hr=>by
  rw [Bv,W6]
  exact hr sh D A fun _ _=>rfl
 | t::r,pl,i,sh,D,A,rest,h,hA,hr=>by
  rw [Bv,Rl]
  refine Zg9 t (pl++[i]) sh D A (Bv pl (i+1) r++rest) (h t (by simp)) (hA i (Po _) (by simp)) fun sh2 D2 A2 hf=>?_
  refine Zfe r pl (i+1) sh2 D2 A2 rest (fun x hx=>h x (by simp [hx])) (fun j h1 h2=>?_) (fun sh3 D3 A3 hg=>hr sh3 D3 A3 fun q hq=>?_)
  ·rw [hf _ fun j' e=>by have:=e.length_le;simp at this]
   exact hA j (by omega) (by simp;omega)
  ·rw [hg q fun j hj=>hq j (by omega),hf q fun j e=>hq i (Po _) (List.IsPrefix.trans ⟨[j],rfl⟩ e)]
end
theorem Zk1 {t:Tr}(h:AT t):∃ ps sh',KinG (walk [] t) [.num,.truth] (fun _=>none) (fun q=>if q=[] then some (fun _=>none) else none) ps sh':=by
 have:=Zg9 t [] [.num,.truth] (fun _=>none) (fun q=>if q=[] then some (fun _=>none) else none) [] h rfl fun sh2 D2 A2 _=>⟨[],sh2,.nil⟩
 rwa [Qx] at this
structure Ini (sh:Ai):Prop where
 ns:∀(i:Nat)(s:Sh),sh[i]?=some s->s.isSame=false
 dn:∀(i a b:Nat),sh[i]?=some (.to a b)->a < i/\b < i
theorem Zkc (m:Nat)(w:Str)(hm:2<=m):(A6 m w).1 < m+(A6 m w).2.2.2.length/\(∀ x∈(A6 m w).2.1,x < m+(A6 m w).2.2.2.length)/\(∀ x∈(A6 m w).2.2.1,x < m+(A6 m w).2.2.2.length)/\(∀(i:Nat)(s:Sh),(A6 m w).2.2.2[i]?=some s->s.isSame=false/\∀ a b,s=.to a b->a < m+i/\b < m+i):=by
 have one:∀(i:Nat)(s:Sh),([Sh.any]:Ai)[i]?=some s->s.isSame=false/\∀ a b,s=.to a b->a < m+i/\b < m+i:=fun i s h=>by
  match i,h with
  | 0,h=>cases h;exact ⟨rfl,fun a b e=>by cases e⟩
 have two:∀(i:Nat)(s:Sh),([Sh.any,.any]:Ai)[i]?=some s->s.isSame=false/\∀ a b,s=.to a b->a < m+i/\b < m+i:=fun i s h=>by
  match i,h with
  | 0,h=>cases h;exact ⟨rfl,fun a b e=>by cases e⟩
  | 1,h=>cases h;exact ⟨rfl,fun a b e=>by cases e⟩
 have thr:∀(i:Nat)(s:Sh),([Sh.any,.any,.to m (m+1)]:Ai)[i]?=some s->s.isSame=false/\∀ a b,s=.to a b->a < m+i/\b < m+i:=fun i s h=>by
  match i,h with
  | 0,h=>cases h;exact ⟨rfl,fun a b e=>by cases e⟩
  | 1,h=>cases h;exact ⟨rfl,fun a b e=>by cases e⟩
  | 2,h=>cases h;exact ⟨rfl,fun a b e=>by cases e;omega⟩
 have nil:∀(i:Nat)(s:Sh),([]:Ai)[i]?=some s->s.isSame=false/\∀ a b,s=.to a b->a < m+i/\b < m+i:=fun i s h=>by cases h
 have mem:∀{xs:List Nat}{k:Nat},(∀ x∈xs,x < k)↔xs.all (fun x=>decide (x < k))=true:=by intro xs k;simp
 have fin:∀{k:Nat×List Nat×List Nat×Ai}{g:Nat}{as bs:List Nat}{new:Ai},k=(g,as,bs,new)->g < m+new.length->(∀ x∈as,x < m+new.length)->(∀ x∈bs,x < m+new.length)->(∀(i:Nat)(s:Sh),new[i]?=some s->s.isSame=false/\∀ a b,s=.to a b->a < m+i/\b < m+i) ->
   k.1 < m+k.2.2.2.length/\(∀ x∈k.2.1,x < m+k.2.2.2.length)/\(∀ x∈k.2.2.1,x < m+k.2.2.2.length)/\(∀(i:Nat)(s:Sh),k.2.2.2[i]?=some s->s.isSame=false/\∀ a b,s=.to a b->a < m+i/\b < m+i):=by
  rintro k g as bs new rfl h1 h2 h3 h4
  exact ⟨h1,h2,h3,h4⟩
 by_cases h1:w = "num"
 ·exact fin (if_pos h1) (by simp;omega) (by simp) (by simp) nil
 by_cases h2:w = "truth"
 ·exact fin (by unfold A6;rw [if_neg h1,if_pos h2]) (by simp;omega) (by simp) (by simp) nil
 by_cases h3:w = "plus" \/ w = "minus"
 ·exact fin (by unfold A6;rw [if_neg h1,if_neg h2,if_pos h3]) (by simp;omega) (by simp;omega) (by simp) nil
 by_cases h4:w = "less"
 ·exact fin (by unfold A6;rw [if_neg h1,if_neg h2,if_neg h3,if_pos h4]) (by simp;omega) (by simp;omega) (by simp) nil
 by_cases h5:w = "if"
 ·exact fin (by unfold A6;rw [if_neg h1,if_neg h2,if_neg h3,if_neg h4,if_pos h5]) (by simp) (by simp;omega) (by simp) one
 by_cases h6:w = "gap" \/ w = "odd" \/ w = "name"
 ·exact fin (by unfold A6;rw [if_neg h1,if_neg h2,if_neg h3,if_neg h4,if_neg h5,if_pos h6]) (by simp) (by simp) (by simp) one
 by_cases h7:w = "let"
 ·exact fin (by unfold A6;rw [if_neg h1,if_neg h2,if_neg h3,if_neg h4,if_neg h5,if_neg h6,if_pos h7]) (by simp) (by simp) (by simp) two
 by_cases h8:w = "fn"
 ·exact fin (by unfold A6;rw [if_neg h1,if_neg h2,if_neg h3,if_neg h4,if_neg h5,if_neg h6,if_neg h7,if_pos h8]) (by simp) (by simp) (by simp) thr
 by_cases h9:w = "rec"
 ·exact fin (by unfold A6;rw [if_neg h1,if_neg h2,if_neg h3,if_neg h4,if_neg h5,if_neg h6,if_neg h7,if_neg h8,if_pos h9]) (by simp) (by simp) (by simp) thr
 ·exact fin (by unfold A6;rw [if_neg h1,if_neg h2,if_neg h3,if_neg h4,if_neg h5,if_neg h6,if_neg h7,if_neg h8,if_neg h9]) (by simp) (by simp) (by simp) thr
theorem Zcz (pl q:List Nat)(k:Nat):∀(xs:List Nat)(D:Dn)(i:Nat),E9 D pl i xs q=some k->k∈xs\/D q=some k
 | [],D,i,h=>.inr h
 | x::r,D,i,h=>by
  rcases Zcz pl q k r _ (i+1) h with h | h
  ·exact .inl (R3 _ h)
  ·have h:(if q=pl++[i] then some x else D q)=some k:=h
   by_cases e:q=pl++[i]
   ·rw [if_pos e] at h;cases h;exact .inl (by simp)
   ·rw [if_neg e] at h;exact .inr h
theorem Zf3 (A:An)(pl:List Nat)(f:Nat->Ev)(q:List Nat)(e:Ev):∀ m,D8 A pl f m q=some e->A q=some e\/∃ j,e=f j
 | 0,h=>.inl h
 | m+1,h=>by
  have h:(if q=pl++[m] then some (f m) else D8 A pl f m q)=some e:=h
  by_cases z:q=pl++[m]
  ·rw [if_pos z] at h;cases h;exact .inr ⟨m,rfl⟩
  ·rw [if_neg z] at h;exact Zf3 A pl f q e m h
theorem Zq6 {ns:List Str}{ks:List Nat}{s:Str}{k:Nat}{e:Ev}(h:C9 e ns ks s=some k):k∈ks\/e s=some k:=by
 unfold C9 at h
 have key:∀(l:List (Str×Nat))(e:Ev),l.foldl (fun e p=>fun s=>if s=p.1 then some p.2 else e s) e s=some k->(∃ p∈l,p.2=k)\/e s=some k:=by
  intro l
  induction l with
  | nil=>intro e h;exact .inr h
  | cons p r ih =>
   intro e h
   rcases ih _ h with ⟨q,h1,h2⟩ | h
   ·exact .inl ⟨q,R3 _ h1,h2⟩
   ·have h:(if s=p.1 then some p.2 else e s)=some k:=h
    by_cases z:s=p.1
    ·rw [if_pos z] at h;cases h;exact .inl ⟨p,by simp,rfl⟩
    ·rw [if_neg z] at h;exact .inr h
 rcases key _ _ h with ⟨p,h1,rfl⟩ | h
 ·exact .inl (Ug h1).2
 ·exact .inr h
theorem Zj0 {rs:List (List Nat×Tr)}{sh sh':Ai}{D:Dn}{A:An}{ps:List (Nat×Nat)}(h:KinG rs sh D A ps sh'):Ini sh->2<=sh.length->(∀ q k,D q=some k->k < sh.length)->(∀ q e s k,A q=some e->e s=some k->k < sh.length)->Ini sh'/\sh.length<=sh'.length/\sh'.length<=sh.length+3 * rs.length/\∀ p∈ps,p.1 < sh'.length/\p.2 < sh'.length:=by
 induction h with
 | nil=>exact fun h1 _ _ _=>⟨h1,Po _,by simp,fun p hp=>by cases hp⟩
 | @cons pl w n ts rs sh sh' D A e ps hA hsh k ih =>
  intro h1 h2 h3 h4
  obtain ⟨k1,k2,k3,k4⟩:=Zkc sh.length w h2
  have kl:=(Zd0 sh.length w).2
  have hl:(sh++(A6 sh.length w).2.2.2).length=sh.length+(A6 sh.length w).2.2.2.length:=Px ..
  have hg:Ej sh.length w n e < sh.length+(A6 sh.length w).2.2.2.length:=by
   unfold Ej
   split
   ·cases e2:e (Ig n) with
    | none=>exact k1
    | some k=>have:=h4 pl e _ k hA e2;show k < _;omega
   ·exact k1
  have hini:Ini (sh++(A6 sh.length w).2.2.2):=by
   refine ⟨fun i s hs=>?_,fun i a b hs=>?_⟩
   ·by_cases hi:i < sh.length
    ·rw [Q7 hi] at hs;exact h1.ns i s hs
    ·rw [Rh (by omega)] at hs;exact (k4 _ s hs).1
   ·by_cases hi:i < sh.length
    ·rw [Q7 hi] at hs;exact h1.dn i a b hs
    ·rw [Rh (by omega)] at hs
     have:=(k4 _ _ hs).2 a b rfl
     omega
  obtain ⟨i1,i2,i3,i4⟩:=ih hini (by omega) (fun q k hq=>by
    rcases Zcz _ _ _ _ _ _ hq with hq | hq
    ·have:=k2 k hq;omega
    ·have:=h3 q k hq;omega) (fun q e' s k hq hs=>by
    rcases Zf3 _ _ _ _ _ _ hq with hq | ⟨j,rfl⟩
    ·have:=h4 q e' s k hq hs;omega
    ·rcases Zq6 hs with hs | hs
     ·have:=k3 k hs;omega
     ·have:=h4 pl e s k hA hs;omega)
  rw [hl] at i2 i3
  refine ⟨i1,by omega,by rw [Py];omega,fun p hp=>?_⟩
  rcases Pu.mp hp with rfl | hp
  ·refine ⟨by show Ej sh.length w n e < _;omega,?_⟩
   show (D pl).getD (Ej sh.length w n e) < _
   cases e2:D pl with
   | none=>show Ej sh.length w n e < _;omega
   | some k=>have:=h3 pl k e2;show k < _;omega
  ·exact i4 p hp
noncomputable def Bd (m:Ai):Prop:=∀(i:Nat)(s:Sh),m[i]?=some s->∀ p∈s.parts,p < m.length
noncomputable def C6 (m:Ai):Prop:=∀ i,i < m.length->∃ r,Last m i r
theorem Ini.tot {m:Ai}(h:Ini m):C6 m:=fun i hi=>⟨i,0,.root (Pn hi) (h.ns i _ (Pn hi))⟩
theorem Ini.bd {m:Ai}(h:Ini m):Bd m:=fun i s hs p hp=>by
 have hi:=(Pt.mp hs).1
 cases s with
 | to a b =>
  have:=h.dn i a b hs
  simp only [Sh.parts,Pu,Qe,or_false] at hp
  rcases hp with rfl | rfl <;> omega
 | same k=>have:=h.ns i _ hs;cases this
 | num=>cases hp
 | truth=>cases hp
 | any=>cases hp
theorem Last.lt {m:Ai}{i r:Nat}(h:Last m i r):r < m.length:=by
 obtain ⟨s,hs,_⟩:=h.at
 exact (Pt.mp hs).1
theorem Dg {m:Ai}{i:Nat}{s:Sh}(h:m[i]?=some s)(hs:s.isSame=false):Last m i i:=⟨0,.root h hs⟩
theorem F6 {m:Ai}{x i:Nat}{s:Sh}(h:i≠x):(m.set x s)[i]?=m[i]?:=Sm (fun z=>h z.symm)
theorem Kw {m:Ai}{x:Nat}{s sx:Sh}(h:m[x]?=some sx):(m.set x s)[x]?=some s:=R1 (Pt.mp h).1
theorem Zca {m:Ai}{x y:Nat}{sx sy:Sh}(hx:m[x]?=some sx)(hxs:sx.isSame=false)(hy:m[y]?=some sy)(hys:sy.isSame=false)(ne:x≠y){i r:Nat}(h:Last m i r):Last (m.set x (.same y)) i (if r=x then y else r):=by
 obtain ⟨n,h⟩:=h
 have ly:Last (m.set x (.same y)) y y:=Dg (by rw [F6 ne.symm];exact hy) hys
 induction h with
 | @root i s h hs =>
  by_cases e:i=x
  ·subst e
   rw [if_pos rfl]
   obtain ⟨k,l⟩:=ly
   exact ⟨k+1,.step (Kw hx) l⟩
  ·rw [if_neg e]
   exact Dg (by rw [F6 e];exact h) hs
 | @step n i k r h t ih =>
  have e:i≠x:=fun z=>by rw [z,hx] at h;cases h;cases hxs
  obtain ⟨k',l⟩:=ih
  exact ⟨k'+1,.step (by rw [F6 e];exact h) l⟩
noncomputable def nr:Ai->Nat
 | []=>0
 | s::m=>(cond s.isSame 0 1)+nr m
theorem Za0:∀(m:Ai)(x y:Nat)(sx:Sh),m[x]?=some sx->sx.isSame=false->nr (m.set x (.same y))+1=nr m
 | [],x,y,sx,h,_=>by cases h
 | s::m,0,y,sx,h,hs=>by
  cases h
  show (0+nr m)+1=(cond s.isSame 0 1)+nr m
  rw [hs]
  show 0+nr m+1=1+nr m
  omega
 | s::m,x+1,y,sx,h,hs=>by
  have:=Za0 m x y sx (by simpa using h) hs
  show (cond s.isSame 0 1)+nr (m.set x (.same y))+1=(cond s.isSame 0 1)+nr m
  omega
theorem Zgo:∀ m:Ai,nr m<=m.length
 | []=>Po _
 | s::m=>by
  have:=Zgo m
  show (cond s.isSame 0 1)+nr m<=m.length+1
  cases s.isSame
  ·show 1+nr m<=_;omega
  ·show 0+nr m<=_;omega
theorem Js {m:Ai}{x y:Nat}{sx sy:Sh}(h:C6 m)(hx:m[x]?=some sx)(hxs:sx.isSame=false)(hy:m[y]?=some sy)(hys:sy.isSame=false)(ne:x≠y):C6 (m.set x (.same y)):=fun i hi=>by
 rw [Qs] at hi
 obtain ⟨r,hr⟩:=h i hi
 exact ⟨_,Zca hx hxs hy hys ne hr⟩
theorem Gc {m:Ai}{x y:Nat}{sy:Sh}(h:Bd m)(hy:m[y]?=some sy):Bd (m.set x (.same y)):=fun i s hs p hp=>by
 rw [Qs]
 by_cases e:i=x
 ·subst e
  have hi:=(Pt.mp hs).1
  rw [Qs] at hi
  rw [R1 hi] at hs
  cases hs
  have:p=y:=by simpa [Sh.parts] using hp
  rw [this]
  exact (Pt.mp hy).1
 ·rw [F6 e] at hs
  exact h i s hs p hp
theorem Zmg:∀(μ:Nat)(m:Ai)(w:List (Nat×Nat)),w.length+3 * nr m<=μ->C6 m->Bd m->(∀ p∈w,p.1 < m.length/\p.2 < m.length)->∃ n o,n<=μ/\JoinN n m w o/\∀ m1,o=some m1->C6 m1/\Bd m1/\m1.length=m.length:=by
 intro μ
 induction μ with
 | zero =>
  intro m w h ht hb hw
  have:w=[]:=Rr (by omega)
  subst this
  exact ⟨0,some m,Po _,.nil,fun m1 e=>by cases e;exact ⟨ht,hb,rfl⟩⟩
 | succ μ ih =>
  intro m w h ht hb hw
  rcases Va w with rfl | ⟨w1,p,rfl⟩
  ·exact ⟨0,some m,Qd _,.nil,fun m1 e=>by cases e;exact ⟨ht,hb,rfl⟩⟩
  rw [Vb] at h hw ⊢
  rw [Px,Qm] at h
  have hp:=hw p (by simp)
  have hw1:∀ p∈w1,p.1 < m.length/\p.2 < m.length:=fun q hq=>hw q (by simp [hq])
  obtain ⟨l,hl⟩:=ht p.1 hp.1
  obtain ⟨r,hr⟩:=ht p.2 hp.2
  by_cases e:l=r
  ·subst e
   obtain ⟨n,o,h1,h2,h3⟩:=ih m w1 (by omega) ht hb hw1
   exact ⟨n+1,o,by omega,.eq hl hr h2,h3⟩
  obtain ⟨sl,esl,nsl⟩:=hl.at
  obtain ⟨sr,esr,nsr⟩:=hr.at
  by_cases ar:sr=.any
  ·subst ar
   have:=Za0 m r l _ esr rfl
   obtain ⟨n,o,h1,h2,h3⟩:=ih (m.set r (.same l)) w1 (by omega) (Js ht esr rfl esl nsl (fun z=>e z.symm)) (Gc hb esl) (by rw [Qs];exact hw1)
   rw [Qs] at h3
   exact ⟨n+1,o,by omega,.anyR hl hr e esr h2,h3⟩
  have ts:=Js ht esl nsl esr nsr e
  have bs:=Gc (x:=l) hb esr
  have ns:=Za0 m l r _ esl nsl
  by_cases al:sl=.any
  ·subst al
   obtain ⟨n,o,h1,h2,h3⟩:=ih (m.set l (.same r)) w1 (by omega) ts bs (by rw [Qs];exact hw1)
   rw [Qs] at h3
   exact ⟨n+1,o,by omega,.anyL hl hr e esr ar esl h2,h3⟩
  by_cases tl:sl.wd = "to"
  ·by_cases tr:sr.wd = "to"
   ·obtain ⟨a,b,rfl⟩:=Zg8 tl
    obtain ⟨c,d,rfl⟩:=Zg8 tr
    have b1:=hb l _ esl
    have b2:=hb r _ esr
    obtain ⟨n,o,h1,h2,h3⟩:=ih (m.set l (.same r)) (w1++[(a,c),(b,d)]) (by rw [Px];show w1.length+2+_<=_;omega) ts bs (by
     rw [Qs]
     intro q hq
     rcases Qq.mp hq with hq | hq
     ·exact hw1 q hq
     ·simp only [Pu,Qe,or_false] at hq
      rcases hq with rfl | rfl
      ·exact ⟨b1 a (by simp [Sh.parts]),b2 c (by simp [Sh.parts])⟩
      ·exact ⟨b1 b (by simp [Sh.parts]),b2 d (by simp [Sh.parts])⟩)
    rw [Qs] at h3
    exact ⟨n+1,o,by omega,.to hl hr e esl esr h2,h3⟩
   ·exact ⟨1,none,by omega,.clash hl hr e esl esr al ar (.inr tr),fun m1 z=>by cases z⟩
  ·exact ⟨1,none,by omega,.clash hl hr e esl esr al ar (.inl tl),fun m1 z=>by cases z⟩
noncomputable def un:Nat->(Nat->Bool)->Nat
 | 0,_=>0
 | N+1,f=>un N f+cond (f N) 1 0
theorem Za8:∀(N:Nat)(f g:Nat->Bool),(∀ i,i < N->f i=g i)->un N f=un N g
 | 0,f,g,h=>rfl
 | N+1,f,g,h=>by
  show un N f+cond (f N) 1 0=un N g+cond (g N) 1 0
  rw [Za8 N f g fun i hi=>h i (by omega),h N (by omega)]
theorem Zau:∀(N x:Nat)(f g:Nat->Bool),x < N->f x=true->g x=false->(∀ i,i≠x->g i=f i)->un N g+1=un N f
 | 0,x,f,g,h,_,_,_=>absurd h (Tx _)
 | N+1,x,f,g,h,h1,h2,h3=>by
  show un N g+cond (g N) 1 0+1=un N f+cond (f N) 1 0
  by_cases e:x=N
  ·subst e
   rw [h1,h2,Za8 x g f fun i hi=>h3 i (by omega)]
   rfl
  ·have:=Zau N x f g (by omega) h1 h2 h3
   rw [h3 N (fun z=>e z.symm)]
   omega
theorem Zbf:∀(N:Nat)(f:Nat->Bool),un N f<=N
 | 0,_=>Po _
 | N+1,f=>by
  have:=Zbf N f
  show un N f+cond (f N) 1 0<=N+1
  cases f N
  ·show un N f+0<=_;omega
  ·show un N f+1<=_;omega
noncomputable def fr (ps:Ps):Nat->Bool:=fun i=>(ps i).isNone
theorem Zd5 {sh:Ai}(ht:C6 sh)(ps:Ps):∀(parts w:List Nat),(∀ p∈parts,p < sh.length)->(∀ x∈w,x < sh.length)->∃ o,E4 sh ps parts w o/\∀ w',o=some w'->w'.length<=w.length+parts.length/\∀ x∈w',x < sh.length
 | [],w,_,hw=>⟨some w,.nil,fun w' e=>by cases e;exact ⟨by simp,hw⟩⟩
 | p::rest,w,hp,hw=>by
  obtain ⟨r,hr⟩:=ht p (hp p (by simp))
  by_cases h:ps r=some false
  ·exact ⟨none,.hit hr h,fun w' e=>by cases e⟩
  ·obtain ⟨o,h1,h2⟩:=Zd5 ht ps rest (w++[r]) (fun q hq=>hp q (by simp [hq])) (fun x hx=>by
    rcases Qq.mp hx with hx | hx
    ·exact hw x hx
    ·rw [Qi.mp hx];exact hr.lt)
   refine ⟨o,.go hr h h1,fun w' e=>?_⟩
   obtain ⟨l,m⟩:=h2 w' e
   rw [Px,Qm] at l
   exact ⟨by rw [Py];omega,m⟩
theorem Ztg {sh:Ai}(ht:C6 sh)(hb:Bd sh):∀(μ:Nat)(ps:Ps)(w:List Nat),w.length+3 * un sh.length (fr ps)<=μ->(∀ x∈w,x < sh.length)->∃ n b,n<=μ/\HoldsN sh n ps w b:=by
 intro μ
 induction μ with
 | zero =>
  intro ps w h _
  have:w=[]:=Rr (by omega)
  subst this
  exact ⟨0,false,Po _,.nil⟩
 | succ μ ih =>
  intro ps w h hw
  rcases Va w with rfl | ⟨w1,Ac,rfl⟩
  ·exact ⟨0,false,Qd _,.nil⟩
  rw [Vb] at h hw ⊢
  rw [Px,Qm] at h
  have htop:=hw Ac (by simp)
  have hw1:∀ x∈w1,x < sh.length:=fun x hx=>hw x (by simp [hx])
  cases e:ps Ac with
  | some x =>
   have eu:un sh.length (fr (Bb ps Ac true))=un sh.length (fr ps):=Za8 _ _ _ fun i _=>by
    unfold fr Bb
    by_cases z:i=Ac
    ·rw [z,e,if_pos rfl];rfl
    ·rw [if_neg z]
   obtain ⟨n,b,h1,h2⟩:=ih (Bb ps Ac true) w1 (by rw [eu];omega) hw1
   exact ⟨n+1,b,by omega,.seen e h2⟩
  | none =>
   have hs:=Pn htop
   have eu:un sh.length (fr (Bb ps Ac false))+1=un sh.length (fr ps):=Zau _ Ac _ _ htop (by unfold fr;rw [e];rfl) (by unfold fr Bb;rw [if_pos rfl];rfl) (fun i hi=>by unfold fr Bb;rw [if_neg hi])
   have hpl:=Zao sh[Ac]
   obtain ⟨o,h1,h2⟩:=Zd5 ht (Bb ps Ac false) sh[Ac].parts (w1++[Ac]) (hb Ac _ hs) hw
   cases o with
   | none=>exact ⟨1,true,by omega,.hit e hs h1⟩
   | some w' =>
    obtain ⟨l,m⟩:=h2 w' rfl
    rw [Px,Qm] at l
    obtain ⟨n,b,h3,h4⟩:=ih (Bb ps Ac false) w' (by omega) m
    exact ⟨n+1,b,by omega,.go e hs h1 h4⟩
theorem Lp:∀(ps:List (Nat×Nat))(m:Ai),m.length<=200->C6 m->Bd m->(∀ p∈ps,p.1 < m.length/\p.2 < m.length)->∃ fs m',FitG ps m fs m'/\C6 m'/\Bd m'/\m'.length=m.length
 | [],m,_,ht,hb,_=>⟨[],m,.nil,ht,hb,rfl⟩
 | (g,a)::ps,m,hl,ht,hb,hp=>by
  have nl:=Zgo m
  obtain ⟨n,o,h1,h2,h3⟩:=Zmg (1+3 * nr m) m [(g,a)] (by simp) ht hb (fun p hq=>by rw [Qi.mp hq];exact hp _ (by simp))
  have hps:∀ p∈ps,p.1 < m.length/\p.2 < m.length:=fun p hq=>hp p (by simp [hq])
  cases o with
  | none =>
   obtain ⟨fs,m',k1,k2⟩:=Lp ps m hl ht hb hps
   exact ⟨_,m',.clash h2 (by omega) k1,k2⟩
  | some m1 =>
   obtain ⟨t1,b1,l1⟩:=h3 m1 rfl
   obtain ⟨r,hr⟩:=t1 g (by rw [l1];exact (hp (g,a) (by simp)).1)
   have ul:=Zbf m1.length (fr fun _=>none)
   obtain ⟨k,b,k1,k2⟩:=Ztg t1 b1 (1+3 * un m1.length (fr fun _=>none)) (fun _=>none) [r] (by simp) (fun x hx=>by rw [Qi.mp hx];exact hr.lt)
   cases b with
   | false =>
    obtain ⟨fs,m',j1,j2,j3,j4⟩:=Lp ps m1 (by omega) t1 b1 (by rw [l1];exact hps)
    exact ⟨_,m',.ok h2 (by omega) hr k2 (by omega) j1,j2,j3,by rw [j4,l1]⟩
   | true =>
    obtain ⟨fs,m',j1,j2⟩:=Lp ps m hl ht hb hps
    exact ⟨_,m',.loop h2 (by omega) hr k2 (by omega) j1,j2⟩
structure JF (m m1:Ai)(w:List (Nat×Nat)):Prop where
 tot:C6 m1
 len:m1.length=m.length
 f1:∀(i r r1:Nat),Last m i r->Last m1 r r1->Last m1 i r1
 f2:∀ p∈w,∃ r,Last m1 p.1 r/\Last m1 p.2 r
 f3:∀(x a b:Nat),m[x]?=some (.to a b)->∃ ρ e f,Last m1 x ρ/\m1[ρ]?=some (.to e f)/\(∃ ra,Last m1 a ra/\Last m1 e ra)/\∃ rb,Last m1 b rb/\Last m1 f rb
 f5:∀(ρ:Nat)(s:Sh),m1[ρ]?=some s->s.isSame=false->m[ρ]?=some s
 f6:∀ C:Nat->Prop,(∀(r a b c:Nat),C r->m1[r]?=some (.to a b)->(Last m1 a c\/Last m1 b c)->C c)->(∀ p∈w,∀ r,Last m1 p.1 r->C r)->∀(i r:Nat),m[i]?≠m1[i]?->Last m1 i r->C r
theorem Zkt {m:Ai}(ht:C6 m)(hb:Bd m):JF m m [] where
 tot:=ht
 len:=rfl
 f1:=fun i r r1 h h1=>by
  obtain ⟨s,hs,ns⟩:=h.at
  have:=h1.uniq (Dg hs ns)
  rw [this]
  exact h
 f2:=fun p hp=>by cases hp
 f3:=fun x a b hx=>by
  have b1:=hb x _ hx
  obtain ⟨ra,ha⟩:=ht a (b1 a (by simp [Sh.parts]))
  obtain ⟨rb,hb'⟩:=ht b (b1 b (by simp [Sh.parts]))
  exact ⟨x,a,b,Dg hx rfl,hx,⟨ra,ha,ha⟩,rb,hb',hb'⟩
 f5:=fun ρ s h _=>h
 f6:=fun C _ _ i r h=>absurd rfl h
theorem Ol {m m1:Ai}{x y:Nat}{sx sy:Sh}{w w':List (Nat×Nat)}{p:Nat×Nat}{l r:Nat}(hl:Last m p.1 l)(hr:Last m p.2 r)(hxy:(x=l/\y=r)\/(x=r/\y=l))(hx:m[x]?=some sx)(hxs:sx.isSame=false)(hy:m[y]?=some sy)(hys:sy.isSame=false)(ne:x≠y)
  (J:JF (m.set x (.same y)) m1 w') (hw:∀ q∈w,q∈w') (h3:∀ a b,sx=.to a b->∃ c d,sy=.to c d/\(a,c)∈w'/\(b,d)∈w') (hn:∀ q∈w',q∈w\/∃ a b,sx=.to a b/\(q.1=a\/q.1=b)):JF m m1 (w++[p]):=by
 have Lx:Last (m.set x (.same y)) x y:=by
  have:=Zca hx hxs hy hys ne (Dg hx hxs)
  rwa [if_pos rfl] at this
 have hyl:y < m1.length:=by rw [J.len,Qs];exact (Pt.mp hy).1
 obtain ⟨ρ,hρ⟩:=J.tot y hyl
 have xρ:Last m1 x ρ:=J.f1 x y ρ Lx hρ
 have f1:∀ i r r1,Last m i r->Last m1 r r1->Last m1 i r1:=fun i r' r1 h h1=>by
  have h':=Zca hx hxs hy hys ne h
  by_cases e:r'=x
  ·rw [if_pos e] at h'
   subst e
   have:r1=ρ:=h1.uniq xρ
   rw [this]
   exact J.f1 i y ρ h' hρ
  ·rw [if_neg e] at h'
   exact J.f1 i r' r1 h' h1
 have both:Last m1 p.1 ρ/\Last m1 p.2 ρ:=by
  rcases hxy with ⟨rfl,rfl⟩ | ⟨rfl,rfl⟩
  ·exact ⟨f1 _ _ _ hl xρ,f1 _ _ _ hr hρ⟩
  ·exact ⟨f1 _ _ _ hl hρ,f1 _ _ _ hr xρ⟩
 have f3:∀ x0 a b,m[x0]?=some (.to a b)->∃ ρ e f,Last m1 x0 ρ/\m1[ρ]?=some (.to e f)/\(∃ ra,Last m1 a ra/\Last m1 e ra)/\∃ rb,Last m1 b rb/\Last m1 f rb:=fun x0 a b h=>by
  by_cases e:x0=x
  ·subst e
   rw [hx] at h
   have h:=P8 h
   obtain ⟨c,d,hsy,m1',m2'⟩:=h3 a b h
   have hy':(m.set x0 (.same y))[y]?=some (.to c d):=by rw [F6 ne.symm,hy,hsy]
   obtain ⟨ρ',e,f,k1,k2,⟨ra,k3,k4⟩,rb,k5,k6⟩:=J.f3 y c d hy'
   have:ρ'=ρ:=k1.uniq hρ
   subst this
   obtain ⟨rac,a1,a2⟩:=J.f2 _ m1'
   obtain ⟨rbd,b1,b2⟩:=J.f2 _ m2'
   have e1:rac=ra:=a2.uniq k3
   have e2:rbd=rb:=b2.uniq k5
   subst e1 e2
   exact ⟨ρ',e,f,xρ,k2,⟨_,a1,k4⟩,_,b1,k6⟩
  ·exact J.f3 x0 a b (by rw [F6 e];exact h)
 refine ⟨J.tot,by rw [J.len,Qs],f1,fun q hq=>?_,f3,fun ρ' s h hs=>?_,fun C hC hp i r' hi hir=>?_⟩
 ·rcases Qq.mp hq with hq | hq
  ·exact J.f2 q (hw q hq)
  ·rw [Qi.mp hq]
   exact ⟨ρ,both⟩
 ·have h':=J.f5 ρ' s h hs
  by_cases e:ρ'=x
  ·subst e
   rw [Kw hx] at h'
   cases h'
   cases hs
  ·rwa [F6 e] at h'
 ·have Cρ:C ρ:=hp p (by simp) ρ both.1
  by_cases e:i=x
  ·subst e
   rw [hir.uniq xρ]
   exact Cρ
  ·refine J.f6 C hC (fun q hq s hs=>?_) i r' (by rw [F6 e];exact hi) hir
   rcases hn q hq with hq | ⟨a,b,hsx,hq⟩
   ·exact hp q (by simp [hq]) s hs
   ·obtain ⟨ρ',e',f,k1,k2,⟨ra,k3,k4⟩,rb,k5,k6⟩:=f3 x a b (by rw [hx,hsx])
    have:ρ'=ρ:=k1.uniq xρ
    subst this
    rcases hq with hq | hq
    ·rw [hq] at hs
     rw [hs.uniq k3]
     exact hC ρ' e' f ra Cρ k2 (.inl k4)
    ·rw [hq] at hs
     rw [hs.uniq k5]
     exact hC ρ' e' f rb Cρ k2 (.inr k6)
theorem Ztl {n:Nat}{m m1:Ai}{w:List (Nat×Nat)}{o:Option Ai}(h:JoinN n m w o)(ho:o=some m1)(ht:C6 m)(hb:Bd m):JF m m1 w:=by
 induction h with
 | nil=>cases ho;exact Zkt ht hb
 | @eq n m w p l o h1 h2 t ih =>
  have J:=ih ho ht hb
  refine ⟨J.tot,J.len,J.f1,fun q hq=>?_,J.f3,J.f5,fun C hC hp=>J.f6 C hC fun q hq=>hp q (by simp [hq])⟩
  rcases Qq.mp hq with hq | hq
  ·exact J.f2 q hq
  ·rw [Qi.mp hq]
   obtain ⟨ρ,hρ⟩:=J.tot l (by rw [J.len];exact h1.lt)
   exact ⟨ρ,J.f1 _ _ _ h1 hρ,J.f1 _ _ _ h2 hρ⟩
 | @anyR n m w p l r o h1 h2 ne hr t ih =>
  obtain ⟨sl,hl,nsl⟩:=h1.at
  exact Ol h1 h2 (.inr ⟨rfl,rfl⟩) hr rfl hl nsl (fun z=>ne z.symm) (ih ho (Js ht hr rfl hl nsl (fun z=>ne z.symm)) (Gc hb hl)) (fun q hq=>hq) (fun a b e=>by cases e) (fun q hq=>.inl hq)
 | @anyL n m w p l r sr o h1 h2 ne hr hn hl t ih =>
  obtain ⟨sr',hr',nsr⟩:=h2.at
  rw [hr] at hr'
  cases hr'
  exact Ol h1 h2 (.inl ⟨rfl,rfl⟩) hl rfl hr nsr ne (ih ho (Js ht hl rfl hr nsr ne) (Gc hb hr)) (fun q hq=>hq) (fun a b e=>by cases e) (fun q hq=>.inl hq)
 | @to n m w p l r a b c d o h1 h2 ne hl hr t ih =>
  refine Ol h1 h2 (.inl ⟨rfl,rfl⟩) hl rfl hr rfl ne (ih ho (Js ht hl rfl hr rfl ne) (Gc hb hr)) (fun q hq=>by simp [hq]) (fun a' b' e=>by cases e;exact ⟨c,d,rfl,by simp,by simp⟩) (fun q hq=>?_)
  rcases Qq.mp hq with hq | hq
  ·exact .inl hq
  ·simp only [Pu,Qe,or_false] at hq
   rcases hq with rfl | rfl
   ·exact .inr ⟨a,b,rfl,.inl rfl⟩
   ·exact .inr ⟨a,b,rfl,.inr rfl⟩
 | clash=>cases ho
noncomputable def Eg (m:Ai)(b c:Nat):Prop:=∃ s p,m[b]?=some s/\p∈s.parts/\Last m p c
theorem Zi1 {sh:Ai}{ps:Ps}{parts w w':List Nat}(h:E4 sh ps parts w (some w')):∃ rs,w'=w++rs/\(∀ r∈rs,ps r≠some false)/\∀ p∈parts,∃ r∈rs,Last sh p r:=by
 generalize ho:some w'=o at h
 induction h with
 | nil=>cases ho;exact ⟨[],by simp,by simp,by simp⟩
 | hit=>cases ho
 | @go p r rest w o h h2 t ih =>
  obtain ⟨rs,h3,h4,h5⟩:=ih ho
  refine ⟨r::rs,by rw [h3];simp,fun q hq=>?_,fun q hq=>?_⟩
  ·rcases Pu.mp hq with rfl | hq
   ·exact h2
   ·exact h4 q hq
  ·rcases Pu.mp hq with rfl | hq
   ·exact ⟨r,by simp,h⟩
   ·obtain ⟨r',k1,k2⟩:=h5 q hq
    exact ⟨r',by simp [k1],k2⟩
structure Gy (sh:Ai)(ps:Ps)(w:List Nat):Prop where
 bl:∃(rk:Nat->Nat)(N:Nat),(∀ b,ps b=some true->rk b < N)/\∀ b c,ps b=some true->Eg sh b c->ps c=some true/\rk c < rk b
 gr:∀ x,ps x=some false->∃ w1 w2,w=w1++x::w2/\x ∉ w2/\∀ c,Eg sh x c->ps c=some true\/c∈w2
theorem Zcg {α:Type}{w w1 w2:List α}{Ac x:α}(h:w++[Ac]=w1++x::w2)(hx:x ∉ w2):(x=Ac/\w2=[])\/(x≠Ac/\∃ w3,w2=w3++[Ac]/\w=w1++x::w3):=by
 rcases Va w2 with rfl | ⟨w3,z,rfl⟩
 ·have:=Vn h rfl
  exact .inl ⟨by simpa using this.2.symm,rfl⟩
 ·rw [Vb] at *
  have h':w++[Ac]=(w1++x::w3)++[z]:=by rw [h];simp
  have:=Vn h' rfl
  have e:Ac=z:=by simpa using this.2
  subst e
  exact .inr ⟨fun e=>hx (by simp [e]),w3,rfl,this.1⟩
theorem Zne {sh:Ai}{n:Nat}{ps:Ps}{w:List Nat}{b:Bool}(h:HoldsN sh n ps w b)(r0:Nat):b=false->Gy sh ps w->(r0∈w\/ps r0=some true)->∃(B:Nat->Prop)(rk:Nat->Nat),B r0/\∀ b c,B b->Eg sh b c->B c/\rk c < rk b:=by
 induction h with
 | @nil ps =>
  intro _ g h0
  obtain ⟨rk,N,h1,h2⟩:=g.bl
  rcases h0 with h0 | h0
  ·cases h0
  ·exact ⟨fun b=>ps b=some true,rk,h0,h2⟩
 | @seen n ps w Ac x b h t ih =>
  intro hb g h0
  have key:Gy sh (Bb ps Ac true) w:=by
   have oth:∀ y,y≠Ac->∀{v},ps y=v->Bb ps Ac true y=v:=fun y hy v hv=>by unfold Bb;rw [if_neg hy];exact hv
   have self:Bb ps Ac true Ac=some true:=by unfold Bb;rw [if_pos rfl]
   have mono:∀ y,ps y=some true->Bb ps Ac true y=some true:=fun y hy=>by
    by_cases e:y=Ac
    ·rw [e];exact self
    ·exact oth y e hy
   refine ⟨?_,fun y hy=>?_⟩
   ·obtain ⟨rk,N,h1,h2⟩:=g.bl
    cases x with
    | true =>
     have same:∀ y,Bb ps Ac true y=some true->ps y=some true:=fun y hy=>by
      by_cases e:y=Ac
      ·rw [e];exact h
      ·unfold Bb at hy;rwa [if_neg e] at hy
     exact ⟨rk,N,fun b hb=>h1 b (same b hb),fun b c hb hc=>⟨mono c (h2 b c (same b hb) hc).1,(h2 b c (same b hb) hc).2⟩⟩
    | false =>
     obtain ⟨w1,w2,e1,e2,e3⟩:=g.gr Ac h
     have ch:∀ c,Eg sh Ac c->ps c=some true:=by
      rcases Zcg e1 e2 with ⟨_,rfl⟩ | ⟨e,_⟩
      ·intro c hc
       rcases e3 c hc with k | k
       ·exact k
       ·cases k
      ·exact absurd rfl e
     have nt:∀ y,y≠Ac->Bb ps Ac true y=some true->ps y=some true:=fun y e hy=>by unfold Bb at hy;rwa [if_neg e] at hy
     refine ⟨fun y=>if y=Ac then N else rk y,N+1,fun b hb=>?_,fun b c hb hc=>?_⟩
     ·show (if b=Ac then N else rk b) < N+1
      by_cases e:b=Ac
      ·rw [if_pos e];omega
      ·rw [if_neg e];have:=h1 b (nt b e hb);omega
     ·have tne:∀ y,ps y=some true->y≠Ac:=fun y hy e=>by rw [e,h] at hy;cases hy
      show Bb ps Ac true c=some true/\(if c=Ac then N else rk c) < (if b=Ac then N else rk b)
      by_cases e:b=Ac
      ·rw [if_pos e]
       have k:=ch c (e ▸ hc)
       exact ⟨mono c k,by rw [if_neg (tne c k)];exact h1 c k⟩
      ·rw [if_neg e]
       obtain ⟨k1,k2⟩:=h2 b c (nt b e hb) hc
       exact ⟨mono c k1,by rw [if_neg (tne c k1)];exact k2⟩
   ·have e:y≠Ac:=fun e=>by rw [e,self] at hy;cases hy
    have hy':ps y=some false:=by unfold Bb at hy;rwa [if_neg e] at hy
    obtain ⟨w1,w2,e1,e2,e3⟩:=g.gr y hy'
    rcases Zcg e1 e2 with ⟨z,_⟩ | ⟨_,w3,rfl,k⟩
    ·exact absurd z e
    ·refine ⟨w1,w3,k,fun z=>e2 (by simp [z]),fun c hc=>?_⟩
     rcases e3 c hc with q | q
     ·exact .inl (mono c q)
     ·rcases Qq.mp q with q | q
      ·exact .inr q
      ·rw [Qi.mp q];exact .inl self
  refine ih hb key ?_
  rcases h0 with h0 | h0
  ·rcases Qq.mp h0 with h0 | h0
   ·exact .inl h0
   ·rw [Qi.mp h0];exact .inr (by unfold Bb;rw [if_pos rfl])
  ·refine .inr ?_
   unfold Bb
   by_cases e:r0=Ac
   ·rw [if_pos e]
   ·rw [if_neg e];exact h0
 | hit=>intro hb;cases hb
 | @go n ps w w' Ac s b h hs hp t ih =>
  intro hb g h0
  obtain ⟨rs,rfl,h1,h2⟩:=Zi1 hp
  have self:Bb ps Ac false Ac=some false:=by unfold Bb;rw [if_pos rfl]
  have oth:∀ y,y≠Ac->Bb ps Ac false y=ps y:=fun y hy=>by unfold Bb;rw [if_neg hy]
  have tne:∀ y,ps y=some true->y≠Ac:=fun y hy e=>by rw [e,h] at hy;cases hy
  have back:∀ y,Bb ps Ac false y=some true->ps y=some true:=fun y hy=>by
   by_cases e:y=Ac
   ·rw [e,self] at hy;cases hy
   ·rwa [oth y e] at hy
  refine ih hb ⟨?_,fun y hy=>?_⟩ ?_
  ·obtain ⟨rk,N,k1,k2⟩:=g.bl
   exact ⟨rk,N,fun b hb=>k1 b (back b hb),fun b c hb hc=>by
    obtain ⟨q1,q2⟩:=k2 b c (back b hb) hc
    exact ⟨by rw [oth c (tne c q1)];exact q1,q2⟩⟩
  ·by_cases e:y=Ac
   ·subst e
    refine ⟨w,rs,by simp,fun z=>h1 y z self,fun c hc=>?_⟩
    obtain ⟨s',p,q1,q2,q3⟩:=hc
    rw [hs] at q1
    cases q1
    obtain ⟨r,k1,k2⟩:=h2 p q2
    rw [q3.uniq k2]
    exact .inr k1
   ·have hy':=hy
    rw [oth y e] at hy'
    obtain ⟨w1,w2,e1,e2,e3⟩:=g.gr y hy'
    refine ⟨w1,w2++rs,by rw [e1];simp,fun z=>?_,fun c hc=>?_⟩
    ·rcases Qq.mp z with z | z
     ·exact e2 z
     ·exact h1 y z hy
    ·rcases e3 c hc with q | q
     ·exact .inl (by rw [oth c (tne c q)];exact q)
     ·exact .inr (by simp [q])
  ·rcases h0 with h0 | h0
   ·exact .inl (by
     rcases Qq.mp h0 with h0 | h0
     ·simp [h0]
     ·simp [Qi.mp h0])
   ·exact .inr (by rw [oth r0 (tne r0 h0)];exact h0)
theorem Ztz {sh:Ai}{n r0:Nat}(h:HoldsN sh n (fun _=>none) [r0] false):∃(B:Nat->Prop)(rk:Nat->Nat),B r0/\∀ b c,B b->Eg sh b c->B c/\rk c < rk b :=
 Zne h r0 rfl ⟨⟨fun _=>0,0,fun b hb=>(by cases hb),fun b c hb=>(by cases hb)⟩,fun x hx=>(by cases hx)⟩ (.inl (by simp))
noncomputable def Jq (m:Ai):Prop:=∃ rk:Nat->Nat,∀ b c,(∃ s,m[b]?=some s/\s.isSame=false)->Eg m b c->rk c < rk b
theorem Ini.acy {m:Ai}(h:Ini m):Jq m:=⟨fun i=>i,fun b c _ he=>by
 obtain ⟨s,p,h1,h2,h3⟩:=he
 have hb:=(Pt.mp h1).1
 cases s with
 | to x y =>
  have:=h.dn b x y h1
  have hp:p < b:=by
   simp only [Sh.parts,Pu,Qe,or_false] at h2
   rcases h2 with rfl | rfl <;> omega
  have hp':=Pn (show p < m.length by omega)
  rw [h3.uniq (Dg hp' (h.ns p _ hp'))]
  exact hp
 | same k=>have:=h.ns b _ h1;cases this
 | num=>cases h2
 | truth=>cases h2
 | any=>cases h2⟩
noncomputable def mx (f:Nat->Nat):Nat->Nat
 | 0=>0
 | n+1=>mx f n+f n+1
theorem Zcs (f:Nat->Nat):∀(n i:Nat),i < n->f i < mx f n
 | 0,i,h=>absurd h (Tx _)
 | n+1,i,h=>by
  show f i < mx f n+f n+1
  by_cases e:i=n
  ·rw [e];omega
  ·have:=Zcs f n i (by omega);omega
theorem Zq9 {n:Nat}{m:Ai}{w:List (Nat×Nat)}{o:Option Ai}(h:JoinN n m w o):Bd m->∀ m1,o=some m1->Bd m1:=by
 induction h with
 | nil=>intro hb m1 e;cases e;exact hb
 | eq _ _ _ ih=>exact ih
 | @anyR n m w p l r o h1 h2 ne hr t ih =>
  obtain ⟨sl,hl,_⟩:=h1.at
  exact fun hb=>ih (Gc hb hl)
 | anyL h1 h2 ne hr hn hl t ih=>exact fun hb=>ih (Gc hb hr)
 | to h1 h2 ne hl hr t ih=>exact fun hb=>ih (Gc hb hr)
 | clash=>intro _ m1 e;cases e
theorem Zi4 {m m1:Ai}{g a r k:Nat}(J:JF m m1 [(g,a)])(ht:C6 m)(hb:Bd m)(ha:Jq m)(l:Last m1 g r)(h:HoldsN m1 k (fun _=>none) [r] false):Jq m1:=by
 obtain ⟨rk,hrk⟩:=ha
 obtain ⟨B,rb,h0,hB⟩:=Ztz h
 have ch:∀(i r':Nat),m[i]?≠m1[i]?->Last m1 i r'->B r':=J.f6 B (fun x a b c hx h1 h2=>by
   refine (hB x c hx ?_).1
   rcases h2 with h2 | h2
   ·exact ⟨_,a,h1,by simp [Sh.parts],h2⟩
   ·exact ⟨_,b,h1,by simp [Sh.parts],h2⟩)
  (fun p hp r' hr'=>by
   rw [Qi.mp hp] at hr'
   rw [hr'.uniq l]
   exact h0)
 classical
 refine ⟨fun v=>if B v then rb v else mx rb m1.length+rk v,fun b c hb' he=>?_⟩
 show (if B c then rb c else mx rb m1.length+rk c) < (if B b then rb b else mx rb m1.length+rk b)
 by_cases kb:B b
 ·have:=hB b c kb he
  rw [if_pos kb,if_pos this.1]
  exact this.2
 ·rw [if_neg kb]
  obtain ⟨s,p,e1,e2,e3⟩:=he
  by_cases kc:B c
  ·rw [if_pos kc]
   have:=Zcs rb m1.length c e3.lt
   omega
  ·rw [if_neg kc]
   obtain ⟨s',q1,q2⟩:=hb'
   have hs:m[b]?=some s:=by
    rw [e1] at q1
    cases q1
    exact J.f5 b s e1 q2
   obtain ⟨c0,hc0⟩:=ht p (hb b s hs p e2)
   have k1:=hrk b c0 ⟨s,hs,by rw [e1] at q1;cases q1;exact q2⟩ ⟨s,p,hs,e2,hc0⟩
   obtain ⟨r1,hr1⟩:=J.tot c0 (by rw [J.len];exact hc0.lt)
   have:r1=c:=(J.f1 p c0 r1 hc0 hr1).uniq e3
   subst this
   have same:m[c0]?=m1[c0]?:=Classical.byContradiction fun z=>kc (ch c0 r1 z hr1)
   obtain ⟨s0,z1,z2⟩:=hc0.at
   rw [same] at z1
   rw [hr1.uniq (Dg z1 z2)]
   omega
theorem Zq5 {ps:List (Nat×Nat)}{m m':Ai}{fs:List Bool}(h:FitG ps m fs m'):C6 m->Bd m->Jq m->Jq m':=by
 induction h with
 | nil=>exact fun _ _ h=>h
 | ok j hn l h hk t ih =>
  intro ht hb ha
  have J:=Ztl j rfl ht hb
  exact ih J.tot (Zq9 j hb _ rfl) (Zi4 J ht hb ha l h)
 | clash j hn t ih=>exact ih
 | loop j hn l h hk t ih=>exact ih
theorem O1 (td:Td)(a b:Nat):Co td [a,b]=(if (td a).isNone=true then [a] else [])++(if (td b).isNone=true then [b] else []):=by
 unfold Co
 cases ha:(td a).isNone <;> cases hb:(td b).isNone <;> simp [List.filter,ha,hb]
noncomputable def C8 (td:Td):Nat->Bool:=fun i=>(td i).isNone
theorem Zi5 {N r:Nat}{td:Td}{k:Kd}(hr:r < N)(h:td r=none):un N (C8 (Cb td r k))+1=un N (C8 td) :=
 Zau N r _ _ hr (by unfold C8;rw [h];rfl) (by unfold C8 Cb;rw [if_pos rfl];rfl) (fun i hi=>by unfold C8 Cb;rw [if_neg hi])
theorem tell {sh:Ai}{rk:Nat->Nat}(ht:C6 sh)(hb:Bd sh)(hrk:∀ b c,(∃ s,sh[b]?=some s/\s.isSame=false)->Eg sh b c->rk c < rk b):∀(k r:Nat),rk r < k->∀(x c:Nat)(td:Td)(w:List Nat)(A M:Nat),Last sh x r->td r=none ->
  (∀(td2:Td)(c2:Nat),(∀ i,(td i).isSome=true->td2 i=td i)->(∀ i,rk r < rk i->td2 i=td i)->(td2 r).isSome=true->∃ n td',n+A<=M+3 * un sh.length (C8 td2)/\ToldN sh n td2 c2 w td') ->
  ∃ n td',n+A+1<=M+3 * un sh.length (C8 td)/\ToldN sh n td c (w++[x]) td':=by
 intro k
 induction k with
 | zero=>exact fun r h=>absurd h (Tx _)
 | succ k ih =>
  intro r hk x c td w A M hl hr cont
  obtain ⟨s,hs,ns⟩:=hl.at
  have put:∀(td:Td)(kd:Kd)(c2:Nat)(rs:List Nat),Lasts sh s.parts rs->td r=none->(∀(td2:Td)(c2:Nat),(∀ i,(td i).isSome=true->td2 i=td i)->(∀ i,rk r < rk i->td2 i=td i)->(td2 r).isSome=true->∃ n td',n+A<=M+3 * un sh.length (C8 td2)/\ToldN sh n td2 c2 w td') ->
    ∃ n td',(n+1)+A+1<=M+3 * un sh.length (C8 td)/\ToldN sh n (Cb td r kd) c2 (w++[x]) td':=fun td kd c2 rs hp hr cont=>by
   have hu:=Zi5 (k:=kd) hl.lt hr
   have self:Cb td r kd r=some kd:=by unfold Cb;rw [if_pos rfl]
   obtain ⟨n,td',h1,h2⟩:=cont (Cb td r kd) c2 (fun i hi=>by
     unfold Cb
     rw [if_neg fun e=>by rw [e,hr] at hi;cases hi]) (fun i hi=>by
     unfold Cb
     rw [if_neg fun e=>by rw [e] at hi;omega]) (by rw [self];rfl)
   exact ⟨n+1,td',by omega,.seen hl hs hp self h2⟩
  cases s with
  | any =>
   obtain ⟨n,td',h1,h2⟩:=put td (.any c) (c+1) [] .nil hr cont
   exact ⟨n+1,td',h1,.any hl hs .nil hr h2⟩
  | num =>
   obtain ⟨n,td',h1,h2⟩:=put td .num c [] .nil hr cont
   exact ⟨n+1,td',h1,.mk hl hs .nil hr rfl .num h2⟩
  | truth =>
   obtain ⟨n,td',h1,h2⟩:=put td .truth c [] .nil hr cont
   exact ⟨n+1,td',h1,.mk hl hs .nil hr rfl .truth h2⟩
  | same q=>cases ns
  | to a b =>
   have bs:=hb r _ hs
   obtain ⟨ra,la⟩:=ht a (bs a (by simp [Sh.parts]))
   obtain ⟨rb,lb⟩:=ht b (bs b (by simp [Sh.parts]))
   have ka:=hrk r ra ⟨_,hs,rfl⟩ ⟨_,a,hs,by simp [Sh.parts],la⟩
   have kb:=hrk r rb ⟨_,hs,rfl⟩ ⟨_,b,hs,by simp [Sh.parts],lb⟩
   have hp:Lasts sh (Sh.to a b).parts [ra,rb]:=.cons la (.cons lb .nil)
   have la':Last sh ra ra:=let ⟨_,h1,h2⟩:=la.at;Dg h1 h2
   have lb':Last sh rb rb:=let ⟨_,h1,h2⟩:=lb.at;Dg h1 h2
   have fin:∀(td:Td)(c:Nat),td r=none->(td ra).isSome=true->(∀(td2:Td)(c2:Nat),(∀ i,(td i).isSome=true->td2 i=td i)->(∀ i,rk r < rk i->td2 i=td i)->(td2 r).isSome=true->∃ n td',n+A<=M+3 * un sh.length (C8 td2)/\ToldN sh n td2 c2 w td')->∃ n td',n+A+1<=M+3 * un sh.length (C8 td)/\ToldN sh n td c (w++[x]) td':=fun td c hr hra cont=>by
    obtain ⟨xa,hxa⟩:=R0.mp hra
    have both:∀(td:Td)(c:Nat),td r=none->(td ra).isSome=true->(td rb).isSome=true->(∀(td2:Td)(c2:Nat),(∀ i,(td i).isSome=true->td2 i=td i)->(∀ i,rk r < rk i->td2 i=td i)->(td2 r).isSome=true->∃ n td',n+A<=M+3 * un sh.length (C8 td2)/\ToldN sh n td2 c2 w td')->∃ n td',n+A+1<=M+3 * un sh.length (C8 td)/\ToldN sh n td c (w++[x]) td':=fun td c hr hra hrb cont=>by
     obtain ⟨xa,hxa⟩:=R0.mp hra
     obtain ⟨xb,hxb⟩:=R0.mp hrb
     obtain ⟨n,td',h1,h2⟩:=put td (.to xa xb) c _ hp hr cont
     exact ⟨n+1,td',h1,.mk hl hs hp hr (by rw [O1,hxa,hxb];rfl) (.to hxa hxb) h2⟩
    cases hxb:td rb with
    | some xb=>exact both td c hr hra (by rw [hxb];rfl) cont
    | none =>
     obtain ⟨n,td',h1,h2⟩:=ih rb (by omega) rb c td (w++[x]) (A+1) M lb' hxb fun td2 c2 g1 g2 g3=>by
      obtain ⟨n,td',j1,j2⟩:=both td2 c2 (by rw [g2 r kb];exact hr) (by rw [g1 ra hra];exact hra) g3 fun td3 c3 f1 f2 f3 =>
       cont td3 c3 (fun i hi=>by rw [f1 i (by rw [g1 i hi];exact hi),g1 i hi]) (fun i hi=>by rw [f2 i hi,g2 i (by omega)]) f3
      exact ⟨n,td',by omega,j2⟩
     exact ⟨n+1,td',by omega,.miss hl hs hp hr (by rw [O1,hxa,hxb];rfl) h2⟩
   cases hxa:td ra with
   | some xa=>exact fin td c hr (by rw [hxa];rfl) cont
   | none =>
    obtain ⟨n,td',h1,h2⟩:=ih ra (by omega) ra c td (w++[x]) (A+1) M la' hxa fun td2 c2 g1 g2 g3=>by
     obtain ⟨n,td',j1,j2⟩:=fin td2 c2 (by rw [g2 r ka];exact hr) g3 fun td3 c3 f1 f2 f3 =>
      cont td3 c3 (fun i hi=>by rw [f1 i (by rw [g1 i hi];exact hi),g1 i hi]) (fun i hi=>by rw [f2 i hi,g2 i (by omega)]) f3
     exact ⟨n,td',by omega,j2⟩
    exact ⟨n+1,td',by omega,.miss hl hs hp hr (by rw [O1,hxa];rfl) h2⟩
theorem Zrv {sh:Ai}(ht:C6 sh)(hb:Bd sh)(ha:Jq sh):∀(k:Nat)(w:List Nat),w.length=k->(∀ x∈w,x < sh.length)->∀(td:Td)(c:Nat),∃ n td',n<=w.length+3 * un sh.length (C8 td)/\ToldN sh n td c w td':=by
 obtain ⟨rk,hrk⟩:=ha
 intro k
 induction k with
 | zero =>
  intro w hw _ td c
  have:w=[]:=Rr hw
  subst this
  exact ⟨0,td,Qd _,.nil⟩
 | succ k ih =>
  intro w hw hx td c
  rcases Va w with rfl | ⟨w1,x,rfl⟩
  ·cases hw
  rw [Vb] at hw hx ⊢
  rw [Px,Qm] at hw ⊢
  have hw1:∀ y∈w1,y < sh.length:=fun y hy=>hx y (by simp [hy])
  obtain ⟨r,hl⟩:=ht x (hx x (by simp))
  cases e:td r with
  | some kd =>
   obtain ⟨n,td',h1,h2⟩:=ih w1 (by omega) hw1 td c
   obtain ⟨s,hs,ns⟩:=hl.at
   have lp:∀ ps:List Nat,(∀ p∈ps,p < sh.length)->∃ rs,Lasts sh ps rs:=fun ps=>by
    induction ps with
    | nil=>exact fun _=>⟨[],.nil⟩
    | cons p ps ih =>
     intro hp
     obtain ⟨q,hq⟩:=ht p (hp p (by simp))
     obtain ⟨rs,hrs⟩:=ih fun z hz=>hp z (by simp [hz])
     exact ⟨q::rs,.cons hq hrs⟩
   obtain ⟨rs,hrs⟩:=lp s.parts (hb r s hs)
   exact ⟨n+1,td',by omega,.seen hl hs hrs e h2⟩
  | none =>
   obtain ⟨n,td',h1,h2⟩:=tell ht hb hrk (rk r+1) r (W0 _) x c td w1 0 w1.length hl e fun td2 c2 _ _ _=>by
    obtain ⟨n,td',j1,j2⟩:=ih w1 (by omega) hw1 td2 c2
    exact ⟨n,td',by omega,j2⟩
   exact ⟨n,td',by omega,h2⟩
theorem Zrn {sh:Ai}{n c:Nat}{td td':Td}{w:List Nat}(h:ToldN sh n td c w td'):(∀ i k,td i=some k->td' i=some k)/\∀ x∈w,∃ r k,Last sh x r/\td' r=some k:=by
 have st:∀{td td':Td}{r:Nat}{k:Kd},td r=none->(∀ i k',Cb td r k i=some k'->td' i=some k')->∀ i k,td i=some k->td' i=some k:=fun {td td' r k} hr h i k' hi=>h i k' (by
  unfold Cb
  rw [if_neg fun e=>by rw [e,hr] at hi;cases hi]
  exact hi)
 induction h with
 | nil=>exact ⟨fun _ _ h=>h,fun x hx=>by cases hx⟩
 | @seen n c x r td td' w rs s k hl hs hp h t ih =>
  refine ⟨ih.1,fun y hy=>?_⟩
  rcases Qq.mp hy with hy | hy
  ·exact ih.2 y hy
  ·rw [Qi.mp hy]
   exact ⟨r,k,hl,ih.1 r k h⟩
 | miss hl hs hp h hm t ih=>exact ⟨ih.1,fun y hy=>ih.2 y (by simp at hy ⊢;rcases hy with hy | hy <;> simp [hy])⟩
 | any hl hs hp h t ih=>exact ⟨st h ih.1,fun y hy=>ih.2 y hy⟩
 | mk hl hs hp h hm hk t ih=>exact ⟨st h ih.1,fun y hy=>ih.2 y hy⟩
theorem Zfx:∀(ps:List (Nat×Nat))(x:Nat),x∈flat ps->∃ p∈ps,x=p.1\/x=p.2
 | [],x,h=>by cases h
 | p::ps,x,h=>by
  have h:x∈[p.1,p.2]++flat ps:=h
  rcases Qq.mp h with h | h
  ·simp only [Pu,Qe,or_false] at h
   exact ⟨p,by simp,h⟩
  ·obtain ⟨q,h1,h2⟩:=Zfx ps x h
   exact ⟨q,by simp [h1],h2⟩
theorem pick {α β:Type}{R:α->β->Prop}:∀(xs:List α),(∀ x∈xs,∃ y,R x y)->∃ ys:List β,ys.length=xs.length/\∀(j:Nat)(x:α)(y:β),xs[j]?=some x->ys[j]?=some y->R x y
 | [],_=>⟨[],rfl,fun j x y h=>by cases h⟩
 | x::xs,h=>by
  obtain ⟨y,hy⟩:=h x (by simp)
  obtain ⟨ys,h1,h2⟩:=pick xs fun z hz=>h z (by simp [hz])
  refine ⟨y::ys,by rw [Py,Py,h1],fun j a b ha hb=>?_⟩
  match j,ha,hb with
  | 0,ha,hb=>cases ha;cases hb;exact hy
  | j+1,ha,hb=>exact h2 j a b (by simpa using ha) (by simpa using hb)
theorem Zgx {t:Tr}(h:AT t)(hs:t.size<=40):∃ ks fs,Fm t ks fs:=by
 obtain ⟨ps,sh1,hk⟩:=Zk1 h
 obtain ⟨i1,i2,i3,i4⟩:=Zj0 hk ⟨fun i s hi=>by
   match i,hi with
   | 0,hi=>cases hi;rfl
   | 1,hi=>cases hi;rfl,fun i a b hi=>by
   match i,hi with
   | 0,hi=>cases hi
   | 1,hi=>cases hi⟩ (Po _) (fun q k hq=>by cases hq) (fun q e s k hq hs=>by
   by_cases z:q=[]
   ·rw [if_pos z] at hq;cases hq;cases hs
   ·rw [if_neg z] at hq;cases hq)
 rw [Fb] at i3
 have i3:sh1.length<=2+3 * t.size:=i3
 obtain ⟨fs,sh2,hf,t2,b2,l2⟩:=Lp ps sh1 (by omega) i1.tot i1.bd i4
 have a2:=Zq5 hf i1.tot i1.bd i1.acy
 have hpl:ps.length=t.size:=by rw [hk.len,Fb]
 obtain ⟨N,td',n1,n2⟩:=Zrv t2 b2 a2 _ (flat ps).reverse rfl (fun x hx=>by
  obtain ⟨p,h1,h2⟩:=Zfx ps x (by simpa using hx)
  have:=i4 p h1
  rw [l2]
  rcases h2 with rfl | rfl <;> omega) (fun _=>none) 0
 have ul:=Zbf sh2.length (C8 fun _=>none)
 rw [Ve,Mr] at n1
 obtain ⟨ks,k1,k2⟩:=pick (R:=fun x k=>∃ r,Last sh2 x r/\td' r=some k) (flat ps) fun x hx=>by
  obtain ⟨r,k,h1,h2⟩:=(Zrn n2).2 x (by simpa using hx)
  exact ⟨k,r,h1,h2⟩
 exact ⟨ks,fs,ps,sh1,sh2,N,td',hk,hf,n2,by omega,k1,k2⟩
noncomputable def Hw:Tr:=.mk "num" (.flat (.int 1)) []
noncomputable def smallT:Tr:=.mk "plus" (.flat .non) [Hw,gapT]
noncomputable def sm0:Ai:=[.num,.truth,.any]
noncomputable def Du:Ai:=[.num,.truth,.same 0]
theorem Nr {m:Ai}(h:m[0]?=some .num):HoldsN m 2 (fun _=>none) [0] false :=
 .go (w:=[]) rfl h (.nil) (.seen (w:=[]) (x:=false) (by unfold Bb;rw [if_pos rfl]) .nil)
theorem Zr6:FitG [(0,0),(0,0),(2,0)] sm0 [true,true,true] Du:=by
 have r0:Last sm0 0 0:=Dg rfl rfl
 have r2:Last sm0 2 2:=Dg rfl rfl
 have q0:Last Du 0 0:=Dg rfl rfl
 refine .ok (.eq (w:=[]) r0 r0 .nil) (by decide) r0 (Nr rfl) (by decide) ?_
 refine .ok (.eq (w:=[]) r0 r0 .nil) (by decide) r0 (Nr rfl) (by decide) ?_
 refine .ok (m1:=Du) (.anyL (w:=[]) r2 r0 (by decide) rfl (by decide) rfl .nil) (by decide) (⟨1,.step rfl (.root rfl rfl)⟩:Last Du 2 0) (Nr rfl) (by decide) .nil
theorem Ztm:KinG (walk [] smallT) [.num,.truth] (fun _=>none) (fun q=>if q=[] then some (fun _=>none) else none) [(0,0),(0,0),(2,0)] sm0:=by
 have w:walk [] smallT=[([],smallT),([0],Hw),([1],gapT)]:=rfl
 rw [w]
 have s1:C4 "plus" (.flat .non):=Fw (by decide +kernel) (by decide +kernel) (by decide +kernel) (by decide +kernel)
 have s2:C4 "num" (.flat (.int 1)):=Fw (by decide +kernel) (by decide +kernel) (by decide +kernel) (by decide +kernel)
 have s3:C4 "gap" (.flat .non):=Fw (by decide +kernel) (by decide +kernel) (by decide +kernel) (by decide +kernel)
 exact .cons rfl s1 (.cons rfl s2 (.cons rfl s3 .nil))
theorem Zif:∃ td',ToldN Du 7 (fun _=>none) 0 [0,2,0,0,0,0] td'/\td' 0=some .num:=by
 have r0:Last Du 0 0:=Dg rfl rfl
 have r2:Last Du 2 0:=⟨1,.step rfl (.root rfl rfl)⟩
 let td:Td:=Cb (fun _=>none) 0 .num
 have e:td 0=some .num:=rfl
 have seen0:∀{n:Nat}{w:List Nat}{td':Td},ToldN Du n td 0 w td'->ToldN Du (n+1) td 0 (w++[0]) td':=fun t=>.seen r0 rfl .nil e t
 have seen2:∀{n:Nat}{w:List Nat}{td':Td},ToldN Du n td 0 w td'->ToldN Du (n+1) td 0 (w++[2]) td':=fun t=>.seen r2 rfl .nil e t
 exact ⟨td,.mk (w:=[0,2,0,0,0]) r0 rfl .nil rfl rfl .num (seen0 (seen0 (seen0 (seen0 (seen2 (seen0 .nil)))))),e⟩
noncomputable def Hi:List Kd:=[.num,.num,.num,.num,.num,.num]
theorem Zfp:Fm smallT Hi [true,true,true]:=by
 obtain ⟨td',h1,h2⟩:=Zif
 refine ⟨_,_,_,_,td',Ztm,Zr6,h1,by decide,rfl,fun j x k hx hk=>?_⟩
 have r0:Last Du 0 0:=Dg rfl rfl
 have r2:Last Du 2 0:=⟨1,.step rfl (.root rfl rfl)⟩
 match j,hx,hk with
 | 0,hx,hk=>cases hx;cases hk;exact ⟨0,r0,h2⟩
 | 1,hx,hk=>cases hx;cases hk;exact ⟨0,r0,h2⟩
 | 2,hx,hk=>cases hx;cases hk;exact ⟨0,r0,h2⟩
 | 3,hx,hk=>cases hx;cases hk;exact ⟨0,r0,h2⟩
 | 4,hx,hk=>cases hx;cases hk;exact ⟨0,r2,h2⟩
 | 5,hx,hk=>cases hx;cases hk;exact ⟨0,r0,h2⟩
theorem Zgk:Be smallT Hi [true,true,true]=([([],Kd.num,none, ""),([0],Kd.num,some Kd.num, ""),([1],Kd.num,some Kd.num, "")]:List Rw):=by
 have w:walk [] smallT=[([],smallT),([0],Hw),([1],gapT)]:=rfl
 have m1:Cp smallT [] smallT true = "" := by decide +kernel
 have m2:Cp smallT [0] Hw true = "" := by decide +kernel
 have m3:Cp smallT [1] gapT true = "" := by decide +kernel
 unfold Be
 rw [w]
 show [Es smallT Hi [true,true,true] 0 ([],smallT),Es smallT Hi [true,true,true] 1 ([0],Hw),Es smallT Hi [true,true,true] 2 ([1],gapT)]=_
 unfold Es
 show [([],Kd.num,(if ([]:List Nat)=[] then none else some Kd.num),Cp smallT [] smallT true),([0],Kd.num,(if [0]=[] then none else some Kd.num),Cp smallT [0] Hw true),([1],Kd.num,(if [1]=[] then none else some Kd.num),Cp smallT [1] gapT true)]=_
 rw [m1,m2,m3]
 rfl
theorem Zk9:(Be smallT Hi [true,true,true]).filter mB=[]:=by
 rw [Zgk]
 decide +kernel
theorem Zin {r:Rw}(h:r∈Be smallT Hi [true,true,true])(e:r.1=[]):r.2.1=.num:=by
 rw [Zgk] at h
 simp only [Pu,Qe,or_false] at h
 rcases h with rfl | rfl | rfl
 ·rfl
 ·cases e
 ·cases e
theorem Zsu (w:Str):El w<=3:=by
 unfold El A6
 repeat' split
 all_goals simp
theorem Zej:∀(k:Nat)(t:Tr),AT t->∀ c:Int,3<=c->∃(pl:List Nat)(far:Int)(rest:List V),Qt k (V.int 0)++[V.int c]=Ez pl far rest/\Bad t pl far/\pl.length<=k/\∀ v∈rest,∃ z,v=V.int z
 | 0,.mk w n ts,h,c,hc=>by
  cases h with
  | mk hw hl h =>
  have:=Zsu w
  exact ⟨[],c,[],rfl,⟨.nil _,w,n,ts,by rw [Bm];rfl,by omega⟩,Po _,fun v hv=>nomatch hv⟩
 | k+1,.mk w n [],h,c,hc=>by
  refine ⟨[],0,Qt k (V.int 0)++[V.int c],rfl,⟨.nil _,w,n,[],by rw [Bm];rfl,by simp⟩,Qd _,fun v hv=>?_⟩
  rcases Qq.mp hv with hv | hv
  ·exact ⟨0,(List.eq_of_mem_replicate hv)⟩
  ·exact ⟨c,Qi.mp hv⟩
 | k+1,.mk w n (t0::r),h,c,hc=>by
  cases h with
  | mk hw hl h =>
  obtain ⟨pl,far,rest,h1,h2,h3,h4⟩:=Zej k t0 (h t0 (by simp)) c hc
  obtain ⟨w',n',ps,e1,e2⟩:=h2.ex
  have hj:(t0::r)[0]?=some t0:=rfl
  refine ⟨0::pl,far,rest,?_,⟨.cons hj h2.sub,w',n',ps,?_,e2⟩,by rw [Py];omega,h4⟩
  ·rw [Tl,Tt,h1]
   rfl
  ·rw [Iq hj]
   exact e1
section
variable {P:Program}{w:World}{K:Pk}{mg:Str->Option Value}{base:Heap}
theorem Lu {CX:Cz}{k:Nat}{f:Addr}{fd:FuncData}{ps:List Str}{sp:Sp}(F:As P w K mg base Az k f fd ps sp):As P w K mg base CX k f fd ps sp:=⟨F.len,fun A outer s H args us vs Q E hr he hb hv hs=>Sz (F.run A outer s H args us vs Q E hr he hb hv hs) fun r s' h=>by
 cases r with
 | ok f=>cases f <;> exact h
 | error e=>exact Qh h⟩
theorem K4 {CX:Cz}{k:Nat}{f:Addr}{fd:FuncData}{ps:List Str}{sp1 sp2:Sp}(F1:As P w K mg base CX k f fd ps sp1)(F2:As P w K mg base CX k f fd ps sp2):As P w K mg base CX k f fd ps (fun vs H Q E=>sp1 vs H Q E\/sp2 vs H Q E) :=
 ⟨fun vs H Q E h=>h.elim (F1.len vs H Q E) (F2.len vs H Q E),fun A outer s H args us vs Q E hr he hb hv hs=>hs.elim (F1.run A outer s H args us vs Q E hr he hb hv) (F2.run A outer s H args us vs Q E hr he hb hv)⟩
noncomputable def Zko (K:Pk)(TB:Addr):Sp:=fun vs H Q E=>Lg K vs H Q E\/En K TB vs H Q E
noncomputable def Zl4 (K:Pk)(TB:Addr):Sp:=fun vs H Q E=>Zbw K vs H Q E\/En K TB vs H Q E
noncomputable def Zly (K:Pk)(TB:Addr):Sp:=fun vs H Q E=>Zdd K vs H Q E\/En K TB vs H Q E
noncomputable def Zkl (K:Pk)(TB NP:Addr):Sp:=fun vs H Q E=>(Zhs K vs H Q E\/∃ v y,vs=[v,y]/\En K TB [v] H Q E)\/Zdg K NP vs H Q E
theorem row0 (t:Tr)(ks:List Kd)(fs:List Bool):∃ r∈Be t ks fs,r.1=[]:=by
 refine ⟨Es t ks fs 0 ([],t),?_,rfl⟩
 unfold Be
 rw [Ze4]
 simp
theorem Fz {K:Pk}{C:Addr}{i:Nat}{tb:Fk}{th:Addr->TS}{D:Ends}{σ:St}{H:Hp}(h:tb D (fun σ1 cls od H2=>(∃ C',cls=.ref C'/\Pz K (.ref C') (.ref C)=some true)/\∀ a,H2 a=none->th a (D.gone i) (σ1.set i (some (.ref a))) (upd H2 a (Ca a cls od))) σ H):Zeg K C i tb th D σ H:=h
theorem Cc {tc:TT}{t u:Fk}{D:Ends}{E:St->XK}{σ:St}{H:Hp}(h:tc σ H fun d H1=>if d then t D E σ H1 else u D E σ H1):tIfX tc t u D E σ H:=h
noncomputable def AnB (K:Pk)(H:Hp)(t:Tr)(Q:VK):Prop:=40 < t.size/\t.size<=100/\∀(r:Addr)(H':Hp),Same H H'->H' r=some (.tup [.str "big"])->Q (.ref r) H'
noncomputable def AnF (K:Pk)(H:Hp)(k:Nat)(t:Tr)(c:Addr)(Q:VK):Prop:=t.size<=40/\TrSh t/\∃ ks fs,Fm t ks fs/\H c=some (.tup [])/\∀(r:Addr)(u:V)(H':Hp),Same H H'->H' r=some (.tup [.str "found",u])->(k=1->∃ p rows,u=.ref p/\H' p=some (.lst rows)/\Al (MkAt K H') rows ((Be t ks fs).filter mB))->(k=2->∃ w∈Be t ks fs,w.1=[]/\KdAt K H' u w.2.1)->Q (.ref r) H'
noncomputable def AnP (K:Pk)(H:Hp)(k:Nat)(t:Tr)(c:Addr)(Q:VK):Prop:=k=2/\t.size<=40/\TrSh t/\∃ ks fs,Fm t ks fs/\∃(pl:List Nat)(far:Int)(rest:List V)(zs:List Int),Ez pl far rest=zs.map V.int/\SqT K H c (zs.map V.int)/\Bad t pl far/\pl.length<=1000/\zs.length<=1000/\∀(r:Addr)(H':Hp),Same H H'->H' r=some (.tup [.str "place"])->Q (.ref r) H'
noncomputable def Zg5 (K:Pk):Sp:=fun vs H Q _=>∃(k:Nat)(v:V)(t:Tr)(c:Addr),vs=[.int (k:Nat),v,.ref c]/\k < 4/\TrAt K H v t/\(AnB K H t Q\/AnF K H k t c Q\/AnP K H k t c Q)
theorem sc_law_answer:Bf ["_law_turn", "_law_tree", "_law_place", "_law_found", "_law_late", "_law_e"] ["_law_turn", "_law_tree", "_law_place"] (A0 Jv):=by walk_at "sc"
theorem Zjy {N_TooBig N_NoPlace GE:Addr}{f:Addr}{fd:FuncData}(F:Fun K "_law_answer" "_law_answer" Jv f fd)(T:Txt K mg)(C_looks:Dq P w K mg base 8 "looks" ["tree"] (Zko K N_TooBig))(C_marks:Dq P w K mg base 9 "marks" ["tree"] (Zl4 K N_TooBig))(C_kind_at:Dq P w K mg base 9 "kind_at" ["tree", "place"] (Zkl K N_TooBig N_NoPlace))(C_blanked:Dq P w K mg base 10 "blanked" ["tree"] (Zly K N_TooBig))
  (C__law_refusal:Ik P w K mg base 3 "_law_refusal" ["_law_e", "_law_place"] (Zdn K N_TooBig N_NoPlace)) (X_GapError:Nd K GE) (G_GapError:mg "GapError" = some (.ref GE)) (sB:Pz K (.ref N_TooBig) (.ref GE)=some true) (sP:Pz K (.ref N_NoPlace) (.ref GE)=some true):As P w K mg base Az 11 f fd ["_law_turn", "_law_tree", "_law_place"] (Zg5 K):=by
 refine F.okq sc_law_answer (fun vs H Q E h=>?_) (fun cdv A outer s H vs Q E hr h=>?_)
 ·obtain ⟨k,v,t,c,rfl,_⟩:=h
  rfl
 ·obtain ⟨k,v,t,c,rfl,hk,ht,h⟩:=h
  refine ⟨_,Ae (Aq 3 sc_law_answer Eh)
   (Ae (Aq 4 sc_law_answer Eh)
   (Ae (Zof (i:=5) sc_law_answer.nd rfl rfl X_GapError G_GapError rfl rfl (Oz (fun _=>A8 (Bg K hr.u200) (qv 0) Ah (A1 _)) (Nc (i:=3) sc_law_answer.nd rfl (Or.inl rfl) (Ls C_looks hr.m (fun _=>Aa (qv 1) Ab))) (Oz (fun _=>A8 (Bg K hr.u200) (qv 0) Ah (A1 _)) (Nc (i:=3) sc_law_answer.nd rfl (Or.inl rfl) (Ls C_marks hr.m (fun _=>Aa (qv 1) Ab))) (Oz (fun _=>A8 (Bg K hr.u200) (qv 0) Ah (A1 _)) (Nc (i:=3) sc_law_answer.nd rfl (Or.inl rfl) (Ls C_kind_at hr.m (fun _=>Aa (qv 1) (Aa (qv 2) Ab)))) (Nc (i:=3) sc_law_answer.nd rfl (Or.inl rfl) (Ls C_blanked hr.m (fun _=>Aa (qv 1) Ab)))))) (fun _ _=>Af (Aq 4 sc_law_answer (Zad C__law_refusal (RoomN.mark (RoomN.mono (Room.n hr) (by decide)) _) rfl (Aa (qv 5) (Aa (qv 2) Ab))))))
   (Ae (Au (Gj (Zeb (qv 4))) (Af (Am (qv 4))) Aw)
   (Af (Am (Ar (Aa Av (Aa (qv 3) Ab)))))))),?_⟩
  have bg:=big
  walk_at "r"
  rcases h with ⟨z1,z2,q⟩ | ⟨hz,hts,ks,fs,hlk,hc,q⟩ | ⟨rfl,hz,hts,ks,fs,hlk,pl,far,rest,zs,eb,hc,hbad,hpl,hzl,q⟩
  ·match k,hk with
   | 0,_ =>
    refine Fz ?_
    refine Cc ?_
    walk_at "r"
    rw [decide_eq_true (by decide)]
    refine iteT ?_
    walk_at "r"
    refine .inr ⟨v,t,rfl,ht,z1,z2,fun H1 s1=>⟨⟨N_TooBig,rfl,sB⟩,fun a1 ha1=>?_⟩⟩
    walk_at "r"
    refine .inl ⟨.ref c,rfl,Ad,fun p H3 s3 e3=>?_⟩
    walk_at "r"
    dsimp only [Ends.gone]
    walk_at "r"
    rw [decide_eq_false (show ¬ V.ref p=V.non from fun z=>by cases z)]
    walk_at "r"
    exact q p H3 ((s1.trans (Same.upd ha1)).trans s3) e3
   | 1,_ =>
    refine Fz ?_
    refine Cc ?_
    walk_at "r"
    rw [decide_eq_false (by decide)]
    refine iteF ?_
    refine Cc ?_
    walk_at "r"
    rw [decide_eq_true (by decide)]
    refine iteT ?_
    walk_at "r"
    refine .inr ⟨v,t,rfl,ht,z1,z2,fun H1 s1=>⟨⟨N_TooBig,rfl,sB⟩,fun a1 ha1=>?_⟩⟩
    walk_at "r"
    refine .inl ⟨.ref c,rfl,Ad,fun p H3 s3 e3=>?_⟩
    walk_at "r"
    dsimp only [Ends.gone]
    walk_at "r"
    rw [decide_eq_false (show ¬ V.ref p=V.non from fun z=>by cases z)]
    walk_at "r"
    exact q p H3 ((s1.trans (Same.upd ha1)).trans s3) e3
   | 2,_ =>
    refine Fz ?_
    refine Cc ?_
    walk_at "r"
    rw [decide_eq_false (by decide)]
    refine iteF ?_
    refine Cc ?_
    walk_at "r"
    rw [decide_eq_false (by decide)]
    refine iteF ?_
    refine Cc ?_
    walk_at "r"
    rw [decide_eq_true (by decide)]
    refine iteT ?_
    walk_at "r"
    refine .inl (.inr ⟨v,.ref c,rfl,v,t,rfl,ht,z1,z2,fun H1 s1=>⟨⟨N_TooBig,rfl,sB⟩,fun a1 ha1=>?_⟩⟩)
    walk_at "r"
    refine .inl ⟨.ref c,rfl,Ad,fun p H3 s3 e3=>?_⟩
    walk_at "r"
    dsimp only [Ends.gone]
    walk_at "r"
    rw [decide_eq_false (show ¬ V.ref p=V.non from fun z=>by cases z)]
    walk_at "r"
    exact q p H3 ((s1.trans (Same.upd ha1)).trans s3) e3
   | 3,_ =>
    refine Fz ?_
    refine Cc ?_
    walk_at "r"
    rw [decide_eq_false (by decide)]
    refine iteF ?_
    refine Cc ?_
    walk_at "r"
    rw [decide_eq_false (by decide)]
    refine iteF ?_
    refine Cc ?_
    walk_at "r"
    rw [decide_eq_false (by decide)]
    refine iteF ?_
    walk_at "r"
    refine .inr ⟨v,t,rfl,ht,z1,z2,fun H1 s1=>⟨⟨N_TooBig,rfl,sB⟩,fun a1 ha1=>?_⟩⟩
    walk_at "r"
    refine .inl ⟨.ref c,rfl,Ad,fun p H3 s3 e3=>?_⟩
    walk_at "r"
    dsimp only [Ends.gone]
    walk_at "r"
    rw [decide_eq_false (show ¬ V.ref p=V.non from fun z=>by cases z)]
    walk_at "r"
    exact q p H3 ((s1.trans (Same.upd ha1)).trans s3) e3
  ·match k,hk with
   | 0,_ =>
    refine Fz ?_
    refine Cc ?_
    walk_at "r"
    rw [decide_eq_true (by decide)]
    refine iteT ?_
    walk_at "r"
    refine .inl ⟨v,t,ks,fs,rfl,ht,hts,hz,hlk,fun p rows H1 s1 _ er al=>?_⟩
    walk_at "r"
    refine ⟨_,rfl,?_⟩
    dsimp only [Hy]
    refine ⟨Bu,fun r hr1=>?_⟩
    walk_at "r"
    exact q r _ _ (s1.trans (Same.upd hr1)) Ad (fun e=>by cases e) (fun e=>by cases e)
   | 1,_ =>
    refine Fz ?_
    refine Cc ?_
    walk_at "r"
    rw [decide_eq_false (by decide)]
    refine iteF ?_
    refine Cc ?_
    walk_at "r"
    rw [decide_eq_true (by decide)]
    refine iteT ?_
    walk_at "r"
    refine .inl ⟨v,t,ks,fs,rfl,ht,hts,hz,hlk,fun p rows H1 s1 er al=>?_⟩
    walk_at "r"
    refine ⟨_,rfl,?_⟩
    dsimp only [Hy]
    refine ⟨Bu,fun r hr1=>?_⟩
    walk_at "r"
    exact q r _ _ (s1.trans (Same.upd hr1)) Ad (fun _=>⟨p,rows,rfl,Same.upd hr1 _ _ er,al.mono (MkAt.same (Same.upd hr1).t)⟩) (fun e=>by cases e)
   | 2,_ =>
    refine Fz ?_
    refine Cc ?_
    walk_at "r"
    rw [decide_eq_false (by decide)]
    refine iteF ?_
    refine Cc ?_
    walk_at "r"
    rw [decide_eq_false (by decide)]
    refine iteF ?_
    refine Cc ?_
    walk_at "r"
    rw [decide_eq_true (by decide)]
    refine iteT ?_
    walk_at "r"
    refine .inl (.inl ⟨v,t,ks,fs,c,[],rfl,ht,hts,hz,hlk,SqT.of hc,hc,.nil _,by simp,row0 t ks fs,⟨t,by cases t;rfl⟩,fun u w H1 s1 w1 w2 w3=>?_⟩)
    walk_at "r"
    refine ⟨_,rfl,?_⟩
    dsimp only [Hy]
    refine ⟨Bu,fun r hr1=>?_⟩
    walk_at "r"
    exact q r _ _ (s1.trans (Same.upd hr1)) Ad (fun e=>by cases e) (fun _=>⟨w,w1,w2,w3.same (Same.upd hr1).t⟩)
   | 3,_ =>
    refine Fz ?_
    refine Cc ?_
    walk_at "r"
    rw [decide_eq_false (by decide)]
    refine iteF ?_
    refine Cc ?_
    walk_at "r"
    rw [decide_eq_false (by decide)]
    refine iteF ?_
    refine Cc ?_
    walk_at "r"
    rw [decide_eq_false (by decide)]
    refine iteF ?_
    walk_at "r"
    refine .inl ⟨v,t,ks,fs,rfl,ht,hts,hz,hlk,fun u H1 s1 _=>?_⟩
    walk_at "r"
    refine ⟨_,rfl,?_⟩
    dsimp only [Hy]
    refine ⟨Bu,fun r hr1=>?_⟩
    walk_at "r"
    exact q r _ _ (s1.trans (Same.upd hr1)) Ad (fun e=>by cases e) (fun e=>by cases e)
  ·refine Fz ?_
   refine Cc ?_
   walk_at "r"
   rw [decide_eq_false (by decide)]
   refine iteF ?_
   refine Cc ?_
   walk_at "r"
   rw [decide_eq_false (by decide)]
   refine iteF ?_
   refine Cc ?_
   walk_at "r"
   rw [decide_eq_true (by decide)]
   refine iteT ?_
   walk_at "r"
   refine .inr ⟨v,t,ks,fs,c,pl,far,rest,rfl,ht,hts,hz,hlk,by rw [eb];exact hc,hbad,hpl,fun d H1 s1 e1=>⟨⟨N_NoPlace,rfl,sP⟩,fun a1 ha1=>?_⟩⟩
   walk_at "r"
   have s2:=s1.trans (Same.upd (o:=Ca a1 (.ref N_NoPlace) (some d)) ha1)
   refine .inr ⟨d,c,c,zs,rfl,Ad,Same.upd ha1 _ _ e1,s2.tup hc,s2.tup hc,hzl,fun p H3 s3 e3=>?_⟩
   walk_at "r"
   dsimp only [Ends.gone]
   walk_at "r"
   rw [decide_eq_false (show ¬ V.ref p=V.non from fun z=>by cases z)]
   walk_at "r"
   exact q p H3 (s2.trans s3) e3
noncomputable def Zep (K:Pk):Sp:=fun vs H Q _=>∃(a:Addr)(k:Int),vs=[.ref a,.int k]/\Script K H a/\0<=k/\∀ z:Int,Q (.int z) H
theorem Zqp:Bf ["_law_script", "_law_k"] ["_law_script", "_law_k"] (A0 Kz):=by walk_at "sc"
theorem Zjx {f:Addr}{fd:FuncData}(F:Fun K "_law_cell_at" "_law_cell_at" Kz f fd)(T:Txt K mg):As P w K mg base Az 1 f fd ["_law_script", "_law_k"] (Zep K):=by
 refine F.okq Zqp (fun vs H Q E h=>?_) (fun cdv A outer s H vs Q E hr h=>?_)
 ·obtain ⟨a,k,rfl,_⟩:=h
  rfl
 ·obtain ⟨a,k,rfl,S,h0,q⟩:=h
  obtain ⟨ns,hS,hl⟩:=S.ex
  refine ⟨_,Ae (Au (A8 Me (qv 1) (A9 (Ek K) (by rfl) T.len (by decide +kernel) (Aa (qv 0) Ab)) (A1 _)) (Af (Am (Ao K (qv 0) (qv 1)))) Aw)
   (Af (Am Ah)),?_⟩
  walk_at "r"
  refine Hr hS ?_
  walk_at "r"
  refine Bw (fun h=>?_) (fun h=>?_)
  ·have h1:k < (ns.map V.int).length:=by simpa using h
   obtain ⟨v,hv,m⟩:=Mo h0 h1
   obtain ⟨z,_,rfl⟩:=V8.mp m
   walk_at "r"
   exact Bl hS hv (q z)
  ·walk_at "r"
   exact q _
noncomputable def LETS:Str := "abcdefghijklmnopqrstuvwxyz_"
theorem Znk:LETS.cps.toList.length=27:=by decide +kernel
theorem Zkf:LETS.length<=sizeLine:=by decide +kernel
theorem Ziy (u v:Str):(u++v).length=u.length+v.length:=by
 show (u.cps++v.cps).size=_
 simp [Str.length]
theorem Zci (c:Nat):(⟨#[c]⟩:Str).length=1:=rfl
noncomputable def Zhg:Sp:=fun vs H Q _=>∃(a b:Int),vs=[.int a,.int b]/\∀(p:Addr)(t0 t1 t2 t3:Str)(H':Hp),Same H H'->H p=none->H' p=some (.lst [.str t0,.str t1,.str t2,.str t3])->Q (.ref p) H'
theorem Zrj:(["_law_k", "_law_primes", "_law_cell"]:List Str).Nodup:=by decide +kernel
theorem sc_law_names:Bf ["_law_cell", "_law_at", "_law_letters", "_law_primes", "_law_size", "_law_base", "_law_names_here", "_law_k", "_law_name", "_law_j"] ["_law_cell", "_law_at"] (A0 Kh):=by walk_at "sc"
theorem four {α:Type}{xs:List α}(h:xs.length=4):∃ a b c d,xs=[a,b,c,d]:=by
 match xs,h with
 | [a,b,c,d],_=>exact ⟨a,b,c,d,rfl⟩
noncomputable def PRI:List V:=[.int 1009,.int 1013,.int 1019,.int 1021,.int 1031,.int 1033,.int 1039,.int 1049]
theorem Zs6 {i:Int}(h0:0<=i)(h1:i < 8):∃ z:Int,B4 PRI i=some (.int z)/\0 < z/\z < 2000:=by
 obtain ⟨v,hv,m⟩:=Mo (xs:=PRI) (i:=i) h0 h1
 simp only [PRI,Pu,Qe,or_false] at m
 rcases m with rfl | rfl | rfl | rfl | rfl | rfl | rfl | rfl <;> exact ⟨_,hv,by decide,by decide⟩
noncomputable def NmJ (H:Hp)(a b:Int)(R D p:Addr)(ms:List Int)(j:Nat)(σ':St)(H':Hp):Prop:=∃(v7 v8 v9:Option V)(ts:List Str),σ'=[some (.int a),some (.int b),some (.str LETS),some (.ref R),some (.int (1+a % 8)),some (.ref D),some (.ref p),v7,v8,v9]/\H' D=some (.lst (ms.map V.int))/\H' p=some (.lst (ts.map V.str))/\ts.length=j/\Same H H'
theorem Zk3 {f:Addr}{fd:FuncData}(F:Fun K "_law_names" "_law_names" Kh f fd)(T:Txt K mg):As P w K mg base Az 1 f fd ["_law_cell", "_law_at"] Zhg:=by
 refine F.okq sc_law_names (fun vs H Q E h=>?_) (fun cdv A outer s H vs Q E hr h=>?_)
 ·obtain ⟨a,b,rfl,_⟩:=h
  rfl
 ·obtain ⟨a,b,rfl,q⟩:=h
  refine ⟨_,Ae (Aq 2 sc_law_names Av)
   (Ae (Zbe (i:=3) sc_law_names.nd rfl (Or.inr rfl) (Bh (Zey (xs:=[.int 1009,.int 1013,.int 1019,.int 1021,.int 1031,.int 1033,.int 1039,.int 1049]) rfl)))
   (Ae (Aq 4 sc_law_names (A7 (Cu K) Ah (A7 D5 (qv 0) Ah)))
   (Ae (N0 (i:=5) (N:=["_law_k", "_law_primes", "_law_cell"]) (σ0:=C7 1 [3,0]) rfl (E2 rfl (by decide +kernel) (by decide +kernel) (by decide +kernel)) (Kb rfl T.range (Aa (qv 4) Ab)) (Ew rfl (by rfl)) (fun _ _ _ _=>Ax (i:=0) Zrj rfl (Or.inl rfl)) (fun _ _ _ _=>Ge) (fun _ _ _ _=>A7 D5 (A7 D5 (A7 J7 (A7 Jc (qv 2) Ah) Ah) (Ao K (qv 1) (qv 0))) Ah) sc_law_names.nd rfl (Or.inl rfl))
   (Ae (Aq 6 sc_law_names (Bh Ab))
   (Ae (Cg Qf rfl (Kb rfl T.range (Aa Ah Ab)) (Ax (i:=7) sc_law_names.nd rfl (Or.inl rfl)) (Ae (Aq 8 sc_law_names Av)
   (Ae (Cg Qf rfl (Kb rfl T.range (Aa (qv 4) Ab)) (Ax (i:=9) sc_law_names.nd rfl (Or.inl rfl)) (Af (Aq 8 sc_law_names (A7 (Cu K) (qv 8) (Ao K (qv 2) (A7 D5 (A7 (Cu K) (Ao K (qv 5) (qv 9)) (A7 J7 (qv 7) (Ep Oy (by rfl) T.int (by decide +kernel) (Aa (Et (Bg K hr.u200) (qv 9) (A7 D5 (qv 1) (qv 4)) (A1 _)) Ab)))) Ah))))))
   (Ae (Au (A8 (Zag K) (qv 8) (Bh (Zey (xs:=[.str "let",.str "in",.str "if",.str "then",.str "else",.str "fn",.str "rec",.str "yes",.str "no"]) rfl)) (by rfl)) (Af (Aq 8 sc_law_names (A7 (Cu K) (qv 8) Av))) Aw)
   (Af (Cm (Dk K Qp Q9 Ra D4 (qv 6) (Aa (qv 8) Ab))))))))
   (Af (Am (qv 6)))))))),?_⟩
  have bg:=big
  have hs0:0<=a % 8:=Uk a (by decide)
  have hs1:a % 8 < 8:=Vi a (by decide)
  walk_at "r"
  refine ⟨sz8,fun R hR=>?_⟩
  have s0:Same H (upd H R (.lst [V.int 1009,V.int 1013,V.int 1019,V.int 1021,V.int 1031,V.int 1033,V.int 1039,V.int 1049])):=Same.upd hR
  have e0:upd H R (.lst [V.int 1009,V.int 1013,V.int 1019,V.int 1021,V.int 1031,V.int 1033,V.int 1039,V.int 1049]) R=some (.lst PRI):=Ad
  revert s0 e0
  generalize upd H R (.lst [V.int 1009,V.int 1013,V.int 1019,V.int 1021,V.int 1031,V.int 1033,V.int 1039,V.int 1049])=H0
  intro s0 e0
  walk_at "r"
  refine ⟨by omega,by omega,fun D hD=>?_⟩
  have nR:R≠D:=fun z=>by rw [z,hD] at e0;cases e0
  refine Ziz (Pv:=fun i ys σ' H'=>∃ kv ms,σ'=[kv,some (.ref R),some (.int a)]/\ys=ms.map V.int/\ms.length=i/\Same H0 H') ⟨none,[],rfl,rfl,rfl,Same.upd hD⟩ ?_ ?_
  ·rintro i ys σ' H' hi hys ⟨kv,ms,rfl,rfl,hl,hH⟩
   obtain ⟨z,hz,z0,z1⟩:=Zs6 (i:=0+(i:Int)) (by omega) (by omega)
   walk_at "r"
   refine Bl (SqL.of (hH _ _ e0)) hz ?_
   walk_at "r"
   refine s_rI z0 ?_
   walk_at "r"
   refine ⟨_,hys,by rw [Pw];omega,_,Ad,?_⟩
   exact ⟨_,ms++[_],rfl,by rw [Rn];rfl,by simp [hl],hH.over hD⟩
  ·rintro ys σ' H1 hys ⟨kv,ms,rfl,rfl,hl,hH⟩
   walk_at "r"
   refine ⟨Bs,fun p hp=>?_⟩
   have hpD:D≠p:=fun z=>by rw [z,hp] at hys;cases hys
   have hp1:H0 p=none:=hH.free hp
   have hp0:H p=none:=s0.free hp1
   have hys':upd H1 p (.lst []) D=some (.lst (ms.map V.int)):=by rw [Ag hpD];exact hys
   walk_at "r"
   refine ⟨by decide,by decide,?_⟩
   refine K8 (n:=4) (NmJ H a b R D p ms) ⟨_,_,_,[],rfl,hys',Ad,rfl,(s0.trans hH).put hp⟩ ?_ ?_
   ·rintro j σ' H2 hj ⟨v7,v8,v9,ts,rfl,hD2,hp2,hl2,sm2⟩
    walk_at "r"
    refine ⟨by omega,by omega,?_⟩
    refine K8 (n:=(1+a % 8).toNat) (fun k σ' H'=>∃ v9 t,σ'=[some (.int a),some (.int b),some (.str LETS),some (.ref R),some (.int (1+a % 8)),some (.ref D),some (.ref p),some (.int (0+j)),some (.str t),v9]/\t.length=k/\H'=H2) ⟨_,Str.empty,rfl,rfl,rfl⟩ ?_ ?_
    ·rintro k σ' H3 hk ⟨v9',t,rfl,hl3,rfl⟩
     obtain ⟨v,hv,m⟩:=Mo (xs:=ms.map V.int) (i:=0+(k:Int)) (by omega) (by rw [Pw];omega)
     obtain ⟨z,_,rfl⟩:=V8.mp m
     walk_at "r"
     refine Bl (SqL.of hD2) hv ?_
     walk_at "r"
     refine s_rI (by omega) ?_
     walk_at "r"
     refine s_mul_r (by split <;> decide) (by split <;> decide) ?_
     walk_at "r"
     obtain ⟨c,hc,_⟩:=Mo (xs:=LETS.cps.toList) (i:=(z+(0+(j:Int)) * (if decide (V.int (0+(k:Int))=V.int (b % (1+a % 8)))=true then 1 else 0)) % 27) (Uk _ (by decide)) (by rw [Znk];exact Vi _ (by decide))
     refine Zs5 Zkf hc ?_
     refine Zft (by rw [Zci];omega) ?_
     exact ⟨_,_,rfl,by rw [Ziy,Zci];omega,rfl⟩
    ·rintro σ' H3 ⟨v9',t,rfl,hl3,rfl⟩
     walk_at "r"
     refine ⟨sz9,fun p9 h9=>?_⟩
     refine Og (.inl (SqL.of Ad)) rfl rfl ?_
     have nD:D≠p9:=fun z=>by rw [z,h9] at hD2;cases hD2
     have np:p≠p9:=fun z=>by rw [z,h9] at hp2;cases hp2
     have hpU:∀ o,upd H3 p9 o p=some (.lst (ts.map V.str)):=fun o=>by rw [Ag np];exact hp2
     have hDU:∀ o,upd H3 p9 o D=some (.lst (ms.map V.int)):=fun o=>by rw [Ag nD];exact hD2
     have smU:∀ o,Same H (upd H3 p9 o):=fun o=>sm2.put h9
     have fin:∀(t':Str)(o:HO),NmJ H a b R D p ms (j+1) [some (.int a),some (.int b),some (.str LETS),some (.ref R),some (.int (1+a % 8)),some (.ref D),some (.ref p),some (.int (0+(j:Int))),some (.str t'),v9'] (upd (upd H3 p9 o) p (.lst (ts.map V.str++[.str t']))):=fun t' o =>
      ⟨_,_,_,ts++[t'],rfl,by rw [Ag hpD];exact hDU o,by rw [Ad,Rn];rfl,by simp [hl2],(smU o).over hp0⟩
     walk_at "r"
     refine Bw (fun _=>?_) (fun _=>?_)
     ·walk_at "r"
      have l1:(Q5 "_").length=1:=by decide +kernel
      refine Zft (by rw [l1];omega) ?_
      walk_at "r"
      refine Cf (SqL.of (hpU _)) ?_
      walk_at "r"
      refine Dd (hpU _) (by rw [Pw];omega) ?_
      exact fin _ _
     ·walk_at "r"
      refine Cf (SqL.of (hpU _)) ?_
      walk_at "r"
      refine Dd (hpU _) (by rw [Pw];omega) ?_
      exact fin _ _
   ·rintro σ' H2 ⟨v7,v8,v9,ts,rfl,hD2,hp2,hl2,sm2⟩
    obtain ⟨t0,t1,t2,t3,rfl⟩:=four hl2
    walk_at "r"
    exact q p _ _ _ _ _ sm2 hp0 hp2
structure GT (t:Tr):Prop where
 a:AT t
 s:TrSh t
theorem Ztc {w:Str}(h:w∈(["gap", "num", "name"]:List Str)):El w=0:=by
 simp only [Pu,Qe,or_false] at h
 rcases h with rfl | rfl | rfl <;> decide +kernel
theorem Zht {w:Str}{n:Dt}{ts:List Tr}(hw:C4 w n)(hl:ts.length=El w)(h:∀ t∈ts,GT t):GT (.mk w n ts):=⟨.mk hw hl fun t ht=>(h t ht).a,.mk hw fun t ht=>(h t ht).s⟩
theorem Znl (w:Str)(n:Dt):(Tr.mk w n []).size=1:=by rw [Tr.size,Bz]
noncomputable def Zfo (K:Pk):Sp:=fun vs H Q _=>∃(c:Int)(nm:Str),vs=[.int c,.str nm]/\∀(v:V)(t:Tr)(H':Hp),Same H H'->TrAt K H' v t->GT t->t.size=1->Q v H'
theorem Zm9:Bf ["_law_cell", "_law_name"] ["_law_cell", "_law_name"] (A0 Ju):=by walk_at "sc"
theorem Zpy {f:Addr}{fd:FuncData}(F:Fun K "_law_leaf" "_law_leaf" Ju f fd)(T:Txt K mg):As P w K mg base Az 1 f fd ["_law_cell", "_law_name"] (Zfo K):=by
 refine F.okq Zm9 (fun vs H Q E h=>?_) (fun cdv A outer s H vs Q E hr h=>?_)
 ·obtain ⟨c,nm,rfl,_⟩:=h
  rfl
 ·obtain ⟨c,nm,rfl,q⟩:=h
  refine ⟨_,Ae (Au (A8 (Bg K hr.u200) (A7 D5 (qv 0) Ah) Ah (A1 _)) (Af (Am (Ar (Aa Av (Aa Eh (Aa (Ar Ab) Ab)))))) Aw)
   (Ae (Au (A8 (Bg K hr.u200) (A7 D5 (qv 0) Ah) Ah (A1 _)) (Af (Am (Ar (Aa Av (Aa (A7 D5 (A7 Jc (qv 0) Ah) (A7 Zf0 Ah Ah)) (Aa (Ar Ab) Ab)))))) Aw)
   (Af (Am (Ar (Aa Av (Aa (qv 1) (Aa (Ar Ab) Ab))))))),?_⟩
  have bg:=big
  have leaf:∀(w:Str)(nv:V),w∈(["gap", "num", "name"]:List Str)->Cq nv=true->C4 w (.flat nv)->∀ p,H p=none->∀ p2,upd H p (.tup []) p2=none->Q (.ref p2) (upd (upd H p (.tup [])) p2 (.tup [.str w,nv,.ref p])):=by
   intro w nv hw hf hs p hp p2 hp2
   have s2:=Same.upd (o:=.tup [.str w,nv,.ref p]) hp2
   exact q _ (.mk w (.flat nv) []) _ ((Same.upd hp).trans s2) (.mk (SqT.of Ad) (.inl ⟨hf,rfl⟩) (SqT.of (s2 _ _ Ad)) rfl fun j v t e _=>by simp at e) (Zht hs (by rw [Ztc hw];rfl) fun t h=>nomatch h) (Znl _ _)
  have non:∀(w:Str)(nv:V),w = "gap" \/ w = "num" -> C4 w (.flat nv):=fun w nv h=>by
   rcases h with rfl | rfl <;> exact Fw (by decide +kernel) (by decide +kernel) (by decide +kernel) (by decide +kernel)
  walk_at "r"
  refine Bw (fun c=>?_) (fun c=>?_)
  ·walk_at "r"
   refine ⟨Bs,fun p hp=>?_⟩
   walk_at "r"
   refine ⟨B2,fun p2 hp2=>?_⟩
   exact leaf "gap" .non (by decide) rfl (non _ _ (.inl rfl)) p hp p2 hp2
  walk_at "r"
  refine Bw (fun c=>?_) (fun c=>?_)
  ·walk_at "r"
   refine ⟨Bs,fun p hp=>?_⟩
   walk_at "r"
   refine ⟨B2,fun p2 hp2=>?_⟩
   exact leaf "num" _ (by decide) rfl (non _ _ (.inr rfl)) p hp p2 hp2
  walk_at "r"
  refine ⟨Bs,fun p hp=>?_⟩
  walk_at "r"
  refine ⟨B2,fun p2 hp2=>?_⟩
  exact leaf "name" (.str nm) (by decide) rfl ⟨fun _=>⟨nm,rfl⟩,fun h=>absurd h (by decide +kernel)⟩ p hp p2 hp2
theorem Zmv {H:Hp}{w:Str}{nv:V}{us:List V}{ts:List Tr}{p p2:Addr}(hn:Cq nv=true)(hl:us.length=ts.length)(h:∀(j:Nat)(v:V)(t:Tr),us[j]?=some v->ts[j]?=some t->TrAt K H v t)(hp:H p=none)(hp2:upd H p (.tup us) p2=none):Same H (upd (upd H p (.tup us)) p2 (.tup [.str w,nv,.ref p]))/\TrAt K (upd (upd H p (.tup us)) p2 (.tup [.str w,nv,.ref p])) (.ref p2) (.mk w (.flat nv) ts):=by
 have s2:=Same.upd (o:=.tup [.str w,nv,.ref p]) hp2
 have sA:=(Same.upd (o:=.tup us) hp).trans s2
 exact ⟨sA,.mk (SqT.of Ad) (.inl ⟨hn,rfl⟩) (SqT.of (s2 _ _ Ad)) hl fun j v t h1 h2=>(h j v t h1 h2).same sA⟩
noncomputable def Zhd (K:Pk):Sp:=fun vs H Q _=>∃(many:Nat)(c:Int)(nm:Str),vs=[.int (many:Nat),.int c,.str nm]/\1<=many/\many<=100/\∀(v:V)(t:Tr)(H':Hp),Same H H'->TrAt K H' v t->GT t->t.size=many->Q v H'
theorem Ds:Bf ["_law_many", "_law_cell", "_law_name", "_law_tree", "_law_size", "_law_turn", "_law_leaf_here"] ["_law_many", "_law_cell", "_law_name"] (A0 K6):=by walk_at "sc"
theorem Zor {f:Addr}{fd:FuncData}(F:Fun K "_law_grown" "_law_grown" K6 f fd)(T:Txt K mg)(C__law_leaf:Ba P w K mg base 1 "_law_leaf" ["_law_cell", "_law_name"] (Zfo K)):As P w K mg base Az 2 f fd ["_law_many", "_law_cell", "_law_name"] (Zhd K):=by
 refine F.okq Ds (fun vs H Q E h=>?_) (fun cdv A outer s H vs Q E hr h=>?_)
 ·obtain ⟨many,c,nm,rfl,_⟩:=h
  rfl
 ·obtain ⟨many,c,nm,rfl,m1,m2,q⟩:=h
  refine ⟨_,Ae (Aq 3 Ds (Ay C__law_leaf hr.m (Aa (qv 1) (Aa (qv 2) Ab))))
   (Ae (Aq 4 Ds Ah)
   (Ae (Jd Qf (A8 Me (qv 4) (qv 0) (A1 _)) (Ae (Aq 5 Ds (A7 Jc (A7 D5 (A7 (Cu K) (qv 1) (A7 J7 Ah (qv 4))) Ah) Ah))
   (Ae (Aq 6 Ds (Ay C__law_leaf hr.m (Aa (A7 (Cu K) (A7 Jc (qv 1) Ah) (qv 4)) (Aa (qv 2) Ab))))
   (Af (Au (QW.qt (Pi (A8 (Bg K hr.u200) (A7 Zbs (qv 0) (qv 4)) Ah (A1 _)) (Zak (A8 (Bg K hr.u200) (qv 5) Ah (A1 _))))) (Ae (Aq 3 Ds (Ar (Aa Av (Aa (qv 2) (Aa (Ar (Aa (qv 3) Ab)) Ab)))))
   (Af (Aq 4 Ds (A7 (Cu K) (qv 4) Ah)))) (Af (Au (QW.qt (Pi (A8 (Bg K hr.u200) (A7 Zbs (qv 0) (qv 4)) Ah (A1 _)) (Zak (A8 (Bg K hr.u200) (qv 5) Ah (A1 _))))) (Ae (Aq 3 Ds (Ar (Aa Av (Aa Eh (Aa (Ar (Aa (qv 3) (Aa (qv 6) Ab))) Ab)))))
   (Af (Aq 4 Ds (A7 (Cu K) (qv 4) Ah)))) (Af (Au (A8 (Bg K hr.u200) (qv 5) Ah (A1 _)) (Ae (Aq 3 Ds (Ar (Aa Av (Aa Eh (Aa (Ar (Aa (qv 6) (Aa (qv 3) Ab))) Ab)))))
   (Af (Aq 4 Ds (A7 (Cu K) (qv 4) Ah)))) (Ae (Aq 3 Ds (Ar (Aa Av (Aa Eh (Aa (Ar (Aa (qv 6) (Aa (qv 3) (Aa (qv 6) Ab)))) Ab)))))
   (Af (Aq 4 Ds (A7 (Cu K) (qv 4) Ah)))))))))))))
   (Af (Am (qv 3))))),?_⟩
  have bg:=big
  walk_at "r"
  refine ⟨c,nm,rfl,fun v0 t0 H0 s0 h0 g0 z0=>?_⟩
  walk_at "r"
  refine ⟨fun n σ' H'=>∃(tv:V)(t:Tr)(v5 v6:Option V),σ'=[some (.int (many:Nat)),some (.int c),some (.str nm),some tv,some (.int (t.size:Nat)),v5,v6]/\TrAt K H' tv t/\GT t/\n+t.size=many/\Same H H',⟨many - 1,v0,t0,none,none,by rw [z0];rfl,h0,g0,by omega,s0⟩,?_⟩
  rintro n σ' H1 ⟨tv,t,v5,v6,rfl,ht,hg,hn,s1⟩
  walk_at "r"
  by_cases e:t.size < many
  ·rw [decide_eq_true (show ((t.size:Nat):Int) < (many:Nat) by omega)]
   refine iteT ?_
   refine ⟨fun σ2 H2=>∃ n',n' < n/\∃(tv:V)(t:Tr)(v5 v6:Option V),σ2=[some (.int (many:Nat)),some (.int c),some (.str nm),some tv,some (.int (t.size:Nat)),v5,v6]/\TrAt K H2 tv t/\GT t/\n'+t.size=many/\Same H H2,fun _ _ h=>h,?_⟩
   walk_at "r"
   refine ⟨_,nm,rfl,fun lv lt H2 s2 hlt hlg hlz=>?_⟩
   have ht2:=ht.same s2
   have s12:=s1.trans s2
   have gr:∀(w:Str)(nv:V)(us:List V)(ts:List Tr)(k:Nat)(z:Int),Cq nv=true->us.length=ts.length->(∀(j:Nat)(v:V)(t:Tr),us[j]?=some v->ts[j]?=some t->TrAt K H2 v t)->C4 w (.flat nv)->ts.length=El w->(∀ x∈ts,GT x)->(Tr.mk w (.flat nv) ts).size=t.size+k->1<=k->t.size+k<=many->z=((t.size+k:Nat):Int) ->
     ∀ p,H2 p=none->∀ p2,upd H2 p (.tup us) p2=none->∃ n',n' < n/\∃(tw:V)(u:Tr)(v5' v6':Option V),[some (V.int (many:Nat)),some (.int c),some (.str nm),some (.ref p2),some (.int z),some (.int ((c+7919 * (t.size:Nat)) % 11 / 3)),some lv]=[some (V.int (many:Nat)),some (.int c),some (.str nm),some tw,some (.int (u.size:Nat)),v5',v6']/\TrAt K (upd (upd H2 p (.tup us)) p2 (.tup [.str w,nv,.ref p])) tw u/\GT u/\n'+u.size=many/\Same H (upd (upd H2 p (.tup us)) p2 (.tup [.str w,nv,.ref p])):=by
    intro w nv us ts k z h1 h2 h3 h4 h5 h6 h7 h8 h9 h10 p hp p2 hp2
    obtain ⟨k1,k2⟩:=Zmv (K:=K) (w:=w) (nv:=nv) h1 h2 h3 hp hp2
    exact ⟨n - k,by omega,_,_,_,_,by rw [h10,h7],k2,Zht h4 h5 h6,by rw [h7];omega,s12.trans k1⟩
   have two:∀(u v:V)(x y:Tr),TrAt K H2 u x->TrAt K H2 v y->∀(j:Nat)(v':V)(t':Tr),[u,v][j]?=some v'->[x,y][j]?=some t'->TrAt K H2 v' t':=fun u v x y hx hy j v' t' h1 h2=>by
    match j,h1,h2 with
    | 0,h1,h2=>cases h1;cases h2;exact hx
    | 1,h1,h2=>cases h1;cases h2;exact hy
   have non:∀ w:Str,w = "plus" \/ w = "less" \/ w = "if" -> C4 w (.flat .non):=fun w h=>by
    rcases h with rfl | rfl | rfl <;> exact Fw (by decide +kernel) (by decide +kernel) (by decide +kernel) (by decide +kernel)
   have fnS:=gr "fn" (.str nm) [tv] [t] 1 ((t.size:Nat)+1) rfl rfl (fun j v t' h1 h2=>by
     match j,h1,h2 with
     | 0,h1,h2=>cases h1;cases h2;exact ht2) ⟨fun _=>⟨nm,rfl⟩,fun h=>absurd h (by decide +kernel)⟩ (show 1=El "fn" by decide +kernel) (by simpa using hg) (by simp [Tr.size,Bz];omega) (by omega) (by omega) rfl
   have plS:=fun (e2:t.size+2<=many)=>gr "plus" .non [tv,lv] [t,lt] 2 ((t.size:Nat)+2) rfl rfl (two _ _ _ _ ht2 hlt) (non _ (.inl rfl)) (show 2=El "plus" by decide +kernel) (fun x hx=>by
     simp only [Pu,Qe,or_false] at hx
     rcases hx with rfl | rfl <;> assumption) (by simp [Tr.size,Bz];omega) (by omega) e2 rfl
   have leS:=fun (e2:t.size+2<=many)=>gr "less" .non [lv,tv] [lt,t] 2 ((t.size:Nat)+2) rfl rfl (two _ _ _ _ hlt ht2) (non _ (.inr (.inl rfl))) (show 2=El "less" by decide +kernel) (fun x hx=>by
     simp only [Pu,Qe,or_false] at hx
     rcases hx with rfl | rfl <;> assumption) (by simp [Tr.size,Bz];omega) (by omega) e2 rfl
   have ifS:=fun (e2:t.size+3<=many)=>gr "if" .non [lv,tv,lv] [lt,t,lt] 3 ((t.size:Nat)+3) rfl rfl (fun j v' t' h1 h2=>by
    match j,h1,h2 with
    | 0,h1,h2=>cases h1;cases h2;exact hlt
    | 1,h1,h2=>cases h1;cases h2;exact ht2
    | 2,h1,h2=>cases h1;cases h2;exact hlt) (non _ (.inr (.inr rfl))) (show 3=El "if" by decide +kernel) (fun x hx=>by
     simp only [Pu,Qe,or_false] at hx
     rcases hx with rfl | rfl | rfl <;> assumption) (by simp [Tr.size,Bz];omega) (by omega) e2 rfl
   have ne:∀ k:Int,¬ decide (V.int ((many:Nat) - (t.size:Nat))=V.int k)=true->((many:Nat):Int) - (t.size:Nat)≠k:=fun k h z=>h (by rw [z];simp)
   walk_at "r"
   refine Bw (fun c1=>?_) (fun c1=>?_)
   ·refine iteT ?_
    walk_at "r"
    refine ⟨B5,fun p hp=>?_⟩
    walk_at "r"
    refine ⟨B2,fun p2 hp2=>?_⟩
    walk_at "r"
    exact fnS p hp p2 hp2
   walk_at "r"
   refine Bw (fun c2=>?_) (fun c2=>?_)
   ·walk_at "r"
    refine ⟨B5,fun p hp=>?_⟩
    walk_at "r"
    refine ⟨B2,fun p2 hp2=>?_⟩
    walk_at "r"
    exact fnS p hp p2 hp2
   have n1:=ne 1 c1
   have e2:t.size+2<=many:=by omega
   walk_at "r"
   refine Bw (fun c3=>?_) (fun c3=>?_)
   ·refine iteT ?_
    walk_at "r"
    refine ⟨Bu,fun p hp=>?_⟩
    walk_at "r"
    refine ⟨B2,fun p2 hp2=>?_⟩
    walk_at "r"
    exact plS e2 p hp p2 hp2
   walk_at "r"
   refine Bw (fun c4=>?_) (fun c4=>?_)
   ·walk_at "r"
    refine ⟨Bu,fun p hp=>?_⟩
    walk_at "r"
    refine ⟨B2,fun p2 hp2=>?_⟩
    walk_at "r"
    exact plS e2 p hp p2 hp2
   have n2:=ne 2 c3
   walk_at "r"
   refine Bw (fun c5=>?_) (fun c5=>?_)
   ·walk_at "r"
    refine ⟨Bu,fun p hp=>?_⟩
    walk_at "r"
    refine ⟨B2,fun p2 hp2=>?_⟩
    walk_at "r"
    exact leS e2 p hp p2 hp2
   walk_at "r"
   refine ⟨B2,fun p hp=>?_⟩
   walk_at "r"
   refine ⟨B2,fun p2 hp2=>?_⟩
   walk_at "r"
   exact ifS (by omega) p hp p2 hp2
  ·rw [decide_eq_false (show ¬ ((t.size:Nat):Int) < (many:Nat) by omega)]
   walk_at "r"
   exact q tv t H1 s1 ht hg (by omega)
theorem Zf7:smallT.size<=40:=by decide +kernel
theorem Zhe:TrSh smallT:=.mk (Fw (by decide +kernel) (by decide +kernel) (by decide +kernel) (by decide +kernel)) fun t h=>by
 rcases Pu.mp h with rfl | h
 ·exact .mk (Fw (by decide +kernel) (by decide +kernel) (by decide +kernel) (by decide +kernel)) fun t h=>nomatch h
 ·rw [Qi.mp h]
  exact .mk (Fw (by decide +kernel) (by decide +kernel) (by decide +kernel) (by decide +kernel)) fun t h=>nomatch h
theorem M6 {H:Hp}{r:Addr}{u:V}{d:Dt}{n:Nat}(h:H r=some (.tup [.str "found",u]))(hd:IsD K H n u d):IsD K H (n+1) (.ref r) (.tup [.flat (.str "found"),d]):=by
 refine .tup (SqT.of h) rfl fun j v t h h'=>?_
 match j,h,h' with
 | 0,h,h'=>cases h;cases h';exact .flat rfl
 | 1,h,h'=>cases h;cases h';exact hd
theorem Zhj {H:Hp}{r:Addr}(h:SqT K H r [.str "num"]):IsD K H 1 (.ref r) (.tup [.flat (.str "num")]):=by
 refine .tup h rfl fun j v t h h'=>?_
 match j,h,h' with
 | 0,h,h'=>cases h;cases h';exact .flat rfl
theorem Zh6 {d:Dt}(h:Ga d):∀ e∈[Dt.flat (.str "found"),d],Ga e:=fun e he=>by
 rcases Pu.mp he with rfl | he
 ·exact .flat _
 ·rw [Qi.mp he]
  exact h
theorem Zsw {H:Hp}{a b c d e g:Addr}(ha:H a=some (.tup [.str "plus",.non,.ref b]))(hb:H b=some (.tup [.ref c,.ref e]))(hc:H c=some (.tup [.str "num",.int 1,.ref d]))(hd:H d=some (.tup []))(he:H e=some (.tup [.str "gap",.non,.ref g]))(hg:H g=some (.tup [])):TrAt K H (.ref a) smallT:=by
 have h1:TrAt K H (.ref c) Hw:=.mk (SqT.of hc) (.inl ⟨rfl,rfl⟩) (SqT.of hd) rfl fun j v t e _=>by simp at e
 have h2:TrAt K H (.ref e) gapT:=TrAt.gap (SqT.of he) (SqT.of hg)
 refine .mk (SqT.of ha) (.inl ⟨rfl,rfl⟩) (SqT.of hb) rfl fun j v t h h'=>?_
 match j,h,h' with
 | 0,h,h'=>cases h;cases h';exact h1
 | 1,h,h'=>cases h;cases h';exact h2
noncomputable def Eb (x:Str)(many:Nat):Str:=if 40 < many then "big" else x
theorem Zee (x:Str)(many:Nat):B4 [V.str x,V.str "big"] (if decide ((40:Int) < (many:Nat))=true then 1 else 0)=some (.str (Eb x many)):=by
 unfold Eb
 by_cases h:40 < many
 ·rw [if_pos (decide_eq_true (by omega)),if_pos h]
  rfl
 ·rw [if_neg (by rw [decide_eq_true_eq];omega),if_neg h]
  rfl
theorem Zka {H:Hp}{t:Tr}{many k:Nat}{c:Addr}{Q:VK}(hg:GT t)(hz:t.size=many)(m:many<=50)(hc:H c=some (.tup []))(q:∀(r:Addr)(xs:List V)(H':Hp),Same H H'->H' r=some (.tup (.str (Eb "found" many)::xs))->Q (.ref r) H'):AnB K H t Q\/AnF K H k t c Q\/AnP K H k t c Q:=by
 by_cases h:40 < many
 ·exact .inl ⟨by omega,by omega,fun r H' s e=>q r [] H' s (by rw [e,Eb,if_pos h])⟩
 ·obtain ⟨ks,fs,hl⟩:=Zgx hg.a (by omega)
  exact .inr (.inl ⟨by omega,hg.s,ks,fs,hl,hc,fun r u H' s e _ _=>q r [u] H' s (by rw [e,Eb,if_neg h])⟩)
theorem Zkm {H:Hp}{t:Tr}{many:Nat}{c:Addr}{far:Int}{Q:VK}(hg:GT t)(hz:t.size=many)(m:many<=50)(hc:H c=some (.tup [.int 0,.int 0,.int 0,.int far]))(hf:3<=far)(q:∀(r:Addr)(xs:List V)(H':Hp),Same H H'->H' r=some (.tup (.str (Eb "place" many)::xs))->Q (.ref r) H'):AnB K H t Q\/AnF K H 2 t c Q\/AnP K H 2 t c Q:=by
 by_cases h:40 < many
 ·exact .inl ⟨by omega,by omega,fun r H' s e=>q r [] H' s (by rw [e,Eb,if_pos h])⟩
 ·obtain ⟨ks,fs,hl⟩:=Zgx hg.a (by omega)
  obtain ⟨pl,fr,rest,h1,h2,h3,h4⟩:=Zej 3 t hg.a far hf
  have e:Ez pl fr rest=[(0:Int),0,0,far].map V.int:=h1.symm
  exact .inr (.inr ⟨rfl,by omega,hg.s,ks,fs,hl,pl,fr,rest,[0,0,0,far],e,SqT.of hc,h2,by omega,by show 4<=1000;decide,fun r H' s e=>q r [] H' s (by rw [e,Eb,if_neg h])⟩)
noncomputable def Zh7 (K:Pk):Sp:=fun vs H Q _=>∃(a:Addr)(ns:List Int),vs=[.ref a]/\SqL K H a (ns.map V.int)/\ns.length<=63/\∀ H',Q (.bl true) H'
theorem sc_law:Bf ["_law_script", "_law_names_here", "_law_many", "_law_tree", "_law_lost", "_law_turn", "_law_found", "_law_small"] ["_law_script"] (A0 Jx):=by walk_at "sc"
theorem Zi7 {f:Addr}{fd:FuncData}(F:Fun K "law" "law" Jx f fd)(T:Txt K mg)(C__law_cell_at:Ba P w K mg base 1 "_law_cell_at" ["_law_script", "_law_k"] (Zep K))(C__law_names:Ba P w K mg base 1 "_law_names" ["_law_cell", "_law_at"] Zhg)(C__law_grown:Ba P w K mg base 2 "_law_grown" ["_law_many", "_law_cell", "_law_name"] (Zhd K))(C__law_answer:Ba P w K mg base 11 "_law_answer" ["_law_turn", "_law_tree", "_law_place"] (Zg5 K))(C__law_same:Ba P w K mg base 8 "_law_same" ["_law_found", "_law_due"] (Hq K 7)):As P w K mg base Az 12 f fd ["_law_script"] (Zh7 K):=by
 refine F.okq sc_law (fun vs H Q E h=>?_) (fun cdv A outer s H vs Q E hr h=>?_)
 ·obtain ⟨a,ns,rfl,_⟩:=h
  rfl
 ·obtain ⟨a,ns,rfl,hS,hl,q⟩:=h
  have S:Script K H a:=⟨ns,hS,hl⟩
  refine ⟨_,Ae (Aq 1 sc_law (Ay C__law_names hr.m (Aa (Ay C__law_cell_at hr.m (Aa (qv 0) (Aa Ah Ab))) (Aa (Ay C__law_cell_at hr.m (Aa (qv 0) (Aa Ah Ab))) Ab))))
   (Ae (Aq 2 sc_law (A7 (Cu K) Ah (A7 D5 (A7 Jc (Ay C__law_cell_at hr.m (Aa (qv 0) (Aa Ah Ab))) Ah) Ah)))
   (Ae (Au (A8 (Bg K hr.u200) (A7 D5 (Ay C__law_cell_at hr.m (Aa (qv 0) (Aa Ah Ab))) Ah) Ah (A1 _)) (Af (Aq 2 sc_law (A7 (Cu K) Ah (A7 D5 (A7 Jc (Ay C__law_cell_at hr.m (Aa (qv 0) (Aa Ah Ab))) Ah) Ah)))) Aw)
   (Ae (Aq 3 sc_law (Ay C__law_grown hr.m (Aa (qv 2) (Aa (Ay C__law_cell_at hr.m (Aa (qv 0) (Aa Ah Ab))) (Aa (Ao K (qv 1) Ah) Ab)))))
   (Ae (Aq 4 sc_law (Ar (Aa Ah (Aa Ah (Aa Ah (Aa (A7 (Cu K) Ah (A7 D5 (Ay C__law_cell_at hr.m (Aa (qv 0) (Aa Ah Ab))) (A7 Zf0 Ah Ah))) Ab))))))
   (Ae (Cg Qf rfl (Kb rfl T.range (Aa Ah Ab)) (Ax (i:=5) sc_law.nd rfl (Or.inl rfl)) (Ae (Aq 6 sc_law (Ao K (Ay C__law_answer hr.m (Aa (qv 5) (Aa (qv 3) (Aa (Ar Ab) Ab)))) Ah))
   (Af (Au (A8 (Kk K hr.u200) (qv 6) (Ao K (Bh (Aa Av (Aa Av Ab))) (Ep Oy (by rfl) T.int (by decide +kernel) (Aa (Et Nk (qv 2) Ah (A1 _)) Ab))) (A1 _)) (Af (Am Ct)) Aw))))
   (Ae (Au (A8 (Kk K hr.u200) (Ao K (Ay C__law_answer hr.m (Aa Ah (Aa (qv 3) (Aa (qv 4) Ab)))) Ah) (Ao K (Bh (Aa Av (Aa Av Ab))) (Ep Oy (by rfl) T.int (by decide +kernel) (Aa (Et Nk (qv 2) Ah (A1 _)) Ab))) (A1 _)) (Af (Am Ct)) Aw)
   (Ae (Aq 7 sc_law (Ar (Aa Av (Aa Eh (Aa (Ar (Aa (Ar (Aa Av (Aa Ah (Aa (Ar Ab) Ab)))) (Aa (Ar (Aa Av (Aa Eh (Aa (Ar Ab) Ab)))) Ab))) Ab)))))
   (Ae (Au (Dv (B0 (Ay C__law_same hr.m (Aa (Ay C__law_answer hr.m (Aa Ah (Aa (qv 7) (Aa (Ar Ab) Ab)))) (Aa (Ar (Aa Av (Aa (Bh Ab) Ab))) Ab))))) (Af (Am Ct)) Aw)
   (Af (Am (Ay C__law_same hr.m (Aa (Ay C__law_answer hr.m (Aa Ah (Aa (qv 7) (Aa (Ar Ab) Ab)))) (Aa (Ar (Aa Av (Aa (Ar (Aa Av Ab)) Ab))) Ab))))))))))))),?_⟩
  have bg:=big
  walk_at "r"
  refine ⟨a,0,rfl,S,by decide,fun z0=>?_⟩
  walk_at "r"
  refine ⟨a,1,rfl,S,by decide,fun z1=>?_⟩
  walk_at "r"
  refine ⟨z0,z1,rfl,fun pn t0 t1 t2 t3 H1 s1 hpn e1=>?_⟩
  walk_at "r"
  refine ⟨a,2,rfl,S.same s1,by decide,fun z2=>?_⟩
  have b0:0<=z2 / 2 % 20:=Uk _ (by decide)
  have b1:z2 / 2 % 20 < 20:=Vi _ (by decide)
  iterate 7 walk_at "r1"
  refine N3 (t:=Nm _ _ _) (R:=fun σ' H'=>H'=H1/\∃ many:Nat,31<=many/\many<=50/\σ'=[some (.ref a),some (.ref pn),some (.int (many:Nat)),none,none,none,none,none]) ?_ ?_
  ·intro Y hY
   walk_at "r"
   refine ⟨a,2,rfl,S.same s1,by decide,fun z3=>?_⟩
   walk_at "r"
   refine Bw (fun _=>?_) (fun _=>?_)
   ·walk_at "r"
    refine ⟨a,2,rfl,S.same s1,by decide,fun z4=>?_⟩
    have b2:0<=z4 / 2 % 4:=Uk _ (by decide)
    have b3:z4 / 2 % 4 < 4:=Vi _ (by decide)
    walk_at "r"
    refine hY _ _ ⟨rfl,(39+z4 / 2 % 4).toNat,by omega,by omega,?_⟩
    rw [show (((39+z4 / 2 % 4).toNat:Nat):Int)=39+z4 / 2 % 4 by omega]
    rfl
   ·walk_at "r"
    refine hY _ _ ⟨rfl,(31+z2 / 2 % 20).toNat,by omega,by omega,?_⟩
    rw [show (((31+z2 / 2 % 20).toNat:Nat):Int)=31+z2 / 2 % 20 by omega]
    rfl
  ·rintro _ _ ⟨rfl,many,m1,m2,rfl⟩
   walk_at "r"
   refine ⟨a,3,rfl,S.same s1,by decide,fun z5=>?_⟩
   walk_at "r"
   refine Bl (SqL.of e1) (v:=.str t0) rfl ?_
   walk_at "r"
   refine ⟨many,z5,t0,rfl,by omega,by omega,fun v t H2 s2 ht hg hz=>?_⟩
   have s12:=s1.trans s2
   walk_at "r"
   refine ⟨a,4,rfl,S.same s12,by decide,fun z6=>?_⟩
   walk_at "r"
   have c0:3<=3+z6 % 10 ^ Int.toNat 6:=by
    have:0<=z6 % 10 ^ Int.toNat 6:=Uk _ (by decide)
    omega
   revert c0
   generalize 3+z6 % 10 ^ Int.toNat 6=far
   intro c0
   refine ⟨sz4,fun p hp=>?_⟩
   obtain ⟨H3,s3,e3,z9⟩:=Dc hp (.tup [.int 0,.int 0,.int 0,.int far])
   rw [z9]
   have ht3:=ht.same s3
   walk_at "r"
   refine ⟨by decide,by decide,?_⟩
   refine K8 (n:=4) (fun j σ' H'=>∃ v5 v6,σ'=[some (.ref a),some (.ref pn),some (.int (many:Nat)),some v,some (.ref p),v5,v6,none]/\Same H3 H') ⟨none,none,rfl,Same.refl _⟩ ?_ ?_
   ·rintro j _ H4 hj ⟨v5,v6,rfl,s4⟩
    walk_at "r"
    refine ⟨Bs,fun p4 hp4=>?_⟩
    walk_at "r"
    refine ⟨j,v,t,p4,by rw [Int.zero_add];rfl,hj,(ht3.same s4).same (Same.upd hp4),Zka hg hz m2 Ad fun r xs H5 s5 e5=>?_⟩
    walk_at "r"
    refine A4 (SqT.of e5) (v:=.str (Eb "found" many)) (Df (j:=0) rfl) ?_
    walk_at "r"
    refine ⟨Bu,fun p6 hp6=>?_⟩
    walk_at "r"
    refine Bl (SqL.of Ad) (v:=.str (Eb "found" many)) (Zee _ _) ?_
    walk_at "r"
    rw [decide_eq_true rfl]
    walk_at "r"
    exact ⟨_,_,rfl,((s4.trans (Same.upd hp4)).trans s5).trans (Same.upd hp6)⟩
   ·rintro _ H4 ⟨v5,v6,rfl,s4⟩
    walk_at "r"
    refine ⟨2,v,t,p,rfl,by decide,ht3.same s4,Zkm hg hz m2 (s4 _ _ e3) c0 fun r xs H5 s5 e5=>?_⟩
    walk_at "r"
    refine A4 (SqT.of e5) (v:=.str (Eb "place" many)) (Df (j:=0) rfl) ?_
    walk_at "r"
    refine ⟨Bu,fun p6 hp6=>?_⟩
    walk_at "r"
    refine Bl (SqL.of Ad) (v:=.str (Eb "place" many)) (Zee _ _) ?_
    walk_at "r"
    rw [decide_eq_true rfl]
    walk_at "r"
    generalize upd H5 p6 (.lst [.str "place",.str "big"])=G0
    refine ⟨Bs,fun g1 i1=>?_⟩
    obtain ⟨G1,w1,x1,z9⟩:=Dc i1 (.tup [])
    rw [z9]
    walk_at "r"
    refine ⟨B2,fun g2 i2=>?_⟩
    obtain ⟨G2,w2,x2,z9⟩:=Dc i2 (.tup [.str "num",.int 1,.ref g1])
    rw [z9]
    replace x1:=w2 _ _ x1
    walk_at "r"
    refine ⟨Bs,fun g3 i3=>?_⟩
    obtain ⟨G3,w3,x3,z9⟩:=Dc i3 (.tup [])
    rw [z9]
    replace x1:=w3 _ _ x1
    replace x2:=w3 _ _ x2
    walk_at "r"
    refine ⟨B2,fun g4 i4=>?_⟩
    obtain ⟨G4,w4,x4,z9⟩:=Dc i4 (.tup [.str "gap",.non,.ref g3])
    rw [z9]
    replace x1:=w4 _ _ x1
    replace x2:=w4 _ _ x2
    replace x3:=w4 _ _ x3
    walk_at "r"
    refine ⟨Bu,fun g5 i5=>?_⟩
    obtain ⟨G5,w5,x5,z9⟩:=Dc i5 (.tup [.ref g2,.ref g4])
    rw [z9]
    replace x1:=w5 _ _ x1
    replace x2:=w5 _ _ x2
    replace x3:=w5 _ _ x3
    replace x4:=w5 _ _ x4
    walk_at "r"
    refine ⟨B2,fun g6 i6=>?_⟩
    obtain ⟨G6,w6,x6,z9⟩:=Dc i6 (.tup [.str "plus",.non,.ref g5])
    rw [z9]
    replace x1:=w6 _ _ x1
    replace x2:=w6 _ _ x2
    replace x3:=w6 _ _ x3
    replace x4:=w6 _ _ x4
    replace x5:=w6 _ _ x5
    walk_at "r"
    have hs:TrAt K G6 (.ref g6) smallT:=Zsw x6 x5 x2 x1 x4 x3
    refine ⟨Bs,fun p7 n7=>?_⟩
    walk_at "r"
    refine ⟨1,.ref g6,smallT,p7,rfl,by decide,hs.same (Same.upd n7),.inr (.inl ⟨Zf7,Zhe,_,_,Zfp,Ad,fun r u H7 s7 e7 hk1 _=>?_⟩)⟩
    obtain ⟨p8,rows,rfl,e8,al⟩:=hk1 rfl
    rw [Zk9] at al
    have er:rows=[]:=Rr al.1
    subst er
    have hs7:=(hs.same (Same.upd n7)).same s7
    walk_at "r"
    refine ⟨Bs,fun p9 n9=>?_⟩
    walk_at "r"
    refine ⟨Bu,fun q1 m1=>?_⟩
    walk_at "r"
    have sa:Same H7 (upd (upd H7 p9 (.lst [])) q1 (.tup [.str "found",.ref p9])):=(Same.upd n9).trans (Same.upd m1)
    refine ⟨.ref r,.ref q1,.tup [.flat (.str "found"),.lst []],2,rfl,by decide,M6 (sa _ _ e7) (.lst (SqL.of (sa _ _ e8)) rfl fun j v d h=>by simp at h),M6 Ad (.lst (SqL.of (Same.upd m1 _ _ Ad)) rfl fun j v d h=>by simp at h),.tup (by show 2<=5000;decide) (Zh6 (.lst (by show 0<=5000;decide) fun d h=>nomatch h)),fun H8 s8=>?_⟩
    have hs8:=(hs7.same sa).same s8
    walk_at "r"
    refine ⟨Bs,fun p9 n9=>?_⟩
    walk_at "r"
    refine ⟨2,.ref g6,smallT,p9,rfl,by decide,hs8.same (Same.upd n9),.inr (.inl ⟨Zf7,Zhe,_,_,Zfp,Ad,fun r u H9 s9 e9 _ hk2=>?_⟩)⟩
    obtain ⟨rw,hw,hw1,hw2⟩:=hk2 rfl
    rw [Zin hw hw1] at hw2
    cases hw2 with
    | num qn =>
     walk_at "r"
     refine ⟨B5,fun q3 m3=>?_⟩
     walk_at "r"
     refine ⟨Bu,fun q4 m4=>?_⟩
     walk_at "r"
     have sa:Same H9 (upd (upd H9 q3 (.tup [.str "num"])) q4 (.tup [.str "found",.ref q3])):=(Same.upd m3).trans (Same.upd m4)
     refine ⟨.ref r,.ref q4,.tup [.flat (.str "found"),.tup [.flat (.str "num")]],2,rfl,by decide,M6 (sa _ _ e9) (Zhj (sa.t.tup qn)),M6 Ad (Zhj (SqT.of (Same.upd m4 _ _ Ad))),.tup (by show 2<=5000;decide) (Zh6 (.tup (by show 1<=5000;decide) fun d h=>by rw [Qi.mp h];exact .flat _)),fun H8 s8=>?_⟩
     walk_at "r"
     exact q _
theorem Zjt:Bf ["shapes", "shape"] ["shapes", "shape"] (A0 Ko):=by walk_at "sc"
theorem Zkg {f:Addr}{fd:FuncData}(F:Fun K "new_kind" "new_kind" Ko f fd)(T:Txt K mg):As P w K mg base Az 1 f fd ["shapes", "shape"] Zdr:=by
 refine F.okq Zjt (fun vs H Q E h=>?_) (fun cdv A outer s H vs Q E hr h=>?_)
 ·obtain ⟨a,x,us,rfl,_⟩:=h
  rfl
 ·obtain ⟨a,x,us,rfl,ha,hl,q⟩:=h
  refine ⟨_,Ae (Cm (Dk K Qp Q9 Ra D4 (qv 0) (Aa (qv 1) Ab)))
   (Af (Am (A7 Zbs (A9 (Ek K) (by rfl) T.len (by decide +kernel) (Aa (qv 0) Ab)) Ah))),?_⟩
  have bg:=big
  walk_at "r"
  refine Cf (SqL.of ha) ?_
  walk_at "r"
  refine Dd ha (by omega) ?_
  walk_at "r"
  refine Hr (SqL.of Ad) ?_
  walk_at "r"
  rw [Px,Qm,show ((us.length+1:Nat):Int) - 1=(us.length:Nat) by omega]
  exact q
end
local macro_rules | `(tactic| walk_at "zA")=>`(tactic| exact (let +zeta a:=_; let +zeta b:=_; let +zeta c:=_; have +usedOnly q:(‹Stmt›:Stmt)=.Assign a b c:=rfl; .Assign a b c))
local macro_rules | `(tactic| walk_at "zC")=>`(tactic| exact (let +zeta a:=_; let +zeta b:=_; let +zeta c:=_; let +zeta d:=_; let +zeta e:=_; let +zeta f:=_; let +zeta g:=_; let +zeta h:=_; let +zeta i:=_; let +zeta j:=_; let +zeta k:=_; have +usedOnly q:(‹Stmt›:Stmt)=.ClassDef a b c d e f g h i j k:=rfl; .ClassDef a b c d e f g h i j k))
local macro_rules | `(tactic| walk_at "zF")=>`(tactic| exact (let +zeta a:=_; let +zeta b:=_; let +zeta c:=_; let +zeta d:=_; let +zeta e:=_; let +zeta f:=_; let +zeta g:=_; let +zeta h:=_; let +zeta i:=_; let +zeta j:=_; have +usedOnly q:(‹Stmt›:Stmt)=.FunctionDef a b c d e f g h i j:=rfl; .FunctionDef a b c d e f g h i j))
noncomputable def w0:Stmt:=by let +zeta s:=Ac 0;walk_at "zA"
noncomputable def w1:Stmt:=by let +zeta s:=Ac 1;walk_at "zC"
noncomputable def w2:Stmt:=by let +zeta s:=Ac 2;walk_at "zC"
noncomputable def w3:Stmt:=by let +zeta s:=Ac 3;walk_at "zC"
noncomputable def w4:Stmt:=by let +zeta s:=Ac 4;walk_at "zC"
noncomputable def w5:Stmt:=by let +zeta s:=Ac 5;walk_at "zC"
noncomputable def w6:Stmt:=by let +zeta s:=Ac 6;walk_at "zC"
noncomputable def w7:Stmt:=by let +zeta s:=Ac 7;walk_at "zC"
noncomputable def w8:Stmt:=by let +zeta s:=Ac 8;walk_at "zC"
noncomputable def w9:Stmt:=by let +zeta s:=Ac 9;walk_at "zC"
noncomputable def Dw:Stmt:=by let +zeta s:=Ac 10;walk_at "zC"
noncomputable def Fd:Stmt:=by let +zeta s:=Ac 11;walk_at "zC"
noncomputable def He:Stmt:=by let +zeta s:=Ac 12;walk_at "zC"
noncomputable def w13:Stmt:=by let +zeta s:=Ac 13;walk_at "zA"
noncomputable def w14:Stmt:=by let +zeta s:=Ac 14;walk_at "zA"
noncomputable def w15:Stmt:=by let +zeta s:=Ac 15;walk_at "zF"
noncomputable def w16:Stmt:=by let +zeta s:=Ac 16;walk_at "zA"
noncomputable def w17:Stmt:=by let +zeta s:=Ac 17;walk_at "zF"
noncomputable def w18:Stmt:=by let +zeta s:=Ac 18;walk_at "zF"
noncomputable def w19:Stmt:=by let +zeta s:=Ac 19;walk_at "zF"
noncomputable def w20:Stmt:=by let +zeta s:=Ac 20;walk_at "zF"
noncomputable def w21:Stmt:=by let +zeta s:=Ac 21;walk_at "zF"
noncomputable def w22:Stmt:=by let +zeta s:=Ac 22;walk_at "zF"
noncomputable def w23:Stmt:=by let +zeta s:=Ac 23;walk_at "zA"
noncomputable def w24:Stmt:=by let +zeta s:=Ac 24;walk_at "zF"
noncomputable def w25:Stmt:=by let +zeta s:=Ac 25;walk_at "zF"
noncomputable def w26:Stmt:=by let +zeta s:=Ac 26;walk_at "zF"
noncomputable def w27:Stmt:=by let +zeta s:=Ac 27;walk_at "zF"
noncomputable def w28:Stmt:=by let +zeta s:=Ac 28;walk_at "zA"
noncomputable def w29:Stmt:=by let +zeta s:=Ac 29;walk_at "zA"
noncomputable def w30:Stmt:=by let +zeta s:=Ac 30;walk_at "zA"
noncomputable def w31:Stmt:=by let +zeta s:=Ac 31;walk_at "zA"
noncomputable def w32:Stmt:=by let +zeta s:=Ac 32;walk_at "zF"
noncomputable def w33:Stmt:=by let +zeta s:=Ac 33;walk_at "zF"
noncomputable def w34:Stmt:=by let +zeta s:=Ac 34;walk_at "zF"
noncomputable def w35:Stmt:=by let +zeta s:=Ac 35;walk_at "zF"
noncomputable def w36:Stmt:=by let +zeta s:=Ac 36;walk_at "zF"
noncomputable def w37:Stmt:=by let +zeta s:=Ac 37;walk_at "zF"
noncomputable def w38:Stmt:=by let +zeta s:=Ac 38;walk_at "zF"
noncomputable def w39:Stmt:=by let +zeta s:=Ac 39;walk_at "zF"
noncomputable def w40:Stmt:=by let +zeta s:=Ac 40;walk_at "zF"
noncomputable def w41:Stmt:=by let +zeta s:=Ac 41;walk_at "zA"
noncomputable def w42:Stmt:=by let +zeta s:=Ac 42;walk_at "zA"
noncomputable def w43:Stmt:=by let +zeta s:=Ac 43;walk_at "zF"
noncomputable def w44:Stmt:=by let +zeta s:=Ac 44;walk_at "zF"
noncomputable def w45:Stmt:=by let +zeta s:=Ac 45;walk_at "zF"
noncomputable def w46:Stmt:=by let +zeta s:=Ac 46;walk_at "zF"
noncomputable def w47:Stmt:=by let +zeta s:=Ac 47;walk_at "zF"
noncomputable def w48:Stmt:=by let +zeta s:=Ac 48;walk_at "zA"
noncomputable def w49:Stmt:=by let +zeta s:=Ac 49;walk_at "zF"
noncomputable def w50:Stmt:=by let +zeta s:=Ac 50;walk_at "zF"
noncomputable def w51:Stmt:=by let +zeta s:=Ac 51;walk_at "zF"
noncomputable def w52:Stmt:=by let +zeta s:=Ac 52;walk_at "zF"
noncomputable def w53:Stmt:=by let +zeta s:=Ac 53;walk_at "zF"
noncomputable def w54:Stmt:=by let +zeta s:=Ac 54;walk_at "zF"
noncomputable def w55:Stmt:=by let +zeta s:=Ac 55;walk_at "zF"
noncomputable def w56:Stmt:=by let +zeta s:=Ac 56;walk_at "zF"
noncomputable def PWc:Program:=let +zeta a:=_;let +zeta b:=_;let +zeta c:=_;let +zeta d:=_;let +zeta e:=_;let +zeta f:=_;let +zeta g:=_;let +zeta h:=_;let +zeta i:=_;let +zeta j:=_;have +usedOnly q:Tf=⟨⟨a,b,c,d,e⟩,f,g,h,i,j⟩:=rfl;⟨⟨[w0,w1,w2,w3,w4,w5,w6,w7,w8,w9,Dw,Fd,He,w13,w14,w15,w16,w17,w18,w19,w20,w21,w22,w23,w24,w25,w26,w27,w28,w29,w30,w31,w32,w33,w34,w35,w36,w37,w38,w39,w40,w41,w42,w43,w44,w45,w46,w47,w48,w49,w50,w51,w52,w53,w54,w55,w56],b,c,d,e⟩,f,g,h,i,j⟩
theorem e_PW:PWc=PWc:=rfl
name_quick x_PW for K37.PWc by K37.e_PW
end K37
noncomputable def PySem.W.Fast.tw9844151295237745055:PySem.Program:=PySem.W.Fast.tw9065955647401971343
theorem PySem.W.Fast.te9844151295237745055:Tf=PySem.W.Fast.tw9844151295237745055:=(rfl:Tf=K37.PWc).trans PySem.W.Fast.te9065955647401971343
namespace K37
open PySem L2
noncomputable def VWc:Program:={ Tf with main:={ Tf.main with body:=[w1,w2,w3,w4,w5,w6,w7,w8,w9,Dw,Fd,He,w14,w15,w17,w18,w19,w20,w21,w22,w24,w25,w26,w27,w29,w30,w31,w32,w33,w34,w35,w36,w37,w38,w39,w40,w42,w43,w44,w45,w46,w47,w49,w50,w51,w52,w53,w54,w55,w56] } }
noncomputable def S0:List Stmt:=[w2]
noncomputable def S1:List Stmt:=[w9]
noncomputable def S2:List Stmt:=[Fd]
noncomputable def S3:List Stmt:=[w7]
noncomputable def S4:List Stmt:=[w8]
noncomputable def S5:List Stmt:=[w34,w35,w36,w37,w38,w39,w40,w41,w42,w43,w44,w45,w46]
noncomputable def S6:List Stmt:=[w5]
noncomputable def S7:List Stmt:=[w19,w20,w21,w22,w23,w24,w25,w26,w27,w28,w29,w30,w31,w32,w33]
noncomputable def S8:List Stmt:=[w0,w1]
noncomputable def S9:List Stmt:=[w3]
noncomputable def S10:List Stmt:=[Dw]
noncomputable def S11:List Stmt:=[w4]
noncomputable def S12:List Stmt:=[w47,w48,w49,w50,w51,w52,w53,w54,w55,w56]
noncomputable def S13:List Stmt:=[w6]
noncomputable def S14:List Stmt:=[He,w13,w14,w15,w16,w17,w18]
noncomputable def SB:Program×List (List Stmt):=(VWc,[S0,S1,S2,S3,S4,S5,S6,S7,S8,S9,S10,S11,S12,S13,S14])
theorem e_SB:SB=SB:=rfl
name_quick x_SB for K37.SB by K37.e_SB
end K37
noncomputable def PySem.W.Fast.tw13977947991705930636:PySem.Program:=PySem.W.Fast.tw18216747037759181529
theorem PySem.W.Fast.te13977947991705930636:K37.VWc=PySem.W.Fast.tw13977947991705930636:=PySem.W.Fast.te18216747037759181529
noncomputable def PySem.W.Fast.tw18373006991459194977:List Q1:=PySem.W.Fast.tw15625502576120395493
theorem PySem.W.Fast.te18373006991459194977:K37.S0=PySem.W.Fast.tw18373006991459194977:=PySem.W.Fast.te15625502576120395493
noncomputable def PySem.W.Fast.tw17080837190812685570:List Q1:=PySem.W.Fast.tw1293939065940197568
theorem PySem.W.Fast.te17080837190812685570:K37.S1=PySem.W.Fast.tw17080837190812685570:=PySem.W.Fast.te1293939065940197568
noncomputable def PySem.W.Fast.tw5744581732446686978:List Q1:=PySem.W.Fast.tw11944831873282226543
theorem PySem.W.Fast.te5744581732446686978:K37.S2=PySem.W.Fast.tw5744581732446686978:=PySem.W.Fast.te11944831873282226543
noncomputable def PySem.W.Fast.tw293555446872711970:List Q1:=PySem.W.Fast.tw3299507134467794985
theorem PySem.W.Fast.te293555446872711970:K37.S3=PySem.W.Fast.tw293555446872711970:=PySem.W.Fast.te3299507134467794985
noncomputable def PySem.W.Fast.tw12538794621460304770:List Q1:=PySem.W.Fast.tw17477226143461689876
theorem PySem.W.Fast.te12538794621460304770:K37.S4=PySem.W.Fast.tw12538794621460304770:=PySem.W.Fast.te17477226143461689876
noncomputable def PySem.W.Fast.tw9331279875203901892:List Q1:=PySem.W.Fast.tw3027769408026201340
theorem PySem.W.Fast.te9331279875203901892:K37.S5=PySem.W.Fast.tw9331279875203901892:=PySem.W.Fast.te3027769408026201340
noncomputable def PySem.W.Fast.tw4360366805208863556:List Q1:=PySem.W.Fast.tw8166429595023744973
theorem PySem.W.Fast.te4360366805208863556:K37.S6=PySem.W.Fast.tw4360366805208863556:=PySem.W.Fast.te8166429595023744973
noncomputable def PySem.W.Fast.tw2388104861757032422:List Q1:=PySem.W.Fast.tw3566222951368909389
theorem PySem.W.Fast.te2388104861757032422:K37.S7=PySem.W.Fast.tw2388104861757032422:=PySem.W.Fast.te3566222951368909389
noncomputable def PySem.W.Fast.tw11749487803946458248:List Q1:=PySem.W.Fast.tw2516420214791404522
theorem PySem.W.Fast.te11749487803946458248:K37.S8=PySem.W.Fast.tw11749487803946458248:=PySem.W.Fast.te2516420214791404522
noncomputable def PySem.W.Fast.tw5710614401425832266:List Q1:=PySem.W.Fast.tw15283638466361167641
theorem PySem.W.Fast.te5710614401425832266:K37.S9=PySem.W.Fast.tw5710614401425832266:=PySem.W.Fast.te15283638466361167641
noncomputable def PySem.W.Fast.tw10626086883728365709:List Q1:=PySem.W.Fast.tw17945595951974937812
theorem PySem.W.Fast.te10626086883728365709:K37.S10=PySem.W.Fast.tw10626086883728365709:=PySem.W.Fast.te17945595951974937812
noncomputable def PySem.W.Fast.tw2683957579407446128:List Q1:=PySem.W.Fast.tw127456867567550241
theorem PySem.W.Fast.te2683957579407446128:K37.S11=PySem.W.Fast.tw2683957579407446128:=PySem.W.Fast.te127456867567550241
noncomputable def PySem.W.Fast.tw4318733611130417749:List Q1:=PySem.W.Fast.tw13972146622309513908
theorem PySem.W.Fast.te4318733611130417749:K37.S12=PySem.W.Fast.tw4318733611130417749:=PySem.W.Fast.te13972146622309513908
noncomputable def PySem.W.Fast.tw14331896566383030171:List Q1:=PySem.W.Fast.tw8661064023011411968
theorem PySem.W.Fast.te14331896566383030171:K37.S13=PySem.W.Fast.tw14331896566383030171:=PySem.W.Fast.te8661064023011411968
noncomputable def PySem.W.Fast.tw5115732136408835196:List Q1:=PySem.W.Fast.tw12332549985071200599
theorem PySem.W.Fast.te5115732136408835196:K37.S14=PySem.W.Fast.tw5115732136408835196:=PySem.W.Fast.te12332549985071200599
namespace K37
open PySem L2 PySem.W
noncomputable def zs (i j:Nat):Stmt:=match Ac i with | .ClassDef _ _ _ b _ _ _ _ _ _ _=>b.getD j (.Pass ⟨0,0,0,0⟩) | s=>s
noncomputable def ze (P:Params)(s:Str)(t:Tok)(v:Value):DictEntry:=⟨PyData.keyHash P s,.str s t,v⟩
noncomputable abbrev B:=Qv
noncomputable def evb (l:List Obj):Bool->List Obj:=@List.rec Obj (fun _=>Bool->List Obj) (fun _=>[]) (fun a _ ih b=>@Bool.rec (fun _=>List Obj) (ih true) (a::ih false) b) l
noncomputable def tO (l:List Obj):B:=@Nat.rec (fun _=>List Obj->B) (fun _=>.nil) (fun _ ih l=>@List.rec Obj (fun _=>B) .nil (fun x r _=>.node x (ih (evb r true)) (ih (evb r false))) l) 12 l
noncomputable def zv:List (Str×Tok)->List Value
 | []=>[]
 | (a,b)::t=>.str a b::zv t
noncomputable def zu (l:List (Str×Tok)):Obj:=⟨.type "tuple",none,.seq ⟨zv l⟩,#[]⟩
noncomputable def zt (c:String)(d:Data):Obj:=⟨.type c,none,d,#[]⟩
noncomputable def zf (n q:Str)(s:Stmt)(m:Str)(t:Tok)(c:Addr):Obj:=⟨.type "function",none,.func (Ry n q (Hl s) (E6 s) (A0 s) .none .none .none (.str m t) none (.ref c) .none),#[]⟩
noncomputable def zh (n q:Str)(s:Stmt):Obj:=⟨.none,none,.func ⟨n,q,Hl s,.stmts (E6 s),A0 s,0,[],.none,.none,.none,.none,none,.none,.none,0⟩,#[]⟩
noncomputable def zk (n q:Str)(t:Tok)(l a g:Int)(r:Addr)(b:Bool)(x:Value)(u:Int)(v:Tok):Obj:=⟨.type "code",none,.fields #[.str n t,.str q (t+1),.str "/claim/cut.py" (t+2),.int l 0,.int a 0,.int 0 0,.int 0 0,.int g 0,.ref r,.bool b,.int 181 0,.ref (r+1),.none,.none,.none,x,.int u 0,.int l 0,.str "/claim/cut.py" v],#[]⟩
noncomputable def zw:List (Int×Int×Addr)->List Value
 | []=>[]
 | (a,b,c)::t=>.int a 0::.int b 0::.ref c::zw t
noncomputable def zy (l:List (Int×Int×Addr)):Obj:=⟨.none,none,.fields ⟨zw l⟩,#[]⟩
noncomputable def zc (n q:Str)(t:Tok)(l a g:Int)(r:Addr)(u:Int)(v:Tok):Obj:=⟨.type "code",none,.fields #[.str n t,.str q (t+1),.str "/claim/cut.py" (t+2),.int l 0,.int a 0,.int 0 0,.int 0 0,.int g 0,.ref r,.bool true,.int 181 0,.ref (r+1),.none,.ref (r+2),.ref (r+3),.ref (r+4),.int u 0,.int l 0,.str "/claim/cut.py" v],#[]⟩
noncomputable def zb (n:Str):=zc n n
noncomputable def zi (n:Str):=zf n n
noncomputable def zj (n:Str):=zh n n
noncomputable section
def d0 (P:Params):=[ze P "__name__" 165 (.str "gapscribe.errors" 187),ze P "__doc__" 166 .none,ze P "__package__" 167 .none,ze P "__loader__" 168 (.builtin "__main__.__loader__#opaque"),ze P "__spec__" 169 .none,ze P "__annotations__" 170 (.ref 6),ze P "__builtins__" 171 (.ref 4),ze P "__file__" 173 (.str "/claim/cut.py" 172),ze P "__cached__" 174 .none,ze P "GapError" 206 (.ref 24),ze P "NoForm" 222 (.ref 37)]
def z0 (P:Params):=zt "dict" (.dict ⟨d0 P⟩ 11)
def z1:=zt "tuple" (.seq #[])
noncomputable def y0:List (Int×Int×Addr):=[(2,0,20),(4,0,33)]
def z2:=zy y0
def z3:=zk "<module>" "<module>" 182 1 0 0 11 false .none 185 186
noncomputable def Dy (x0:Nat)(x1:Nat)(x2:Str)(x3:Nat):Obj:=Obj.mk (.type "frame") none Data.plain #[some (.ref x0),some (.ref 3),some (.ref x1),none,some (.str x2 x3),none,some (.ref 0)]
def z4:=Dy 13 3 "__main__" 164
def z5:=zt "tuple" (.seq #[.type "ValueError"])
def h0_0 (P:Params)(t:List Obj):=(boot_o_0 P)::(boot_o_1 P)::(boot_o_2 P)::(z0 P)::(boot_o_4 P)::(boot_o_5 P)::(boot_o_6 P)::(boot_o_7 P)::(boot_o_8 P)::(boot_o_9 P)::(boot_o_10 P)::z1::z2::z3::z4::z5::t
def z6:=zt "builtin_function_or_method" (.fields #[.builtin "type.__prepare__",.type "type"])
def F0 (P:Params)(x0:Nat)(x1:Str)(x2:Int)(x3:Nat):Obj:=zt "dict" (.dict #[ze P "__module__" x0 (.str "gapscribe.errors" 187),ze P "__qualname__" (x0+2) (.str x1 (x0+1)),ze P "__firstlineno__" (x0+4) (.int x2 (x0+3)),ze P "__static_attributes__" (x0+5) (.ref x3)] 4)
def z7 (P:Params):=F0 P 196 "GapError" 2 22
noncomputable def z8:=Obj.mk .none none (.fields #[]) #[]
def z9:=zk "GapError" "GapError" 191 2 0 0 18 false .none 194 195
def z10:=Dy 20 17 "gapscribe.errors" 187
def zq2 (P:Params)(x0:Nat)(x1:Int)(x2:Str)(x3:Nat)(x4:Nat)(x5:Str)(x6:Nat)(x7:Nat)(x8:Nat):Obj:=zt "dict" (.dict #[ze P "__module__" x0 (.str "gapscribe.errors" 187),ze P "__firstlineno__" (x0+4) (.int x1 (x0+3)),ze P x2 x3 (.ref x4),ze P x5 x6 (.ref x7),ze P "__doc__" (x6+1) .none] x8)
def z11 (P:Params):=zq2 P 196 2 "__static_attributes__" 201 22 "__weakref__" 203 25 3
noncomputable def Ey (x0:List Value):Obj:=Obj.mk (.type "type") none (.cls (ClassData.mk "GapError" [.type "ValueError"] [.ref 24,.type "ValueError",.type "Exception",.type "BaseException",.type "object"] 23 "GapError" true [] x0 false none false)) #[some (.ref 15),none,some (.str "GapError" 189),some (.str "GapError" 197),some (.builtin "ValueError.__new__"),some (.bool true)]
def z12:=Ey [.ref 37]
def z13:=zt "getset_descriptor" (.fields #[.str "__weakref__" 202,.ref 24,.builtin "ExceptionGroup.__weakref__",.none])
def E3:Obj:=zt "super" (.fields #[.ref 24,.ref 24,.ref 24])
def Ei (x0:Nat):Obj:=zt "builtin_function_or_method" (.fields #[.builtin "object.__init_subclass__",.ref x0])
def Fc:Obj:=Ei 24
def B7:Obj:=zt "tuple" (.seq #[.ref 24])
def E5 (P:Params):Obj:=F0 P 214 "NoForm" 4 35
def h1_0 (P:Params)(t:List Obj):=z6::(z7 P)::z1::z8::z9::z10::z1::(z11 P)::z12::z13::E3::Fc::B7::z6::(E5 P)::z1::t
def z18:=zk "NoForm" "NoForm" 209 4 0 0 31 false .none 212 213
def z19:=Dy 33 30 "gapscribe.errors" 187
def Gu (P:Params)(x0:Nat)(x1:Int)(x2:Nat):Obj:=zt "dict" (.dict #[ze P "__module__" x0 (.str "gapscribe.errors" 187),ze P "__firstlineno__" (x0+4) (.int x1 (x0+3)),ze P "__static_attributes__" (x0+5) (.ref x2),ze P "__doc__" (x0+6) .none] 2)
def z20 (P:Params):=Gu P 214 4 35
noncomputable def E7 (x0:Str)(x1:Nat)(x2:Nat)(x3:Nat)(x4:Nat):Obj:=Obj.mk (.type "type") none (.cls (ClassData.mk x0 [.ref 24] [.ref x1,.ref 24,.type "ValueError",.type "Exception",.type "BaseException",.type "object"] x2 x0 true [] [] false none false)) #[some (.ref x3),none,some (.str x0 x4),some (.str x0 (x4+8)),some (.builtin "ValueError.__new__"),some (.bool true)]
def z21:=E7 "NoForm" 37 36 28 207
def z22:=zt "super" (.fields #[.ref 37,.ref 37,.ref 37])
def z23:=Ei 37
def h2_0 (P:Params)(t:List Obj):=z8::z18::z19::z1::(z20 P)::z21::z22::z23::t
def Rtree_78:Params->B:=fun P=>tO (h0_0 P (h1_0 P (h2_0 P [])))
def d1 (P:Params):=d0 P++[ze P "NoDeed" 238 (.ref 49)]
def z24 (P:Params):=zt "dict" (.dict ⟨d1 P⟩ 12)
def y1:List (Int×Int×Addr):=y0++[(6,0,45)]
def z25:=zy y1
def D0 (P:Params)(x0 x1:Obj)(t:List Obj):List Obj:=(boot_o_0 P)::(boot_o_1 P)::(boot_o_2 P)::x0::(boot_o_4 P)::(boot_o_5 P)::(boot_o_6 P)::(boot_o_7 P)::(boot_o_8 P)::(boot_o_9 P)::(boot_o_10 P)::z1::x1::z3::z4::z5::t
def h3_0 (P:Params)(t:List Obj):=D0 P (z24 P) z25 t
def z26:=Ey [.ref 37,.ref 49]
def h4_0 (P:Params)(t:List Obj):=z6::(z7 P)::z1::z8::z9::z10::z1::(z11 P)::z26::z13::E3::Fc::B7::z6::(E5 P)::z1::t
def z27 (P:Params):=F0 P 230 "NoDeed" 6 47
def z28:=zk "NoDeed" "NoDeed" 225 6 0 0 43 false .none 228 229
def z29:=Dy 45 42 "gapscribe.errors" 187
def De (P:Params)(t:List Obj):List Obj:=z8::z18::z19::z1::(z20 P)::z21::z22::z23::B7::z6::(z27 P)::z1::z8::z28::z29::z1::t
def z30 (P:Params):=Gu P 230 6 47
def z31:=E7 "NoDeed" 49 48 40 223
def z32:=zt "super" (.fields #[.ref 49,.ref 49,.ref 49])
def z33:=Ei 49
def h6_0 (P:Params)(t:List Obj):=(z30 P)::z31::z32::z33::t
def Rtree_93:Params->B:=fun P=>tO (h3_0 P (h4_0 P (De P (h6_0 P []))))
def d2 (P:Params):=d1 P++[ze P "NoName" 254 (.ref 61)]
def z34 (P:Params):=zt "dict" (.dict ⟨d2 P⟩ 13)
def y2:List (Int×Int×Addr):=y1++[(8,0,57)]
def z35:=zy y2
def h7_0 (P:Params)(t:List Obj):=D0 P (z34 P) z35 t
def z36:=Ey [.ref 37,.ref 49,.ref 61]
def h8_0 (P:Params)(t:List Obj):=z6::(z7 P)::z1::z8::z9::z10::z1::(z11 P)::z36::z13::E3::Fc::B7::z6::(E5 P)::z1::t
def z37 (P:Params):=F0 P 246 "NoName" 8 59
def z38:=zk "NoName" "NoName" 241 8 0 0 55 false .none 244 245
def z39:=Dy 57 54 "gapscribe.errors" 187
def z40 (P:Params):=Gu P 246 8 59
def z41:=E7 "NoName" 61 60 52 239
def z42:=zt "super" (.fields #[.ref 61,.ref 61,.ref 61])
def z43:=Ei 61
def Dx (P:Params)(t:List Obj):List Obj:=(z30 P)::z31::z32::z33::B7::z6::(z37 P)::z1::z8::z38::z39::z1::(z40 P)::z41::z42::z43::t
def Rtree_108:Params->B:=fun P=>tO (h7_0 P (h8_0 P (De P (Dx P []))))
def d3 (P:Params):=d2 P++[ze P "NoCall" 270 (.ref 73)]
def z44 (P:Params):=zt "dict" (.dict ⟨d3 P⟩ 14)
def y3:List (Int×Int×Addr):=y2++[(10,0,69)]
def z45:=zy y3
def Zpt (P:Params)(t:List Obj):List Obj:=D0 P (z44 P) z45 t
def z46:=Ey [.ref 37,.ref 49,.ref 61,.ref 73]
def Zsx (P:Params)(t:List Obj):List Obj:=z6::(z7 P)::z1::z8::z9::z10::z1::(z11 P)::z46::z13::E3::Fc::B7::z6::(E5 P)::z1::t
def z47 (P:Params):=F0 P 262 "NoCall" 10 71
def z48:=zk "NoCall" "NoCall" 257 10 0 0 67 false .none 260 261
def z49:=Dy 69 66 "gapscribe.errors" 187
def z50 (P:Params):=Gu P 262 10 71
def z51:=E7 "NoCall" 73 72 64 255
def z52:=zt "super" (.fields #[.ref 73,.ref 73,.ref 73])
def z53:=Ei 73
def Zis (P:Params)(t:List Obj):List Obj:=B7::z6::(z47 P)::z1::z8::z48::z49::z1::(z50 P)::z51::z52::z53::t
def Rtree_123:Params->B:=fun P=>tO (Zpt P (Zsx P (De P (Dx P (Zis P [])))))
def d4 (P:Params):=d3 P++[ze P "NoStep" 286 (.ref 85)]
def z54 (P:Params):=zt "dict" (.dict ⟨d4 P⟩ 15)
def y4:List (Int×Int×Addr):=y3++[(12,0,81)]
def z55:=zy y4
def Zs2 (P:Params)(t:List Obj):List Obj:=D0 P (z54 P) z55 t
def z56:=Ey [.ref 37,.ref 49,.ref 61,.ref 73,.ref 85]
def Zs7 (P:Params)(t:List Obj):List Obj:=z6::(z7 P)::z1::z8::z9::z10::z1::(z11 P)::z56::z13::E3::Fc::B7::z6::(E5 P)::z1::t
def z57 (P:Params):=F0 P 278 "NoStep" 12 83
def Ex (P:Params)(t:List Obj):List Obj:=B7::z6::(z47 P)::z1::z8::z48::z49::z1::(z50 P)::z51::z52::z53::B7::z6::(z57 P)::z1::t
def z58:=zk "NoStep" "NoStep" 273 12 0 0 79 false .none 276 277
def z59:=Dy 81 78 "gapscribe.errors" 187
def z60 (P:Params):=Gu P 278 12 83
def z61:=E7 "NoStep" 85 84 76 271
def z62:=zt "super" (.fields #[.ref 85,.ref 85,.ref 85])
def z63:=Ei 85
def Zp6 (P:Params)(t:List Obj):List Obj:=z8::z58::z59::z1::(z60 P)::z61::z62::z63::t
def Rtree_138:Params->B:=fun P=>tO (Zs2 P (Zs7 P (De P (Dx P (Ex P (Zp6 P []))))))
def d5 (P:Params):=d4 P++[ze P "NoRow" 302 (.ref 97)]
def z64 (P:Params):=zt "dict" (.dict ⟨d5 P⟩ 16)
def y5:List (Int×Int×Addr):=y4++[(14,0,93)]
def z65:=zy y5
def Zl9 (P:Params)(t:List Obj):List Obj:=D0 P (z64 P) z65 t
def z66:=Ey [.ref 37,.ref 49,.ref 61,.ref 73,.ref 85,.ref 97]
def Zml (P:Params)(t:List Obj):List Obj:=z6::(z7 P)::z1::z8::z9::z10::z1::(z11 P)::z66::z13::E3::Fc::B7::z6::(E5 P)::z1::t
def z67 (P:Params):=F0 P 294 "NoRow" 14 95
def z68:=zk "NoRow" "NoRow" 289 14 0 0 91 false .none 292 293
def z69:=Dy 93 90 "gapscribe.errors" 187
def Fj (P:Params)(t:List Obj):List Obj:=z8::z58::z59::z1::(z60 P)::z61::z62::z63::B7::z6::(z67 P)::z1::z8::z68::z69::z1::t
def z70 (P:Params):=Gu P 294 14 95
def z71:=E7 "NoRow" 97 96 88 287
def z72:=zt "super" (.fields #[.ref 97,.ref 97,.ref 97])
def z73:=Ei 97
def Zti (P:Params)(t:List Obj):List Obj:=(z70 P)::z71::z72::z73::t
def Rtree_153:Params->B:=fun P=>tO (Zl9 P (Zml P (De P (Dx P (Ex P (Fj P (Zti P [])))))))
def d6 (P:Params):=d5 P++[ze P "TooBig" 318 (.ref 109)]
def z74 (P:Params):=zt "dict" (.dict ⟨d6 P⟩ 17)
def y6:List (Int×Int×Addr):=y5++[(16,0,105)]
def z75:=zy y6
def Zk2 (P:Params)(t:List Obj):List Obj:=D0 P (z74 P) z75 t
def z76:=Ey [.ref 37,.ref 49,.ref 61,.ref 73,.ref 85,.ref 97,.ref 109]
def Zqg (P:Params)(t:List Obj):List Obj:=z6::(z7 P)::z1::z8::z9::z10::z1::(z11 P)::z76::z13::E3::Fc::B7::z6::(E5 P)::z1::t
def z77 (P:Params):=F0 P 310 "TooBig" 16 107
def z78:=zk "TooBig" "TooBig" 305 16 0 0 103 false .none 308 309
def z79:=Dy 105 102 "gapscribe.errors" 187
def z80 (P:Params):=Gu P 310 16 107
def z81:=E7 "TooBig" 109 108 100 303
def z82:=zt "super" (.fields #[.ref 109,.ref 109,.ref 109])
def z83:=Ei 109
def Fu (P:Params)(t:List Obj):List Obj:=(z70 P)::z71::z72::z73::B7::z6::(z77 P)::z1::z8::z78::z79::z1::(z80 P)::z81::z82::z83::t
def Rtree_168:Params->B:=fun P=>tO (Zk2 P (Zqg P (De P (Dx P (Ex P (Fj P (Fu P [])))))))
def d7 (P:Params):=d6 P++[ze P "TooLong" 334 (.ref 121)]
def z84 (P:Params):=zt "dict" (.dict ⟨d7 P⟩ 18)
def y7:List (Int×Int×Addr):=y6++[(18,0,117)]
def z85:=zy y7
def Ztn (P:Params)(t:List Obj):List Obj:=D0 P (z84 P) z85 t
def z86:=Ey [.ref 37,.ref 49,.ref 61,.ref 73,.ref 85,.ref 97,.ref 109,.ref 121]
def Zo1 (P:Params)(t:List Obj):List Obj:=z6::(z7 P)::z1::z8::z9::z10::z1::(z11 P)::z86::z13::E3::Fc::B7::z6::(E5 P)::z1::t
def z87 (P:Params):=F0 P 326 "TooLong" 18 119
def z88:=zk "TooLong" "TooLong" 321 18 0 0 115 false .none 324 325
def z89:=Dy 117 114 "gapscribe.errors" 187
def z90 (P:Params):=Gu P 326 18 119
def z91:=E7 "TooLong" 121 120 112 319
def z92:=zt "super" (.fields #[.ref 121,.ref 121,.ref 121])
def z93:=Ei 121
def Zjm (P:Params)(t:List Obj):List Obj:=B7::z6::(z87 P)::z1::z8::z88::z89::z1::(z90 P)::z91::z92::z93::t
def Rtree_183:Params->B:=fun P=>tO (Ztn P (Zo1 P (De P (Dx P (Ex P (Fj P (Fu P (Zjm P []))))))))
def d8 (P:Params):=d7 P++[ze P "NoPlace" 359 (.ref 140)]
def z94 (P:Params):=zt "dict" (.dict ⟨d8 P⟩ 19)
def y8:List (Int×Int×Addr):=y7++[(20,0,129)]
def z95:=zy y8
def Zp0 (P:Params)(t:List Obj):List Obj:=D0 P (z94 P) z95 t
def z96:=Ey [.ref 37,.ref 49,.ref 61,.ref 73,.ref 85,.ref 97,.ref 109,.ref 121,.ref 140]
def Zr9 (P:Params)(t:List Obj):List Obj:=z6::(z7 P)::z1::z8::z9::z10::z1::(z11 P)::z96::z13::E3::Fc::B7::z6::(E5 P)::z1::t
def d9 (P:Params):=[ze P "__module__" 342 (.str "gapscribe.errors" 187),ze P "__qualname__" 344 (.str "NoPlace" 343),ze P "__firstlineno__" 346 (.int 20 345),ze P "__init__" 354 (.ref 137),ze P "__static_attributes__" 356 (.ref 138)]
def z97 (P:Params):=zt "dict" (.dict ⟨d9 P⟩ 5)
def G8 (P:Params)(t:List Obj):List Obj:=B7::z6::(z87 P)::z1::z8::z88::z89::z1::(z90 P)::z91::z92::z93::B7::z6::(z97 P)::z1::t
noncomputable def y9:List (Int×Int×Addr):=[(22,4,136)]
def z98:=zy y9
def z99:=zk "NoPlace" "NoPlace" 337 20 0 0 127 false .none 340 341
def z100:=Dy 129 126 "gapscribe.errors" 187
def z101:=zu [("self",350),("place",351)]
def z102:=zh "__init__" "NoPlace.__init__" Jt
def Zbu:Obj:=zc "__init__" "NoPlace.__init__" 347 22 2 3 131 352 353
def O4:Obj:=zf "__init__" "NoPlace.__init__" Jt "gapscribe.errors" 187 136
def z105:=zu [("place",355)]
def Ph (P:Params):Obj:=zq2 P 342 20 "__init__" 354 137 "__static_attributes__" 356 138 2
def Oo:Obj:=E7 "NoPlace" 140 139 124 335
def z108:=zt "super" (.fields #[.ref 140,.ref 140,.ref 140])
def z109:=Ei 140
def Zq4 (P:Params)(t:List Obj):List Obj:=z98::z99::z100::z1::z8::z101::z1::z102::Zbu::O4::z105::(Ph P)::Oo::z108::z109::t
def Rtree_205:Params->B:=fun P=>tO (Zp0 P (Zr9 P (De P (Dx P (Ex P (Fj P (Fu P (G8 P (Zq4 P [])))))))))
def d10 (P:Params):=d8 P++[ze P "Parted" 384 (.ref 159)]
def z110 (P:Params):=zt "dict" (.dict ⟨d10 P⟩ 20)
def y10:List (Int×Int×Addr):=y8++[(24,0,148)]
def z111:=zy y10
def Zq3 (P:Params)(t:List Obj):List Obj:=D0 P (z110 P) z111 t
def z112:=Ey [.ref 37,.ref 49,.ref 61,.ref 73,.ref 85,.ref 97,.ref 109,.ref 121,.ref 140,.ref 159]
def Zjk (P:Params)(t:List Obj):List Obj:=z6::(z7 P)::z1::z8::z9::z10::z1::(z11 P)::z112::z13::E3::Fc::B7::z6::(E5 P)::z1::t
def Il (P:Params)(t:List Obj):List Obj:=z98::z99::z100::z1::z8::z101::z1::z102::Zbu::O4::z105::(Ph P)::Oo::z108::z109::B7::t
def d11 (P:Params):=[ze P "__module__" 367 (.str "gapscribe.errors" 187),ze P "__qualname__" 369 (.str "Parted" 368),ze P "__firstlineno__" 371 (.int 24 370),ze P "__init__" 379 (.ref 156),ze P "__static_attributes__" 381 (.ref 157)]
def z113 (P:Params):=zt "dict" (.dict ⟨d11 P⟩ 5)
noncomputable def y11:List (Int×Int×Addr):=[(26,4,155)]
def z114:=zy y11
def z115:=zk "Parted" "Parted" 362 24 0 0 146 false .none 365 366
def z116:=Dy 148 145 "gapscribe.errors" 187
def z117:=zu [("self",375),("place",376)]
def z118:=zh "__init__" "Parted.__init__" (zsS 11 0)
def z119:=zc "__init__" "Parted.__init__" 372 26 2 3 150 377 378
def z120:=zf "__init__" "Parted.__init__" (zsS 11 0) "gapscribe.errors" 187 155
def z121:=zu [("place",380)]
def z122 (P:Params):=zq2 P 367 24 "__init__" 379 156 "__static_attributes__" 381 157 2
def z123:=E7 "Parted" 159 158 143 360
def Ic (P:Params)(t:List Obj):List Obj:=z6::(z113 P)::z1::z114::z115::z116::z1::z8::z117::z1::z118::z119::z120::z121::(z122 P)::z123::t
def z124:=zt "super" (.fields #[.ref 159,.ref 159,.ref 159])
def z125:=Ei 159
def Ziq (P:Params)(t:List Obj):List Obj:=z124::z125::t
def Rtree_227:Params->B:=fun P=>tO (Zq3 P (Zjk P (De P (Dx P (Ex P (Fj P (Fu P (G8 P (Il P (Ic P (Ziq P [])))))))))))
def d12 (P:Params):=[ze P "__name__" 165 (.str "gapscribe.places" 423),ze P "__doc__" 166 .none,ze P "__package__" 167 .none,ze P "__loader__" 168 (.builtin "__main__.__loader__#opaque"),ze P "__spec__" 169 .none,ze P "__annotations__" 170 (.ref 6),ze P "__builtins__" 171 (.ref 4),ze P "__file__" 173 (.str "/claim/cut.py" 172),ze P "__cached__" 174 .none,ze P "GapError" 206 (.ref 24),ze P "NoForm" 222 (.ref 37),ze P "NoDeed" 238 (.ref 49),ze P "NoName" 254 (.ref 61),ze P "NoCall" 270 (.ref 73),ze P "NoStep" 286 (.ref 85),ze P "NoRow" 302 (.ref 97),ze P "TooBig" 318 (.ref 109),ze P "TooLong" 334 (.ref 121),ze P "NoPlace" 359 (.ref 140),ze P "Parted" 384 (.ref 159),ze P "Caught" 411 (.ref 178),ze P "GAP" 415 (.ref 182),ze P "is_whole" 422 (.ref 189),ze P "placed_forms" 436 (.ref 196),ze P "has_part" 444 (.ref 203)]
def z126 (P:Params):=zt "dict" (.dict ⟨d12 P⟩ 25)
def y12:List (Int×Int×Addr):=y10++[(28,0,167),(35,0,188),(38,0,195),(47,0,202)]
def z127:=zy y12
def Zpp (P:Params)(t:List Obj):List Obj:=D0 P (z126 P) z127 t
def z128:=Ey [.ref 37,.ref 49,.ref 61,.ref 73,.ref 85,.ref 97,.ref 109,.ref 121,.ref 140,.ref 159,.ref 178]
def K1 (P:Params)(t:List Obj):List Obj:=z6::(z7 P)::z1::z8::z9::z10::z1::(z11 P)::z128::z13::E3::Fc::B7::z6::(E5 P)::z1::t
def d13 (P:Params):=[ze P "__module__" 392 (.str "gapscribe.errors" 187),ze P "__qualname__" 394 (.str "Caught" 393),ze P "__firstlineno__" 396 (.int 28 395),ze P "__init__" 405 (.ref 175),ze P "__static_attributes__" 408 (.ref 176)]
def z129 (P:Params):=zt "dict" (.dict ⟨d13 P⟩ 5)
noncomputable def y13:List (Int×Int×Addr):=[(30,4,174)]
def z130:=zy y13
def z131:=zk "Caught" "Caught" 387 28 0 0 165 false .none 390 391
def z132:=Dy 167 164 "gapscribe.errors" 187
def z133:=zu [("self",400),("name",401),("place",402)]
def z134:=zh "__init__" "Caught.__init__" (zsS 12 0)
def z135:=zc "__init__" "Caught.__init__" 397 30 3 3 169 403 404
def z136:=zf "__init__" "Caught.__init__" (zsS 12 0) "gapscribe.errors" 187 174
def Kj (P:Params)(t:List Obj):List Obj:=z124::z125::B7::z6::(z129 P)::z1::z130::z131::z132::z1::z8::z133::z1::z134::z135::z136::t
def z137:=zu [("name",406),("place",407)]
def z138 (P:Params):=zq2 P 392 28 "__init__" 405 175 "__static_attributes__" 408 176 2
def z139:=E7 "Caught" 178 177 162 385
def z140:=zt "super" (.fields #[.ref 178,.ref 178,.ref 178])
def z141:=Ei 178
def z142:=zt "tuple" (.seq #[.str "gap" 414,.none,.ref 181])
def z143:=zu [("thing",419)]
def z144:=zj "is_whole" Kx
def z145:=zb "is_whole" 416 35 1 3 183 420 421
def z146:=zi "is_whole" Kx "gapscribe.forms" 412 188
def K0 (P:Params)(t:List Obj):List Obj:=z137::(z138 P)::z139::z140::z141::z1::z142::z1::z8::z143::z1::z144::z145::z146::z1::z8::t
def z147:=zu [("tree",428),("told",429),("waiting",430),("pair",431),("number",432),("part",433)]
def z148:=zj "placed_forms" K2
def Zal:Obj:=zb "placed_forms" 425 38 1 3 190 434 435
def Zbd:Obj:=zi "placed_forms" K2 "gapscribe.places" 423 195
def z151:=zu [("form",440),("number",441)]
def z152:=zj "has_part" Ie
def N8:Obj:=zb "has_part" 437 47 2 3 197 442 443
def N1:Obj:=zi "has_part" Ie "gapscribe.places" 423 202
def Zkh (P:Params)(t:List Obj):List Obj:=z147::z1::z148::Zal::Zbd::z1::z8::z151::z1::z152::N8::N1::t
def Rtree_272:Params->B:=fun P=>tO (Zpp P (K1 P (De P (Dx P (Ex P (Fj P (Fu P (G8 P (Il P (Ic P (Kj P (K0 P (Zkh P [])))))))))))))
def d14 (P:Params):=[ze P "__name__" 165 (.str "gapscribe.solve" 525),ze P "__doc__" 166 .none,ze P "__package__" 167 .none,ze P "__loader__" 168 (.builtin "__main__.__loader__#opaque"),ze P "__spec__" 169 .none,ze P "__annotations__" 170 (.ref 6),ze P "__builtins__" 171 (.ref 4),ze P "__file__" 173 (.str "/claim/cut.py" 172),ze P "__cached__" 174 .none,ze P "GapError" 206 (.ref 24),ze P "NoForm" 222 (.ref 37),ze P "NoDeed" 238 (.ref 49),ze P "NoName" 254 (.ref 61),ze P "NoCall" 270 (.ref 73),ze P "NoStep" 286 (.ref 85),ze P "NoRow" 302 (.ref 97),ze P "TooBig" 318 (.ref 109),ze P "TooLong" 334 (.ref 121),ze P "NoPlace" 359 (.ref 140),ze P "Parted" 384 (.ref 159),ze P "Caught" 411 (.ref 178),ze P "GAP" 415 (.ref 182),ze P "is_whole" 422 (.ref 189),ze P "placed_forms" 436 (.ref 196),ze P "has_part" 444 (.ref 203),ze P "forms_down_to" 454 (.ref 210),ze P "form_at" 462 (.ref 217),ze P "with_part" 472 (.ref 224),ze P "with_at" 484 (.ref 231),ze P "names_bound" 494 (.ref 238),ze P "bindings_at" 506 (.ref 245),ze P "names_at" 512 (.ref 250),ze P "binding_at" 524 (.ref 257),ze P "NUM" 528 (.int 0 527),ze P "TRUTH" 530 (.int 1 529),ze P "FIRST_SHAPES" 533 (.ref 260),ze P "new_kind" 541 (.ref 267),ze P "kinds_of_word" 552 (.ref 274)]
def z155 (P:Params):=zt "dict" (.dict ⟨d14 P⟩ 38)
def y14:List (Int×Int×Addr):=y12++[(49,0,209),(56,0,216),(58,0,223),(61,0,230),(67,0,237),(75,0,244),(81,0,249),(83,0,256),(93,0,266),(96,0,273)]
def z156:=zy y14
def Zph (P:Params)(t:List Obj):List Obj:=D0 P (z155 P) z156 t
def z157:=zu [("tree",448),("place",449),("passed",450),("number",451)]
def Mf (P:Params)(t:List Obj):List Obj:=z147::z1::z148::Zal::Zbd::z1::z8::z151::z1::z152::N8::N1::z1::z8::z157::z1::t
def z158:=zj "forms_down_to" Jm
def z159:=zb "forms_down_to" 445 49 2 3 204 452 453
def z160:=zi "forms_down_to" Jm "gapscribe.places" 423 209
def z161:=zu [("tree",458),("place",459)]
def z162:=zj "form_at" Jb
def z163:=zb "form_at" 455 56 2 3 211 460 461
def z164:=zi "form_at" Jb "gapscribe.places" 423 216
def z165:=zu [("form",466),("number",467),("part",468),("parts",469)]
def z166:=zj "with_part" Lh
def z167:=zb "with_part" 463 58 3 3 218 470 471
def Lv (P:Params)(t:List Obj):List Obj:=z158::z159::z160::z1::z8::z161::z1::z162::z163::z164::z1::z8::z165::z1::z166::z167::t
def z168:=zi "with_part" Lh "gapscribe.places" 423 223
def z169:=zu [("tree",476),("place",477),("form",478),("made",479),("number",480),("above",481)]
def z170:=zj "with_at" Li
def z171:=zb "with_at" 473 61 3 3 225 482 483
def z172:=zi "with_at" Li "gapscribe.places" 423 230
def z173:=zu [("form",490),("number",491)]
def z174:=zj "names_bound" K9
def z175:=zb "names_bound" 487 67 2 3 232 492 493
def z176:=zi "names_bound" K9 "gapscribe.scopes" 485 237
def Mk (P:Params)(t:List Obj):List Obj:=z168::z1::z8::z169::z1::z170::z171::z172::z1::z8::z173::z1::z174::z175::z176::z1::t
def z177:=zu [("tree",498),("place",499),("told",500),("depth",501),("above",502),("name",503)]
def z178:=zj "bindings_at" Ks
def z179:=zb "bindings_at" 495 75 2 3 239 504 505
def z180:=zi "bindings_at" Ks "gapscribe.scopes" 485 244
def z181:=zj "names_at" Lj
def z182:=zk "names_at" "names_at" 507 81 2 3 246 true (.ref 248) 510 511
def z183:=zi "names_at" Lj "gapscribe.scopes" 485 249
def z184:=zu [("tree",516),("place",517),("name",518),("last",519),("number",520),("bound",521)]
def z185:=zj "binding_at" Kv
def Mt (P:Params)(t:List Obj):List Obj:=z8::z177::z1::z178::z179::z180::z1::z8::z181::z182::z183::z1::z8::z184::z1::z185::t
def z186:=zb "binding_at" 513 83 3 3 251 522 523
def z187:=zi "binding_at" Kv "gapscribe.scopes" 485 256
def z188:=zu [("num",531)]
def z189:=zu [("truth",532)]
def z190:=zt "tuple" (.seq #[.ref 258,.ref 259])
def z191:=zu [("shapes",537),("shape",538)]
def z192:=zj "new_kind" Ko
def z193:=zb "new_kind" 534 93 2 3 261 539 540
def z194:=zi "new_kind" Ko "gapscribe.solve" 525 266
def z195:=zu [("shapes",545),("word",546),("one",547),("other",548),("function",549)]
def Nf (P:Params)(t:List Obj):List Obj:=z186::z187::z188::z189::z190::z1::z8::z191::z1::z192::z193::z194::z1::z8::z195::z1::t
def z196:=zj "kinds_of_word" Jz
def Zb6:Obj:=zb "kinds_of_word" 542 96 2 3 268 550 551
def Zb2:Obj:=zi "kinds_of_word" Jz "gapscribe.solve" 525 273
def Zme (P:Params)(t:List Obj):List Obj:=z196::Zb6::Zb2::t
def Rtree_345:Params->B:=fun P=>tO (Zph P (K1 P (De P (Dx P (Ex P (Fj P (Fu P (G8 P (Il P (Ic P (Kj P (K0 P (Mf P (Lv P (Mk P (Mt P (Nf P (Zme P []))))))))))))))))))
def d15 (P:Params):=[ze P "__name__" 165 (.str "gapscribe.looks" 639),ze P "__doc__" 166 .none,ze P "__package__" 167 .none,ze P "__loader__" 168 (.builtin "__main__.__loader__#opaque"),ze P "__spec__" 169 .none,ze P "__annotations__" 170 (.ref 6),ze P "__builtins__" 171 (.ref 4),ze P "__file__" 173 (.str "/claim/cut.py" 172),ze P "__cached__" 174 .none,ze P "GapError" 206 (.ref 24),ze P "NoForm" 222 (.ref 37),ze P "NoDeed" 238 (.ref 49),ze P "NoName" 254 (.ref 61),ze P "NoCall" 270 (.ref 73),ze P "NoStep" 286 (.ref 85),ze P "NoRow" 302 (.ref 97),ze P "TooBig" 318 (.ref 109),ze P "TooLong" 334 (.ref 121),ze P "NoPlace" 359 (.ref 140),ze P "Parted" 384 (.ref 159),ze P "Caught" 411 (.ref 178),ze P "GAP" 415 (.ref 182),ze P "is_whole" 422 (.ref 189),ze P "placed_forms" 436 (.ref 196),ze P "has_part" 444 (.ref 203),ze P "forms_down_to" 454 (.ref 210),ze P "form_at" 462 (.ref 217),ze P "with_part" 472 (.ref 224),ze P "with_at" 484 (.ref 231),ze P "names_bound" 494 (.ref 238),ze P "bindings_at" 506 (.ref 245),ze P "names_at" 512 (.ref 250),ze P "binding_at" 524 (.ref 257),ze P "NUM" 528 (.int 0 527),ze P "TRUTH" 530 (.int 1 529),ze P "FIRST_SHAPES" 533 (.ref 260),ze P "new_kind" 541 (.ref 267),ze P "kinds_of_word" 552 (.ref 274),ze P "with_names" 564 (.ref 281),ze P "kinds_in" 583 (.ref 288),ze P "last_same" 592 (.ref 295),ze P "holds_itself" 605 (.ref 302),ze P "joined" 619 (.ref 309),ze P "fitted" 632 (.ref 316),ze P "kinds_told" 638 (.ref 321),ze P "MOST_FORMS" 642 (.int 40 641),ze P "mark_of" 652 (.ref 328),ze P "looks" 670 (.ref 335),ze P "marks" 676 (.ref 340),ze P "kind_at" 682 (.ref 345)]
def z199 (P:Params):=zt "dict" (.dict ⟨d15 P⟩ 50)
def y15:List (Int×Int×Addr):=y14++[(119,0,280),(124,0,287),(139,0,294),(144,0,301),(160,0,308),(176,0,315),(184,0,320),(204,0,327),(212,0,334),(227,0,339),(229,0,344)]
def z200:=zy y15
def Zon (P:Params)(t:List Obj):List Obj:=D0 P (z199 P) z200 t
def z201:=zu [("around",556),("names",557),("kinds",558),("made",559),("name",560),("kind",561)]
def z202:=zj "with_names" Kp
def z203:=zb "with_names" 553 119 3 3 275 562 563
def z204:=zi "with_names" Kp "gapscribe.solve" 525 280
def z205:=zu [("placed",568),("shapes",569),("pairs",570),("asked_at",571),("around_at",572),("place",573),("form",574),("given",575),("asked",576),("bound",577),("number",578),("kind",579),("part",580)]
def z206:=zj "kinds_in" Lc
def z207:=zb "kinds_in" 565 124 1 3 282 581 582
def Zbh (P:Params)(t:List Obj):List Obj:=z196::Zb6::Zb2::z1::z8::z201::z1::z202::z203::z204::z1::z8::z205::z1::z206::z207::t
def z208:=zi "kinds_in" Lc "gapscribe.solve" 525 287
def z209:=zu [("shapes",587),("kind",588),("last",589)]
def z210:=zj "last_same" Ka
def z211:=zb "last_same" 584 139 2 3 289 590 591
def z212:=zi "last_same" Ka "gapscribe.solve" 525 294
def z213:=zu [("shapes",596),("kind",597),("passed",598),("waiting",599),("top",600),("part",601),("inner",602)]
def z214:=zj "holds_itself" Le
def z215:=zb "holds_itself" 593 144 2 3 296 603 604
def z216:=zi "holds_itself" Le "gapscribe.solve" 525 301
def Oe (P:Params)(t:List Obj):List Obj:=z208::z1::z8::z209::z1::z210::z211::z212::z1::z8::z213::z1::z214::z215::z216::z1::t
def z217:=zu [("shapes",609),("one",610),("other",611),("made",612),("waiting",613),("pair",614),("left",615),("right",616)]
def z218:=zj "joined" Lb
def z219:=zb "joined" 606 160 3 3 303 617 618
def z220:=zi "joined" Lb "gapscribe.solve" 525 308
def z221:=zu [("shapes",623),("pairs",624),("made",625),("fits",626),("given",627),("asked",628),("after",629)]
def z222:=zj "fitted" Lf
def z223:=zb "fitted" 620 176 2 3 310 630 631
def z224:=zi "fitted" Lf "gapscribe.solve" 525 315
def z225:=zj "kinds_told" K5
def Za4 (P:Params)(t:List Obj):List Obj:=z8::z217::z1::z218::z219::z220::z1::z8::z221::z1::z222::z223::z224::z1::z8::z225::t
def z226:=zk "kinds_told" "kinds_told" 633 184 2 3 317 true (.ref 319) 636 637
def z227:=zi "kinds_told" K5 "gapscribe.solve" 525 320
def z228:=zu [("tree",646),("place",647),("form",648),("fits",649)]
def z229:=zj "mark_of" K7
def z230:=zb "mark_of" 643 204 4 3 322 650 651
def z231:=zi "mark_of" K7 "gapscribe.looks" 639 327
def z232:=zu [("tree",656),("placed",657),("shapes",658),("pairs",659),("settled",660),("fits",661),("wanted",662),("pair",663),("kinds",664),("rows",665),("number",666),("asked",667)]
def z233:=zj "looks" Im
def z234:=zb "looks" 653 212 1 3 329 668 669
def z235:=zi "looks" Im "gapscribe.looks" 639 334
def N5 (P:Params)(t:List Obj):List Obj:=z226::z227::z1::z8::z228::z1::z229::z230::z231::z1::z8::z232::z1::z233::z234::z235::t
def z236:=zj "marks" Ix
def O9:Obj:=zk "marks" "marks" 671 227 1 3 336 true (.ref 338) 674 675
def Zbg:Obj:=zi "marks" Ix "gapscribe.looks" 639 339
def z239:=zj "kind_at" Hg
def Nt:Obj:=zk "kind_at" "kind_at" 677 229 2 3 341 true (.ref 343) 680 681
def O2:Obj:=zi "kind_at" Hg "gapscribe.looks" 639 344
def Zqt (P:Params)(t:List Obj):List Obj:=z1::z8::z236::O9::Zbg::z1::z8::z239::Nt::O2::t
def Rtree_418:Params->B:=fun P=>tO (Zon P (K1 P (De P (Dx P (Ex P (Fj P (Fu P (G8 P (Il P (Ic P (Kj P (K0 P (Mf P (Lv P (Mk P (Mt P (Nf P (Zbh P (Oe P (Za4 P (N5 P (Zqt P []))))))))))))))))))))))
def d16 (P:Params):=[ze P "__name__" 165 (.str "law_gapscribe_k37_too_big" 693),ze P "__doc__" 166 .none,ze P "__package__" 167 .none,ze P "__loader__" 168 (.builtin "__main__.__loader__#opaque"),ze P "__spec__" 169 .none,ze P "__annotations__" 170 (.ref 6),ze P "__builtins__" 171 (.ref 4),ze P "__file__" 173 (.str "/claim/cut.py" 172),ze P "__cached__" 174 .none,ze P "GapError" 206 (.ref 24),ze P "NoForm" 222 (.ref 37),ze P "NoDeed" 238 (.ref 49),ze P "NoName" 254 (.ref 61),ze P "NoCall" 270 (.ref 73),ze P "NoStep" 286 (.ref 85),ze P "NoRow" 302 (.ref 97),ze P "TooBig" 318 (.ref 109),ze P "TooLong" 334 (.ref 121),ze P "NoPlace" 359 (.ref 140),ze P "Parted" 384 (.ref 159),ze P "Caught" 411 (.ref 178),ze P "GAP" 415 (.ref 182),ze P "is_whole" 422 (.ref 189),ze P "placed_forms" 436 (.ref 196),ze P "has_part" 444 (.ref 203),ze P "forms_down_to" 454 (.ref 210),ze P "form_at" 462 (.ref 217),ze P "with_part" 472 (.ref 224),ze P "with_at" 484 (.ref 231),ze P "names_bound" 494 (.ref 238),ze P "bindings_at" 506 (.ref 245),ze P "names_at" 512 (.ref 250),ze P "binding_at" 524 (.ref 257),ze P "NUM" 528 (.int 0 527),ze P "TRUTH" 530 (.int 1 529),ze P "FIRST_SHAPES" 533 (.ref 260),ze P "new_kind" 541 (.ref 267),ze P "kinds_of_word" 552 (.ref 274),ze P "with_names" 564 (.ref 281),ze P "kinds_in" 583 (.ref 288),ze P "last_same" 592 (.ref 295),ze P "holds_itself" 605 (.ref 302),ze P "joined" 619 (.ref 309),ze P "fitted" 632 (.ref 316),ze P "kinds_told" 638 (.ref 321),ze P "MOST_FORMS" 642 (.int 40 641),ze P "mark_of" 652 (.ref 328),ze P "looks" 670 (.ref 335),ze P "marks" 676 (.ref 340),ze P "kind_at" 682 (.ref 345),ze P "blanked" 692 (.ref 352),ze P "_law_cell_at" 702 (.ref 359),ze P "_law_names" 708 (.ref 364),ze P "_law_same" 717 (.ref 371),ze P "_law_leaf" 725 (.ref 378),ze P "_law_grown" 738 (.ref 385),ze P "_law_refusal" 746 (.ref 392),ze P "_law_answer" 758 (.ref 399),ze P "law" 772 (.ref 406)]
def z242 (P:Params):=zt "dict" (.dict ⟨d16 P⟩ 59)
def y16:List (Int×Int×Addr):=y15++[(233,0,351),(239,0,358),(243,0,363),(257,0,370),(277,0,377),(283,0,384),(302,0,391),(312,0,398),(329,0,405)]
def z243:=zy y16
def Zh4 (P:Params)(t:List Obj):List Obj:=D0 P (z242 P) z243 t
def z244:=zu [("tree",686),("made",687),("place",688),("mark",689)]
def z245:=zj "blanked" Ih
def z246:=zb "blanked" 683 233 1 3 346 690 691
def Zfu (P:Params)(t:List Obj):List Obj:=z1::z8::z236::O9::Zbg::z1::z8::z239::Nt::O2::z1::z8::z244::z1::z245::z246::t
def z247:=zi "blanked" Ih "gapscribe.looks" 639 351
def z248:=zu [("_law_script",698),("_law_k",699)]
def z249:=zj "_law_cell_at" Kz
def z250:=zb "_law_cell_at" 695 239 2 3 353 700 701
def z251:=zi "_law_cell_at" Kz "law_gapscribe_k37_too_big" 693 358
def z252:=zj "_law_names" Kh
def z253:=zk "_law_names" "_law_names" 703 243 2 3 360 true (.ref 362) 706 707
def z254:=zi "_law_names" Kh "law_gapscribe_k37_too_big" 693 363
def z255:=zu [("_law_found",712),("_law_due",713),("_law_k",714)]
def Zef (P:Params)(t:List Obj):List Obj:=z247::z1::z8::z248::z1::z249::z250::z251::z1::z8::z252::z253::z254::z1::z8::z255::t
def z256:=zj "_law_same" F7
def z257:=zb "_law_same" 709 257 2 3 365 715 716
def z258:=zi "_law_same" F7 "law_gapscribe_k37_too_big" 693 370
def z259:=zu [("_law_cell",721),("_law_name",722)]
def z260:=zj "_law_leaf" Ju
def z261:=zb "_law_leaf" 718 277 2 3 372 723 724
def z262:=zi "_law_leaf" Ju "law_gapscribe_k37_too_big" 693 377
def z263:=zu [("_law_many",729),("_law_cell",730),("_law_name",731),("_law_tree",732),("_law_size",733),("_law_turn",734),("_law_leaf_here",735)]
def z264:=zj "_law_grown" K6
def Zc3 (P:Params)(t:List Obj):List Obj:=z1::z256::z257::z258::z1::z8::z259::z1::z260::z261::z262::z1::z8::z263::z1::z264::t
def z265:=zb "_law_grown" 726 283 3 3 379 736 737
def z266:=zi "_law_grown" K6 "law_gapscribe_k37_too_big" 693 384
def z267:=zu [("_law_e",742),("_law_place",743)]
def z268:=zj "_law_refusal" Ku
def z269:=zb "_law_refusal" 739 302 2 3 386 744 745
def z270:=zi "_law_refusal" Ku "law_gapscribe_k37_too_big" 693 391
def z271:=zu [("_law_turn",750),("_law_tree",751),("_law_place",752),("_law_found",753),("_law_late",754),("_law_e",755)]
def z272:=zj "_law_answer" Jv
def z273:=zb "_law_answer" 747 312 3 3 393 756 757
def z274:=zi "_law_answer" Jv "law_gapscribe_k37_too_big" 693 398
def Zfw (P:Params)(t:List Obj):List Obj:=z265::z266::z1::z8::z267::z1::z268::z269::z270::z1::z8::z271::z1::z272::z273::z274::t
def z275:=zu [("_law_script",762),("_law_names_here",763),("_law_many",764),("_law_tree",765),("_law_lost",766),("_law_turn",767),("_law_found",768),("_law_small",769)]
def z276:=zj "law" Jx
def z277:=zb "law" 759 329 1 3 400 770 771
def z278:=zi "law" Jx "law_gapscribe_k37_too_big" 693 405
def Zc1 (P:Params)(t:List Obj):List Obj:=z1::z8::z275::z1::z276::z277::z278::t
def Rtree_481:Params->B:=fun P=>tO (Zh4 P (K1 P (De P (Dx P (Ex P (Fj P (Fu P (G8 P (Il P (Ic P (Kj P (K0 P (Mf P (Lv P (Mk P (Mt P (Nf P (Zbh P (Oe P (Za4 P (N5 P (Zfu P (Zef P (Zc3 P (Zfw P (Zc1 P []))))))))))))))))))))))))))
def Rheap_482:Params->Heap:=fun P=>⟨⟨Zh4 P (K1 P (De P (Dx P (Ex P (Fj P (Fu P (G8 P (Il P (Ic P (Kj P (K0 P (Mf P (Lv P (Mk P (Mt P (Nf P (Zbh P (Oe P (Za4 P (N5 P (Zfu P (Zef P (Zc3 P (Zfw P (Zc1 P [])))))))))))))))))))))))))⟩,Life.mk [] [] [] 0 [] [] false #[] [] 0 false false false 0 [2000,10,10] false 0 true [] [] 0 false⟩
end
noncomputable def KK:Params->Pk:=fun P=>(nat_lit 2,boot_o_2 P)::(nat_lit 3,z242 P)::(nat_lit 23,z11 P)::(nat_lit 24,z128)::(nat_lit 36,z20 P)::(nat_lit 37,z21)::(nat_lit 48,z30 P)::(nat_lit 49,z31)::(nat_lit 60,z40 P)::(nat_lit 61,z41)::(nat_lit 72,z50 P)::(nat_lit 73,z51)::(nat_lit 84,z60 P)::(nat_lit 85,z61)::(nat_lit 96,z70 P)::(nat_lit 97,z71)::(nat_lit 108,z80 P)::(nat_lit 109,z81)::(nat_lit 120,z90 P)::(nat_lit 121,z91)::(nat_lit 136,Zbu)::(nat_lit 137,O4)::(nat_lit 139,Ph P)::(nat_lit 140,Oo)::(nat_lit 158,z122 P)::(nat_lit 159,z123)::(nat_lit 177,z138 P)::(nat_lit 178,z139)::(nat_lit 181,z1)::(nat_lit 182,z142)::(nat_lit 188,z145)::(nat_lit 189,z146)::(nat_lit 195,Zal)::(nat_lit 196,Zbd)::(nat_lit 202,N8)::(nat_lit 203,N1)::(nat_lit 209,z159)::(nat_lit 210,z160)::(nat_lit 216,z163)::(nat_lit 217,z164)::(nat_lit 223,z167)::(nat_lit 224,z168)::(nat_lit 230,z171)::(nat_lit 231,z172)::(nat_lit 237,z175)::(nat_lit 238,z176)::(nat_lit 244,z179)::(nat_lit 245,z180)::(nat_lit 249,z182)::(nat_lit 250,z183)::(nat_lit 256,z186)::(nat_lit 257,z187)::(nat_lit 258,z188)::(nat_lit 259,z189)::(nat_lit 260,z190)::(nat_lit 266,z193)::(nat_lit 267,z194)::(nat_lit 273,Zb6)::(nat_lit 274,Zb2)::(nat_lit 280,z203)::(nat_lit 281,z204)::(nat_lit 287,z207)::(nat_lit 288,z208)::(nat_lit 294,z211)::(nat_lit 295,z212)::(nat_lit 301,z215)::(nat_lit 302,z216)::(nat_lit 308,z219)::(nat_lit 309,z220)::(nat_lit 315,z223)::(nat_lit 316,z224)::(nat_lit 320,z226)::(nat_lit 321,z227)::(nat_lit 327,z230)::(nat_lit 328,z231)::(nat_lit 334,z234)::(nat_lit 335,z235)::(nat_lit 339,O9)::(nat_lit 340,Zbg)::(nat_lit 344,Nt)::(nat_lit 345,O2)::(nat_lit 351,z246)::(nat_lit 352,z247)::(nat_lit 358,z250)::(nat_lit 359,z251)::(nat_lit 363,z253)::(nat_lit 364,z254)::(nat_lit 370,z257)::(nat_lit 371,z258)::(nat_lit 377,z261)::(nat_lit 378,z262)::(nat_lit 384,z265)::(nat_lit 385,z266)::(nat_lit 391,z269)::(nat_lit 392,z270)::(nat_lit 398,z273)::(nat_lit 399,z274)::(nat_lit 405,z277)::(nat_lit 406,z278)::[]
noncomputable def KA:List Addr:=[2,3,23,24,36,37,48,49,60,61,72,73,84,85,96,97,108,109,120,121,136,137,139,140,158,159,177,178,181,182,188,189,195,196,202,203,209,210,216,217,223,224,230,231,237,238,244,245,249,250,256,257,258,259,260,266,267,273,274,280,281,287,288,294,295,301,302,308,309,315,316,320,321,327,328,334,335,339,340,344,345,351,352,358,359,363,364,370,371,377,378,384,385,391,392,398,399,405,406]
noncomputable def RB (P:Params):List Qv×List Heap:=([Rtree_78 P,Rtree_93 P,Rtree_108 P,Rtree_123 P,Rtree_138 P,Rtree_153 P,Rtree_168 P,Rtree_183 P,Rtree_205 P,Rtree_227 P,Rtree_272 P,Rtree_345 P,Rtree_418 P,Rtree_481 P],[Rheap_482 P])
theorem e_RB:RB=RB:=rfl
name_quick x_RB for K37.RB by K37.e_RB
end K37
namespace PySem.W.Fast
noncomputable def tw86621060981024328:Qz->Qv:=tw12234251150171485
theorem te86621060981024328:K37.Rtree_78=tw86621060981024328:=te12234251150171485
noncomputable def tw2850152615334401506:Qz->Qv:=tw12266627068927213144
theorem te2850152615334401506:K37.Rtree_93=tw2850152615334401506:=te12266627068927213144
noncomputable def tw18432955267064077977:Qz->Qv:=tw6953858754373845550
theorem te18432955267064077977:K37.Rtree_108=tw18432955267064077977:=te6953858754373845550
noncomputable def tw9332277304392218789:Qz->Qv:=tw10312791361195479706
theorem te9332277304392218789:K37.Rtree_123=tw9332277304392218789:=te10312791361195479706
noncomputable def tw1490442658469731511:Qz->Qv:=tw411067787729743531
theorem te1490442658469731511:K37.Rtree_138=tw1490442658469731511:=te411067787729743531
noncomputable def tw11407405000398610535:Qz->Qv:=tw14414295835512174615
theorem te11407405000398610535:K37.Rtree_153=tw11407405000398610535:=te14414295835512174615
noncomputable def tw6110006825539745819:Qz->Qv:=tw4084360525319302335
theorem te6110006825539745819:K37.Rtree_168=tw6110006825539745819:=te4084360525319302335
noncomputable def tw17750670246617396970:Qz->Qv:=tw15915935629428419799
theorem te17750670246617396970:K37.Rtree_183=tw17750670246617396970:=te15915935629428419799
noncomputable def tw2787739947140236589:Qz->Qv:=tw8238995344793594883
theorem te2787739947140236589:K37.Rtree_205=tw2787739947140236589:=te8238995344793594883
noncomputable def tw14006517816994246345:Qz->Qv:=tw1274889283850484496
theorem te14006517816994246345:K37.Rtree_227=tw14006517816994246345:=te1274889283850484496
noncomputable def tw15202958730936472949:Qz->Qv:=tw12707500099341139093
theorem te15202958730936472949:K37.Rtree_272=tw15202958730936472949:=te12707500099341139093
noncomputable def tw12530506048686954971:Qz->Qv:=tw9068582657401355914
theorem te12530506048686954971:K37.Rtree_345=tw12530506048686954971:=te9068582657401355914
noncomputable def tw3436439153595733868:Qz->Qv:=tw15840725373205994590
theorem te3436439153595733868:K37.Rtree_418=tw3436439153595733868:=te15840725373205994590
noncomputable def tw12254476022030399959:Qz->Qv:=tw17586898518444638867
theorem te12254476022030399959:K37.Rtree_481=tw12254476022030399959:=te17586898518444638867
noncomputable def tw15487948597647785060:Qz->PySem.Heap:=tw16001369510945729665
theorem te15487948597647785060:K37.Rheap_482=tw15487948597647785060:=te16001369510945729665
end PySem.W.Fast
local macro_rules | `(tactic| walk_at "gd")=>`(tactic| (refine' ⟨?ka,_,L2.fun_mk ?kl ?kc ?kk⟩; (case ka=>k_is); (case kl=>k_is); (case kc=>k_is); (case kk=>k_is)))
local macro_rules | `(tactic| walk_at "gm")=>`(tactic| (refine' ⟨?ka,?ki,_,L2.fun_mk ?kl ?kc ?kk⟩; (case ka=>k_is); (case ki=>k_is); (case kl=>k_is); (case kc=>k_is); (case kk=>k_is)))
namespace K37
open PySem L2 K19
noncomputable abbrev Zbk:=Zh7
theorem all1 {α:Type}{P:List α->Prop}(h:∀ a,P [a]):∀ us:List α,us.length=1->P us
 | [a],_=>h a
theorem all2 {α:Type}{P:List α->Prop}(h:∀ a b,P [a,b]):∀ us:List α,us.length=2->P us
 | [a,b],_=>h a b
theorem all3 {α:Type}{P:List α->Prop}(h:∀ a b c,P [a,b,c]):∀ us:List α,us.length=3->P us
 | [a,b,c],_=>h a b c
theorem all4 {α:Type}{P:List α->Prop}(h:∀ a b c d,P [a,b,c,d]):∀ us:List α,us.length=4->P us
 | [a,b,c,d],_=>h a b c d
local macro_rules | `(tactic| walk_at "bi")=>`(tactic| first | exact fun _ _ _ _ _ _=>K37.all1 fun _=>rfl | exact fun _ _ _ _ _ _=>K37.all2 fun _ _=>rfl | exact fun _ _ _ _ _ _=>K37.all3 fun _ _ _=>rfl | exact fun _ _ _ _ _ _=>K37.all4 fun _ _ _ _=>rfl | exact fun _ _ _ _ _ _=>K37.all5 fun _ _ _ _ _=>rfl)
theorem Zot {K:Pk}{GE:Addr}{ddG:Option Addr}{cdG:ClassData}{slG:Array (Option Value)}{cG:Value}(ho:K.lookup GE=some ⟨cG,ddG,.cls cdG,slG⟩)(hok:T0 K cdG.ns=true)(hni:P3 K cdG.ns "__init__" = some none):Sc K VE (.ref GE::VE)=true/\(R6 K GE).isSome=true:=by
 have e:Sc K VE VE=true:=by unfold Sc;rfl
 refine ⟨?_,by unfold R6;rw [ho];rfl⟩
 unfold Sc
 dsimp only
 rw [ho]
 dsimp only
 rw [hok,hni,e]
 simp
theorem Zfn {K:Pk}{C GE:Addr}{ddC:Option Addr}{cdC:ClassData}{slC:Array (Option Value)}{k0 k1 k2 k3 k5:Option Value}(hC:K.lookup C=some ⟨.type "type",ddC,.cls cdC,slC⟩)(hm:cdC.mro=.ref C::.ref GE::VE)(hs:slC.toList=[k0,k1,k2,k3,some (.builtin "ValueError.__new__"),k5])(hd:cdC.hasDel=false)(h:Sc K VE (.ref GE::VE)=true):Zaz K C/\((R6 K C).any fun cd=>G9 cd.mro)=true:=by
 refine ⟨?_,?_⟩
 ·obtain ⟨nm,bs,mro,ns,qn,hd',sn,sub,ab,col,del⟩:=cdC
  obtain ⟨l⟩:=slC
  dsimp only at hm hd hs
  subst hm hd hs
  exact ⟨_,_,_,_,_,_,_,_,_,_,_,_,_,_,_,_,hC,h⟩
 ·unfold R6
  rw [hC]
  dsimp only
  show G9 cdC.mro=true
  rw [hm]
  show G9 VE=true
  decide
theorem B8 {K:Pk}{C X:Addr}{b:Bool}{c:Value}{dd:Option Addr}{cd:ClassData}{sl:Array (Option Value)}(hX:K.lookup X=some ⟨c,dd,.cls cd,sl⟩)(ht:Qo K (.ref X)=some (.type "type"))(hs:Pz K (.ref C) (.ref X)=some b)(hn:b=false->(C == X)=false):Qn K (.ref C) (.ref X)=some b:=by
 unfold Qn
 by_cases h:((Value.ref C) == (Value.ref X))=true
 ·rw [if_pos h]
  have e:=beq_iff_eq.mp h
  injection e with e
  subst e
  cases b with
  | true=>rfl
  | false=>have:=hn rfl;simp at this
 ·rw [if_neg h]
  unfold PySem.W.kitCls
  dsimp only
  rw [if_pos]
  ·exact hs
  ·rw [ht]
   unfold R6
   rw [hX]
   simp
theorem Zfs {K:Pk}{C:Addr}(hs:Pz K (.ref C) (.type "ValueError")=some true):Qn K (.ref C) (.type "ValueError")=some true:=by
 unfold Qn
 rw [if_neg (by intro h;have:=beq_iff_eq.mp h;cases this)]
 unfold PySem.W.kitCls
 dsimp only
 rw [if_pos (by rfl)]
 exact hs
theorem Zta {K:Pk}{C GE:Addr}{ddC:Option Addr}{cdC:ClassData}{slC:Array (Option Value)}{k0 k1 k2 k3 k5:Option Value}(hC:K.lookup C=some ⟨.type "type",ddC,.cls cdC,slC⟩)(hm:cdC.mro=.ref C::.ref GE::VE)(hs:slC.toList=[k0,k1,k2,k3,some (.builtin "ValueError.__new__"),k5])(hd:cdC.hasDel=false)(h:Sc K VE (.ref GE::VE)=true)(hok:T0 K cdC.ns=true)(hni:P3 K cdC.ns "__init__" = some none):Ma K C:=by
 obtain ⟨nm,bs,mro,ns,qn,hd',sn,sub,ab,col,del⟩:=cdC
 obtain ⟨l⟩:=slC
 dsimp only at hm hd hok hni hs
 subst hm hd hs
 exact ⟨_,_,_,_,_,_,_,_,_,_,_,_,_,_,_,_,hC,h,hok,hni⟩
theorem Zrk {K:Pk}{a e:Addr}{od:Option Addr}{its:Array Value}{n:Nat}{sl:Array (Option Value)}{tk:Tok}(l:K.lookup a=some ⟨.type "tuple",od,.seq its n,sl⟩)(h:its.toList=[.str "gap" tk,.none,.ref e]):∀ H,SqT K H a [.str "gap",.non,.ref e]:=fun H=>by
 have v:Vals [.str "gap",.non,.ref e] its.toList:=by rw [h];exact .cons ⟨tk,rfl⟩ (.cons rfl (.cons rfl .nil))
 refine .inr ⟨_,its,n,l,rfl,rfl,?_,v⟩
 have b:1000<=sizeLine:=by decide
 have e2:its.toList.length=its.size:=Tk
 have e3:its.toList.length=3:=by rw [h];rfl
 omega
theorem two_top {K:Pk}{a d e:Addr}{od:Option Addr}{its:Array Value}{n:Nat}{sl:Array (Option Value)}(l:K.lookup a=some ⟨.type "tuple",od,.seq its n,sl⟩)(h:its.toList=[.ref d,.ref e]):∀ H,SqT K H a [.ref d,.ref e]:=fun H=>by
 have v:Vals [.ref d,.ref e] its.toList:=by rw [h];exact .cons rfl (.cons rfl .nil)
 refine .inr ⟨_,its,n,l,rfl,rfl,?_,v⟩
 have b:1000<=sizeLine:=by decide
 have e2:its.toList.length=its.size:=Tk
 have e3:its.toList.length=2:=by rw [h];rfl
 omega
theorem Zhq {P:Program}{w:World}{K:Pk}{mg:Str->Option Value}{base:Heap}{f:Addr}{fd:FuncData}(F:Fun K "_law_same" "_law_same" F7 f fd)(T:Txt K mg)
  (mk:∀ n,As P w K mg base Az (n+1) f fd ["_law_found", "_law_due"] (Hq K n)->Ba P w K mg base (n+1) "_law_same" ["_law_found", "_law_due"] (Hq K n)):∀ n,As P w K mg base Az (n+1) f fd ["_law_found", "_law_due"] (Hq K n)
 | 0=>by
  have no:∀ vs H Q E,¬ Hq K 0 vs H Q E:=by
   rintro vs H Q E ⟨x,y,d,m,_,h,_⟩
   exact absurd h (Tx _)
  exact ⟨fun vs H Q E h=>absurd h (no _ _ _ _),fun A outer s H args us vs Q E _ _ _ _ h=>absurd h (no _ _ _ _)⟩
 | n+1=>Zsn F T (mk n (Zhq F T mk n))
noncomputable abbrev Gd (K:Pk)(n:Str)(st:Stmt)(f:Addr):Prop:=P3 K mainGlobals n=some (some (.ref f))/\∃ fd,Fun K n n st f fd
noncomputable abbrev Gm (K:Pk)(C:Addr)(n q:Str)(st:Stmt)(f:Addr):Prop:=Qk K (.ref C) n=some (some (.ref f))/\PySem.W.isFn K (.ref f)=true/\∃ fd,Fun K n q st f fd
noncomputable abbrev Bi (n q:Str)(st:Stmt)(ps:List Str):Prop:=∀(kV doc pm:Value)(an:Option Addr)(cdv ct:Value)(us:List Value),us.length=ps.length->bindArgs (Ry n q (Hl st) (E6 st) (A0 st) .none kV doc pm an cdv ct) ⟨us,[]⟩=pure (ps.zip us)
section
variable {P:Program}{w:World}{K:Pk}{mg:Str->Option Value}{base h:Heap}(X:K.In h)(G:h.Ns mainGlobals mg){n q:Str}{st:Stmt}{f C:Addr}{k:Nat}{ps:List Str}{sp:Sp}
include X G
theorem cal (g:Gd K n st f)(ok:∀ fd,Fun K n n st f fd->As P w K mg base Az k f fd ps sp)(b:Bi n n st ps:=by walk_at "bi"):Ba P w K mg base k n ps sp:=by
 obtain ⟨a,fd,F⟩:=g
 exact Ze3 (ok fd F) (Uq X G a) F.kp (F.binds b)
theorem calx (g:Gd K n st f)(ok:∀ fd,Fun K n n st f fd->As P w K mg base (Ci P w) k f fd ps sp)(b:Bi n n st ps:=by walk_at "bi"):Dq P w K mg base k n ps sp:=by
 obtain ⟨a,fd,F⟩:=g
 exact Zn8 (ok fd F) (Uq X G a) F.kp (F.binds b)
theorem calh {sp:Addr->Sp}(g:Gd K n st f)(ok:∀ fd,Fun K n n st f fd->Gg P w K mg base k f fd ps sp)(b:Bi n n st ps:=by walk_at "bi"):Ik P w K mg base k n ps sp:=by
 obtain ⟨a,fd,F⟩:=g
 exact Zsh (ok fd F) (Uq X G a) F.kp (F.binds b)
end
theorem all_mk {l:W7}{w:World}{K:Pk}{h:Heap}{mg:Str->Option Value}{fa f1 f2 f3 f4 f5 f6 f7 f8 f9 f10 f11 f12 f13 f14 f15 f16 f17 f18 f19 f20 f21 f22 f23 f24 f25 f26 f27 f28 f29 f30 f31 f32 f33:Addr}(X:K.In h)(G:h.Ns mainGlobals mg)(hfa:mg "law" = some (.ref fa))
  (a1:Gd K "is_whole" Kx f1) (a2:Gd K "placed_forms" K2 f2) (a3:Gd K "has_part" Ie f3) (a4:Gd K "forms_down_to" Jm f4) (a5:Gd K "form_at" Jb f5) (a6:Gd K "with_part" Lh f6) (a7:Gd K "with_at" Li f7) (a8:Gd K "names_bound" K9 f8) (a9:Gd K "bindings_at" Ks f9) (a10:Gd K "names_at" Lj f10) (a11:Gd K "binding_at" Kv f11) (a12:Gd K "new_kind" Ko f12) (a13:Gd K "kinds_of_word" Jz f13) (a14:Gd K "with_names" Kp f14) (a15:Gd K "kinds_in" Lc f15)
  (a16:Gd K "last_same" Ka f16) (a17:Gd K "holds_itself" Le f17) (a18:Gd K "joined" Lb f18) (a19:Gd K "fitted" Lf f19) (a20:Gd K "kinds_told" K5 f20) (a21:Gd K "mark_of" K7 f21) (a22:Gd K "looks" Im f22) (a23:Gd K "marks" Ix f23) (a24:Gd K "kind_at" Hg f24) (a25:Gd K "blanked" Ih f25) (a26:Gd K "_law_cell_at" Kz f26) (a27:Gd K "_law_names" Kh f27) (a28:Gd K "_law_same" F7 f28) (a29:Gd K "_law_leaf" Ju f29) (a30:Gd K "_law_grown" K6 f30) (a31:Gd K "_law_refusal" Ku f31)
  (a32:Gd K "_law_answer" Jv f32) (a33:Gd K "law" Jx f33) (z1:P3 K mainGlobals "isinstance" = some none) (z2:P3 K mainGlobals "int" = some none) (z3:P3 K mainGlobals "bool" = some none) (z4:P3 K mainGlobals "reversed" = some none) (z5:P3 K mainGlobals "list" = some none) (z6:P3 K mainGlobals "enumerate" = some none) (z7:P3 K mainGlobals "len" = some none) (z8:P3 K mainGlobals "zip" = some none) (z9:P3 K mainGlobals "dict" = some none) (z10:P3 K mainGlobals "tuple" = some none)
  (z11:P3 K mainGlobals "range" = some none) (z12:P3 K mainGlobals "str" = some none) (z13:P3 K mainGlobals "ValueError" = some none) {u1 u2 u3 u4:Tok} (b1:P3 K mainGlobals "NUM" = some (some (.int 0 u1))) (b2:P3 K mainGlobals "TRUTH" = some (some (.int 1 u2))) (b3:P3 K mainGlobals "MOST_FORMS" = some (some (.int 40 u3))) {fs t0 t1 ag ae:Addr} {o2 o0 o1 o3 o4:Option Addr} {i2 i0 i1 i3 i4:Array Value} {n2 n0 n1 n3 n4:Nat} {l2 l0 l1 l3 l4:Array (Option Value)} (b4:P3 K mainGlobals "FIRST_SHAPES" = some (some (.ref fs)))
  (b5:P3 K mainGlobals "GAP" = some (some (.ref ag))) (gtA:K.lookup fs=some ⟨.type "tuple",o2,.seq i2 n2,l2⟩) (eA:i2.toList=[.ref t0,.ref t1]) (gtB:K.lookup t0=some ⟨.type "tuple",o0,.seq i0 n0,l0⟩) (eB:Hd i0.toList=some [.str "num"]) (gtC:K.lookup t1=some ⟨.type "tuple",o1,.seq i1 n1,l1⟩) (eC:Hd i1.toList=some [.str "truth"]) (gtD:K.lookup ag=some ⟨.type "tuple",o3,.seq i3 n3,l3⟩) (eD:i3.toList=[.str "gap" u4,.none,.ref ae]) (gtE:K.lookup ae=some ⟨.type "tuple",o4,.seq i4 n4,l4⟩) (eE:Hd i4.toList=some []) {GE TB NP gi:Addr}
  {cG cN cM:Value} {dG dN dT dM dP:Option Addr} {kG kT kP:ClassData} {lG lN lT lM lP:Array (Option Value)} {eN eM:Array DictEntry} {nN nM:Nat} {j0 j1 j2 j3 j5 e0 e1 e2 e3 e5:Option Value} (x1:P3 K mainGlobals "GapError" = some (some (.ref GE))) (x2:K.lookup GE=some ⟨cG,dG,.cls kG,lG⟩) (x3:K.lookup kG.ns=some ⟨cN,dN,.dict eN nN,lN⟩) (x4:(eN.toList.all fun e=>match e.key with | .str _ _=>true | _=>false)=true) (x5:P3 K kG.ns "__init__" = some none) (x6:Qo K (.ref GE)=some (.type "type")) (x7:Pz K (.ref GE) (.type "BaseException")=some true)
  (x8:Ws K (.builtin "object.__class__") "__get__" = some (some (.builtin "getset_descriptor.__get__"))) (x9:W4 K (.builtin "object.__class__")=some true) (tb1:P3 K mainGlobals "TooBig" = some (some (.ref TB))) (pb1:P3 K mainGlobals "NoPlace" = some (some (.ref NP))) (tb2:K.lookup TB=some ⟨.type "type",dT,.cls kT,lT⟩) (tb3:kT.mro=.ref TB::.ref GE::VE) (tb4:lT.toList=[j0,j1,j2,j3,some (.builtin "ValueError.__new__"),j5]) (tb5:kT.hasDel=false) (tb9:Qo K (.ref TB)=some (.type "type")) (tbA:Vj K TB=true)
  (tbB:Qk K (.ref TB) "__getattribute__" = some (some (.builtin "BaseException.__getattribute__"))) (tbC:Qk K (.ref TB) "__getattr__" = some none) (tbD:Qk K (.ref TB) "__setattr__" = some (some (.builtin "object.__setattr__"))) (tbX:Qk K (.ref TB) "__class__" = some (some (.builtin "object.__class__"))) (tbF:Pz K (.ref TB) (.type "BaseException")=some true) (tbV:Pz K (.ref TB) (.type "ValueError")=some true) (tbE:Pz K (.ref TB) (.ref GE)=some true) (tbT:Pz K (.ref TB) (.ref TB)=some true)
  (tbP:Pz K (.ref TB) (.ref NP)=some false) (pb2:K.lookup NP=some ⟨.type "type",dP,.cls kP,lP⟩) (pb3:kP.mro=.ref NP::.ref GE::VE) (pb4:lP.toList=[e0,e1,e2,e3,some (.builtin "ValueError.__new__"),e5]) (pb5:kP.hasDel=false) (pb9:Qo K (.ref NP)=some (.type "type")) (pbA:Vj K NP=true) (pbB:Qk K (.ref NP) "__getattribute__" = some (some (.builtin "BaseException.__getattribute__"))) (pbC:Qk K (.ref NP) "__getattr__" = some none) (pbD:Qk K (.ref NP) "__setattr__" = some (some (.builtin "object.__setattr__")))
  (pbX:Qk K (.ref NP) "__class__" = some (some (.builtin "object.__class__"))) (pbF:Pz K (.ref NP) (.type "BaseException")=some true) (pbV:Pz K (.ref NP) (.type "ValueError")=some true) (pbE:Pz K (.ref NP) (.ref GE)=some true) (pbT:Pz K (.ref NP) (.ref TB)=some false) (pbP:Pz K (.ref NP) (.ref NP)=some true) (tbm:(TB == NP)=false) (pbm:(NP == TB)=false) (tb6:K.lookup kT.ns=some ⟨cM,dM,.dict eM nM,lM⟩) (tb7:(eM.toList.all fun e=>match e.key with | .str _ _=>true | _=>false)=true) (tb8:P3 K kT.ns "__init__" = some none)
  (pz:Ro K (.ref NP)=true) (po:Qk K (.ref NP) "place" = some none) (pq:Gm K NP "__init__" "NoPlace.__init__" Jt gi) {NF:Addr} {cNF:Value} {ddNF:Option Addr} {cdNF:ClassData} {slNF:Array (Option Value)} (qNF1:P3 K mainGlobals "NoForm" = some (some (.ref NF))) (qNF2:K.lookup NF=some ⟨cNF,ddNF,.cls cdNF,slNF⟩) (qNF3:Qo K (.ref NF)=some (.type "type")) (qNFTB:Pz K (.ref TB) (.ref NF)=some false) (eNFTB:(TB == NF)=false) (qNFNP:Pz K (.ref NP) (.ref NF)=some false) (eNFNP:(NP == NF)=false)
  {PA:Addr} {cPA:Value} {ddPA:Option Addr} {cdPA:ClassData} {slPA:Array (Option Value)} (qPA1:P3 K mainGlobals "Parted" = some (some (.ref PA))) (qPA2:K.lookup PA=some ⟨cPA,ddPA,.cls cdPA,slPA⟩) (qPA3:Qo K (.ref PA)=some (.type "type")) (qPATB:Pz K (.ref TB) (.ref PA)=some false) (ePATB:(TB == PA)=false) (qPANP:Pz K (.ref NP) (.ref PA)=some false) (ePANP:(NP == PA)=false) {TL:Addr} {cTL:Value} {ddTL:Option Addr} {cdTL:ClassData} {slTL:Array (Option Value)} (qTL1:P3 K mainGlobals "TooLong" = some (some (.ref TL)))
  (qTL2:K.lookup TL=some ⟨cTL,ddTL,.cls cdTL,slTL⟩) (qTL3:Qo K (.ref TL)=some (.type "type")) (qTLTB:Pz K (.ref TB) (.ref TL)=some false) (eTLTB:(TB == TL)=false) (qTLNP:Pz K (.ref NP) (.ref TL)=some false) (eTLNP:(NP == TL)=false) {ND:Addr} {cND:Value} {ddND:Option Addr} {cdND:ClassData} {slND:Array (Option Value)} (qND1:P3 K mainGlobals "NoDeed" = some (some (.ref ND))) (qND2:K.lookup ND=some ⟨cND,ddND,.cls cdND,slND⟩) (qND3:Qo K (.ref ND)=some (.type "type")) (qNDTB:Pz K (.ref TB) (.ref ND)=some false)
  (eNDTB:(TB == ND)=false) (qNDNP:Pz K (.ref NP) (.ref ND)=some false) (eNDNP:(NP == ND)=false) {NN:Addr} {cNN:Value} {ddNN:Option Addr} {cdNN:ClassData} {slNN:Array (Option Value)} (qNN1:P3 K mainGlobals "NoName" = some (some (.ref NN))) (qNN2:K.lookup NN=some ⟨cNN,ddNN,.cls cdNN,slNN⟩) (qNN3:Qo K (.ref NN)=some (.type "type")) (qNNTB:Pz K (.ref TB) (.ref NN)=some false) (eNNTB:(TB == NN)=false) (qNNNP:Pz K (.ref NP) (.ref NN)=some false) (eNNNP:(NP == NN)=false) {CA:Addr} {cCA:Value}
  {ddCA:Option Addr} {cdCA:ClassData} {slCA:Array (Option Value)} (qCA1:P3 K mainGlobals "Caught" = some (some (.ref CA))) (qCA2:K.lookup CA=some ⟨cCA,ddCA,.cls cdCA,slCA⟩) (qCA3:Qo K (.ref CA)=some (.type "type")) (qCATB:Pz K (.ref TB) (.ref CA)=some false) (eCATB:(TB == CA)=false) (qCANP:Pz K (.ref NP) (.ref CA)=some false) (eCANP:(NP == CA)=false) {NC:Addr} {cNC:Value} {ddNC:Option Addr} {cdNC:ClassData} {slNC:Array (Option Value)} (qNC1:P3 K mainGlobals "NoCall" = some (some (.ref NC))) (qNC2:K.lookup NC=some ⟨cNC,ddNC,.cls cdNC,slNC⟩)
  (qNC3:Qo K (.ref NC)=some (.type "type")) (qNCTB:Pz K (.ref TB) (.ref NC)=some false) (eNCTB:(TB == NC)=false) (qNCNP:Pz K (.ref NP) (.ref NC)=some false) (eNCNP:(NP == NC)=false) {NR:Addr} {cNR:Value} {ddNR:Option Addr} {cdNR:ClassData} {slNR:Array (Option Value)} (qNR1:P3 K mainGlobals "NoRow" = some (some (.ref NR))) (qNR2:K.lookup NR=some ⟨cNR,ddNR,.cls cdNR,slNR⟩) (qNR3:Qo K (.ref NR)=some (.type "type")) (qNRTB:Pz K (.ref TB) (.ref NR)=some false) (eNRTB:(TB == NR)=false)
  (qNRNP:Pz K (.ref NP) (.ref NR)=some false) (eNRNP:(NP == NR)=false) {NS:Addr} {cNS:Value} {ddNS:Option Addr} {cdNS:ClassData} {slNS:Array (Option Value)} (qNS1:P3 K mainGlobals "NoStep" = some (some (.ref NS))) (qNS2:K.lookup NS=some ⟨cNS,ddNS,.cls cdNS,slNS⟩) (qNS3:Qo K (.ref NS)=some (.type "type")) (qNSTB:Pz K (.ref TB) (.ref NS)=some false) (eNSTB:(TB == NS)=false) (qNSNP:Pz K (.ref NP) (.ref NS)=some false) (eNSNP:(NP == NS)=false) :
  ∃ fd:FuncData,(∀(s:Shared)(v:Value),BindsTo s fd ⟨[v],[]⟩ [("_law_script",v)])/\∀ base:Heap,K.In base->base.Ns mainGlobals mg->As l.prog w K mg base Az 12 fa fd ["_law_script"] (Zbk K):=by
 obtain ⟨aL,fd,FL⟩:=a33
 have e:=hfa.symm.trans (Uq X G aL)
 cases e
 have FX:=FL
 obtain ⟨_,_,kV,doc,pm,an,cdv,ct,_,ef,_,_⟩:=FL.ex
 refine ⟨fd,fun s v=>by rw [ef];exact .of_eq rfl,fun base _ _=>?_⟩
 have gl:=fun {n v}=>@Uq K h mg n v X G
 have no:=fun {n}=>@PySem.W.mg_none_of K h mg n X G
 have T:Txt K mg:=⟨no z1,no z2,no z3,no z4,no z5,no z6,no z7,no z8,no z9,no z10,no z11,no z12,no z13⟩
 have GN:Ec mg "NUM" (.int 0):=⟨_,gl b1,⟨_,rfl⟩⟩
 have GT:Ec mg "TRUTH" (.int 1):=⟨_,gl b2,⟨_,rfl⟩⟩
 have GM:Ec mg "MOST_FORMS" (.int 40):=⟨_,gl b3,⟨_,rfl⟩⟩
 have GF:Ec mg "FIRST_SHAPES" (.ref fs):=⟨_,gl b4,rfl⟩
 have GG:Ec mg "GAP" (.ref ag):=⟨_,gl b5,rfl⟩
 have HF:=two_top gtA eA
 have HF0:=Zaq gtB eB (by decide)
 have HF1:=Zaq gtC eC (by decide)
 have GA:Zge K ag:=⟨fun H=>TrAt.gap (Zrk gtD eD H) (Zaq gtE eE (by decide) H)⟩
 obtain ⟨tG,iG⟩:=Zot x2 (by unfold T0;rw [x3];show (eN.all fun e=>match e.key with | .str _ _=>true | _=>false)=true;rw [<- Array.all_toList];exact x4) x5
 have rTB:=Zta tb2 tb3 tb4 tb5 tG (by unfold T0;rw [tb6];show (eM.all fun e=>match e.key with | .str _ _=>true | _=>false)=true;rw [<- Array.all_toList];exact tb7) tb8
 have gTB:=gl tb1
 have gG:=gl x1
 have gNP:=gl pb1
 have XG:Nd K GE:=⟨x6,iG,x7⟩
 have eP:=Zfn pb2 pb3 pb4 pb5 tG
 have xC:ExC K NP:=⟨eP.2,pbA,pbB,pbC,pbD,pb9⟩
 have xB:ExC K TB:=⟨(Zfn tb2 tb3 tb4 tb5 tG).2,tbA,tbB,tbC,tbD,tb9⟩
 have nA:NoAttr K NP "place" := po
 have OB:XcB K TB TB NP NF PA TL ND NN CA NC NR NS false:=⟨Zfs tbV,by simp only [Sw,B8 qNF2 qNF3 qNFTB fun _=>eNFTB,B8 qPA2 qPA3 qPATB fun _=>ePATB,B8 qTL2 qTL3 qTLTB fun _=>eTLTB,B8 qND2 qND3 qNDTB fun _=>eNDTB,B8 qNN2 qNN3 qNNTB fun _=>eNNTB],by simp only [Sw,B8 qCA2 qCA3 qCATB fun _=>eCATB,B8 qNC2 qNC3 qNCTB fun _=>eNCTB,B8 qNR2 qNR3 qNRTB fun _=>eNRTB,B8 qNS2 qNS3 qNSTB fun _=>eNSTB],B8 tb2 tb9 tbT (fun h=>nomatch h),B8 pb2 pb9 tbP fun _=>tbm,{ toExC:=xB,ca:=tbX,cg:=x8,ct:=x9 }⟩
 have OP:XcB K NP TB NP NF PA TL ND NN CA NC NR NS true:=⟨Zfs pbV,by simp only [Sw,B8 qNF2 qNF3 qNFNP fun _=>eNFNP,B8 qPA2 qPA3 qPANP fun _=>ePANP,B8 qTL2 qTL3 qTLNP fun _=>eTLNP,B8 qND2 qND3 qNDNP fun _=>eNDNP,B8 qNN2 qNN3 qNNNP fun _=>eNNNP],by simp only [Sw,B8 qCA2 qCA3 qCANP fun _=>eCANP,B8 qNC2 qNC3 qNCNP fun _=>eNCNP,B8 qNR2 qNR3 qNRNP fun _=>eNRNP,B8 qNS2 qNS3 qNSNP fun _=>eNSNP],B8 tb2 tb9 pbT fun _=>pbm,B8 pb2 pb9 pbP (fun h=>nomatch h),{ toExC:=xC,ca:=pbX,cg:=x8,ct:=x9 }⟩
 obtain ⟨pqa,pqi,fdi,Fi⟩:=pq
 have RZ:Rz K NP gi:=⟨eP.1,pqa,pqi,pz,pbF,pb9⟩
 have ca:=fun {k n st f ps sp}=>@cal l.prog w K mg base h X G n st f k ps sp
 have cx:=fun {k n st f ps sp}=>@calx l.prog w K mg base h X G n st f k ps sp
 have ch:=fun {k n st f ps sp}=>@calh l.prog w K mg base h X G n st f k ps sp
 have C_is_whole:=ca a1 fun _ F=>Ztt F T
 have C_placed_forms:=ca a2 fun _ F=>Zjg F T
 have C_has_part:=ca a3 fun _ F=>Zkw F T C_is_whole
 have CZ_has_part:=ca a3 fun _ F=>Zou F T C_is_whole
 have C_forms_down_to:=ca a4 fun _ F=>Zm2 F T C_has_part
 have CX_forms_down_to:=cx a4 fun _ F=>Zrt F T CZ_has_part RZ (Zs9 Fi) (Fi.binds (by walk_at "bi")) gNP xC nA
 have C_form_at:=ca a5 fun _ F=>Ztu F T C_forms_down_to
 have CX_form_at:=cx a5 fun _ F=>Zrq F T CX_forms_down_to
 have C_with_part:=ca a6 fun _ F=>Zix F T
 have C_with_at:=ca a7 fun _ F=>Zn3 F T C_forms_down_to C_with_part
 have C_names_bound:=ca a8 fun _ F=>Zrc F T
 have C_bindings_at:=ca a9 fun _ F=>Zm6 F T C_forms_down_to C_names_bound
 have C_names_at:=ca a10 fun _ F=>Zjd F T C_bindings_at
 have C_binding_at:=ca a11 fun _ F=>Zmj F T C_names_at
 have C_new_kind:=ca a12 fun _ F=>Zkg F T
 have C_kinds_of_word:=ca a13 fun _ F=>Zm5 F T GN GT C_new_kind
 have C_with_names:=ca a14 fun _ F=>Zsk F T
 have C_kinds_in:=ca a15 fun _ F=>Zkp F T GF HF HF0 HF1 C_kinds_of_word C_with_names C_names_bound
 have C_last_same:=ca a16 fun _ F=>Zll F T
 have C_holds_itself:=ca a17 fun _ F=>Zn9 F T C_last_same
 have C_joined:=ca a18 fun _ F=>Ztw F T C_last_same C_holds_itself
 have C_fitted:=ca a19 fun _ F=>Znn F T C_joined
 have C_kinds_told:=ca a20 fun _ F=>Zqk F T C_last_same
 have C_mark_of:=ca a21 fun _ F=>Zoi F T C_binding_at
 have C_looks:=ca a22 fun _ F=>Zfh F T GM C_placed_forms C_kinds_in C_fitted C_kinds_told C_mark_of
 have CX_looks:=cx a22 fun _ F=>Zff F T GM C_placed_forms rTB gTB
 have CO_looks:=cx a22 fun _ F=>K4 (Lu (Zfh F T GM C_placed_forms C_kinds_in C_fitted C_kinds_told C_mark_of)) (Zff F T GM C_placed_forms rTB gTB)
 have C_marks:=ca a23 fun _ F=>Zhu F T C_looks
 have CX_marks:=cx a23 fun _ F=>Zgd F T CX_looks
 have CO_marks:=cx a23 fun _ F=>K4 (Lu (Zhu F T C_looks)) (Zgd F T CX_looks)
 have CO_kind_at:=cx a24 fun _ F=>K4 (K4 (Lu (Znc F T C_looks C_form_at)) (Zj7 F T CX_looks)) (Zr2 F T C_looks CX_form_at)
 have CO_blanked:=cx a25 fun _ F=>K4 (Lu (Zoh F T GG GA C_marks C_with_at)) (Zjs F T CX_marks)
 have C__law_cell_at:=ca a26 fun _ F=>Zjx F T
 have C__law_names:=ca a27 fun _ F=>Zk3 F T
 have C__law_same:=ca a28 fun _ F=>Zhq F T (fun n h=>Ze3 h (gl a28.1) F.kp (F.binds (by walk_at "bi"))) 7
 have CI:=ch a28 fun _ F=>Zsz F T
 have CT:=ch a28 fun _ F=>Zlo F T CI
 have C__law_leaf:=ca a29 fun _ F=>Zpy F T
 have C__law_grown:=ca a30 fun _ F=>Zor F T C__law_leaf
 have CH_refusal:=ch a31 fun _ F=>Ztk F T CT gTB gNP (gl qNF1) (gl qPA1) (gl qTL1) (gl qND1) (gl qNN1) (gl qCA1) (gl qNC1) (gl qNR1) (gl qNS1) xC nA OB OP
 have C__law_answer:=ca a32 fun _ F=>Zjy F T CO_looks CO_marks CO_kind_at CO_blanked CH_refusal XG gG tbE pbE
 exact Zi7 FX T C__law_cell_at C__law_names C__law_grown C__law_answer C__law_same
theorem walk {l:W7}{q:Program}{loose:List Str}{XP:(Str->Option Value)->Heap->Prop}{YP:World->Heap->Prop}{d:DefRec}{K:Params->Pk}(hn:l.most=some 63)(hdf:d.params.defaults=[])
  (hY:∀(w:World)(h:Heap),YP w h->(K w.params).In h)
  (F:∀(w:World)(mg:Str->Option Value)(fa:Addr)(h:Heap),(K w.params).In h->h.Ns mainGlobals mg->mg d.name=some (.ref fa) ->
   ∃ fd:FuncData,(∀(s:Shared)(u:Value),BindsTo s fd ⟨[u],[]⟩ [("_law_script",u)])/\∀ base:Heap,(K w.params).In base->base.Ns mainGlobals mg->As l.prog w (K w.params) mg base Az 12 fa fd ["_law_script"] (Zbk (K w.params))) :
  PySem.W.WalkO q loose XP YP l.row.toRowW d [] (fun f vs=>PySem.call f vs) :=
 L2.walk_of (n:=63) (k:=12) (x := "_law_script") (CX:=fun _=>Az) (sp:=fun w=>Zbk (K w.params)) hn (by decide) hdf ⟨rfl,by decide,by decide⟩ hY F (fun _ _ a ns hl _ hS=>⟨a,ns,rfl,hS,hl,fun _=>rfl⟩) fun _ _ _ _ _ z=>z
end K37
open PySem PySem.W PyProof.Rows
set_option maxRecDepth 100000 in
set_option maxHeartbeats 0 in
theorem PySem.Challenge.cw_gapscribe_k37_too_big_holds : PySem.Challenge.rw_gapscribe_k37_too_big.Holds := by
 w_on; o_law; o_head (PySem.W.kHook K37.KK K37.KA (fun _=>by kernel_rfl)); (case hw=>w_witness2)
 k_fill
 refine K37.walk (l:=PySem.Challenge.rw_gapscribe_k37_too_big) rfl rfl (fun w h Y=>PySem.W.kIn_of Y) ?F
 case F =>
  intro w mg fa h KX G hmg
  refine' K37.all_mk KX G hmg ?a1 ?a2 ?a3 ?a4 ?a5 ?a6 ?a7 ?a8 ?a9 ?a10 ?a11 ?a12 ?a13 ?a14 ?a15 ?a16 ?a17 ?a18 ?a19 ?a20 ?a21 ?a22 ?a23 ?a24 ?a25 ?a26 ?a27 ?a28 ?a29 ?a30 ?a31 ?a32 ?a33 ?z1 ?z2 ?z3 ?z4 ?z5 ?z6 ?z7 ?z8 ?z9 ?z10 ?z11 ?z12 ?z13 ?b1 ?b2 ?b3 ?b4 ?b5 ?gtA ?eA ?gtB ?eB ?gtC ?eC ?gtD ?eD ?gtE ?eE ?x1 ?x2 ?x3 ?x4 ?x5 ?x6 ?x7 ?x8 ?x9 ?tb1 ?pb1 ?tb2 ?tb3 ?tb4 ?tb5 ?tb9 ?tbA ?tbB ?tbC ?tbD ?tbX ?tbF ?tbV ?tbE ?tbT ?tbP ?pb2 ?pb3 ?pb4 ?pb5 ?pb9 ?pbA ?pbB ?pbC ?pbD ?pbX ?pbF ?pbV ?pbE ?pbT ?pbP ?tbm ?pbm ?tb6 ?tb7 ?tb8 ?pz ?po ?pq ?qNF1 ?qNF2 ?qNF3 ?qNFTB ?eNFTB ?qNFNP ?eNFNP ?qPA1 ?qPA2 ?qPA3 ?qPATB ?ePATB ?qPANP ?ePANP ?qTL1 ?qTL2 ?qTL3 ?qTLTB ?eTLTB ?qTLNP ?eTLNP ?qND1 ?qND2 ?qND3 ?qNDTB ?eNDTB ?qNDNP ?eNDNP ?qNN1 ?qNN2 ?qNN3 ?qNNTB ?eNNTB ?qNNNP ?eNNNP ?qCA1 ?qCA2 ?qCA3 ?qCATB ?eCATB ?qCANP ?eCANP ?qNC1 ?qNC2 ?qNC3 ?qNCTB ?eNCTB ?qNCNP ?eNCNP ?qNR1 ?qNR2 ?qNR3 ?qNRTB ?eNRTB ?qNRNP ?eNRNP ?qNS1 ?qNS2 ?qNS3 ?qNSTB ?eNSTB ?qNSNP ?eNSNP
  (case a1=>walk_at "gd")
  (case a2=>walk_at "gd")
  (case a3=>walk_at "gd")
  (case a4=>walk_at "gd")
  (case a5=>walk_at "gd")
  (case a6=>walk_at "gd")
  (case a7=>walk_at "gd")
  (case a8=>walk_at "gd")
  (case a9=>walk_at "gd")
  (case a10=>walk_at "gd")
  (case a11=>walk_at "gd")
  (case a12=>walk_at "gd")
  (case a13=>walk_at "gd")
  (case a14=>walk_at "gd")
  (case a15=>walk_at "gd")
  (case a16=>walk_at "gd")
  (case a17=>walk_at "gd")
  (case a18=>walk_at "gd")
  (case a19=>walk_at "gd")
  (case a20=>walk_at "gd")
  (case a21=>walk_at "gd")
  (case a22=>walk_at "gd")
  (case a23=>walk_at "gd")
  (case a24=>walk_at "gd")
  (case a25=>walk_at "gd")
  (case a26=>walk_at "gd")
  (case a27=>walk_at "gd")
  (case a28=>walk_at "gd")
  (case a29=>walk_at "gd")
  (case a30=>walk_at "gd")
  (case a31=>walk_at "gd")
  (case a32=>walk_at "gd")
  (case a33=>walk_at "gd")
  (case z1=>k_is)
  (case z2=>k_is)
  (case z3=>k_is)
  (case z4=>k_is)
  (case z5=>k_is)
  (case z6=>k_is)
  (case z7=>k_is)
  (case z8=>k_is)
  (case z9=>k_is)
  (case z10=>k_is)
  (case z11=>k_is)
  (case z12=>k_is)
  (case z13=>k_is)
  (case b1=>k_is)
  (case b2=>k_is)
  (case b3=>k_is)
  (case b4=>k_is)
  (case b5=>k_is)
  (case gtA=>k_is)
  (case eA=>rfl)
  (case gtB=>k_is)
  (case eB=>rfl)
  (case gtC=>k_is)
  (case eC=>rfl)
  (case gtD=>k_is)
  (case eD=>rfl)
  (case gtE=>k_is)
  (case eE=>rfl)
  (case x1=>k_is)
  (case x2=>k_is)
  (case x3=>k_is)
  (case x4=>rfl)
  (case x5=>k_is)
  (case x6=>k_is)
  (case x7=>k_is)
  (case x8=>k_is)
  (case x9=>k_is)
  (case tb1=>k_is)
  (case pb1=>k_is)
  (case tb2=>k_is)
  (case tb3=>rfl)
  (case tb4=>rfl)
  (case tb5=>rfl)
  (case tb9=>k_is)
  (case tbA=>k_is)
  (case tbB=>k_is)
  (case tbC=>k_is)
  (case tbD=>k_is)
  (case tbX=>k_is)
  (case tbF=>k_is)
  (case tbV=>k_is)
  (case tbE=>k_is)
  (case tbT=>k_is)
  (case tbP=>k_is)
  (case pb2=>k_is)
  (case pb3=>rfl)
  (case pb4=>rfl)
  (case pb5=>rfl)
  (case pb9=>k_is)
  (case pbA=>k_is)
  (case pbB=>k_is)
  (case pbC=>k_is)
  (case pbD=>k_is)
  (case pbX=>k_is)
  (case pbF=>k_is)
  (case pbV=>k_is)
  (case pbE=>k_is)
  (case pbT=>k_is)
  (case pbP=>k_is)
  (case tbm=>rfl)
  (case pbm=>rfl)
  (case tb6=>k_is)
  (case tb7=>rfl)
  (case tb8=>k_is)
  (case pz=>k_is)
  (case po=>k_is)
  (case pq=>walk_at "gm")
  (case qNF1=>k_is)
  (case qNF2=>k_is)
  (case qNF3=>k_is)
  (case qNFTB=>k_is)
  (case eNFTB=>rfl)
  (case qNFNP=>k_is)
  (case eNFNP=>rfl)
  (case qPA1=>k_is)
  (case qPA2=>k_is)
  (case qPA3=>k_is)
  (case qPATB=>k_is)
  (case ePATB=>rfl)
  (case qPANP=>k_is)
  (case ePANP=>rfl)
  (case qTL1=>k_is)
  (case qTL2=>k_is)
  (case qTL3=>k_is)
  (case qTLTB=>k_is)
  (case eTLTB=>rfl)
  (case qTLNP=>k_is)
  (case eTLNP=>rfl)
  (case qND1=>k_is)
  (case qND2=>k_is)
  (case qND3=>k_is)
  (case qNDTB=>k_is)
  (case eNDTB=>rfl)
  (case qNDNP=>k_is)
  (case eNDNP=>rfl)
  (case qNN1=>k_is)
  (case qNN2=>k_is)
  (case qNN3=>k_is)
  (case qNNTB=>k_is)
  (case eNNTB=>rfl)
  (case qNNNP=>k_is)
  (case eNNNP=>rfl)
  (case qCA1=>k_is)
  (case qCA2=>k_is)
  (case qCA3=>k_is)
  (case qCATB=>k_is)
  (case eCATB=>rfl)
  (case qCANP=>k_is)
  (case eCANP=>rfl)
  (case qNC1=>k_is)
  (case qNC2=>k_is)
  (case qNC3=>k_is)
  (case qNCTB=>k_is)
  (case eNCTB=>rfl)
  (case qNCNP=>k_is)
  (case eNCNP=>rfl)
  (case qNR1=>k_is)
  (case qNR2=>k_is)
  (case qNR3=>k_is)
  (case qNRTB=>k_is)
  (case eNRTB=>rfl)
  (case qNRNP=>k_is)
  (case eNRNP=>rfl)
  (case qNS1=>k_is)
  (case qNS2=>k_is)
  (case qNS3=>k_is)
  (case qNSTB=>k_is)
  (case eNSTB=>rfl)
  (case qNSNP=>k_is)
  (case eNSNP=>rfl)
#print axioms PySem.Challenge.cw_gapscribe_k37_too_big_holds
