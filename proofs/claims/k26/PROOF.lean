import PyProof.Rows.All
import Wide.All
import OpenK.AllK
import Wide.FinOn
import Lean
import PyProof.EqAt
import PyProof.EqKinds
import PyProof.TupleCall
import PyProof.StrBlock2
import KE.KDictOf
import PyProof.AttrMissHeap
import KE.KRevSl
import KE.KDictSum
import PyProof.Rows.SortStr
import KE.KRevIter
import PyProof.RangeIter
import PySem.Challenge.RW_gapscribe_k26_behind_rows
set_option compiler.extract_closed false
set_option bootstrap.genMatcherCode false
set_option genSizeOfSpec false
set_option Elab.async false
set_option linter.all false
set_option maxRecDepth 100000
open Array renaming getElem?_eq_some_iff->T5,length_toList->Th
open Bool renaming false_ne_true->O8,false_and->P0,and_eq_true->Qk,true_and->Qa,false_eq_true->Sd,eq_iff_iff->R0,and_false->Ts,not_eq_true'->Vs
open False renaming elim->Pd
open Int renaming emod_lt_of_pos->Qh,emod_nonneg->Qf,toNat_natCast->Uj,toNat_of_nonneg->Vg
open List renaming getElem?_eq_getElem->O7,size_toArray->O5,getElem?_eq_some_iff->Pl,replicate->Pa,mem_cons->Pb,length_append->Pm,mem_of_getElem?->Pt,not_mem_nil->Pp,length_cons->Pr,length_map->Pq,mem_singleton->P8,all_eq_true->P3,getElem?_append_left->Q8,mem_append->P4,getElem?_append_right->Rh,drop_eq_getElem_cons->Ri,range->Pj,mem_cons_of_mem->Q0,length_take->Qj,mem_append_right->Q9,length_replicate->Rj,length_singleton->Rl,lookup_cons->Qu,drop_of_length_le->Ru,replicate_succ->Rm,take_of_length_le->R8,map_append->Q2,append_nil->Rc,length_set->Rn,mem_cons_self->Sb,eq_of_mem_replicate->Tc,getElem?_cons_succ->Td,getElem?_map->Sf,getElem?_set_self->Te,getElem?_set_ne->Tg,append_assoc->Sr,map_cons->R4,lookup->Rr,all_cons->Si,flatten_cons->Ti,mem_append_left->Ud,length_drop->Tk,filterMap_cons->Ug,mem_map->Sk,nodup_cons->To,forIn_cons->Tp,eq_nil_of_length_eq_zero->Wa,dropLast_concat_getLast->Wb,of_mem_zip->Ul,nil_append->Uo,reverse_append->Vh,flatMap_append->Vi,mem_filterMap->Vk,getElem?_take->Vl,forIn_nil->Uu,take_add_one->Vt,cons_append->Vx,any_eq_true->Vy,take_length->Vz,find?_cons->V4,foldl->T1
open Nat renaming le_refl->O3,lt_of_lt_of_le->Pf,ne_of_lt->Pg,le_trans->P5,zero_le->Qb,lt_irrefl->Q4,ne_of_gt->Re,lt_succ_self->Tj,le_add_right->Tl,le_succ->Sl,sub_self->Sz,min_eq_right->Uk,min_eq_left->Ur,sub_zero->Tx,le_of_lt->Uw
open Ne renaming symm->Ps
open Option renaming isSome_iff_exists->R7,bind_some->Sg
open Option.some renaming inj->Pu
open PyProof.Rows renaming callWith_type1->R6,slot_tuple_getitem->Sn
open PySem renaming wpAny_bind->O1,wpAny_pure->O2,wpAny_field->Pn,wpAny_holding->P9,wpAny_callSpecial?_slot->Rt,wpAny_truthy_bool->Q1,Params->P7,wpAny_Call_Name_kw->Ra,wpAny_seqItems->Q3,mem_of_lookup->Sa,wpAny_newObj_type->Rx,Stmt->Qd,wpAny_setField_rec->Se,wpAny_call_entry->Ry,codeAny_mono->Rg,wpAny_passesOwn->Sh,call_meets->Qy,wpAny_getItem_str_slice->T9,wpAny_mono->Q5,wpAny_call->Q6,wpAny_execs_nil->Ss,wpAny_attempt->Sj,codeAny_call_builtin->Uf,wpAny_loadPart->Su,wpAny_standAt->Sw,wpAny_updateSeq->Tq,plainObj_wpAny_Assign_Attribute->V9,wpAny_setField->Tt,wpAny_updateSeq_pair->Ve,plainId_quiet->Tu,post_val_or_str->Up,codeAny_builtin->Uq,wpAny_ite_false->Us,Within->Tw,wpAny_pyIter_list->Vq,wpAny_loadPart_at->Vr,wpAny_onRaise->Uv,wpAny_execs_cons->Vu,noFill_tuple_add->Vw,wpAny_typeOf->Ux,typeIs_int->T0,wpAny_rule->T2,sizeLine_eq->Uy,seqIndex_of->Uz,wpAny_letGo->U0
open PySem.Around renaming under_plainId->Ue
open PySem.Builtin.List renaming listTooLong->So,listLengthHint->U1,listExtendWith->U2
open PySem.Builtin.Range renaming rangeSize->T8
open PySem.Builtin.Slice renaming slicePlaces->T6,sliceAdjust->U3
open PySem.Builtin.SmallTypes renaming nextOf->Qq,ownedTupleIsFree->Rs,ownedTupleHandOut->V6
open PySem.Builtin.Str renaming strSliceIndices->T4
open PySem.Builtin.Tuple renaming tupleExact->T7
open PySem.Calls renaming spliced_cons->Uh,spliced_nil->Vp
open PySem.Challenge renaming pw_gapscribe_k26_behind_rows->Sm
open PySem.F renaming plainAttrs_list->Pz,slot_list_append->Qr,type_list_append->Qs,slot_zip_next->Rv,slot_tuple_iterator_next->T3,excBase_ValueError->Ta,plain_extend_loop->Tb,slot_tuple_mul->Tf,args_zip_next_1->Ua,attr_ValueError->Ub,entry_zip_next->Uc,args_tuple_add_2->U4,args_tuple_mul_2->U5,args_tuple_iterator_next_1->V7,entry_tuple_add->U6,entry_tuple_iterator_next->V8,entry_tuple_mul->U7,slot_tuple_add->U9,slot_list_pop->Vb,type_list_pop->Vc
open PySem.Heap renaming get?_push_of_some->O6,get?_push_size->Pe,lt_size->O9,get?_update_other->Qn,SameBut->Px,get?_update_self->Rk,size_push->Qx,get?_none_of_le->R9,ExtBut->Tz,dictOf_iff->V5
open PySem.Obj renaming mapSeq->Qc,data_mapFields->Ui,mapFields->Sx,isFreed_of_fields->Va
open PySem.PassesOwn renaming never->Ql
open PySem.SeqAt renaming EqAt->Pi
open PySem.SeqAt.EqAt renaming same->Um
open PySem.Str renaming ofString->Qm,empty->Py
open PySem.Txt renaming slice->Qz,join->Q7,slice_le->Sy
open PySem.W renaming Frag->O0,findIn->O4,nsIn->Pc,keepIn->Ph,kitOne->Po,fnOf->Pk,subIn->Pw,hasDictIn->Qi,emptyDict->Qo,kia_one->Qe,plainGet->Qt,makesIn->Qp,Looks->Qg,instObj->Qv,plainOver->Rb,typeIn->Qw,BT->P6,binds_K->Ro,codeIn->Rp,callWith_K->Sq,clsIn->Rq,InstAt->R1,tailIn->R3,isFn->R5,nsOkIn->Sv,cellsFrom_some->U8,looks_findIn->Vd,mg_of->Tv,plainGet_of->Vf,looks_subIn->Vj,lookIn->Ut,methodObj->Vm,specialIn->Vn,kitx_list->Vo,makes_of->Vv,takerIn->V0,takesIn->V1,OpenLaw->V2,kitMeta->V3
namespace L2
open PySem PySem.Spec PyProof.Rows
noncomputable abbrev Bu:=Sum Int Str
noncomputable def Zeb:Bu->Value->Bool
 | .inl k,v=>Value.isInt k v
 | .inr x,v=>Value.isStrOf x v
noncomputable def keyH (w:World):Bu->Int
 | .inl k=>hashInt k
 | .inr x=>hashStr w x
theorem Ft:∀{k:Bu}{v:Value},Zeb k v=true->(∃ i t,k=Sum.inl i/\v=Value.int i t)\/(∃ x t,k=Sum.inr x/\v=Value.str x t)
 | .inl i,v,h=>by
  obtain ⟨t,e⟩:=Value.isInt_shape (k:=i) (v:=v) h
  exact .inl ⟨i,t,rfl,e⟩
 | .inr x,v,h=>by
  obtain ⟨t,e⟩:=Value.isStrOf_shape (x:=x) (v:=v) h
  exact .inr ⟨x,t,rfl,e⟩
theorem Zpr (a b:Int):decide ((Sum.inl a:Bu)=Sum.inl b)=(a == b):=by
 by_cases e:a=b
 ·subst e;simp
 ·have h:¬ (Sum.inl a:Bu)=Sum.inl b:=fun q=>e (Sum.inl.inj q)
  rw [decide_eq_false h]
  exact (beq_eq_false_iff_ne.mpr e).symm
theorem Zn5 (a b:Str):decide ((Sum.inr a:Bu)=Sum.inr b)=decide (a=b):=by
 by_cases e:a=b
 ·subst e;simp
 ·have h:¬ (Sum.inr a:Bu)=Sum.inr b:=fun q=>e (Sum.inr.inj q)
  rw [decide_eq_false h,decide_eq_false e]
theorem Zla (a:Int)(b:Str):decide ((Sum.inl a:Bu)=Sum.inr b)=false:=decide_eq_false (fun q=>nomatch q)
theorem Zpt (a:Str)(b:Int):decide ((Sum.inr a:Bu)=Sum.inl b)=false:=decide_eq_false (fun q=>nomatch q)
noncomputable def Zcb (prog:Program)(w:World):PySem.KeyKind prog w Bu where
 is:=Zeb
 hash:=keyH w
 inj:=fun v a b ha hb=>by
  rcases Ft ha with ⟨i,t,rfl,rfl⟩ | ⟨x,t,rfl,rfl⟩
  ·rcases Ft hb with ⟨j,u,rfl,e⟩ | ⟨y,u,rfl,e⟩
   ·injection e with e1 _;rw [e1]
   ·exact nomatch e
  ·rcases Ft hb with ⟨j,u,rfl,e⟩ | ⟨y,u,rfl,e⟩
   ·exact nomatch e
   ·injection e with e1 _;rw [e1]
 byValue:=fun k v h=>by
  rcases Ft h with ⟨i,t,rfl,rfl⟩ | ⟨x,t,rfl,rfl⟩ <;> rfl
 pyHash:=fun hv h=>by
  rcases Ft hv with ⟨i,t,rfl,rfl⟩ | ⟨x,t,rfl,rfl⟩
  ·exact wpAny_pyHash_int h
  ·exact wpAny_pyHash_str h
 eqBool:=fun hu hv h=>by
  rcases Ft hu with ⟨i,t,rfl,rfl⟩ | ⟨x,t,rfl,rfl⟩
  ·rcases Ft hv with ⟨j,u,rfl,rfl⟩ | ⟨y,u,rfl,rfl⟩
   ·rw [Zpr] at h;exact wpAny_eqBool_int h
   ·rw [Zla] at h;exact Pi.int_str i t y u _ _ _ _ h
  ·rcases Ft hv with ⟨j,u,rfl,rfl⟩ | ⟨y,u,rfl,rfl⟩
   ·rw [Zpt] at h;exact Pi.str_int x t j u _ _ _ _ h
   ·rw [Zn5] at h;exact wpAny_eqBool_str h
 «strs»:=fun k x t v h=>by
  rcases Ft h with ⟨i,u,rfl,e⟩ | ⟨y,u,rfl,e⟩
  ·exact nomatch e
  ·injection e with e1 _
   subst e1
   cases v <;> rfl
inductive V where
 | non | bl (b:Bool) | int (i:Int) | str (x:Str) | byt (b:Array UInt8) | flt (b:UInt64) | ref (a:Addr) | ty (n:String)
 deriving DecidableEq
noncomputable def RelV:V->Value->Prop
 | .non,u=>u=Value.none
 | .bl b,u=>u=Value.bool b
 | .int i,u=>∃ t,u=Value.int i t
 | .str x,u=>∃ t,u=Value.str x t
 | .byt b,u=>∃ t,u=Value.bytes b t
 | .flt b,u=>∃ t,u=Value.float b t
 | .ref a,u=>u=Value.ref a
 | .ty n,u=>u=Value.type n
noncomputable abbrev Vals:List V->List Value->Prop:=Paired RelV
theorem Vals.length {xs:List V}{us:List Value}(r:Vals xs us):xs.length=us.length:=Paired.length r
theorem Vals.get:∀{xs:List V}{us:List Value}{i:Nat}{x:V},Vals xs us->xs[i]?=some x->∃ u,us[i]?=some u/\RelV x u
 | _,_,_,_,.nil,e=>by simp at e
 | _,_,0,_,.cons r _,e=>by simp at e;subst e;exact ⟨_,rfl,r⟩
 | _,_,i+1,x,.cons _ t,e=>by
  obtain ⟨u,h1,h2⟩:=Vals.get (i:=i) (x:=x) t (by simpa using e)
  exact ⟨u,by simpa using h1,h2⟩
theorem Vals.set {x:V}{u:Value}(r:RelV x u):∀{xs:List V}{us:List Value}(i:Nat),Vals xs us->Vals (xs.set i x) (us.set i u)
 | _,_,_,.nil=>.nil
 | _,_,0,.cons _ t=>.cons r t
 | _,_,i+1,.cons q t=>.cons q (Vals.set r i t)
theorem Vals.append:∀{xs ys:List V}{us ws:List Value},Vals xs us->Vals ys ws->Vals (xs++ys) (us++ws)
 | _,_,_,_,.nil,s=>s
 | _,_,_,_,.cons r t,s=>.cons r (Vals.append t s)
theorem Vals.take:∀{xs:List V}{us:List Value}(n:Nat),Vals xs us->Vals (xs.take n) (us.take n)
 | _,_,0,_=>.nil
 | _,_,_+1,.nil=>.nil
 | _,_,n+1,.cons r t=>.cons r (Vals.take n t)
theorem Vals.drop:∀{xs:List V}{us:List Value}(n:Nat),Vals xs us->Vals (xs.drop n) (us.drop n)
 | _,_,0,r=>r
 | _,_,_+1,.nil=>.nil
 | _,_,n+1,.cons _ t=>Vals.drop n t
noncomputable def RelO:Option V->Option Value->Prop
 | some v,some u=>RelV v u
 | none,none=>True
 | _,_=>False
noncomputable def KV {κ:Type}:List (κ×V)->List (κ×Value)->Prop:=Paired fun (p:κ×V) (q:κ×Value)=>p.1=q.1/\RelV p.2 q.2
noncomputable def kV:Bu->V
 | .inl i=>.int i
 | .inr x=>.str x
inductive HO where
  | lst (xs:List V)
  | tup (xs:List V)
  | dK (kvs:List (Bu×V)) | dT (kvs:List (List Bu×V))
  | set (S:Int->Bool) (n:Nat)
  | ins (C dx:Addr) (fs:List (Str×V))
  | own (x:Addr)
  | xd (fs:List (Str×V))
  | met (f x:Addr)
  | rng (lo hi:Int)
  | frz (o:Obj) (u:HO)
  | tbl (ps:Array Value)
  | ext (φ:Heap->Prop)
noncomputable abbrev Hp:=Addr->Option HO
noncomputable def upd (H:Hp)(a:Addr)(o:HO):Hp:=fun b=>if b=a then some o else H b
theorem Ad {H:Hp}{a:Addr}{o:HO}:upd H a o a=some o:=by unfold upd;rw [if_pos rfl]
theorem Au {H:Hp}{a b:Addr}{o:HO}(h:b≠a):upd H a o b=H b:=by unfold upd;rw [if_neg h]
theorem Za3 {H:Hp}{a:Addr}{o u:HO}:upd (upd H a o) a u=upd H a u:=by
 funext b;unfold upd;split <;> rfl
theorem Zad {H:Hp}{a b:Addr}{o u:HO}(h:H a=some o)(h':H b=some u)(d:o≠u):a≠b:=by
 intro e;subst e;rw [h] at h';exact d (Pu h')
theorem Bz {H:Hp}{a b:Addr}{o:HO}(h:H a=some o)(h':H b=none):a≠b:=by
 intro e;subst e;rw [h] at h';cases h'
section
variable (P:Program)(w:World)
noncomputable def ObjOk (H:Hp)(h:Heap)(a:Addr):HO->Prop
 | .lst xs=>xs.length<=sizeLine/\∃(its:List Value)(n:Nat),Vals xs its/\h.get? a=some { cls:=.type "list",data:=.seq its.toArray n }
 | .tup xs=>xs.length<=sizeLine/\∃ its:List Value,Vals xs its/\IsTup h a its.toArray
 | .dK kvs=>kvs.length<=sizeLine/\(a == sysModules)=false/\∃ vs,KV kvs vs/\h.DictOf (Zcb P w) a vs
 | .dT kvs=>kvs.length<=sizeLine/\(a == sysModules)=false/\∃ xs:List (List Bu×Addr×Value),
   Paired (fun (p:List Bu×V) (q:List Bu×Addr×Value)=>p.1=q.1/\H q.2.1=some (.tup (p.1.map kV))/\RelV p.2 q.2.2) kvs xs /\
   ∃ o es ep,h.get? a=some o/\o.ExactDict/\o.data=.dict es ep/\es.toList=xs.map (entryOfKey (tupleKind (Zcb P w)))/\(xs.map (·.1)).Nodup
 | .set S n=>h.SetOf (intKind P w) a S n
 | .ins C dx fs=>H dx=some (.own a)/\fs.length<=1000/\dx≠a/\h.get? a=some (Qv C dx) /\
   ∃ mA,h.Ns1 dx mA/\(∀ f,RelO (fs.lookup f) (mA f))/\Tw mA (fs.map (·.1))
 | .own _=>∃ o,h.get? a=some o
 | .xd fs=>∃ mA,h.Ns1 a mA/\∀ f,RelO (fs.lookup f) (mA f)
 | .rng lo hi=>∃ t u v,h.get? a=some { cls:=.type "range",data:=.fields #[.int lo t,.int hi u,.int 1 v] }
 | .frz o u=>h.get? a=some o/\ObjOk H h a u
 | .tbl ps=>h.get? a=some { cls:=.none,data:=.fields ps }
 | .met f x=>h.get? a=some (Vm (.ref f) (.ref x))
 | .ext φ=>φ h/\(∃ o,h.get? a=some o)/\∀ h1 h2:Heap,φ h1->(∀ o,h1.get? a=some o->h2.get? a=some o)->φ h2
noncomputable def HOk (H:Hp)(h:Heap):Prop:=∀ a o,H a=some o->ObjOk P w H h a o
end
section
variable {P:Program}{w:World}{H H':Hp}{h h':Heap}{a:Addr}{o:HO}
theorem ObjOk.lt (x:ObjOk P w H h a o):a < h.objs.size:=by
 cases o with
 | lst xs=>obtain ⟨_,_,_,_,e⟩:=x;exact O9 e
 | tup xs=>obtain ⟨_,_,_,p⟩:=x;exact p.lt
 | dK kvs=>obtain ⟨_,_,_,_,o,_,_,e,_⟩:=x;exact O9 e
 | dT kvs=>obtain ⟨_,_,_,_,o,_,_,e,_⟩:=x;exact O9 e
 | set S n=>obtain ⟨o,_,_,_,e,_⟩:=x;exact O9 e
 | ins C dx fs=>obtain ⟨_,_,_,e,_⟩:=x;exact O9 e
 | own y=>obtain ⟨_,e⟩:=x;exact O9 e
 | xd fs=>obtain ⟨_,⟨_,_,_,e,_⟩,_⟩:=x;exact O9 e
 | rng lo hi=>obtain ⟨_,_,_,e⟩:=x;exact O9 e
 | frz ob u=>obtain ⟨e,_⟩:=x;exact O9 e
 | tbl ps=>exact O9 (show h.get? a=some _ from x)
 | met f y=>exact O9 (show h.get? a=some _ from x)
 | ext φ=>obtain ⟨_,⟨_,e⟩,_⟩:=x;exact O9 e
theorem Paired.mapP {α β:Type}{F G:α->β->Prop}:∀{l₁:List α}{l₂:List β},Paired F l₁ l₂->(∀ a b,F a b->G a b)->Paired G l₁ l₂
 | _,_,.nil,_=>.nil
 | _,_,.cons r t,f=>.cons (f _ _ r) (Paired.mapP t f)
theorem ObjOk.stay (x:ObjOk P w H h a o)(k:∀ b u,(b=a\/H b=some (.own a))->h.get? b=some u->h'.get? b=some u)
  (ho:∀ b,H b=some (.own a)->H' b=some (.own a)) (ht:∀ b xs,H b=some (.tup xs)->H' b=some (.tup xs)):ObjOk P w H' h' a o:=by
 induction o with
 | lst xs=>obtain ⟨z,its,n,r,e⟩:=x;exact ⟨z,its,n,r,k _ _ (.inl rfl) e⟩
 | tup xs=>obtain ⟨z,its,r,ob,e,c⟩:=x;exact ⟨z,its,r,ob,k _ _ (.inl rfl) e,c⟩
 | dK kvs=>obtain ⟨z,y,vs,r,ob,es,ep,e,c⟩:=x;exact ⟨z,y,vs,r,ob,es,ep,k _ _ (.inl rfl) e,c⟩
 | dT kvs =>
  obtain ⟨z,y,xs,r,ob,es,ep,e,c⟩:=x
  exact ⟨z,y,xs,Paired.mapP r fun p q z=>⟨z.1,ht _ _ z.2.1,z.2.2⟩,ob,es,ep,k _ _ (.inl rfl) e,c⟩
 | set S n=>obtain ⟨ob,es,ep,t,e,c⟩:=x;exact ⟨ob,es,ep,t,k _ _ (.inl rfl) e,c⟩
 | ins C dx fs =>
  obtain ⟨d,z,ne,e,mA,⟨od,es,ep,e2,c⟩,r⟩:=x
  exact ⟨ho _ d,z,ne,k _ _ (.inl rfl) e,mA,⟨od,es,ep,k _ _ (.inr d) e2,c⟩,r⟩
 | own y=>obtain ⟨ob,e⟩:=x;exact ⟨ob,k _ _ (.inl rfl) e⟩
 | xd fs=>obtain ⟨mA,⟨od,es,ep,e,c⟩,r⟩:=x;exact ⟨mA,⟨od,es,ep,k _ _ (.inl rfl) e,c⟩,r⟩
 | rng lo hi=>obtain ⟨t,u,v,e⟩:=x;exact ⟨t,u,v,k _ _ (.inl rfl) e⟩
 | frz ob u ih=>obtain ⟨e,q⟩:=x;exact ⟨k _ _ (.inl rfl) e,ih q⟩
 | tbl ps =>
  have e:h.get? a=some { cls:=.none,data:=.fields ps }:=x
  show h'.get? a=some { cls:=.none,data:=.fields ps }
  exact k a _ (.inl rfl) e
 | met f y =>
  have e:h.get? a=some (Vm (.ref f) (.ref y)):=x
  show h'.get? a=some (Vm (.ref f) (.ref y))
  exact k a _ (.inl rfl) e
 | ext φ=>obtain ⟨p,⟨o,e⟩,st⟩:=x;exact ⟨st _ _ p fun o q=>k _ _ (.inl rfl) q,⟨o,k _ _ (.inl rfl) e⟩,st⟩
theorem HOk.lt (x:HOk P w H h)(e:H a=some o):a < h.objs.size:=(x a o e).lt
theorem HOk.fresh (x:HOk P w H h)(e:h.objs.size<=a):H a=none:=by
 cases q:H a with
 | none=>rfl
 | some u=>exact absurd (Pf (x.lt q) e) (Q4 _)
theorem HOk.kept (x:HOk P w H h)(k:∀ b u,h.get? b=some u->h'.get? b=some u):HOk P w H h':=fun a o e =>
 (x a o e).stay (fun b u _ q=>k b u q) (fun _ q=>q) fun _ _ q=>q
theorem HOk.laid (x:HOk P w H h)(k:∀ b u,h.get? b=some u->h'.get? b=some u)(hp:h.objs.size<=a)(new:ObjOk P w (upd H a o) h' a o):HOk P w (upd H a o) h':=fun b u e=>by
 have hn:=x.fresh hp
 by_cases hb:b=a
 ·subst hb;rw [Ad] at e;cases e;exact new
 ·rw [Au hb] at e
  exact (x b u e).stay (fun c v _ q=>k c v q) (fun c q=>by rw [Au (Bz q hn)];exact q) fun c xs q=>by rw [Au (Bz q hn)];exact q
end
noncomputable def Rd (H:Hp)(a:Addr)(u:HO):Prop:=H a=some u\/∃ o,H a=some (.frz o u)
theorem Rd.ok {P:Program}{w:World}{H:Hp}{h:Heap}{a:Addr}{u:HO}(r:Rd H a u)(x:HOk P w H h):ObjOk P w H h a u:=by
 rcases r with r | ⟨o,r⟩
 ·exact x a u r
 ·obtain ⟨_,q⟩:=x a _ r
  exact q
noncomputable def Mut:Option HO->Prop
 | some (.lst _)=>True
 | some (.dK _)=>True
 | some (.dT _)=>True
 | some (.set _ _)=>True
 | some (.ins _ _ _)=>True
 | some (.ext _)=>True
 | _=>False
section
variable {P:Program}{w:World}{H:Hp}{h h':Heap}{x e:Addr}{o':HO}
theorem HOk.write (ok:HOk P w H h)(mu:Mut (H x))(he:e=x\/H e=some (.own x))(k:∀ b u,b≠e->h.get? b=some u->h'.get? b=some u)(heo:∃ u,h'.get? e=some u)
  (new:ObjOk P w (upd H x o') h' x o'):HOk P w (upd H x o') h':=fun b u q=>by
 have nown:∀ c y,H c=some (.own y)->c≠x:=fun c y r z=>by subst z;rw [r] at mu;exact mu
 have ntup:∀ c xs,H c=some (.tup xs)->c≠x:=fun c xs r z=>by subst z;rw [r] at mu;exact mu
 by_cases hb:b=x
 ·subst hb;rw [Ad] at q;cases q;exact new
 ·rw [Au hb] at q
  by_cases hbe:b=e
  ·have q':H b=some (.own x):=by
    rcases he with z | z
    ·exact absurd (hbe.trans z) hb
    ·rw [hbe];exact z
   rw [q] at q';cases q'
   obtain ⟨v,hv⟩:=heo
   exact ⟨v,by rw [hbe];exact hv⟩
  ·refine (ok b u q).stay (fun c v hc r=>k c v ?_ r) (fun c r=>by rw [Au (nown c b r)];exact r) fun c xs r=>by rw [Au (ntup c xs r)];exact r
   rcases hc with rfl | hc
   ·exact hbe
   ·rintro rfl
    rcases he with z | z
    ·exact nown c b hc z
    ·rw [hc] at z;cases z;exact hb rfl
end
structure Un (fs ex:List Addr)(H H':Hp)(h h':Heap):Prop where
 keep:∀ b o,h.get? b=some o->H b=none->b ∉ fs->b ∉ ex->h'.get? b=some o
 slot:∀ b o,h.get? b=some o->H b=none->b∈fs->b ∉ ex->∃ sl,h'.get? b=some { o with slots:=sl }
 free:∀ b o,h.get? b=some o->H b=none->b ∉ ex->H' b=none
 there:∀ b o,h.get? b=some o->b ∉ ex->∃ o',h'.get? b=some o'
 tups:∀ b xs,H b=some (.tup xs)->H' b=some (.tup xs)
 frzs:∀ b o u,H b=some (.frz o u)->H' b=some (.frz o u)
 tbls:∀ b ps,H b=some (.tbl ps)->∃ more,H' b=some (.tbl (ps++more))
section
variable {fs fs' ex ex':List Addr}{H H1 H2:Hp}{h h1 h2 h':Heap}{a x e:Addr}{o:HO}
theorem Un.any (u:Un fs ex H H1 h h1){b:Addr}{ob:Obj}(q:h.get? b=some ob)(n:H b=none)(hx:b ∉ ex):∃ sl,h1.get? b=some { ob with slots:=sl }:=by
 by_cases hb:b∈fs
 ·exact u.slot b ob q n hb hx
 ·exact ⟨ob.slots,u.keep b ob q n hb hx⟩
theorem Un.kept (k:∀ b u,h.get? b=some u->h'.get? b=some u):Un fs ex H H h h' :=
 ⟨fun b ob q _ _ _=>k b ob q,fun b ob q _ _ _=>⟨ob.slots,k b ob q⟩,fun _ _ _ n _=>n,fun b ob q _=>⟨ob,k b ob q⟩,fun _ _ q=>q,fun _ _ _ q=>q,fun _ ps q=>⟨#[],by rw [q];simp⟩⟩
theorem Un.refl:Un fs ex H H h h:=Un.kept fun _ _ q=>q
theorem Un.laid (k:∀ b u,h.get? b=some u->h'.get? b=some u)(hp:h.objs.size<=a)(hn:H a=none):Un fs ex H (upd H a o) h h' where
 keep:=fun b u q _ _ _=>k b u q
 slot:=fun b u q _ _ _=>⟨u.slots,k b u q⟩
 free:=fun b u q n _=>by rw [Au (Pg (Pf (O9 q) hp))];exact n
 there:=fun b u q _=>⟨u,k b u q⟩
 tups:=fun b xs q=>by rw [Au (Bz q hn)];exact q
 frzs:=fun b u xs q=>by rw [Au (Bz q hn)];exact q
 tbls:=fun b ps q=>⟨#[],by rw [Au (Bz q hn),q];simp⟩
theorem Un.write (mu:Mut (H x))(he:e=x\/H e=some (.own x))(k:∀ b u,b≠e->h.get? b=some u->h'.get? b=some u)(heo:∃ u,h'.get? e=some u):Un fs ex H (upd H x o) h h':=by
 have hx:∀ b,H b=none->b≠x:=fun b n z=>by subst z;rw [n] at mu;exact mu
 have hb:∀ b,H b=none->b≠e:=fun b n z=>by
  subst z
  rcases he with r | r
  ·exact hx b n r
  ·rw [n] at r;cases r
 have hm:∀ b u,H b=some u->¬ Mut (some u)->b≠x:=fun b u q nm z=>by subst z;rw [q] at mu;exact nm mu
 refine ⟨fun b u q n _ _=>k b u (hb b n) q,fun b u q n _ _=>⟨u.slots,k b u (hb b n) q⟩,fun b u q n _=>by rw [Au (hx b n)];exact n,fun b u q _=>?_,
  fun b xs q=>by rw [Au (hm b _ q fun z=>z)];exact q,fun b u xs q=>by rw [Au (hm b _ q fun z=>z)];exact q,fun b ps q=>⟨#[],by rw [Au (hm b _ q fun z=>z),q];simp⟩⟩
 by_cases hbe:b=e
 ·subst hbe;exact heo
 ·exact ⟨u,k b u hbe q⟩
end
noncomputable def trk (h:Heap)(H:Hp):List Addr:=(Pj h.objs.size).filter fun a=>(H a).isSome
noncomputable def Fv (h:Heap)(H:Hp):Heap:=PySem.W.hideAll h (trk h H)
theorem Zk9 (h:Heap)(H:Hp):(Fv h H).objs.size=h.objs.size:=PySem.W.hideAll_size _ _
theorem Zkf {h:Heap}{H:Hp}{b:Addr}{o:Obj}(e:h.get? b=some o)(n:H b=none):(Fv h H).get? b=some o :=
 PySem.W.hideAll_get _ e fun hm=>by
  have q:(H b).isSome=true:=(List.mem_filter.mp hm).2
  rw [n] at q;simp at q
theorem Zkr {h:Heap}{H:Hp}{b:Addr}{o:Obj}(e:(Fv h H).get? b=some o):h.get? b=some o/\H b=none:=by
 have e':h.get? b=some o:=PySem.W.of_hideAll (trk h H) e
 refine ⟨e',?_⟩
 cases q:H b with
 | none=>rfl
 | some x =>
  have hm:b∈trk h H:=List.mem_filter.mpr ⟨List.mem_range.mpr (O9 e'),by simp [q]⟩
  have z:(Fv h H).get? b=none:=PySem.W.hideAll_none (trk h H) hm
  rw [z] at e;cases e
structure Mod (K:O0)(mg:Str->Option Value)(base:Heap):Prop where
 kin:K.In base
 glob:base.Ns mainGlobals mg
 blt:∃ mb,base.Ns builtinsNs mb/\∀ x:Str,x ≠ "__name__" -> mb x=bootBuiltins x
 nolimit:base.NoLimit
structure Cx where
 prog:Program
 w:World
 K:O0
 mg:Str->Option Value
 base:Heap
 A:Around
 N:List Str
 s₀:Shared
 H₀:Hp
 env:Env
 outer:List Env
 stack:List Env
 ex:List Addr
 fn:Str->Bool
 calm:Bool
 pn:List (Addr×Obj)
 xe:Value->Shared->Prop
noncomputable def Bc (l:List Env):List Addr:=l.filterMap (·.frame)
noncomputable abbrev Cx.fs (X:Cx):List Addr:=Bc X.outer
noncomputable def Vis (sc:Scope)(x:Str):Prop:=sc.names.lookup x=some .local\/sc.names.lookup x=some .cell\/sc.names.lookup x=some .free
noncomputable def Ex (sc:Scope)(x:Str):Prop:=sc.names.lookup x=some .local\/sc.names.lookup x=some .cell
noncomputable def Look (env:Env)(h:Heap)(m:Str->Option Value)(x:Str)(u:Value):Prop :=
 (env.kindOf x=some .local/\m x=some u)\/((env.kindOf x=some .cell\/env.kindOf x=some .free)/\∃ c,env.cells.lookup x=some c/\h.IsCell c (some u))
structure Cx.Ok (X:Cx):Prop where
 mod:Mod X.K X.mg X.base
 kind:X.env.scope.kind=.function
 glob:X.env.globals=mainGlobals
 blt:X.env.builtins=builtinsNs
 above:X.s₀.heap.objs.size<=X.env.locals
 inj:∀ x y c,X.env.cells.lookup x=some c->X.env.cells.lookup y=some c->x=y
 has:∀ x,(X.env.kindOf x=some .cell\/X.env.kindOf x=some .free)->∃ c,X.env.cells.lookup x=some c
 cab:∀ x c,X.fn x=true->X.env.cells.lookup x=some c->X.s₀.heap.objs.size<=c
 hd:X.calm=true->X.A.handled=none
 frames:X.A.frames=some X.stack
 stk:X.stack=X.outer\/(X.stack=X.env::X.outer/\X.env.frame=some X.env.locals)
 exf:∀ b∈X.ex,b≠X.env.locals/\∀ x c,X.env.cells.lookup x=some c->c≠b
 bs:∀ b o,X.base.get? b=some o->X.s₀.heap.get? b=some o/\X.H₀ b=none
 bsz:X.base.objs.size<=X.s₀.heap.objs.size
 noex:∀ b o,X.base.get? b=some o->b ∉ X.ex
 exfs:∀ b∈X.ex,b ∉ X.fs
 funs:X.s₀.heap.FunFrames X.base X.outer
 frf:∀ b∈X.fs,X.H₀ b=none
structure Inv (X:Cx)(pins:List (Addr×Obj))(σ:List (Option V))(H:Hp)(s:Shared):Prop where
 ok:X.Ok
 os:s.os=X.s₀.os
 bare:AllBare s.gens
 base:Un X.fs X.ex X.H₀ H X.s₀.heap s.heap
 loc:∃ m,s.heap.Ns X.env.locals m/\∀(i:Nat)(x:Str)(v:V),X.N[i]?=some x->σ[i]?=some (some v)->Vis X.env.scope x->∃ u,RelV v u/\Look X.env s.heap m x u
 cell:∀ x c,X.env.cells.lookup x=some c->∃ v,s.heap.IsCell c v
 free:H X.env.locals=none
 freeC:∀ x c,X.env.cells.lookup x=some c->H c=none
 pin:∀ p∈X.pn++pins,s.heap.get? p.1=some p.2/\H p.1=none/\p.1≠X.env.locals/\p.1 ∉ X.fs/\∀ v,p.2.data≠.cell v
 hok:HOk X.prog X.w H s.heap
 len:σ.length=X.N.length
section
variable {X:Cx}{pins:List (Addr×Obj)}{σ:List (Option V)}{H H':Hp}{s:Shared}{h':Heap}
theorem Cx.Ok.nofr (ok:X.Ok){b:Addr}{o:Obj}(e:X.base.get? b=some o):b ∉ X.fs:=fun hb=>by
 have:=(ok.funs.mem hb).1
 rw [e] at this;cases this
theorem Inv.bs (I:Inv X pins σ H s):∀ b o,X.base.get? b=some o->s.heap.get? b=some o/\H b=none:=fun b o e =>
 ⟨I.base.keep b o (I.ok.bs b o e).1 (I.ok.bs b o e).2 (I.ok.nofr e) (I.ok.noex b o e),I.base.free b o (I.ok.bs b o e).1 (I.ok.bs b o e).2 (I.ok.noex b o e)⟩
theorem Inv.bk (I:Inv X pins σ H s):∀ b o,X.base.get? b=some o->s.heap.get? b=some o:=fun b o e=>(I.bs b o e).1
theorem Inv.mod (I:Inv X pins σ H s):Mod X.K X.mg X.base:=I.ok.mod
theorem Inv.kIn (I:Inv X pins σ H s):X.K.In s.heap:=I.ok.mod.kin.keeps I.bk
theorem Inv.lt (I:Inv X pins σ H s):X.env.locals < s.heap.objs.size:=let ⟨_,hn,_⟩:=I.loc;hn.lt
theorem Inv.sz (I:Inv X pins σ H s):X.s₀.heap.objs.size<=s.heap.objs.size:=P5 I.ok.above (Uw I.lt)
theorem Inv.nofs (I:Inv X pins σ H s){a:Addr}(h:s.heap.objs.size<=a):a ∉ X.fs:=fun hb=>by
 obtain ⟨_,o,ho,_⟩:=I.ok.funs.mem hb
 exact absurd (Pf (O9 ho) (P5 I.sz h)) (Q4 _)
theorem Inv.cne (I:Inv X pins σ H s):∀ x c,X.env.cells.lookup x=some c->c≠X.env.locals:=fun x c e z=>by
 obtain ⟨v,o,ho,hd⟩:=I.cell x c e
 obtain ⟨m,⟨o',es,ep,ho',hd',_⟩,_⟩:=I.loc
 rw [z,ho'] at ho;cases ho;rw [hd'] at hd;cases hd
theorem Inv.funs (I:Inv X pins σ H s):s.heap.FunFrames X.base X.outer:=by
 have all:∀(l:List Env),(∀ b∈Bc l,b∈X.fs)->X.s₀.heap.FunFrames X.base l->s.heap.FunFrames X.base l:=by
  intro l
  induction l with
  | nil=>intro _ _;trivial
  | cons env r ih =>
   intro hs hl
   obtain ⟨hk,⟨L,o,hf,hn,ho,hd⟩,hr⟩:=hl
   have hL:L∈X.fs:=hs L (by unfold Bc;rw [Ug,hf];exact Sb)
   obtain ⟨sl,e⟩:=I.base.slot L o ho (I.ok.frf L hL) hL fun z=>I.ok.exfs L z hL
   exact ⟨hk,⟨L,_,hf,hn,e,hd⟩,ih (fun b hb=>hs b (by unfold Bc;rw [Ug,hf];exact Q0 _ hb)) hr⟩
 exact all X.outer (fun _ hb=>hb) I.ok.funs
theorem Inv.stack (I:Inv X pins σ H s):s.heap.FunFrames X.base X.stack:=by
 rcases I.ok.stk with e | ⟨e,hf⟩
 ·rw [e];exact I.funs
 ·rw [e]
  obtain ⟨m,hn,_⟩:=I.loc
  refine .cons (by rw [I.ok.kind];decide) hf hn ?_ I.funs
  exact R9 (P5 I.ok.bsz I.ok.above)
theorem Inv.stkSub (I:Inv X pins σ H s):∀ b∈Bc X.stack,b∈X.env.locals::X.fs:=fun b hb=>by
 rcases I.ok.stk with e | ⟨e,hf⟩
 ·rw [e] at hb;exact Q0 _ hb
 ·rw [e] at hb
  unfold Bc at hb
  rw [Ug,hf] at hb
  exact hb
theorem Inv.stkFree (I:Inv X pins σ H s):∀ b∈Bc X.stack,H b=none:=fun b hb=>by
 rcases Pb.mp (I.stkSub b hb) with e | hb
 ·rw [e];exact I.free
 ·obtain ⟨_,o,ho,_⟩:=I.ok.funs.mem hb
  exact I.base.free b o ho (I.ok.frf b hb) fun z=>I.ok.exfs b z hb
theorem Inv.step {g':Array GenState}{t':Nat}{d':Drawn}{ch:List Addr}(I:Inv X pins σ H s)
  (hch:∀ b∈ch,(b∈X.ex\/X.s₀.heap.objs.size<=b)/\b≠X.env.locals/\(∀ x c,X.env.cells.lookup x=some c->c≠b)/\∀ p∈X.pn++pins,p.1≠b)
  (keep:∀ b o,b≠X.env.locals->b ∉ X.fs->b ∉ ch->s.heap.get? b=some o->H b=none->h'.get? b=some o)
  (slot:∀ b o,b≠X.env.locals->b∈X.fs->b ∉ ch->s.heap.get? b=some o->H b=none->∃ sl,h'.get? b=some { o with slots:=sl }) (free:∀ b o,b ∉ ch->s.heap.get? b=some o->H b=none->H' b=none)
  (there:∀ b o,b ∉ ch->s.heap.get? b=some o->∃ o',h'.get? b=some o')
  (tups:∀ b xs,H b=some (.tup xs)->H' b=some (.tup xs)) (frzs:∀ b o u,H b=some (.frz o u)->H' b=some (.frz o u)) (tbls:∀ b ps,H b=some (.tbl ps)->∃ more,H' b=some (.tbl (ps++more)))
  (ns:∀ m,s.heap.Ns X.env.locals m->h'.Ns X.env.locals m) (hok:HOk X.prog X.w H' h') (hg:AllBare g') :
  Inv X pins σ H' { s with heap:=h',gens:=g',drawn:=d',toks:=t' }:=by
 have neL:∀ b o,X.s₀.heap.get? b=some o->b≠X.env.locals:=fun b o e=>Pg (Pf (O9 e) I.ok.above)
 have neC:∀ b o,X.s₀.heap.get? b=some o->b ∉ X.ex->b ∉ ch:=fun b o e hx hb=>by
  rcases (hch b hb).1 with z | z
  ·exact hx z
  ·exact absurd (Pf (O9 e) z) (Q4 _)
 have cellK:∀ x c,X.env.cells.lookup x=some c->∀ v,s.heap.IsCell c v->h'.IsCell c v:=fun x c e v ⟨o,ho,hd⟩=>by
  have nch:c ∉ ch:=fun z=>(hch c z).2.2.1 x c e rfl
  by_cases hc:c∈X.fs
  ·obtain ⟨sl,q⟩:=slot c o (I.cne x c e) hc nch ho (I.freeC x c e)
   exact ⟨_,q,hd⟩
  ·exact ⟨o,keep c o (I.cne x c e) hc nch ho (I.freeC x c e),hd⟩
 refine ⟨I.ok,I.os,hg,⟨fun b o e n hb hx=>?_,fun b o e n hb hx=>?_,fun b o e n hx=>?_,fun b o e hx=>?_,fun b xs e=>tups b xs (I.base.tups b xs e),fun b o xs e=>frzs b o xs (I.base.frzs b o xs e),fun b ps e=>?_⟩,?_,fun x c e=>?_,?_,fun x c e=>?_,fun p hp=>?_,hok,I.len⟩
 ·exact keep b o (neL b o e) hb (neC b o e hx) (I.base.keep b o e n hb hx) (I.base.free b o e n hx)
 ·obtain ⟨sl,e1⟩:=I.base.slot b o e n hb hx
  obtain ⟨sl',e2⟩:=slot b _ (neL b o e) hb (neC b o e hx) e1 (I.base.free b o e n hx)
  exact ⟨sl',e2⟩
 ·obtain ⟨o',e1⟩:=I.base.there b o e hx
  exact free b o' (neC b o e hx) e1 (I.base.free b o e n hx)
 ·obtain ⟨o',e1⟩:=I.base.there b o e hx
  exact there b o' (neC b o e hx) e1
 ·obtain ⟨m1,e1⟩:=I.base.tbls b ps e
  obtain ⟨m2,e2⟩:=tbls b _ e1
  exact ⟨m1++m2,by rw [e2,Array.append_assoc]⟩
 ·obtain ⟨m,hn,hl⟩:=I.loc
  refine ⟨m,ns m hn,fun i x v e1 e2 e3=>?_⟩
  obtain ⟨u,r,l⟩:=hl i x v e1 e2 e3
  refine ⟨u,r,?_⟩
  rcases l with l | ⟨k,c,e,z⟩
  ·exact .inl l
  ·exact .inr ⟨k,c,e,cellK x c e _ z⟩
 ·obtain ⟨v,z⟩:=I.cell x c e
  exact ⟨v,cellK x c e v z⟩
 ·obtain ⟨m,⟨o,_,_,ho,_⟩,_⟩:=I.loc
  exact free _ o (fun z=>(hch _ z).2.1 rfl) ho I.free
 ·obtain ⟨v,o,ho,hd⟩:=I.cell x c e
  exact free c o (fun z=>(hch c z).2.2.1 x c e rfl) ho (I.freeC x c e)
 ·obtain ⟨e,n,ne,nf,d⟩:=I.pin p hp
  have nch:p.1 ∉ ch:=fun z=>(hch p.1 z).2.2.2 p hp rfl
  exact ⟨keep p.1 p.2 ne nf nch e n,free p.1 p.2 nch e n,ne,nf,d⟩
theorem Inv.un {t':Nat}(I:Inv X pins σ H s)(u:Un X.fs [] H H' s.heap h')(hok:HOk X.prog X.w H' h'):Inv X pins σ H' { s with heap:=h',toks:=t' }:=by
 obtain ⟨m,⟨o,es,ep,ho,r⟩,_⟩:=id I.loc
 obtain ⟨sl,hL⟩:=u.any ho I.free (by simp)
 exact I.step (g':=s.gens) (d':=s.drawn) (ch:=[]) (fun _ z=>nomatch z) (fun b o _ hb _ e n=>u.keep b o e n hb (by simp)) (fun b o _ hb _ e n=>u.slot b o e n hb (by simp)) (fun b o _ e n=>u.free b o e n (by simp)) (fun b o _ e=>u.there b o e (by simp)) u.tups u.frzs u.tbls (fun m' hm=>by
  obtain ⟨o',es',ep',ho',r'⟩:=hm
  rw [ho] at ho';cases ho'
  exact ⟨_,es',ep',hL,r'⟩) hok I.bare
theorem Inv.call {g':Array GenState}{t':Nat}{d':Drawn}{ch:List Addr}(I:Inv X pins σ H s)(u:Un (Bc X.stack) ch H H' s.heap h')(hok:HOk X.prog X.w H' h')(hg:AllBare g')
  (hch:∀ b∈ch,(b∈X.ex\/X.s₀.heap.objs.size<=b)/\b≠X.env.locals/\(∀ x c,X.env.cells.lookup x=some c->c≠b)/\∀ p∈X.pn++pins,p.1≠b) :
  Inv X pins σ H' { s with heap:=h',gens:=g',drawn:=d',toks:=t' }:=by
 obtain ⟨m,⟨o,es,ep,ho,r⟩,_⟩:=id I.loc
 obtain ⟨sl,hL⟩:=u.any ho I.free fun z=>(hch _ z).2.1 rfl
 exact I.step (ch:=ch) hch (fun b o hL hb hc e n=>u.keep b o e n (fun z=>(Pb.mp (I.stkSub b z)).elim hL hb) hc) (fun b o _ _ hc e n=>u.any e n hc) (fun b o hc e n=>u.free b o e n hc) (fun b o hc e=>u.there b o e hc) u.tups u.frzs u.tbls (fun m' hm=>by
  obtain ⟨o',es',ep',ho',r'⟩:=hm
  rw [ho] at ho';cases ho'
  exact ⟨_,es',ep',hL,r'⟩) hok hg
theorem Inv.turned {t':Nat}{it:Addr}(I:Inv X pins σ H s)(k:∀ b o,b≠it->s.heap.get? b=some o->h'.get? b=some o)(hn:H it=none)(hL:it≠X.env.locals)
  (h1:it∈X.ex\/X.s₀.heap.objs.size<=it) (h2:∀ x c,X.env.cells.lookup x=some c->c≠it) (h3:∀ p∈X.pn++pins,p.1≠it):Inv X pins σ H { s with heap:=h',toks:=t' }:=by
 have nit:∀ b u,H b=some u->b≠it:=fun b u e z=>by rw [z,hn] at e;cases e
 refine I.step (g':=s.gens) (d':=s.drawn) (ch:=[it]) (fun b hb=>?_) (fun b o _ _ hc e _=>k b o (fun z=>hc (by simp [z])) e) (fun b o _ _ hc e _=>⟨o.slots,k b o (fun z=>hc (by simp [z])) e⟩) (fun _ _ _ _ n=>n)
  (fun b o hc e=>⟨o,k b o (fun z=>hc (by simp [z])) e⟩) (fun _ _ e=>e) (fun _ _ _ e=>e) (fun b ps e=>⟨#[],by rw [e];simp⟩) (fun m hm=>?_) (fun b u e=>?_) I.bare
 ·have e:b=it:=by simpa using hb
  subst e
  exact ⟨h1,hL,h2,h3⟩
 ·obtain ⟨o,es,ep,ho,r⟩:=hm
  exact ⟨o,es,ep,k _ o (Ps hL) ho,r⟩
 ·refine (I.hok b u e).stay (fun c v hc q=>k c v ?_ q) (fun _ q=>q) fun _ _ q=>q
  rcases hc with z | z
  ·rw [z];exact nit b u e
  ·exact nit c _ z
theorem Inv.tok (I:Inv X pins σ H s)(t:Nat):Inv X pins σ H { s with toks:=t }:=I.un (h':=s.heap) (t':=t) Un.refl I.hok
theorem Inv.kept {t':Nat}(I:Inv X pins σ H s)(k:∀ b u,s.heap.get? b=some u->h'.get? b=some u):Inv X pins σ H { s with heap:=h',toks:=t' }:=I.un (Un.kept k) (I.hok.kept k)
theorem Inv.laid {a:Addr}{o:HO}{t':Nat}(I:Inv X pins σ H s)(k:∀ b u,s.heap.get? b=some u->h'.get? b=some u)(hp:s.heap.objs.size<=a)(new:ObjOk X.prog X.w (upd H a o) h' a o) :
  Inv X pins σ (upd H a o) { s with heap:=h',toks:=t' }:=I.un (Un.laid k hp (I.hok.fresh hp)) (I.hok.laid k hp new)
theorem Inv.write {x e:Addr}{o:HO}{t':Nat}(I:Inv X pins σ H s)(mu:Mut (H x))(he:e=x\/H e=some (.own x))(k:∀ b u,b≠e->s.heap.get? b=some u->h'.get? b=some u)(heo:∃ u,h'.get? e=some u)
  (new:ObjOk X.prog X.w (upd H x o) h' x o):Inv X pins σ (upd H x o) { s with heap:=h',toks:=t' }:=I.un (Un.write mu he k heo) (I.hok.write mu he k heo new)
theorem Inv.pins_of {pins':List (Addr×Obj)}(I:Inv X pins σ H s)(h:∀ p∈pins',s.heap.get? p.1=some p.2/\H p.1=none/\p.1≠X.env.locals/\p.1 ∉ X.fs/\∀ v,p.2.data≠.cell v):Inv X pins' σ H s :=
 ⟨I.ok,I.os,I.bare,I.base,I.loc,I.cell,I.free,I.freeC,fun p hp=>(P4.mp hp).elim (fun z=>I.pin p (Ud _ z)) (h p),I.hok,I.len⟩
theorem Oo {N:List Str}(hN:N.Nodup){i j:Nat}{x:Str}(a:N[i]?=some x)(b:N[j]?=some x):i=j:=by
 obtain ⟨h1,e1⟩:=Pl.mp a
 obtain ⟨h2,e2⟩:=Pl.mp b
 exact (List.getElem_inj hN).mp (e1.trans e2.symm)
theorem Zfa {M:Model}{A:Around}{E:Value->Shared->Prop}{i:Nat}{x:Str}{v:V}{u:Value}{Q:Unit->Shared->Prop}(I:Inv X pins σ H s)(hN:X.N.Nodup)(hi:X.N[i]?=some x)(hx:Ex X.env.scope x)(r:RelV v u)
  (h:∀ s',Inv X pins (σ.set i (some v)) H s'->(∃ a,Px a s.heap s'.heap/\(a=X.env.locals\/X.env.cells.lookup x=some a))->Q () s') (hf:X.fn x=true\/X.env.scope.names.lookup x=some .local:=by first | exact .inl rfl | exact .inr rfl | assumption):wpAny M A (storeName X.env x u) Q E s:=by
 obtain ⟨m,hn,hl⟩:=id I.loc
 have hcls:(X.env.scope.kind == .class || (X.env.scope.kind == .module && X.env.locals != X.env.globals))=false:=by rw [I.ok.kind];rfl
 have hiσ:i < σ.length:=by rw [I.len];exact (Pl.mp hi).1
 have cne:=I.cne
 have tracked:∀{a:Addr}{h':Heap},(∃ o,s.heap.get? a=some o/\H a=none)->Px a s.heap h'->HOk X.prog X.w H h':=fun {a h'} ha hs b ob e=>by
  obtain ⟨_,_,hfree⟩:=ha
  refine (I.hok b ob e).stay (fun c w' hc q=>(hs.2 c ?_).trans q) (fun _ q=>q) fun _ _ q=>q
  rintro rfl
  rcases hc with rfl | hc
  ·rw [hfree] at e;cases e
  ·rw [hfree] at hc;cases hc
 rcases hx with hk | hk
 ·refine wpAny_storeName_local hk hn (fun h' hn' hs=>?_) hcls
  obtain ⟨oL,_,_,hoL,_⟩:=id hn
  refine h _ ⟨I.ok,I.os,I.bare,⟨fun b o e n hb hx=>?_,fun b o e n hb hx=>?_,I.base.free,fun b o e hx=>?_,I.base.tups,I.base.frzs,I.base.tbls⟩,⟨_,hn',fun j y v' e1 e2 e3=>?_⟩,fun y c e=>?_,I.free,I.freeC,fun p hp=>?_,tracked ⟨oL,hoL,I.free⟩ hs,by simpa using I.len⟩ ⟨_,hs,.inl rfl⟩
  ·exact (hs.2 b (Pg (Pf (O9 e) I.ok.above))).trans (I.base.keep b o e n hb hx)
  ·obtain ⟨sl,e1⟩:=I.base.slot b o e n hb hx
   exact ⟨sl,(hs.2 b (Pg (Pf (O9 e) I.ok.above))).trans e1⟩
  ·obtain ⟨o',e1⟩:=I.base.there b o e hx
   exact ⟨o',(hs.2 b (Pg (Pf (O9 e) I.ok.above))).trans e1⟩
  ·by_cases hj:j=i
   ·subst hj
    rw [hi] at e1;cases e1
    rw [Te hiσ] at e2
    cases e2
    exact ⟨u,r,.inl ⟨hk,by simp⟩⟩
   ·rw [Tg (Ps hj)] at e2
    obtain ⟨u',r',q⟩:=hl j y v' e1 e2 e3
    refine ⟨u',r',?_⟩
    rcases q with ⟨k,e⟩ | ⟨k,c,e,z⟩
    ·refine .inl ⟨k,?_⟩
     have:y≠x:=fun e=>hj (Oo hN e1 (e ▸ hi))
     simp [this,e]
    ·exact .inr ⟨k,c,e,z.sameBut hs (cne y c e)⟩
  ·obtain ⟨w',z⟩:=I.cell y c e
   exact ⟨w',z.sameBut hs (cne y c e)⟩
  ·obtain ⟨e,n,ne,nf,d⟩:=I.pin p hp
   exact ⟨(hs.2 p.1 ne).trans e,n,ne,nf,d⟩
 ·have hfn:X.fn x=true:=by
   rcases hf with z | z
   ·exact z
   ·rw [z] at hk;cases hk
  obtain ⟨c,hc⟩:=I.ok.has x (.inl hk)
  obtain ⟨w',z⟩:=I.cell x c hc
  refine wpAny_storeName_cell I.ok.kind hk hc z (fun h' hc' hs=>?_)
  obtain ⟨oc,hoc,hocd⟩:=id z
  refine h { s with heap:=h' } ⟨I.ok,I.os,I.bare,⟨fun b o e n hb hx=>?_,fun b o e n hb hx=>?_,I.base.free,fun b o e hx=>?_,I.base.tups,I.base.frzs,I.base.tbls⟩,⟨m,hn.sameBut hs (Ps (cne x c hc)),fun j y v' e1 e2 e3=>?_⟩,fun y c' e=>?_,I.free,I.freeC,fun p hp=>?_,tracked ⟨oc,hoc,I.freeC x c hc⟩ hs,by simpa using I.len⟩ ⟨c,hs,.inr hc⟩
  ·exact (hs.2 b (Pg (Pf (O9 e) (I.ok.cab x c hfn hc)))).trans (I.base.keep b o e n hb hx)
  ·obtain ⟨sl,e1⟩:=I.base.slot b o e n hb hx
   exact ⟨sl,(hs.2 b (Pg (Pf (O9 e) (I.ok.cab x c hfn hc)))).trans e1⟩
  ·obtain ⟨o',e1⟩:=I.base.there b o e hx
   exact ⟨o',(hs.2 b (Pg (Pf (O9 e) (I.ok.cab x c hfn hc)))).trans e1⟩
  ·by_cases hj:j=i
   ·subst hj
    rw [hi] at e1;cases e1
    rw [Te hiσ] at e2
    cases e2
    exact ⟨u,r,.inr ⟨.inl hk,c,hc,hc'⟩⟩
   ·rw [Tg (Ps hj)] at e2
    obtain ⟨u',r',q⟩:=hl j y v' e1 e2 e3
    refine ⟨u',r',?_⟩
    rcases q with q | ⟨k,c',e,z'⟩
    ·exact .inl q
    ·refine .inr ⟨k,c',e,z'.sameBut hs ?_⟩
     rintro rfl
     exact hj (Oo hN e1 (I.ok.inj _ _ _ e hc ▸ hi))
  ·by_cases hcc:c'=c
   ·subst hcc;exact ⟨_,hc'⟩
   ·obtain ⟨w2,z2⟩:=I.cell y c' e
    exact ⟨w2,z2.sameBut hs hcc⟩
  ·obtain ⟨e,n,ne,nf,d⟩:=I.pin p hp
   refine ⟨(hs.2 p.1 ?_).trans e,n,ne,nf,d⟩
   intro q
   rw [q,hoc] at e
   have q':oc=p.2:=Pu e
   exact d w' (by rw [<- q'];exact hocd)
theorem N8 {M:Model}{A:Around}{E:Value->Shared->Prop}{i:Nat}{x:Str}{v:V}{u:Value}{Q:Unit->Shared->Prop}(I:Inv X pins σ H s)(hN:X.N.Nodup)(hi:X.N[i]?=some x)(hx:Ex X.env.scope x)(r:RelV v u)
  (h:∀ s',Inv X pins (σ.set i (some v)) H s'->Q () s') (hf:X.fn x=true\/X.env.scope.names.lookup x=some .local:=by first | exact .inl rfl | exact .inr rfl | assumption):wpAny M A (storeName X.env x u) Q E s :=
 Zfa I hN hi hx r (fun s' I' _=>h s' I') hf
theorem Inv.call' {s':Shared}{ch:List Addr}(I:Inv X pins σ H s)(ho:s'.os=s.os)(u:Un (Bc X.stack) ch H H' s.heap s'.heap)(hok:HOk X.prog X.w H' s'.heap)(hg:AllBare s'.gens)
  (hch:∀ b∈ch,(b∈X.ex\/X.s₀.heap.objs.size<=b)/\b≠X.env.locals/\(∀ x c,X.env.cells.lookup x=some c->c≠b)/\∀ p∈X.pn++pins,p.1≠b):Inv X pins σ H' s':=by
 obtain ⟨h',g',d',t',o'⟩:=s'
 have e:o'=s.os:=ho
 subst e
 exact I.call (g':=g') (t':=t') (d':=d') u hok hg hch
end
noncomputable abbrev XK:=Value->Option Addr->Hp->Prop
noncomputable abbrev St:=List (Option V)
noncomputable abbrev VK:=V->Hp->Prop
noncomputable abbrev TE:=St->Hp->VK->Prop
noncomputable abbrev TT:=St->Hp->(Bool->Hp->Prop)->Prop
noncomputable abbrev TA:=St->Hp->(List V->Hp->Prop)->Prop
structure Ends where
 nx:St->Hp->Prop
 rt:VK
 bk:St->Hp->Prop:=fun _ _=>False
 ct:St->Hp->Prop:=fun _ _=>False
noncomputable abbrev TS:=Ends->St->Hp->Prop
noncomputable def EP (X:Cx)(pins:List (Addr×Obj))(σ:St)(Q:VK)(u:Value)(s':Shared):Prop:=∃ v H',Inv X pins σ H' s'/\RelV v u/\Q v H'
noncomputable def TP (X:Cx)(pins:List (Addr×Obj))(σ:St)(Q:Bool->Hp->Prop)(b:Bool)(s':Shared):Prop:=∃ H',Inv X pins σ H' s'/\Q b H'
noncomputable def AP (X:Cx)(pins:List (Addr×Obj))(σ:St)(Q:List V->Hp->Prop)(us:List Value)(s':Shared):Prop:=∃ vs H',Inv X pins σ H' s'/\Vals vs us/\Q vs H'
noncomputable def SP (X:Cx)(pins:List (Addr×Obj))(D:Ends)(f:Flow)(s':Shared):Prop :=
 match f with
 | .next=>∃ σ' H',Inv X pins σ' H' s'/\D.nx σ' H'
 | .brk=>∃ σ' H',Inv X pins σ' H' s'/\D.bk σ' H'
 | .cont=>∃ σ' H',Inv X pins σ' H' s'/\D.ct σ' H'
 | .ret u=>∃ v σ' H',Inv X pins σ' H' s'/\RelV v u/\D.rt v H'
noncomputable def PE (X:Cx)(e:Expr)(t:TE):Prop :=
 ∀(pins:List (Addr×Obj))(s:Shared)(σ:St)(H:Hp)(Q:VK),Inv X pins σ H s->t σ H Q->wpAny (model X.prog X.w) X.A (eval e X.env) (EP X pins σ Q) X.xe s
noncomputable def PT (X:Cx)(e:Expr)(t:TT):Prop :=
 ∀(pins:List (Addr×Obj))(s:Shared)(σ:St)(H:Hp)(Q:Bool->Hp->Prop),Inv X pins σ H s->t σ H Q->wpAny (model X.prog X.w) X.A (isTrue e X.env (eval e X.env)) (TP X pins σ Q) X.xe s
noncomputable def PW (X:Cx)(e:Expr)(t:TT):Prop :=
 ∀(whole:Sem Value)(pins:List (Addr×Obj))(s:Shared)(σ:St)(H:Hp)(Q:Bool->Hp->Prop),Inv X pins σ H s->t σ H Q->wpAny (model X.prog X.w) X.A (isTrue e X.env whole) (TP X pins σ Q) X.xe s
theorem PW.pt {X:Cx}{e:Expr}{t:TT}(h:PW X e t):PT X e t:=h _
noncomputable def PA (X:Cx)(es:List Expr)(t:TA):Prop :=
 ∀(pos:Pos)(pins:List (Addr×Obj))(s:Shared)(σ:St)(H:Hp)(Q:List V->Hp->Prop),Inv X pins σ H s->t σ H Q->wpAny (model X.prog X.w) X.A (spliced (backTo pos (starEach es X.env))) (AP X pins σ Q) X.xe s
noncomputable def PS (X:Cx)(st:Stmt)(t:TS):Prop :=
 ∀(pins:List (Addr×Obj))(s:Shared)(σ:St)(H:Hp)(D:Ends),Inv X pins σ H s->t D σ H->wpAny (model X.prog X.w) X.A (exec st X.env) (SP X pins D) X.xe s
noncomputable def PSs (X:Cx)(st:List Stmt)(t:TS):Prop :=
 ∀(pins:List (Addr×Obj))(s:Shared)(σ:St)(H:Hp)(D:Ends),Inv X pins σ H s->t D σ H->wpAny (model X.prog X.w) X.A (execs st X.env) (SP X pins D) X.xe s
theorem Aj {α:Type}{t:Sem α}{Q Q':α->Shared->Prop}{M:Model}{A:Around}{E:Value->Shared->Prop}{s:Shared}(h:wpAny M A t Q E s)(hQ:∀ a s,Q a s->Q' a s):wpAny M A t Q' E s:=Q5 h hQ fun _ _ x=>x
section
variable {X:Cx}
noncomputable def Iz (i:Nat):TE:=fun σ H Q=>∃ v,σ[i]?=some (some v)/\Q v H
noncomputable def tC (v:V):TE:=fun _ H Q=>Q v H
theorem Zll {i:Nat}{x:Str}{pos:Pos}(hN:X.N[i]?=some x)(hv:Vis X.env.scope x)(hd:(x == ("__debug__" : Str))=false:=by decide)(hcd:(x == ("__classdict__" : Str))=false:=by decide):PE X (.Name x pos) (Iz i):=by
 intro pins s σ H Q I h
 obtain ⟨v,e,h⟩:=h
 obtain ⟨m,hn,hl⟩:=I.loc
 obtain ⟨u,r,l⟩:=hl i x v hN e hv
 have fin:EP X pins σ Q u s:=⟨v,H,I,r,h⟩
 rcases l with ⟨hk,hm⟩ | ⟨hk,c,hc,hcell⟩
 ·exact wpAny_Name (wpAny_loadName_local I.ok.kind hk hn hm fin) hd
 ·rcases hk with hk | hk
  ·exact wpAny_Name (wpAny_loadName_cell I.ok.kind hk hc hcell fin) hd
  ·exact wpAny_Name (wpAny_loadName_free I.ok.kind hk hc hcell fin hcd) hd
theorem Zdu {i j pos}:PE X (.Constant (.int i) j pos) (tC (.int i)):=fun _ _ _ H _ I h=>wpAny_Constant_int ⟨.int i,H,I.tok _,⟨_,rfl⟩,h⟩
theorem Zfy {b j pos}:PE X (.Constant (.bool b) j pos) (tC (.bl b)):=fun _ _ _ H _ I h=>Constant_bool ⟨.bl b,H,I,rfl,h⟩
theorem Zg6 {j pos}:PE X (.Constant .none j pos) (tC .non):=fun _ _ _ H _ I h=>Constant_none ⟨.non,H,I,rfl,h⟩
theorem Zgm {x j pos}:PE X (.Constant (.str x) j pos) (tC (.str x)):=fun _ _ _ H _ I h=>Calls.Constant_str ⟨.str x,H,I.tok _,⟨_,rfl⟩,h⟩
noncomputable def Gl (X:Cx)(x:Str):Prop:=X.env.kindOf x=some .globalImplicit
theorem El {E:Value->Shared->Prop}{pins:List (Addr×Obj)}{s:Shared}{σ:St}{H:Hp}{x:Str}{u:Value}{pos:Pos}{Q:Value->Shared->Prop}(I:Inv X pins σ H s)(hg:Gl X x)(hm:X.mg x=some u)(h:Q u s)
  (hd:(x == ("__debug__" : Str))=false:=by decide):wpAny (model X.prog X.w) X.A (eval (.Name x pos) X.env) Q E s :=
 Calls.Name_function_global I.ok.kind hg (Calls.loadGlobal_global (by rw [I.ok.glob];exact I.mod.glob.keeps I.bk) hm h) hd
theorem Fs {E:Value->Shared->Prop}{pins:List (Addr×Obj)}{s:Shared}{σ:St}{H:Hp}{x:Str}{u:Value}{pos:Pos}{Q:Value->Shared->Prop}(I:Inv X pins σ H s)(hg:Gl X x)(hm:X.mg x=none)(hv:bootBuiltins x=some u)(h:Q u s)
  (hn:x ≠ "__name__" := by decide) (hd:(x == ("__debug__" : Str))=false:=by decide):wpAny (model X.prog X.w) X.A (eval (.Name x pos) X.env) Q E s:=by
 obtain ⟨mb,h1,h2⟩:=I.mod.blt
 exact Calls.Name_function_global I.ok.kind hg (Calls.loadGlobal_builtin (by rw [I.ok.glob];exact I.mod.glob.keeps I.bk) hm (by rw [I.ok.blt];exact h1.keeps I.bk) ((h2 x hn).trans hv) h) hd
theorem Zfm {x:Str}{v:V}{u:Value}{pos:Pos}(hg:Gl X x)(hm:X.mg x=some u)(r:RelV v u)(hd:(x == ("__debug__" : Str))=false:=by decide):PE X (.Name x pos) (tC v) :=
 fun _ _ _ H _ I h=>El I hg hm ⟨v,H,I,r,h⟩ hd
theorem Zsw {x:Str}{v:V}{u:Value}{pos:Pos}(hg:Gl X x)(hm:X.mg x=none)(hv:bootBuiltins x=some u)(r:RelV v u)(hn:x ≠ "__name__" := by decide)(hd:(x == ("__debug__" : Str))=false:=by decide):PE X (.Name x pos) (tC v) :=
 fun _ _ _ H _ I h=>Fs I hg hm hv ⟨v,H,I,r,h⟩ hn hd
variable {a b:Expr}{ta tb:TE}{pos:Pos}
noncomputable def PC (X:Cx)(op:CmpOp)(a b:Expr)(t:TE):Prop :=
 ∀(pins:List (Addr×Obj))(s:Shared)(σ:St)(H:Hp)(Q:VK),Inv X pins σ H s->t σ H Q ->
  wpAny (model X.prog X.w) X.A (eval a X.env) (fun v s₁=>wpAny (model X.prog X.w) X.A (eval b X.env) (fun u s₂=>wpAny (model X.prog X.w) X.A (compareOp op v u) (EP X pins σ Q) X.xe s₂) X.xe s₁) X.xe s
theorem Oh (b:Expr){op:CmpOp}(h:op≠.In)(h2:op≠.NotIn):behindInMarks op b=false:=by
 have e1:(op == CmpOp.In)=false:=by cases op <;> first | rfl | exact absurd rfl h
 have e2:(op == CmpOp.NotIn)=false:=by cases op <;> first | rfl | exact absurd rfl h2
 cases b <;> simp [behindInMarks,e1,e2]
noncomputable def Zcv (ta:TE):TE:=fun σ H Q=>ta σ H fun x H1=>Q (.bl (decide (x=.non))) H1
noncomputable def Zcw (ta:TE):TE:=fun σ H Q=>ta σ H fun x H1=>Q (.bl (!decide (x=.non))) H1
theorem RelV.none_iff {x:V}{v:Value}(r:RelV x v):(v == Value.none)=decide (x=.non):=by
 cases x with
 | non=>cases r;rfl
 | bl _=>cases r;rfl
 | int _=>obtain ⟨t,rfl⟩:=r;rfl
 | str _=>obtain ⟨t,rfl⟩:=r;rfl
 | byt _=>obtain ⟨t,rfl⟩:=r;rfl
 | flt _=>obtain ⟨t,rfl⟩:=r;rfl
 | ref _=>cases r;rfl
 | ty _=>cases r;rfl
theorem Zio {j pos'}(ha:PE X a ta):PC X .Is a (.Constant .none j pos') (Zcv ta):=by
 intro pins s σ H Q I h
 refine Aj (ha pins s σ H _ I h) fun v s1 zq=>?_
 obtain ⟨x,H1,I1,r1,q1⟩:=zq
 exact Constant_none (is_none_gen ⟨.bl _,H1,I1,by rw [r1.none_iff];rfl,q1⟩)
theorem Zkw {j pos'}(ha:PE X a ta):PC X .IsNot a (.Constant .none j pos') (Zcw ta):=by
 intro pins s σ H Q I h
 refine Aj (ha pins s σ H _ I h) fun v s1 zq=>?_
 obtain ⟨x,H1,I1,r1,q1⟩:=zq
 exact Constant_none (isnot_none_gen ⟨.bl _,H1,I1,by rw [r1.none_iff];rfl,q1⟩)
noncomputable def tB (t:TE):TT:=fun σ H Q=>t σ H fun x H1=>∃ c,x=.bl c/\Q c H1
theorem Zje {op:CmpOp}{t:TE}(h:PC X op a b t)(h1:behindInMarks op b=false:=by first | exact Oh _ (by decide) (by decide) | rfl):PE X (.Compare a [op] [b] pos) t:=fun pins s σ H Q I hw=>wpAny_Compare1 (h pins s σ H Q I hw) h1
theorem Zqg {op:CmpOp}{t:TE}(h:PC X op a b t)(h1:behindInMarks op b=false:=by first | exact Oh _ (by decide) (by decide) | rfl):PT X (.Compare a [op] [b] pos) (tB t):=by
 intro pins s σ H Q I hw
 refine wpAny_isTrue_Compare1 (Aj (h pins s σ H _ I hw) fun v s1 h1=>Aj h1 fun u s2 h2=>Aj h2 fun c s3 zq=>?_) h1
 obtain ⟨x,H1,I1,r1,q1⟩:=zq
 obtain ⟨d,rfl,q⟩:=q1
 cases r1
 exact Q1 ⟨H1,I1,q⟩
theorem Zku {e:Expr}{t:TE}(h:PE X e t)(he:∀ whole,isTrue e X.env whole=(do let v <- whole;standAt e.pos;holding [v] (truthy v)):=by intro _;rfl):PT X e (tB t):=by
 intro pins s σ H Q I hw
 refine isTrue_plain (Aj (h pins s σ H _ I hw) fun v s1 zq=>?_) (he _)
 obtain ⟨x,H1,I1,r1,q1⟩:=zq
 obtain ⟨d,rfl,q⟩:=q1
 cases r1
 exact Q1 ⟨H1,I1,q⟩
variable {tA tB':TT}{rest:List Expr}
noncomputable def Zar (t u:TT):TT:=fun σ H Q=>t σ H fun c H1=>if c=true then u σ H1 Q else Q false H1
noncomputable def tOr (t u:TT):TT:=fun σ H Q=>t σ H fun c H1=>if c=true then Q true H1 else u σ H1 Q
noncomputable def Zbi (t:TT):TT:=fun σ H Q=>t σ H fun c H1=>Q (!c) H1
theorem pw_and1 (ha:PT X a tA):PW X (.BoolOp .And [a] pos) tA:=by
 intro wh pins s σ H Q I h
 refine isTrue_and (Aj (ha pins s σ H Q I h) fun c s1 e=>?_)
 cases c with
 | true=>exact isTrue_and_nil e
 | false=>exact e
theorem pw_or1 (ha:PT X a tA):PW X (.BoolOp .Or [a] pos) tA:=by
 intro wh pins s σ H Q I h
 refine isTrue_or (Aj (ha pins s σ H Q I h) fun c s1 e=>?_)
 cases c with
 | false=>exact isTrue_or_nil e
 | true=>exact e
theorem pw_and (ha:PT X a tA)(hb:PW X (.BoolOp .And (b::rest) pos) tB'):PW X (.BoolOp .And (a::b::rest) pos) (Zar tA tB'):=by
 intro wh pins s σ H Q I h
 refine isTrue_and (Aj (ha pins s σ H _ I h) fun c s1 zq=>?_)
 obtain ⟨H1,I1,q1⟩:=zq
 cases c with
 | true=>exact hb wh pins s1 σ H1 Q I1 q1
 | false=>exact ⟨H1,I1,q1⟩
theorem pw_or (ha:PT X a tA)(hb:PW X (.BoolOp .Or (b::rest) pos) tB'):PW X (.BoolOp .Or (a::b::rest) pos) (tOr tA tB'):=by
 intro wh pins s σ H Q I h
 refine isTrue_or (Aj (ha pins s σ H _ I h) fun c s1 zq=>?_)
 obtain ⟨H1,I1,q1⟩:=zq
 cases c with
 | true=>exact ⟨H1,I1,q1⟩
 | false=>exact hb wh pins s1 σ H1 Q I1 q1
theorem Zne (ha:PT X a tA):PT X (.UnaryOp .Not a pos) (Zbi tA):=by
 intro pins s σ H Q I h
 exact isTrue_not (ha pins s σ H (fun c H1=>Q (!c) H1) I h)
noncomputable def Le (ta tb:TE):TE:=fun σ H Q=>ta σ H fun x H1=>∃ c,x=.bl c/\if c=true then tb σ H1 Q else Q (.bl false) H1
noncomputable def Zcm (ta tb:TE):TE:=fun σ H Q=>ta σ H fun x H1=>∃ c,x=.bl c/\if c=true then Q (.bl true) H1 else tb σ H1 Q
noncomputable def Zcu (ta:TE):TE:=fun σ H Q=>ta σ H fun x H1=>∃ c,x=.bl c/\Q (.bl (!c)) H1
theorem Zkk {op}{t:TE}(h:PE X a t):PE X (.BoolOp op [a] pos) t:=fun pins s σ H Q I hw=>BoolOp_one (h pins s σ H Q I hw)
theorem Zo5 (ha:PE X a ta)(hb:PE X (.BoolOp .And (b::rest) pos) tb):PE X (.BoolOp .And (a::b::rest) pos) (Le ta tb):=by
 intro pins s σ H Q I h
 refine BoolOp_and (Aj (ha pins s σ H _ I h) fun v s1 zq=>?_)
 obtain ⟨x,H1,I1,r1,q1⟩:=zq
 obtain ⟨c,rfl,q1⟩:=q1
 cases r1
 refine Q1 ?_
 cases c with
 | true=>exact hb pins s1 σ H1 Q I1 q1
 | false=>exact ⟨.bl false,H1,I1,rfl,q1⟩
theorem Ztx (ha:PE X a ta)(hb:PE X (.BoolOp .Or (b::rest) pos) tb):PE X (.BoolOp .Or (a::b::rest) pos) (Zcm ta tb):=by
 intro pins s σ H Q I h
 refine BoolOp_or (Aj (ha pins s σ H _ I h) fun v s1 zq=>?_)
 obtain ⟨x,H1,I1,r1,q1⟩:=zq
 obtain ⟨c,rfl,q1⟩:=q1
 cases r1
 refine Q1 ?_
 cases c with
 | false=>exact hb pins s1 σ H1 Q I1 q1
 | true=>exact ⟨.bl true,H1,I1,rfl,q1⟩
theorem Zi2 (ha:PE X a ta):PE X (.UnaryOp .Not a pos) (Zcu ta):=by
 intro pins s σ H Q I h
 refine UnaryOp_ (Aj (ha pins s σ H _ I h) fun v s1 zq=>?_)
 obtain ⟨x,H1,I1,r1,q1⟩:=zq
 obtain ⟨c,rfl,q1⟩:=q1
 cases r1
 exact not_of (Q1 ⟨.bl (!c),H1,I1,rfl,q1⟩)
end
noncomputable def SqL (K:O0)(H:Hp)(a:Addr)(xs:List V):Prop :=
 Rd H a (.lst xs) \/
  ∃(o:Obj)(its:Array Value)(n:Nat),K.lookup a=some o/\o.cls=.type "list" /\ o.dict=none/\o.data=.seq its n/\its.size<=sizeLine/\Vals xs its.toList
noncomputable def SqT (K:O0)(H:Hp)(a:Addr)(xs:List V):Prop :=
 Rd H a (.tup xs) \/
  ∃(o:Obj)(its:Array Value)(n:Nat),K.lookup a=some o/\o.cls=.type "tuple" /\ o.data=.seq its n/\its.size<=sizeLine/\Vals xs its.toList
noncomputable def Nz:Value->Option V
 | .none=>some .non
 | .bool b=>some (.bl b)
 | .int i _=>some (.int i)
 | .str x _=>some (.str x)
 | .bytes b _=>some (.byt b)
 | .float b _=>some (.flt b)
 | .ref a=>some (.ref a)
 | .type n=>some (.ty n)
 | _=>none
theorem RelV.abs {x:V}{u:Value}(r:RelV x u):Nz u=some x:=by
 cases x with
 | non=>cases r;rfl
 | bl _=>cases r;rfl
 | int _=>obtain ⟨t,rfl⟩:=r;rfl
 | str _=>obtain ⟨t,rfl⟩:=r;rfl
 | byt _=>obtain ⟨t,rfl⟩:=r;rfl
 | flt _=>obtain ⟨t,rfl⟩:=r;rfl
 | ref _=>cases r;rfl
 | ty _=>cases r;rfl
theorem RelV.inj {x y:V}{u:Value}(r:RelV x u)(q:RelV y u):x=y:=Pu (r.abs.symm.trans q.abs)
theorem Vals.inj:∀{xs ys:List V}{us:List Value},Vals xs us->Vals ys us->xs=ys
 | _,_,_,.nil,.nil=>rfl
 | _,_,_,.cons r t,.cons r' t'=>by rw [r.inj r',Vals.inj t t']
section
variable {X:Cx}{pins:List (Addr×Obj)}{σ:St}{H:Hp}{s:Shared}{a:Addr}{xs ys:List V}
theorem SqL.of {K:O0}(h:H a=some (.lst xs)):SqL K H a xs:=.inl (.inl h)
theorem SqT.of {K:O0}(h:H a=some (.tup xs)):SqT K H a xs:=.inl (.inl h)
theorem Inv.list (I:Inv X pins σ H s)(h:SqL X.K H a xs):∃ its:List Value,Vals xs its/\PlainL s.heap a its.toArray/\xs.length<=sizeLine:=by
 rcases h with h | ⟨o,its,n,hk,hc,hd,hs,hz,r⟩
 ·obtain ⟨z,its,n,r,e⟩:=h.ok I.hok
  exact ⟨its,r,⟨_,n,e,rfl,rfl,rfl⟩,z⟩
 ·refine ⟨its.toList,r,⟨o,n,I.kIn a o hk,hc,hd,by simpa using hs⟩,?_⟩
  have e:=r.length
  simp only [Th] at e
  omega
theorem Inv.tuple (I:Inv X pins σ H s)(h:SqT X.K H a xs):∃ its:List Value,Vals xs its/\IsTup s.heap a its.toArray/\xs.length<=sizeLine:=by
 rcases h with h | ⟨o,its,n,hk,hc,hs,hz,r⟩
 ·obtain ⟨z,its,r,p⟩:=h.ok I.hok
  exact ⟨its,r,p,z⟩
 ·refine ⟨its.toList,r,⟨o,I.kIn a o hk,hc,n,by simpa using hs⟩,?_⟩
  have e:=r.length
  simp only [Th] at e
  omega
theorem Inv.list_inj (I:Inv X pins σ H s)(h:SqL X.K H a xs)(h':SqL X.K H a ys):xs=ys:=by
 obtain ⟨its,r,⟨o,n,e,_,_,d⟩,_⟩:=I.list h
 obtain ⟨its',r',⟨o',n',e',_,_,d'⟩,_⟩:=I.list h'
 rw [e] at e';cases e'
 rw [d] at d'
 injection d' with d1 _
 have:its=its':=by simpa using congrArg Array.toList d1
 subst this
 exact r.inj r'
theorem Inv.tuple_inj (I:Inv X pins σ H s)(h:SqT X.K H a xs)(h':SqT X.K H a ys):xs=ys:=by
 obtain ⟨its,r,⟨o,e,_,n,d⟩,_⟩:=I.tuple h
 obtain ⟨its',r',⟨o',e',_,n',d'⟩,_⟩:=I.tuple h'
 rw [e] at e';cases e'
 rw [d] at d'
 injection d' with d1 _
 have:its=its':=by simpa using congrArg Array.toList d1
 subst this
 exact r.inj r'
end
noncomputable abbrev Cx.wish (X:Cx)(E:Value->Shared->Prop):Cx:={ X with xe:=E }
noncomputable abbrev Cx.nox (X:Cx):Cx:=X.wish fun _ _=>False
theorem Cx.Ok.wish {X:Cx}(ok:X.Ok)(E:Value->Shared->Prop):(X.wish E).Ok :=
 ⟨ok.mod,ok.kind,ok.glob,ok.blt,ok.above,ok.inj,ok.has,ok.cab,ok.hd,ok.frames,ok.stk,ok.exf,ok.bs,ok.bsz,ok.noex,ok.exfs,ok.funs,ok.frf⟩
theorem Cx.Ok.unwish {X:Cx}{E:Value->Shared->Prop}(ok:(X.wish E).Ok):X.Ok :=
 ⟨ok.mod,ok.kind,ok.glob,ok.blt,ok.above,ok.inj,ok.has,ok.cab,ok.hd,ok.frames,ok.stk,ok.exf,ok.bs,ok.bsz,ok.noex,ok.exfs,ok.funs,ok.frf⟩
section
variable {X:Cx}{pins:List (Addr×Obj)}{σ:St}{H:Hp}{s:Shared}{E:Value->Shared->Prop}
theorem Inv.wish (I:Inv X pins σ H s)(E:Value->Shared->Prop):Inv (X.wish E) pins σ H s:=⟨I.ok.wish E,I.os,I.bare,I.base,I.loc,I.cell,I.free,I.freeC,I.pin,I.hok,I.len⟩
theorem Inv.unwish (I:Inv (X.wish E) pins σ H s):Inv X pins σ H s:=⟨I.ok.unwish,I.os,I.bare,I.base,I.loc,I.cell,I.free,I.freeC,I.pin,I.hok,I.len⟩
theorem SP.unwish {D:Ends}{f:Flow}{s':Shared}(h:SP (X.wish E) pins D f s'):SP X pins D f s':=by
 cases f with
 | next=>obtain ⟨σ',H',I,q⟩:=h;exact ⟨σ',H',I.unwish,q⟩
 | brk=>obtain ⟨σ',H',I,q⟩:=h;exact ⟨σ',H',I.unwish,q⟩
 | cont=>obtain ⟨σ',H',I,q⟩:=h;exact ⟨σ',H',I.unwish,q⟩
 | ret u=>obtain ⟨v,σ',H',I,r,q⟩:=h;exact ⟨v,σ',H',I.unwish,r,q⟩
theorem PSs.nox {st:List Stmt}{t:TS}(h:PSs X.nox st t):PSs X st t:=fun pins s σ H D I hw =>
 Q5 (h pins s σ H D (I.wish _) hw) (fun _ _ q=>q.unwish) fun _ _ z=>Pd z
end
section
variable {X:Cx}{st:Stmt}{rest:List Stmt}{t u:TS}{e:Expr}{te:TE}{pos:Pos}
noncomputable def Zbw:TS:=fun D σ H=>D.nx σ H
noncomputable def Zc7 (t u:TS):TS:=fun D σ H=>t { D with nx:=u D } σ H
theorem Zlk:PSs X [] Zbw:=fun _ _ σ H _ I h=>Ss ⟨σ,H,I,h⟩
theorem Zsg (h1:PS X st t)(h2:PSs X rest u):PSs X (st::rest) (Zc7 t u):=by
 intro pins s σ H D I h
 refine Vu (Aj (h1 pins s σ H { D with nx:=u D } I h) fun f s1 q=>?_)
 cases f with
 | next =>
  obtain ⟨σ',H',I',q⟩:=q
  exact h2 pins s1 σ' H' D I' q
 | ret v=>exact q
 | brk=>exact q
 | cont=>exact q
theorem Zs3 (h1:PS X st t):PSs X [st] t:=by
 intro pins s σ H D I h
 refine Vu (Aj (h1 pins s σ H D I h) fun f s1 q=>?_)
 cases f with
 | next=>exact Ss q
 | ret v=>exact q
 | brk=>exact q
 | cont=>exact q
theorem Inv.quiet {pins:List (Addr×Obj)}{σ:St}{H:Hp}{s:Shared}(I:Inv X pins σ H s):interactive X.env=false:=by simp [interactive,I.ok.kind]
noncomputable def Zdc (te:TE):TS:=fun D σ H=>te σ H fun _ H1=>D.nx σ H1
theorem Ziz (he:PE X e te)(hs:swapsWith e none pos.line X.env=pure false:=by rfl):PS X (.Expr e pos) (Zdc te):=by
 intro pins s σ H D I h
 exact wpAny_Expr_any (Aj (he pins s σ H _ I h) fun v s1 ⟨x,H1,I1,r1,q1⟩=>⟨σ,H1,I1,q1⟩) I.quiet hs
noncomputable def Zcx (te:TE):TS:=fun D σ H=>te σ H D.rt
theorem Zq1 (he:PE X e te):PS X (.Return (some e) pos) (Zcx te):=by
 intro pins s σ H D I h
 exact wpAny_Return_some (Aj (he pins s σ H _ I h) fun v s1 ⟨x,H1,I1,r1,q1⟩=>⟨x,σ,H1,I1,r1,q1⟩)
noncomputable def F8 (c:TT)(t u:TS):TS:=fun D σ H=>c σ H fun b H1=>if b=true then t D σ H1 else u D σ H1
theorem Zpc {c:Expr}{a b:List Stmt}{tc:TT}(hc:PT X c tc)(ha:PSs X a t)(hb:PSs X b u):PS X (.If c a b pos) (F8 tc t u):=by
 intro pins s σ H D I h
 refine wpAny_If (Aj (hc pins s σ H _ I h) fun d s1 zq=>?_)
 obtain ⟨H1,I1,q1⟩:=zq
 cases d with
 | true=>exact ha pins s1 σ H1 D I1 q1
 | false=>exact hb pins s1 σ H1 D I1 q1
end
noncomputable abbrev TG:=V->St->Hp->(St->Hp->Prop)->Prop
noncomputable abbrev D0:=List V->St->Hp->(St->Hp->Prop)->Prop
noncomputable def PG (X:Cx)(target:Expr)(t:TG):Prop :=
 ∀(pins:List (Addr×Obj))(s:Shared)(σ:St)(H:Hp)(v:V)(u:Value)(Q:St->Hp->Prop),Inv X pins σ H s->RelV v u->t v σ H Q ->
  wpAny (model X.prog X.w) X.A (assign target X.env u) (fun _ s'=>∃ σ' H',Inv X pins σ' H' s'/\Q σ' H') X.xe s
noncomputable def PGs (X:Cx)(ts:List Expr)(t:D0):Prop :=
 ∀(pins:List (Addr×Obj))(s:Shared)(σ:St)(H:Hp)(vs:List V)(us:List Value)(Q:St->Hp->Prop),Inv X pins σ H s->Vals vs us->t vs σ H Q ->
  wpAny (model X.prog X.w) X.A (assignInOrder ((assignEach ts X.env).map (·.2)) us) (fun _ s'=>∃ σ' H',Inv X pins σ' H' s'/\Q σ' H') X.xe s
noncomputable abbrev Kr:=V->V->V->Hp->(Hp->Prop)->Prop
noncomputable def Zbj (X:Cx)(t:Kr):Prop :=
 ∀(pins:List (Addr×Obj))(s:Shared)(σ:St)(H:Hp)(o i v:V)(ov iv u:Value)(Q:Hp->Prop),Inv X pins σ H s->RelV o ov->RelV i iv->RelV v u->t o i v H Q ->
  wpAny (model X.prog X.w) X.A (setItem ov iv u) (fun _ s'=>∃ H',Inv X pins σ H' s'/\Q H') X.xe s
section
variable {X:Cx}{pos:Pos}
noncomputable def Ga (i:Nat):TG:=fun v σ H Q=>Q (σ.set i (some v)) H
theorem Zjk {i:Nat}{x:Str}(hN:X.N.Nodup)(hi:X.N[i]?=some x)(hx:Ex X.env.scope x)(hf:X.fn x=true\/X.env.scope.names.lookup x=some .local:=by first | exact .inl rfl | exact .inr rfl | assumption):PG X (.Name x pos) (Ga i):=by
 intro pins s σ H v u Q I r h
 exact wpAny_assign_Name (N8 I hN hi hx r (fun s' I'=>⟨_,H,I',h⟩) hf)
noncomputable def Zb5:D0:=fun vs σ H Q=>vs=[]/\Q σ H
noncomputable def Zc2 (t:TG)(u:D0):D0:=fun vs σ H Q=>∃ v r,vs=v::r/\t v σ H fun σ' H'=>u r σ' H' Q
theorem Zub:PGs X [] Zb5:=by
 intro pins s σ H vs us Q I r h
 obtain ⟨e,h⟩:=h
 subst e
 cases r
 exact assignInOrder_nil ⟨σ,H,I,h⟩
theorem Zr0 {e:Expr}{es:List Expr}{t:TG}{u:D0}(h1:PG X e t)(h2:PGs X es u)
  (hs:(assignEach (e::es) X.env).map (·.2)=assign e X.env::(assignEach es X.env).map (·.2):=by rfl):PGs X (e::es) (Zc2 t u):=by
 intro pins s σ H vs us Q I r h
 obtain ⟨v,vr,e1,h⟩:=h
 subst e1
 cases r with
 | cons r rr =>
  rw [hs]
  refine assignInOrder_cons (Aj (h1 pins s σ H _ _ _ I r h) fun _ s1 zq=>?_)
  obtain ⟨σ1,H1,I1,q1⟩:=zq
  exact h2 pins s1 σ1 H1 _ _ Q I1 rr q1
noncomputable def Na (K:O0)(n:Nat)(t:D0):TG:=fun v σ H Q=>∃ a xs,v=.ref a/\SqT K H a xs/\xs.length=n/\t xs σ H Q
theorem Ztf {es:List Expr}{k:Nat}{t:D0}{n:Nat}(hc:X.calm=true)(h:PGs X es t)
  (hn:(assignEach es X.env).length=n:=by rfl) (hst:(assignEach es X.env).findIdx? (·.1)=none:=by rfl):PG X (.Tuple es k pos) (Na X.K n t):=by
 intro pins s σ H v u Q I r hw
 obtain ⟨a,xs,e1,hq,hl,hw⟩:=hw
 subst e1
 cases r
 obtain ⟨its,rv,ht,hz⟩:=I.tuple hq
 refine assign_Tuple_tuple (I.ok.hd hc) ht (by simp [hn,<- hl,rv.length]) hst fun h' hx=>?_
 have I1:Inv X pins σ H { s with heap:=h' }:=I.kept (t':=s.toks) fun b o e=>hx b o (Pg (O9 e)) e
 exact h pins _ σ H xs _ Q I1 (by simpa using rv) hw
noncomputable def Zdd (to ti:TE)(t:Kr):TG:=fun v σ H Q=>to σ H fun o H1=>ti σ H1 fun i H2=>t o i v H2 fun H3=>Q σ H3
theorem Ztd {o i:Expr}{to ti:TE}{t:Kr}(ho:PE X o to)(hi:PE X i ti)(hs:Zbj X t)
  (ha:∀ v,assign (.Subscript o i pos) X.env v=(do
   let ov <- holding [v] (eval o X.env)
   let iv <- holding [v,ov] (eval i X.env)
   standAt pos
   holding [v,ov,iv] (setItem ov iv v)
   release [v,ov,iv] []):=by intro _;rfl):PG X (.Subscript o i pos) (Zdd to ti t):=by
 intro pins s σ H v u Q I r h
 rw [ha]
 refine O1 (P9 (Aj (ho pins s σ H _ I h) fun ov s1 zq=>?_))
 obtain ⟨x,H1,I1,r1,q1⟩:=zq
 refine O1 (P9 (Aj (hi pins s1 σ H1 _ I1 q1) fun iv s2 zq=>?_))
 obtain ⟨y,H2,I2,r2,q2⟩:=zq
 refine O1 (Sw (O1 (P9 (Aj (hs pins s2 σ H2 x y v ov iv u _ I2 r1 r2 r q2) fun _ s3 zq=>?_))))
 obtain ⟨H3,I3,q3⟩:=zq
 exact wpAny_release ⟨σ,H3,I3,q3⟩
noncomputable def F3 (te:TE)(g:TG):TS:=fun D σ H=>te σ H fun x H1=>g x σ H1 D.nx
theorem Zkc {tg e:Expr}{te:TE}{g:TG}(he:PE X e te)(hg:PG X tg g)(hs:swapsWithSole [tg] e pos.line X.env=pure false:=by rfl)(hw:swappedStores [tg] e X.env=pure none:=by rfl)
  (h1:(assignEach [tg] X.env).map (·.2)=[assign tg X.env]:=by rfl):PS X (.Assign [tg] e pos) (F3 te g):=by
 intro pins s σ H D I h
 refine wpAny_Assign_stores (Aj (he pins s σ H _ I h) fun v s1 zq=>?_) hs hw
 obtain ⟨x,H1,I1,r1,q1⟩:=zq
 rw [h1]
 exact Aj (hg pins s1 σ H1 x v _ I1 r1 q1) fun _ s2 q=>q
theorem Zkh {i:Nat}{x:Str}{e:Expr}{te:TE}{pos':Pos}(hN:X.N.Nodup)(hi:X.N[i]?=some x)(hx:Ex X.env.scope x)(he:PE X e te)(hs:swapsWith e (some (.Name x pos')) pos.line X.env=pure false:=by rfl)(hf:X.fn x=true\/X.env.scope.names.lookup x=some .local:=by first | exact .inl rfl | exact .inr rfl | assumption) :
  PS X (.Assign [.Name x pos'] e pos) (F3 te (Ga i)):=by
 intro pins s σ H D I h
 refine wpAny_Assign_Name (Aj (he pins s σ H _ I h) fun v s1 zq=>?_) hs
 obtain ⟨y,H1,I1,r1,q1⟩:=zq
 exact N8 I1 hN hi hx r1 (fun s2 I2=>⟨_,H1,I2,q1⟩) hf
end
section
variable {X:Cx}{pos:Pos}
noncomputable def Zfi (c:TT)(tb:TS):TS:=fun D σ H=>∃ W:Nat->St->Hp->Prop,(∃ m,W m σ H)/\∀ m σ H,W m σ H ->
 c σ H fun b H1=>if b=true then ∃ N:St->Hp->Prop,(∀ σ' H',N σ' H'->∃ m',m' < m/\W m' σ' H')/\tb { D with nx:=N,ct:=N,bk:=D.nx } σ H1 else D.nx σ H1
theorem Zkq {c:Expr}{body:List Stmt}{tc:TT}{tb:TS}(hp:PassesOwn (model X.prog X.w) X.A X.env X.xe)(hc:PT X c tc)(hb:PSs X body tb):PS X (.While c body [] pos) (Zfi tc tb):=by
 intro pins s σ H D I h
 obtain ⟨W,⟨m0,w0⟩,turn⟩:=h
 refine wpAny_While (codeAny_whileLoop (fun n s'=>∃ σ' H',Inv X pins σ' H' s'/\W n σ' H') ?_ m0 ⟨σ,H,I,w0⟩)
 rintro n s1 ⟨σ1,H1,I1,w1⟩
 refine Sh hp (Aj (hc pins s1 σ1 H1 _ I1 (turn n σ1 H1 w1)) fun b s2 zq=>?_)
 obtain ⟨H2,I2,q2⟩:=zq
 cases b with
 | true =>
  obtain ⟨N,hN,q2⟩:=q2
  rw [if_pos rfl]
  refine Sh hp (Aj (hb pins s2 σ1 H2 _ I2 q2) fun f s3 q3=>?_)
  cases f with
  | next =>
   obtain ⟨σ3,H3,I3,n3⟩:=q3
   obtain ⟨m',hm,w3⟩:=hN σ3 H3 n3
   exact ⟨m',hm,σ3,H3,I3,w3⟩
  | cont =>
   obtain ⟨σ3,H3,I3,n3⟩:=q3
   obtain ⟨m',hm,w3⟩:=hN σ3 H3 n3
   exact ⟨m',hm,σ3,H3,I3,w3⟩
  | brk=>exact q3
  | ret v=>exact q3
 | false =>
  rw [if_neg O8]
  exact Ss ⟨σ1,H2,I2,q2⟩
end
structure It where
 go:Nat->Hp->Prop
 yld:Nat->Hp->V->Hp->Prop
 stop:Nat->Hp->Prop
noncomputable def FpOk (X:Cx)(pins:List (Addr×Obj))(H:Hp)(b:Addr):Prop :=
 H b=none/\b≠X.env.locals/\b ∉ X.fs/\(b∈X.ex\/X.s₀.heap.objs.size<=b)/\(∀ x c,X.env.cells.lookup x=some c->c≠b)/\∀ p∈X.pn++pins,p.1≠b
theorem Inv.fpOk {X:Cx}{pins:List (Addr×Obj)}{σ:St}{H H':Hp}{s:Shared}{b:Addr}(I:Inv X pins σ H s)(hb:s.heap.objs.size<=b)(hn:H' b=none):FpOk X pins H' b:=by
 refine ⟨hn,Re (Pf I.lt hb),I.nofs hb,.inr (P5 I.sz hb),fun x c e z=>?_,fun p hp z=>?_⟩
 ·obtain ⟨v,q⟩:=I.cell x c e
  exact absurd (Pf q.lt (by rw [z];exact hb)) (Q4 _)
 ·exact absurd (Pf (O9 (I.pin p hp).1) (by rw [z];exact hb)) (Q4 _)
structure E7 (P:Program)(w:World)(K:O0)(tg:Expr)(J:It)(fp:List Addr)(it:Addr)(tn:Nat->Heap->Prop):Prop where
 mem:it∈fp
 obj:∀ i h,tn i h->∀ b∈fp,∃ o,h.get? b=some o/\∀ v,o.data≠.cell v
 keep:∀ i h h',tn i h->(∀ b∈fp,∀ o,h.get? b=some o->h'.get? b=some o)->tn i h'
 item:∀(X:Cx),X.prog=P->X.w=w->X.K=K->X.calm=true->∀(i:Nat)(pins:List (Addr×Obj))(s:Shared)(σ:St)(H:Hp)(E:Value->Shared->Prop),Inv X pins σ H s->(∀ b∈fp,FpOk X pins H b)->tn i s.heap->J.go i H ->
  wpAny (model P w) X.A (pyNext (.ref it)) (fun r s1=>∃ u,r=some u /\
   wpAny (model P w) X.A (letOwnedTupleGo tg (.ref it) u) (fun _ s2=>∃ x H',Inv X pins σ H' s2/\RelV x u/\J.yld i H x H'/\tn (i+1) s2.heap/\∀ b∈fp,H' b=none) E s1) E s
 done:∀(X:Cx),X.prog=P->X.w=w->X.K=K->X.calm=true->∀(i:Nat)(pins:List (Addr×Obj))(s:Shared)(σ:St)(H:Hp)(E:Value->Shared->Prop),Inv X pins σ H s->(∀ b∈fp,FpOk X pins H b)->tn i s.heap->J.stop i H ->
  wpAny (model P w) X.A (pyNext (.ref it)) (fun r s1=>r=none/\Inv X pins σ H s1) E s
 self:∀(A:Around)(i:Nat)(s:Shared)(Q:Value->Shared->Prop)(E:Value->Shared->Prop),tn i s.heap->Q (.ref it) s->wpAny (model P w) A (pyIter (.ref it)) Q E s
noncomputable abbrev TI:=St->Hp->(It->Hp->Prop)->Prop
noncomputable def PIE (X:Cx)(pins:List (Addr×Obj))(σ:St)(tg:Expr)(R:It->Hp->Prop)(itv:Value)(s2:Shared):Prop :=
 ∃(it:Addr)(fp:List Addr)(tn:Nat->Heap->Prop)(J:It)(H':Hp),itv=.ref it/\Inv X pins σ H' s2/\E7 X.prog X.w X.K tg J fp it tn/\tn 0 s2.heap/\(∀ b∈fp,FpOk X pins H' b)/\R J H'
noncomputable def PI (X:Cx)(tg iter:Expr)(wi:TI):Prop :=
 ∀(pins:List (Addr×Obj))(s:Shared)(σ:St)(H:Hp)(R:It->Hp->Prop),Inv X pins σ H s->wi σ H R ->
  wpAny (model X.prog X.w) X.A (eval iter X.env) (fun v s1=>wpAny (model X.prog X.w) X.A (pyIter v) (PIE X pins σ tg R) X.xe s1) X.xe s
theorem Ie {M:Model}{A:Around}{E:Value->Shared->Prop}{s:Shared}{tg:Expr}{it:Addr}{u:Value}{o:Obj}{n:String}{vs:Array Value}{Q:Unit->Shared->Prop}(ho:s.heap.get? it=some o)(hc:o.cls=.type n)(hd:o.data=.fields vs)
  (hn:["enumerate", "zip", "dict_itemiterator", "dict_reverseitemiterator", "odict_iterator", "itertools.zip_longest", "itertools.pairwise"].contains n=false) (hQ:Q () s):wpAny M A (letOwnedTupleGo tg (.ref it) u) Q E s:=by
 unfold letOwnedTupleGo
 cases tg <;> first
  | exact O2 hQ
  | (cases u <;> first
    | exact O2 hQ
    | (refine O1 (wpAny_load ho ?_)
       rw [hc,hd]
       show wpAny M A (if (["enumerate", "zip", "dict_itemiterator", "dict_reverseitemiterator", "odict_iterator", "itertools.zip_longest", "itertools.pairwise"].contains n && vs[0]? == some (rawInt _))=true then _ else _) Q E s
       rw [if_neg (by intro h;rw [hn,P0] at h;cases h)]
       exact O2 hQ))
noncomputable def Jr (K:O0)(a:Addr):It :=
 ⟨fun i H=>∃ xs x,SqL K H a xs/\xs[i]?=some x,fun i H x H'=>H'=H/\∀ xs,SqL K H a xs->xs[i]?=some x,fun i H=>∃ xs,SqL K H a xs/\xs.length<=i⟩
noncomputable def Jp (K:O0)(a:Addr):It :=
 ⟨fun i H=>∃ xs x,SqT K H a xs/\xs[i]?=some x,fun i H x H'=>H'=H/\∀ xs,SqT K H a xs->xs[i]?=some x,fun i H=>∃ xs,SqT K H a xs/\xs.length<=i⟩
noncomputable def Gg (lo:Int)(n:Nat):It:=⟨fun i _=>i < n,fun i H x H'=>H'=H/\x=.int (lo+i),fun i _=>n<=i⟩
theorem Zqv {P:Program}{w:World}{K:O0}{tg:Expr}(a it:Addr):E7 P w K tg (Jr K a) [it] it (fun i h=>h.IsListIter it a i) where
 mem:=by simp
 obj:=fun i h st b hb=>by
  have e:b=it:=by simpa using hb
  subst e
  obtain ⟨o,e,c,d⟩:=st
  exact ⟨o,e,fun v z=>by rw [d] at z;cases z⟩
 keep:=fun i h h' st k=>st.at fun o e=>k it (by simp) o e
 item:=by
  intro X hP hw hK hc i pins s σ H E I hf st hg
  subst hP hw hK
  obtain ⟨xs,x,hq,hx⟩:=hg
  obtain ⟨its,rv,p,hz⟩:=I.list hq
  obtain ⟨u,hu,ru⟩:=rv.get hx
  obtain ⟨f0,f1,f2,f3,f4,f5⟩:=hf it (by simp)
  refine wpAny_pyNext_list_item st p.isList (x:=u) (by simpa using hu) fun h' st' sb=>?_
  have I1:Inv X pins σ H { s with heap:=h' }:=I.turned (t':=s.toks) (fun b o hb e=>(sb.2 b hb).trans e) f0 f1 f3 f4 f5
  obtain ⟨o,e,c,d⟩:=id st'
  exact ⟨u,rfl,Ie (s:={ s with heap:=h' }) e c d (by decide) ⟨x,H,I1,ru,⟨rfl,fun ys hy=>by rw [I.list_inj hy hq];exact hx⟩,st',fun b hb=>(hf b hb).1⟩⟩
 done:=by
  intro X hP hw hK hc i pins s σ H E I hf st hg
  subst hP hw hK
  obtain ⟨xs,hq,hx⟩:=hg
  obtain ⟨its,rv,p,hz⟩:=I.list hq
  obtain ⟨f0,f1,f2,f3,f4,f5⟩:=hf it (by simp)
  have hl:=rv.length
  exact wpAny_pyNext_list_end (I.ok.hd hc) st p.isList (by simp;omega) fun h' eb=>⟨rfl,I.turned (t':=s.toks) (fun b o hb e=>eb b o hb e) f0 f1 f3 f4 f5⟩
 self:=fun _ _ _ _ _ st h=>wpAny_pyIter_listiter st h
theorem Zi1 {P:Program}{w:World}{K:O0}{tg:Expr}(a it:Addr):E7 P w K tg (Jp K a) [it] it (fun i h=>h.IsTupleIter it a i) where
 mem:=by simp
 obj:=fun i h st b hb=>by
  have e:b=it:=by simpa using hb
  subst e
  obtain ⟨o,e,c,d⟩:=st
  exact ⟨o,e,fun v z=>by rw [d] at z;cases z⟩
 keep:=fun i h h' st k=>st.at fun o e=>k it (by simp) o e
 item:=by
  intro X hP hw hK hc i pins s σ H E I hf st hg
  subst hP hw hK
  obtain ⟨xs,x,hq,hx⟩:=hg
  obtain ⟨its,rv,p,hz⟩:=I.tuple hq
  obtain ⟨u,hu,ru⟩:=rv.get hx
  obtain ⟨f0,f1,f2,f3,f4,f5⟩:=hf it (by simp)
  refine wpAny_pyNext_tuple_item st (show s.heap.IsTuple a its.toArray from p) (x:=u) (by simpa using hu) fun h' st' sb=>?_
  have I1:Inv X pins σ H { s with heap:=h' }:=I.turned (t':=s.toks) (fun b o hb e=>(sb.2 b hb).trans e) f0 f1 f3 f4 f5
  obtain ⟨o,e,c,d⟩:=id st'
  exact ⟨u,rfl,Ie (s:={ s with heap:=h' }) e c d (by decide) ⟨x,H,I1,ru,⟨rfl,fun ys hy=>by rw [I.tuple_inj hy hq];exact hx⟩,st',fun b hb=>(hf b hb).1⟩⟩
 done:=by
  intro X hP hw hK hc i pins s σ H E I hf st hg
  subst hP hw hK
  obtain ⟨xs,hq,hx⟩:=hg
  obtain ⟨its,rv,p,hz⟩:=I.tuple hq
  obtain ⟨f0,f1,f2,f3,f4,f5⟩:=hf it (by simp)
  have hl:=rv.length
  exact wpAny_pyNext_tuple_end (I.ok.hd hc) st (show s.heap.IsTuple a its.toArray from p) (by simp;omega) fun h' eb=>⟨rfl,I.turned (t':=s.toks) (fun b o hb e=>eb b o hb e) f0 f1 f3 f4 f5⟩
 self:=fun _ _ _ _ _ st h=>wpAny_pyIter_tupleiter st h
theorem Zok {P:Program}{w:World}{K:O0}{tg:Expr}(it:Addr)(lo:Int)(n:Nat):E7 P w K tg (Gg lo n) [it] it (fun i h=>IsRangeIter h it (lo+(i:Nat) * 1) ((n:Int) - (i:Nat)) 1) where
 mem:=by simp
 obj:=fun i h st b hb=>by
  have e:b=it:=by simpa using hb
  subst e
  exact ⟨_,st,fun v z=>by
   have z':Data.fields _=Data.cell v:=z
   cases z'⟩
 keep:=fun i h h' st k=>k it (by simp) _ st
 item:=by
  intro X hP hw hK hc i pins s σ H E I hf st hg
  subst hP hw hK
  obtain ⟨f0,f1,f2,f3,f4,f5⟩:=hf it (by simp)
  have W:=Walks.range (prog:=X.prog) (w:=X.w) (I.ok.hd hc) it lo 1 n
  refine W.item i s _ _ hg st fun v h' tk hv st' kk=>?_
  obtain ⟨t,rfl⟩:=hv
  have I1:Inv X pins σ H { s with heap:=h',toks:=tk }:=I.turned (fun b o hb e=>kk b o (by simpa using hb) e) f0 f1 f3 f4 f5
  refine ⟨_,rfl,Ie (s:={ s with heap:=h',toks:=tk }) (n := "range_iterator") st' rfl rfl (by decide) ⟨.int (lo+i),H,I1,⟨t,?_⟩,⟨rfl,rfl⟩,st',fun b hb=>(hf b hb).1⟩⟩
  rw [Int.mul_one]
 done:=by
  intro X hP hw hK hc i pins s σ H E I hf st hg
  subst hP hw hK
  obtain ⟨f0,f1,f2,f3,f4,f5⟩:=hf it (by simp)
  exact wpAny_pyNext_range_end (I.ok.hd hc) st (by have:n<=i:=hg;omega) fun h' eb=>⟨rfl,I.turned (t':=s.toks) (fun b o hb e=>eb b o hb e) f0 f1 f3 f4 f5⟩
 self:=fun _ _ _ _ _ st h=>wpAny_pyIter_rangeiter st h
section
variable {X:Cx}{tg:Expr}
theorem Zn9 {pins:List (Addr×Obj)}{σ:St}{H:Hp}{s:Shared}{R:It->Hp->Prop}{E:Value->Shared->Prop}{lo hi:Int}{t u v:Tok}{tk:Nat}(I:Inv X pins σ H s)(h1:-(2 ^ 62)<=lo)(h2:lo < 2 ^ 62)(h3:-(2 ^ 62)<=hi)(h4:hi < 2 ^ 62)
  (q:R (Gg lo (hi - lo).toNat) H):wpAny (model X.prog X.w) X.A (pyIter (.ref s.heap.objs.size)) (PIE X pins σ tg R) E { s with heap:=s.heap.push { cls:=.type "range",data:=.fields #[.int lo t,.int hi u,.int 1 v] },toks:=tk }:=by
 refine wpAny_pyIter_range (IsRange.new ..) (small_one h1 h2 h3 h4) ?_
 have I1:Inv X pins σ H { s with heap:=s.heap.push { cls:=.type "range",data:=.fields #[.int lo t,.int hi u,.int 1 v] },toks:=tk }:=I.kept fun b o e=>O6 _ e
 refine ⟨(s.heap.push { cls:=.type "range",data:=.fields #[.int lo t,.int hi u,.int 1 v] }).objs.size,[(s.heap.push { cls:=.type "range",data:=.fields #[.int lo t,.int hi u,.int 1 v] }).objs.size],_,_,H,rfl,
  I1.kept (t':=tk) fun b o e=>O6 _ e,Zok _ lo (hi - lo).toNat,?_,fun b hb=>?_,q⟩
 ·have e1:lo+((0:Nat):Int) * 1=lo:=by simp
  have e2:(((hi - lo).toNat:Nat):Int) - ((0:Nat):Int)=T8 lo hi 1:=by rw [rangeSize_one];split <;> omega
  show IsRangeIter _ _ (lo+((0:Nat):Int) * 1) ((((hi - lo).toNat:Nat):Int) - ((0:Nat):Int)) 1
  rw [e1,e2]
  exact Pe _ rfl
 ·have e:b=(s.heap.push { cls:=.type "range",data:=.fields #[.int lo t,.int hi u,.int 1 v] }).objs.size:=by simpa using hb
  subst e
  exact I1.fpOk (O3 _) (I1.hok.fresh (O3 _))
noncomputable def Zax (ta:TA):TI:=fun σ H R=>ta σ H fun vs H1=>∃ j:Int,vs=[.int j]/\-(2 ^ 62)<=j/\j < 2 ^ 62/\R (Gg 0 j.toNat) H1
theorem Zk8 {a:Expr}{ta:TA}{p pos:Pos}(hg:Gl X "range")(hm:X.mg "range" = none)(ha:PA X [a] ta)(hs:starEach [a] X.env=[(false,eval a X.env)]:=by rfl):PI X tg (.Call (.Name "range" p) [a] [] pos) (Zax ta):=by
 intro pins s σ H R I h
 refine Call_ (Fs I hg hm boot_range (R6 (Aj (ha pos pins s σ H _ I h) fun us s1 zq=>?_) hs rfl))
 obtain ⟨vs,H1,I1,r1,q1⟩:=zq
 obtain ⟨j,e,q1,q2,q⟩:=q1
 subst e
 cases r1 with
 | cons r rr =>
  cases rr
  obtain ⟨t,rfl⟩:=r
  exact call_range_1 (Zn9 I1 (by omega) (by omega) q1 q2 (by simpa using q))
noncomputable def Zc4 (wi:TI)(g:TG)(tb:TS):TS:=fun D σ H=>wi σ H fun J H1=>∃ W:Nat->Nat->St->Hp->Prop,(∃ m,W 0 m σ H1)/\∀ i m σ H,W i m σ H ->
 (J.stop i H/\D.nx σ H)\/(J.go i H/\∃ N:St->Hp->Prop,(∀ σ' H',N σ' H'->∃ m',m' < m/\W (i+1) m' σ' H')/\∀ x H',J.yld i H x H'->g x σ H' fun σ2 H2=>tb { D with nx:=N,ct:=N,bk:=D.nx } σ2 H2)
noncomputable def L9 (fp:List Addr)(h:Heap):List (Addr×Obj):=fp.filterMap fun b=>(h.get? b).map fun o=>(b,o)
theorem Of {fp:List Addr}{h:Heap}{b:Addr}{o:Obj}(hb:b∈fp)(e:h.get? b=some o):(b,o)∈L9 fp h:=Vk.mpr ⟨b,hb,by rw [e];rfl⟩
theorem Ztp {fp:List Addr}{h:Heap}{p:Addr×Obj}(hp:p∈L9 fp h):p.1∈fp/\h.get? p.1=some p.2:=by
 obtain ⟨b,hb,e⟩:=Vk.mp hp
 cases q:h.get? b with
 | none=>rw [q] at e;cases e
 | some o =>
  rw [q] at e
  have e':(b,o)=p:=Pu e
  subst e'
  exact ⟨hb,q⟩
theorem Inv.pinned {pins:List (Addr×Obj)}{σ:St}{H:Hp}{s:Shared}{fp:List Addr}(I:Inv X pins σ H s)(hf:∀ b∈fp,FpOk X pins H b)(ho:∀ b∈fp,∃ o,s.heap.get? b=some o/\∀ v,o.data≠.cell v):Inv X (pins++L9 fp s.heap) σ H s :=
 I.pins_of fun p hp=>(P4.mp hp).elim (fun z=>I.pin p (Q9 _ z)) fun z=>by
  obtain ⟨hb,e⟩:=Ztp z
  obtain ⟨f0,f1,f2,_⟩:=hf p.1 hb
  obtain ⟨o,e',d⟩:=ho p.1 hb
  rw [e] at e';cases e'
  exact ⟨e,f0,f1,f2,d⟩
theorem Inv.unpinned {pins pl:List (Addr×Obj)}{σ:St}{H:Hp}{s:Shared}(I:Inv X (pins++pl) σ H s):Inv X pins σ H s:=I.pins_of fun p hp=>I.pin p (Q9 _ (Ud _ hp))
theorem Zie {iter:Expr}{body:List Stmt}{wi:TI}{g:TG}{tb:TS}{pos:Pos}(hp:PassesOwn (model X.prog X.w) X.A X.env X.xe)(hc:X.calm=true)(hi:PI X tg iter wi)(hg:PG X tg g)(hb:PSs X body tb)
  (hs:∀ x,foldedSetIterable iter X.env x=pure x:=by intro _;rfl):PS X (.For tg iter body [] pos) (Zc4 wi g tb):=by
 intro pins s σ H D I h
 refine wpAny_For (Aj (hi pins s σ H _ I h) fun v s1 h1=>Aj h1 fun itv s2 h2=>?_) hs
 obtain ⟨it,fp,tn,J,H2,e,I2,T,st2,f2,W,⟨m0,w0⟩,turn⟩:=h2
 subst e
 have stat:∀{H':Hp},(∀ b∈fp,H' b=none)->∀ b∈fp,FpOk X pins H' b:=fun hn b hb=>⟨hn b hb,(f2 b hb).2⟩
 refine codeAny_forLoop_any (fun n s'=>∃ i σ' H',Inv X pins σ' H' s'/\tn i s'.heap/\(∀ b∈fp,H' b=none)/\W i n σ' H') ?_ m0 ⟨0,σ,H2,I2,st2,fun b hb=>(f2 b hb).1,w0⟩
 rintro n s3 ⟨i,σ3,H3,I3,st3,fr3,w3⟩
 rcases turn i n σ3 H3 w3 with ⟨stop,qn⟩ | ⟨go,N,hN,step⟩
 ·refine Sh hp (Aj (T.done X rfl rfl rfl hc i pins s3 σ3 H3 X.xe I3 (stat fr3) st3 stop) fun r s4 zq=>?_)
  obtain ⟨hr,I4⟩:=zq
  subst hr
  exact Ss ⟨σ3,H3,I4,qn⟩
 ·refine Sh hp (Aj (T.item X rfl rfl rfl hc i pins s3 σ3 H3 X.xe I3 (stat fr3) st3 go) fun r s4 zq=>?_)
  obtain ⟨u,hr,h4⟩:=zq
  subst hr
  refine Sh hp (Aj h4 fun _ s5 zq=>?_)
  obtain ⟨x,H5,I5,r5,y5,st5,fr5⟩:=zq
  have I5':=I5.pinned (stat fr5) (T.obj _ _ st5)
  refine Sh hp (Aj (hg _ s5 σ3 H5 x u _ I5' r5 (step x H5 y5)) fun _ s6 zq=>?_)
  obtain ⟨σ6,H6,I6,q6⟩:=zq
  refine Sh hp (Aj (hb _ s6 σ6 H6 _ I6 q6) fun f s7 q7=>?_)
  have again:∀{σ7:St}{H7:Hp},Inv X (pins++L9 fp s5.heap) σ7 H7 s7->N σ7 H7->∃ m,m < n/\∃ i σ' H',Inv X pins σ' H' s7/\tn i s7.heap/\(∀ b∈fp,H' b=none)/\W i m σ' H':=fun {σ7 H7} I7 n7=>by
   obtain ⟨m',hm,w7⟩:=hN σ7 H7 n7
   refine ⟨m',hm,i+1,σ7,H7,I7.unpinned,T.keep _ _ _ st5 fun b hb o e=>(I7.pin (b,o) (Q9 _ (Q9 _ (Of hb e)))).1,fun b hb=>?_,w7⟩
   obtain ⟨o,e,d⟩:=T.obj _ _ st5 b hb
   exact (I7.pin (b,o) (Q9 _ (Q9 _ (Of hb e)))).2.1
  cases f with
  | next=>obtain ⟨σ7,H7,I7,n7⟩:=q7;exact again I7 n7
  | cont=>obtain ⟨σ7,H7,I7,n7⟩:=q7;exact again I7 n7
  | brk=>obtain ⟨σ7,H7,I7,q7⟩:=q7;exact ⟨σ7,H7,I7.unpinned,q7⟩
  | ret v=>obtain ⟨x7,σ7,H7,I7,r7,q7⟩:=q7;exact ⟨x7,σ7,H7,I7.unpinned,r7,q7⟩
end
theorem Zaw {K:O0}{a:Addr}{xs:List V}{g:TG}{tb:TS}{D:Ends}{σ:St}{H:Hp}(Pv:Nat->St->Hp->Prop)(h0:Pv 0 σ H)(hl:∀ i σ H,i<=xs.length->Pv i σ H->SqL K H a xs)
  (hs:∀ i x σ H,xs[i]?=some x->Pv i σ H->g x σ H fun σ2 H2=>tb { D with nx:=Pv (i+1),ct:=Pv (i+1),bk:=D.nx } σ2 H2) (hd:∀ σ H,Pv xs.length σ H->D.nx σ H) :
  ∃ W:Nat->Nat->St->Hp->Prop,(∃ m,W 0 m σ H)/\∀ i m σ H,W i m σ H ->
   ((Jr K a).stop i H/\D.nx σ H)\/((Jr K a).go i H/\∃ N:St->Hp->Prop,(∀ σ' H',N σ' H'->∃ m',m' < m/\W (i+1) m' σ' H')/\∀ x H',(Jr K a).yld i H x H'->g x σ H' fun σ2 H2=>tb { D with nx:=N,ct:=N,bk:=D.nx } σ2 H2):=by
 refine ⟨fun i m σ H=>m=xs.length - i/\i<=xs.length/\Pv i σ H,⟨xs.length,by simp,Qb _,h0⟩,?_⟩
 rintro i m σ H ⟨rfl,hi,p⟩
 have q:=hl i σ H hi p
 by_cases hlt:i < xs.length
 ·refine .inr ⟨⟨xs,xs[i],q,by simp [hlt]⟩,Pv (i+1),fun σ' H' p'=>⟨xs.length - (i+1),by omega,rfl,hlt,p'⟩,fun x H' y=>?_⟩
  obtain ⟨e,y⟩:=y
  subst e
  exact hs i x σ _ (y xs q) p
 ·have e:i=xs.length:=by omega
  subst e
  exact .inl ⟨⟨xs,q,O3 _⟩,hd σ H p⟩
theorem Zcs {K:O0}{a:Addr}{xs:List V}{g:TG}{tb:TS}{D:Ends}{σ:St}{H:Hp}(Pv:Nat->St->Hp->Prop)(h0:Pv 0 σ H)(hl:∀ i σ H,i<=xs.length->Pv i σ H->SqT K H a xs)
  (hs:∀ i x σ H,xs[i]?=some x->Pv i σ H->g x σ H fun σ2 H2=>tb { D with nx:=Pv (i+1),ct:=Pv (i+1),bk:=D.nx } σ2 H2) (hd:∀ σ H,Pv xs.length σ H->D.nx σ H) :
  ∃ W:Nat->Nat->St->Hp->Prop,(∃ m,W 0 m σ H)/\∀ i m σ H,W i m σ H ->
   ((Jp K a).stop i H/\D.nx σ H)\/((Jp K a).go i H/\∃ N:St->Hp->Prop,(∀ σ' H',N σ' H'->∃ m',m' < m/\W (i+1) m' σ' H')/\∀ x H',(Jp K a).yld i H x H'->g x σ H' fun σ2 H2=>tb { D with nx:=N,ct:=N,bk:=D.nx } σ2 H2):=by
 refine ⟨fun i m σ H=>m=xs.length - i/\i<=xs.length/\Pv i σ H,⟨xs.length,by simp,Qb _,h0⟩,?_⟩
 rintro i m σ H ⟨rfl,hi,p⟩
 have q:=hl i σ H hi p
 by_cases hlt:i < xs.length
 ·refine .inr ⟨⟨xs,xs[i],q,by simp [hlt]⟩,Pv (i+1),fun σ' H' p'=>⟨xs.length - (i+1),by omega,rfl,hlt,p'⟩,fun x H' y=>?_⟩
  obtain ⟨e,y⟩:=y
  subst e
  exact hs i x σ _ (y xs q) p
 ·have e:i=xs.length:=by omega
  subst e
  exact .inl ⟨⟨xs,q,O3 _⟩,hd σ H p⟩
theorem Nm {lo:Int}{n:Nat}{g:TG}{tb:TS}{D:Ends}{σ:St}{H:Hp}(Pv:Nat->St->Hp->Prop)(h0:Pv 0 σ H)
  (hs:∀ i σ H,i < n->Pv i σ H->g (.int (lo+i)) σ H fun σ2 H2=>tb { D with nx:=Pv (i+1),ct:=Pv (i+1),bk:=D.nx } σ2 H2) (hd:∀ σ H,Pv n σ H->D.nx σ H) :
  ∃ W:Nat->Nat->St->Hp->Prop,(∃ m,W 0 m σ H)/\∀ i m σ H,W i m σ H ->
   ((Gg lo n).stop i H/\D.nx σ H)\/((Gg lo n).go i H/\∃ N:St->Hp->Prop,(∀ σ' H',N σ' H'->∃ m',m' < m/\W (i+1) m' σ' H')/\∀ x H',(Gg lo n).yld i H x H'->g x σ H' fun σ2 H2=>tb { D with nx:=N,ct:=N,bk:=D.nx } σ2 H2):=by
 refine ⟨fun i m σ H=>m=n - i/\i<=n/\Pv i σ H,⟨n,by simp,Qb _,h0⟩,?_⟩
 rintro i m σ H ⟨rfl,hi,p⟩
 by_cases hlt:i < n
 ·refine .inr ⟨hlt,Pv (i+1),fun σ' H' p'=>⟨n - (i+1),by omega,rfl,hlt,p'⟩,fun x H' y=>?_⟩
  obtain ⟨e,y⟩:=y
  subst e y
  exact hs i σ _ hlt p
 ·have e:i=n:=by omega
  subst e
  exact .inl ⟨O3 _,hd σ H p⟩
noncomputable abbrev R2:=V->V->Hp->VK->Prop
noncomputable def OpR (X:Cx)(f:Value->Value->Sem Value)(r:R2):Prop :=
 ∀(pins:List (Addr×Obj))(s:Shared)(σ:St)(H:Hp)(x y:V)(v u:Value)(Q:VK),Inv X pins σ H s->RelV x v->RelV y u->r x y H Q ->
  wpAny (model X.prog X.w) X.A (f v u) (EP X pins σ Q) X.xe s
noncomputable def UnR (X:Cx)(f:Value->Sem Value)(r:V->Hp->VK->Prop):Prop :=
 ∀(pins:List (Addr×Obj))(s:Shared)(σ:St)(H:Hp)(x:V)(v:Value)(Q:VK),Inv X pins σ H s->RelV x v->r x H Q ->
  wpAny (model X.prog X.w) X.A (f v) (EP X pins σ Q) X.xe s
noncomputable def Cm (X:Cx)(f:Value)(r:List V->Hp->VK->Prop):Prop :=
 ∀(pins:List (Addr×Obj))(s:Shared)(σ:St)(H:Hp)(xs:List V)(us:List Value)(Q:VK),Inv X pins σ H s->Vals xs us->r xs H Q ->
  wpAny (model X.prog X.w) X.A (call f us) (EP X pins σ Q) X.xe s
noncomputable def TruR (X:Cx)(r:V->Hp->(Bool->Hp->Prop)->Prop):Prop :=
 ∀(pins:List (Addr×Obj))(s:Shared)(σ:St)(H:Hp)(x:V)(v:Value)(Q:Bool->Hp->Prop),Inv X pins σ H s->RelV x v->r x H Q ->
  wpAny (model X.prog X.w) X.A (truthy v) (TP X pins σ Q) X.xe s
noncomputable def Dl (r:R2)(ta tb:TE):TE:=fun σ H Q=>ta σ H fun x H1=>tb σ H1 fun y H2=>r x y H2 Q
noncomputable def tUn (r:V->Hp->VK->Prop)(ta:TE):TE:=fun σ H Q=>ta σ H fun x H1=>r x H1 Q
noncomputable def rI (C:Int->Int->Prop)(g:Int->Int->V):R2:=fun x y H Q=>∃ i j,x=.int i/\y=.int j/\C i j/\Q (g i j) H
noncomputable def Dv (g:Int->Int->V):R2:=fun x y H Q=>∃ i j,x=.int i/\y=.int j/\Q (g i j) H
noncomputable def rU (g:Int->V):V->Hp->VK->Prop:=fun x H Q=>∃ i,x=.int i/\Q (g i) H
section
variable {X:Cx}{a b c:Expr}{ta tb tc:TE}{pos:Pos}
theorem Za8 (ha:PE X a ta)(hb:PE X b tb){pins:List (Addr×Obj)}{s:Shared}{σ:St}{H:Hp}{R:V->V->Hp->Prop}(I:Inv X pins σ H s)
  (h:ta σ H fun x H1=>tb σ H1 fun y H2=>R x y H2) {Q:Value->Shared->Prop} {f:Value->Value->Sem Value}
  (hf:∀ v u s2 x y H2,Inv X pins σ H2 s2->RelV x v->RelV y u->R x y H2->wpAny (model X.prog X.w) X.A (f v u) Q X.xe s2) :
  wpAny (model X.prog X.w) X.A (eval a X.env) (fun v s₁=>wpAny (model X.prog X.w) X.A (eval b X.env) (fun u s₂=>wpAny (model X.prog X.w) X.A (f v u) Q X.xe s₂) X.xe s₁) X.xe s:=by
 refine Aj (ha pins s σ H _ I h) fun v s1 zq=>?_
 obtain ⟨x,H1,I1,r1,q1⟩:=zq
 refine Aj (hb pins s1 σ H1 _ I1 q1) fun u s2 zq=>?_
 obtain ⟨y,H2,I2,r2,q2⟩:=zq
 exact hf v u s2 x y H2 I2 r1 r2 q2
theorem Zt3 {op:Operator}{r:R2}(ho:OpR X (binaryOp op) r)(ha:PE X a ta)(hb:PE X b tb):PE X (.BinOp a op b pos) (Dl r ta tb):=by
 intro pins s σ H Q I h
 exact wpAny_BinOp (Za8 ha hb I h fun v u s2 x y H2 I2 rx ry q=>ho pins s2 σ H2 x y v u Q I2 rx ry q)
theorem Zp0 {op:UnaryOp}{r:V->Hp->VK->Prop}(ho:UnR X (unaryOp op) r)(ha:PE X a ta):PE X (.UnaryOp op a pos) (tUn r ta):=by
 intro pins s σ H Q I h
 exact UnaryOp_ (Aj (ha pins s σ H _ I h) fun v s1 ⟨x,H1,I1,r1,q1⟩=>ho pins s1 σ H1 x v Q I1 r1 q1)
theorem opI {f:Value->Value->Sem Value}{C:Int->Int->Prop}{g:Int->Int->Int}
  (rule:∀(i j:Int)(t u:Tok)(s:Shared)(Q:Value->Shared->Prop)(E:Value->Shared->Prop),C i j->Q (.int (g i j) s.toks) { s with toks:=s.toks+1 }->wpAny (model X.prog X.w) X.A (f (.int i t) (.int j u)) Q E s) :
  OpR X f (rI C fun i j=>.int (g i j)):=by
 intro pins s σ H x y v u Q I rx ry h
 obtain ⟨i,j,rfl,rfl,hc,q⟩:=h
 obtain ⟨t,rfl⟩:=rx
 obtain ⟨t',rfl⟩:=ry
 exact rule i j t t' s _ _ hc ⟨.int (g i j),H,I.tok _,⟨_,rfl⟩,q⟩
theorem opI0 {f:Value->Value->Sem Value}{g:Int->Int->Int}
  (rule:∀(i j:Int)(t u:Tok)(s:Shared)(Q:Value->Shared->Prop)(E:Value->Shared->Prop),Q (.int (g i j) s.toks) { s with toks:=s.toks+1 }->wpAny (model X.prog X.w) X.A (f (.int i t) (.int j u)) Q E s) :
  OpR X f (Dv fun i j=>.int (g i j)):=by
 intro pins s σ H x y v u Q I rx ry h
 obtain ⟨i,j,rfl,rfl,q⟩:=h
 obtain ⟨t,rfl⟩:=rx
 obtain ⟨t',rfl⟩:=ry
 exact rule i j t t' s _ _ ⟨.int (g i j),H,I.tok _,⟨_,rfl⟩,q⟩
theorem Mw {f:Value->Value->Sem Value}{g:Int->Int->Bool}
  (rule:∀(i j:Int)(t u:Tok)(s:Shared)(Q:Value->Shared->Prop)(E:Value->Shared->Prop),Q (.bool (g i j)) s->wpAny (model X.prog X.w) X.A (f (.int i t) (.int j u)) Q E s) :
  OpR X f (Dv fun i j=>.bl (g i j)):=by
 intro pins s σ H x y v u Q I rx ry h
 obtain ⟨i,j,rfl,rfl,q⟩:=h
 obtain ⟨t,rfl⟩:=rx
 obtain ⟨t',rfl⟩:=ry
 exact rule i j t t' s _ _ ⟨.bl (g i j),H,I,rfl,q⟩
noncomputable def CDiv (i j:Int):Prop:=0 < j/\j < 1073741824
noncomputable def CPow (i j:Int):Prop:=0<=j/\j<=1000000/\i.natAbs < 2 ^ 64
noncomputable def CMul (i j:Int):Prop:=(-(2 ^ 64) < i/\i < 2 ^ 64)\/(-(2 ^ 64) < j/\j < 2 ^ 64)
theorem CMul.ok {i j:Int}(h:CMul i j):IntMulOk i j:=by
 rcases h with ⟨h1,h2⟩ | ⟨h1,h2⟩
 ·exact .of_left (intBits_le_64 h1 h2)
 ·exact .of_right (intBits_le_64 h1 h2)
theorem op_add:OpR X (binaryOp .Add) (Dv fun i j=>.int (i+j)):=opI0 fun _ _ _ _ _ _ _ q=>add_int q
theorem Jl:OpR X (binaryOp .Sub) (Dv fun i j=>.int (i - j)):=opI0 fun _ _ _ _ _ _ _ q=>sub_int q
theorem op_mul:OpR X (binaryOp .Mult) (rI CMul fun i j=>.int (i * j)):=opI fun _ _ _ _ _ _ _ hc q=>mul_int q hc.ok
theorem B8:OpR X (binaryOp .FloorDiv) (rI CDiv fun i j=>.int (i / j)):=opI fun i j _ _ _ _ _ hc q=>by
 have h1:(0:Int) < j:=hc.1
 have h2:j < 1073741824:=hc.2
 exact floordiv_int (by omega) (by rw [Int.fdiv_eq_ediv_of_nonneg i (by omega)];exact q) (.inl (PyProof.noPylong_small (by omega)))
theorem A6:OpR X (binaryOp .Mod) (rI (fun _ j=>0 < j) fun i j=>.int (i % j)):=opI fun i j _ _ _ _ _ hc q=>by
 have h1:(0:Int) < j:=hc
 exact mod_int' (by omega) (by rw [Int.fmod_eq_emod_of_nonneg i (by omega)];exact q)
theorem Zc9:OpR X (binaryOp .Pow) (rI CPow fun i j=>.int (i ^ j.toNat)):=opI fun _ _ _ _ _ _ _ hc q=>pow_int_small hc.1 hc.2.1 hc.2.2 q
theorem unI {f:Value->Sem Value}{g:Int->Int}
  (rule:∀(i:Int)(t:Tok)(s:Shared)(Q:Value->Shared->Prop)(E:Value->Shared->Prop),Q (.int (g i) s.toks) { s with toks:=s.toks+1 }->wpAny (model X.prog X.w) X.A (f (.int i t)) Q E s) :
  UnR X f (rU fun i=>.int (g i)):=by
 intro pins s σ H x v Q I rx h
 obtain ⟨i,rfl,q⟩:=h
 obtain ⟨t,rfl⟩:=rx
 exact rule i t s _ _ ⟨.int (g i),H,I.tok _,⟨_,rfl⟩,q⟩
theorem Fa:UnR X (unaryOp .USub) (rU fun i=>.int (-i)):=unI fun _ _ _ _ _ q=>neg_int q
end
noncomputable def Ng:V->V->Bool
 | .non,.non=>true | .non,.int _=>true | .int _,.non=>true | .non,.bl _=>true | .bl _,.non=>true | .non,.str _=>true | .str _,.non=>true
 | .int _,.int _=>true | .bl _,.bl _=>true | .str _,.str _=>true | .byt _,.byt _=>true
 | .int _,.str _=>true | .str _,.int _=>true | .bl _,.str _=>true | .str _,.bl _=>true
 | _,_=>false
noncomputable def rEq:R2:=fun x y H Q=>Ng x y=true/\Q (.bl (decide (x=y))) H
noncomputable def rNe:R2:=fun x y H Q=>Ng x y=true/\Q (.bl (!decide (x=y))) H
theorem Zef {i j:Int}:decide (V.int i=V.int j)=(i == j):=by
 rw [R0]
 simp
theorem Zgn {i j:Bool}:decide (V.bl i=V.bl j)=(i == j):=by
 rw [R0]
 simp
theorem Ci {i j:Str}:decide (V.str i=V.str j)=(i == j):=by
 rw [R0]
 simp
theorem Zdx {i j:Array UInt8}:decide (V.byt i=V.byt j)=(i.toList == j.toList):=by
 rw [R0]
 cases i
 cases j
 simp
section
variable {X:Cx}{a b c:Expr}{ta tb tc:TE}{pos:Pos}
theorem Bb {pins:List (Addr×Obj)}{σ:St}{H:Hp}{s:Shared}{Q:VK}{k k':Bool}(I:Inv X pins σ H s)(q:Q (.bl k) H)(e:k=k'):EP X pins σ Q (.bool k') s:=by
 subst e
 exact ⟨.bl k,H,I,rfl,q⟩
theorem op_eq:OpR X (compareOp .Eq) rEq:=by
 intro pins s σ H x y v u Q I rx ry h
 obtain ⟨hs,q⟩:=h
 cases x with
 | non =>
  cases rx
  cases y with
  | non=>cases ry;exact PySem.EqNone.eq_none_none (Bb I q (by simp))
  | bl j=>cases ry;exact PySem.EqNone.eq_none_bool (Bb I q (by simp))
  | int j=>obtain ⟨t',rfl⟩:=ry;exact PySem.EqNone.eq_none_int (Bb I q (by simp))
  | str j=>obtain ⟨t',rfl⟩:=ry;exact PySem.EqNone.eq_none_str (Bb I q (by simp))
  | _=>exact absurd (show false=true from hs) O8
 | bl i =>
  cases rx
  cases y with
  | non=>cases ry;exact PySem.EqNone.eq_bool_none (Bb I q (by simp))
  | bl j=>cases ry;exact eq_bool (Bb I q Zgn)
  | str j=>obtain ⟨t',rfl⟩:=ry;exact PySem.EqMixed.eq_bool_str (Bb I q (by simp))
  | _=>exact absurd (show false=true from hs) O8
 | int i =>
  obtain ⟨t,rfl⟩:=rx
  cases y with
  | non=>cases ry;exact PySem.EqNone.eq_int_none (Bb I q (by simp))
  | int j=>obtain ⟨t',rfl⟩:=ry;exact eq_int (Bb I q Zef)
  | str j=>obtain ⟨t',rfl⟩:=ry;exact PySem.EqMixed.eq_int_str (Bb I q (by simp))
  | _=>exact absurd (show false=true from hs) O8
 | str i =>
  obtain ⟨t,rfl⟩:=rx
  cases y with
  | non=>cases ry;exact PySem.EqNone.eq_str_none (Bb I q (by simp))
  | bl j=>cases ry;exact PySem.EqMixed.eq_str_bool (Bb I q (by simp))
  | int j=>obtain ⟨t',rfl⟩:=ry;exact PySem.EqMixed.eq_str_int (Bb I q (by simp))
  | str j=>obtain ⟨t',rfl⟩:=ry;exact eq_str (Bb I q Ci)
  | _=>exact absurd (show false=true from hs) O8
 | byt i =>
  obtain ⟨t,rfl⟩:=rx
  cases y with
  | byt j=>obtain ⟨t',rfl⟩:=ry;exact PySem.W.eq_bytes (Bb I q Zdx)
  | _=>exact absurd (show false=true from hs) O8
 | _=>cases y <;> exact absurd (show false=true from hs) O8
theorem op_ne:OpR X (compareOp .NotEq) rNe:=by
 intro pins s σ H x y v u Q I rx ry h
 obtain ⟨hs,q⟩:=h
 cases x with
 | non =>
  cases rx
  cases y with
  | non=>cases ry;exact PySem.EqNone.ne_none_none (Bb I q (by simp))
  | bl j=>cases ry;exact PySem.EqNone.ne_none_bool (Bb I q (by simp))
  | int j=>obtain ⟨t',rfl⟩:=ry;exact PySem.EqNone.ne_none_int (Bb I q (by simp))
  | str j=>obtain ⟨t',rfl⟩:=ry;exact PySem.EqNone.ne_none_str (Bb I q (by simp))
  | _=>exact absurd (show false=true from hs) O8
 | bl i =>
  cases rx
  cases y with
  | non=>cases ry;exact PySem.EqNone.ne_bool_none (Bb I q (by simp))
  | bl j=>cases ry;exact ne_bool (Bb I q (congrArg not Zgn))
  | str j=>obtain ⟨t',rfl⟩:=ry;exact PySem.EqMixed.ne_bool_str (Bb I q (by simp))
  | _=>exact absurd (show false=true from hs) O8
 | int i =>
  obtain ⟨t,rfl⟩:=rx
  cases y with
  | non=>cases ry;exact PySem.EqNone.ne_int_none (Bb I q (by simp))
  | int j=>obtain ⟨t',rfl⟩:=ry;exact ne_int (Bb I q (congrArg not Zef))
  | str j=>obtain ⟨t',rfl⟩:=ry;exact PySem.EqMixed.ne_int_str (Bb I q (by simp))
  | _=>exact absurd (show false=true from hs) O8
 | str i =>
  obtain ⟨t,rfl⟩:=rx
  cases y with
  | non=>cases ry;exact PySem.EqNone.ne_str_none (Bb I q (by simp))
  | bl j=>cases ry;exact PySem.EqMixed.ne_str_bool (Bb I q (by simp))
  | int j=>obtain ⟨t',rfl⟩:=ry;exact PySem.EqMixed.ne_str_int (Bb I q (by simp))
  | str j=>obtain ⟨t',rfl⟩:=ry;exact ne_str (Bb I q (congrArg not Ci))
  | _=>exact absurd (show false=true from hs) O8
 | byt i =>
  obtain ⟨t,rfl⟩:=rx
  cases y with
  | byt j=>obtain ⟨t',rfl⟩:=ry;exact PySem.W.ne_bytes (Bb I q (congrArg not Zdx))
  | _=>exact absurd (show false=true from hs) O8
 | _=>cases y <;> exact absurd (show false=true from hs) O8
theorem op_lt:OpR X (compareOp .Lt) (Dv fun i j=>.bl (decide (i < j))):=Mw fun _ _ _ _ _ _ _ q=>lt_int q
theorem op_le:OpR X (compareOp .LtE) (Dv fun i j=>.bl (decide (i<=j))):=Mw fun _ _ _ _ _ _ _ q=>le_int q
theorem Mx:OpR X (compareOp .Gt) (Dv fun i j=>.bl (decide (j < i))):=Mw fun _ _ _ _ _ _ _ q=>gt_int q
theorem Zot:OpR X (compareOp .GtE) (Dv fun i j=>.bl (decide (j<=i))):=Mw fun _ _ _ _ _ _ _ q=>ge_int q
theorem Zli:OpR X (compareOp .Lt) (fun x y H Q=>∃ i j,x=.str i/\y=.str j/\Q (.bl (decide (i.cps.toList < j.cps.toList))) H):=by
 intro pins s σ H x y v u Q I rx ry h
 obtain ⟨i,j,rfl,rfl,q⟩:=h
 obtain ⟨t,rfl⟩:=rx
 obtain ⟨t',rfl⟩:=ry
 exact lt_str (Bb I q rfl)
theorem Zia:OpR X (compareOp .In) (fun x y H Q=>∃ i j,x=.str i/\y=.str j/\Q (.bl (!(Builtin.Str.occurrences j i 0 j.length 1).isEmpty)) H):=by
 intro pins s σ H x y v u Q I rx ry h
 obtain ⟨i,j,rfl,rfl,q⟩:=h
 obtain ⟨t,rfl⟩:=rx
 obtain ⟨t',rfl⟩:=ry
 exact in_str (Bb I q rfl)
theorem Zma:OpR X (compareOp .NotIn) (fun x y H Q=>∃ i j,x=.str i/\y=.str j/\Q (.bl (!(!(Builtin.Str.occurrences j i 0 j.length 1).isEmpty))) H):=by
 intro pins s σ H x y v u Q I rx ry h
 obtain ⟨i,j,rfl,rfl,q⟩:=h
 obtain ⟨t,rfl⟩:=rx
 obtain ⟨t',rfl⟩:=ry
 exact notIn_str (Bb I q rfl)
theorem OpR.or {f:Value->Value->Sem Value}{r r':R2}(h:OpR X f r)(h':OpR X f r'):OpR X f (fun x y H Q=>r x y H Q\/r' x y H Q):=by
 intro pins s σ H x y v u Q I rx ry q
 rcases q with q | q
 ·exact h pins s σ H x y v u Q I rx ry q
 ·exact h' pins s σ H x y v u Q I rx ry q
theorem Ax (b:Expr){op:CmpOp}(h:op≠.In:=by decide)(h2:op≠.NotIn:=by decide):behindInMarks op b=false:=by
 have e1:(op == CmpOp.In)=false:=by cases op <;> first | rfl | exact absurd rfl h
 have e2:(op == CmpOp.NotIn)=false:=by cases op <;> first | rfl | exact absurd rfl h2
 cases b <;> simp [behindInMarks,e1,e2]
theorem Zkj {op:CmpOp}{r:R2}(ho:OpR X (compareOp op) r)(ha:PE X a ta)(hb:PE X b tb)(hm:behindInMarks op b=false):PE X (.Compare a [op] [b] pos) (Dl r ta tb):=by
 intro pins s σ H Q I h
 exact wpAny_Compare1 (Za8 ha hb I h fun v u s2 x y H2 I2 rx ry q=>ho pins s2 σ H2 x y v u Q I2 rx ry q) hm
noncomputable def Kb (t:TE):TT:=fun σ H Q=>t σ H fun x H'=>∃ k,x=.bl k/\Q k H'
theorem Zse {op:CmpOp}{r:R2}(ho:OpR X (compareOp op) r)(ha:PE X a ta)(hb:PE X b tb)(hm:behindInMarks op b=false):PT X (.Compare a [op] [b] pos) (Kb (Dl r ta tb)):=by
 intro pins s σ H Q I h
 refine wpAny_isTrue_Compare1 (Aj (ha pins s σ H _ I h) fun v s1 ⟨x,H1,I1,r1,q1⟩=>Aj (hb pins s1 σ H1 _ I1 q1) fun u s2 ⟨y,H2,I2,r2,q2⟩ =>
  Aj (ho pins s2 σ H2 x y v u _ I2 r1 r2 q2) fun c s3 ⟨z,H3,I3,r3,k,e,q3⟩=>?_) hm
 subst e
 cases r3
 exact Q1 ⟨H3,I3,q3⟩
noncomputable def J9 (r r':R2)(ta tb tc:TE):TE:=fun σ H Q=>ta σ H fun x H1=>tb σ H1 fun y H2=>r x y H2 fun z H3=>∃ k,z=.bl k /\
 (if k=true then tc σ H3 fun w' H4=>r' y w' H4 Q else Q (.bl false) H3)
theorem Zqp {op op':CmpOp}{r r':R2}(ho:OpR X (compareOp op) r)(ho':OpR X (compareOp op') r')(ha:PE X a ta)(hb:PE X b tb)(hc:PE X c tc)
  (hm:lastMarks [op,op'] [b,c]=false:=by with_unfolding_all rfl):PE X (.Compare a [op,op'] [b,c] pos) (J9 r r' ta tb tc):=by
 intro pins s σ H Q I h
 refine Compare_chain (Aj (ha pins s σ H _ I h) fun v s1 ⟨x,H1,I1,r1,q1⟩=>chain_link (Aj (hb pins s1 σ H1 _ I1 q1) fun u s2 ⟨y,H2,I2,r2,q2⟩ =>
  Aj (ho pins s2 σ H2 x y v u _ I2 r1 r2 q2) fun d s3 ⟨z,H3,I3,r3,k,e,q3⟩=>?_)) hm
 subst e
 cases r3
 refine Q1 ?_
 cases k with
 | false=>exact ite_ff ⟨.bl false,H3,I3,rfl,q3⟩
 | true=>exact ite_tt (chain_last (Aj (hc pins s3 σ H3 _ I3 q3) fun w' s4 ⟨z',H4,I4,r4,q4⟩=>ho' pins s4 σ H4 y z' u w' Q I4 r2 r4 q4))
theorem Ztj {op op':CmpOp}{r r':R2}(ho:OpR X (compareOp op) r)(ho':OpR X (compareOp op') r')(ha:PE X a ta)(hb:PE X b tb)(hc:PE X c tc)
  (hm:lastMarks [op,op'] [b,c]=false:=by with_unfolding_all rfl):PT X (.Compare a [op,op'] [b,c] pos) (Kb (J9 r r' ta tb tc)):=by
 intro pins s σ H Q I h
 refine isTrue_chain (Aj (ha pins s σ H _ I h) fun v s1 ⟨x,H1,I1,r1,q1⟩=>test_link (Aj (hb pins s1 σ H1 _ I1 q1) fun u s2 ⟨y,H2,I2,r2,q2⟩ =>
  Aj (ho pins s2 σ H2 x y v u _ I2 r1 r2 q2) fun d s3 ⟨z,H3,I3,r3,k,e,q3⟩=>?_)) hm
 subst e
 cases r3
 refine Q1 ?_
 cases k with
 | false =>
  obtain ⟨k',e',q'⟩:=q3
  cases e'
  exact ite_ff ⟨H3,I3,q'⟩
 | true =>
  refine ite_tt (test_last (Aj (hc pins s3 σ H3 _ I3 q3) fun w' s4 zq=>?_))
  obtain ⟨z',H4,I4,r4,q4⟩:=zq
  refine Aj (ho' pins s4 σ H4 y z' u w' _ I4 r2 r4 q4) fun d' s5 zq=>?_
  obtain ⟨z2,H5,I5,r5,k2,e2,q5⟩:=zq
  subst e2
  cases r5
  exact Q1 ⟨H5,I5,q5⟩
noncomputable def Kj (K:O0)(x:V)(H:Hp)(k:Bool):Prop :=
 match x with
 | .non=>k=false
 | .bl b=>k=b
 | .int i=>k=(i != 0)
 | .str y=>y.length<=sizeLine/\k=((y.length:Int) != 0)
 | .byt y=>y.size<=sizeLine/\k=((y.size:Int) != 0)
 | .ref p=>(∃ xs,SqL K H p xs/\k=!xs.isEmpty)\/(∃ xs,SqT K H p xs/\k=!xs.isEmpty)\/∃ kvs,H p=some (.dK kvs)/\k=!kvs.isEmpty
 | _=>False
theorem Ztl {κ:Type}{kvs:List (κ×V)}{vs:List (κ×Value)}(r:KV kvs vs):(!vs.isEmpty)=!kvs.isEmpty:=by
 cases r <;> rfl
theorem Zf7 {xs:List V}{its:List Value}(r:Vals xs its):(!its.toArray.isEmpty)=!xs.isEmpty:=by
 cases r <;> simp
theorem Jj:(sizeLine:Nat) < 2 ^ 63:=by rw [Uy];decide
theorem Zqt:TruR X (fun x H Q=>∃ k,Kj X.K x H k/\Q k H):=by
 intro pins s σ H x v Q I rx h
 obtain ⟨k,e,q⟩:=h
 have hl:=Jj
 have hs:sizeLine=16777216:=Uy
 cases x with
 | non =>
  cases rx
  have e':k=false:=e
  subst e'
  exact truthy_none ⟨H,I,q⟩
 | bl b =>
  cases rx
  have e':k=b:=e
  subst e'
  exact Q1 ⟨H,I,q⟩
 | int i =>
  obtain ⟨t,rfl⟩:=rx
  have e':k=(i != 0):=e
  subst e'
  exact PySem.P.truthy_int ⟨H,I,q⟩
 | str y =>
  obtain ⟨t,rfl⟩:=rx
  obtain ⟨hy,e'⟩:y.length<=sizeLine/\k=((y.length:Int) != 0):=e
  subst e'
  exact PySem.P.truthy_str (by omega) ⟨H,I.tok _,q⟩
 | byt y =>
  obtain ⟨t,rfl⟩:=rx
  obtain ⟨hy,e'⟩:y.size<=sizeLine/\k=((y.size:Int) != 0):=e
  subst e'
  exact PySem.W.truthy_bytes (by omega) ⟨H,I.tok _,q⟩
 | ref p =>
  cases rx
  have e':(∃ xs,SqL X.K H p xs/\k=!xs.isEmpty)\/(∃ xs,SqT X.K H p xs/\k=!xs.isEmpty)\/∃ kvs,H p=some (.dK kvs)/\k=!kvs.isEmpty:=e
  rcases e' with ⟨xs,hx,e'⟩ | ⟨xs,hx,e'⟩ | ⟨kvs,hx,e'⟩
  ·subst e'
   obtain ⟨its,r,pl,hz⟩:=I.list hx
   have hlen:=r.length
   exact wpAny_truthy_list pl.isList (by simp only [O5];omega) ⟨H,I.tok _,by rw [Zf7 r];exact q⟩
  ·subst e'
   obtain ⟨its,r,pl,hz⟩:=I.tuple hx
   have hlen:=r.length
   exact truthy_tuple pl (by simp only [O5];omega) ⟨H,I.tok _,by rw [Zf7 r];exact q⟩
  ·subst e'
   obtain ⟨hz,hS,vs,r,m⟩:kvs.length<=sizeLine/\(p == sysModules)=false/\∃ vs,KV kvs vs/\s.heap.DictOf (Zcb X.prog X.w) p vs:=I.hok p _ hx
   have hlen:kvs.length=vs.length:=Paired.length r
   exact wpAny_truthy_dict hS m (by omega) ⟨H,I.tok _,by rw [Ztl r];exact q⟩
 | _=>exact (show False from e).elim
theorem Zmm (ha:PE X a ta)(he:∀ whole,isTrue a X.env whole=(do let v <- whole;standAt a.pos;holding [v] (truthy v))) :
  PT X a (fun σ H Q=>ta σ H fun x H'=>∃ k,Kj X.K x H' k/\Q k H'):=by
 intro pins s σ H Q I h
 exact isTrue_plain (Aj (ha pins s σ H _ I h) fun v s1 ⟨x,H1,I1,r1,q1⟩=>Zqt pins s1 σ H1 x v Q I1 r1 q1) (he _)
theorem op_add_str:OpR X (binaryOp .Add) (fun x y H Q=>∃ i j,x=.str i/\y=.str j/\i.length+j.length<=sizeLine/\Q (.str (i++j)) H):=by
 intro pins s σ H x y v u Q I rx ry h
 obtain ⟨i,j,rfl,rfl,hz,q⟩:=h
 obtain ⟨t,rfl⟩:=rx
 obtain ⟨t',rfl⟩:=ry
 exact add_str (fun t' tk=>⟨.str (i++j),H,I.tok _,⟨_,rfl⟩,q⟩) hz
theorem Lx {x:V}{us:List Value}(r:Vals [x] us):∃ u,us=[u]/\RelV x u:=by
 cases r with
 | cons r1 r2=>cases r2;exact ⟨_,rfl,r1⟩
theorem Zln:Cm X (.type "int") (fun xs H Q=>(∃ i,xs=[.int i]/\Q (.int i) H)\/∃ k,xs=[.bl k]/\Q (.int (if k then 1 else 0)) H):=by
 intro pins s σ H xs us Q I r h
 rcases h with ⟨i,rfl,q⟩ | ⟨k,rfl,q⟩
 ·obtain ⟨u,rfl,t,rfl⟩:=Lx r
  exact call_int_int ⟨.int i,H,I,⟨_,rfl⟩,q⟩
 ·obtain ⟨u,rfl,r1⟩:=Lx r
  cases r1
  exact call_int_bool ⟨.int (if k then 1 else 0),H,I.tok _,⟨_,rfl⟩,q⟩
noncomputable def LenV (K:O0)(x:V)(H:Hp)(n:Nat):Prop :=
 match x with
 | .str y=>y.length<=sizeLine/\n=y.length
 | .byt y=>y.size<=sizeLine/\n=y.size
 | .ref p=>(∃ xs,SqL K H p xs/\n=xs.length)\/∃ xs,SqT K H p xs/\n=xs.length
 | _=>False
theorem Zmf:Cm X (.builtin "len") (fun xs H Q=>∃ x n,xs=[x]/\LenV X.K x H n/\Q (.int n) H):=by
 intro pins s σ H xs us Q I r h
 obtain ⟨x,n,rfl,e,q⟩:=h
 obtain ⟨u,rfl,rx⟩:=Lx r
 have hl:=Jj
 have hs:sizeLine=16777216:=Uy
 cases x with
 | str y =>
  obtain ⟨t,rfl⟩:=rx
  obtain ⟨hy,e'⟩:y.length<=sizeLine/\n=y.length:=e
  subst e'
  exact len_str (by omega) ⟨.int _,H,I.tok _,⟨_,rfl⟩,q⟩
 | byt y =>
  obtain ⟨t,rfl⟩:=rx
  obtain ⟨hy,e'⟩:y.size<=sizeLine/\n=y.size:=e
  subst e'
  exact PySem.W.len_bytes (by omega) ⟨.int _,H,I.tok _,⟨_,rfl⟩,q⟩
 | ref p =>
  cases rx
  have e':(∃ xs,SqL X.K H p xs/\n=xs.length)\/∃ xs,SqT X.K H p xs/\n=xs.length:=e
  rcases e' with ⟨xs,hx,e'⟩ | ⟨xs,hx,e'⟩
  ·subst e'
   obtain ⟨its,r',pl,hz⟩:=I.list hx
   have hlen:=r'.length
   exact Calls.call_len_list pl.isList (by simp only [O5];omega) ⟨.int xs.length,H,I.tok _,⟨_,by simp only [O5];rw [hlen]⟩,q⟩
  ·subst e'
   obtain ⟨its,r',pl,hz⟩:=I.tuple hx
   have hlen:=r'.length
   exact len_tuple pl (by simp only [O5];omega) ⟨.int xs.length,H,I.tok _,⟨_,by simp only [O5];rw [hlen]⟩,q⟩
 | _=>exact (show False from e).elim
end
structure ObjM (h:Heap)(x dx C:Addr)(mA:Str->Option Value):Prop where
 obj:h.get? x=some (Qv C dx)
 ns:h.Ns1 dx mA
 ne:dx≠x
theorem Os {h:Heap}{dx:Addr}{mA:Str->Option Value}(n:h.Ns1 dx mA):∃ od,h.get? dx=some od/\∀ name,Ut name od=some (mA name):=by
 obtain ⟨o,es,ep,ho,hd,hk,_,hm⟩:=n
 refine ⟨o,ho,fun name=>?_⟩
 have e:=hm name
 unfold nsFind findBy at e
 rw [<- Array.find?_toList] at e
 unfold Ut
 rw [hd]
 dsimp only
 split
 ·rename_i y q
  rw [q] at e
  exact congrArg some e
 ·rename_i q
  rw [q] at e
  have a:es.toList.any (·.refKey)=false:=by
   rw [List.any_eq_false]
   intro y hy
   obtain ⟨z,t,hkey⟩:=hk y (Array.mem_toList_iff.mp hy)
   simp [DictEntry.refKey,hkey]
  have a':¬ es.toList.any (·.refKey)=true:=by rw [a];exact O8
  rw [if_neg a']
  exact congrArg some e
theorem ObjM.look {h:Heap}{x dx C:Addr}{mA:Str->Option Value}(I:ObjM h x dx C mA):∃ od,R1 h x (Qv C dx) C (some od)/\∀ name,Ut name od=some (mA name) :=
 let ⟨od,ho,hl⟩:=Os I.ns
 ⟨od,⟨I.obj,rfl,rfl,ho⟩,hl⟩
section
variable {prog:Program}{w:World}{A:Around}{E:Value->Shared->Prop}{s:Shared}{K:O0}{x dx C f:Addr}{mA:Str->Option Value}{name:Str}{v:Value}
theorem Zic {expr:Bool}{Q:Value->Shared->Prop}(X:K.In s.heap)(I:ObjM s.heap x dx C mA)(hg:Qt K C name=true)(hh:Qi K C=true)
  (ha:O4 K (.ref C) name=some none) (hv:mA name=some v) (hv':PySem.W.handedIn v=true) (h:Q v { s with toks:=s.toks+1 }) :
  wpAny (model prog w) A (getAttr (.ref x) name expr) Q E s:=by
 obtain ⟨od,J,hl⟩:=I.look
 exact PySem.W.get_value X J (Vf hg).1 (PySem.W.findObj_own hh ha rfl (by rw [hl,hv])) hv' h
theorem Zph {pl:Sem Bool}{Q:Value×List Value->Shared->Prop}(X:K.In s.heap)(I:ObjM s.heap x dx C mA)(hg:Qt K C name=true)
  (hf:O4 K (.ref C) name=some (some (.ref f))) (ht:R5 K (.ref f)=true) (hv:mA name=none) (h:Q (.ref f,[.ref x]) s) :
  wpAny (model prog w) A (getMethod (.ref x) name pl) Q E s:=by
 obtain ⟨od,J,hl⟩:=I.look
 exact PySem.W.method_fn X J (Vf hg).1 (Vf hg).2 hf (beq_iff_eq.mp ht) (by show (Ut name od).map (·.isSome)=some false;rw [hl,hv];rfl) h
theorem Zpg {ns:List Str}{Q:Unit->Shared->Prop}(X:K.In s.heap)(I:ObjM s.heap x dx C mA)
  (hs:O4 K (.ref C) "__setattr__" = some (some (.builtin "object.__setattr__"))) (hp:Rb K C=true) (ht:V0 K C name=some none) (hh:Qi K C=true)
  (hw:Tw mA ns) (hsz:ns.length<=sizeLine)
  (h:∀ h',ObjM h' x dx C (fun y=>if y=name then some v else mA y)->Px dx s.heap h'->Q () { s with heap:=h',toks:=s.toks+2 }) :
  wpAny (model prog w) A (setAttr (.ref x) name v) Q E s:=by
 obtain ⟨od,J,hl⟩:=I.look
 refine PySem.W.set_plain X J hs (PySem.W.osa_open (s:={ s with toks:=s.toks+1 }) (r:=none) X J hp ht fun b=>?_)
 obtain ⟨cd,hc,hd'⟩:=PySem.W.any_some hh
 have hx:s.heap.get? x=some ⟨.ref C,some dx,.plain,#[]⟩:=I.obj
 refine O1 (O2 (O1 (O1 (Su hx (O1 (Qg.here (s:={ s with toks:=s.toks+1 }) (PySem.W.looks_clsIn X hc) ?_))))))
 rw [hd']
 refine O2 (a:=some dx) (O1 (O2 (O1 ?_)))
 refine wpAny_nsSet1 (s:={ s with toks:=s.toks+1 }) I.ns fun h' hn2 hs2=>?_
 obtain ⟨oD,esD,epD,hoD,hdD,hcD⟩:=hn2.count (Tw.cons name v hw)
 refine O1 (wpAny_lookBehind hoD (by rw [hdD];exact pastItsLine_dict (P5 hcD (by rw [Pr];omega))) ?_)
 exact O2 (h _ ⟨(hs2.2 _ (Ps I.ne)).trans I.obj,hn2,I.ne⟩ hs2)
theorem Zhz {R:Result->Shared->Prop}{vs:List Value}{kw:List (Str×Value)}(X:K.In s.heap)(hm:Qp K C=true)
  (hi:O4 K (.ref C) "__init__" = some (some (.ref f))) (hf:Qw K (.ref f)=some (.type "function"))
  (h:codeAny (model prog w) (A.under (.builtin "type.__call__" ⟨.ref C::vs,kw⟩)) (.call (.ref f) ⟨.ref (s.heap.objs.size+1)::vs,kw⟩) (PySem.W.InitBack (s.heap.objs.size+1) R)
   { s with heap:=(s.heap.push Qo).push (Qv C s.heap.objs.size) }) :
  codeAny (model prog w) A (.call (.ref C) ⟨vs,kw⟩) R s:=by
 obtain ⟨hh,g,d,t,os⟩:=s
 exact PySem.W.make_core (Vv X hm) (Vd X hi) (fun self=>PySem.W.bind_fn X self hf) (.inl rfl) h
theorem Zii {R:Result->Shared->Prop}(X:K.In s.heap)(hm:Qp K C=true)
  (hi:O4 K (.ref C) "__init__" = some (some (.builtin "object.__init__")))
  (hb:∀ self,Qg (model prog w) s.heap (bindSpecial (.builtin "object.__init__") self) (.builtin "object.__init__",[self]))
  (h:codeAny (model prog w) (A.under (.builtin "type.__call__" ⟨[.ref C],[]⟩)) (.call (.builtin "object.__init__") ⟨[.ref (s.heap.objs.size+1)],[]⟩) (PySem.W.InitBack (s.heap.objs.size+1) R)
   { s with heap:=(s.heap.push Qo).push (Qv C s.heap.objs.size) }) :
  codeAny (model prog w) A (.call (.ref C) ⟨[],[]⟩) R s:=by
 obtain ⟨hh,g,d,t,os⟩:=s
 exact PySem.W.make_core (Vv X hm) (Vd X hi) hb (.inr ⟨rfl,rfl⟩) h
end
noncomputable def Br (f:Str)(v:V):List (Str×V)->List (Str×V)
 | []=>[(f,v)]
 | (g,x)::r=>if g=f then (g,v)::r else (g,x)::Br f v r
theorem Zgv (f g:Str)(v:V):∀ fs:List (Str×V),(Br f v fs).lookup g=if g=f then some v else fs.lookup g
 | []=>by
  show Rr g [(f,v)]=_
  by_cases h:g=f
  ·have hb:(g == f)=true:=beq_iff_eq.mpr h
   simp only [Rr,hb,if_pos h]
  ·have hb:(g == f)=false:=beq_eq_false_iff_ne.mpr h
   simp only [Rr,hb,if_neg h]
 | (k,x)::r=>by
  have ih:=Zgv f g v r
  rw [show Br f v ((k,x)::r)=(if k=f then (k,v)::r else (k,x)::Br f v r) from rfl]
  by_cases hk:k=f
  ·rw [if_pos hk]
   by_cases h:g=k
   ·have hb:(g == k)=true:=beq_iff_eq.mpr h
    simp only [Rr,hb,if_pos (h.trans hk)]
   ·have hb:(g == k)=false:=beq_eq_false_iff_ne.mpr h
    simp only [Rr,hb,if_neg (fun e:g=f=>h (e.trans hk.symm))]
  ·rw [if_neg hk]
   by_cases h:g=k
   ·have hb:(g == k)=true:=beq_iff_eq.mpr h
    simp only [Rr,hb,if_neg (fun e:g=f=>hk (h.symm.trans e))]
   ·have hb:(g == k)=false:=beq_eq_false_iff_ne.mpr h
    simp only [Rr,hb]
    exact ih
theorem Zcr (f:Str)(v:V):∀ fs:List (Str×V),f∈(Br f v fs).map (·.1)/\∀ g,g∈fs.map (·.1)->g∈(Br f v fs).map (·.1)
 | []=>⟨by simp [Br],fun g h=>by simp at h⟩
 | (k,x)::r=>by
  obtain ⟨i1,i2⟩:=Zcr f v r
  rw [show Br f v ((k,x)::r)=(if k=f then (k,v)::r else (k,x)::Br f v r) from rfl]
  by_cases hk:k=f
  ·rw [if_pos hk]
   subst hk
   exact ⟨by simp,fun g h=>by simpa using h⟩
  ·rw [if_neg hk]
   refine ⟨?_,fun g h=>?_⟩
   ·rw [R4]
    exact Q0 _ i1
   ·rw [R4] at h ⊢
    rcases Pb.mp h with e | e
    ·exact Pb.mpr (.inl e)
    ·exact Q0 _ (i2 g e)
theorem Zd8 (f:Str)(v:V):∀ fs:List (Str×V),(Br f v fs).length<=fs.length+1
 | []=>by simp [Br]
 | (k,x)::r=>by
  have ih:=Zd8 f v r
  rw [show Br f v ((k,x)::r)=(if k=f then (k,v)::r else (k,x)::Br f v r) from rfl]
  by_cases hk:k=f
  ·rw [if_pos hk,Pr,Pr];omega
  ·rw [if_neg hk,Pr,Pr];omega
theorem RelO.some_of {v:V}{o:Option Value}(r:RelO (some v) o):∃ u,o=some u/\RelV v u:=by
 cases o with
 | none=>exact (show False from r).elim
 | some u=>exact ⟨u,rfl,r⟩
theorem RelO.none_of {o:Option Value}(r:RelO none o):o=none:=by
 cases o with
 | none=>rfl
 | some u=>exact (show False from r).elim
theorem Zds {v:V}{u:Value}(r:RelV v u):PySem.W.handedIn u=true:=by
 cases v with
 | non=>cases (show u=Value.none from r);rfl
 | bl b=>cases (show u=Value.bool b from r);rfl
 | int i=>obtain ⟨t,e⟩:=(show ∃ t,u=Value.int i t from r);cases e;rfl
 | str x=>obtain ⟨t,e⟩:=(show ∃ t,u=Value.str x t from r);cases e;rfl
 | byt b=>obtain ⟨t,e⟩:=(show ∃ t,u=Value.bytes b t from r);cases e;rfl
 | flt b=>obtain ⟨t,e⟩:=(show ∃ t,u=Value.float b t from r);cases e;rfl
 | ref a=>cases (show u=Value.ref a from r);rfl
 | ty n=>cases (show u=Value.type n from r);rfl
section
variable {P:Program}{w:World}{H H':Hp}{h h':Heap}{a C dx:Addr}{fs fs':List (Str×V)}
theorem Mr (hok:HOk P w H h)(e:H a=some (.ins C dx fs)):∃ mA,ObjM h a dx C mA/\(∀ f,RelO (fs.lookup f) (mA f))/\Tw mA (fs.map (·.1))/\fs.length<=1000/\H dx=some (.own a):=by
 obtain ⟨d,z,ne,ob,mA,n,r,q⟩:=(show ObjOk P w H h a (.ins C dx fs) from hok a _ e)
 exact ⟨mA,⟨ob,n,ne⟩,r,q,z,d⟩
end
structure Cls (K:O0)(C:Addr):Prop where
 pg:Qt K C Py=true
 hd:Qi K C=true
 po:Rb K C=true
 sa:O4 K (.ref C) "__setattr__" = some (some (.builtin "object.__setattr__"))
theorem Cls.get {K:O0}{C:Addr}(c:Cls K C)(f:Str):Qt K C f=true:=c.pg
noncomputable def NoAttr (K:O0)(C:Addr)(f:Str):Prop:=O4 K (.ref C) f=some none
theorem NoAttr.taker {K:O0}{C:Addr}{f:Str}(n:NoAttr K C f):V0 K C f=some none:=by
 unfold V0
 rw [show O4 K (.ref C) f=some none from n]
 rfl
structure Meth (K:O0)(C:Addr)(m:Str)(f:Addr):Prop where
 at_:O4 K (.ref C) m=some (some (.ref f))
 fn:R5 K (.ref f)=true
 kp:Ph K (.ref f)=true
section
variable {X:Cx}{pins:List (Addr×Obj)}{σ:St}{H:Hp}{s:Shared}{a C dx:Addr}{fs:List (Str×V)}{f:Str}{v:V}{A:Around}{E:Value->Shared->Prop}
theorem Zs9 {b:Bool}{Q:Value->Shared->Prop}(I:Inv X pins σ H s)(e:H a=some (.ins C dx fs))(c:Cls X.K C)(n:NoAttr X.K C f)(l:fs.lookup f=some v)
  (h:∀ u s',Inv X pins σ H s'->RelV v u->Q u s'):wpAny (model X.prog X.w) A (getAttr (.ref a) f b) Q E s:=by
 obtain ⟨mA,O,r,_,_,_⟩:=Mr I.hok e
 obtain ⟨u,hu,ru⟩:=RelO.some_of (v:=v) (o:=mA f) (by rw [<- l];exact r f)
 exact Zic I.kIn O (c.get f) c.hd n hu (Zds ru) (h u _ (I.tok _) ru)
theorem Znv {m:Str}{g:Addr}{pl:Sem Bool}{Q:Value×List Value->Shared->Prop}(I:Inv X pins σ H s)(e:H a=some (.ins C dx fs))(c:Cls X.K C)(k:Meth X.K C m g)(l:fs.lookup m=none)
  (h:Q (.ref g,[.ref a]) s):wpAny (model X.prog X.w) A (getMethod (.ref a) m pl) Q E s:=by
 obtain ⟨mA,O,r,_,_,_⟩:=Mr I.hok e
 have hn:mA m=none:=RelO.none_of (by rw [<- l];exact r m)
 exact Zph I.kIn O (c.get m) k.at_ k.fn hn h
theorem Znt {y:V}{u:Value}{Q:Unit->Shared->Prop}(I:Inv X pins σ H s)(e:H a=some (.ins C dx fs))(c:Cls X.K C)(n:NoAttr X.K C f)(hl:fs.length < 1000)(ry:RelV y u)
  (h:∀ s',Inv X pins σ (upd H a (.ins C dx (Br f y fs))) s'->Q () s'):wpAny (model X.prog X.w) A (setAttr (.ref a) f u) Q E s:=by
 obtain ⟨mA,O,r,wi,_,ho⟩:=Mr I.hok e
 have hz:(fs.map (·.1)).length<=sizeLine:=by rw [Pq,Uy];omega
 refine Zpg I.kIn O c.sa c.po n.taker c.hd wi hz fun h' O' sb=>h _ ?_
 have hd:∃ o,h'.get? dx=some o:=let ⟨o,_,_,e',_⟩:=O'.ns;⟨o,e'⟩
 refine I.write (x:=a) (e:=dx) (by rw [e];exact True.intro) (.inr ho) (fun b q hb z=>(sb.2 b hb).trans z) hd ?_
 refine ⟨by rw [Au O.ne];exact ho,?_,O.ne,O'.obj,_,O'.ns,fun g=>?_,fun g hg=>?_⟩
 ·have:=Zd8 f y fs;omega
 ·show RelO ((Br f y fs).lookup g) (if g=f then some u else mA g)
  rw [Zgv]
  by_cases q:g=f
  ·rw [if_pos q,if_pos q];exact ry
  ·rw [if_neg q,if_neg q];exact r g
 ·by_cases q:g=f
  ·rw [q];exact (Zcr f y fs).1
  ·refine (Zcr f y fs).2 g (wi g fun z=>hg ?_)
   show (if g=f then some u else mA g)=none
   rw [if_neg q];exact z
theorem Inv.made (I:Inv X pins σ H s):Inv X pins σ (upd (upd H s.heap.objs.size (.own (s.heap.objs.size+1))) (s.heap.objs.size+1) (.ins C s.heap.objs.size []))
  { s with heap:=(s.heap.push Qo).push (Qv C s.heap.objs.size) }:=by
 have e1:(s.heap.push Qo).get? s.heap.objs.size=some Qo:=Pe s.heap rfl
 have e2:((s.heap.push Qo).push (Qv C s.heap.objs.size)).get? (s.heap.objs.size+1)=some (Qv C s.heap.objs.size):=by
  have:=Pe (s.heap.push Qo) (o:=Qv C s.heap.objs.size) rfl
  rwa [Qx] at this
 have e3:(s.heap.push Qo).Ns s.heap.objs.size (fun _=>none):=⟨Qo,#[],_,e1,rfl,(fun e he=>absurd he (by simp)),fun _=>rfl⟩
 have I1:=I.laid (a:=s.heap.objs.size) (o:=.own (s.heap.objs.size+1)) (h':=s.heap.push Qo) (t':=s.toks) (fun b u q=>O6 _ q) (O3 _) ⟨_,e1⟩
 refine I1.laid (a:=s.heap.objs.size+1) (o:=.ins C s.heap.objs.size []) (t':=s.toks) (fun b u q=>O6 _ q) (Nat.le_of_eq (Qx _ _)) ?_
 have ne:s.heap.objs.size≠s.heap.objs.size+1:=Pg (Tj _)
 refine ⟨by rw [Au ne,Ad],Qb _,ne,e2,fun _=>none,(Heap.Ns1.of_empty e3).at fun o q=>O6 _ q,fun _=>True.intro,fun y hy=>absurd rfl hy⟩
theorem Ze5 {prog:Program}{w:World}{env:Env}{e:Expr}{f:Str}{pos:Pos}{s:Shared}{Q:Value->Shared->Prop}(hb:attributeBase e f env (eval e env)=eval e env)
  (h:wpAny (model prog w) A (eval e env) (fun o s₁=>wpAny (model prog w) A (getAttr o f true) Q E s₁) E s):wpAny (model prog w) A (eval (.Attribute e f pos) env) Q E s :=
 Attribute_any_ h (by rw [arm_eval_Attribute,hb])
end
noncomputable def Zbz (K:O0)(ta:TE)(f:Str):TE:=fun σ H Q=>ta σ H fun x H1=>∃ a C dx fs v,x=.ref a/\H1 a=some (.ins C dx fs)/\Cls K C/\NoAttr K C f/\fs.lookup f=some v/\Q v H1
noncomputable def Zb0 (K:O0)(ta tv:TE)(f:Str):TS:=fun D σ H=>tv σ H fun y H1=>ta σ H1 fun x H2=>∃ a C dx fs,x=.ref a/\H2 a=some (.ins C dx fs)/\Cls K C/\NoAttr K C f/\fs.length < 1000 /\
 D.nx σ (upd H2 a (.ins C dx (Br f y fs)))
section
variable {X:Cx}{o e value:Expr}{f:Str}{pos pos' tpos:Pos}{ta tv:TE}
theorem Zr5 (he:PE X e ta)(hb:attributeBase e f X.env (eval e X.env)=eval e X.env):PE X (.Attribute e f pos) (Zbz X.K ta f):=by
 intro pins s σ H Q I h
 refine Ze5 hb (Aj (he pins s σ H _ I h) fun u s1 zq=>?_)
 obtain ⟨x,H1,I1,rx,a,C,dx,fs,v,ex,ea,c,n,l,q⟩:=zq
 subst ex
 obtain rfl:u=Value.ref a:=rx
 exact Zs9 I1 ea c n l fun u' s2 I2 ru=>⟨v,H1,I2,ru,q⟩
theorem Zpv (ha:PE X o ta)(hv:PE X value tv)(hs:swapsWith value (some (.Attribute o f pos')) pos.line X.env=pure false):PS X (.Assign [.Attribute o f pos'] value pos) (Zb0 X.K ta tv f):=by
 intro pins s σ H D I h
 refine V9 (Aj (hv pins s σ H _ I h) fun u s1 zq=>?_) hs
 obtain ⟨y,H1,I1,ry,q⟩:=zq
 refine Aj (ha pins s1 σ H1 _ I1 q) fun ov s2 zq=>?_
 obtain ⟨x,H2,I2,rx,a,C,dx,fs,ex,ea,c,n,l,q2⟩:=zq
 subst ex
 obtain rfl:ov=Value.ref a:=rx
 exact Znt I2 ea c n l ry fun s3 I3=>⟨σ,_,I3,q2⟩
end
section
variable {X:Cx}{pins:List (Addr×Obj)}{σ:St}{H:Hp}{s:Shared}{A:Around}{E:Value->Shared->Prop}{Q:Value->Shared->Prop}{c:Value}{b:Bool}
inductive Di (K:O0)(H:Hp):V->Value->Prop where
 | non:Di K H .non (.type "NoneType")
 | bl (x:Bool):Di K H (.bl x) (.type "bool")
 | int (i:Int):Di K H (.int i) (.type "int")
 | str (x:Str):Di K H (.str x) (.type "str")
 | flt (x:UInt64):Di K H (.flt x) (.type "float")
 | lst {a:Addr} {xs:List V} (e:H a=some (.lst xs)):Di K H (.ref a) (.type "list")
 | frz {a:Addr} {o:Obj} {xs:List V} (e:H a=some (.frz o (.lst xs))):Di K H (.ref a) (.type "list")
 | tup {a:Addr} {xs:List V} (e:H a=some (.tup xs)):Di K H (.ref a) (.type "tuple")
 | dK {a:Addr} {kvs:List (Bu×V)} (e:H a=some (.dK kvs)):Di K H (.ref a) (.type "dict")
 | dT {a:Addr} {kvs:List (List Bu×V)} (e:H a=some (.dT kvs)):Di K H (.ref a) (.type "dict")
 | ins {a C dx:Addr} {fs:List (Str×V)} (e:H a=some (.ins C dx fs)) (cl:Cls K C) (ha:O4 K (.ref C) "__class__" = some (some (.builtin "object.__class__")))
   (hn:Vn K (.builtin "object.__class__") "__get__" = some (some (.builtin "getset_descriptor.__get__"))) (htk:V1 K (.builtin "object.__class__")=some true)
   (hm:PySem.W.mroIn K C (.type "object")=some true):Di K H (.ref a) (.ref C)
theorem Ziu {x:V}{u t:Value}(I:Inv X pins σ H s)(rx:RelV x u)(ty:Di X.K H x t)(e:Po X.K t c=some b)(h:∀ tk,Q (.bool b) { s with toks:=tk }) :
  wpAny (model X.prog X.w) A (call (.builtin "isinstance") [u,c]) Q E s:=by
 cases ty with
 | non=>cases (show u=Value.none from rx);exact Qe PySem.W.kitx_none I.kIn True.intro e (fun z=>nomatch z) h
 | bl y=>cases (show u=Value.bool y from rx);exact Qe PySem.W.kitx_bool I.kIn True.intro e (fun z=>nomatch z) h
 | int i=>obtain ⟨t,q⟩:=(show ∃ t,u=Value.int i t from rx);cases q;exact Qe PySem.W.kitx_int I.kIn True.intro e (fun z=>nomatch z) h
 | str y=>obtain ⟨t,q⟩:=(show ∃ t,u=Value.str y t from rx);cases q;exact Qe PySem.W.kitx_str I.kIn True.intro e (fun z=>nomatch z) h
 | flt y=>obtain ⟨t,q⟩:=(show ∃ t,u=Value.float y t from rx);cases q;exact Qe PySem.W.kitx_float I.kIn True.intro e (fun z=>nomatch z) h
 | @lst a xs ea =>
  cases (show u=Value.ref a from rx)
  obtain ⟨_,_,n,_,h1⟩:=(show ObjOk X.prog X.w H s.heap a (.lst xs) from I.hok a _ ea)
  exact Qe Vo I.kIn ⟨_,h1,rfl⟩ e (fun z=>nomatch z) h
 | @frz a ob xs ea =>
  cases (show u=Value.ref a from rx)
  obtain ⟨_,_,_,n,_,h1⟩:=(show ObjOk X.prog X.w H s.heap a (.frz ob (.lst xs)) from I.hok a _ ea)
  exact Qe Vo I.kIn ⟨_,h1,rfl⟩ e (fun z=>nomatch z) h
 | @tup a xs ea =>
  cases (show u=Value.ref a from rx)
  obtain ⟨_,_,_,p⟩:=(show ObjOk X.prog X.w H s.heap a (.tup xs) from I.hok a _ ea)
  obtain ⟨o,h1,h2,_⟩:=p
  exact Qe PySem.W.kitx_tuple I.kIn ⟨o,h1,h2⟩ e (fun z=>nomatch z) h
 | @dK a kvs ea =>
  cases (show u=Value.ref a from rx)
  obtain ⟨_,_,vs,_,p⟩:=(show ObjOk X.prog X.w H s.heap a (.dK kvs) from I.hok a _ ea)
  obtain ⟨o,es,ep,h1,h2,_⟩:=p
  exact Qe PySem.W.kitx_dict I.kIn ⟨o,h1,h2.1⟩ e (fun z=>nomatch z) h
 | @dT a kvs ea =>
  cases (show u=Value.ref a from rx)
  obtain ⟨_,_,xs,_,o,es,ep,h1,h2,_⟩:=(show ObjOk X.prog X.w H s.heap a (.dT kvs) from I.hok a _ ea)
  exact Qe PySem.W.kitx_dict I.kIn ⟨o,h1,h2.1⟩ e (fun z=>nomatch z) h
 | @ins a C dx fs ea cl ha hn htk hm =>
  cases (show u=Value.ref a from rx)
  obtain ⟨mA,O,_⟩:=Mr I.hok ea
  obtain ⟨od,J,_⟩:=O.look
  exact Qe (PySem.W.kitx_own (cl.get _) cl.hd ha hn htk hm) I.kIn J e (fun z=>nomatch z) h
end
structure Room (k:Nat)(A:Around):Prop where
 hd:A.handled=none
 dp:A.depth+3 * k+5 < recursionLimit
 un:A.units+16 * k+200 < cLine
theorem Room.mono {j k:Nat}{A:Around}(r:Room k A)(h:j<=k):Room j A:=⟨r.hd,by have:=r.dp;omega,by have:=r.un;omega⟩
theorem Room.deeper {k:Nat}{A:Around}(r:Room (k+1) A)(env:Env):Room k (A.deeper env) :=
 ⟨r.hd,by have:=r.dp;show A.depth+1+3 * k+5 < _;omega,by have:=r.un;show A.units+3+16 * k+200 < _;omega⟩
theorem Zin {A:Around}{C:Addr}{us:List Value}{kw:List (Str×Value)}:(A.under (.builtin "type.__call__" ⟨.ref C::us,kw⟩)).depth=A.depth+1:=by
 first | rfl | simp [Around.under,Code.weight,Code.isCreation,Code.isGuard,Code.isCaller,Code.frames,Code.isFrame,guardIds]
theorem Zlq {A:Around}{C:Addr}{us:List Value}{kw:List (Str×Value)}:(A.under (.builtin "type.__call__" ⟨.ref C::us,kw⟩)).units=A.units+1:=by
 first | rfl | simp [Around.under,Code.cUnits,Code.frames,Code.isFrame]
theorem Room.make {k:Nat}{A:Around}(r:Room (k+1) A)(C:Addr)(us:List Value)(kw:List (Str×Value)):Room k (A.under (.builtin "type.__call__" ⟨.ref C::us,kw⟩)) :=
 ⟨r.hd,by have:=r.dp;rw [Zin];omega,by have:=r.un;rw [Zlq];omega⟩
theorem Room.depth {k:Nat}{A:Around}(r:Room k A):A.depth < recursionLimit:=by have:=r.dp;omega
noncomputable def E2:TA:=fun _ H Q=>Q [] H
noncomputable def F9 (ta:TE)(tr:TA):TA:=fun σ H Q=>ta σ H fun x H1=>tr σ H1 fun xs H2=>Q (x::xs) H2
section
variable {X:Cx}{e:Expr}{es:List Expr}{te:TE}{t:TA}{pos:Pos}
theorem Ze9:PA X [] E2:=fun _ _ _ _ H Q I h=>Vp ⟨[],H,I,.nil,h⟩
theorem Zg0 (ha:PE X e te)(hr:PA X es t)(hs:starEach (e::es) X.env=(false,eval e X.env)::starEach es X.env:=by rfl):PA X (e::es) (F9 te t):=by
 intro pos pins s σ H Q I h
 rw [hs]
 show wpAny _ _ (spliced ((false,eval e X.env)::backTo pos (starEach es X.env))) _ _ s
 refine Uh (Aj (ha pins s σ H _ I h) fun u s1 zq=>?_)
 obtain ⟨x,H1,I1,r1,q1⟩:=zq
 exact Aj (hr pos pins s1 σ H1 _ I1 q1) fun us s2 ⟨xs,H2,I2,r2,q2⟩=>⟨x::xs,H2,I2,.cons r1 r2,q2⟩
noncomputable def Zb8 (t:TA):TE:=fun σ H Q=>t σ H fun xs H1=>xs.length<=sizeLine/\∀ p,H1 p=none->Q (.ref p) (upd H1 p (.tup xs))
noncomputable def Om (t:TA):TE:=fun σ H Q=>t σ H fun xs H1=>xs.length<=sizeLine/\∀ p,H1 p=none->Q (.ref p) (upd H1 p (.lst xs))
theorem Zpj {x1}(h:PA X es t):PE X (.Tuple es x1 pos) (Zb8 t):=by
 intro pins s σ H Q I hq
 refine wpAny_Tuple_spliced (Aj (h pos pins s σ H _ I hq) fun us s1 ⟨xs,H1,I1,r,z,q⟩=>⟨by rw [<- r.length];exact z,?_⟩)
 have hf:H1 s1.heap.objs.size=none:=I1.hok.fresh (O3 _)
 refine ⟨.ref s1.heap.objs.size,upd H1 s1.heap.objs.size (.tup xs),I1.laid (t':=s1.toks) (fun b u e=>O6 _ e) (O3 _) ?_,rfl,q _ hf⟩
 exact ⟨z,us,r,⟨_,Pe _ rfl,rfl,_,rfl⟩⟩
theorem Zl7 (h:PA X es t):PE X (.List es pos) (Om t):=by
 intro pins s σ H Q I hq
 refine wpAny_List_spliced (Aj (h pos pins s σ H _ I hq) fun us s1 ⟨xs,H1,I1,r,z,q⟩=>⟨by rw [<- r.length];exact z,?_⟩)
 have hf:H1 s1.heap.objs.size=none:=I1.hok.fresh (O3 _)
 refine ⟨.ref s1.heap.objs.size,upd H1 s1.heap.objs.size (.lst xs),I1.laid (t':=s1.toks) (fun b u e=>O6 _ e) (O3 _) ?_,rfl,q _ hf⟩
 exact ⟨z,us,0,r,Pe _ rfl⟩
end
noncomputable abbrev Sp:=List V->Hp->VK->XK->Prop
noncomputable abbrev Bs:=List Env->Hp->Shared->XK->Value->Shared->Prop
structure Env0 (P:Program)(w:World)(K:O0)(mg:Str->Option Value)(base:Heap)(A:Around)(outer:List Env)(s:Shared)(H:Hp):Prop where
 frames:A.frames=some outer
 mod:Mod K mg base
 bs:∀ b o,base.get? b=some o->s.heap.get? b=some o/\H b=none
 bsz:base.objs.size<=s.heap.objs.size
 funs:s.heap.FunFrames base outer
 frf:∀ b∈Bc outer,H b=none
 hok:HOk P w H s.heap
 bare:AllBare s.gens
noncomputable def CE (outer:List Env)(P:Program)(w:World)(H:Hp)(s:Shared)(Q:VK)(u:Value)(s':Shared):Prop :=
 ∃ v H',s'.os=s.os/\AllBare s'.gens/\Un (Bc outer) [] H H' s.heap s'.heap/\HOk P w H' s'.heap/\RelV v u/\Q v H'
noncomputable def CR (CX:Bs)(outer:List Env)(P:Program)(w:World)(H:Hp)(s:Shared)(Q:VK)(E:XK)(r:Result)(s':Shared):Prop :=
 match r with
 | .ok (.ret u)=>CE outer P w H s Q u s'
 | .ok _=>False
 | .error e=>CX outer H s E e s'
structure Ao (P:Program)(w:World)(K:O0)(mg:Str->Option Value)(base:Heap)(CX:Bs)(k:Nat)(f:Addr)(fd:FuncData)(ps:List Str)(sp:Sp):Prop where
 len:∀ vs H Q E,sp vs H Q E->vs.length=ps.length
 run:∀(A:Around)(outer:List Env)(s:Shared)(H:Hp)(args:Args)(us:List Value)(vs:List V)(Q:VK)(E:XK),Room k A->Env0 P w K mg base A outer s H->BindsTo s fd args (ps.zip us)->Vals vs us->sp vs H Q E ->
  codeAny (model P w) A (.call (.ref f) args) (CR CX outer P w H s Q E) s
theorem Env0.make {P:Program}{w:World}{K:O0}{mg:Str->Option Value}{base:Heap}{A:Around}{outer:List Env}{s:Shared}{H:Hp}(e:Env0 P w K mg base A outer s H)(C:Addr)(us:List Value)(kw:List (Str×Value)) :
  Env0 P w K mg base (A.under (.builtin "type.__call__" ⟨.ref C::us,kw⟩)) outer s H:=⟨by first | exact e.frames | (simpa [Around.under,Code.envs,Code.isFrame,pushEnvs] using e.frames),e.mod,e.bs,e.bsz,e.funs,e.frf,e.hok,e.bare⟩
section
variable {X:Cx}{pins:List (Addr×Obj)}{σ:St}{H:Hp}{s s':Shared}
theorem Inv.env0 (I:Inv X pins σ H s):Env0 X.prog X.w X.K X.mg X.base X.A X.stack s H :=
 ⟨I.ok.frames,I.ok.mod,I.bs,P5 I.ok.bsz I.sz,I.stack,I.stkFree,I.hok,I.bare⟩
theorem Inv.after {Q:VK}{u:Value}(I:Inv X pins σ H s)(h:CE X.stack X.prog X.w H s Q u s'):EP X pins σ Q u s':=by
 obtain ⟨v,H',os,bare,un,hok,r,q⟩:=h
 obtain ⟨hh,g,d,t,os'⟩:=s'
 obtain rfl:os'=s.os:=os
 exact ⟨v,H',I.call (h':=hh) (g':=g) (d':=d) (t':=t) (ch:=[]) un hok bare (fun b z=>absurd z (by simp)),r,q⟩
end
noncomputable def Go (sp:Sp)(dvs:List V)(E:XK)(t:TA):TE:=fun σ H Q=>t σ H fun vs H1=>sp (vs++dvs) H1 Q E
noncomputable def Binds (K:O0)(fd:FuncData)(ps:List Str)(ds:List Value):Prop :=
 ∀(s:Shared)(us:List Value),K.In s.heap->(us++ds).length=ps.length->BindsTo s fd ⟨us,[]⟩ (ps.zip (us++ds))
theorem Binds.all {K:O0}{fd:FuncData}{ps:List Str}(h:∀ us:List Value,us.length=ps.length->bindArgs fd ⟨us,[]⟩=pure (ps.zip us)):Binds K fd ps []:=fun s us _ hl=>by
 rw [Rc] at hl ⊢
 exact .of_eq (h us hl)
noncomputable def Er (CX:Bs)(X:Cx)(E:XK):Prop:=∀(pins:List (Addr×Obj))(σ:St)(H:Hp)(s:Shared)(e:Value)(s':Shared),Inv X pins σ H s->CX X.stack H s E e s'->X.xe e s'
section
variable {X:Cx}{CX:Bs}{k:Nat}{f C:Addr}{fd:FuncData}{ps:List Str}{sp:Sp}{dvs:List V}{ds:List Value}{E:XK}{x m:Str}{p pos apos:Pos}{e o:Expr}{es:List Expr}{ta:TE}{t:TA}
theorem Zga {pins:List (Addr×Obj)}{σ:St}{H:Hp}{s:Shared}{Q:VK}{us:List Value}{vs:List V}(F:Ao X.prog X.w X.K X.mg X.base CX k f fd ps sp)(hr:Room k X.A)(hb:Binds X.K fd ps ds)(hd:Vals dvs ds)(hx:Er CX X E)
  (I:Inv X pins σ H s) (r:Vals vs us) (h:sp (vs++dvs) H Q E):wpAny (model X.prog X.w) X.A (call (.ref f) us) (EP X pins σ Q) X.xe s:=by
 have r2:Vals (vs++dvs) (us++ds):=r.append hd
 have hl:(us++ds).length=ps.length:=by rw [<- r2.length];exact F.len _ _ _ _ h
 refine Q6 (Rg (F.run X.A X.stack s H ⟨us,[]⟩ (us++ds) (vs++dvs) Q E hr I.env0 (hb s us I.kIn hl) r2 h) fun r s' hq=>?_)
 cases r with
 | error e=>exact hx pins σ H s e s' I hq
 | ok fl =>
  cases fl with
  | ret u=>exact I.after hq
  | next=>exact Pd hq
  | brk=>exact Pd hq
  | cont=>exact Pd hq
theorem Zej (F:Ao X.prog X.w X.K X.mg X.base CX k f fd ps sp)(hr:Room k X.A)(hg:Gl X x)(hm:X.mg x=some (.ref f))(hk:Ph X.K (.ref f)=true)(hb:Binds X.K fd ps ds)(hd:Vals dvs ds)(hx:Er CX X E)
  (ha:PA X (e::es) t) (hdb:(x == ("__debug__" : Str))=false:=by decide) (he:starEach (e::es) X.env=(false,eval e X.env)::starEach es X.env:=by rfl) (hpl:(backTo pos (starEach es X.env)).any (·.1)=false:=by rfl) :
  PE X (.Call (.Name x p) (e::es) [] pos) (Go sp dvs E t):=by
 intro pins s σ H Q I h
 refine Ra (El I hg hm ?_ hdb)
 refine Sq (h₀:=X.base) I.ok.mod.kin hk (Aj (ha pos pins s σ H _ I h) fun us s1 zq=>?_) he hpl
 obtain ⟨vs,H1,I1,r,q⟩:=zq
 refine ⟨I1.kIn,?_⟩
 exact Zga F hr hb hd hx I1 r q
structure Mk (K:O0)(C f:Addr):Prop where
 makes:Qp K C=true
 init:O4 K (.ref C) "__init__" = some (some (.ref f))
 fn:R5 K (.ref f)=true
 kp:Ph K (.ref C)=true
theorem Zua {pins:List (Addr×Obj)}{σ:St}{H:Hp}{s:Shared}{Q:VK}{us:List Value}{vs:List V}(M:Mk X.K C f)(F:Ao X.prog X.w X.K X.mg X.base CX k f fd ps sp)(hr:Room (k+1) X.A)(hb:Binds X.K fd ps ds)(hd:Vals dvs ds)
  (hx:Er CX X E) (I:Inv X pins σ H s) (r:Vals vs us)
  (h:∀ x dx,H x=none->H dx=none->dx≠x->sp (.ref x::(vs++dvs)) (upd (upd H dx (.own x)) x (.ins C dx [])) (fun v H2=>v=.non/\Q (.ref x) H2) E) :
  wpAny (model X.prog X.w) X.A (call (.ref C) us) (EP X pins σ Q) X.xe s:=by
 have hq:=h (s.heap.objs.size+1) s.heap.objs.size (I.hok.fresh (Sl _)) (I.hok.fresh (O3 _)) (Pg (Tj _))
 have I2:=Inv.made (C:=C) I
 have r2:Vals (V.ref (s.heap.objs.size+1)::(vs++dvs)) (Value.ref (s.heap.objs.size+1)::(us++ds)):=.cons rfl (r.append hd)
 have hl:(Value.ref (s.heap.objs.size+1)::us++ds).length=ps.length:=by
  have e:=r2.length
  rw [F.len _ _ _ _ hq] at e
  exact e.symm
 refine Q6 (Zhz (f:=f) I.kIn M.makes M.init (beq_iff_eq.mp M.fn) (Rg (F.run _ X.stack _ _ ⟨Value.ref (s.heap.objs.size+1)::us,[]⟩ (Value.ref (s.heap.objs.size+1)::(us++ds)) _ _ E (hr.make C us [])
  (I2.env0.make C us []) (hb _ (Value.ref (s.heap.objs.size+1)::us) I2.kIn hl) r2 hq) fun r s' hq'=>?_))
 cases r with
 | error e=>exact hx pins σ _ _ e s' I2 hq'
 | ok fl =>
  cases fl with
  | ret u =>
   obtain ⟨v,H',I3,rv,ev,q3⟩:=I2.after hq'
   subst ev
   exact ⟨rv,⟨V.ref (s.heap.objs.size+1),H',I3,rfl,q3⟩⟩
  | next=>exact Pd hq'
  | brk=>exact Pd hq'
  | cont=>exact Pd hq'
end
noncomputable def PK (X:Cx)(kws:List Keyword)(t:TA):Prop :=
 ∀(pos:Pos)(pins:List (Addr×Obj))(s:Shared)(σ:St)(H:Hp)(Q:List V->Hp->Prop),Inv X pins σ H s->t σ H Q->wpAny (model X.prog X.w) X.A (evalAll ((backToKw pos (keywordEach kws X.env)).map (·.2))) (AP X pins σ Q) X.xe s
section
variable {X:Cx}{CX:Bs}{k:Nat}{f C:Addr}{fd:FuncData}{ps ks:List Str}{sp:Sp}{E:XK}{x m:Str}{p pos apos kpos:Pos}{e o:Expr}{es:List Expr}{kws:List Keyword}{te ta:TE}{t tk:TA}{nm:Option Str}
theorem Zpw:PK X [] E2:=fun _ _ _ _ H Q I h=>wpAny_evalAll_nil ⟨[],H,I,.nil,h⟩
theorem Zox (ha:PE X e te)(hr:PK X kws t):PK X (⟨nm,e,kpos⟩::kws) (F9 te t):=by
 intro pos pins s σ H Q I h
 show wpAny _ _ (evalAll ((do let v <- eval e X.env;standAt pos;pure v)::(backToKw pos (keywordEach kws X.env)).map (·.2))) _ _ s
 refine wpAny_evalAll_cons (O1 (Aj (ha pins s σ H _ I h) fun u s1 zq=>?_))
 obtain ⟨x,H1,I1,r1,q1⟩:=zq
 refine O1 (Sw (O2 ?_))
 exact Aj (hr pos pins s1 σ H1 _ I1 q1) fun us s2 ⟨xs,H2,I2,r2,q2⟩=>⟨x::xs,H2,I2,.cons r1 r2,q2⟩
structure Em (K:O0)(fd:FuncData)(ps ks:List Str)(g:List Value->List Value->List Value)(gV:List V->List V->List V):Prop where
 to:∀(s:Shared)(us ws:List Value),K.In s.heap->(g us ws).length=ps.length->BindsTo s fd ⟨us,ks.zip ws⟩ (ps.zip (g us ws))
 rel:∀{vs:List V}{us:List Value}{zs:List V}{ws:List Value},Vals vs us->Vals zs ws->Vals (gV vs zs) (g us ws)
variable {g:List Value->List Value->List Value}{gV:List V->List V->List V}
end
structure A2 (N P:List Str)(sc:Scope):Prop where
 kind:sc.kind=.function
 co:sc.isCoroutine=false
 gen:sc.isGenerator=false
 nd:N.Nodup
 pre:N.take P.length=P
 par:∀ x∈P,sc.names.lookup x=some .local\/sc.names.lookup x=some .cell
 nofree:∀ y∈sc.names,y.2≠.free
theorem Zel {kindOf:Str->Option NameKind}{x:Str}:∀{binds:List (Str×Value)}{m:Str->Option Value},(∀ v,(x,v) ∉ binds)->bindL kindOf binds m x=m x
 | [],_,_=>rfl
 | (n,v)::r,m,h=>by
  unfold bindL
  rw [Zel fun w hw=>h w (Q0 _ hw)]
  split
  ·have:x≠n:=by rintro rfl;exact h v Sb
   simp [this]
  ·rfl
theorem Zgh {kindOf:Str->Option NameKind}{x:Str}:∀{binds:List (Str×Value)}{m:Str->Option Value},(∀ v,(x,v) ∉ binds)->bindC kindOf binds m x=m x
 | [],_,_=>rfl
 | (n,v)::r,m,h=>by
  unfold bindC
  rw [Zgh fun w hw=>h w (Q0 _ hw)]
  split
  ·rfl
  ·have:x≠n:=by rintro rfl;exact h v Sb
   simp [this]
theorem Zhy {kindOf:Str->Option NameKind}{x:Str}{v:Value}:∀{P:List Str}{vs:List Value}{i:Nat}{m:Str->Option Value},P.Nodup->P[i]?=some x->vs[i]?=some v->kindOf x=some .local ->
  bindL kindOf (P.zip vs) m x=some v
 | [],_,_,_,_,h,_,_=>by simp at h
 | _::_,[],_,_,_,_,h,_=>by simp at h
 | p::P,w::vs,0,m,nd,h1,h2,hk=>by
  simp at h1 h2;subst h1;subst h2
  show bindL kindOf ((p,w)::P.zip vs) m p=_
  unfold bindL
  rw [Zel fun v hv=>(To.mp nd).1 (Ul hv).1,if_pos hk]
  simp
 | p::P,w::vs,i+1,m,nd,h1,h2,hk=>by
  show bindL kindOf ((p,w)::P.zip vs) m x=_
  unfold bindL
  exact Zhy (i:=i) (To.mp nd).2 (by simpa using h1) (by simpa using h2) hk
theorem Zfz {kindOf:Str->Option NameKind}{x:Str}{v:Value}:∀{P:List Str}{vs:List Value}{i:Nat}{m:Str->Option Value},P.Nodup->P[i]?=some x->vs[i]?=some v->kindOf x≠some .local ->
  bindC kindOf (P.zip vs) m x=some v
 | [],_,_,_,_,h,_,_=>by simp at h
 | _::_,[],_,_,_,_,h,_=>by simp at h
 | p::P,w::vs,0,m,nd,h1,h2,hk=>by
  simp at h1 h2;subst h1;subst h2
  show bindC kindOf ((p,w)::P.zip vs) m p=_
  unfold bindC
  rw [Zgh fun v hv=>(To.mp nd).1 (Ul hv).1,if_neg hk]
  simp
 | p::P,w::vs,i+1,m,nd,h1,h2,hk=>by
  show bindC kindOf ((p,w)::P.zip vs) m x=_
  unfold bindC
  exact Zfz (i:=i) (To.mp nd).2 (by simpa using h1) (by simpa using h2) hk
noncomputable def start (N:List Str)(vs:List V):St:=vs.map some++Pa (N.length - vs.length) none
noncomputable def Cq (CX:Bs)(P:Program)(w:World)(K:O0)(mg:Str->Option Value)(base:Heap)(N:List Str)(qual:Str)(scope:Scope)(f:Addr)(cd:Value)(A:Around)(outer:List Env)(s:Shared)(H:Hp)(E:XK):Cx where
 prog:=P
 w:=w
 K:=K
 mg:=mg
 base:=base
 A:=A.deeper (envOfC qual scope s.heap.objs.size f cd)
 N:=N
 s₀:=s
 H₀:=H
 env:=envOfC qual scope s.heap.objs.size f cd
 outer:=outer
 stack:=envOfC qual scope s.heap.objs.size f cd::outer
 ex:=[]
 calm:=true
 fn:=fun _=>true
 pn:=[]
 xe:=fun e s'=>wpAny (model P w) (A.deeper (envOfC qual scope s.heap.objs.size f cd)) (leaving (envOfC qual scope s.heap.objs.size f cd) e) (fun _ s''=>CX outer H s E e s'') (fun e' s''=>CX outer H s E e' s'') s'
theorem Zci {sc:Scope}{n:Nat}{x:Str}(h:sc.names.lookup x=some .cell):∃ c,(cellsFrom n sc.names []).lookup x=some c:=by
 have q:=U8 sc.names n [] (.inl h)
 exact R7.mp q
theorem Zhs {CX:Bs}{P:Program}{w:World}{K:O0}{mg:Str->Option Value}{base:Heap}{N ps:List Str}{qual:Str}{scope:Scope}{f:Addr}{cd:Value}{A:Around}{outer:List Env}{s s1:Shared}{H:Hp}{E:XK}{us:List Value}{vs:List V}
  (S:A2 N ps scope) (hd:A.handled=none) (e0:Env0 P w K mg base A outer s H) (hl:vs.length=ps.length) (r:Vals vs us)
  (x:InCallC s s.heap.objs.size (bindL (envOfC qual scope s.heap.objs.size f cd).kindOf (ps.zip us) fun _=>none) (cellsFrom (s.heap.objs.size+1) scope.names []) (bindC (envOfC qual scope s.heap.objs.size f cd).kindOf (ps.zip us) fun _=>none) s1) :
  Inv (Cq CX P w K mg base N qual scope f cd A outer s H E) [] (start N vs) H s1:=by
 have hpl:ps.length<=N.length:=by have:=congrArg List.length S.pre;rw [Qj] at this;omega
 obtain ⟨h1,tk,rfl,hk⟩:=x.done
 have noA:∀ b:Addr,b ∉ (Cq CX P w K mg base N qual scope f cd A outer s H E).ex:=fun b z=>absurd (show b∈([]:List Addr) from z) (by simp)
 refine ⟨⟨e0.mod,S.kind,rfl,rfl,O3 _,fun y z c h1 h2=>?_,fun y hy=>?_,fun y c _ h=>?_,fun _=>hd,Around.frames_deeper e0.frames,.inr ⟨rfl,rfl⟩,fun b z=>absurd z (noA b),e0.bs,e0.bsz,fun b _ _=>noA b,fun b z=>absurd z (noA b),e0.funs,e0.frf⟩,
  rfl,e0.bare,Un.kept hk,⟨_,x.toInCall.ns,fun i y v h1 h2 h3=>?_⟩,fun y c h=>⟨_,x.cell y c h⟩,e0.hok.fresh (O3 _),fun y c h=>?_,fun p hp=>absurd (show p∈([]:List (Addr×Obj)) from hp) (by simp),e0.hok.kept hk,?_⟩
 ·exact name_of_addr x.apart (Sa h1) (Sa h2)
 ·have hy:scope.names.lookup y=some .cell\/scope.names.lookup y=some .free:=hy
  rcases hy with hy | hy
  ·exact Zci hy
  ·exact absurd rfl (S.nofree _ (Sa hy))
 ·exact Uw (x.above y c (Sa h))
 ·have hi:i < vs.length:=by
   unfold start at h2
   by_cases hi:i < vs.length
   ·exact hi
   ·rw [Rh (by simpa using hi)] at h2
    rw [List.getElem?_replicate] at h2
    split at h2 <;> cases h2
  have ha:vs[i]?=some v:=by
   unfold start at h2
   rw [Q8 (by simpa using hi),Sf] at h2
   cases e:vs[i]? with
   | none=>rw [e] at h2;cases h2
   | some a=>rw [e] at h2;cases h2;rfl
  obtain ⟨u,hu,rv⟩:=r.get ha
  have hp:ps[i]?=some y:=by
   rw [<- S.pre,List.getElem?_take_of_lt (by omega)];exact h1
  have ndP:ps.Nodup:=by rw [<- S.pre];exact S.nd.sublist (List.take_sublist _ _)
  refine ⟨u,rv,?_⟩
  rcases S.par y (Pt hp) with k | k
  ·exact .inl ⟨k,Zhy ndP hp hu k⟩
  ·obtain ⟨c,e⟩:=Zci (n:=s.heap.objs.size+1) k
   refine .inr ⟨.inl k,c,e,?_⟩
   have q:=x.cell y c e
   rw [Zfz ndP hp hu (by show scope.names.lookup y≠_;rw [k];decide)] at q
   exact q
 ·exact e0.hok.fresh (Uw (x.above y c (Sa h)))
 ·unfold start
  show _=N.length
  rw [Pm,Pq,Rj]
  omega
theorem Zdb {CX:Bs}{P:Program}{w:World}{K:O0}{mg:Str->Option Value}{base:Heap}{k:Nat}{f:Addr}{name qual:Str}{params:Arguments}{body:List Stmt}{scope:Scope}{dV kV doc pm cdv ct oc:Value}{an od:Option Addr}
  {osl:Array (Option Value)} {N ps:List Str} {sp:Sp} (lk:K.lookup f=some ⟨oc,od,.func (Pk name qual params body scope dV kV doc pm an cdv ct),osl⟩) (hcd:Rp K cdv qual=true) (S:A2 N ps scope)
  (len:∀ vs H Q E,sp vs H Q E->vs.length=ps.length)
  (hbody:∀(A:Around)(outer:List Env)(s:Shared)(H:Hp)(vs:List V)(Q:VK)(E:XK),Room k (A.deeper (envOfC qual scope s.heap.objs.size f cdv))->sp vs H Q E ->
   ∃ t,PSs (Cq CX P w K mg base N qual scope f cdv A outer s H E) body t/\t { nx:=fun _ H'=>Q .non H',rt:=Q } (start N vs) H) :
  Ao P w K mg base CX (k+1) f (Pk name qual params body scope dV kV doc pm an cdv ct) ps sp:=by
 refine ⟨len,fun A outer s H args us vs Q E hr e0 hb r hsp=>?_⟩
 have hl:=len _ _ _ _ hsp
 have KX:K.In s.heap:=e0.mod.kin.keeps fun b o e=>(e0.bs b o e).1
 have lim:s.heap.NoLimit:=e0.mod.nolimit.keeps fun b o e=>(e0.bs b o e).1
 have hkind:∀ y∈ps.zip us,scope.names.lookup y.1=some .local\/(scope.names.lookup y.1=some .cell/\((cellsFrom (s.heap.objs.size+1) scope.names []).lookup y.1).isSome=true):=fun ⟨n,v⟩ hy=>by
  rcases S.par n (Ul hy).1 with q | q
  ·exact .inl q
  ·exact .inr ⟨q,U8 _ _ _ (.inl q)⟩
 refine codeAny_call_function hr.depth (KX _ _ lk) rfl S.co S.gen rfl (PySem.W.codeRec_of KX hcd) (hb _ _ _ _ ?_)
 refine wpAny_newFunctionEnv_cells S.kind hkind fun env he s1 x=>?_
 subst he
 refine ⟨lim.keeps x.toInCall.keep,codeAny_func ?_⟩
 obtain ⟨t,ht,hq⟩:=hbody A outer s H vs Q E (hr.deeper _) hsp
 have I:Inv (Cq CX P w K mg base N qual scope f cdv A outer s H E) [] (start N vs) H s1:=Zhs S hr.hd e0 hl r x
 refine Q5 (ht [] s1 (start N vs) H _ I hq) (fun fl s' hs=>?_) fun e s' hs=>hs
 have fin:∀{σ':St}{H':Hp}{v:V}{u:Value},Inv (Cq CX P w K mg base N qual scope f cdv A outer s H E) [] σ' H' s'->RelV v u->Q v H'->CE outer P w H s Q u s' :=
  fun {σ' H' v u} J rv q=>⟨v,H',J.os,J.bare,J.base,J.hok,rv,q⟩
 cases fl with
 | ret u =>
  obtain ⟨v,σ',H',J,rv,q⟩:=hs
  exact fin J rv q
 | next =>
  obtain ⟨σ',H',J,q⟩:=hs
  exact fin (v:=V.non) (u:=Value.none) J rfl q
 | brk =>
  obtain ⟨_,_,_,q⟩:=hs
  exact Pd q
 | cont =>
  obtain ⟨_,_,_,q⟩:=hs
  exact Pd q
section
variable {X:Cx}{x:Str}{p pos:Pos}{e:Expr}{es:List Expr}{t:TA}{id T:String}{r:List V->Hp->VK->Prop}
noncomputable def Jm (r:List V->Hp->VK->Prop)(t:TA):TE:=fun σ H Q=>t σ H fun vs H1=>r vs H1 Q
theorem Zos (hc:Cm X (.builtin id) r)(hg:Gl X x)(hm:X.mg x=none)(hv:bootBuiltins x=some (.builtin id))(ha:PA X (e::es) t)(hn:x ≠ "__name__" := by decide)(hdb:(x == ("__debug__" : Str))=false:=by decide)
  (he:starEach (e::es) X.env=(false,eval e X.env)::starEach es X.env:=by rfl) (hpl:(backTo pos (starEach es X.env)).any (·.1)=false:=by rfl):PE X (.Call (.Name x p) (e::es) [] pos) (Jm r t):=by
 intro pins s σ H Q I h
 refine Ra (Fs I hg hm hv ?_ hn hdb)
 exact PyProof.Rows.callWith_builtin1 (Aj (ha pos pins s σ H _ I h) fun us s1 ⟨vs,H1,I1,r1,q1⟩=>hc pins s1 σ H1 vs us Q I1 r1 q1) he hpl
theorem Zug (hc:Cm X (.type T) r)(hg:Gl X x)(hm:X.mg x=none)(hv:bootBuiltins x=some (.type T))(ha:PA X (e::es) t)(hn:x ≠ "__name__" := by decide)(hdb:(x == ("__debug__" : Str))=false:=by decide)
  (he:starEach (e::es) X.env=(false,eval e X.env)::starEach es X.env:=by rfl) (hpl:(backTo pos (starEach es X.env)).any (·.1)=false:=by rfl):PE X (.Call (.Name x p) (e::es) [] pos) (Jm r t):=by
 intro pins s σ H Q I h
 refine Ra (Fs I hg hm hv ?_ hn hdb)
 exact R6 (Aj (ha pos pins s σ H _ I h) fun us s1 ⟨vs,H1,I1,r1,q1⟩=>hc pins s1 σ H1 vs us Q I1 r1 q1) he hpl
end
end L2
namespace HT
open PySem PyProof.Rows
section
open PySem.SeqAt
open PySem.AutoSeq1 (wpAny_loadPart')
open PySem.MeetsSeq PySem.MeetsSeq2 PySem.MeetsSeq3
end
section
variable {prog:Program}{w:World}{A:Around}{E:Value->Shared->Prop}{s:Shared}
theorem cat_tup {t b:Addr}{vs ws:List Value}{Q:Value->Shared->Prop}(ht:IsTup s.heap t vs.toArray)(hb:IsTup s.heap b ws.toArray)(hv:vs≠[])
  (h1:ws=[]->Q (.ref t) s) (h2:ws≠[]->Q (.ref s.heap.objs.size) { s with heap:=s.heap.push { cls:=.type "tuple",data:=.seq (vs++ws).toArray } })
  (hsz:vs.length+ws.length<=sizeLine):wpAny (model prog w) A (binaryOp .Add (.ref t) (.ref b)) Q E s:=by
 obtain ⟨⟨cls,dd,data,sl⟩,ho,hc,n,hd⟩:=id ht
 obtain ⟨⟨cls2,dd2,data2,sl2⟩,ho2,hc2,n2,hd2⟩:=id hb
 simp only at hc hd hc2 hd2
 subst hc hd hc2 hd2
 have e:vs.toArray++ws.toArray=(vs++ws).toArray:=by simp
 by_cases hw:ws=[]
 ·exact concat_meets ⟨_,ho,rfl⟩ ⟨_,ho2,rfl⟩ Vw seq_tuple_add U9 U6 (U4 _ _)
   (tuple_addW1 t b vs.toArray ws.toArray n n2 dd dd2 sl sl2 (by simpa using hv) (by simp [hw])) ⟨ho,ho2,h1 hw⟩
 ·refine concat_meets ⟨_,ho,rfl⟩ ⟨_,ho2,rfl⟩ Vw seq_tuple_add U9 U6 (U4 _ _)
   (tuple_addW2 t b vs.toArray ws.toArray n n2 dd dd2 sl sl2 (by simpa using hv) (by simpa using hw) (by rw [O5,O5];exact hsz)) ⟨ho,ho2,?_⟩
  rw [e]
  exact h2 hw
noncomputable def sIx (n d:Nat):Option Int->Nat
 | none=>d
 | some v=>if v < 0 then (v+(n:Int)).toNat else min v.toNat n
theorem sIx_none (n d:Nat):sIx n d none=d:=rfl
theorem sIx_nat (n d k:Nat):sIx n d (some (k:Int))=min k n:=by
 show (if (k:Int) < 0 then ((k:Int)+(n:Int)).toNat else min (k:Int).toNat n)=min k n
 rw [if_neg (by omega),Uj]
theorem Zmu (n d:Nat)(hd:d<=n)(o:Option Int):sIx n d o<=n:=by
 cases o with
 | none=>exact hd
 | some v =>
  show (if v < 0 then (v+(n:Int)).toNat else min v.toNat n)<=n
  by_cases hv:v < 0
  ·rw [if_pos hv];omega
  ·rw [if_neg hv];exact Nat.min_le_right _ _
theorem Zfx (v:Int)(n d:Nat):(if v < 0 then max (v+(n:Int)) 0 else min v (n:Int))=((sIx n d (some v):Nat):Int):=by
 show (if v < 0 then max (v+(n:Int)) 0 else min v (n:Int))=(((if v < 0 then (v+(n:Int)).toNat else min v.toNat n):Nat):Int)
 by_cases hv:v < 0
 ·simp only [if_pos hv];omega
 ·simp only [if_neg hv];omega
theorem Zlx (lo hi:Option Int)(n:Nat):U3 lo hi 1 (n:Int)=(((sIx n 0 lo:Nat):Int),((sIx n n hi:Nat):Int)):=by
 have h1:¬ ((1:Int) < 0):=by omega
 unfold U3
 simp only [h1,if_false]
 refine Prod.ext ?_ ?_
 ·cases lo with
  | none=>rfl
  | some v=>exact Zfx v n 0
 ·cases hi with
  | none=>rfl
  | some v=>exact Zfx v n n
theorem Zh6 (i j:Nat):T6 (i:Int) (j:Int) 1=j - i:=by
 unfold T6
 have h1:(1:Int) > 0:=by omega
 simp only [h1,if_true,Int.ediv_one]
 split <;> omega
theorem Zfj {v:Value}{o:Option Int}{Q:Option Int->Shared->Prop}(p:IsPart v o)(h:Q o s):wpAny (model prog w) A (Builtin.Slice.slicePartIndex v) Q E s:=by
 cases p with
 | none=>exact slicePart_none h
 | int i t=>exact slicePart_int h
theorem sliceApplied_gen {sl:Addr}{vl vu:Value}{lo hi:Option Int}{n:Nat}{Q:Int×Int×Nat->Shared->Prop}(hs:s.heap.IsSliceOf sl vl vu .none)(pl:IsPart vl lo)(pu:IsPart vu hi)
  (h:Q (((sIx n 0 lo:Nat):Int),1,sIx n n hi - sIx n 0 lo) s):wpAny (model prog w) A (Builtin.Slice.sliceApplied (.ref sl) (pure (n:Int))) Q E s:=by
 obtain ⟨os,hos,hcs,hds⟩:=id hs
 unfold Builtin.Slice.sliceApplied Builtin.Slice.sliceFields
 refine O1 (O1 (Pn hos hds (x:=vl) rfl (O1 (Pn hos hds (x:=vu) rfl (O1 (Pn hos hds (x:=.none) rfl (O2 ?_)))))))
 refine O1 (slicePart_none ?_)
 show wpAny _ _ (if ((1:Int) == 0)=true then _ else _) _ _ s
 rw [if_neg (by decide)]
 refine O1 (Zfj pl (O1 (Zfj pu (O1 (O2 ?_)))))
 show wpAny _ _ (match U3 lo hi 1 (n:Int) with | (lo,hi)=>pure (lo,(1:Int),T6 lo hi 1)) _ _ s
 rw [Zlx lo hi n]
 show wpAny _ _ (pure (((sIx n 0 lo:Nat):Int),(1:Int),T6 ((sIx n 0 lo:Nat):Int) ((sIx n n hi:Nat):Int) 1)) _ _ s
 rw [Zh6]
 exact O2 h
theorem Zqo (xs:Array Value)(i k:Nat):((Pj k).filterMap fun (m:Nat)=>xs[((i:Int)+(m:Int) * 1).toNat]?).toArray=((xs.toList.drop i).take k).toArray:=by
 have e:(fun (m:Nat)=>xs[((i:Int)+(m:Int) * 1).toNat]?)=fun m=>xs[i+m]?:=by
  funext m
  have:((i:Int)+(m:Int) * 1).toNat=i+m:=by omega
  rw [this]
 rw [e]
 have:=pick_run xs i k
 rw [List.filterMap_map] at this
 have e2:((fun x=>xs[x]?) ∘ fun x=>i+x)=fun m=>xs[i+m]?:=rfl
 rw [e2] at this
 rw [this]
theorem getItem_tuple_cut {t sl:Addr}{items:Array Value}{vl vu:Value}{lo hi:Option Int}{Q:Value->Shared->Prop}(ht:IsTup s.heap t items)(hs:s.heap.IsSliceOf sl vl vu .none)(pl:IsPart vl lo)(pu:IsPart vu hi)
  (hw:¬ (sIx items.size 0 lo=0/\sIx items.size items.size hi=items.size))
  (h:Q (.ref s.heap.objs.size) { s with heap:=s.heap.push { cls:=.type "tuple",data:=.seq ((items.toList.drop (sIx items.size 0 lo)).take (sIx items.size items.size hi - sIx items.size 0 lo)).toArray } })
  (hsz:items.size<=sizeLine):wpAny (model prog w) A (getItem (.ref t) (.ref sl)) Q E s:=by
 have htake:sizeOk (.seq ((items.toList.drop (sIx items.size 0 lo)).take (sIx items.size items.size hi - sIx items.size 0 lo)).toArray):=by
  show ((items.toList.drop (sIx items.size 0 lo)).take (sIx items.size items.size hi - sIx items.size 0 lo)).toArray.size<=sizeLine
  rw [O5,Qj,Tk,Th]
  omega
 have hj:sIx items.size items.size hi<=items.size:=Zmu _ _ (O3 _) hi
 obtain ⟨os,hos,hcs,hds⟩:=id hs
 have hTs:s.TypeIs (.ref sl) "slice" := ⟨os,hos,hcs⟩
 unfold getItem
 try with_reducible refine P9 ?_
 first | refine O1 (O2 ?_) | skip
 refine O1 (wpAny_sequenceKey ht.typeIs (by decide) ?_)
 refine O1 (Rt (name:=Qm "__getitem__") ht.typeIs Sn
  (Ry Sn ht.typeIs entry_tuple_getitem ?_ (args_tuple_getitem _ _)))
 show wpAny _ _ (Builtin.Tuple.tupleItemsOf (.ref t) >>= _) _ _ s
 refine O1 (tupleItemsOf_ ht ?_)
 refine O1 (Ux hTs ?_)
 rw [if_pos (by decide)]
 refine O1 (sliceApplied_gen hs pl pu ?_)
 have hno:¬ ((((sIx items.size 0 lo:Nat):Int) == 0 && (1:Int) == 1 && (sIx items.size items.size hi - sIx items.size 0 lo) == items.size)=true):=by
  intro q
  rw [Qk,Qk] at q
  have q1:((sIx items.size 0 lo:Nat):Int)=0:=eq_of_beq q.1.1
  have q2:sIx items.size items.size hi - sIx items.size 0 lo=items.size:=eq_of_beq q.2
  exact hw ⟨by omega,by omega⟩
 show wpAny _ _ (if (((sIx items.size 0 lo:Nat):Int) == 0 && (1:Int) == 1 && (sIx items.size items.size hi - sIx items.size 0 lo) == items.size)=true then _ else _) _ _ s
 rw [if_neg hno,Zqo]
 first
  | exact O1 (m:=T7 _) (Rx (O2 ⟨_,rfl,O2 h⟩) htake)
  | exact O1 (m:=T7 _) (Rx (O1 (O2 (O2 ⟨_,rfl,O2 h⟩))) htake)
  | exact O1 (O1 (m:=T7 _) (Rx (O2 (O2 ⟨_,rfl,O2 h⟩)) htake))
  | exact O1 (O1 (m:=T7 _) (Rx (O2 ⟨_,rfl,O2 h⟩) htake))
end
end HT
namespace L2
open PySem PySem.Spec PyProof.Rows
noncomputable abbrev TO:=St->Hp->(Option Int->Hp->Prop)->Prop
noncomputable def PO (X:Cx)(e:Option Expr)(t:TO):Prop :=
 ∀(pins:List (Addr×Obj))(s:Shared)(σ:St)(H:Hp)(Q:Option Int->Hp->Prop),Inv X pins σ H s->t σ H Q ->
  wpAny (model X.prog X.w) X.A (evalPart e X.env) (fun u s'=>∃ o H',Inv X pins σ H' s'/\IsPart u o/\Q o H') X.xe s
noncomputable def Oy:TO:=fun _ H Q=>Q none H
noncomputable def Zcc (t:TE):TO:=fun σ H Q=>t σ H fun x H1=>∃ i,x=.int i/\Q (some i) H1
section
variable {X:Cx}{e:Expr}{te:TE}{lo hi:Option Expr}{tl th:TO}{pos p2:Pos}
theorem Ztn:PO X none Oy:=by
 intro pins s σ H Q I h
 rw [evalPart_none]
 exact O2 ⟨none,H,I,.none,h⟩
theorem Zig (h:PE X e te):PO X (some e) (Zcc te):=by
 intro pins s σ H Q I hw
 rw [evalPart_some]
 refine Aj (h pins s σ H _ I hw) fun u s1 zq=>?_
 obtain ⟨x,H1,I1,r1,q1⟩:=zq
 obtain ⟨i,rfl,q⟩:=q1
 obtain ⟨t,rfl⟩:=r1
 exact ⟨some i,H1,I1,.int i t,q⟩
noncomputable def SlR (X:Cx)(r:V->Option Int->Option Int->Hp->VK->Prop):Prop :=
 ∀(pins:List (Addr×Obj))(s:Shared)(σ:St)(H:Hp)(x:V)(v vl vu:Value)(lo hi:Option Int)(sl:Addr)(Q:VK),Inv X pins σ H s->RelV x v->s.heap.IsSliceOf sl vl vu .none->IsPart vl lo->IsPart vu hi->r x lo hi H Q ->
  ∃ T id,typeLookup (.type T) "__getitem__" = pure (some (.builtin id))/\s.TypeIs v T/\wpAny (model X.prog X.w) X.A (getItem v (.ref sl)) (EP X pins σ Q) X.xe s
theorem SlR.or {r r':V->Option Int->Option Int->Hp->VK->Prop}(h:SlR X r)(h':SlR X r'):SlR X (fun x lo hi H Q=>r x lo hi H Q\/r' x lo hi H Q):=by
 intro pins s σ H x v vl vu lo hi sl Q I rx hs pl pu q
 rcases q with q | q
 ·exact h pins s σ H x v vl vu lo hi sl Q I rx hs pl pu q
 ·exact h' pins s σ H x v vl vu lo hi sl Q I rx hs pl pu q
noncomputable def tSl (r:V->Option Int->Option Int->Hp->VK->Prop)(te:TE)(tl th:TO):TE:=fun σ H Q=>te σ H fun x H1=>tl σ H1 fun l H2=>th σ H2 fun u H3=>r x l u H3 Q
theorem Zlr {r:V->Option Int->Option Int->Hp->VK->Prop}(hr:SlR X r)(he:PE X e te)(hl:PO X lo tl)(hu:PO X hi th):PE X (.Subscript e (.Slice lo hi none p2) pos) (tSl r te tl th):=by
 intro pins s σ H Q I h
 refine Subscript_ (Aj (he pins s σ H _ I h) fun v s1 zq=>?_)
 obtain ⟨x,H1,I1,r1,q1⟩:=zq
 refine wpAny_Slice (Aj (hl pins s1 σ H1 _ I1 q1) fun vl s2 zq=>?_)
 obtain ⟨l,H2,I2,pl,q2⟩:=zq
 refine Aj (hu pins s2 σ H2 _ I2 q2) fun vu s3 zq=>?_
 obtain ⟨u,H3,I3,pu,q3⟩:=zq
 rw [evalPart_none]
 refine O2 ?_
 have I4:Inv X pins σ H3 { s3 with heap:=s3.heap.push { cls:=.type "slice",data:=.fields #[vl,vu,.none] } }:=I3.kept (t':=s3.toks) fun b ob q=>O6 _ q
 obtain ⟨T,id,hT,ht,hg⟩:=hr pins { s3 with heap:=s3.heap.push { cls:=.type "slice",data:=.fields #[vl,vu,.none] } } σ H3 x v vl vu l u s3.heap.objs.size Q I4 r1 (Heap.IsSliceOf.new ..) pl pu q3
 show wpAny (model X.prog X.w) X.A (subscriptTail e (.Slice lo hi none p2) v (.ref s3.heap.objs.size)) (EP X pins σ Q) X.xe { s3 with heap:=s3.heap.push { cls:=.type "slice",data:=.fields #[vl,vu,.none] } }
 exact tail_any (ops:=[.ref s3.heap.objs.size,v]) ht hT hg (by with_unfolding_all rfl)
noncomputable def B9 (xs:List V)(lo hi:Option Int):List V:=(xs.drop (HT.sIx xs.length 0 lo)).take (HT.sIx xs.length xs.length hi - HT.sIx xs.length 0 lo)
theorem Zfr (xs:List V)(lo hi:Option Int):(B9 xs lo hi).length<=xs.length:=by
 unfold B9
 rw [Qj,Tk]
 omega
noncomputable def rSlT (K:O0):V->Option Int->Option Int->Hp->VK->Prop:=fun x lo hi H Q=>∃ a xs,x=.ref a/\SqT K H a xs /\
 ¬ (HT.sIx xs.length 0 lo=0/\HT.sIx xs.length xs.length hi=xs.length)/\∀ p,H p=none->Q (.ref p) (upd H p (.tup (B9 xs lo hi)))
theorem Zhx:SlR X (rSlT X.K):=by
 intro pins s σ H x v vl vu lo hi sl Q I rx hs pl pu h
 obtain ⟨a,xs,rfl,hx,hw,q⟩:=h
 cases rx
 obtain ⟨its,r,ht,hz⟩:=I.tuple hx
 have hlen:its.toArray.size=xs.length:=by rw [O5];exact r.length.symm
 refine ⟨"tuple",_,Sn.lookup,ht.typeIs,?_⟩
 refine HT.getItem_tuple_cut ht hs pl pu (by rw [hlen];exact hw) ?_ (by rw [hlen];exact hz)
 rw [hlen]
 refine ⟨.ref s.heap.objs.size,_,I.laid (t':=s.toks) (o:=.tup (B9 xs lo hi)) (fun b ob q=>O6 _ q) (O3 _) ?_,rfl,q _ (I.hok.fresh (O3 _))⟩
 exact ⟨P5 (Zfr xs lo hi) hz,_,(r.drop (HT.sIx xs.length 0 lo)).take (HT.sIx xs.length xs.length hi - HT.sIx xs.length 0 lo),IsTup.new _ _⟩
noncomputable def Zqs (K:O0):R2:=fun x y H Q=>∃ a b xs ys,x=.ref a/\y=.ref b/\SqT K H a xs/\SqT K H b ys/\xs≠[]/\xs.length+ys.length<=sizeLine /\
 (ys=[]->Q (.ref a) H)/\(ys≠[]->∀ p,H p=none->Q (.ref p) (upd H p (.tup (xs++ys))))
theorem Vals.nil_iff {xs:List V}{us:List Value}(r:Vals xs us):us=[]↔xs=[]:=by
 cases r with
 | nil=>simp
 | cons _ _=>simp
theorem Zof:OpR X (binaryOp .Add) (Zqs X.K):=by
 intro pins s σ H x y v u Q I rx ry h
 obtain ⟨a,b,xs,ys,rfl,rfl,ha,hb,hx,hz,q1,q2⟩:=h
 cases rx
 cases ry
 obtain ⟨its,r1,p1,_⟩:=I.tuple ha
 obtain ⟨its2,r2,p2,_⟩:=I.tuple hb
 refine HT.cat_tup p1 p2 (fun z=>hx (r1.nil_iff.mp z)) (fun z=>⟨.ref a,H,I,rfl,q1 (r2.nil_iff.mp z)⟩) (fun z=>?_) (by rw [<- r1.length,<- r2.length];exact hz)
 refine ⟨.ref s.heap.objs.size,_,I.laid (t':=s.toks) (o:=.tup (xs++ys)) (fun b ob q=>O6 _ q) (O3 _) ?_,rfl,q2 (fun w=>z (r2.nil_iff.mpr w)) _ (I.hok.fresh (O3 _))⟩
 exact ⟨by rw [Pm];exact hz,_,r1.append r2,IsTup.new _ _⟩
end
noncomputable def Dq (n:Nat)(i:Int):Option Nat:=if 0<=i then (if i < n then some i.toNat else none) else if -(n:Int)<=i then some (i+n).toNat else none
noncomputable def Bl {α:Type}(xs:List α)(i:Int):Option α:=(Dq xs.length i).bind fun j=>xs[j]?
theorem Zfh {n:Nat}{i:Int}{j:Nat}(h:Dq n i=some j):seqIndex? i n=some j/\j < n/\-(n:Int)<=i/\i < n:=by
 unfold Dq at h
 by_cases h0:0<=i
 ·rw [if_pos h0] at h
  by_cases h1:i < n
  ·rw [if_pos h1] at h
   have e:i.toNat=j:=Pu h
   exact ⟨by rw [Uz h0 h1,e],by omega,by omega,h1⟩
  ·rw [if_neg h1] at h;cases h
 ·rw [if_neg h0] at h
  by_cases h1:-(n:Int)<=i
  ·rw [if_pos h1] at h
   have e:(i+n).toNat=j:=Pu h
   exact ⟨by rw [seqIndex_neg (by omega) h1,e],by omega,h1,by omega⟩
  ·rw [if_neg h1] at h;cases h
theorem M0 {α:Type}{xs:List α}{i:Int}{v:α}(h:Bl xs i=some v):∃ j,seqIndex? i xs.length=some j/\xs[j]?=some v/\j < xs.length/\-(xs.length:Int)<=i/\i < xs.length:=by
 unfold Bl at h
 cases e:Dq xs.length i with
 | none=>rw [e] at h;cases h
 | some j =>
  rw [e] at h
  obtain ⟨h1,h2,h3,h4⟩:=Zfh e
  exact ⟨j,h1,h,h2,h3,h4⟩
theorem Kn {α:Type}{xs:List α}{j:Nat}{v:α}(h:xs[j]?=some v):Bl xs (j:Int)=some v:=by
 have hj:j < xs.length:=(Pl.mp h).1
 have e:Dq xs.length (j:Int)=some j:=by
  unfold Dq
  rw [if_pos (by omega),if_pos (by omega)];simp
 unfold Bl;rw [e];exact h
noncomputable def Zc1 (b:Expr):Prop:=∀ o i,subscripted b false o i=operate [o,i] (getItem o i)
noncomputable def IxR (X:Cx)(r:R2):Prop :=
 ∀(value slice:Expr)(pins:List (Addr×Obj))(s:Shared)(σ:St)(H:Hp)(x y:V)(v u:Value)(Q:VK),Inv X pins σ H s->RelV x v->RelV y u->r x y H Q ->
  subscripted slice false v u=operate [v,u] (getItem v u)->wpAny (model X.prog X.w) X.A (subscriptTail value slice v u) (EP X pins σ Q) X.xe s
noncomputable def Fd (X:Cx)(id:String)(r:V->List V->Hp->VK->Prop):Prop :=
 ∀(pins:List (Addr×Obj))(s:Shared)(σ:St)(H:Hp)(x:V)(xs:List V)(v:Value)(us:List Value)(Q:VK),Inv X pins σ H s->RelV x v->Vals xs us->r x xs H Q ->
  wpAny (model X.prog X.w) X.A (call (.builtin id) (v::us)) (EP X pins σ Q) X.xe s
section
variable {X:Cx}{a b:Expr}{ta tb:TE}{pos:Pos}
theorem IxR.or {r r':R2}(h:IxR X r)(h':IxR X r'):IxR X (fun x y H Q=>r x y H Q\/r' x y H Q):=by
 intro value slice pins s σ H x y v u Q I rx ry q hs
 rcases q with q | q
 ·exact h value slice pins s σ H x y v u Q I rx ry q hs
 ·exact h' value slice pins s σ H x y v u Q I rx ry q hs
theorem Zld {r:R2}(hr:IxR X r)(ha:PE X a ta)(hb:PE X b tb)(hs:Zc1 b):PE X (.Subscript a b pos) (Dl r ta tb):=by
 intro pins s σ H Q I h
 exact Subscript_ (Za8 ha hb I h fun v u s2 x y H2 I2 rx ry q=>hr a b pins s2 σ H2 x y v u Q I2 rx ry q (hs _ _))
noncomputable def rIxL (K:O0):R2:=fun x y H Q=>∃ p xs i v,x=.ref p/\y=.int i/\SqL K H p xs/\Bl xs i=some v/\Q v H
noncomputable def rIxT (K:O0):R2:=fun x y H Q=>∃ p xs i v,x=.ref p/\y=.int i/\SqT K H p xs/\Bl xs i=some v/\Q v H
noncomputable def rIxS:R2:=fun x y H Q=>∃ z i c,x=.str z/\y=.int i/\z.length<=sizeLine/\Bl z.cps.toList i=some c/\Q (.str ⟨#[c]⟩) H
theorem ix_list:IxR X (rIxL X.K):=by
 intro value slice pins s σ H x y v u Q I rx ry h hs
 obtain ⟨p,xs,i,z,rfl,rfl,hq,he,q⟩:=h
 cases rx
 obtain ⟨t,rfl⟩:=ry
 obtain ⟨its,r,pl,hz⟩:=I.list hq
 obtain ⟨j,h1,h2,h3,h4,h5⟩:=M0 he
 obtain ⟨w,ew,rw'⟩:=r.get h2
 have hl:=r.length
 have hn:=Jj
 have fin:EP X pins σ Q w s:=⟨z,H,I,rw',q⟩
 by_cases h0:0<=i
 ·have hj:i.toNat=j:=by
   rw [Uz h0 h5] at h1
   exact Pu h1
  exact item_listR pl.isList h0 (by omega) (by rw [hj];simpa using ew) fin hs
 ·have hj:(i+(its.toArray.size:Int)).toNat=j:=by
   rw [seqIndex_neg (by omega) h4] at h1
   rw [O5,<- hl]
   exact Pu h1
  exact subscriptTail_builtinR (x:=w) pl.isList.typeIs slot_list_getitem.lookup
   (wpAny_getItem_list_neg (Q:=fun r s'=>r=w/\EP X pins σ Q r s') pl.isList (by omega) (by rw [O5] <;> omega) (by omega) (by rw [hj];simpa using ew) ⟨rfl,fin⟩) hs
theorem ix_tup:IxR X (rIxT X.K):=by
 intro value slice pins s σ H x y v u Q I rx ry h hs
 obtain ⟨p,xs,i,z,rfl,rfl,hq,he,q⟩:=h
 cases rx
 obtain ⟨t,rfl⟩:=ry
 obtain ⟨its,r,pl,hz⟩:=I.tuple hq
 obtain ⟨j,h1,h2,h3,h4,h5⟩:=M0 he
 obtain ⟨w,ew,rw'⟩:=r.get h2
 have hl:=r.length
 have hn:=Jj
 have fin:EP X pins σ Q w s:=⟨z,H,I,rw',q⟩
 exact subscriptTail_builtinR (x:=w) pl.typeIs slot_tuple_getitem.lookup
  (getItem_tuple (j:=j) (Q:=fun r s'=>r=w/\EP X pins σ Q r s') pl (by omega) (by omega) (by rw [O5,<- hl];exact h1) (by simpa using ew) ⟨rfl,fin⟩) hs
theorem Zm8:IxR X rIxS:=by
 intro value slice pins s σ H x y v u Q I rx ry h hs
 obtain ⟨z,i,c,rfl,rfl,hz,he,q⟩:=h
 obtain ⟨t,rfl⟩:=rx
 obtain ⟨t',rfl⟩:=ry
 obtain ⟨j,h1,h2,h3,h4,h5⟩:=M0 he
 have hl:z.cps.toList.length=z.length:=by simp [Str.length]
 rw [hl] at h1 h4 h5
 have hn:=Jj
 exact tail_any (typeIs_str s z t) slot_str_getitem.lookup (getItem_str (c:=c) (by
  have e1:decide (i < -(2 ^ 63:Int))=false:=decide_eq_false (by omega)
  have e2:decide (i ≥ 2 ^ 63)=false:=decide_eq_false (by omega)
  rw [e1,e2,Bool.or_false]) (by rw [h1];simpa using h2) ⟨.str ⟨#[c]⟩,H,I.tok _,⟨_,rfl⟩,q⟩) hs
noncomputable def Gx (K:O0):R2:=fun x y H Q=>rIxL K x y H Q\/rIxT K x y H Q\/rIxS x y H Q
theorem Zn1:IxR X (Gx X.K):=ix_list.or (ix_tup.or Zm8)
theorem Ztu (its:List Value)(n j:Nat)(u:Value):Qc (·.setIfInBounds j u) { cls:=.type "list",data:=.seq its.toArray n }={ cls:=.type "list",data:=.seq (its.set j u).toArray n }:=by
 simp [Qc]
theorem Inv.lst {pins:List (Addr×Obj)}{σ:St}{H:Hp}{s:Shared}{p:Addr}{xs:List V}(I:Inv X pins σ H s)(h:H p=some (.lst xs)) :
  ∃(its:List Value)(n:Nat),Vals xs its/\s.heap.get? p=some { cls:=.type "list",data:=.seq its.toArray n }/\xs.length<=sizeLine:=by
 obtain ⟨z,its,n,r,e⟩:=I.hok p _ h
 exact ⟨its,n,r,e,z⟩
theorem Inv.lstUpd {pins:List (Addr×Obj)}{σ:St}{H:Hp}{s:Shared}{p:Addr}{xs ys:List V}{its its':List Value}{n n':Nat}{f:Obj->Obj}(I:Inv X pins σ H s)(h:H p=some (.lst xs))
  (ho:s.heap.get? p=some { cls:=.type "list",data:=.seq its.toArray n }) (hf:f { cls:=.type "list",data:=.seq its.toArray n }={ cls:=.type "list",data:=.seq its'.toArray n' }) (r:Vals ys its') (hz:ys.length<=sizeLine) (t:Nat) :
  Inv X pins σ (upd H p (.lst ys)) { s with heap:=s.heap.update p f,toks:=t }:=by
 have e:(s.heap.update p f).get? p=some { cls:=.type "list",data:=.seq its'.toArray n' }:=by
  rw [Rk f ho (by rw [hf] <;> rfl),hf]
 refine I.write (x:=p) (e:=p) (by rw [h];trivial) (.inl rfl) (fun b u hb q=>(Qn _ _ (Ps hb)).trans q) ⟨_,e⟩ ?_
 exact ⟨hz,its',n',r,e⟩
noncomputable def Zg5:V->V->V->Hp->(Hp->Prop)->Prop:=fun o i v H Q=>∃ p xs k j,o=.ref p/\i=.int k/\H p=some (.lst xs)/\Dq xs.length k=some j/\Q (upd H p (.lst (xs.set j v)))
theorem Zeg:Zbj X Zg5:=by
 intro pins s σ H o i v ov iv u Q I ro ri rv h
 obtain ⟨p,xs,k,j,rfl,rfl,hp,hj,q⟩:=h
 cases ro
 obtain ⟨t,rfl⟩:=ri
 obtain ⟨its,n,r,ho,hz⟩:=I.lst hp
 obtain ⟨h1,h2,h3,h4⟩:=Zfh hj
 have hl:=r.length
 have hn:=Jj
 have I':Inv X pins σ (upd H p (.lst (xs.set j v))) { s with heap:=s.heap.update p (Qc (·.setIfInBounds j u)) } :=
  I.lstUpd hp ho (Ztu its n j u) (r.set rv j) (by rw [Rn];exact hz) s.toks
 by_cases h0:0<=k
 ·have hk:k.toNat=j:=by
   rw [Uz h0 h4] at h1
   exact Pu h1
  exact PySem.W.ki_setAt ho h0 (by omega) (by rw [O5,<- hl];exact h4) (by rw [hk];exact ⟨_,I',q⟩)
 ·have hk:(k+(its.toArray.size:Int)).toNat=j:=by
   rw [seqIndex_neg (by omega) h3] at h1
   rw [O5,<- hl]
   exact Pu h1
  exact PySem.W.ki_setBack ho (by omega) (by rw [O5,<- hl];exact h3) (by omega) (by rw [hk];exact ⟨_,I',q⟩)
theorem Zs7 (lo hi:Option Int)(n:Nat):(sliceBounds lo hi none n).1=((HT.sIx n 0 lo:Nat):Int)/\(sliceBounds lo hi none n).2.1=((HT.sIx n n hi:Nat):Int)/\(sliceBounds lo hi none n).2.2=1:=by
 refine ⟨?_,?_,rfl⟩
 ·cases lo with
  | none=>simp [sliceBounds,HT.sIx]
  | some i =>
   simp only [sliceBounds,HT.sIx,Option.getD_none,show (1:Int) > 0 by decide,if_true]
   by_cases h:i < 0
   ·simp only [h,if_true] <;> omega
   ·simp only [h,if_false] <;> omega
 ·cases hi with
  | none=>simp [sliceBounds,HT.sIx]
  | some i =>
   simp only [sliceBounds,HT.sIx,Option.getD_none,show (1:Int) > 0 by decide,if_true]
   by_cases h:i < 0
   ·simp only [h,if_true] <;> omega
   ·simp only [h,if_false] <;> omega
theorem Zt4 (its:List Value)(lo hi:Option Int):slicePick its.toArray lo hi none=((its.drop (HT.sIx its.length 0 lo)).take (HT.sIx its.length its.length hi - HT.sIx its.length 0 lo)).toArray:=by
 obtain ⟨h1,h2,h3⟩:=Zs7 lo hi its.toArray.size
 unfold slicePick
 rw [h1,h2,h3]
 simp only [sliceRange_one,pick_run,O5] <;> rfl
noncomputable def Zca (K:O0):V->Option Int->Option Int->Hp->VK->Prop:=fun x lo hi H Q=>∃ a xs,x=.ref a/\SqL K H a xs/\∀ p,H p=none->Q (.ref p) (upd H p (.lst (B9 xs lo hi)))
theorem sl_list:SlR X (Zca X.K):=by
 intro pins s σ H x v vl vu lo hi sl Q I rx hs pl pu h
 obtain ⟨a,xs,rfl,hx,q⟩:=h
 cases rx
 obtain ⟨its,r,ht,hz⟩:=I.list hx
 have hlen:=r.length
 refine ⟨"list",_,slot_list_getitem.lookup,ht.isList.typeIs,?_⟩
 refine wpAny_getItem_list_slice ht.isList hs pl pu .none (by simp) ?_ (by rw [O5] <;> omega)
 rw [Zt4,<- hlen]
 refine ⟨.ref s.heap.objs.size,_,I.laid (t':=s.toks) (o:=.lst (B9 xs lo hi)) (fun b ob q=>O6 _ q) (O3 _) ?_,rfl,q _ (I.hok.fresh (O3 _))⟩
 exact ⟨P5 (Zfr xs lo hi) hz,_,0,(r.drop (HT.sIx xs.length 0 lo)).take (HT.sIx xs.length xs.length hi - HT.sIx xs.length 0 lo),Pe _ rfl⟩
noncomputable def Cy:V->Bool
 | .non=>true
 | .bl _=>true
 | .int _=>true
 | .str _=>true
 | _=>false
noncomputable def D4:V->V->Bool
 | .non,.non=>true
 | .bl a,.bl b=>a == b
 | .bl a,.int b=>(if a then 1 else 0) == b
 | .int a,.bl b=>a == (if b then 1 else 0)
 | .int a,.int b=>a == b
 | .str a,.str b=>a == b
 | _,_=>false
theorem Zbr {A:Around}{s:Shared}{y x:V}{u v:Value}(ry:RelV y u)(rx:RelV x v)(fy:Cy y=true)(fx:Cy x=true):Pi A s u v (D4 y x):=by
 cases y with
 | non =>
  cases ry
  cases x with
  | non=>cases rx;exact Um _
  | bl b=>cases rx;exact Pi.none_bool b
  | int b=>obtain ⟨t,rfl⟩:=rx;exact Pi.none_int b t
  | str b=>obtain ⟨t,rfl⟩:=rx;exact Pi.none_str b t
  | _=>exact absurd (show false=true from fx) O8
 | bl a =>
  cases ry
  cases x with
  | non=>cases rx;exact Pi.bool_none a
  | bl b=>cases rx;exact Pi.bool_bool a b
  | int b=>obtain ⟨t,rfl⟩:=rx;exact Pi.bool_int a b t
  | str b=>obtain ⟨t,rfl⟩:=rx;exact Pi.bool_str a b t
  | _=>exact absurd (show false=true from fx) O8
 | int a =>
  obtain ⟨t',rfl⟩:=ry
  cases x with
  | non=>cases rx;exact Pi.int_none a t'
  | bl b=>cases rx;exact Pi.int_bool a t' b
  | int b=>obtain ⟨t,rfl⟩:=rx;exact Pi.int_int a t' b t
  | str b=>obtain ⟨t,rfl⟩:=rx;exact Pi.int_str a t' b t
  | _=>exact absurd (show false=true from fx) O8
 | str a =>
  obtain ⟨t',rfl⟩:=ry
  cases x with
  | non=>cases rx;exact Pi.str_none a t'
  | bl b=>cases rx;exact Pi.str_bool a t' b
  | int b=>obtain ⟨t,rfl⟩:=rx;exact Pi.str_int a t' b t
  | str b=>obtain ⟨t,rfl⟩:=rx;exact Pi.str_str a t' b t
  | _=>exact absurd (show false=true from fx) O8
 | _=>exact absurd (show false=true from fy) O8
noncomputable def C2 (x:V)(u:Value):Bool:=match u with
 | .none=>D4 .non x
 | .bool b=>D4 (.bl b) x
 | .int i _=>D4 (.int i) x
 | .str z _=>D4 (.str z) x
 | _=>false
theorem Zf6 {x y:V}{u:Value}(r:RelV y u)(f:Cy y=true):C2 x u=D4 y x:=by
 cases y with
 | non=>cases r;rfl
 | bl b=>cases r;rfl
 | int i=>obtain ⟨t,rfl⟩:=r;rfl
 | str z=>obtain ⟨t,rfl⟩:=r;rfl
 | _=>exact absurd (show false=true from f) O8
theorem Mf {x:V}:∀{xs:List V}{us:List Value},Vals xs us->xs.all Cy=true->us.any (C2 x)=xs.any fun y=>D4 y x
 | _,_,.nil,_=>rfl
 | y::xs,u::us,.cons r t,f=>by
  rw [Si,Qk] at f
  rw [List.any_cons,List.any_cons,Zf6 r f.1,Mf t f.2]
theorem Lp {A:Around}{s:Shared}{x:V}{v:Value}(rx:RelV x v)(fx:Cy x=true):∀{xs:List V}{us:List Value},Vals xs us->xs.all Cy=true->∀ u∈us,Pi A s u v (C2 x u)
 | _,_,.nil,_=>fun u hu=>by cases hu
 | y::xs,u::us,.cons r t,f=>fun u' hu=>by
  rw [Si,Qk] at f
  rcases Pb.mp hu with rfl | hu
  ·rw [Zf6 r f.1];exact Zbr r rx f.1 fx
  ·exact Lp rx fx t f.2 u' hu
noncomputable def Cr (x:V)(xs:List V):Bool:=xs.any fun y=>D4 y x
noncomputable def rIn (K:O0)(neg:Bool):R2:=fun x y H Q=>∃ p xs,y=.ref p/\(SqL K H p xs\/SqT K H p xs)/\Cy x=true/\xs.all Cy=true/\Q (.bl (if neg then !Cr x xs else Cr x xs)) H
theorem op_in_seq:OpR X (compareOp .In) (rIn X.K false):=by
 intro pins s σ H x y v u Q I rx ry h
 obtain ⟨p,xs,rfl,hq,fx,fs,q⟩:=h
 cases ry
 rcases hq with hq | hq
 ·obtain ⟨its,r,pl,hz⟩:=I.list hq
  refine SeqAt.in_listAt (C2 x) pl.isList (fun w hw=>Lp rx fx r fs w (by simpa using hw)) ⟨.bl _,H,I,rfl,?_⟩
  rw [show its.toArray.any (C2 x)=its.any (C2 x) by simp,Mf r fs]
  exact q
 ·obtain ⟨its,r,pl,hz⟩:=I.tuple hq
  refine SeqAt.in_tupleAt (C2 x) pl (fun w hw=>Lp rx fx r fs w (by simpa using hw)) ⟨.bl _,H,I,rfl,?_⟩
  rw [show its.toArray.any (C2 x)=its.any (C2 x) by simp,Mf r fs]
  exact q
theorem op_notIn_seq:OpR X (compareOp .NotIn) (rIn X.K true):=by
 intro pins s σ H x y v u Q I rx ry h
 obtain ⟨p,xs,rfl,hq,fx,fs,q⟩:=h
 cases ry
 rcases hq with hq | hq
 ·obtain ⟨its,r,pl,hz⟩:=I.list hq
  refine SeqAt.notIn_listAt (C2 x) pl.isList (fun w hw=>Lp rx fx r fs w (by simpa using hw)) ⟨.bl _,H,I,rfl,?_⟩
  rw [show its.toArray.any (C2 x)=its.any (C2 x) by simp,Mf r fs]
  exact q
 ·obtain ⟨its,r,pl,hz⟩:=I.tuple hq
  refine SeqAt.notIn_tupleAt (C2 x) pl (fun w hw=>Lp rx fx r fs w (by simpa using hw)) ⟨.bl _,H,I,rfl,?_⟩
  rw [show its.toArray.any (C2 x)=its.any (C2 x) by simp,Mf r fs]
  exact q
theorem Zte:Cm X (.type "list") (fun xs H Q=>∃ p ys,xs=[.ref p]/\(SqL X.K H p ys\/SqT X.K H p ys)/\∀ l,H l=none->Q (.ref l) (upd H l (.lst ys))):=by
 intro pins s σ H xs us Q I r h
 obtain ⟨p,ys,rfl,hq,q⟩:=h
 obtain ⟨u,rfl,rx⟩:=Lx r
 cases rx
 have fin:∀(its:List Value),Vals ys its->ys.length<=sizeLine->∀(h':Heap)(c':Nat),(∀ b o',s.heap.get? b=some o'->h'.get? b=some o') ->
   h'.get? s.heap.objs.size=some { cls:=.type "list",dict:=none,data:=.seq its.toArray c',slots:=#[] }->EP X pins σ Q (.ref s.heap.objs.size) { s with heap:=h' }:=fun its r' hz h' c' kp e =>
  ⟨.ref s.heap.objs.size,_,I.laid (t':=s.toks) kp (O3 _) (show ObjOk X.prog X.w _ h' _ (.lst ys) from ⟨hz,its,c',r',e⟩),rfl,q _ (I.hok.fresh (O3 _))⟩
 rcases hq with hq | hq
 ·obtain ⟨its,r',pl,hz⟩:=I.list hq
  have hlen:=r'.length
  obtain ⟨o,ho,hc,n,hd⟩:=pl.isList
  exact call_list_seq p (.inl rfl) ho hc hd (fun h' c' kp e=>fin its r' hz h' c' kp e) (by simp only [O5] <;> omega)
 ·obtain ⟨its,r',pl,hz⟩:=I.tuple hq
  have hlen:=r'.length
  obtain ⟨o,ho,hc,n,hd⟩:=pl
  exact call_list_seq p (.inr rfl) ho hc hd (fun h' c' kp e=>fin its r' hz h' c' kp e) (by simp only [O5] <;> omega)
theorem Zry:Cm X (.type "tuple") (fun xs H Q=>∃ p ys,xs=[.ref p]/\((SqL X.K H p ys/\∀ l,H l=none->Q (.ref l) (upd H l (.tup ys)))\/(SqT X.K H p ys/\Q (.ref p) H))):=by
 intro pins s σ H xs us Q I r h
 obtain ⟨p,ys,rfl,h⟩:=h
 obtain ⟨u,rfl,rx⟩:=Lx r
 cases rx
 rcases h with ⟨hq,q⟩ | ⟨hq,q⟩
 ·obtain ⟨its,r',pl,hz⟩:=I.list hq
  have hlen:=r'.length
  refine call_tuple_list pl.isList (fun h' kp=>?_) (by simp only [O5] <;> omega)
  have I1:Inv X pins σ H { s with heap:=h' }:=I.kept (t':=s.toks) kp
  have I2:Inv X pins σ (upd H h'.objs.size (.tup ys)) { s with heap:=h'.push { cls:=.type "tuple",data:=.seq its.toArray } } :=
   I1.laid (t':=s.toks) (fun b o e=>O6 _ e) (O3 _) (show ObjOk X.prog X.w _ _ _ (.tup ys) from ⟨hz,its,r',IsTup.new _ _⟩)
  exact ⟨.ref h'.objs.size,_,I2,rfl,q _ (I1.hok.fresh (O3 _))⟩
 ·obtain ⟨its,r',pl,hz⟩:=I.tuple hq
  exact call_tuple_same pl ⟨.ref p,H,I,rfl,q⟩
noncomputable def Ii (K:O0)(T:String)(x:V)(H:Hp):Prop:=match x with
 | .str _=>T = "str"
 | .int _=>T = "int"
 | .ref p=>(T = "list" /\ ∃ xs,SqL K H p xs)\/(T = "tuple" /\ ∃ o,K.lookup p=some o/\o.cls=.type "tuple" /\ o.dict=none) \/
   (T = "dict" /\ ((∃ kvs,H p=some (.dK kvs))\/∃ kvs,H p=some (.dT kvs)))\/(T = "set" /\ ∃ S n,H p=some (.set S n))
 | _=>False
theorem Zea {pins:List (Addr×Obj)}{σ:St}{H:Hp}{s:Shared}{T:String}{x:V}{v:Value}(I:Inv X pins σ H s)(r:RelV x v)(ty:Ii X.K T x H) :
  s.TypeIs v T/\∀ a,v=.ref a->∃ ob,s.heap.get? a=some ob/\ob.dict=none:=by
 cases x with
 | str z =>
  obtain ⟨t,rfl⟩:=r
  cases (show T = "str" from ty)
  exact ⟨typeIs_str s z t,fun _ e=>nomatch e⟩
 | int i =>
  obtain ⟨t,rfl⟩:=r
  cases (show T = "int" from ty)
  exact ⟨T0 s i t,fun _ e=>nomatch e⟩
 | ref p =>
  cases r
  rcases ty with ⟨rfl,xs,hq⟩ | ⟨rfl,o,hk,hc,hd⟩ | ⟨rfl,hk⟩ | ⟨rfl,S,n,hk⟩
  ·obtain ⟨its,_,pl,_⟩:=I.list hq
   refine ⟨pl.isList.typeIs,fun a e=>?_⟩
   cases e
   obtain ⟨o,n,e,c,hd,_⟩:=pl
   exact ⟨o,e,hd⟩
  ·refine ⟨⟨o,I.kIn p o hk,hc⟩,fun a e=>?_⟩
   cases e
   exact ⟨o,I.kIn _ o hk,hd⟩
  ·have z:∃ o,s.heap.get? p=some o/\o.ExactDict:=by
    rcases hk with ⟨kvs,hk⟩ | ⟨kvs,hk⟩
    ·obtain ⟨_,_,_,_,o,_,_,e,ex,_⟩:=I.hok p _ hk
     exact ⟨o,e,ex⟩
    ·obtain ⟨_,_,_,_,o,_,_,e,ex,_⟩:=I.hok p _ hk
     exact ⟨o,e,ex⟩
   obtain ⟨o,e,ex⟩:=z
   refine ⟨⟨o,e,ex.1⟩,fun a e2=>?_⟩
   cases e2
   exact ⟨o,e,ex.2.1⟩
  ·obtain ⟨o,_,_,_,e,ex,_⟩:=I.hok p _ hk
   refine ⟨⟨o,e,ex.1⟩,fun a e2=>?_⟩
   cases e2
   exact ⟨o,e,ex.2.1⟩
 | _=>exact Pd ty
noncomputable def M2 (K:O0)(T:String)(r:V->List V->Hp->VK->Prop)(to:TE):TE:=fun σ H Q=>to σ H fun x H1=>Ii K T x H1/\r x [] H1 Q
noncomputable def tBM (K:O0)(T:String)(r:V->List V->Hp->VK->Prop)(to:TE)(t:TA):TE:=fun σ H Q=>to σ H fun x H1=>Ii K T x H1/\t σ H1 fun xs H2=>r x xs H2 Q
variable {o e:Expr}{es:List Expr}{to:TE}{t:TA}{name:Str}{apos cpos:Pos}{T id:String}{r:V->List V->Hp->VK->Prop}
theorem Zp4 (pa:PlainAttrs T)(slot:Slot T name id)(hty:typeOf (.builtin id)=pure (.type "method_descriptor"))(hm:Fd X id r)(ho:PE X o to)
  (hbase:attributeBase o name X.env (eval o X.env)=eval o X.env:=by rfl) (hline:(apos.endLine == cpos.line)=true:=by rfl):PE X (.Call (.Attribute o name apos) [] [] cpos) (M2 X.K T r to):=by
 intro pins s σ H Q I h
 refine wpAny_Call_method0_late hbase hline (Aj (ho pins s σ H _ I h) fun v s1 zq=>?_)
 obtain ⟨x,H1,I1,r1,ty,q1⟩:=zq
 obtain ⟨h1,h2⟩:=Zea I1 r1 ty
 exact ⟨T,id,pa,slot,hty,h1,h2,Calls.callWith_builtin rfl (PySem.evalArgs_none (hm pins s1 σ H1 x [] v [] Q I1 r1 .nil q1))⟩
theorem Zqf (pa:PlainAttrs T)(slot:Slot T name id)(hty:typeOf (.builtin id)=pure (.type "method_descriptor"))(hm:Fd X id r)(ho:PE X o to)(ha:PA X (e::es) t)
  (hbase:attributeBase o name X.env (eval o X.env)=eval o X.env:=by rfl)
  (hfew:((backTo cpos (starEach (e::es) X.env)).all (fun x=>!x.1) && (backToKw cpos (keywordEach [] X.env)).all (fun x=>x.1.isSome)
   && decide ((e::es).length+([]:List Keyword).length+(if ([]:List Keyword).isEmpty then 0 else 1) < 30))=true:=by rfl)
  (hline:(apos.endLine == cpos.line)=true:=by rfl) (hs:starEach (e::es) X.env=(false,eval e X.env)::starEach es X.env:=by rfl) (hplain:(backTo cpos (starEach es X.env)).any (·.1)=false:=by rfl) :
  PE X (.Call (.Attribute o name apos) (e::es) [] cpos) (tBM X.K T r to t):=by
 intro pins s σ H Q I h
 refine wpAny_Call_method_late hbase hfew hline rfl (Aj (ho pins s σ H _ I h) fun v s1 zq=>?_)
 obtain ⟨x,H1,I1,r1,ty,q1⟩:=zq
 obtain ⟨h1,h2⟩:=Zea I1 r1 ty
 refine ⟨T,id,pa,slot,hty,h1,h2,?_⟩
 have hA:=ha cpos pins s1 σ H1 _ I1 q1
 rw [hs] at hA ⊢
 refine Calls.callWith_builtin (by show (false || (backTo cpos (starEach es X.env)).any (·.1))=false;rw [hplain] <;> rfl) (Calls.evalArgs_plain ?_)
 exact Aj hA fun us s2 ⟨vs,H2,I2,r2,q2⟩=>hm pins s2 σ H2 x vs v us Q I2 r1 r2 q2
end
noncomputable def Iv (X:Cx)(id:String)(r:V->List V->Hp->VK->Prop):Prop :=
 ∀(pins:List (Addr×Obj))(s:Shared)(σ:St)(H:Hp)(x:V)(xs:List V)(v:Value)(us:List Value)(Q:VK),Inv X pins σ H s->RelV x v->Vals xs us->r x xs H Q ->
  wpAny (model X.prog X.w) X.A (call (.builtin id) (v::us)) (EP X pins σ Q) X.xe s
theorem Vals.one:∀{x:V}{us:List Value},Vals [x] us->∃ u,us=[u]/\RelV x u
 := fun h=>by
 cases h with
 | cons r t =>
 cases t
 exact ⟨_,rfl,r⟩
theorem Vals.two:∀{x y:V}{us:List Value},Vals [x,y] us->∃ u v,us=[u,v]/\RelV x u/\RelV y v
 := fun h=>by
 cases h with
 | cons r t =>
 cases t with
 | cons q z =>
 cases z
 exact ⟨_,_,rfl,r,q⟩
theorem Vals.zero:∀{us:List Value},Vals [] us->us=[]
 | _,.nil=>rfl
theorem Vals.dropLast {xs:List V}{us:List Value}(h:Vals xs us):Vals xs.dropLast us.dropLast:=by
 induction h with
 | nil=>exact .nil
 | cons r t ih =>
  cases t with
  | nil=>exact .nil
  | cons q t'=>exact .cons r ih
theorem Vals.rep {xs:List V}{us:List Value}(h:Vals xs us):∀ k:Nat,Vals (Pa k xs).flatten (Pa k us).flatten
 | 0=>.nil
 | k+1=>by
  rw [Rm,Rm,Ti,Ti]
  exact Vals.append h (Vals.rep h k)
theorem Zik {α:Type}(l:List α):l.eraseIdx (l.length - 1)=l.dropLast:=by
 induction l with
 | nil=>rfl
 | cons a r ih =>
  cases r with
  | nil=>rfl
  | cons b r =>
   have e:(a::b::r).length - 1=((b::r).length - 1)+1:=by
    have h1:(a::b::r).length=r.length+2:=rfl
    have h2:(b::r).length=r.length+1:=rfl
    omega
   rw [e,List.eraseIdx_cons_succ,ih]
   all_goals rfl
theorem Zcz (its:List Value):∀(k:Nat)(acc:List Value),
  T1 (fun x1 x2=>x1++x2) acc.toArray (Pa k its.toArray)=(acc++(Pa k its).flatten).toArray
 | 0,acc=>by simp
 | k+1,acc=>by
  have e:acc.toArray++its.toArray=(acc++its).toArray:=by simp
  have e2:(acc++its)++(Pa k its).flatten=acc++(Pa (k+1) its).flatten:=by
   rw [Rm,Ti,Sr]
  rw [<- e2,<- Zcz its k (acc++its),<- e,Rm,List.foldl_cons]
section
variable {X:Cx}{pins:List (Addr×Obj)}{σ:St}{H:Hp}{s:Shared}{l b:Addr}{xs ys zs:List V}
theorem Inv.lset {its its':List Value}{n:Nat}{f:Array Value->Array Value}{t':Nat}(I:Inv X pins σ H s)(hH:H l=some (.lst xs))
  (e:s.heap.get? l=some { cls:=.type "list",data:=.seq its.toArray n }) (hf:f its.toArray=its'.toArray) (hv:Vals ys its') (hz:ys.length<=sizeLine) :
  Inv X pins σ (upd H l (.lst ys)) { s with heap:=s.heap.update l (Qc f),toks:=t' }:=by
 have q:=PySem.IsL.update e f
 rw [hf] at q
 refine I.write (x:=l) (e:=l) (by rw [hH];exact trivial) (.inl rfl) (fun b' u hb hu=>(Qn s.heap (Qc f) (Ps hb)).trans hu) ⟨_,q⟩ ?_
 exact ⟨hz,its',_,hv,q⟩
theorem Inv.lnew {its:List Value}{t':Nat}(I:Inv X pins σ H s)(hv:Vals ys its)(hz:ys.length<=sizeLine) :
  Inv X pins σ (upd H s.heap.objs.size (.lst ys)) { s with heap:=s.heap.push { cls:=.type "list",data:=.seq its.toArray },toks:=t' } :=
 I.laid (fun _ _ q=>O6 _ q) (O3 _) ⟨hz,its,0,hv,Pe _ rfl⟩
theorem Inv.fresh (I:Inv X pins σ H s):H s.heap.objs.size=none:=I.hok.fresh (O3 _)
theorem Inv.lstM (I:Inv X pins σ H s)(hH:H l=some (.lst xs)):xs.length<=sizeLine/\∃(its:List Value)(n:Nat),Vals xs its/\xs.length=its.length/\s.heap.get? l=some { cls:=.type "list",data:=.seq its.toArray n }:=by
 obtain ⟨z,its,n,r,e⟩:=I.hok l _ hH
 exact ⟨z,its,n,r,r.length,e⟩
theorem Za6 {n:Nat}(h:n<=sizeLine):So n=false:=by
 unfold So
 exact decide_eq_false (by omega)
end
section
variable {X:Cx}
noncomputable def Zc5:V->List V->Hp->VK->Prop:=fun x vs H Q=>∃ l xs y,x=.ref l/\vs=[y]/\H l=some (.lst xs)/\xs.length < sizeLine/\Q .non (upd H l (.lst (xs++[y])))
theorem Dn:Iv X "list.append" Zc5:=by
 intro pins s σ H x vs v us Q I rx rv h
 obtain ⟨l,xs,y,rfl,rfl,hH,hz,q⟩:=h
 cases rx
 obtain ⟨u,rfl,ru⟩:=rv.one
 obtain ⟨z,its,n,r,hl,e⟩:=I.lstM hH
 refine Qy F.slot_list_append ⟨_,e,rfl⟩ F.entry_list_append (F.args_list_append_2 _ _) (PySem.list_append l its.toArray n u (by rw [O5];omega)) ⟨e,?_⟩
 refine ⟨.non,_,I.lset (its':=its++[u]) hH e (by simp) (r.append (.cons ru .nil)) ?_,rfl,q⟩
 rw [Pm,Rl]
 omega
noncomputable def Zpq:V->List V->Hp->VK->Prop:=fun x vs H Q=>∃ l b xs zs,x=.ref l/\vs=[.ref b]/\H l=some (.lst xs)/\H b=some (.lst zs)/\xs.length+zs.length<=sizeLine/\Q .non (upd H l (.lst (xs++zs)))
theorem Zk6:Iv X "list.extend" Zpq:=by
 intro pins s σ H x vs v us Q I rx rv h
 obtain ⟨l,b,xs,zs,rfl,rfl,hH,hB,hz,q⟩:=h
 cases rx
 obtain ⟨u,rfl,ru⟩:=rv.one
 cases ru
 obtain ⟨z,its,n,r,hl,e⟩:=I.lstM hH
 obtain ⟨z2,its2,n2,r2,hl2,e2⟩:=I.lstM hB
 have hsz:its.toArray.size+its2.toArray.size<=sizeLine:=by rw [O5,O5];omega
 have hlong:¬ (!its.toArray.isEmpty && So (its.toArray.size+its2.toArray.size))=true:=by
  rw [Za6 hsz,Ts]
  exact O8
 refine Qy F.slot_list_extend ⟨_,e,rfl⟩ F.entry_list_extend (F.args_list_extend_2 _ _)
  (AutoSeq1.list_extend_list_list_0 l its.toArray n b its2.toArray n2 hlong (by rw [O5];omega) (by omega)) ⟨e,e2,?_⟩
 refine ⟨.non,_,I.lset (its':=its++its2) hH e (by simp) (r.append r2) ?_,rfl,q⟩
 rw [Pm]
 omega
noncomputable def rPop:V->List V->Hp->VK->Prop:=fun x vs H Q=>∃ l xs y,x=.ref l/\vs=[]/\H l=some (.lst xs)/\xs[xs.length - 1]?=some y/\Q y (upd H l (.lst xs.dropLast))
theorem Oq:Iv X "list.pop" rPop:=by
 intro pins s σ H x vs v us Q I rx rv h
 obtain ⟨l,xs,y,rfl,rfl,hH,hy,q⟩:=h
 cases rx
 have hus:=rv.zero
 subst hus
 obtain ⟨z,its,n,r,hl,e⟩:=I.lstM hH
 obtain ⟨u,hu,ru⟩:=r.get hy
 have hy':its.toArray[its.toArray.size - 1]?=some u:=by
  show its.toArray[its.length - 1]?=some u
  rw [<- Array.getElem?_toList,<- hl]
  exact hu
 refine Qy F.slot_list_pop ⟨_,e,rfl⟩ F.entry_list_pop (F.args_list_pop_1 _) (MeetsSeq.list_pop_last l its.toArray n u hy' (by rw [O5];omega)) ⟨e,?_⟩
 refine ⟨y,_,I.lset (its':=its.dropLast) hH e ?_ r.dropLast ?_,ru,q⟩
 ·show its.toArray.eraseIdxIfInBounds (its.toArray.size - 1)=its.dropLast.toArray
  rw [O5,List.eraseIdxIfInBounds_toArray,Zik]
 ·rw [List.length_dropLast]
  omega
noncomputable def Zh3:V->List V->Hp->VK->Prop:=fun x vs H Q=>∃ l xs,x=.ref l/\vs=[]/\H l=some (.lst xs)/\Q .non (upd H l (.lst []))
theorem Zs2:Iv X "list.clear" Zh3:=by
 intro pins s σ H x vs v us Q I rx rv h
 obtain ⟨l,xs,rfl,rfl,hH,q⟩:=h
 cases rx
 have hus:=rv.zero
 subst hus
 obtain ⟨z,its,n,r,hl,e⟩:=I.lstM hH
 refine Qy F.slot_list_clear ⟨_,e,rfl⟩ F.entry_list_clear (F.args_list_clear_1 _) (AutoSeq1.list_clear_list_0 l its.toArray n (by rw [O5];omega)) ⟨e,?_⟩
 exact ⟨.non,_,I.lset (its':=[]) (ys:=[]) hH e rfl .nil (Qb _),rfl,q⟩
noncomputable def rCat:R2:=fun x y H Q=>∃ l b xs zs,x=.ref l/\y=.ref b/\H l=some (.lst xs)/\H b=some (.lst zs)/\xs.length+zs.length<=sizeLine/\∀ p,H p=none->Q (.ref p) (upd H p (.lst (xs++zs)))
theorem op_cat:OpR X (binaryOp .Add) rCat:=by
 intro pins s σ H x y v u Q I rx ry h
 obtain ⟨l,b,xs,zs,rfl,rfl,hH,hB,hz,q⟩:=h
 cases rx
 cases ry
 obtain ⟨z,its,n,r,hl,e⟩:=I.lstM hH
 obtain ⟨z2,its2,n2,r2,hl2,e2⟩:=I.lstM hB
 refine PySem.P.add_list e e2 ?_ (by rw [O5,O5];omega)
 have ea:its.toArray++its2.toArray=(its++its2).toArray:=by simp
 rw [ea]
 exact ⟨.ref _,_,I.lnew (t':=s.toks) (r.append r2) (by rw [Pm];omega),rfl,q _ I.fresh⟩
noncomputable def rRep:R2:=fun x y H Q=>∃ l k xs,x=.ref l/\y=.int k/\H l=some (.lst xs)/\-(2 ^ 63)<=k/\k < 2 ^ 63/\xs.length * k.toNat<=sizeLine /\
 ∀ p,H p=none->Q (.ref p) (upd H p (.lst (Pa k.toNat xs).flatten))
theorem Oc {α:Type}(xs:List α)(k:Nat):(Pa k xs).flatten.length=k * xs.length:=by
 induction k with
 | zero=>simp
 | succ k ih=>rw [Rm,Ti,Pm,ih,Nat.succ_mul,Nat.add_comm]
theorem Zpk:OpR X (binaryOp .Mult) rRep:=by
 intro pins s σ H x y v u Q I rx ry h
 obtain ⟨l,k,xs,rfl,rfl,hH,h1,h2,hz,q⟩:=h
 cases rx
 obtain ⟨t,rfl⟩:=ry
 obtain ⟨z,its,n,r,hl,e⟩:=I.lstM hH
 have hlen:its.toArray.size * k.toNat<=sizeLine:=by rw [O5,<- hl];exact hz
 have hcap:¬ its.toArray.size * k.toNat > (2 ^ 63 - 1) / 8:=by
  have:(sizeLine:Nat)<=(2 ^ 63 - 1) / 8:=by decide
  omega
 have hfit:¬ (!Builtin.List.listFitsIndex k)=true:=by
  rw [fitsIndex_both h1 h2]
  exact O8
 have hlong:¬ So (its.toArray.size * k.toNat)=true:=by
  rw [Za6 hlen]
  exact O8
 have hnew:T1 (fun x1 x2=>x1++x2) #[] (Pa (if its.toArray.isEmpty=true then 0 else k.toNat) its.toArray)=(Pa k.toNat its).flatten.toArray:=by
  have f0:∀ m:Nat,T1 (fun x1 x2=>x1++x2) #[] (Pa m its.toArray)=(Pa m its).flatten.toArray:=fun m=>by
   have:=Zcz its m []
   rw [Uo] at this
   exact this
  rw [f0]
  cases its with
  | nil=>simp
  | cons a r'=>rw [if_neg (by simp)]
 refine wpAny_binaryOp_repeat_ref (T := "list") (U := "int") (by decide) ⟨_,e,rfl⟩ (fun s'=>T0 s' k t) noFill_list_mul F.fills_int_mul F.slot_int_rmul repeat_list F.slot_int_index.lookup
  (Qy F.slot_int_rmul (T0 s k t) F.entry_int_rmul (F.args_int_rmul_2 _ _) (int___rmul___int_list k t l its.toArray n)
   ⟨e,rfl,⟨_,e,rfl⟩,Qy F.slot_list_mul ⟨_,e,rfl⟩ F.entry_list_mul (F.args_list_mul_2 _ _) (AutoListH.list___mul___list_int_3 l its.toArray n k t hfit hcap hlong) ⟨e,?_⟩⟩)
 rw [hnew]
 exact ⟨.ref _,_,I.lnew (t':=s.toks) (r.rep k.toNat) (by rw [Oc,Nat.mul_comm];exact hz),rfl,q _ I.fresh⟩
end
section
variable {prog:Program}{w:World}{A:Around}{E:Value->Shared->Prop}{s:Shared}
end
section
variable {X:Cx}
end
end L2
namespace Att
open PySem PySem.W PySem.Calls PyProof.Rows
theorem Zs5 {P:Params}{h:Heap}:∀(ns:List Int)(vs:List Value),WellAll P h vs (ns.map WData.int)->IntsAre vs ns:=by
 intro ns
 induction ns with
 | nil =>
  intro vs w
  rw [List.map_nil] at w
  cases w
  exact .nil
 | cons n ns ih =>
  intro vs w
  rw [R4] at w
  cases w with
  | cons a b =>
   cases a
   exact .cons _ _ (ih _ b)
theorem Zjc {l:OpenLaw}{n:Nat}(hn:l.most=some n){P:Params}{h:Heap}{args:List WData}{vals:List Value}
  (hpre:l.row.toRowW.claim.pre args=true) (hwl:WellAll P h vals args) :
  ∃ a vs ns,vals=[Value.ref a]/\args=[WData.list (ns.map WData.int)]/\h.get? a=some { cls:=.type "list",data:=.seq vs.toArray }/\IntsAre vs ns/\ns.length<=n:=by
 have hsh:WShape.hasAll [] args [.list .int]=true:=(pre_splitW hpre).1
 have hc:l.pre.holds [] { args:=args }=true:=(pre_splitW hpre).2
 obtain ⟨d,r,rfl,h1,h2⟩:=hasAllW_cons hsh
 obtain rfl:=hasAllW_nil h2
 obtain ⟨xs,rfl,h3⟩:=hasW_list h1
 obtain ⟨ns,rfl⟩:=items_int h3
 have hlen:ns.length<=n:=by
  unfold OpenLaw.pre at hc
  have h4:(WTm.not (.lt (.lit (.int (n:Int))) (.len (.arg 0)))).holds [] { args:=[.list (ns.map .int)] }=true:=by
   have h4:=(holds_andW hc).1
   rw [hn] at h4
   exact h4
  have h5:=condW_of h4 (w_not (w_lt w_lit (w_len_list (w_arg rfl))))
  rw [Pq] at h5
  refine Nat.le_of_not_lt fun q=>?_
  have q':(n:Int) < ((ns.length:Nat):Int):=by omega
  first
   | (rw [decide_eq_true q'] at h5;exact absurd h5 (by decide))
   | (simp at h5;omega)
 cases hwl with
 | cons w1 w2 =>
  cases w2
  cases w1 with
  | list ho hall=>exact ⟨_,_,ns,rfl,rfl,ho,Zs5 ns _ hall,hlen⟩
theorem Zow (l:OpenLaw)(args:List WData):l.row.toRowW.claim.post args (.bool true) args=true :=
 postW_of (r:=l.row.toRowW) (X:=(true == true))
  (show WShape.has [] (.bool true) .bool=true by first | rfl | decide | simp [WShape.has,WShape.arms,WShape.armsAll])
  (show (WTm.eq .res (.lit (.bool true))).value [] { args:=args,res:=some (.bool true),after:=args }=some (.bool (true == true)) from w_eq_bool (w_res rfl) w_lit) rfl
theorem attach_call {l:OpenLaw}{n:Nat}{q:Program}{loose:List Str}{XP:(Str->Option Value)->Heap->Prop}{YP:World->Heap->Prop}{d:DefRec}
  (hn:l.most=some n) (hdf:d.params.defaults=[])
  (call:∀(w:World)(s₀ s₁:Shared)(mg mb:Str->Option Value)(fa:Addr)(o:Obj)(pm cd doc:Value)(a:Addr)(vs:List Value)(ns:List Int),
   Ground q loose [] XP w s₀ mg mb s₁.heap->YP w s₁.heap ->
   s₁.heap.get? fa=some o->o.data=.func (docDef d.name d.params d.body d.scope pm cd doc)->s₁.heap.CodeRec cd d.name->mg d.name=some (.ref fa) ->
   s₁.heap.get? a=some { cls:=.type "list",data:=.seq vs.toArray }->IntsAre vs ns->ns.length<=n->s₁.gens=#[] ->
   codeAny (model l.prog w) callerA (.call (.ref fa) ⟨[.ref a],[]⟩) (fun r s'=>r=.ok (.ret (.bool true))/\OldK s₁.heap s'.heap/\s'.os=s₁.os/\AllBare s'.gens) s₁) :
  WalkO q loose XP YP l.row.toRowW d [] (fun f vs=>PySem.call f vs):=by
 intro w s₀ s₁ mg mb G Y fa o pm cd doc dV kV ho hd hcd hD hmg hg args vals as hpre hlay hrd hwl hlo
 obtain rfl:dV=.none:=Dflts.none hD hdf
 obtain rfl:kV=.none:=Dflts.noKw hD
 obtain ⟨a,vs,ns,rfl,rfl,hobj,hints,hlen⟩:=Zjc hn hpre hwl
 refine enter_call (Rg (call w s₀ s₁ mg mb fa o pm cd doc a vs ns G Y ho (fd_plain hd) hcd hmg hobj hints hlen hg) fun r s' hq=>?_)
 obtain ⟨rfl,h2,h3,h4⟩:=hq
 exact ⟨.inl ⟨.bool true,.bool true,[],rfl,fun _=>rfl,.bool true,Zow l _,fun _=>⟨List.Pairwise.nil,fun _ hm=>(nomatch hm)⟩⟩,h2,h3,h4⟩
section
variable {prog:Program}{w:World}{A:Around}{E:Value->Shared->Prop}{s:Shared}{K:Frag}
end
end Att
namespace L2
open PySem PySem.Spec PyProof.Rows
theorem Zhi:∀{vs:List Value}{ns:List Int},IntsAre vs ns->Vals (ns.map V.int) vs
 | _,_,.nil=>.nil
 | _,_,.cons n t h=>.cons ⟨t,rfl⟩ (Zhi h)
noncomputable def Za4 (H:Hp):Prop:=∀ b,H b=none\/∃ o xs,H b=some (.frz o (.lst xs))
theorem Ztz {P:Program}{w:World}{K:O0}{mg mb:Str->Option Value}{CX:Bs}{k:Nat}{fa a:Addr}{fd:FuncData}{x:Str}{sp:Sp}{s₁:Shared}{vs:List Value}{ns:List Int}
  (KX:K.In s₁.heap) (hns:s₁.heap.Ns mainGlobals mg) (hb:s₁.heap.Ns builtinsNs mb) (hbb:∀ x:Str,x ≠ "__name__" -> mb x=bootBuiltins x) (hlim:s₁.heap.NoLimit) (hg:s₁.gens=#[])
  (ha:s₁.heap.get? a=some { cls:=.type "list",data:=.seq vs.toArray }) (hi:IntsAre vs ns) (hl:ns.length<=sizeLine) (hr:Room k callerA)
  (F:∀ base:Heap,K.In base->base.Ns mainGlobals mg->Ao P w K mg base CX k fa fd [x] sp) (hbind:∀(s:Shared)(u:Value),BindsTo s fd ⟨[u],[]⟩ [(x,u)])
  (hsp:∀ H:Hp,Za4 H->SqL K H a (ns.map V.int)->sp [.ref a] H (fun v _=>v=.bl true) fun _ _ _=>False)
  (hCX:∀ H e s',CX [] H s₁ (fun _ _ _=>False) e s'->False) :
  codeAny (model P w) callerA (.call (.ref fa) ⟨[.ref a],[]⟩) (fun r s'=>r=.ok (.ret (.bool true))/\OldK s₁.heap s'.heap/\s'.os=s₁.os/\AllBare s'.gens) s₁:=by
 have rv:=Zhi hi
 have lenV:=hi.length
 have core:∀ H:Hp,Za4 H->SqL K H a (ns.map V.int)->HOk P w H s₁.heap->(∀ b,H b≠none->b=a)->(H a≠none->K.lookup a=none) ->
   codeAny (model P w) callerA (.call (.ref fa) ⟨[.ref a],[]⟩) (fun r s'=>r=.ok (.ret (.bool true))/\OldK s₁.heap s'.heap/\s'.os=s₁.os/\AllBare s'.gens) s₁:=by
  intro H hO hS hok hA hK
  have base_of:∀{b:Addr}{o:Obj},s₁.heap.get? b=some o->H b=none->(Fv s₁.heap H).get? b=some o:=fun e n=>Zkf e n
  have noA:∀{b:Addr}{o:Obj}{es:Array DictEntry}{ep:Nat},s₁.heap.get? b=some o->o.data=.dict es ep->H b=none:=fun {b o es ep} e d=>by
   cases q:H b with
   | none=>rfl
   | some u =>
    have e':b=a:=hA b (by rw [q];simp)
    subst e'
    rw [ha] at e;cases e
    have d':Data.seq vs.toArray _=Data.dict es ep:=d
    cases d'
  have nsK:∀{b:Addr}{m:Str->Option Value},s₁.heap.Ns b m->(Fv s₁.heap H).Ns b m:=fun {b m} ⟨o,es,ep,e,d,r⟩=>⟨o,es,ep,base_of e (noA e d),d,r⟩
  have hKb:K.In (Fv s₁.heap H):=fun b o e=>base_of (KX b o e) (by
   cases q:H b with
   | none=>rfl
   | some u =>
    have e':b=a:=hA b (by rw [q];simp)
    subst e'
    rw [hK (by rw [q];simp)] at e;cases e)
  have hM:Mod K mg (Fv s₁.heap H):=⟨hKb,nsK hns,⟨mb,nsK hb,hbb⟩,let ⟨mc,h1,h2⟩:=hlim;⟨mc,nsK h1,h2⟩⟩
  have e0:Env0 P w K mg (Fv s₁.heap H) callerA [] s₁ H:=⟨rfl,hM,fun b o e=>Zkr e,Nat.le_of_eq (Zk9 _ _),trivial,fun b hb=>absurd (show b∈([]:List Addr) from hb) (by simp),hok,.of_eq hg⟩
  refine Rg ((F _ hKb (nsK hns)).run callerA [] s₁ H ⟨[.ref a],[]⟩ [.ref a] [.ref a] _ _ hr e0 (hbind s₁ (.ref a)) (.cons rfl .nil) (hsp H hO hS)) fun r s' h=>?_
  cases r with
  | error e=>exact (hCX H e s' h).elim
  | ok fl =>
   cases fl with
   | next=>exact Pd h
   | brk=>exact Pd h
   | cont=>exact Pd h
   | ret u =>
    obtain ⟨v,H',os,bare,un,hok',r',q⟩:=h
    have q':v=.bl true:=q
    subst q'
    obtain rfl:u=Value.bool true:=r'
    refine ⟨rfl,OldK.of_keep fun b o e=>?_,os,bare⟩
    cases q:H b with
    | none=>exact un.keep b o e q (by intro z;exact absurd (show b∈([]:List Addr) from z) (by simp)) (by simp)
    | some u =>
     rcases hO b with z | ⟨ob,xs,z⟩
     ·rw [q] at z;cases z
     ·have z2:=un.frzs b ob _ z
      obtain ⟨e1,_⟩:=hok b _ z
      obtain ⟨e2,_⟩:=hok' b _ z2
      rw [e] at e1;cases e1
      exact e2
 cases hk:K.lookup a with
 | some o =>
  have e:=KX a o hk
  rw [ha] at e
  cases e
  refine core (fun _=>none) (fun _=>.inl rfl) (.inr ⟨_,vs.toArray,_,hk,rfl,rfl,rfl,by rw [O5,lenV];exact hl,by simpa using rv⟩) (fun b u z=>by have z':(none:Option HO)=some u:=z;cases z') (fun b z=>absurd rfl z) fun z=>absurd rfl z
 | none =>
  refine core (fun b=>if b=a then some (.frz { cls:=.type "list",data:=.seq vs.toArray } (.lst (ns.map V.int))) else none) (fun b=>?_) (.inl (.inr ⟨{ cls:=.type "list",data:=.seq vs.toArray },if_pos rfl⟩)) (fun b u z=>?_) (fun b z=>?_) fun _=>hk
  ·by_cases hb:b=a
   ·exact .inr ⟨_,_,if_pos hb⟩
   ·exact .inl (if_neg hb)
  ·by_cases hb:b=a
   ·have z':=(if_pos hb).symm.trans z
    cases z'
    subst hb
    exact ⟨ha,by rw [Pq];exact hl,vs,_,rv,ha⟩
   ·have z':=(if_neg hb).symm.trans z
    cases z'
  ·by_cases hb:b=a
   ·exact hb
   ·exact absurd (if_neg hb) z
theorem walk_of {l:V2}{n k:Nat}{q:Program}{loose:List Str}{XP:(Str->Option Value)->Heap->Prop}{YP:World->Heap->Prop}{d:DefRec}{K:Params->O0}{CX:World->Bs}{sp:World->Sp}{x:Str}
  (hn:l.most=some n) (hn2:n<=sizeLine) (hdf:d.params.defaults=[]) (hr:Room k callerA)
  (hY:∀(w:World)(h:Heap),YP w h->(K w.params).In h)
  (F:∀(w:World)(mg:Str->Option Value)(fa:Addr)(h:Heap),(K w.params).In h->h.Ns mainGlobals mg->mg d.name=some (.ref fa) ->
   ∃ fd:FuncData,(∀(s:Shared)(u:Value),BindsTo s fd ⟨[u],[]⟩ [(x,u)]) /\
    ∀ base:Heap,(K w.params).In base->base.Ns mainGlobals mg->Ao l.prog w (K w.params) mg base (CX w) k fa fd [x] (sp w))
  (hsp:∀(w:World)(H:Hp)(a:Addr)(ns:List Int),ns.length<=n->Za4 H->SqL (K w.params) H a (ns.map V.int)->sp w [.ref a] H (fun v _=>v=.bl true) fun _ _ _=>False)
  (hCX:∀(w:World)(H:Hp)(s:Shared)(e:Value)(s':Shared),CX w [] H s (fun _ _ _=>False) e s'->False) :
  PySem.W.WalkO q loose XP YP l.row.toRowW d [] (fun f vs=>PySem.call f vs):=by
 refine Att.attach_call hn hdf fun w s₀ s₁ mg mb fa o pm cd doc a vs ns G Y ho hd hcd hmg hobj hints hlen hg=>?_
 have KX:=hY w _ Y
 obtain ⟨fd,hb,hF⟩:=F w mg fa _ KX G.T.g hmg
 exact Ztz KX G.T.g G.T.b G.T.builtins G.T.nolimit hg hobj hints (P5 hlen hn2) hr hF hb (fun H hO hS=>hsp w H a ns hlen hO hS) fun H e s'=>hCX w H s₁ e s'
noncomputable def Bp (s:Stmt):Arguments:=match s with
 | .FunctionDef _ a _ _ _ _ _ _ _ _=>a
 | _=>{ posonlyargs:=[],args:=[],vararg:=none,kwonlyargs:=[],kw_defaults:=[],kwarg:=none,defaults:=[] }
noncomputable def Bg (s:Stmt):List Stmt:=match s with
 | .FunctionDef _ _ b _ _ _ _ _ _ _=>b
 | _=>[]
noncomputable def Am (s:Stmt):Scope:=match s with
 | .FunctionDef _ _ _ _ _ _ sc _ _ _=>sc
 | _=>{ kind:=.function,names:=[],isGenerator:=false,isCoroutine:=false }
noncomputable abbrev Aq:Bs:=fun _ _ _ _ _ _=>False
noncomputable abbrev E0:XK:=fun _ _ _=>False
theorem C4 {X:Cx}:Er Aq X E0:=fun _ _ _ _ _ _ _ h=>h.elim
structure Fun (K:O0)(x qual:Str)(st:Stmt)(f:Addr)(fd:FuncData):Prop where
 ex:∃(oc:Value)(od:Option Addr)(kV doc pm:Value)(an:Option Addr)(cdv ct:Value)(osl:Array (Option Value)),
  fd=Pk x qual (Bp st) (Bg st) (Am st) .none kV doc pm an cdv ct/\K.lookup f=some ⟨oc,od,.func fd,osl⟩/\Rp K cdv qual=true
 kp:Ph K (.ref f)=true
section
variable {P:Program}{w:World}{K:O0}{mg:Str->Option Value}{base:Heap}
theorem Fun.ok {x qual:Str}{st:Stmt}{f:Addr}{fd:FuncData}{N ps:List Str}{k:Nat}{sp:Sp}(F:Fun K x qual st f fd)(S:A2 N ps (Am st))(len:∀ vs H Q E,sp vs H Q E->vs.length=ps.length)
  (hbody:∀(cdv:Value)(A:Around)(outer:List Env)(s:Shared)(H:Hp)(vs:List V)(Q:VK)(E:XK),Room k (A.deeper (envOfC qual (Am st) s.heap.objs.size f cdv))->sp vs H Q E ->
   ∃ t,PSs (Cq Aq P w K mg base N qual (Am st) f cdv A outer s H E).nox (Bg st) t/\t { nx:=fun _ H'=>Q .non H',rt:=Q } (start N vs) H):Ao P w K mg base Aq (k+1) f fd ps sp:=by
 obtain ⟨oc,od,kV,doc,pm,an,cdv,ct,osl,rfl,lk,hcd⟩:=F.ex
 refine Zdb lk hcd S len fun A outer s H vs Q E hr hsp=>?_
 obtain ⟨t,h,q⟩:=hbody cdv A outer s H vs Q E hr hsp
 exact ⟨t,h.nox,q⟩
theorem Fun.binds {x qual:Str}{st:Stmt}{f:Addr}{fd:FuncData}{ps:List Str}(F:Fun K x qual st f fd)
  (h:∀(kV doc pm:Value)(an:Option Addr)(cdv ct:Value)(us:List Value),us.length=ps.length->bindArgs (Pk x qual (Bp st) (Bg st) (Am st) .none kV doc pm an cdv ct) ⟨us,[]⟩=pure (ps.zip us)):Binds K fd ps []:=by
 obtain ⟨oc,od,kV,doc,pm,an,cdv,ct,osl,rfl,lk,hcd⟩:=F.ex
 exact .all (h kV doc pm an cdv ct)
theorem fun_mk {x qual:Str}{st:Stmt}{f:Addr}{oc:Value}{od an:Option Addr}{osl:Array (Option Value)}{kV doc pm cdv ct:Value}(l:K.lookup f=some ⟨oc,od,.func (Pk x qual (Bp st) (Bg st) (Am st) .none kV doc pm an cdv ct),osl⟩)
  (c:Rp K cdv qual=true) (k:Ph K (.ref f)=true):Fun K x qual st f (Pk x qual (Bp st) (Bg st) (Am st) .none kV doc pm an cdv ct):=⟨⟨oc,od,kV,doc,pm,an,cdv,ct,osl,rfl,l,c⟩,k⟩
end
section
variable {X:Cx}
end
theorem iteF {A B:Prop}(h:B):if false=true then A else B:=by
 rw [if_neg O8]
 exact h
theorem iteT {A B:Prop}(h:A):if true=true then A else B:=by
 rw [if_pos rfl]
 exact h
theorem Aw {c A B:Prop}[Decidable c](h1:c->A)(h2:¬ c->B):if c then A else B:=by
 by_cases h:c
 ·rw [if_pos h]
  exact h1 h
 ·rw [if_neg h]
  exact h2 h
noncomputable def Same (H H':Hp):Prop:=∀ b o,H b=some o->H' b=some o
theorem Same.refl (H:Hp):Same H H:=fun _ _ h=>h
theorem Same.trans {H H1 H2:Hp}(a:Same H H1)(b:Same H1 H2):Same H H2:=fun c o h=>b c o (a c o h)
theorem Same.free {H H':Hp}(e:Same H H'){l:Addr}(h:H' l=Option.none):H l=Option.none:=by
 cases q:H l with
 | none=>rfl
 | some o =>
  rw [e l o q] at h
  cases h
theorem Same.seq {K:O0}{H H':Hp}{a:Addr}{xs:List V}(e:Same H H')(h:SqL K H a xs):SqL K H' a xs:=by
 rcases h with (h | ⟨o,h⟩) | h
 ·exact .inl (.inl (e _ _ h))
 ·exact .inl (.inr ⟨o,e _ _ h⟩)
 ·exact .inr h
end L2
set_option maxHeartbeats 8000000
namespace L2
open PySem PySem.Spec PyProof.Rows
noncomputable def Dh (env:Env):List (Str×NameKind)->List (Str×Addr)->List (Str×Addr)
 | [],acc=>acc
 | (n,k)::r,acc=>Dh env r (if k == .free then (match env.cells.lookup n with | some a=>(n,a)::acc | none=>acc) else acc)
theorem Zb1 {env:Env}:∀{ns:List (Str×NameKind)}{acc:List (Str×Addr)}{x:Str}{c:Addr},(∀ x c,acc.lookup x=some c->env.cells.lookup x=some c)->(Dh env ns acc).lookup x=some c->env.cells.lookup x=some c
 | [],acc,x,c,h,e=>h x c e
 | (n,k)::r,acc,x,c,h,e=>by
  refine Zb1 (ns:=r) ?_ e
  intro y d
  split
  ·split
   ·rename_i a ha
    intro q
    rw [Qu] at q
    split at q
    ·rename_i hy
     have hy':y=n:=by simpa using hy
     subst hy'
     rw [ha];exact q
    ·exact h y d q
   ·exact h y d
  ·exact h y d
theorem Zhh {env:Env}:∀{ns:List (Str×NameKind)}{acc:List (Str×Addr)}{x:Str},(acc.lookup x).isSome=true->((Dh env ns acc).lookup x).isSome=true
 | [],acc,x,h=>h
 | (n,k)::r,acc,x,h=>by
  refine Zhh (ns:=r) ?_
  split
  ·split
   ·rw [Qu]
    split
    ·rfl
    ·exact h
   ·exact h
  ·exact h
theorem Zei {env:Env}:∀{ns:List (Str×NameKind)}{acc:List (Str×Addr)}{x:Str},(x,NameKind.free)∈ns->(env.cells.lookup x).isSome=true->((Dh env ns acc).lookup x).isSome=true
 | [],acc,x,h,_=>by cases h
 | (n,k)::r,acc,x,h,hc=>by
  rcases Pb.mp h with e | e
  ·cases e
   refine Zhh (ns:=r) ?_
   obtain ⟨a,ha⟩:=R7.mp hc
   rw [if_pos (by rfl),ha]
   show (Rr n ((n,a)::acc)).isSome=true
   rw [Qu]
   simp
  ·exact Zei (ns:=r) e hc
theorem Zem {scope:Scope}{env:Env}(h:∀ x∈scope.names,x.2=.free->(env.cells.lookup x.1).isSome=true):closureFor scope env=pure (Dh env scope.names []):=by
 have all:∀(ns:List (Str×NameKind))(acc:List (Str×Addr)),(∀ x∈ns,x.2=.free->(env.cells.lookup x.1).isSome=true) ->
   (forIn ns acc fun (x:Str×NameKind) (cs:List (Str×Addr))=>(if (x.2 == NameKind.free)=true then do let a <- cellOf env x.1;pure (ForInStep.yield ((x.1,a)::cs)) else pure (ForInStep.yield cs):Sem (ForInStep (List (Str×Addr)))))=pure (Dh env ns acc):=by
  intro ns
  induction ns with
  | nil=>intro acc _;rfl
  | cons x r ih =>
   intro acc hx
   obtain ⟨n,k⟩:=x
   rw [Tp]
   by_cases hk:(k == NameKind.free)=true
   ·obtain ⟨a,ha⟩:=R7.mp (hx (n,k) Sb (by simpa using hk))
    have ha:env.cells.lookup n=some a:=ha
    have hcell:cellOf env n=pure a:=by unfold cellOf;rw [ha]
    simp only [hk,if_true,hcell]
    refine Eq.trans (ih ((n,a)::acc) fun y hy=>hx y (Q0 _ hy)) ?_
    conv=>rhs;unfold Dh
    simp only [hk,if_true,ha]
   ·simp only [hk]
    refine Eq.trans (ih acc fun y hy=>hx y (Q0 _ hy)) ?_
    conv=>rhs;unfold Dh
    simp only [hk]
    rfl
 unfold closureFor
 exact (by
  have:=all scope.names [] h
  first | exact this | (simp only [bind_pure] ;exact this) | simpa using this)
noncomputable def Cn (X:Cx)(scope:Scope)(C:Addr)(N:List Str)(s₀:Shared)(H₀:Hp)(ex:List Addr):Cx where
 prog:=X.prog
 w:=X.w
 K:=X.K
 mg:=X.mg
 base:=X.base
 A:=X.A
 N:=N
 s₀:=s₀
 H₀:=H₀
 env:=compEnvC scope (Dh X.env scope.names []) C X.env
 outer:=X.stack
 stack:=X.stack
 ex:=ex
 fn:=fun _=>false
 calm:=X.calm
 pn:=[]
 xe:=fun _ _=>False
structure Hy (sc:Scope)(env:Env):Prop where
 kind:sc.kind=.function
 nocell:∀ y∈sc.names,y.2≠.cell
 loc:∀ y∈sc.names,y.2=.local->sc.names.lookup y.1=some .local
 free:∀ x∈sc.names,x.2=.free->(env.cells.lookup x.1).isSome=true
theorem Nu {env:Env}:∀{names:List (Str×NameKind)}{x:Str}{k:NameKind},((names.map fun (n,k)=>if (k == NameKind.free && env.scope.kind == .function && env.kindOf n == some .cell) then (n,NameKind.cell) else (n,k)).lookup x=some k) ->
  ∃ k',names.lookup x=some k'/\(k'=k\/(k'=.free/\k=.cell))
 | [],x,k,h=>by simp at h
 | (n,q)::r,x,k,h=>by
  have ih:=@Nu env r x k
  have h:Rr x ((if (q == NameKind.free && env.scope.kind == .function && env.kindOf n == some .cell)=true then (n,NameKind.cell) else (n,q))::_)=some k:=h
  rw [Qu]
  cases hx:x == n with
  | true =>
   by_cases hc:(q == NameKind.free && env.scope.kind == .function && env.kindOf n == some .cell)=true
   ·rw [if_pos hc] at h
    simp only [Qu,hx] at h
    refine ⟨q,rfl,.inr ⟨?_,(Pu h).symm⟩⟩
    simp only [Qk] at hc
    simpa using hc.1.1
   ·rw [if_neg hc] at h
    simp only [Qu,hx] at h
    exact ⟨q,rfl,.inl (Pu h)⟩
  | false =>
   by_cases hc:(q == NameKind.free && env.scope.kind == .function && env.kindOf n == some .cell)=true
   ·rw [if_pos hc] at h
    simp only [Qu,hx] at h
    exact ih h
   ·rw [if_neg hc] at h
    simp only [Qu,hx] at h
    exact ih h
noncomputable def Ge (X:Cx)(scope:Scope)(N:List Str)(σ σ0:St):Prop :=
 σ0.length=N.length/\∀(i:Nat)(x:Str)(v:V),N[i]?=some x->σ0[i]?=some (some v)->∃ j:Nat,X.N[j]?=some x/\σ[j]?=some (some v)/\scope.names.lookup x=some .free/\(X.env.kindOf x=some .cell\/X.env.kindOf x=some .free)
section
variable {X:Cx}
theorem Zrv {scope:Scope}{N:List Str}{pins:List (Addr×Obj)}{σ σ0:St}{H:Hp}{s:Shared}{h':Heap}{tk:Nat}{fp:List Addr}(I:Inv X pins σ H s)(S:Hy scope X.env)(hf:∀ b∈fp,FpOk X pins H b)(hlt:∀ b∈fp,b < s.heap.objs.size)
  (T:Ge X scope N σ σ0) (hn:h'.Ns s.heap.objs.size (fun _=>none)) (hk:∀ b o,s.heap.get? b=some o->h'.get? b=some o) :
  Inv (Cn X scope s.heap.objs.size N s H fp) [] σ0 H { s with heap:=h',toks:=tk }:=by
 have subC:∀ x c,(Dh X.env scope.names []).lookup x=some c->X.env.cells.lookup x=some c:=fun x c e=>Zb1 (ns:=scope.names) (acc:=[]) (fun y d z=>by simp at z) e
 have hasC:∀ x,scope.names.lookup x=some .free->∃ c,(Dh X.env scope.names []).lookup x=some c:=fun x e=>by
  have m:=Sa e
  exact R7.mp (Zei m (S.free _ m rfl))
 have fsN:∀ b∈fp,b ∉ Bc X.stack:=fun b hb z=>by
  obtain ⟨_,f1,f2,_⟩:=hf b hb
  rcases Pb.mp (I.stkSub b z) with e | e
  ·exact f1 e
  ·exact f2 e
 have kinds:∀ x,((relabel scope X.env).names.lookup x=some .cell\/(relabel scope X.env).names.lookup x=some .free)->scope.names.lookup x=some .free:=fun x hx=>by
  rcases hx with hx | hx
  ·obtain ⟨k',e,q⟩:=Nu hx
   rcases q with q | ⟨q,_⟩
   ·subst q
    exact absurd rfl (S.nocell _ (Sa e))
   ·rw [e,q]
  ·obtain ⟨k',e,q⟩:=Nu hx
   rcases q with q | ⟨_,q⟩
   ·rw [e,q]
   ·cases q
 have noex:∀ b o,X.base.get? b=some o->b ∉ fp:=fun b o e hb=>by
  obtain ⟨_,_,_,f3,_⟩:=hf b hb
  rcases f3 with z | z
  ·exact I.ok.noex b o e z
  ·exact absurd (Pf (O9 e) (P5 I.ok.bsz z)) (Q4 _)
 refine ⟨⟨I.ok.mod,S.kind,I.ok.glob,I.ok.blt,O3 _,fun x y c e1 e2=>I.ok.inj x y c (subC x c e1) (subC y c e2),fun x hx=>hasC x (kinds x hx),fun x c z=>absurd (show false=true from z) O8,I.ok.hd,I.ok.frames,.inl rfl,
   fun b hb=>⟨Pg (hlt b hb),fun x c e=>(hf b hb).2.2.2.2.1 x c (subC x c e)⟩,I.bs,P5 I.ok.bsz I.sz,noex,fsN,I.stack,I.stkFree⟩,
  rfl,I.bare,Un.kept hk,⟨_,hn,fun i x v e1 e2 e3=>?_⟩,fun x c e=>?_,I.hok.fresh (O3 _),fun x c e=>I.freeC x c (subC x c e),fun p hp=>absurd (show p∈([]:List (Addr×Obj)) from hp) (by simp),I.hok.kept hk,T.1⟩
 ·obtain ⟨j,hj,hs,hfr,hkd⟩:=T.2 i x v e1 e2
  obtain ⟨m,_,hl⟩:=I.loc
  obtain ⟨u,r,l⟩:=hl j x v hj hs (hkd.elim (fun z=>Or.inr (Or.inl z)) fun z=>Or.inr (Or.inr z))
  refine ⟨u,r,.inr ⟨?_,?_⟩⟩
  ·show (relabel scope X.env).names.lookup x=some .cell\/(relabel scope X.env).names.lookup x=some .free
   rcases e3 with z | z | z
   ·obtain ⟨k',e,q⟩:=Nu (show (relabel scope X.env).names.lookup x=some .local from z)
    rw [hfr] at e
    cases e
    rcases q with q | ⟨_,q⟩ <;> cases q
   ·exact .inl z
   ·exact .inr z
  ·obtain ⟨c,hc⟩:=hasC x hfr
   refine ⟨c,hc,?_⟩
   rcases l with ⟨k,_⟩ | ⟨_,c',e,z⟩
   ·rcases hkd with hkd | hkd <;> (rw [hkd] at k;cases k)
   ·have e':=subC x c hc
    rw [e] at e'
    cases e'
    obtain ⟨o,ho,hd⟩:=z
    exact ⟨o,hk _ o ho,hd⟩
 ·obtain ⟨v,o,ho,hd⟩:=I.cell x c (subC x c e)
  exact ⟨v,o,hk _ o ho,hd⟩
theorem Zlp {scope:Scope}{N:List Str}{pins pins':List (Addr×Obj)}{σ σ':St}{H H':Hp}{s s':Shared}{h':Heap}{fp:List Addr}(I:Inv X pins σ H s)(hf:∀ b∈fp,FpOk X pins H b)
  (I':Inv (Cn X scope s.heap.objs.size N s H fp) pins' σ' H' s') (hs:Px s.heap.objs.size s'.heap h'):Inv X pins σ H' { s' with heap:=h' }:=by
 have hC:H' s.heap.objs.size=none:=I'.free
 have ne:∀ b o,s.heap.get? b=some o->b≠s.heap.objs.size:=fun b o e=>Pg (O9 e)
 have B:Un (Bc X.stack) fp H H' s.heap s'.heap:=I'.base
 refine I.call' (s':={ s' with heap:=h' }) (ch:=fp) I'.os ⟨fun b o e n hb hx=>?_,fun b o e n hb hx=>?_,B.free,fun b o e hx=>?_,B.tups,B.frzs,B.tbls⟩ (fun b o e=>?_) I'.bare (fun b hb=>?_)
 ·exact (hs.2 b (ne b o e)).trans (B.keep b o e n hb hx)
 ·obtain ⟨sl,q⟩:=B.slot b o e n hb hx
  exact ⟨sl,(hs.2 b (ne b o e)).trans q⟩
 ·obtain ⟨o',q⟩:=B.there b o e hx
  exact ⟨o',(hs.2 b (ne b o e)).trans q⟩
 ·refine (I'.hok b o e).stay (fun c w' hc q=>(hs.2 c ?_).trans q) (fun _ q=>q) fun _ _ q=>q
  rintro rfl
  rcases hc with rfl | hc
  ·rw [hC] at e;cases e
  ·rw [hC] at hc;cases hc
 ·obtain ⟨_,f1,_,f3,f4,f5⟩:=hf b hb
  exact ⟨f3,f1,f4,f5⟩
end
section
variable {prog:Program}{w:World}{A:Around}{R:Result->Shared->Prop}{s:Shared}
theorem Zsd {elt target iter:Expr}{ifs:List Expr}{scope:Scope}{pos:Pos}{it acc:Value}{env:Env}(I:Nat->Shared->Prop)
  (turn:∀ n s,I n s->wpAny (model prog w) A (pyNext it) (fun r s₁=>match r with
   | none=>R (.ok .next) s₁
   | some v=>wpAny (model prog w) A (letOwnedTupleGo target it v) (fun _ s₁'=>wpAny (model prog w) A (assign target env v) (fun _ s₂ =>
     wpAny (model prog w) A (forIn ifs true fun c r=>if r=true then do let ok <- isTrue c env (eval c env);pure (ForInStep.yield ok) else pure (ForInStep.yield r)) (fun ok s₃ =>
      if ok=true then wpAny (model prog w) A (eval elt env) (fun x s₄ =>
       wpAny (model prog w) A (call (.builtin "list.append") [acc,x]) (fun _ s₅=>∃ m,m < n/\I m s₅) (fun _ _=>False) s₄) (fun _ _=>False) s₃
      else ∃ m,m < n/\I m s₃) (fun _ _=>False) s₂) (fun _ _=>False) s₁') (fun _ _=>False) s₁) (fun _ _=>False) s)
  (n:Nat) (h:I n s):codeAny (model prog w) A (.compLoop (.ListComp elt [⟨target,iter,ifs,0⟩] scope pos) 0 it acc env) R s:=by
 refine codeAny_loop rfl I (fun n s hI=>?_) n h
 show wpAny _ A ((compTurn (.ListComp elt [⟨target,iter,ifs,0⟩] scope pos) 0 it acc env).onRaise (fun x=>do noteFrame x env;theTreesLotGoes x)) _ _ s
 refine wpAny_noted ?_
 rw [compTurn_list]
 have up:∀{α:Type}{t:Sem α}{Q:α->Shared->Prop}{s:Shared}{E:Value->Shared->Prop},wpAny (model prog w) A t Q (fun _ _=>False) s->wpAny (model prog w) A t Q E s:=fun h=>wpAny_noRaise h
 refine O1 (Sw (O1 (up (Aj (turn n s hI) fun r s₁ h₁=>?_))))
 cases r with
 | none=>exact O2 h₁
 | some v =>
  refine O1 (up (Aj h₁ fun _ s₁' h₁'=>?_))
  refine O1 (up (Aj h₁' fun _ s₂ h₂=>O1 (up (Aj h₂ fun ok s₃ h₃=>?_))))
  cases ok with
  | false=>exact O2 ⟨rfl,h₃⟩
  | true =>
   exact O1 (O1 (up (Aj h₃ fun x s₄ h₄=>O1 (up (Aj h₄ fun _ s₅ h₅=>O2 (O2 ⟨rfl,h₅⟩))))))
end
noncomputable def Oa (J:It)(g:TG)(tt:TT)(te:TE)(σ0:St)(H1:Hp)(D:Addr)(Q:VK):Prop :=
 ∃ W:Nat->Nat->St->Hp->Prop,(∃ m,W 0 m σ0 (upd H1 D (.lst [])))/\∀ i m σ' H',W i m σ' H' ->
  (J.stop i H'/\Q (.ref D) H')\/(J.go i H'/\∃ N:St->Hp->Prop,(∀ σ2 H2,N σ2 H2->∃ m',m' < m/\W (i+1) m' σ2 H2)/\∀ x H2,J.yld i H' x H2->g x σ' H2 fun σ2 H3=>tt σ2 H3 fun b H4 =>
   if b=true then te σ2 H4 fun y H5=>∃ ys,H5 D=some (.lst ys)/\ys.length < sizeLine/\N σ2 (upd H5 D (.lst (ys++[y]))) else N σ2 H4)
noncomputable def Lj (wi:TI)(σ0:St->St)(g:TG)(tt:TT)(te:TE):TE:=fun σ H Q=>wi σ H fun J H1=>∀ D,H1 D=none->Oa J g tt te (σ0 σ) H1 D Q
noncomputable def Ic (X:Cx)(ifs:List Expr)(t:TT):Prop :=
 ∀(pins:List (Addr×Obj))(s:Shared)(σ:St)(H:Hp)(Q:Bool->Hp->Prop),Inv X pins σ H s->t σ H Q ->
  wpAny (model X.prog X.w) X.A (forIn ifs true fun c r=>if r=true then do let ok <- isTrue c X.env (eval c X.env);pure (ForInStep.yield ok) else pure (ForInStep.yield r)) (TP X pins σ Q) X.xe s
noncomputable def Zb6:TT:=fun _ H Q=>Q true H
theorem Zlm {X:Cx}:Ic X [] Zb6:=fun _ _ _ H _ I h=>wpAny_tests_nil ⟨H,I,h⟩
section
variable {X:Cx}{elt target iter:Expr}{ifs:List Expr}{scope:Scope}{pos:Pos}{N:List Str}{wi:TI}{σ0:St->St}{g:TG}{tt:TT}{te:TE}
theorem Zdo {pins:List (Addr×Obj)}{σ:St}{H:Hp}{s:Shared}{it:Addr}{fp:List Addr}{tn:Nat->Heap->Prop}{J:It}{Q:Addr->Hp->Prop}{RR:Value->Addr->Result->Shared->Prop}{E:Value->Shared->Prop}
  (hc:X.calm=true) (S:Hy scope X.env) (T:Ge X scope N σ (σ0 σ)) (I:Inv X pins σ H s) (Tn:E7 X.prog X.w X.K target J fp it tn) (st:tn 0 s.heap) (hf:∀ b∈fp,FpOk X pins H b)
  (hg:∀ C s H fp,PG (Cn X scope C N s H fp) target g) (ht:∀ C s H fp,Ic (Cn X scope C N s H fp) ifs tt) (he:∀ C s H fp,PE (Cn X scope C N s H fp) elt te)
  (hw:∀ D,H D=none->∃ W:Nat->Nat->St->Hp->Prop,(∃ m,W 0 m (σ0 σ) (upd H D (.lst [])))/\∀ i m σ' H',W i m σ' H' ->
   (J.stop i H'/\Q D H')\/(J.go i H'/\∃ N:St->Hp->Prop,(∀ σ2 H2,N σ2 H2->∃ m',m' < m/\W (i+1) m' σ2 H2)/\∀ x H2,J.yld i H' x H2->g x σ' H2 fun σ2 H3=>tt σ2 H3 fun b H4 =>
    if b=true then te σ2 H4 fun y H5=>∃ ys,H5 D=some (.lst ys)/\ys.length < sizeLine/\N σ2 (upd H5 D (.lst (ys++[y]))) else N σ2 H4))
  (hR:∀(D C:Addr)(H':Hp)(s':Shared)(m:Str->Option Value),s.heap.objs.size<=C->H' C=none->s'.heap.Ns C m->(∀ h',Px C s'.heap h'->Inv X pins σ H' { s' with heap:=h' })->Q D H'->RR (.ref D) C (.ok .next) s') :
  wpAny (model X.prog X.w) X.A (newList []) (fun acc s₃=>wpAny (model X.prog X.w) X.A (newFunctionEnv scope X.env.globals (Dh X.env scope.names []) [] X.env.qual none .none (some X.env)) (fun cenv s₄ =>
   codeAny (model X.prog X.w) X.A (.compStart (.ListComp elt [⟨target,iter,ifs,0⟩] scope pos) 0 (.ref it) acc { cenv with scope:=relabel scope X.env }) (RR acc cenv.locals) s₄) E s₃) E s:=by
 refine Rx (wpAny_newFunctionEnv S.nocell (by intro y hy;simp at hy) (fun h₁ hns₁ hsb₁=>?_) S.kind)
 have hD:H s.heap.objs.size=none:=I.hok.fresh (O3 _)
 have I3:Inv X pins σ (upd H s.heap.objs.size (.lst [])) { s with heap:=s.heap.push { cls:=.type "list",dict:=none,data:=.seq ([]:List Value).toArray } }:=I.lnew (ys:=[]) (its:=[]) (t':=s.toks) .nil (by simp)
 have hlt:∀ b∈fp,b < s.heap.objs.size:=fun b hb=>by obtain ⟨o,e,_⟩:=Tn.obj _ _ st b hb;exact O9 e
 have hf3:∀ b∈fp,FpOk X pins (upd H s.heap.objs.size (.lst [])) b:=fun b hb=>⟨by rw [Au (Pg (hlt b hb))];exact (hf b hb).1,(hf b hb).2⟩
 have hlt3:∀ b∈fp,b < ({ s with heap:=s.heap.push { cls:=.type "list",dict:=none,data:=.seq ([]:List Value).toArray } }:Shared).heap.objs.size:=fun b hb=>by
  show b < (s.heap.push _).objs.size
  rw [Qx]
  exact Nat.lt_succ_of_lt (hlt b hb)
 have hk1:∀ b o,({ s with heap:=s.heap.push { cls:=.type "list",dict:=none,data:=.seq ([]:List Value).toArray } }:Shared).heap.get? b=some o->h₁.get? b=some o:=fun b o e =>
  hsb₁.extBut b o (Pg (O9 e)) (O6 _ e)
 have I4:=Zrv (N:=N) (tk:=s.toks+([]:List (Str×Value)).length) I3 S hf3 hlt3 T hns₁ hk1
 have st4:tn 0 h₁:=Tn.keep _ _ _ st fun b hb o e=>hk1 b o (O6 _ e)
 obtain ⟨W,⟨m0,w0⟩,turn⟩:=hw _ hD
 generalize hX:Cn X scope ({ s with heap:=s.heap.push { cls:=.type "list",dict:=none,data:=.seq ([]:List Value).toArray } }:Shared).heap.objs.size N { s with heap:=s.heap.push { cls:=.type "list",dict:=none,data:=.seq ([]:List Value).toArray } } (upd H s.heap.objs.size (.lst [])) fp=X' at I4
 have eP:X'.prog=X.prog:=by rw [<- hX];rfl
 have eW:X'.w=X.w:=by rw [<- hX];rfl
 have eK:X'.K=X.K:=by rw [<- hX];rfl
 have eA:X'.A=X.A:=by rw [<- hX];rfl
 have eC:X'.calm=true:=by rw [<- hX];exact hc
 have eX:X'.xe=fun _ _=>False:=by rw [<- hX];rfl
 have eEx:X'.ex=fp:=by rw [<- hX];rfl
 have hg':PG X' target g:=by rw [<- hX];exact hg _ _ _ _
 have ht':Ic X' ifs tt:=by rw [<- hX];exact ht _ _ _ _
 have he':PE X' elt te:=by rw [<- hX];exact he _ _ _ _
 have eE:X'.env=compEnvC scope (Dh X.env scope.names []) ({ s with heap:=s.heap.push { cls:=.type "list",dict:=none,data:=.seq ([]:List Value).toArray } }:Shared).heap.objs.size X.env:=by rw [<- hX];rfl
 have fpIn:∀{H':Hp},(∀ b∈fp,H' b=none)->∀ b∈fp,FpOk X' [] H' b:=fun {H'} hn b hb=>by
  obtain ⟨f0,f1,f2,f3,f4,f5⟩:=hf3 b hb
  rw [<- hX]
  refine ⟨hn b hb,Pg (hlt3 b hb),fun z=>?_,.inl hb,fun x c e=>f4 x c (Zb1 (ns:=scope.names) (acc:=[]) (fun y d z=>by simp at z) e),fun p hp=>absurd (show p∈([]:List (Addr×Obj)) from hp) (by simp)⟩
  rcases Pb.mp (I3.stkSub b z) with e | e
  ·exact f1 e
  ·exact f2 e
 have fr0:∀ b∈fp,upd H s.heap.objs.size (.lst []) b=none:=fun b hb=>(hf3 b hb).1
 have loop:codeAny (model X.prog X.w) X.A (.compLoop (.ListComp elt [⟨target,iter,ifs,0⟩] scope pos) 0 (.ref it) (.ref s.heap.objs.size) X'.env)
   (RR (.ref s.heap.objs.size) ({ s with heap:=s.heap.push { cls:=.type "list",dict:=none,data:=.seq ([]:List Value).toArray } }:Shared).heap.objs.size)
   { s with heap:=h₁,toks:=s.toks+([]:List (Str×Value)).length }:=by
  refine Zsd (fun n s'=>∃ i σ' H',Inv X' [] σ' H' s'/\tn i s'.heap/\(∀ b∈fp,H' b=none)/\W i n σ' H') ?_ m0 ⟨0,σ0 σ,_,I4,st4,fr0,w0⟩
  rintro n s5 ⟨i,σ5,H5,I5,st5,fr5,w5⟩
  rcases turn i n σ5 H5 w5 with ⟨stop,qn⟩ | ⟨go,Nx,hN,step⟩
  ·have q:=Tn.done X' eP eW eK eC i [] s5 σ5 H5 (fun _ _=>False) I5 (fpIn fr5) st5 stop
   rw [eA] at q
   refine Aj q fun r s6 zq=>?_
   obtain ⟨hr,I6⟩:=zq
   subst hr
   obtain ⟨mm,hns6,_⟩:=I6.loc
   rw [eE] at hns6
   have fr6:=I6.free
   rw [eE] at fr6
   refine hR _ _ H5 s6 mm ?_ fr6 hns6 (fun h' hs=>?_) qn
   ·show s.heap.objs.size<=(s.heap.push _).objs.size
    rw [Qx]
    exact Sl _
   ·rw [<- hX] at I6
    exact Zlp I3 hf3 I6 hs
  ·have q:=Tn.item X' eP eW eK eC i [] s5 σ5 H5 (fun _ _=>False) I5 (fpIn fr5) st5 go
   rw [eA] at q
   refine Aj q fun r s6 zq=>?_
   obtain ⟨u,hr,h6⟩:=zq
   subst hr
   refine Aj h6 fun _ s7 zq=>?_
   obtain ⟨x,H7,I7,r7,y7,st7,fr7⟩:=zq
   have I7':=I7.pinned (fpIn fr7) (Tn.obj _ _ st7)
   have q8:=hg' _ s7 σ5 H7 x u _ I7' r7 (step x H7 y7)
   rw [eP,eW,eA,eX] at q8
   refine Aj q8 fun _ s8 zq=>?_
   obtain ⟨σ8,H8,I8,q8⟩:=zq
   have q9:=ht' _ s8 σ8 H8 _ I8 q8
   rw [eP,eW,eA,eX] at q9
   refine Aj q9 fun ok s9 zq=>?_
   obtain ⟨H9,I9,q9⟩:=zq
   have again:∀{σ10:St}{H10:Hp}{s10:Shared},Inv X' ([]++L9 fp s7.heap) σ10 H10 s10->Nx σ10 H10->∃ m,m < n/\∃ i σ' H',Inv X' [] σ' H' s10/\tn i s10.heap/\(∀ b∈fp,H' b=none)/\W i m σ' H':=fun {σ10 H10 s10} J10 n10=>by
    obtain ⟨m',hm,w10⟩:=hN σ10 H10 n10
    refine ⟨m',hm,i+1,σ10,H10,J10.unpinned,Tn.keep _ _ _ st7 fun b hb o e=>(J10.pin (b,o) (Q9 _ (Q9 _ (Of hb e)))).1,fun b hb=>?_,w10⟩
    obtain ⟨o,e,d⟩:=Tn.obj _ _ st7 b hb
    exact (J10.pin (b,o) (Q9 _ (Q9 _ (Of hb e)))).2.1
   cases ok with
   | false =>
    have q9':Nx σ8 H9:=q9
    exact again I9 q9'
   | true =>
    have q9':te σ8 H9 _:=q9
    have q10:=he' _ s9 σ8 H9 _ I9 q9'
    rw [eP,eW,eA,eX] at q10
    refine Aj q10 fun y s10 zq=>?_
    obtain ⟨yv,H10,I10,r10,ys,hys,hz,n10⟩:=zq
    have q11:=(Dn (X:=X')) _ s10 σ8 H10 (.ref s.heap.objs.size) [yv] (.ref s.heap.objs.size) [y] (fun _ H11=>Nx σ8 H11) I10 rfl (.cons r10 .nil) ⟨_,ys,yv,rfl,rfl,hys,hz,n10⟩
    rw [eP,eW,eA,eX] at q11
    exact Aj q11 fun _ s11 ⟨_,H11,I11,_,n11⟩=>again I11 n11
 rw [eE] at loop
 exact codeAny_compStart_list loop (Tn.self _ 0 _ _ _ st4 loop)
theorem Zsj (hc:X.calm=true)(S:Hy scope X.env)(hi:PI X target iter wi)(T:∀ σ,σ.length=X.N.length->Ge X scope N σ (σ0 σ))
  (hg:∀ C s H fp,PG (Cn X scope C N s H fp) target g) (ht:∀ C s H fp,Ic (Cn X scope C N s H fp) ifs tt) (he:∀ C s H fp,PE (Cn X scope C N s H fp) elt te)
  (hs:∀ x,foldedSetIterable iter X.env x=pure x:=by intro _;rfl):PE X (.ListComp elt [⟨target,iter,ifs,0⟩] scope pos) (Lj wi σ0 g tt te):=by
 intro pins s σ H Q I h
 rw [eval_ListComp]
 refine wpAny_comprehension_free (use:=none) rfl hs (Zem S.free) S.kind S.loc (Aj (hi pins s σ H _ I h) fun xv s₁ h₁=>Aj h₁ fun itv s₂ h₂=>?_)
 obtain ⟨it,fp,tn,J,H2,rfl,I2,Tn,st2,f2,hw⟩:=h₂
 refine Zdo (Q:=fun D H'=>Q (.ref D) H') (RR:=fun acc C=>compPost (model X.prog X.w) X.A X.xe none (EP X pins σ Q) acc C) hc S (T σ I.len) I2 Tn st2 f2 hg ht he hw ?_
 intro D C H' s' m hC _ hn hI hq
 exact ⟨m,hn,fun h' hs'=>⟨.ref D,H',hI h' hs',rfl,hq⟩⟩
theorem Zr9 {i:Nat}{y:Str}{py spos:Pos}(hc:X.calm=true)(S:Hy scope X.env)(hi:PI X target iter wi)(T:∀ σ,σ.length=X.N.length->Ge X scope N σ (σ0 σ))
  (hg:∀ C s H fp,PG (Cn X scope C N s H fp) target g) (ht:∀ C s H fp,Ic (Cn X scope C N s H fp) ifs tt) (he:∀ C s H fp,PE (Cn X scope C N s H fp) elt te)
  (hN:X.N.Nodup) (hy:X.N[i]?=some y) (hx:Ex X.env.scope y)
  (hsw:swapsWith (.ListComp elt [⟨target,iter,ifs,0⟩] scope pos) (some (.Name y py)) spos.line X.env=pure true:=by rfl)
  (hf:X.fn y=true\/X.env.scope.names.lookup y=some .local:=by first | exact .inl rfl | exact .inr rfl | assumption)
  (hs:∀ x,foldedSetIterable iter X.env x=pure x:=by intro _;rfl):PS X (.Assign [.Name y py] (.ListComp elt [⟨target,iter,ifs,0⟩] scope pos) spos) (F3 (Lj wi σ0 g tt te) (Ga i)):=by
 intro pins s σ H D I h
 rw [exec_Assign_Name_used _ _ _ _ hsw]
 refine O1 (Sw (O1 ?_))
 show wpAny _ X.A (do let _ <- comprehension (.ListComp elt [⟨target,iter,ifs,0⟩] scope pos) scope X.env _ (newList []) false (eval iter X.env) (some (assign (.Name y py) X.env))) _ _ s
 refine O1 (Aj (wpAny_comprehension_free (use:=some (assign (.Name y py) X.env)) (Q:=fun _ s'=>SP X pins D .next s') rfl hs (Zem S.free) S.kind S.loc
  (Aj (hi pins s σ H _ I h) fun xv s₁ h₁=>Aj h₁ fun itv s₂ h₂=>?_)) fun _ s' hq=>O2 (O2 hq))
 obtain ⟨it,fp,tn,J,H2,rfl,I2,Tn,st2,f2,hw⟩:=h₂
 refine Zdo (Q:=fun L H'=>D.nx (σ.set i (some (.ref L))) H') (RR:=fun acc C=>compPost (model X.prog X.w) X.A X.xe (some (assign (.Name y py) X.env)) (fun _ s'=>SP X pins D .next s') acc C) hc S (T σ I.len) I2 Tn st2 f2 hg ht he hw ?_
 intro L C H' s' m hC hfree hn hI hq
 have I3:Inv X pins σ H' s':=hI s'.heap (.refl ..)
 refine wpAny_assign_Name (Zfa I3 hN hy hx (v:=.ref L) rfl (fun s4 I4 hch=>?_) hf)
 obtain ⟨a,hsb,ha⟩:=hch
 have haC:C≠a:=by
  rintro rfl
  rcases ha with e | e
  ·have:=I2.lt
   rw [<- e] at this
   exact absurd (Pf this hC) (Q4 _)
  ·obtain ⟨v,z⟩:=I2.cell y _ e
   exact absurd (Pf z.lt hC) (Q4 _)
 refine ⟨m,hn.sameBut hsb haC,fun h' hs'=>⟨_,H',?_,hq⟩⟩
 have e4:({ s4 with heap:=h' }:Shared)={ s4 with heap:=h',toks:=s4.toks }:=rfl
 rw [e4]
 refine I4.turned (it:=C) (fun b o hb e=>(hs'.2 b hb).trans e) hfree ?_ (.inr (P5 I2.sz hC)) ?_ ?_
 ·exact Re (Pf I2.lt hC)
 ·rintro x c e rfl
  obtain ⟨v,z⟩:=I2.cell x _ e
  exact absurd (Pf z.lt hC) (Q4 _)
 ·rintro p hp e
  exact absurd (Pf (O9 (I2.pin p hp).1) (by rw [e];exact hC)) (Q4 _)
end
section
variable {X:Cx}
theorem Zdj {K:O0}{T:String}:Po K (.type T) (.type T)=some true:=by
 unfold Po
 rw [if_pos (by simp)]
theorem Zm0 {K:O0}{T U:String}{b:Bool}{l:List Value}(hm:V3 U=true)(hn:¬ T=U)(hl:fastBuiltinMro T=some l)(hb:l.contains (.type U)=b):Po K (.type T) (.type U)=some b:=by
 unfold Po
 rw [if_neg (by simp [hn])]
 show (if V3 U=true then Pw K (.type T) (.type U) else none)=some b
 rw [if_pos hm]
 show (fastBuiltinMro T).map (·.contains (.type U))=some b
 rw [hl,<- hb]
 rfl
theorem Zms:OpR X (compareOp .LtE) (fun x y H Q=>∃ i j,x=.str i/\y=.str j/\Q (.bl (!(decide (j.cps.toList < i.cps.toList)))) H):=by
 intro pins s σ H x y v u Q I rx ry h
 obtain ⟨i,j,rfl,rfl,q⟩:=h
 obtain ⟨t,rfl⟩:=rx
 obtain ⟨t',rfl⟩:=ry
 exact PySem.P.le_str (Bb I q rfl)
theorem Zsr:OpR X (compareOp .In) (fun x y H Q=>∃(c:Nat)(j:Str),x=.str ⟨#[c]⟩/\y=.str j/\Q (.bl (decide (c∈j.cps.toList))) H):=by
 intro pins s σ H x y v u Q I rx ry h
 obtain ⟨c,j,rfl,rfl,q⟩:=h
 exact Zia pins s σ H _ _ v u Q I rx ry ⟨_,_,rfl,rfl,by rw [StrLaws.found_one];exact q⟩
theorem Zi5:OpR X (compareOp .NotIn) (fun x y H Q=>∃(c:Nat)(j:Str),x=.str ⟨#[c]⟩/\y=.str j/\Q (.bl (!decide (c∈j.cps.toList))) H):=by
 intro pins s σ H x y v u Q I rx ry h
 obtain ⟨c,j,rfl,rfl,q⟩:=h
 exact Zma pins s σ H _ _ v u Q I rx ry ⟨_,_,rfl,rfl,by rw [StrLaws.found_one];exact q⟩
noncomputable def Zbg:V->Option Int->Option Int->Hp->VK->Prop:=fun x lo hi H Q=>∃ z,x=.str z/\z.length<=sizeLine/\Q (.str (Qz z lo hi)) H
theorem sl_str:SlR X Zbg:=by
 intro pins s σ H x v vl vu lo hi sl Q I rx hs pl pu h
 obtain ⟨z,rfl,hz,q⟩:=h
 obtain ⟨t,rfl⟩:=rx
 obtain ⟨o,ho,hc,hd⟩:=hs
 refine ⟨"str",_,slot_str_getitem.lookup,typeIs_str _ _ _,?_⟩
 cases pl with
 | none =>
  cases pu with
  | none=>exact T9 (l:=none) (u:=none) (st:=none) ⟨_,ho,hc,hd⟩ rfl (Up ⟨P5 (Sy z _ _) hz,fun t' k=>⟨.str (Qz z _ _),H,I.tok k,⟨t',rfl⟩,q⟩⟩)
  | int j u=>exact T9 (l:=none) (u:=some (j,u)) (st:=none) ⟨_,ho,hc,hd⟩ rfl (Up ⟨P5 (Sy z _ _) hz,fun t' k=>⟨.str (Qz z _ _),H,I.tok k,⟨t',rfl⟩,q⟩⟩)
 | int i ti =>
  cases pu with
  | none=>exact T9 (l:=some (i,ti)) (u:=none) (st:=none) ⟨_,ho,hc,hd⟩ rfl (Up ⟨P5 (Sy z _ _) hz,fun t' k=>⟨.str (Qz z _ _),H,I.tok k,⟨t',rfl⟩,q⟩⟩)
  | int j u=>exact T9 (l:=some (i,ti)) (u:=some (j,u)) (st:=none) ⟨_,ho,hc,hd⟩ rfl (Up ⟨P5 (Sy z _ _) hz,fun t' k=>⟨.str (Qz z _ _),H,I.tok k,⟨t',rfl⟩,q⟩⟩)
theorem Zgd {z:Str}{lo hi:Option Int}{c:Nat}(h:c∈(Qz z lo hi).cps.toList):c∈z.cps.toList:=by
 unfold Qz at h
 split at h
 ·exact h
 ·obtain ⟨i,_,e⟩:=Vk.mp (by simpa using h)
  exact Pt (by simpa using e)
theorem Ze1:∀{ys:List Str}{us:List Value},Vals (ys.map V.str) us->StrsAre us ys
 | [],_,.nil=>.nil
 | y::ys,_,.cons r t=>by
  obtain ⟨tk,rfl⟩:=r
  exact .cons y tk (Ze1 t)
noncomputable def Zcf (K:O0):V->List V->Hp->VK->Prop:=fun x vs H Q=>∃ sep p ys,x=.str sep/\vs=[.ref p]/\SqL K H p (ys.map V.str)/\(ys.map (·.length)).sum+ys.length * sep.length<=16777216/\Q (.str (Q7 sep ys)) H
theorem Zqm:Fd X "str.join" (Zcf X.K):=by
 intro pins s σ H x vs v us Q I rx rv h
 obtain ⟨sep,p,ys,rfl,rfl,hq,hz,q⟩:=h
 obtain ⟨t,rfl⟩:=rx
 obtain ⟨u,rfl,ru⟩:=rv.one
 cases ru
 obtain ⟨its,r,pl,_⟩:=I.list hq
 exact join_list pl.isList (by simpa using Ze1 r) hz fun t' k=>⟨.str (Q7 sep ys),H,I.tok k,⟨t',rfl⟩,q⟩
theorem Zf3:∀{ys:List Str}{c:Nat},c∈(Str.join Py ys).cps.toList->∃ y∈ys,c∈y.cps.toList
 | [],c,h=>by simp [Str.join,Py] at h
 | [y],c,h=>⟨y,P8.mpr rfl,h⟩
 | y::z::r,c,h=>by
  have h:c∈((y++Py)++Str.join Py (z::r)).cps.toList:=h
  have e:∀ a b:Str,(a++b).cps.toList=a.cps.toList++b.cps.toList:=fun a b=>by
   show (a.cps++b.cps).toList=_
   simp
  rw [e,e] at h
  rcases P4.mp h with h | h
  ·rcases P4.mp h with h | h
   ·exact ⟨y,Sb,h⟩
   ·simp [Py] at h
  ·obtain ⟨w,hw,hc⟩:=Zf3 h
   exact ⟨w,Q0 _ hw,hc⟩
theorem Zj3 {ys:List Str}{c:Nat}(h:c∈(Q7 Py ys).cps.toList):∃ y∈ys,c∈y.cps.toList:=by
 unfold Q7 at h
 rw [StrLaws.glued_eq_join] at h
 exact Zf3 h
end
noncomputable def Its (z:Str):It:=⟨fun i _=>i < z.cps.size,fun i H x H'=>H'=H/\∃ c,z.cps.toList[i]?=some c/\x=.str ⟨#[c]⟩,fun i _=>i=z.cps.size⟩
theorem Zq6 (z:Str):["enumerate", "zip", "dict_itemiterator", "dict_reverseitemiterator", "odict_iterator", "itertools.zip_longest", "itertools.pairwise"].contains (strIterType z)=false:=by
 unfold strIterType
 cases z.cps.all (· < 128) <;> decide
theorem Zgt {P:Program}{w:World}{A:Around}(hh:A.handled=none)(it:Addr)(z:Str)(t:Tok):Walks P w A it [it] [it] z.cps.size (SignAt z) (fun i h=>h.IsStrIter it (strIterType z) z t i):=by
 unfold strIterType
 cases z.cps.all (· < 128)
 ·exact Walks.strWide hh it z t
 ·exact Walks.strAscii hh it z t
theorem Zrg {P:Program}{w:World}{K:O0}{tg:Expr}(it:Addr)(z:Str)(t:Tok):E7 P w K tg (Its z) [it] it (fun i h=>h.IsStrIter it (strIterType z) z t i) where
 mem:=by simp
 obj:=fun i h st b hb=>by
  have e:b=it:=by simpa using hb
  subst e
  obtain ⟨o,e,c,d⟩:=st
  exact ⟨o,e,fun v z=>by rw [d] at z;cases z⟩
 keep:=fun i h h' st k=>let ⟨o,e,r⟩:=st;⟨o,k it (by simp) o e,r⟩
 item:=by
  intro X hP hw hK hc i pins s σ H E I hf st hg
  subst hP hw hK
  obtain ⟨f0,f1,f2,f3,f4,f5⟩:=hf it (by simp)
  refine (Zgt (P:=X.prog) (w:=X.w) (I.ok.hd hc) it z t).item i s _ _ hg st fun v h' tk hv st' kk=>?_
  obtain ⟨c,u,hcu,rfl⟩:=hv
  have I1:Inv X pins σ H { s with heap:=h',toks:=tk }:=I.turned (fun b o hb e=>kk b o (by simpa using hb) e) f0 f1 f3 f4 f5
  obtain ⟨o,e,cc,d⟩:=id st'
  exact ⟨_,rfl,Ie (s:={ s with heap:=h',toks:=tk }) e cc d (Zq6 z) ⟨.str ⟨#[c]⟩,H,I1,⟨u,rfl⟩,⟨rfl,c,by simpa using hcu,rfl⟩,st',fun b hb=>(hf b hb).1⟩⟩
 done:=by
  intro X hP hw hK hc i pins s σ H E I hf st hg
  subst hP hw hK
  obtain ⟨f0,f1,f2,f3,f4,f5⟩:=hf it (by simp)
  have hg:i=z.cps.size:=hg
  subst hg
  exact (Zgt (P:=X.prog) (w:=X.w) (I.ok.hd hc) it z t).done s _ _ st fun h' tk kk=>⟨rfl,I.turned (fun b o hb e=>kk b o (by simpa using hb) e) f0 f1 f3 f4 f5⟩
 self:=fun A i s Q E st h=>by
  obtain ⟨o,e,c,d⟩:=st
  unfold strIterType at c
  cases ha:z.cps.all (· < 128)
  ·rw [ha] at c;exact wpAny_pyIter_striter_wide ⟨o,e,c,d⟩ h
  ·rw [ha] at c;exact wpAny_pyIter_striter_ascii ⟨o,e,c,d⟩ h
section
variable {X:Cx}{tg:Expr}
end
section
variable {g:TG}{tt:TT}{te:TE}{σ0:St}{H1:Hp}{D:Addr}{Q:VK}
noncomputable def Zao (g:TG)(tt:TT)(te:TE)(D:Addr)(Nx:List V->St->Hp->Prop)(x:V)(σ:St)(H:Hp):Prop :=
 g x σ H fun σ2 H3=>tt σ2 H3 fun b H4=>if b=true then te σ2 H4 fun y H5=>∃ ys,H5 D=some (.lst ys)/\ys.length < sizeLine/\(∃ zs,upd H5 D (.lst (ys++[y])) D=some (.lst zs)/\Nx zs σ2 (upd H5 D (.lst (ys++[y])))) else ∃ zs,H4 D=some (.lst zs)/\Nx zs σ2 H4
theorem Ik {lo:Int}{n:Nat}(Pv:Nat->List V->St->Hp->Prop)(h0:Pv 0 [] σ0 (upd H1 D (.lst [])))
  (hs:∀ i ys σ H,i < n->H D=some (.lst ys)->Pv i ys σ H->Zao g tt te D (Pv (i+1)) (.int (lo+i)) σ H)
  (hd:∀ ys σ H,H D=some (.lst ys)->Pv n ys σ H->Q (.ref D) H):Oa (Gg lo n) g tt te σ0 H1 D Q:=by
 refine ⟨fun i m σ H=>m=n - i/\i<=n/\∃ ys,H D=some (.lst ys)/\Pv i ys σ H,⟨n,by simp,Qb _,[],Ad,h0⟩,?_⟩
 rintro i m σ H ⟨rfl,hi,ys,hD,p⟩
 by_cases hlt:i < n
 ·refine .inr ⟨hlt,fun σ2 H2=>∃ zs,H2 D=some (.lst zs)/\Pv (i+1) zs σ2 H2,fun σ' H' p'=>⟨n - (i+1),by omega,rfl,hlt,p'⟩,fun x H' y=>?_⟩
  obtain ⟨e,y⟩:=y
  subst e y
  exact hs i ys σ _ hlt hD p
 ·have e:i=n:=by omega
  subst e
  exact .inl ⟨O3 _,hd ys σ H hD p⟩
theorem Zbv {z:Str}(Pv:Nat->List V->St->Hp->Prop)(h0:Pv 0 [] σ0 (upd H1 D (.lst [])))
  (hs:∀ i c ys σ H,z.cps.toList[i]?=some c->H D=some (.lst ys)->Pv i ys σ H->Zao g tt te D (Pv (i+1)) (.str ⟨#[c]⟩) σ H)
  (hd:∀ ys σ H,H D=some (.lst ys)->Pv z.cps.size ys σ H->Q (.ref D) H):Oa (Its z) g tt te σ0 H1 D Q:=by
 refine ⟨fun i m σ H=>m=z.cps.size - i/\i<=z.cps.size/\∃ ys,H D=some (.lst ys)/\Pv i ys σ H,⟨z.cps.size,by simp,Qb _,[],Ad,h0⟩,?_⟩
 rintro i m σ H ⟨rfl,hi,ys,hD,p⟩
 by_cases hlt:i < z.cps.size
 ·refine .inr ⟨hlt,fun σ2 H2=>∃ zs,H2 D=some (.lst zs)/\Pv (i+1) zs σ2 H2,fun σ' H' p'=>⟨z.cps.size - (i+1),by omega,rfl,hlt,p'⟩,fun x H' y=>?_⟩
  obtain ⟨e,c,hc,y⟩:=y
  subst e y
  exact hs i c ys σ _ hc hD p
 ·have e:i=z.cps.size:=by omega
  subst e
  exact .inl ⟨rfl,hd ys σ H hD p⟩
end
section
variable {X:Cx}
theorem Zgx:∀{bs:List Bool}{us:List Value},Vals (bs.map V.bl) us->us=bs.map Value.bool
 | [],_,.nil=>rfl
 | b::bs,_,.cons r t=>by
  cases r
  rw [Zgx t]
  rfl
theorem Zq0 {bs:List Bool}:(Pj bs.length).all (fun i=>bs.getD i true)=bs.all id:=by
 induction bs with
 | nil=>rfl
 | cons b r ih =>
  rw [Pr,List.range_succ_eq_map,Si,List.all_map,Si]
  have:((fun i=>(b::r).getD i true) ∘ Nat.succ)=fun i=>r.getD i true:=by
   funext i
   simp
  rw [this,ih]
  rfl
theorem Zt8 (hc:X.calm=true):Cm X (.builtin "all") (fun xs H Q=>∃(p:Addr)(bs:List Bool),xs=[.ref p]/\SqL X.K H p (bs.map V.bl)/\Q (.bl (bs.all id)) H):=by
 intro pins s σ H xs us Q I r h
 obtain ⟨p,bs,rfl,hq,q⟩:=h
 obtain ⟨u,rfl,ru⟩:=r.one
 cases ru
 obtain ⟨its,rv,pl,hz⟩:=I.list hq
 obtain rfl:=Zgx rv
 refine call_all_walk (Vq pl.isList ?_)
 have hlt:p < s.heap.objs.size:=by obtain ⟨o,e,_⟩:=pl.isList;exact O9 e
 have hl':(s.heap.push { cls:=.type "list_iterator",data:=.fields #[.ref p,rawInt 0] }).IsList p (bs.map Value.bool).toArray:=pl.isList.at fun o e=>O6 _ e
 refine ⟨s.heap.objs.size,_,_,_,_,_,fun i=>bs.getD i true,rfl,Walks.list (A:=X.A.in1) (show X.A.in1.handled=none from I.ok.hd hc) s.heap.objs.size p (Pg hlt) (bs.map Value.bool).toArray,⟨⟨_,Pe _ rfl,rfl,rfl⟩,?_⟩,?_,?_⟩
 ·exact pl.isList.at fun o e=>O6 _ e
 ·intro i v s' Q' E' hv hQ
  have hv':(bs.map Value.bool)[i]?=some v:=by simpa using hv
  rw [Sf] at hv'
  cases e:bs[i]? with
  | none=>rw [e] at hv';cases hv'
  | some b =>
   rw [e] at hv'
   cases hv'
   have:bs.getD i true=b:=by simp [List.getD,e]
   have hQ:Q' (bs.getD i true) s':=hQ
   rw [this] at hQ
   exact Q1 hQ
 ·intro h' tk hk
  have I1:Inv X pins σ H { s with heap:=s.heap.push { cls:=.type "list_iterator",data:=.fields #[.ref p,rawInt 0] } }:=I.kept (t':=s.toks) fun b o e=>O6 _ e
  have F:=I.fpOk (O3 s.heap.objs.size) (I.hok.fresh (O3 _))
  obtain ⟨f0,f1,f2,f3,f4,f5⟩:=F
  have I2:Inv X pins σ H { s with heap:=h',toks:=tk }:=Inv.turned (s:={ s with heap:=s.heap.push { cls:=.type "list_iterator",data:=.fields #[.ref p,rawInt 0] } }) (h':=h') (t':=tk) (it:=s.heap.objs.size) I1 (fun b o hb e=>hk b o (by simpa using hb) e) f0 f1 f3 f4 f5
  refine ⟨.bl (bs.all id),H,I2,?_,q⟩
  show Value.bool _=Value.bool _
  have:(bs.map Value.bool).toArray.size=bs.length:=by simp
  rw [this,Zq0]
end
theorem Same.upd {H:Hp}{p:Addr}{o:HO}(h:H p=none):Same H (upd H p o):=fun b u e=>by rw [Au (Bz e h)];exact e
theorem newQ {H:Hp}{a:Addr}(h:H a=none)(o:HO):∃ H1,Same H H1/\H1 a=some o/\upd H a o=H1:=⟨_,Same.upd h,Ad,rfl⟩
theorem Same.put {H0 H:Hp}{p:Addr}{o:HO}(s:Same H0 H)(h:H p=none):Same H0 (L2.upd H p o):=s.trans (Same.upd h)
theorem Same.over {H0 H:Hp}{p:Addr}{o:HO}(s:Same H0 H)(h:H0 p=none):Same H0 (L2.upd H p o):=fun b u e=>by rw [Au (Bz e h)];exact s b u e
theorem Same.tup {K:O0}{H H':Hp}{a:Addr}{xs:List V}(e:Same H H')(h:SqT K H a xs):SqT K H' a xs:=by
 rcases h with (h | ⟨o,h⟩) | h
 ·exact .inl (.inl (e _ _ h))
 ·exact .inl (.inr ⟨o,e _ _ h⟩)
 ·exact .inr h
theorem E5 {sc out:Scope}{qual:Str}{n:Nat}{f:Addr}{cd:Value}(hk:sc.kind=.function)(hc:(sc.names.all fun y=>y.2 != .cell)=true)
  (hl:(sc.names.all fun y=>y.2 != .local || sc.names.lookup y.1 == some .local)=true) (hf:(sc.names.all fun y=>y.2 != .free || out.names.lookup y.1 == some .cell)=true):Hy sc (envOfC qual out n f cd) where
 kind:=hk
 nocell:=fun y hy e=>by have:=P3.mp hc y hy;rw [e] at this;cases this
 loc:=fun y hy e=>by
  have:=P3.mp hl y hy
  rw [e] at this
  simpa using this
 free:=fun y hy e=>by
  have h:=P3.mp hf y hy
  rw [e] at h
  have h:out.names.lookup y.1=some .cell:=by simpa using h
  obtain ⟨c,hc⟩:=Zci (n:=n+1) h
  show ((cellsFrom (n+1) out.names []).lookup y.1).isSome=true
  rw [hc]
  rfl
noncomputable def Df (k:Nat)(cap:List Nat)(σ:St):St:=Pa k none++cap.map fun j=>(σ[j]?).join
theorem Zuc {X:Cx}{scope:Scope}{N:List Str}{k:Nat}{cap:List Nat}{σ:St}(hl:k+cap.length=N.length)
  (h:∀(i j:Nat)(x:Str),cap[i]?=some j->N[k+i]?=some x->X.N[j]?=some x/\scope.names.lookup x=some .free/\(X.env.kindOf x=some .cell\/X.env.kindOf x=some .free)):Ge X scope N σ (Df k cap σ):=by
 refine ⟨by unfold Df;simp [hl],fun i x v hx hv=>?_⟩
 unfold Df at hv
 by_cases hi:i < k
 ·rw [Q8 (by simpa using hi),List.getElem?_replicate,if_pos hi] at hv
  cases hv
 ·rw [Rh (by simpa using hi),Rj,Sf] at hv
  cases hj:cap[i - k]? with
  | none=>rw [hj] at hv;cases hv
  | some j =>
   rw [hj] at hv
   have hv:(σ[j]?).join=some v:=Pu hv
   obtain ⟨h1,h2,h3⟩:=h (i - k) j x hj (by rw [show k+(i - k)=i by omega];exact hx)
   refine ⟨j,h1,?_,h2,h3⟩
   cases e:σ[j]? with
   | none=>rw [e] at hv;cases hv
   | some o=>rw [e] at hv;exact congrArg some hv
theorem Fe {X:Cx}{scope:Scope}{N:List Str}{k:Nat}{cap:List Nat}(hl:k+cap.length=N.length)
  (h:((cap.zip (N.drop k)).all fun p=>X.N[p.1]? == some p.2 && scope.names.lookup p.2 == some .free && (X.env.kindOf p.2 == some .cell || X.env.kindOf p.2 == some .free))=true):∀ σ,σ.length=X.N.length->Ge X scope N σ (Df k cap σ):=fun σ _ =>
 Zuc hl fun i j x hj hx=>by
  have m:(j,x)∈cap.zip (N.drop k):=by
   refine Pt (i:=i) ?_
   rw [List.getElem?_zip_eq_some]
   exact ⟨hj,by rw [List.getElem?_drop];exact hx⟩
  have:=P3.mp h _ m
  simp only [Qk,Bool.or_eq_true,beq_iff_eq] at this
  exact ⟨this.1.1,this.1.2,this.2⟩
theorem Dy {α:Type}{xs:List α}{i:Int}(h0:0<=i)(h1:i < xs.length):∃ v,Bl xs i=some v/\v∈xs:=by
 have hj:i.toNat < xs.length:=by omega
 refine ⟨xs[i.toNat],?_,List.getElem_mem hj⟩
 have:=Kn (xs:=xs) (j:=i.toNat) (v:=xs[i.toNat]) (by simp [hj])
 rwa [Vg h0] at this
noncomputable def Zb4:Expr->Option V
 | .Constant (.str x) _ _=>some (.str x)
 | .Constant (.int i) _ _=>some (.int i)
 | .Constant (.bool b) _ _=>some (.bl b)
 | .Constant .none _ _=>some .non
 | _=>none
noncomputable def Og:List Expr->Option (List V)
 | []=>some []
 | e::es=>match Zb4 e,Og es with
  | some v,some vs=>some (v::vs)
  | _,_=>none
noncomputable def Zbs (xs:List V):TA:=fun _ H Q=>Q xs H
theorem Zl0 {X:Cx}{e:Expr}{v:V}(h:Zb4 e=some v):PE X e (tC v)/\∀ es,starEach (e::es) X.env=(false,eval e X.env)::starEach es X.env:=by
 unfold Zb4 at h
 split at h
 ·cases h;exact ⟨Zgm,fun _=>rfl⟩
 ·cases h;exact ⟨Zdu,fun _=>rfl⟩
 ·cases h;exact ⟨Zfy,fun _=>rfl⟩
 ·cases h;exact ⟨Zg6,fun _=>rfl⟩
 ·cases h
theorem Zff {X:Cx}:∀{es:List Expr}{xs:List V},Og es=some xs->PA X es (Zbs xs)
 | [],xs,h=>by
  have h:some []=some xs:=h
  cases h
  exact Ze9
 | e::es,xs,h=>by
  unfold Og at h
  split at h
  ·rename_i v vs h1 h2
   cases h
   obtain ⟨p,hs⟩:=Zl0 (X:=X) h1
   exact Zg0 p (Zff h2) (hs es)
  ·cases h
structure A4 (P:Program)(w:World)(K:O0)(mg:Str->Option Value)(base:Heap)(k:Nat)(x:Str)(ps:List Str)(sp:Sp):Prop where
 ex:∃(f:Addr)(fd:FuncData),Ao P w K mg base Aq k f fd ps sp/\mg x=some (.ref f)/\Ph K (.ref f)=true/\Binds K fd ps []
section
variable {X:Cx}{k:Nat}{x:Str}{ps:List Str}{sp:Sp}{p pos:Pos}{e:Expr}{es:List Expr}{t:TA}
theorem Znq (C:A4 X.prog X.w X.K X.mg X.base k x ps sp)(hr:Room k X.A)(ha:PA X (e::es) t)(hg:Gl X x:=by rfl)(hdb:(x == ("__debug__" : Str))=false:=by decide)
  (he:starEach (e::es) X.env=(false,eval e X.env)::starEach es X.env:=by rfl) (hpl:(backTo pos (starEach es X.env)).any (·.1)=false:=by rfl):PE X (.Call (.Name x p) (e::es) [] pos) (Go sp [] E0 t):=by
 obtain ⟨f,fd,F,hm,hk,hb⟩:=C.ex
 exact Zej F hr hg hm hk hb .nil C4 ha hdb he hpl
end
end L2
namespace L2
open PySem
theorem Zjv {x:V}{u:Value}(h:Nz u=some x):RelV x u:=by
 cases u <;> simp only [Nz] at h <;> first | (cases h;first | rfl | exact ⟨_,rfl⟩) | cases h
noncomputable def Hu:List Value->Option (List V)
 | []=>some []
 | u::r=>match Nz u,Hu r with
  | some x,some xs=>some (x::xs)
  | _,_=>none
theorem Zdr:∀{us:List Value}{xs:List V},Hu us=some xs->Vals xs us
 | [],xs,h=>by
  have h:some []=some xs:=h
  cases h
  exact .nil
 | u::r,xs,h=>by
  unfold Hu at h
  split at h
  ·rename_i x ys h1 h2
   cases h
   exact .cons (Zjv h1) (Zdr h2)
  ·cases h
theorem Zb7 {K:O0}{a:Addr}{od:Option Addr}{its:Array Value}{n:Nat}{sl:Array (Option Value)}{xs:List V}(l:K.lookup a=some ⟨.type "tuple",od,.seq its n,sl⟩)(h:Hu its.toList=some xs)(hz:xs.length<=1000):∀ H,SqT K H a xs:=fun H=>by
 have v:=Zdr h
 refine .inr ⟨_,its,n,l,rfl,rfl,?_,v⟩
 have e:=v.length
 have b:1000<=sizeLine:=by decide
 have e2:its.toList.length=its.size:=Th
 omega
theorem Zsv {P:Program}{w:World}{K:O0}{mg:Str->Option Value}{base:Heap}{k:Nat}{x:Str}{ps:List Str}{sp:Sp}{f:Addr}{fd:FuncData}(F:Ao P w K mg base Aq k f fd ps sp)(m:mg x=some (.ref f))(kp:Ph K (.ref f)=true)(b:Binds K fd ps []):A4 P w K mg base k x ps sp:=⟨f,fd,F,m,kp,b⟩
section
variable {P:Program}{w:World}{K:O0}{mg:Str->Option Value}{base:Heap}
end
end L2
set_option autoImplicit true
namespace L2
open PySem PySem.Spec PyProof.Rows
structure QE (X:Cx)(e:Expr)(t:TE):Prop where
 run:PE X e t
structure QT (X:Cx)(e:Expr)(t:TT):Prop where
 run:PT X e t
structure QW (X:Cx)(e:Expr)(t:TT):Prop where
 run:PW X e t
structure QA (X:Cx)(es:List Expr)(t:TA):Prop where
 run:PA X es t
structure QS (X:Cx)(st:Stmt)(t:TS):Prop where
 run:PS X st t
structure Dm (X:Cx)(sts:List Stmt)(t:TS):Prop where
 run:PSs X sts t
structure QG (X:Cx)(e:Expr)(g:TG):Prop where
 run:PG X e g
structure QGs (X:Cx)(es:List Expr)(g:D0):Prop where
 run:PGs X es g
structure QI (X:Cx)(tg iter:Expr)(wi:TI):Prop where
 run:PI X tg iter wi
structure QC (X:Cx)(op:CmpOp)(a b:Expr)(t:TE):Prop where
 run:PC X op a b t
structure QO (X:Cx)(e:Option Expr)(t:TO):Prop where
 run:PO X e t
structure QTs (X:Cx)(ifs:List Expr)(t:TT):Prop where
 run:Ic X ifs t
theorem Ab {i j pos}:QE X (.Constant (.int i) j pos) (tC (.int i)):=⟨Zdu⟩
theorem Dg {b j pos}:QE X (.Constant (.bool b) j pos) (tC (.bl b)):=⟨Zfy⟩
theorem C0 {j pos}:QE X (.Constant .none j pos) (tC .non):=⟨Zg6⟩
theorem An {x j pos}:QE X (.Constant (.str x) j pos) (tC (.str x)):=⟨Zgm⟩
theorem Mp {x:Str}{v:V}{u:Value}{pos:Pos}(hg:Gl X x)(hm:X.mg x=some u)(r:RelV v u)(hd:(x == ("__debug__" : Str))=false:=by decide):QE X (.Name x pos) (tC v):=⟨Zfm hg hm r hd⟩
theorem Eu {x:Str}{v:V}{u:Value}{pos:Pos}(hg:Gl X x)(hm:X.mg x=none)(hv:bootBuiltins x=some u)(r:RelV v u)(hn:x ≠ "__name__" := by decide)(hd:(x == ("__debug__" : Str))=false:=by decide):QE X (.Name x pos) (tC v):=⟨Zsw hg hm hv r hn hd⟩
theorem Ah {op:Operator}{r:R2}(ho:OpR X (binaryOp op) r)(ha:QE X a ta)(hb:QE X b tb):QE X (.BinOp a op b pos) (Dl r ta tb):=⟨Zt3 ho ha.run hb.run⟩
theorem Fq {op:UnaryOp}{r:V->Hp->VK->Prop}(ho:UnR X (unaryOp op) r)(ha:QE X a ta):QE X (.UnaryOp op a pos) (tUn r ta):=⟨Zp0 ho ha.run⟩
theorem Zq9 {op:CmpOp}{t:TE}(h:QC X op a b t)(h1:behindInMarks op b=false:=by first | exact Oh _ (by decide) (by decide) | rfl):QE X (.Compare a [op] [b] pos) t:=⟨Zje h.run h1⟩
theorem E6 {op:CmpOp}{t:TE}(h:QC X op a b t)(h1:behindInMarks op b=false:=by first | exact Oh _ (by decide) (by decide) | rfl):QT X (.Compare a [op] [b] pos) (tB t):=⟨Zqg h.run h1⟩
theorem Co {op:CmpOp}{r:R2}(ho:OpR X (compareOp op) r)(ha:QE X a ta)(hb:QE X b tb)(hm:behindInMarks op b=false):QE X (.Compare a [op] [b] pos) (Dl r ta tb):=⟨Zkj ho ha.run hb.run hm⟩
theorem Ay {op:CmpOp}{r:R2}(ho:OpR X (compareOp op) r)(ha:QE X a ta)(hb:QE X b tb)(hm:behindInMarks op b=false):QT X (.Compare a [op] [b] pos) (Kb (Dl r ta tb)):=⟨Zse ho ha.run hb.run hm⟩
theorem Zch {op op':CmpOp}{r r':R2}(ho:OpR X (compareOp op) r)(ho':OpR X (compareOp op') r')(ha:QE X a ta)(hb:QE X b tb)(hc:QE X c tc)(hm:lastMarks [op,op'] [b,c]=false:=by with_unfolding_all rfl):QE X (.Compare a [op,op'] [b,c] pos) (J9 r r' ta tb tc):=⟨Zqp ho ho' ha.run hb.run hc.run hm⟩
theorem Op {op op':CmpOp}{r r':R2}(ho:OpR X (compareOp op) r)(ho':OpR X (compareOp op') r')(ha:QE X a ta)(hb:QE X b tb)(hc:QE X c tc)(hm:lastMarks [op,op'] [b,c]=false:=by with_unfolding_all rfl):QT X (.Compare a [op,op'] [b,c] pos) (Kb (J9 r r' ta tb tc)):=⟨Ztj ho ho' ha.run hb.run hc.run hm⟩
theorem Cb {e:Expr}{t:TE}(h:QE X e t)(he:∀ whole,isTrue e X.env whole=(do let v <- whole;standAt e.pos;holding [v] (truthy v)):=by intro _;rfl):QT X e (tB t):=⟨Zku h.run he⟩
theorem Gq (ha:QT X a tA):QW X (.BoolOp .And [a] pos) tA:=⟨pw_and1 ha.run⟩
theorem Es (ha:QT X a tA):QW X (.BoolOp .Or [a] pos) tA:=⟨pw_or1 ha.run⟩
theorem Fg {rest:List Expr}(ha:QT X a tA)(hb:QW X (.BoolOp .And (b::rest) pos) tB'):QW X (.BoolOp .And (a::b::rest) pos) (Zar tA tB'):=⟨pw_and ha.run hb.run⟩
theorem Ek {rest:List Expr}(ha:QT X a tA)(hb:QW X (.BoolOp .Or (b::rest) pos) tB'):QW X (.BoolOp .Or (a::b::rest) pos) (tOr tA tB'):=⟨pw_or ha.run hb.run⟩
theorem Cf (ha:QT X a tA):QT X (.UnaryOp .Not a pos) (Zbi tA):=⟨Zne ha.run⟩
theorem D6 {op}{t:TE}(h:QE X a t):QE X (.BoolOp op [a] pos) t:=⟨Zkk h.run⟩
theorem Dp {rest:List Expr}(ha:QE X a ta)(hb:QE X (.BoolOp .And (b::rest) pos) tb):QE X (.BoolOp .And (a::b::rest) pos) (Le ta tb):=⟨Zo5 ha.run hb.run⟩
theorem Zgz {rest:List Expr}(ha:QE X a ta)(hb:QE X (.BoolOp .Or (b::rest) pos) tb):QE X (.BoolOp .Or (a::b::rest) pos) (Zcm ta tb):=⟨Ztx ha.run hb.run⟩
theorem Zag (ha:QE X a ta):QE X (.UnaryOp .Not a pos) (Zcu ta):=⟨Zi2 ha.run⟩
theorem Av  : Dm X [] Zbw:=⟨Zlk⟩
theorem Ag {st:Stmt}{rest:List Stmt}{t u:TS}(h1:QS X st t)(h2:Dm X rest u):Dm X (st::rest) (Zc7 t u):=⟨Zsg h1.run h2.run⟩
theorem Af {st:Stmt}{t:TS}(h1:QS X st t):Dm X [st] t:=⟨Zs3 h1.run⟩
theorem Ce {e:Expr}{te:TE}(he:QE X e te)(hs:swapsWith e none pos.line X.env=pure false:=by rfl):QS X (.Expr e pos) (Zdc te):=⟨Ziz he.run hs⟩
theorem Ak {e:Expr}{te:TE}(he:QE X e te):QS X (.Return (some e) pos) (Zcx te):=⟨Zq1 he.run⟩
theorem Ar {t u:TS}{c:Expr}{a b:List Stmt}{tc:TT}(hc:QT X c tc)(ha:Dm X a t)(hb:Dm X b u):QS X (.If c a b pos) (F8 tc t u):=⟨Zpc hc.run ha.run hb.run⟩
theorem Gf  : QGs X [] Zb5:=⟨Zub⟩
theorem Cw {e:Expr}{es:List Expr}{t:TG}{u:D0}(h1:QG X e t)(h2:QGs X es u)(hs:(assignEach (e::es) X.env).map (·.2)=assign e X.env::(assignEach es X.env).map (·.2):=by rfl):QGs X (e::es) (Zc2 t u):=⟨Zr0 h1.run h2.run hs⟩
theorem A9 {i:Nat}{x:Str}(hN:X.N.Nodup)(hi:X.N[i]?=some x)(hx:Ex X.env.scope x)(hf:X.fn x=true\/X.env.scope.names.lookup x=some .local:=by first | exact .inl rfl | exact .inr rfl | assumption):QG X (.Name x pos) (Ga i):=⟨Zjk hN hi hx hf⟩
theorem Zuf {es:List Expr}{k:Nat}{t:D0}{n:Nat}(hc:X.calm=true)(h:QGs X es t)(hn:(assignEach es X.env).length=n:=by rfl)(hst:(assignEach es X.env).findIdx? (·.1)=none:=by rfl):QG X (.Tuple es k pos) (Na X.K n t):=⟨Ztf hc h.run hn hst⟩
theorem Zhw {o i:Expr}{to ti:TE}{t:Kr}(ho:QE X o to)(hi:QE X i ti)(hs:Zbj X t)(ha:∀ v,assign (.Subscript o i pos) X.env v=(do
   let ov <- holding [v] (eval o X.env)
   let iv <- holding [v,ov] (eval i X.env)
   standAt pos
   holding [v,ov,iv] (setItem ov iv v)
   release [v,ov,iv] []):=by intro _;rfl):QG X (.Subscript o i pos) (Zdd to ti t):=⟨Ztd ho.run hi.run hs ha⟩
theorem Hn {tg e:Expr}{te:TE}{g:TG}(he:QE X e te)(hg:QG X tg g)(hs:swapsWithSole [tg] e pos.line X.env=pure false:=by rfl)(hw:swappedStores [tg] e X.env=pure none:=by rfl)(h1:(assignEach [tg] X.env).map (·.2)=[assign tg X.env]:=by rfl):QS X (.Assign [tg] e pos) (F3 te g):=⟨Zkc he.run hg.run hs hw h1⟩
theorem Zht {i:Nat}{x:Str}{e:Expr}{te:TE}{pos':Pos}(hN:X.N.Nodup)(hi:X.N[i]?=some x)(hx:Ex X.env.scope x)(he:QE X e te)(hs:swapsWith e (some (.Name x pos')) pos.line X.env=pure false:=by rfl)(hf:X.fn x=true\/X.env.scope.names.lookup x=some .local:=by first | exact .inl rfl | exact .inr rfl | assumption):QS X (.Assign [.Name x pos'] e pos) (F3 te (Ga i)):=⟨Zkh hN hi hx he.run hs hf⟩
theorem Zfq {c:Expr}{body:List Stmt}{tc:TT}{tb:TS}(hp:PassesOwn (model X.prog X.w) X.A X.env X.xe)(hc:QT X c tc)(hb:Dm X body tb):QS X (.While c body [] pos) (Zfi tc tb):=⟨Zkq hp hc.run hb.run⟩
theorem Ez {a:Expr}{ta:TA}{p pos:Pos}(hg:Gl X "range")(hm:X.mg "range" = none)(ha:QA X [a] ta)(hs:starEach [a] X.env=[(false,eval a X.env)]:=by rfl):QI X tg (.Call (.Name "range" p) [a] [] pos) (Zax ta):=⟨Zk8 hg hm ha.run hs⟩
theorem C6 {iter:Expr}{body:List Stmt}{wi:TI}{g:TG}{tb:TS}{pos:Pos}(hp:PassesOwn (model X.prog X.w) X.A X.env X.xe)(hc:X.calm=true)(hi:QI X tg iter wi)(hg:QG X tg g)(hb:Dm X body tb)(hs:∀ x,foldedSetIterable iter X.env x=pure x:=by intro _;rfl):QS X (.For tg iter body [] pos) (Zc4 wi g tb):=⟨Zie hp hc hi.run hg.run hb.run hs⟩
theorem Zoy (he:QE X e ta)(hb:attributeBase e f X.env (eval e X.env)=eval e X.env):QE X (.Attribute e f pos) (Zbz X.K ta f):=⟨Zr5 he.run hb⟩
theorem Zn3 (ha:QE X o ta)(hv:QE X value tv)(hs:swapsWith value (some (.Attribute o f pos')) pos.line X.env=pure false):QS X (.Assign [.Attribute o f pos'] value pos) (Zb0 X.K ta tv f):=⟨Zpv ha.run hv.run hs⟩
theorem Ac  : QA X [] E2:=⟨Ze9⟩
theorem Aa (ha:QE X e te)(hr:QA X es t)(hs:starEach (e::es) X.env=(false,eval e X.env)::starEach es X.env:=by rfl):QA X (e::es) (F9 te t):=⟨Zg0 ha.run hr.run hs⟩
theorem A0 {x1}(h:QA X es t):QE X (.Tuple es x1 pos) (Zb8 t):=⟨Zpj h.run⟩
theorem Bv (h:QA X es t):QE X (.List es pos) (Om t):=⟨Zl7 h.run⟩
theorem A1 (C:A4 X.prog X.w X.K X.mg X.base k x ps sp)(hr:Room k X.A)(ha:QA X (e::es) t)(hg:Gl X x:=by rfl)(hdb:(x == ("__debug__" : Str))=false:=by decide)(he:starEach (e::es) X.env=(false,eval e X.env)::starEach es X.env:=by rfl)(hpl:(backTo pos (starEach es X.env)).any (·.1)=false:=by rfl):QE X (.Call (.Name x p) (e::es) [] pos) (Go sp [] E0 t):=⟨Znq C hr ha.run hg hdb he hpl⟩
theorem Bd {id:String}(hc:Cm X (.builtin id) r)(hg:Gl X x)(hm:X.mg x=none)(hv:bootBuiltins x=some (.builtin id))(ha:QA X (e::es) t)(hn:x ≠ "__name__" := by decide)(hdb:(x == ("__debug__" : Str))=false:=by decide)(he:starEach (e::es) X.env=(false,eval e X.env)::starEach es X.env:=by rfl)(hpl:(backTo pos (starEach es X.env)).any (·.1)=false:=by rfl):QE X (.Call (.Name x p) (e::es) [] pos) (Jm r t):=⟨Zos hc hg hm hv ha.run hn hdb he hpl⟩
theorem F6 {T:String}(hc:Cm X (.type T) r)(hg:Gl X x)(hm:X.mg x=none)(hv:bootBuiltins x=some (.type T))(ha:QA X (e::es) t)(hn:x ≠ "__name__" := by decide)(hdb:(x == ("__debug__" : Str))=false:=by decide)(he:starEach (e::es) X.env=(false,eval e X.env)::starEach es X.env:=by rfl)(hpl:(backTo pos (starEach es X.env)).any (·.1)=false:=by rfl):QE X (.Call (.Name x p) (e::es) [] pos) (Jm r t):=⟨Zug hc hg hm hv ha.run hn hdb he hpl⟩
theorem He  : QO X none Oy:=⟨Ztn⟩
theorem Ef (h:QE X e te):QO X (some e) (Zcc te):=⟨Zig h.run⟩
theorem Fj {lo hi:Option Expr}{r:V->Option Int->Option Int->Hp->VK->Prop}(hr:SlR X r)(he:QE X e te)(hl:QO X lo tl)(hu:QO X hi th):QE X (.Subscript e (.Slice lo hi none p2) pos) (tSl r te tl th):=⟨Zlr hr he.run hl.run hu.run⟩
theorem Ms {r:R2}(hr:IxR X r)(ha:QE X a ta)(hb:QE X b tb)(hs:Zc1 b):QE X (.Subscript a b pos) (Dl r ta tb):=⟨Zld hr ha.run hb.run hs⟩
theorem Zks {T id:String}(pa:PlainAttrs T)(slot:Slot T name id)(hty:typeOf (.builtin id)=pure (.type "method_descriptor"))(hm:Fd X id r)(ho:QE X o to)(ha:QA X (e::es) t)(hbase:attributeBase o name X.env (eval o X.env)=eval o X.env:=by rfl)(hfew:((backTo cpos (starEach (e::es) X.env)).all (fun x=>!x.1) && (backToKw cpos (keywordEach [] X.env)).all (fun x=>x.1.isSome)
   && decide ((e::es).length+([]:List Keyword).length+(if ([]:List Keyword).isEmpty then 0 else 1) < 30))=true:=by rfl) (hline:(apos.endLine == cpos.line)=true:=by rfl) (hs:starEach (e::es) X.env=(false,eval e X.env)::starEach es X.env:=by rfl) (hplain:(backTo cpos (starEach es X.env)).any (·.1)=false:=by rfl):QE X (.Call (.Attribute o name apos) (e::es) [] cpos) (tBM X.K T r to t):=⟨Zqf pa slot hty hm ho.run ha.run hbase hfew hline hs hplain⟩
theorem Zmv {T id:String}(pa:PlainAttrs T)(slot:Slot T name id)(hty:typeOf (.builtin id)=pure (.type "method_descriptor"))(hm:Fd X id r)(ho:QE X o to)(hbase:attributeBase o name X.env (eval o X.env)=eval o X.env:=by rfl)(hline:(apos.endLine == cpos.line)=true:=by rfl):QE X (.Call (.Attribute o name apos) [] [] cpos) (M2 X.K T r to):=⟨Zp4 pa slot hty hm ho.run hbase hline⟩
theorem Mc (hc:X.calm=true)(S:Hy scope X.env)(hi:QI X target iter wi)(T:∀ σ,σ.length=X.N.length->Ge X scope N σ (σ0 σ))(hg:∀ C s H fp,QG (Cn X scope C N s H fp) target g)(ht:∀ C s H fp,QTs (Cn X scope C N s H fp) ifs tt)(he:∀ C s H fp,QE (Cn X scope C N s H fp) elt te)(hs:∀ x,foldedSetIterable iter X.env x=pure x:=by intro _;rfl):QE X (.ListComp elt [⟨target,iter,ifs,0⟩] scope pos) (Lj wi σ0 g tt te):=⟨Zsj hc S hi.run T (fun C s H fp=>(hg C s H fp).run) (fun C s H fp=>(ht C s H fp).run) (fun C s H fp=>(he C s H fp).run) hs⟩
theorem M5 {i:Nat}{y:Str}{py spos:Pos}(hc:X.calm=true)(S:Hy scope X.env)(hi:QI X target iter wi)(T:∀ σ,σ.length=X.N.length->Ge X scope N σ (σ0 σ))(hg:∀ C s H fp,QG (Cn X scope C N s H fp) target g)(ht:∀ C s H fp,QTs (Cn X scope C N s H fp) ifs tt)(he:∀ C s H fp,QE (Cn X scope C N s H fp) elt te)(hN:X.N.Nodup)(hy:X.N[i]?=some y)(hx:Ex X.env.scope y)(hsw:swapsWith (.ListComp elt [⟨target,iter,ifs,0⟩] scope pos) (some (.Name y py)) spos.line X.env=pure true:=by rfl)(hf:X.fn y=true\/X.env.scope.names.lookup y=some .local:=by first | exact .inl rfl | exact .inr rfl | assumption)(hs:∀ x,foldedSetIterable iter X.env x=pure x:=by intro _;rfl):QS X (.Assign [.Name y py] (.ListComp elt [⟨target,iter,ifs,0⟩] scope pos) spos) (F3 (Lj wi σ0 g tt te) (Ga i)):=⟨Zr9 hc S hi.run T (fun C s H fp=>(hg C s H fp).run) (fun C s H fp=>(ht C s H fp).run) (fun C s H fp=>(he C s H fp).run) hN hy hx hsw hf hs⟩
theorem Ff {X:Cx}:QTs X [] Zb6:=⟨Zlm⟩
theorem F7 {j pos'}(ha:QE X a ta):QC X .Is a (.Constant .none j pos') (Zcv ta):=⟨Zio ha.run⟩
theorem Zd7 {j pos'}(ha:QE X a ta):QC X .IsNot a (.Constant .none j pos') (Zcw ta):=⟨Zkw ha.run⟩
theorem Ib {X:Cx}{es:List Expr}{xs:List V}(h:Og es=some xs):QA X es (Zbs xs):=⟨Zff h⟩
theorem qv {X:Cx}(i:Nat){x:Str}{pos:Pos}(hN:X.N[i]?=some x:=by rfl)(hv:Vis X.env.scope x:=by first | exact Or.inl rfl | exact Or.inr (Or.inl rfl) | exact Or.inr (Or.inr rfl))(hd:(x == ("__debug__" : Str))=false:=by decide)
  (hcd:(x == ("__classdict__" : Str))=false:=by decide):QE X (.Name x pos) (Iz i):=⟨Zll hN hv hd hcd⟩
theorem QW.qt {X:Cx}{e:Expr}{t:TT}(h:QW X e t):QT X e t:=⟨h.run.pt⟩
section
variable {P:Program}{w:World}{K:O0}{mg:Str->Option Value}{base:Heap}
theorem Fun.okq {x qual:Str}{st:Stmt}{f:Addr}{fd:FuncData}{N ps:List Str}{k:Nat}{sp:Sp}(F:Fun K x qual st f fd)(S:A2 N ps (Am st))(len:∀ vs H Q E,sp vs H Q E->vs.length=ps.length)
  (hbody:∀(cdv:Value)(A:Around)(outer:List Env)(s:Shared)(H:Hp)(vs:List V)(Q:VK)(E:XK),Room k (A.deeper (envOfC qual (Am st) s.heap.objs.size f cdv))->sp vs H Q E ->
   ∃ t,Dm (Cq Aq P w K mg base N qual (Am st) f cdv A outer s H E).nox (Bg st) t/\t { nx:=fun _ H'=>Q .non H',rt:=Q } (start N vs) H):Ao P w K mg base Aq (k+1) f fd ps sp :=
 F.ok S len fun cdv A outer s H vs Q E hr h=>by
  obtain ⟨t,q,r⟩:=hbody cdv A outer s H vs Q E hr h
  exact ⟨t,q.run,r⟩
end
section
variable {X:Cx}
noncomputable def Zkb:R2:=fun x y H Q=>∃ i j,x=.str i/\y=.str j/\i.length+j.length<=sizeLine/\Q (.str (i++j)) H
noncomputable def Zgf (K:O0):R2:=fun x y H Q=>∃ a b xs ys,x=.ref a/\y=.ref b/\SqT K H a xs/\SqT K H b ys/\xs.length+ys.length<=sizeLine /\
 ∀ r H',Same H H'->SqT K H' r (xs++ys)->Q (.ref r) H'
theorem Zoa:OpR X (binaryOp .Add) (Zgf X.K):=by
 intro pins s σ H x y v u Q I rx ry h
 obtain ⟨a,b,xs,ys,rfl,rfl,ha,hb,hz,q⟩:=h
 by_cases hx:xs=[]
 ·subst hx
  cases rx
  cases ry
  obtain ⟨its,r1,p1,_⟩:=I.tuple ha
  obtain ⟨its2,r2,p2,_⟩:=I.tuple hb
  cases r1
  obtain ⟨⟨cls,dd,data,sl⟩,ho,hc,n,hd⟩:=id p1
  obtain ⟨⟨cls2,dd2,data2,sl2⟩,ho2,hc2,n2,hd2⟩:=id p2
  simp only at hc hd hc2 hd2
  subst hc hd hc2 hd2
  exact concat_meets ⟨_,ho,rfl⟩ ⟨_,ho2,rfl⟩ Vw seq_tuple_add U9 U6 (U4 _ _)
   (tuple_addW0 a b _ _ n n2 dd dd2 sl sl2 (by simp)) ⟨ho,ho2,⟨.ref b,H,I,rfl,q b H (Same.refl H) hb⟩⟩
 ·refine Zof pins s σ H _ _ v u Q I rx ry ⟨a,b,xs,ys,rfl,rfl,ha,hb,hx,hz,fun e=>?_,fun _ p hp=>q p _ (fun c o e=>by rw [Au (Bz e hp)];exact e) (.inl (.inl Ad))⟩
  subst e
  exact q a H (Same.refl H) (by rw [Rc];exact ha)
noncomputable def Ih (K:O0):R2:=fun x y H Q=>Dv (fun i j=>.int (i+j)) x y H Q\/Zkb x y H Q\/rCat x y H Q\/Zgf K x y H Q
theorem Zjp:OpR X (binaryOp .Add) (Ih X.K):=op_add.or (op_add_str.or (op_cat.or Zoa))
theorem s_add_int {K:O0}{i j:Int}{H:Hp}{Q:VK}(h:Q (.int (i+j)) H):Ih K (.int i) (.int j) H Q:=.inl ⟨i,j,rfl,rfl,h⟩
theorem K8 {K:O0}{i j:Str}{H:Hp}{Q:VK}(hl:i.length+j.length<=sizeLine)(h:Q (.str (i++j)) H):Ih K (.str i) (.str j) H Q:=.inr (.inl ⟨i,j,rfl,rfl,hl,h⟩)
theorem Zqc {K:O0}{a b:Addr}{xs ys:List V}{H:Hp}{Q:VK}(ha:H a=some (.lst xs))(hb:H b=some (.lst ys))(hz:xs.length+ys.length<=sizeLine)(h:∀ p,H p=none->Q (.ref p) (upd H p (.lst (xs++ys)))):Ih K (.ref a) (.ref b) H Q:=.inr (.inr (.inl ⟨a,b,xs,ys,rfl,rfl,ha,hb,hz,h⟩))
theorem Ho {K:O0}{a b:Addr}{xs ys:List V}{H:Hp}{Q:VK}(ha:SqT K H a xs)(hb:SqT K H b ys)(hz:xs.length+ys.length<=sizeLine)(h:∀ r H',Same H H'->SqT K H' r (xs++ys)->Q (.ref r) H'):Ih K (.ref a) (.ref b) H Q:=.inr (.inr (.inr ⟨a,b,xs,ys,rfl,rfl,ha,hb,hz,h⟩))
noncomputable def Zay:R2:=fun x y H Q=>rI CMul (fun i j=>.int (i * j)) x y H Q\/rRep x y H Q
theorem Cc:OpR X (binaryOp .Mult) Zay:=op_mul.or Zpk
theorem s_mul_l {i j:Int}{H:Hp}{Q:VK}(h1:-(2 ^ 64) < i)(h2:i < 2 ^ 64)(h:Q (.int (i * j)) H):Zay (.int i) (.int j) H Q:=.inl ⟨i,j,rfl,rfl,.inl ⟨h1,h2⟩,h⟩
theorem s_mul_r {i j:Int}{H:Hp}{Q:VK}(h1:-(2 ^ 64) < j)(h2:j < 2 ^ 64)(h:Q (.int (i * j)) H):Zay (.int i) (.int j) H Q:=.inl ⟨i,j,rfl,rfl,.inr ⟨h1,h2⟩,h⟩
theorem s_rI {C:Int->Int->Prop}{g:Int->Int->V}{i j:Int}{H:Hp}{Q:VK}(hc:C i j)(h:Q (g i j) H):rI C g (.int i) (.int j) H Q:=⟨i,j,rfl,rfl,hc,h⟩
theorem s_rI0 {g:Int->Int->V}{i j:Int}{H:Hp}{Q:VK}(h:Q (g i j) H):Dv g (.int i) (.int j) H Q:=⟨i,j,rfl,rfl,h⟩
theorem s_rU {g:Int->V}{i:Int}{H:Hp}{Q:VK}(h:Q (g i) H):rU g (.int i) H Q:=⟨i,rfl,h⟩
noncomputable def rLtA:R2:=fun x y H Q=>Dv (fun i j=>.bl (decide (i < j))) x y H Q\/∃ i j,x=.str i/\y=.str j/\Q (.bl (decide (i.cps.toList < j.cps.toList))) H
theorem Ij:OpR X (compareOp .Lt) rLtA:=op_lt.or Zli
noncomputable def rLeA:R2:=fun x y H Q=>Dv (fun i j=>.bl (decide (i<=j))) x y H Q\/∃ i j,x=.str i/\y=.str j/\Q (.bl (!(decide (j.cps.toList < i.cps.toList)))) H
theorem Ey:OpR X (compareOp .LtE) rLeA:=op_le.or Zms
theorem s_lt {i j:Int}{H:Hp}{Q:VK}(h:Q (.bl (decide (i < j))) H):rLtA (.int i) (.int j) H Q:=.inl ⟨i,j,rfl,rfl,h⟩
theorem s_le {i j:Int}{H:Hp}{Q:VK}(h:Q (.bl (decide (i<=j))) H):rLeA (.int i) (.int j) H Q:=.inl ⟨i,j,rfl,rfl,h⟩
noncomputable def Zbo (neg:Bool):R2:=fun x y H Q=>∃(c:Nat)(j:Str),x=.str ⟨#[c]⟩/\y=.str j/\Q (.bl (if neg then !decide (c∈j.cps.toList) else decide (c∈j.cps.toList))) H
theorem Zrh:OpR X (compareOp .In) (Zbo false):=Zsr
theorem Znr:OpR X (compareOp .NotIn) (Zbo true):=Zi5
noncomputable def J1 (K:O0)(neg:Bool):R2:=fun x y H Q=>rIn K neg x y H Q\/Zbo neg x y H Q
theorem Zn0:OpR X (compareOp .In) (J1 X.K false):=op_in_seq.or Zrh
theorem Zlh:OpR X (compareOp .NotIn) (J1 X.K true):=op_notIn_seq.or Znr
theorem Eg {K:O0}{neg:Bool}{x:V}{p:Addr}{xs:List V}{H:Hp}{Q:VK}(hq:SqL K H p xs\/SqT K H p xs)(hx:Cy x=true)(hxs:xs.all Cy=true)(h:Q (.bl (if neg then !Cr x xs else Cr x xs)) H):J1 K neg x (.ref p) H Q:=.inl ⟨p,xs,rfl,hq,hx,hxs,h⟩
noncomputable def Mv (K:O0):V->Option Int->Option Int->Hp->VK->Prop:=fun x lo hi H Q=>Zca K x lo hi H Q\/Zbg x lo hi H Q\/rSlT K x lo hi H Q
theorem Zta:SlR X (Mv X.K):=sl_list.or (sl_str.or Zhx)
theorem Zdz {K:O0}{a:Addr}{xs:List V}{lo hi:Option Int}{H:Hp}{Q:VK}(ha:SqL K H a xs)(h:∀ p,H p=none->Q (.ref p) (upd H p (.lst (B9 xs lo hi)))):Mv K (.ref a) lo hi H Q:=.inl ⟨a,xs,rfl,ha,h⟩
theorem Zeh {K:O0}{z:Str}{lo hi:Option Int}{H:Hp}{Q:VK}(hl:z.length<=sizeLine)(h:Q (.str (Qz z lo hi)) H):Mv K (.str z) lo hi H Q:=.inr (.inl ⟨z,rfl,hl,h⟩)
theorem Ca {K:O0}{a:Addr}{xs:List V}{i:Int}{v:V}{H:Hp}{Q:VK}(ha:SqL K H a xs)(hv:Bl xs i=some v)(h:Q v H):Gx K (.ref a) (.int i) H Q:=.inl ⟨a,xs,i,v,rfl,rfl,ha,hv,h⟩
theorem Ae {K:O0}{a:Addr}{xs:List V}{i:Int}{v:V}{H:Hp}{Q:VK}(ha:SqT K H a xs)(hv:Bl xs i=some v)(h:Q v H):Gx K (.ref a) (.int i) H Q:=.inr (.inl ⟨a,xs,i,v,rfl,rfl,ha,hv,h⟩)
theorem M8 {K:O0}{z:Str}{i:Int}{c:Nat}{H:Hp}{Q:VK}(hl:z.length<=sizeLine)(hv:Bl z.cps.toList i=some c)(h:Q (.str ⟨#[c]⟩) H):Gx K (.str z) (.int i) H Q:=.inr (.inr ⟨z,i,c,rfl,rfl,hl,hv,h⟩)
noncomputable def Ji (K:O0):List V->Hp->VK->Prop:=fun xs H Q=>∃ x n,xs=[x]/\LenV K x H n/\Q (.int n) H
theorem Zqr:Cm X (.builtin "len") (Ji X.K):=Zmf
theorem Lf {K:O0}{a:Addr}{xs:List V}{H:Hp}{Q:VK}(ha:SqL K H a xs)(h:Q (.int xs.length) H):Ji K [.ref a] H Q:=⟨_,_,rfl,.inl ⟨xs,ha,rfl⟩,h⟩
theorem Fl {K:O0}{a:Addr}{xs:List V}{H:Hp}{Q:VK}(ha:SqT K H a xs)(h:Q (.int xs.length) H):Ji K [.ref a] H Q:=⟨_,_,rfl,.inr ⟨xs,ha,rfl⟩,h⟩
theorem Nl {K:O0}{z:Str}{H:Hp}{Q:VK}(hl:z.length<=sizeLine)(h:Q (.int z.length) H):Ji K [.str z] H Q:=⟨_,_,rfl,⟨hl,rfl⟩,h⟩
structure Eo (mg:Str->Option Value)(x:Str)(v:V):Prop where
 ex:∃ u,mg x=some u/\RelV v u
theorem Fy {x:Str}{v:V}{pos:Pos}(G:Eo X.mg x v)(hg:Gl X x:=by rfl)(hd:(x == ("__debug__" : Str))=false:=by decide):QE X (.Name x pos) (tC v):=by
 obtain ⟨u,h,r⟩:=G.ex
 exact ⟨Zfm hg h r hd⟩
noncomputable def Ou (K:O0)(tl:TE):TI:=fun σ H R=>tl σ H fun x H1=>(∃ a,x=.ref a/\(∃ xs,SqL K H1 a xs)/\R (Jr K a) H1)\/(∃ a,x=.ref a/\(∃ xs,SqT K H1 a xs)/\R (Jp K a) H1)\/∃ z,x=.str z/\R (Its z) H1
theorem Zij {tg l:Expr}{tl:TE}(hl:QE X l tl):QI X tg l (Ou X.K tl):=by
 refine ⟨fun pins s σ H R I h=>?_⟩
 refine Aj (hl.run pins s σ H _ I h) fun v s1 zq=>?_
 obtain ⟨x,H1,I1,r1,q1⟩:=zq
 have one:∀(l:Expr)(t:TE),PE X l t->True:=fun _ _ _=>trivial
 rcases q1 with ⟨a,e,⟨xs,hq⟩,q⟩ | ⟨a,e,⟨xs,hq⟩,q⟩ | ⟨z,e,q⟩
 ·subst e
  cases r1
  obtain ⟨its,rv,p,hz⟩:=I1.list hq
  refine Vq p.isList ?_
  refine ⟨s1.heap.objs.size,[s1.heap.objs.size],_,_,H1,rfl,I1.kept (t':=s1.toks) fun b o e=>O6 _ e,Zqv a _,⟨_,Pe _ rfl,rfl,rfl⟩,fun b hb=>?_,q⟩
  have e:b=s1.heap.objs.size:=by simpa using hb
  subst e
  exact I1.fpOk (O3 _) (I1.hok.fresh (O3 _))
 ·subst e
  cases r1
  obtain ⟨its,rv,p,hz⟩:=I1.tuple hq
  refine wpAny_pyIter_tuple (show s1.heap.IsTuple a its.toArray from p) ?_
  refine ⟨s1.heap.objs.size,[s1.heap.objs.size],_,_,H1,rfl,I1.kept (t':=s1.toks) fun b o e=>O6 _ e,Zi1 a _,⟨_,Pe _ rfl,rfl,rfl⟩,fun b hb=>?_,q⟩
  have e:b=s1.heap.objs.size:=by simpa using hb
  subst e
  exact I1.fpOk (O3 _) (I1.hok.fresh (O3 _))
 ·subst e
  obtain ⟨t,rfl⟩:=r1
  refine wpAny_pyIter_strU ?_
  refine ⟨s1.heap.objs.size,[s1.heap.objs.size],_,_,H1,rfl,I1.kept (t':=s1.toks) fun b o e=>O6 _ e,Zrg _ z t,⟨_,Pe _ rfl,rfl,rfl⟩,fun b hb=>?_,q⟩
  have e:b=s1.heap.objs.size:=by simpa using hb
  subst e
  exact I1.fpOk (O3 _) (I1.hok.fresh (O3 _))
end
noncomputable def Jo (hi:Int)(n:Nat):It:=⟨fun i _=>i < n,fun i H x H'=>H'=H/\x=.int (hi - i),fun i _=>n<=i⟩
theorem Zhl (a b:Int):T8 a b (-1)=if b < a then a - b else 0:=by
 unfold T8
 simp only [show ¬ ((-1:Int) > 0) by decide,if_false,Int.neg_neg,Int.ediv_one]
 split <;> omega
theorem Zk7 {a b:Int}(ha:-(2 ^ 62)<=a)(ha':a < 2 ^ 62)(hb:-(2 ^ 62)<=b)(hb':b < 2 ^ 62):Builtin.Range.small a b (-1)=true:=by
 unfold Builtin.Range.small
 rw [Zhl]
 simp only [Builtin.Range.rangeFitsLong,Qk,Bool.or_eq_true,decide_eq_true_eq,beq_iff_eq,show ¬ ((-1:Int) > 0) by decide,if_false]
 split <;> omega
theorem Zm1 {P:Program}{w:World}{K:O0}{tg:Expr}(it:Addr)(hi:Int)(n:Nat):E7 P w K tg (Jo hi n) [it] it (fun i h=>IsRangeIter h it (hi+(i:Nat) * (-1)) ((n:Int) - (i:Nat)) (-1)) where
 mem:=by simp
 obj:=fun i h st b hb=>by
  have e:b=it:=by simpa using hb
  subst e
  exact ⟨_,st,fun v z=>by
   have z':Data.fields _=Data.cell v:=z
   cases z'⟩
 keep:=fun i h h' st k=>k it (by simp) _ st
 item:=by
  intro X hP hw hK hc i pins s σ H E I hf st hg
  subst hP hw hK
  obtain ⟨f0,f1,f2,f3,f4,f5⟩:=hf it (by simp)
  have W:=Walks.range (prog:=X.prog) (w:=X.w) (I.ok.hd hc) it hi (-1) n
  refine W.item i s _ _ hg st fun v h' tk hv st' kk=>?_
  obtain ⟨t,rfl⟩:=hv
  have I1:Inv X pins σ H { s with heap:=h',toks:=tk }:=I.turned (fun b o hb e=>kk b o (by simpa using hb) e) f0 f1 f3 f4 f5
  refine ⟨_,rfl,Ie (s:={ s with heap:=h',toks:=tk }) (n := "range_iterator") st' rfl rfl (by decide) ⟨.int (hi - i),H,I1,⟨t,?_⟩,⟨rfl,rfl⟩,st',fun b hb=>(hf b hb).1⟩⟩
  rw [Int.mul_neg_one,Int.sub_eq_add_neg]
 done:=by
  intro X hP hw hK hc i pins s σ H E I hf st hg
  subst hP hw hK
  obtain ⟨f0,f1,f2,f3,f4,f5⟩:=hf it (by simp)
  exact wpAny_pyNext_range_end (I.ok.hd hc) st (by have:n<=i:=hg;omega) fun h' eb=>⟨rfl,I.turned (t':=s.toks) (fun b o hb e=>eb b o hb e) f0 f1 f3 f4 f5⟩
 self:=fun _ _ _ _ _ st h=>wpAny_pyIter_rangeiter st h
section
variable {X:Cx}{tg:Expr}
noncomputable def Zgj (ta:TA):TI:=fun σ H R=>ta σ H fun vs H1=>∃ i j:Int,vs=[.int i,.int j,.int (-1)]/\(-(2 ^ 62)<=i/\i < 2 ^ 62/\-(2 ^ 62)<=j/\j < 2 ^ 62)/\R (Jo i (i - j).toNat) H1
theorem Zjb {a b c:Expr}{ta:TA}{p pos:Pos}(hg:Gl X "range")(hm:X.mg "range" = none)(ha:QA X [a,b,c] ta)(hs:starEach [a,b,c] X.env=[(false,eval a X.env),(false,eval b X.env),(false,eval c X.env)]:=by rfl)(hs2:starEach [b,c] X.env=[(false,eval b X.env),(false,eval c X.env)]:=by rfl) :
  QI X tg (.Call (.Name "range" p) [a,b,c] [] pos) (Zgj ta):=by
 refine ⟨fun pins s σ H R I h=>?_⟩
 refine Call_ (Fs I hg hm boot_range (R6 (Aj (ha.run pos pins s σ H _ I h) fun us s1 ⟨vs,H1,I1,r1,q1⟩=>?_) (by rw [hs,hs2]) (by rw [hs2];rfl)))
 obtain ⟨i,j,e,⟨q1,q2,q3,q4⟩,q⟩:=q1
 subst e
 cases r1 with
 | cons r rr =>
  cases rr with
  | cons r' rr =>
   cases rr with
   | cons r'' rr =>
    cases rr
    obtain ⟨t,rfl⟩:=r
    obtain ⟨t',rfl⟩:=r'
    obtain ⟨t'',rfl⟩:=r''
    refine call_range_3 (by decide) ?_ (.inl (PyProof.noPylong_small (by omega)))
    refine wpAny_pyIter_range (IsRange.new ..) (Zk7 q1 q2 q3 q4) ?_
    have I2:Inv X pins σ H1 { s1 with heap:=s1.heap.push { cls:=.type "range",data:=.fields #[.int i t,.int j t',.int (-1) t''] },toks:=s1.toks }:=I1.kept fun b o e=>O6 _ e
    refine ⟨(s1.heap.push { cls:=.type "range",data:=.fields #[.int i t,.int j t',.int (-1) t''] }).objs.size,[(s1.heap.push { cls:=.type "range",data:=.fields #[.int i t,.int j t',.int (-1) t''] }).objs.size],_,_,H1,rfl,
     I2.kept (t':=s1.toks) fun b o e=>O6 _ e,Zm1 _ i (i - j).toNat,?_,fun b hb=>?_,q⟩
    ·have e1:i+((0:Nat):Int) * (-1)=i:=by simp
     have e2:(((i - j).toNat:Nat):Int) - ((0:Nat):Int)=T8 i j (-1):=by rw [Zhl];split <;> omega
     show IsRangeIter _ _ (i+((0:Nat):Int) * (-1)) ((((i - j).toNat:Nat):Int) - ((0:Nat):Int)) (-1)
     rw [e1,e2]
     exact Pe _ rfl
    ·have e:b=(s1.heap.push { cls:=.type "range",data:=.fields #[.int i t,.int j t',.int (-1) t''] }).objs.size:=by simpa using hb
     subst e
     exact I2.fpOk (O3 _) (I2.hok.fresh (O3 _))
theorem Zo7 {hi:Int}{n:Nat}{g:TG}{tb:TS}{D:Ends}{σ:St}{H:Hp}(Pv:Nat->St->Hp->Prop)(h0:Pv 0 σ H)
  (hs:∀ i σ H,i < n->Pv i σ H->g (.int (hi - i)) σ H fun σ2 H2=>tb { D with nx:=Pv (i+1),ct:=Pv (i+1),bk:=D.nx } σ2 H2) (hd:∀ σ H,Pv n σ H->D.nx σ H) :
  ∃ W:Nat->Nat->St->Hp->Prop,(∃ m,W 0 m σ H)/\∀ i m σ H,W i m σ H ->
   ((Jo hi n).stop i H/\D.nx σ H)\/((Jo hi n).go i H/\∃ N:St->Hp->Prop,(∀ σ' H',N σ' H'->∃ m',m' < m/\W (i+1) m' σ' H')/\∀ x H',(Jo hi n).yld i H x H'->g x σ H' fun σ2 H2=>tb { D with nx:=N,ct:=N,bk:=D.nx } σ2 H2):=by
 refine ⟨fun i m σ H=>m=n - i/\i<=n/\Pv i σ H,⟨n,by simp,Qb _,h0⟩,?_⟩
 rintro i m σ H ⟨rfl,hi',p⟩
 by_cases hlt:i < n
 ·refine .inr ⟨hlt,Pv (i+1),fun σ' H' p'=>⟨n - (i+1),by omega,rfl,hlt,p'⟩,fun x H' y=>?_⟩
  obtain ⟨e,y⟩:=y
  subst e y
  exact hs i σ _ hlt p
 ·have e:i=n:=by omega
  subst e
  exact .inl ⟨O3 _,hd σ H p⟩
end
noncomputable def Je (K:O0)(a:Addr)(n:Nat):It :=
 ⟨fun i H=>∃ xs,SqL K H a xs/\xs.length=n/\i < n,fun i H x H'=>H'=H/\∀ xs,SqL K H a xs->xs[n - 1 - i]?=some x,fun i _=>i=n⟩
theorem Zrq {P:Program}{w:World}{K:O0}{tg:Expr}(a it:Addr)(n:Nat):E7 P w K tg (Je K a n) [it] it (fun i h=>i<=n/\h.IsRevIter it a ((n:Int) - 1 - (i:Int))) where
 mem:=by simp
 obj:=fun i h st b hb=>by
  have e:b=it:=by simpa using hb
  subst e
  obtain ⟨o,e,c,d⟩:=st.2
  exact ⟨o,e,fun v z=>by rw [d] at z;cases z⟩
 keep:=fun i h h' st k=>⟨st.1,st.2.at fun o e=>k it (by simp) o e⟩
 item:=by
  intro X hP hw hK hc i pins s σ H E I hf st hg
  subst hP hw hK
  obtain ⟨xs,hq,hl,hi⟩:=hg
  obtain ⟨its,rv,p,hz⟩:=I.list hq
  have hx:xs[n - 1 - i]?=some (xs[n - 1 - i]'(by omega)):=O7 (by omega)
  obtain ⟨u,hu,ru⟩:=rv.get hx
  obtain ⟨f0,f1,f2,f3,f4,f5⟩:=hf it (by simp)
  have e:(n:Int) - 1 - (i:Int)=((n - 1 - i:Nat):Int):=by omega
  have hit:=st.2
  rw [e] at hit
  refine wpAny_pyNext_rev_item hit p.isList (x:=u) (by simpa using hu) fun h' st' sb=>?_
  have I1:Inv X pins σ H { s with heap:=h' }:=I.turned (t':=s.toks) (fun b o hb e=>(sb.2 b hb).trans e) f0 f1 f3 f4 f5
  have e2:((n - 1 - i:Nat):Int) - 1=(n:Int) - 1 - ((i+1:Nat):Int):=by omega
  rw [e2] at st'
  obtain ⟨o,eo,c,d⟩:=id st'
  exact ⟨u,rfl,Ie (s:={ s with heap:=h' }) eo c d (by decide) ⟨_,H,I1,ru,⟨rfl,fun ys hy=>by rw [I.list_inj hy hq];exact hx⟩,⟨hi,st'⟩,fun b hb=>(hf b hb).1⟩⟩
 done:=by
  intro X hP hw hK hc i pins s σ H E I hf st hg
  subst hP hw hK
  have hg:i=n:=hg
  subst hg
  obtain ⟨f0,f1,f2,f3,f4,f5⟩:=hf it (by simp)
  have e:(i:Int) - 1 - (i:Int)=-1:=by omega
  have hit:=st.2
  rw [e] at hit
  exact wpAny_pyNext_rev_end (I.ok.hd hc) hit fun h' eb=>⟨rfl,I.turned (t':=s.toks) (fun b o hb e=>eb b o hb e) f0 f1 f3 f4 f5⟩
 self:=fun _ _ _ _ _ st h=>wpAny_pyIter_revIter st.2 h
theorem Zui:bootBuiltins "reversed" = some (.type "reversed"):=by decide +kernel
section
variable {X:Cx}{tg:Expr}
noncomputable def Zal (K:O0)(ta:TA):TI:=fun σ H R=>ta σ H fun vs H1=>∃ a xs,vs=[.ref a]/\SqL K H1 a xs/\R (Je K a xs.length) H1
theorem Zpm {a:Expr}{ta:TA}{p pos:Pos}(hg:Gl X "reversed")(hm:X.mg "reversed" = none)(ha:QA X [a] ta)(hs:starEach [a] X.env=[(false,eval a X.env)]:=by rfl):QI X tg (.Call (.Name "reversed" p) [a] [] pos) (Zal X.K ta):=by
 refine ⟨fun pins s σ H R I h=>?_⟩
 refine Call_ (Fs I hg hm Zui (R6 (Aj (ha.run pos pins s σ H _ I h) fun us s1 zq=>?_) hs rfl))
 obtain ⟨vs,H1,I1,r1,q1⟩:=zq
 obtain ⟨l,xs,e,hq,q⟩:=q1
 subst e
 cases r1 with
 | cons r rr =>
  cases rr
  cases r
  obtain ⟨its,rv,pl,hz⟩:=I1.list hq
  refine call_reversed_list pl.isList ?_
  have hl:=rv.length
  have st0:(s1.heap.push (PySem.revObj l (((its.toArray).size:Int) - 1))).IsRevIter s1.heap.objs.size l ((xs.length:Int) - 1 - ((0:Nat):Int)):=by
   refine ⟨_,Pe _ rfl,rfl,?_⟩
   have e:((its.toArray).size:Int) - 1=(xs.length:Int) - 1 - ((0:Nat):Int):=by simp [hl]
   rw [<- e]
   rfl
  refine wpAny_pyIter_revIter (it:=s1.heap.objs.size) (l:=l) (i:=(xs.length:Int) - 1 - ((0:Nat):Int)) st0 ?_
  refine ⟨s1.heap.objs.size,[s1.heap.objs.size],_,_,H1,rfl,I1.kept (t':=s1.toks) fun b o e=>O6 _ e,Zrq l _ xs.length,⟨Qb _,st0⟩,fun b hb=>?_,q⟩
  have e:b=s1.heap.objs.size:=by simpa using hb
  subst e
  exact I1.fpOk (O3 _) (I1.hok.fresh (O3 _))
theorem Zgi {K:O0}{a:Addr}{xs:List V}{g:TG}{tb:TS}{D:Ends}{σ:St}{H:Hp}(Pv:Nat->St->Hp->Prop)(h0:Pv 0 σ H)(hl:∀ i σ H,i<=xs.length->Pv i σ H->SqL K H a xs)
  (hs:∀ i x σ H,i < xs.length->xs[xs.length - 1 - i]?=some x->Pv i σ H->g x σ H fun σ2 H2=>tb { D with nx:=Pv (i+1),ct:=Pv (i+1),bk:=D.nx } σ2 H2) (hd:∀ σ H,Pv xs.length σ H->D.nx σ H) :
  ∃ W:Nat->Nat->St->Hp->Prop,(∃ m,W 0 m σ H)/\∀ i m σ H,W i m σ H ->
   ((Je K a xs.length).stop i H/\D.nx σ H)\/((Je K a xs.length).go i H/\∃ N:St->Hp->Prop,(∀ σ' H',N σ' H'->∃ m',m' < m/\W (i+1) m' σ' H')/\∀ x H',(Je K a xs.length).yld i H x H'->g x σ H' fun σ2 H2=>tb { D with nx:=N,ct:=N,bk:=D.nx } σ2 H2):=by
 refine ⟨fun i m σ H=>m=xs.length - i/\i<=xs.length/\Pv i σ H,⟨xs.length,by simp,Qb _,h0⟩,?_⟩
 rintro i m σ H ⟨rfl,hi,p⟩
 have q:=hl i σ H hi p
 by_cases hlt:i < xs.length
 ·refine .inr ⟨⟨xs,q,rfl,hlt⟩,Pv (i+1),fun σ' H' p'=>⟨xs.length - (i+1),by omega,rfl,hlt,p'⟩,fun x H' y=>?_⟩
  obtain ⟨e,y⟩:=y
  subst e
  exact hs i x σ _ hlt (y xs q) p
 ·have e:i=xs.length:=by omega
  subst e
  exact .inl ⟨rfl,hd σ H p⟩
end
section
variable {prog:Program}{w:World}{A:Around}{E:Value->Shared->Prop}{s:Shared}
theorem Zp6 {it t:Addr}{i:Nat}{items:Array Value}{x:Value}{Q:Value->Shared->Prop}(hit:s.heap.IsTupleIter it t i)(ht:s.heap.IsTuple t items)(hx:items[i]?=some x)
  (hQ:∀ h',h'.IsTupleIter it t (i+1)->Px it s.heap h'->Q x { s with heap:=h' }):wpAny (model prog w) A (Qq (.ref it)) Q E s:=by
 obtain ⟨o,ho,hc,hd⟩:=id hit
 obtain ⟨ol,hol,_,nl,hdl⟩:=ht
 unfold Qq
 refine O1 (Rt (name:=Qm "__next__") hit.typeIs T3
  (Ry T3 hit.typeIs V8 ?_ (V7 _)))
 show wpAny _ _ (field (.ref it) 0 >>= _) _ _ s
 refine O1 (Pn ho hd (x:=.ref t) rfl ?_)
 show wpAny _ _ (if (Value.ref t == Value.none)=true then _ else _) _ _ s
 rw [if_neg (show ¬ ((Value.ref t == Value.none)=true) from O8)]
 show wpAny _ _ (field (.ref it) 1 >>= _) _ _ s
 refine O1 (Pn ho hd (x:=.int i 0) rfl ?_)
 show wpAny _ _ (seqItems? (.ref t) >>= _) _ _ s
 refine O1 (Q3 hol hdl ?_)
 simp only [Uj,hx]
 refine O1 (Tt ho hd (by simp) (O2 ⟨x,rfl,O2 (hQ _ ?_ (Px.update ..))⟩))
 exact ⟨_,Rk _ ho (Va (Ui hd _)),(Obj.cls_mapFields ..).trans hc,by
  rw [Ui hd];simp [rawInt]⟩
theorem Zun {it t:Addr}{i:Nat}{items:Array Value}{Q:Value->Shared->Prop}(hh:A.handled=none)(hit:s.heap.IsTupleIter it t i)(ht:s.heap.IsTuple t items)(hx:items[i]?=none)
  (hE:∀ h' e,Tz it s.heap h'->(∃ o,h'.get? e=some o/\o.cls=.type "StopIteration")->E (.ref e) { s with heap:=h' }):wpAny (model prog w) A (Qq (.ref it)) Q E s:=by
 obtain ⟨o,ho,hc,hd⟩:=id hit
 obtain ⟨ol,hol,_,nl,hdl⟩:=ht
 unfold Qq
 refine O1 (Rt (name:=Qm "__next__") hit.typeIs T3
  (Ry T3 hit.typeIs V8 ?_ (V7 _)))
 show wpAny _ _ (field (.ref it) 0 >>= _) _ _ s
 refine O1 (Pn ho hd (x:=.ref t) rfl ?_)
 show wpAny _ _ (if (Value.ref t == Value.none)=true then _ else _) _ _ s
 rw [if_neg (show ¬ ((Value.ref t == Value.none)=true) from O8)]
 show wpAny _ _ (field (.ref it) 1 >>= _) _ _ s
 refine O1 (Pn ho hd (x:=.int i 0) rfl ?_)
 show wpAny _ _ (seqItems? (.ref t) >>= _) _ _ s
 refine O1 (Q3 hol hdl ?_)
 simp only [Uj,hx]
 refine O1 (T2 (O1 (Tt ho hd (by simp) ?_)))
 show wpAny _ _ (newExc (.type "StopIteration") [] >>= _) _ _ _
 refine O1 ?_
 simp only [newExc,newTuple]
 refine O1 (Rx ?_ (by size_fits))
 refine O1 (m:=firstArgMember _ _) (wpAny_of_eq (a:=Value.none) (by first | rfl | (simp only [firstArgMember];rfl)) ?_)
 refine Rx ?_ (by size_fits)
 simp only [raiseNew]
 refine O1 (wpAny_handled ?_)
 first | rw [show A.in1.handled=none from hh] | rw [hh]
 refine O1 (O2 (wpAny_throw ?_))
 exact hE _ _ (((Px.update ..).extBut.push _).push _) ⟨_,Pe _ rfl,rfl⟩
end
theorem Zti {prog:Program}{w:World}{A:Around}(hh:A.handled=none)(it l:Addr)(hne:l≠it)(items:Array Value) :
  Draws prog w A it [it,l] items.size (fun i v=>items[i]?=some v) (fun i h=>h.IsTupleIter it l i/\h.IsTuple l items) where
 live:=fun _ _ st=>let ⟨o,ho,_⟩:=st.1;⟨o,ho⟩
 frame:=fun _ _ _ st hk=>⟨st.1.at fun o e=>hk it (by simp) o e,let ⟨o,e,r⟩:=st.2;⟨o,hk l (by simp) o e,r⟩⟩
 item:=fun i s Q E hi st hQ=>by
  refine Zp6 st.1 st.2 (x:=items[i]) (by simp [hi]) fun h' hit' hs'=>?_
  exact hQ _ h' s.toks (by simp [hi]) ⟨hit',st.2.extBut hs'.extBut hne⟩ hs'
 done:=fun s Q E st hE=>Zun hh st.1 st.2 (by simp) hE
section
variable {prog:Program}{w:World}{A:Around}{E:Value->Shared->Prop}{s:Shared}
theorem Zqk {a:Addr}{Q:Option Obj->Shared->Prop}(h:Q (s.heap.get? a) s):wpAny (model prog w) A (loadIfAlive a) Q E s:=by
 intro Γ p hΓ
 show Sem.wp _ Γ (.loadIfAlive a .pure) _ _ p s
 rw [Sem.wp_loadIfAlive]
 exact h
end
theorem Ztm {prog:Program}{w:World}{A:Around}{E:Value->Shared->Prop}{s:Shared}{it:Addr}{T:String}{Q:Bool->Shared->Prop}(hT:s.TypeIs (.ref it) T)(n1:typeLookup (.type T) "__len__" = pure none)(n2:typeLookup (.type T) "__length_hint__" = pure none)(h:Q true s):wpAny (model prog w) A (U1 (.ref it)) Q E s:=by
 unfold U1
 refine O1 (wpAny_specialOf hT n1 ?_)
 show wpAny _ A (specialOf (Value.ref it) (Qm "__length_hint__") >>= _) _ _ _
 refine O1 (wpAny_specialOf hT n2 ?_)
 exact O2 h
structure Src (X:Cx)(pins:List (Addr×Obj))(σ:St)(it:Addr)(T:String)(n:Nat)(H0:Hp)(J:Nat->List V->Hp->Heap->Prop):Prop where
 ty:∀ i ys H h,J i ys H h->∃ o,h.get? it=some o/\o.cls=.type T
 nl:(Value.type T == Value.type "list")=false/\(Value.type T == Value.type "tuple")=false
 hint:∃ mr:Bool,∀(A:Around)(s:Shared)(Q:Bool->Shared->Prop)(E:Value->Shared->Prop),s.TypeIs (.ref it) T->Q mr s->wpAny (model X.prog X.w) A (U1 (.ref it)) Q E s
 self:∀(A:Around)(s:Shared)(ys:List V)(H:Hp)(Q:Value->Shared->Prop)(E:Value->Shared->Prop),J 0 ys H s.heap->Q (.ref it) s->wpAny (model X.prog X.w) A (pyIter (.ref it)) Q E s
 keep:∀ i ys H h h' S zs zs',H0 S=none->H S=some (.lst zs)->J i ys H h->(∀ b o,b≠S->h.get? b=some o->h'.get? b=some o)->(∃ o,h'.get? S=some o)->J i ys (upd H S (.lst zs')) h'
 fresh:∀ i ys H h,J i ys H h->H it=none
 item:∀(A:Around)(i:Nat)(s:Shared)(H:Hp)(ys:List V)(E:Value->Shared->Prop),A.handled=none->i < n->Inv X pins σ H s->J i ys H s.heap ->
  wpAny (model X.prog X.w) A (pyNext (.ref it)) (fun r s'=>∃ u x H',r=some u/\RelV x u/\Inv X pins σ H' s'/\J (i+1) (ys++[x]) H' s'.heap/\∀ S zs,H S=some (.lst zs)->H' S=some (.lst zs)) E s
 done:∀(A:Around)(s:Shared)(H:Hp)(ys:List V)(E:Value->Shared->Prop),A.handled=none->Inv X pins σ H s->J n ys H s.heap ->
  wpAny (model X.prog X.w) A (pyNext (.ref it)) (fun r s'=>r=none/\Inv X pins σ H s') E s
section
variable {X:Cx}{pins:List (Addr×Obj)}{σ:St}{it:Addr}{T:String}{n:Nat}{H0:Hp}{J:Nat->List V->Hp->Heap->Prop}
theorem Zg3 (C:Src X pins σ it T n H0 J)(hn:n<=sizeLine){A:Around}(hh:A.handled=none){R:Result->Shared->Prop}(S:Addr)(hS0:H0 S=none)(res:Value)
  (fin:∀ s' H' ys',Inv X pins σ H' s'->H' S=some (.lst ys')->ys'.length=n->(∃ h,J n ys' H' h)->R (.ok (.ret res)) s') :
  ∀(k i:Nat)(s:Shared)(H:Hp)(ys:List V),n - i=k->i<=n->Inv X pins σ H s->J i ys H s.heap->H S=some (.lst ys)->ys.length=i ->
  codeAny (model X.prog X.w) A (.builtin "list.extend.loop" ⟨[.ref S,.ref it,res],[]⟩) R s:=by
 intro k
 induction k with
 | zero =>
  intro i s H ys hk hi I j hS hl
  have hin:i=n:=by omega
  subst hin
  refine Uq PySem.F.entry_extend_loop ?_
  rw [Ue Tb _]
  show wpAny _ A.in1 (pyNext (.ref it) >>= _) _ _ s
  refine O1 (Aj (C.done A.in1 s H ys _ hh I j) fun r s' zq=>?_)
  obtain ⟨hr,I'⟩:=zq
  subst hr
  exact O2 (fin s' H ys I' hS hl ⟨_,j⟩)
 | succ k ih =>
  intro i s H ys hk hi I j hS hl
  have hlt:i < n:=by omega
  refine Uq PySem.F.entry_extend_loop ?_
  rw [Ue Tb _]
  show wpAny _ A.in1 (pyNext (.ref it) >>= _) _ _ s
  refine O1 (Aj (C.item A.in1 i s H ys _ hh hlt I j) fun r s' zq=>?_)
  obtain ⟨u,x,H',hr,rx,I',j',kS⟩:=zq
  subst hr
  have hS':=kS S ys hS
  obtain ⟨z,its,m,rv,hl',e⟩:=I'.lstM hS'
  show wpAny _ A.in1 (updateSeq S (·.push u) >>= _) _ _ _
  refine O1 ?_
  have hu:(its.toArray.push u)=(its++[u]).toArray:=by simp
  have I2:=I'.lset (f:=(·.push u)) (its':=its++[u]) (ys:=ys++[x]) (t':=s'.toks) hS' e hu (rv.append (.cons rx .nil)) (by rw [Pm,Rl];omega)
  refine Tq e rfl (O2 ⟨Tu Tb _,ih (i+1) _ _ (ys++[x]) (by omega) hlt I2 ?_ Ad (by simp [hl])⟩)
   (by rw [O5];omega) (by show (its.toArray.push u).size<=sizeLine+1;rw [Array.size_push,O5];omega)
  exact C.keep _ _ _ _ _ S ys (ys++[x]) hS0 hS' j' (fun b o hb eb=>(Qn _ _ (Ps hb)).trans eb) ⟨_,Rk _ e rfl⟩
theorem Ztc {H:Hp}(C:Src X pins σ it T n H J)(hn:n<=sizeLine){A:Around}(hh:A.handled=none){s:Shared}{Q:VK}{E:Value->Shared->Prop}(I:Inv X pins σ H s)(j:J 0 [] H s.heap)
  (jn:∀ S,s.heap.objs.size<=S->H S=none->∀ h',(∀ b o,s.heap.get? b=some o->h'.get? b=some o)->J 0 [] (upd H S (.lst [])) h')
  (q:∀ S H' ys,H S=none->H' S=some (.lst ys)->ys.length=n->(∃ h,J n ys H' h)->Q (.ref S) H') :
  wpAny (model X.prog X.w) A (call (.type "list") [.ref it]) (EP X pins σ Q) E s:=by
 have hf:H s.heap.objs.size=none:=I.hok.fresh (O3 _)
 have hne:s.heap.objs.size≠it:=by
  obtain ⟨o,e,_⟩:=C.ty _ _ _ _ j
  exact Re (O9 e)
 refine callType_codes (Q₁:=fun obj s₁=>obj=.ref s.heap.objs.size/\s₁={ s with heap:=s.heap.push { cls:=.type "list",data:=.seq #[] } }) PySem.F.called_list (PySem.F.typeCall_list_1 _) PySem.F.entry_list_init
  (code_list_new _ ⟨rfl,rfl⟩) fun obj s₁ h₁=>?_
 obtain ⟨rfl,rfl⟩:=h₁
 have hS:(s.heap.push { cls:=.type "list",data:=.seq #[] }).get? s.heap.objs.size=some { cls:=.type "list",data:=.seq #[] }:=Pe _ rfl
 have I1:Inv X pins σ (upd H s.heap.objs.size (.lst [])) { s with heap:=s.heap.push { cls:=.type "list",data:=.seq ([]:List Value).toArray } }:=I.lnew (ys:=[]) (its:=[]) (t':=s.toks) .nil (by simp)
 have j1:J 0 [] (upd H s.heap.objs.size (.lst [])) (s.heap.push { cls:=.type "list",data:=.seq ([]:List Value).toArray })   := jn _ (O3 _) hf _ fun b o e=>O6 _ e
 refine ⟨⟨_,hS,rfl⟩,PySem.F.args_list_init_2 _ _,?_⟩
 generalize hs1:({ s with heap:=s.heap.push { cls:=.type "list",data:=.seq ([]:List Value).toArray } }:Shared)=s1 at I1
 have hS1:s1.heap.get? s.heap.objs.size=some { cls:=.type "list",data:=.seq ([]:List Value).toArray }:=by rw [<- hs1];exact hS
 replace j1:J 0 [] (upd H s.heap.objs.size (.lst [])) s1.heap:=by rw [<- hs1];exact j1
 have hs1':({ s with heap:=s.heap.push { cls:=.type "list",data:=.seq #[] } }:Shared)=s1:=hs1
 first | rw [hs1'] | skip
 show wpAny _ A.in1.in1 (do let old <- Builtin.List.listItems (.ref s.heap.objs.size);Builtin.List.listUpdate (.ref s.heap.objs.size) (fun _=>#[]);letGo old.toList.reverse;U2 (.ref s.heap.objs.size) (.ref it) .none) _ _ s1
 generalize s.heap.objs.size=S at *
 refine O1 ?_
 unfold Builtin.List.listItems
 refine O1 (Q3 hS1 rfl (O2 ?_))
 show wpAny _ A.in1.in1 (updateSeq S (fun _=>#[]) >>= fun _=>letGo (#[]:Array Value).toList.reverse >>= fun _=>U2 (.ref S) (.ref it) .none) _ _ s1
 refine O1 (Tq hS1 rfl ?_)
 have I2:=I1.lset (f:=fun _=>#[]) (its':=[]) (ys:=[]) (t':=s1.toks) Ad hS1 rfl .nil (by simp)
 have hS2:=Rk (Qc (fun _=>(#[]:Array Value))) hS1 rfl
 have j2:=C.keep _ _ _ _ (s1.heap.update S (Qc fun _=>#[])) S [] [] hf Ad j1 (fun b o hb eb=>(Qn _ _ (Ps hb)).trans eb) ⟨_,hS2⟩
 rw [Za3] at I2 j2
 generalize hs2:({ s1 with heap:=s1.heap.update S (Qc fun _=>#[]),toks:=s1.toks }:Shared)=s2 at I2
 replace j2:J 0 [] (upd H S (.lst [])) s2.heap:=by rw [<- hs2];exact j2
 have hs2':({ s1 with heap:=s1.heap.update S (Qc fun _=>#[]) }:Shared)=s2:=hs2
 first | rw [hs2'] | skip
 refine O1 (U0 ?_)
 obtain ⟨oi,ei,ci⟩:=C.ty _ _ _ _ j2
 have hT:s2.TypeIs (.ref it) T:=⟨oi,ei,ci⟩
 unfold U2
 refine O1 (Ux hT ?_)
 have h1:Builtin.List.listSameRef (.ref S) (.ref it)=false:=by simp [Builtin.List.listSameRef,hne]
 have h2:=C.nl.1
 have h3:=C.nl.2
 simp only [h1,h2,h3,Bool.or_false,Sd,if_false]
 refine O1 (C.self _ s2 _ _ _ _ j2 ?_)
 refine O1 (P9 ?_)
 obtain ⟨mr,hmr⟩:=C.hint
 refine hmr _ _ _ _ hT ?_
 split
 ·show wpAny _ A.in1.in1 (rule "list.extend.makes-room" >>= fun _=>Builtin.List.listTouch (.ref S) >>= fun _ =>
   again (.builtin "list.extend.loop" ⟨[.ref S,.ref it,.none],[]⟩)) _ _ _
  refine O1 (T2 ?_)
  refine O1 ?_
  show wpAny _ A.in1.in1 (updateSeq S (·.push .none) >>= fun _=>updateSeq S (·.pop)) _ _ _
  obtain ⟨_,its2,m2,rv2,_,e2⟩:=I2.lstM Ad
  cases rv2
  refine O1 (Tq e2 rfl ?_)
  have I3:=I2.lset (f:=(·.push Value.none)) (its':=[.none]) (ys:=[.non]) (t':=s2.toks) Ad e2 (by simp) (.cons rfl .nil) (by show 1<=sizeLine;decide)
  have hS3:=Rk (Qc (·.push Value.none)) e2 rfl
  have j3:=C.keep _ _ _ _ (s2.heap.update S (Qc (·.push Value.none))) S [] [.non] hf Ad j2 (fun b o hb eb=>(Qn _ _ (Ps hb)).trans eb) ⟨_,hS3⟩
  rw [Za3] at I3 j3
  generalize hs3:({ s2 with heap:=s2.heap.update S (Qc (·.push Value.none)),toks:=s2.toks }:Shared)=s3 at I3
  replace j3:J 0 [] (upd H S (.lst [.non])) s3.heap:=by rw [<- hs3];exact j3
  have hs3':({ s2 with heap:=s2.heap.update S (Qc (·.push Value.none)) }:Shared)=s3:=hs3
  first | rw [hs3'] | skip
  obtain ⟨_,its3,m3,rv3,hl3,e3⟩:=I3.lstM Ad
  have hl3':its3.length=1:=hl3.symm
  refine Tq e3 rfl ?_ (by rw [O5,hl3'];decide) (by show its3.toArray.pop.size<=sizeLine+1;rw [Array.size_pop,O5,hl3'];decide)
  have I4:=I3.lset (f:=(·.pop)) (its':=[]) (ys:=[]) (t':=s3.toks) Ad e3 (by
   cases its3 with
   | nil=>simp at hl3'
   | cons a r=>cases r with
    | nil=>simp
    | cons b r'=>simp at hl3') .nil (by simp)
  have hS4:=Rk (Qc (·.pop)) e3 rfl
  have j4:=C.keep _ _ _ _ (s3.heap.update S (Qc (·.pop))) S [.non] [] hf Ad j3 (fun b o hb eb=>(Qn _ _ (Ps hb)).trans eb) ⟨_,hS4⟩
  rw [Za3] at I4 j4
  refine O2 ⟨Tu Tb _,Zg3 C hn (A:=A.in1) hh S hf .none ?_ n 0 _ _ [] rfl (Qb _) I4 j4 Ad rfl⟩
  intro s' H' ys' I' hS' hl' hj'
  exact ⟨rfl,.ref S,H',I',rfl,q S H' ys' hf hS' hl' hj'⟩
 ·refine O2 ⟨Tu Tb _,Zg3 C hn (A:=A.in1) hh S hf .none ?_ n 0 _ _ [] rfl (Qb _) I2 j2 Ad rfl⟩
  intro s' H' ys' I' hS' hl' hj'
  exact ⟨rfl,.ref S,H',I',rfl,q S H' ys' hf hS' hl' hj'⟩
end
section
variable {X:Cx}{pins:List (Addr×Obj)}{σ:St}{H:Hp}{s:Shared}{h':Heap}
theorem Inv.turned2 {t':Nat}{i1 i2:Addr}(I:Inv X pins σ H s)(k:∀ b o,b≠i1->b≠i2->s.heap.get? b=some o->h'.get? b=some o)(f1:FpOk X pins H i1)(f2:FpOk X pins H i2):Inv X pins σ H { s with heap:=h',toks:=t' }:=by
 obtain ⟨n1,l1,_,e1,c1,p1⟩:=f1
 obtain ⟨n2,l2,_,e2,c2,p2⟩:=f2
 have nit:∀ b u,H b=some u->b≠i1/\b≠i2:=fun b u e=>⟨(fun z=>by rw [z,n1] at e;exact nomatch e),(fun z=>by rw [z,n2] at e;exact nomatch e)⟩
 refine I.step (g':=s.gens) (d':=s.drawn) (ch:=[i1,i2]) (fun b hb=>?_) (fun b o _ _ hc e _=>k b o (fun z=>hc (by simp [z])) (fun z=>hc (by simp [z])) e) (fun b o _ _ hc e _=>⟨o.slots,k b o (fun z=>hc (by simp [z])) (fun z=>hc (by simp [z])) e⟩) (fun _ _ _ _ n=>n)
  (fun b o hc e=>⟨o,k b o (fun z=>hc (by simp [z])) (fun z=>hc (by simp [z])) e⟩) (fun _ _ e=>e) (fun _ _ _ e=>e) (fun b ps e=>⟨#[],by rw [e];simp⟩) (fun m hm=>?_) (fun b u e=>?_) I.bare
 ·rcases Pb.mp hb with rfl | hb
  ·exact ⟨e1,l1,c1,p1⟩
  ·rw [P8.mp hb]
   exact ⟨e2,l2,c2,p2⟩
 ·obtain ⟨o,es,ep,ho,r⟩:=hm
  exact ⟨o,es,ep,k _ o (Ps l1) (Ps l2) ho,r⟩
 ·refine (I.hok b u e).stay (fun c v hc q=>k c v ?_ ?_ q) (fun _ q=>q) fun _ _ q=>q
  ·rcases hc with z | z
   ·rw [z];exact (nit b u e).1
   ·exact (nit c _ z).1
  ·rcases hc with z | z
   ·rw [z];exact (nit b u e).2
   ·exact (nit c _ z).2
end
theorem FpOk.of {X:Cx}{pins:List (Addr×Obj)}{H H':Hp}{b:Addr}(f:FpOk X pins H b)(h:H' b=none):FpOk X pins H' b:=⟨h,f.2⟩
section
variable {X:Cx}
theorem Zor:bootBuiltins "list" = some (.type "list"):=by decide +kernel
end
noncomputable def Ig (K:O0)(a:Addr)(n:Nat):It :=
 ⟨fun i H=>∃ xs,SqL K H a xs/\xs.length=n/\i < n,fun i H x H'=>∃(t:Addr)(y:V),H t=none/\(∀ xs,SqL K H a xs->xs[i]?=some y)/\x=.ref t/\H'=upd H t (.tup [.int i,y]),fun i H=>i=n/\∃ xs,SqL K H a xs/\xs.length=n⟩
theorem Inv.pair {X:Cx}{pins:List (Addr×Obj)}{σ:St}{H:Hp}{s:Shared}{h':Heap}{tk:Nat}{i1 i2 T:Addr}{xs:List V}{its:List Value}(I:Inv X pins σ H s)(f1:FpOk X pins H i1)(f2:FpOk X pins H i2)
  (kk:∀ b o,b≠i1->b≠i2->s.heap.get? b=some o->h'.get? b=some o) (hT:s.heap.objs.size<=T) (rv:Vals xs its) (hz:xs.length<=sizeLine) (ht:h'.IsTuple T its.toArray):Inv X pins σ (upd H T (.tup xs)) { s with heap:=h',toks:=tk }:=by
 have hf:H T=none:=I.hok.fresh hT
 have I1:Inv X pins σ H { s with heap:=h',toks:=tk }:=I.turned2 kk f1 f2
 have hokN:HOk X.prog X.w (upd H T (.tup xs)) h':=fun b o e=>by
  by_cases hb:b=T
  ·subst hb
   rw [Ad] at e
   cases e
   exact ⟨hz,its,rv,ht⟩
  ·rw [Au hb] at e
   refine (I1.hok b o e).stay (fun c v _ q=>q) (fun c q=>?_) fun c zs q=>?_
   ·rw [Au (Bz q hf)];exact q
   ·rw [Au (Bz q hf)];exact q
 have u:Un (Bc X.stack) [i1,i2] H (upd H T (.tup xs)) s.heap h':={
  keep:=fun b o e n _ hx=>kk b o (fun z=>hx (by simp [z])) (fun z=>hx (by simp [z])) e
  slot:=fun b o e n _ hx=>⟨o.slots,kk b o (fun z=>hx (by simp [z])) (fun z=>hx (by simp [z])) e⟩
  free:=fun b o e n _=>by rw [Au (Pg (Pf (O9 e) hT))];exact n
  there:=fun b o e hx=>⟨o,kk b o (fun z=>hx (by simp [z])) (fun z=>hx (by simp [z])) e⟩
  tups:=fun b zs e=>by rw [Au (Bz e hf)];exact e
  frzs:=fun b o u e=>by rw [Au (Bz e hf)];exact e
  tbls:=fun b ps e=>⟨#[],by rw [Au (Bz e hf),e];simp⟩ }
 refine I.call (g':=s.gens) (d':=s.drawn) (t':=tk) u hokN I.bare fun b hb=>?_
 rcases Pb.mp hb with rfl | hb
 ·exact ⟨f1.2.2.2.1,f1.2.1,f1.2.2.2.2.1,f1.2.2.2.2.2⟩
 ·rw [P8.mp hb]
  exact ⟨f2.2.2.2.1,f2.2.1,f2.2.2.2.2.1,f2.2.2.2.2.2⟩
theorem Zq8 {P:Program}{w:World}{K:O0}{elts:List Expr}{kt:Nat}{pt:Pos}(a en it:Addr)(n:Nat)(hne:en≠it)(hae:a≠en)(hai:a≠it):E7 P w K (.Tuple elts kt pt) (Ig K a n) [en,it] en (fun i h=>(∃ old,IsEnum h en it i old)/\h.IsListIter it a i) where
 mem:=by simp
 obj:=fun i h st b hb=>by
  rcases Pb.mp hb with rfl | hb
  ·obtain ⟨old,e⟩:=st.1
   exact ⟨_,e,fun v z=>by
    have z':Data.fields _=Data.cell v:=z
    cases z'⟩
  ·rw [P8.mp hb]
   obtain ⟨o,e,c,d⟩:=st.2
   exact ⟨o,e,fun v z=>by rw [d] at z;cases z⟩
 keep:=fun i h h' st k=>⟨let ⟨old,e⟩:=st.1;⟨old,k en (by simp) _ e⟩,st.2.at fun o e=>k it (by simp) o e⟩
 item:=by
  intro X hP hw hK hc i pins s σ H E I hf st hg
  subst hP hw hK
  obtain ⟨xs,hq,hl,hi⟩:=hg
  obtain ⟨its,rv,p,hz⟩:=I.list hq
  have hlen:=rv.length
  have fe:=hf en (by simp)
  have fi:=hf it (by simp)
  have W:=WalksT.enumerateD (prog:=X.prog) (w:=X.w) (A:=X.A) (Draws.list (A:=X.A.in1) (I.ok.hd hc) it a hai its.toArray) en hne (by simp [hne,Ps hae]) (by simp)
  refine W.item i s _ _ (by rw [O5];omega) ⟨st.1,st.2,p.isList⟩ fun T vals h1 tk hP hT ht mid k1=>?_
  obtain ⟨t,x,hx,rfl⟩:=hP
  refine ⟨_,rfl,W.go elts kt pt i T _ _ _ mid fun h2 st2 k2=>?_⟩
  have hx':its[i]?=some x:=by simpa using hx
  have hxs:i < xs.length:=by omega
  obtain ⟨u,hu,ru⟩:=rv.get (O7 hxs)
  rw [hx'] at hu
  cases hu
  have hTw:T ∉ [en,it]:=W.apart i T _ mid
  have ht2:h2.IsTuple T ([.int i t,x]:List Value).toArray:=by
   obtain ⟨o,eo,r⟩:=ht
   exact ⟨o,k2 T o hTw eo,r⟩
  have kk:∀ b o,b≠en->b≠it->s.heap.get? b=some o->h2.get? b=some o:=fun b o h1 h3 e=>k2 b o (by simp [h1,h3]) (k1 b o (by simp [h1,h3]) e)
  have I2:=I.pair (tk:=tk) (T:=T) (xs:=[.int i,xs[i]]) fe fi kk hT (.cons ⟨t,rfl⟩ (.cons ru .nil)) (by show 2<=sizeLine;decide) ht2
  refine ⟨.ref T,_,I2,rfl,⟨T,xs[i],I.hok.fresh hT,fun ys hy=>by rw [I.list_inj hy hq];exact O7 hxs,rfl,rfl⟩,⟨st2.1,st2.2.1⟩,fun b hb=>?_⟩
  have hb':b≠T:=fun z=>hTw (z ▸ hb)
  rw [Au hb']
  exact (hf b hb).1
 done:=by
  intro X hP hw hK hc i pins s σ H E I hf st hg
  subst hP hw hK
  obtain ⟨rfl,xs,hq,hl⟩:=hg
  obtain ⟨its,rv,p,hz⟩:=I.list hq
  have hlen:=rv.length
  have fe:=hf en (by simp)
  have fi:=hf it (by simp)
  have W:=WalksT.enumerateD (prog:=X.prog) (w:=X.w) (A:=X.A) (Draws.list (A:=X.A.in1) (I.ok.hd hc) it a hai its.toArray) en hne (by simp [hne,Ps hae]) (by simp)
  have e:i=its.toArray.size:=by rw [O5];omega
  rw [e] at st
  exact W.done s _ _ ⟨st.1,st.2,p.isList⟩ fun h' tk kk=>⟨rfl,I.turned2 (fun b o h1 h2 e=>kk b o (by simp [h1,h2]) e) fe fi⟩
 self:=fun A i s Q E st h=>by
  obtain ⟨old,e⟩:=st.1
  exact wpAny_pyIter_enum e h
section
variable {X:Cx}
noncomputable def Zdi (K:O0)(ta:TA):TI:=fun σ H R=>ta σ H fun vs H1=>∃ a xs,vs=[.ref a]/\SqL K H1 a xs/\R (Ig K a xs.length) H1
theorem Zl3 {elts:List Expr}{kt:Nat}{pt:Pos}{e:Expr}{ta:TA}{p pos:Pos}(hg:Gl X "enumerate")(hm:X.mg "enumerate" = none)(ha:QA X [e] ta)(hs:starEach [e] X.env=[(false,eval e X.env)]:=by rfl):QI X (.Tuple elts kt pt) (.Call (.Name "enumerate" p) [e] [] pos) (Zdi X.K ta):=by
 refine ⟨fun pins s σ H R I h=>?_⟩
 refine Call_ (Fs I hg hm PyProof.Rows.boot_enumerate (R6 (Aj (ha.run pos pins s σ H _ I h) fun us s1 zq=>?_) hs rfl))
 obtain ⟨vs,H1,I1,r1,q1⟩:=zq
 obtain ⟨l,xs,e1,hq,q⟩:=q1
 subst e1
 cases r1 with
 | cons r rr =>
  cases rr
  cases r
  obtain ⟨its,rv,pl,hz⟩:=I1.list hq
  have hlt:l < s1.heap.objs.size:=by obtain ⟨o,e,_⟩:=pl.isList;exact O9 e
  refine call_enumerate_list pl.isList fun h' hen hit hsz hk=>?_
  refine wpAny_pyIter_enum hen ?_
  have fe:=I1.fpOk (b:=s1.heap.objs.size+1) (Sl _) (I1.hok.fresh (Sl _))
  have fi:=I1.fpOk (b:=s1.heap.objs.size) (O3 _) (I1.hok.fresh (O3 _))
  refine ⟨s1.heap.objs.size+1,[s1.heap.objs.size+1,s1.heap.objs.size],_,_,H1,rfl,I1.kept (t':=s1.toks) hk,Zq8 l _ _ xs.length (Nat.succ_ne_self _) (Pg (Nat.lt_succ_of_lt hlt)) (Pg hlt),⟨⟨_,hen⟩,hit⟩,fun b hb=>?_,q⟩
  rcases Pb.mp hb with rfl | hb
  ·exact fe
  ·rw [P8.mp hb]
   exact fi
theorem Zop {K:O0}{a:Addr}{xs:List V}{g:TG}{tb:TS}{D:Ends}{σ:St}{H:Hp}(Pv:Nat->St->Hp->Prop)(h0:Pv 0 σ H)(hl:∀ i σ H,i<=xs.length->Pv i σ H->SqL K H a xs)
  (hs:∀ i x t σ H,xs[i]?=some x->H t=none->Pv i σ H->g (.ref t) σ (upd H t (.tup [.int i,x])) fun σ2 H2=>tb { D with nx:=Pv (i+1),ct:=Pv (i+1),bk:=D.nx } σ2 H2) (hd:∀ σ H,Pv xs.length σ H->D.nx σ H) :
  ∃ W:Nat->Nat->St->Hp->Prop,(∃ m,W 0 m σ H)/\∀ i m σ H,W i m σ H ->
   ((Ig K a xs.length).stop i H/\D.nx σ H)\/((Ig K a xs.length).go i H/\∃ N:St->Hp->Prop,(∀ σ' H',N σ' H'->∃ m',m' < m/\W (i+1) m' σ' H')/\∀ x H',(Ig K a xs.length).yld i H x H'->g x σ H' fun σ2 H2=>tb { D with nx:=N,ct:=N,bk:=D.nx } σ2 H2):=by
 refine ⟨fun i m σ H=>m=xs.length - i/\i<=xs.length/\Pv i σ H,⟨xs.length,by simp,Qb _,h0⟩,?_⟩
 rintro i m σ H ⟨rfl,hi,p⟩
 have q:=hl i σ H hi p
 by_cases hlt:i < xs.length
 ·refine .inr ⟨⟨xs,q,rfl,hlt⟩,Pv (i+1),fun σ' H' p'=>⟨xs.length - (i+1),by omega,rfl,hlt,p'⟩,fun x H' y=>?_⟩
  obtain ⟨t,y,ht,hy,rfl,rfl⟩:=y
  exact hs i y t σ _ (hy xs q) ht p
 ·have e:i=xs.length:=by omega
  subst e
  exact .inl ⟨⟨rfl,xs,q,rfl⟩,hd σ H p⟩
end
end L2
namespace L2
open PySem PySem.SeqAt
open PySem.AutoSeq1 (wpAny_loadPart')
open PySem.MeetsSeq PySem.MeetsSeq2 PySem.MeetsSeq3 PySem.SeqRoads2
theorem Zom (l b:Addr)(items items2:Array Value)(n n2:Nat)(dd dd2:Option Addr)(sl sl2:Array (Option Value))(hsz:items.size=items2.size)(e:Nat->Bool)(k:Nat) :
  ∀ i:Nat,items.size - i=k->Meets (Builtin.«list.__eq__.loop» ⟨[.ref l,.ref b,rawInt i,rawInt 3],[]⟩)
   (fun A R s=>s.heap.get? l=some { cls:=.type "list",dict:=dd,data:=.seq items n,slots:=sl }/\s.heap.get? b=some { cls:=.type "list",dict:=dd2,data:=.seq items2 n2,slots:=sl2 } /\
    (∀ j (h1:j < items.size) (h2:j < items2.size),EqAt A.in1 s items[j] items2[j] (e j)) /\
    R (.ok (.ret (.bool (!((Pj items.size).drop i).all e)))) s):=by
 induction k with
 | zero =>
  intro i hk prog w A R s h
  obtain ⟨hp,g,d,tk,os⟩:=s;obtain ⟨hl,hb,he,h⟩:=h
  wp_walk using wpAny_loadPart' hl,wpAny_loadPart' hb
  have hi1:items[((i:Nat):Int).toNat]?=none:=by simp;omega
  have hi2:items2[((i:Nat):Int).toNat]?=none:=by simp;omega
  have hd:(Pj items.size).drop i=[]:=by simp;omega
  rw [hd] at h
  rw [hi1,hi2]
  wp_walk using wpAny_loadPart' hl,wpAny_loadPart' hb
  show R (.ok (.ret (.bool (items.size != items2.size)))) _
  rw [hsz]
  simpa using h
 | succ k ih =>
  intro i hk prog w A R s h
  obtain ⟨hp,g,d,tk,os⟩:=s;obtain ⟨hl,hb,he,h⟩:=h
  wp_walk using wpAny_loadPart' hl,wpAny_loadPart' hb
  have hlt:i < items.size:=by omega
  have hlt2:i < items2.size:=by omega
  have hi1:items[((i:Nat):Int).toNat]?=some items[i]:=by simp [hlt]
  have hi2:items2[((i:Nat):Int).toNat]?=some items2[i]:=by simp [hlt2]
  have hd:(Pj items.size).drop i=i::(Pj items.size).drop (i+1):=by simp [Ri,hlt]
  have hc:((i:Int)+1)=((i+1:Nat):Int):=by push_cast;rfl
  rw [hd,Si] at h
  rw [hi1,hi2]
  refine O1 (he i hlt hlt2 prog w _ _ ?_)
  cases hb':e i with
  | true =>
   rw [hb'] at h
   wp_walk
   rw [hc]
   exact ⟨Tu plain_eq_loop _,Uq entry_eq_loop (by
    rw [Ue plain_eq_loop _]
    exact ih (i+1) (by omega) prog w A R _ ⟨hl,hb,he,by simpa using h⟩)⟩
  | false =>
   rw [hb'] at h
   wp_walk using wpAny_loadPart' hl,wpAny_loadPart' hb
   rw [hi1,hi2]
   wp_walk
   simpa using h
theorem Zp9 (l b:Addr)(items items2:Array Value)(n n2:Nat)(dd dd2:Option Addr)(sl sl2:Array (Option Value))(hsz:items.size=items2.size)(e:Nat->Bool) :
  Meets (Builtin.«list.__ne__» ⟨[.ref l,.ref b],[]⟩)
   (fun A R s=>s.heap.get? l=some { cls:=.type "list",dict:=dd,data:=.seq items n,slots:=sl }/\s.heap.get? b=some { cls:=.type "list",dict:=dd2,data:=.seq items2 n2,slots:=sl2 } /\
    (∀ j (h1:j < items.size) (h2:j < items2.size),EqAt A.in1 s items[j] items2[j] (e j)) /\
    R (.ok (.ret (.bool (!(Pj items.size).all e)))) s):=by
 intro prog w A R s h
 obtain ⟨hp,g,d,tk,os⟩:=s;obtain ⟨hl,hb,he,h⟩:=h
 have f3:=PySem.AutoSeq1.sub_list_list
 have hne:¬ (items.size != items2.size)=true:=by simp [hsz]
 wp_walk using wpAny_loadPart' hl,wpAny_loadPart' hb
 exact ⟨Tu plain_eq_loop _,Uq entry_eq_loop (by
  rw [Ue plain_eq_loop _]
  exact Zom l b items items2 n n2 dd dd2 sl sl2 hsz e _ 0 rfl prog w A R _ ⟨hl,hb,he,by simpa using h⟩)⟩
theorem Zqz (l b:Addr)(items items2:Array Value)(n n2:Nat)(dd dd2:Option Addr)(sl sl2:Array (Option Value))(e:Nat->Bool) :
  Meets (Builtin.«tuple.__ne__» ⟨[.ref l,.ref b],[]⟩)
   (fun A R s=>s.heap.get? l=some { cls:=.type "tuple",dict:=dd,data:=.seq items n,slots:=sl }/\s.heap.get? b=some { cls:=.type "tuple",dict:=dd2,data:=.seq items2 n2,slots:=sl2 } /\
    (∀ j (h1:j < items.size) (h2:j < items2.size),EqAt A.in1 s items[j] items2[j] (e j)) /\
    R (.ok (.ret (.bool (!((Pj (min items.size items2.size)).all e && items.size == items2.size))))) s) :=
 .of_wp fun prog w A R s h=>by
  obtain ⟨hp,g,d,tk,os⟩:=s;obtain ⟨hl,hb,he,h⟩:=h
  have f2:=PySem.AutoSeq1.sub_tuple_tuple
  have hZ:(items.toList.zip items2.toList).length=min items.size items2.size:=by simp
  wp_walk using wpAny_loadPart' hl,wpAny_loadPart' hb,wpAny_forIn_list _ (fun rest b s'=>b.1=none/\s'=⟨hp,g,d,tk,os⟩/\∃ i,rest=(items.toList.zip items2.toList).drop i /\
   R (.ok (.ret (.bool (!(((Pj (min items.size items2.size)).drop i).all e && items.size == items2.size))))) ⟨hp,g,d,tk,os⟩) _
  case turn =>
   rintro ⟨y,x⟩ rest b s' ⟨hb',rfl,i,hz,hR⟩
   have hlt:i < (items.toList.zip items2.toList).length:=by
    rcases Nat.lt_or_ge i (items.toList.zip items2.toList).length with h' | h'
    ·exact h'
    ·rw [Ru h'] at hz;cases hz
   have hm:i < min items.size items2.size:=hZ ▸ hlt
   have h1:i < items.size:=Pf hm (Nat.min_le_left _ _)
   have h2:i < items2.size:=Pf hm (Nat.min_le_right _ _)
   rw [Ri hlt] at hz
   injection hz with hyx hrest
   have hy:y=items[i]:=by have:=congrArg Prod.fst hyx;simpa using this
   have hx:x=items2[i]:=by have:=congrArg Prod.snd hyx;simpa using this
   subst hy hx
   have hd:(Pj (min items.size items2.size)).drop i=i::(Pj (min items.size items2.size)).drop (i+1):=by simp [Ri,hm]
   rw [hd,Si] at hR
   refine O1 (he i h1 h2 prog w _ _ ?_)
   cases hy:e i with
   | true =>
    rw [hy] at hR
    wp_walk
    exact ⟨rfl,rfl,i+1,hrest,by simpa using hR⟩
   | false =>
    rw [hy] at hR
    wp_walk
    exact ⟨_,rfl,by simpa using hR⟩
  case fin =>
   rintro ⟨b1,b2⟩ s' ⟨hb',rfl,i,hz,hR⟩
   simp only at hb'
   subst hb'
   have hge:min items.size items2.size<=i:=by
    rcases Nat.lt_or_ge i (items.toList.zip items2.toList).length with h' | h'
    ·rw [Ri h'] at hz;cases hz
    ·exact hZ ▸ h'
   rw [Ru (by simpa using hge)] at hR
   wp_walk
   exact ⟨_,rfl,by simpa [Builtin.Tuple.tupleCompareSizes,bne] using hR⟩
  case h =>
   exact ⟨rfl,rfl,0,rfl,by simpa using h⟩
section
variable {prog:Program}{w:World}{A:Around}{E:Value->Shared->Prop}{s:Shared}
theorem Zes {l b:Addr}{items items2:Array Value}{e:Nat->Bool}{Q:Value->Shared->Prop}(hl:s.heap.IsList l items)(hb:s.heap.IsList b items2)(hsz:items.size=items2.size)(hu:A.units < cLine)
  (he:∀ j (h1:j < items.size) (h2:j < items2.size),EqAt A.in1 s items[j] items2[j] (e j)) (h:Q (.bool (!(Pj items.size).all e)) s):wpAny (model prog w) A (compareOp .NotEq (.ref l) (.ref b)) Q E s:=by
 obtain ⟨⟨cls,dd,data,sl⟩,ho,hc,n,hd⟩:=id hl
 obtain ⟨⟨cls2,dd2,data2,sl2⟩,ho2,hc2,n2,hd2⟩:=id hb
 simp only at hc hd hc2 hd2
 subst hc hd hc2 hd2
 exact richCompare_meets_room (op:=.NotEq) ⟨_,ho,rfl⟩ ⟨_,ho2,rfl⟩ F.slot_list_ne F.entry_list_ne (F.args_list_ne_2 _ _) (Zp9 l b items items2 n n2 dd dd2 sl sl2 hsz e)
  ⟨ho,ho2,he,show Value.bool (!(Pj items.size).all e)≠Value.notImplemented/\Q (.bool (!(Pj items.size).all e)) s from ⟨(fun x=>nomatch x),h⟩⟩ hu
theorem Zrl {l b:Addr}{items items2:Array Value}{e:Nat->Bool}{Q:Value->Shared->Prop}(hl:s.heap.IsTuple l items)(hb:s.heap.IsTuple b items2)(hu:A.units < cLine)
  (he:∀ j (h1:j < items.size) (h2:j < items2.size),EqAt A.in1 s items[j] items2[j] (e j)) (h:Q (.bool (!((Pj (min items.size items2.size)).all e && items.size == items2.size))) s):wpAny (model prog w) A (compareOp .NotEq (.ref l) (.ref b)) Q E s:=by
 obtain ⟨⟨cls,dd,data,sl⟩,ho,hc,n,hd⟩:=id hl
 obtain ⟨⟨cls2,dd2,data2,sl2⟩,ho2,hc2,n2,hd2⟩:=id hb
 simp only at hc hd hc2 hd2
 subst hc hd hc2 hd2
 exact richCompare_meets_room (op:=.NotEq) ⟨_,ho,rfl⟩ ⟨_,ho2,rfl⟩ F.slot_tuple_ne F.entry_tuple_ne (F.args_tuple_ne_2 _ _) (Zqz l b items items2 n n2 dd dd2 sl sl2 e)
  ⟨ho,ho2,he,show Value.bool (!((Pj (min items.size items2.size)).all e && items.size == items2.size))≠Value.notImplemented/\Q (.bool (!((Pj (min items.size items2.size)).all e && items.size == items2.size))) s from ⟨(fun x=>nomatch x),h⟩⟩ hu
end
end L2
namespace L2
open PySem PySem.Spec PyProof.Rows
inductive Dt where
 | flat (v:V)
 | tup (ds:List Dt)
 | lst (ds:List Dt)
inductive IsD (K:O0)(H:Hp):Nat->V->Dt->Prop where
 | flat {n:Nat} {v:V} (h:Cy v=true):IsD K H n v (.flat v)
 | tup {n:Nat} {a:Addr} {vs:List V} {ds:List Dt} (q:SqT K H a vs) (l:vs.length=ds.length) (h:∀(j:Nat)(v:V)(d:Dt),vs[j]?=some v->ds[j]?=some d->IsD K H n v d):IsD K H (n+1) (.ref a) (.tup ds)
 | lst {n:Nat} {a:Addr} {vs:List V} {ds:List Dt} (q:SqL K H a vs) (l:vs.length=ds.length) (h:∀(j:Nat)(v:V)(d:Dt),vs[j]?=some v->ds[j]?=some d->IsD K H n v d):IsD K H (n+1) (.ref a) (.lst ds)
theorem IsD.up {K:O0}{H:Hp}{n m:Nat}{v:V}{d:Dt}(h:IsD K H n v d)(hm:n<=m):IsD K H m v d:=by
 induction h generalizing m with
 | flat h=>exact .flat h
 | tup q l _ ih =>
  obtain ⟨k,rfl⟩:∃ k,m=k+1:=⟨m - 1,by omega⟩
  exact .tup q l fun j v d e1 e2=>ih j v d e1 e2 (by omega)
 | lst q l _ ih =>
  obtain ⟨k,rfl⟩:∃ k,m=k+1:=⟨m - 1,by omega⟩
  exact .lst q l fun j v d e1 e2=>ih j v d e1 e2 (by omega)
theorem Zfd {v:V}(h:Cy v=true):D4 v v=true:=by
 cases v with
 | non=>rfl
 | bl b=>simp [D4]
 | int i=>simp [D4]
 | str x=>simp [D4]
 | byt _=>cases h
 | flt _=>cases h
 | ref _=>cases h
 | ty _=>cases h
section
variable {X:Cx}{pins:List (Addr×Obj)}{σ:St}{H:Hp}{s:Shared}
theorem Zn4 (I:Inv X pins σ H s):∀{n:Nat}{x y:V}{d:Dt},IsD X.K H n x d->IsD X.K H n y d->∀{A:Around}{u v:Value},RelV x u->RelV y v->A.units+n < cLine->Pi A s u v true:=by
 intro n
 induction n with
 | zero =>
  intro x y d hx hy A u v rx ry hu
  cases hx with
  | flat fx =>
   cases hy with
   | flat fy =>
    have:=Zbr (A:=A) (s:=s) rx ry fx fy
    rw [Zfd fx] at this
    exact this
 | succ n ih =>
  intro x y d hx hy A u v rx ry hu
  cases hx with
  | flat fx =>
   cases hy with
   | flat fy =>
    have:=Zbr (A:=A) (s:=s) rx ry fx fy
    rw [Zfd fx] at this
    exact this
  | @tup _ a vs ds q l h =>
   cases hy with
   | @tup _ b ws _ q' l' h' =>
    cases rx
    cases ry
    by_cases hab:a=b
    ·subst hab
     exact Um _
    obtain ⟨its,r1,p1,_⟩:=I.tuple q
    obtain ⟨its2,r2,p2,_⟩:=I.tuple q'
    have l1:=r1.length
    have l2:=r2.length
    have:=SeqAt.RcAt.tuples (A:=A) (e:=fun _=>true) (show s.heap.IsTuple a its.toArray from p1) (show s.heap.IsTuple b its2.toArray from p2) (by omega) fun j h1 h2=>by
     have h1':j < vs.length:=by simp only [O5] at h1;omega
     have h2':j < ws.length:=by simp only [O5] at h2;omega
     obtain ⟨u1,g1,k1⟩:=r1.get (O7 h1')
     obtain ⟨u2,g2,k2⟩:=r2.get (O7 h2')
     have e1:its.toArray[j]=u1:=by
      have:its[j]?=some its[j]:=by simp
      rw [this] at g1
      simpa using g1
     have e2:its2.toArray[j]=u2:=by
      have:its2[j]?=some its2[j]:=by simp
      rw [this] at g2
      simpa using g2
     rw [e1,e2]
     have hd:j < ds.length:=by omega
     exact ih (h j _ _ (O7 h1') (O7 hd)) (h' j _ _ (O7 h2') (O7 hd)) k1 k2 (by show A.units+1+n < cLine;omega)
    have e:((Pj (min its.toArray.size its2.toArray.size)).all (fun _=>true) && its.toArray.size == its2.toArray.size)=true:=by
     have:its.toArray.size=its2.toArray.size:=by simp only [O5];omega
     rw [this]
     simp
    rw [e] at this
    exact Pi.of_refs hab this
  | @lst _ a vs ds q l h =>
   cases hy with
   | @lst _ b ws _ q' l' h' =>
    cases rx
    cases ry
    by_cases hab:a=b
    ·subst hab
     exact Um _
    obtain ⟨its,r1,p1,_⟩:=I.list q
    obtain ⟨its2,r2,p2,_⟩:=I.list q'
    have l1:=r1.length
    have l2:=r2.length
    have:=SeqAt.RcAt.lists (A:=A) (e:=fun _=>true) p1.isList p2.isList (by simp only [O5];omega) (by omega) fun j h1 h2=>by
     have h1':j < vs.length:=by simp only [O5] at h1;omega
     have h2':j < ws.length:=by simp only [O5] at h2;omega
     obtain ⟨u1,g1,k1⟩:=r1.get (O7 h1')
     obtain ⟨u2,g2,k2⟩:=r2.get (O7 h2')
     have e1:its.toArray[j]=u1:=by
      have:its[j]?=some its[j]:=by simp
      rw [this] at g1
      simpa using g1
     have e2:its2.toArray[j]=u2:=by
      have:its2[j]?=some its2[j]:=by simp
      rw [this] at g2
      simpa using g2
     rw [e1,e2]
     have hd:j < ds.length:=by omega
     exact ih (h j _ _ (O7 h1') (O7 hd)) (h' j _ _ (O7 h2') (O7 hd)) k1 k2 (by show A.units+1+n < cLine;omega)
    have e:(Pj its.toArray.size).all (fun _=>true)=true:=by simp
    rw [e] at this
    exact Pi.of_refs hab this
theorem Nv (I:Inv X pins σ H s){n:Nat}{A:Around}{vs ws:List V}{its its2:List Value}{ds:List Dt}(r1:Vals vs its)(r2:Vals ws its2)(l:vs.length=ds.length)(l':ws.length=ds.length)
  (h:∀(j:Nat)(v:V)(d:Dt),vs[j]?=some v->ds[j]?=some d->IsD X.K H n v d) (h':∀(j:Nat)(v:V)(d:Dt),ws[j]?=some v->ds[j]?=some d->IsD X.K H n v d) (hu:A.units+n < cLine) :
  ∀ j (h1:j < its.toArray.size) (h2:j < its2.toArray.size),Pi A s its.toArray[j] its2.toArray[j] ((fun _=>true) j):=fun j h1 h2=>by
 have l1:=r1.length
 have l2:=r2.length
 have h1':j < vs.length:=by simp only [O5] at h1;omega
 have h2':j < ws.length:=by simp only [O5] at h2;omega
 obtain ⟨u1,g1,k1⟩:=r1.get (O7 h1')
 obtain ⟨u2,g2,k2⟩:=r2.get (O7 h2')
 have e1:its.toArray[j]=u1:=by
  have:its[j]?=some its[j]:=by simp
  rw [this] at g1
  simpa using g1
 have e2:its2.toArray[j]=u2:=by
  have:its2[j]?=some its2[j]:=by simp
  rw [this] at g2
  simpa using g2
 rw [e1,e2]
 have hd:j < ds.length:=by omega
 exact Zn4 I (h j _ _ (O7 h1') (O7 hd)) (h' j _ _ (O7 h2') (O7 hd)) k1 k2 hu
end
section
variable {X:Cx}
noncomputable def My (K:O0)(b:Bool):R2:=fun x y H Q=>∃(a c:Addr)(n:Nat)(d:Dt),x=.ref a/\y=.ref c/\n<=190/\IsD K H n x d/\IsD K H n y d/\Q (.bl b) H
theorem Znz (hu:X.A.units+200 < cLine):OpR X (compareOp .Eq) (My X.K true):=by
 intro pins s σ H x y v u Q I rx ry h
 obtain ⟨a,c,n,d,rfl,rfl,hn,hx,hy,q⟩:=h
 cases rx
 cases ry
 cases hx with
 | flat fx=>cases fx
 | @tup n _ vs ds qx l hd =>
  cases hy with
  | @tup _ _ ws _ qy l' hd' =>
   obtain ⟨its,r1,p1,_⟩:=I.tuple qx
   obtain ⟨its2,r2,p2,_⟩:=I.tuple qy
   have l1:=r1.length
   have l2:=r2.length
   refine SeqAt.eq_tupleAt (e:=fun _=>true) (show s.heap.IsTuple a its.toArray from p1) (show s.heap.IsTuple c its2.toArray from p2) (by omega) (Nv I r1 r2 l l' hd hd' (by show X.A.units+1+n < cLine;omega)) ?_
   have e:((Pj (min its.toArray.size its2.toArray.size)).all (fun _=>true) && its.toArray.size == its2.toArray.size)=true:=by
    have:its.toArray.size=its2.toArray.size:=by simp only [O5];omega
    rw [this]
    simp
   rw [e]
   exact ⟨.bl true,H,I,rfl,q⟩
 | @lst n _ vs ds qx l hd =>
  cases hy with
  | @lst _ _ ws _ qy l' hd' =>
   obtain ⟨its,r1,p1,_⟩:=I.list qx
   obtain ⟨its2,r2,p2,_⟩:=I.list qy
   have l1:=r1.length
   have l2:=r2.length
   refine SeqAt.eq_listAt (e:=fun _=>true) p1.isList p2.isList (by simp only [O5];omega) (by omega) (Nv I r1 r2 l l' hd hd' (by show X.A.units+1+n < cLine;omega)) ?_
   have e:(Pj its.toArray.size).all (fun _=>true)=true:=by simp
   rw [e]
   exact ⟨.bl true,H,I,rfl,q⟩
theorem Zit (hu:X.A.units+200 < cLine):OpR X (compareOp .NotEq) (My X.K false):=by
 intro pins s σ H x y v u Q I rx ry h
 obtain ⟨a,c,n,d,rfl,rfl,hn,hx,hy,q⟩:=h
 cases rx
 cases ry
 cases hx with
 | flat fx=>cases fx
 | @tup n _ vs ds qx l hd =>
  cases hy with
  | @tup _ _ ws _ qy l' hd' =>
   obtain ⟨its,r1,p1,_⟩:=I.tuple qx
   obtain ⟨its2,r2,p2,_⟩:=I.tuple qy
   have l1:=r1.length
   have l2:=r2.length
   refine Zrl (e:=fun _=>true) (show s.heap.IsTuple a its.toArray from p1) (show s.heap.IsTuple c its2.toArray from p2) (by omega) (Nv I r1 r2 l l' hd hd' (by show X.A.units+1+n < cLine;omega)) ?_
   have e:(!((Pj (min its.toArray.size its2.toArray.size)).all (fun _=>true) && its.toArray.size == its2.toArray.size))=false:=by
    have:its.toArray.size=its2.toArray.size:=by simp only [O5];omega
    rw [this]
    simp
   rw [e]
   exact ⟨.bl false,H,I,rfl,q⟩
 | @lst n _ vs ds qx l hd =>
  cases hy with
  | @lst _ _ ws _ qy l' hd' =>
   obtain ⟨its,r1,p1,_⟩:=I.list qx
   obtain ⟨its2,r2,p2,_⟩:=I.list qy
   have l1:=r1.length
   have l2:=r2.length
   refine Zes (e:=fun _=>true) p1.isList p2.isList (by simp only [O5];omega) (by omega) (Nv I r1 r2 l l' hd hd' (by show X.A.units+1+n < cLine;omega)) ?_
   have e:(!(Pj its.toArray.size).all (fun _=>true))=false:=by simp
   rw [e]
   exact ⟨.bl false,H,I,rfl,q⟩
noncomputable def Mg (K:O0):R2:=fun x y H Q=>rEq x y H Q\/My K true x y H Q
noncomputable def Ks (K:O0):R2:=fun x y H Q=>rNe x y H Q\/My K false x y H Q
theorem Zlc (hu:X.A.units+200 < cLine):OpR X (compareOp .Eq) (Mg X.K):=op_eq.or (Znz hu)
theorem Zfw (hu:X.A.units+200 < cLine):OpR X (compareOp .NotEq) (Ks X.K):=op_ne.or (Zit hu)
theorem s_eq {K:O0}{x y:V}{H:Hp}{Q:VK}(hs:Ng x y=true)(h:Q (.bl (decide (x=y))) H):Mg K x y H Q:=.inl ⟨hs,h⟩
theorem s_ne {K:O0}{x y:V}{H:Hp}{Q:VK}(hs:Ng x y=true)(h:Q (.bl (!decide (x=y))) H):Ks K x y H Q:=.inl ⟨hs,h⟩
theorem Zp3 {K:O0}{a c:Addr}{H:Hp}{Q:VK}{n:Nat}{d:Dt}(hn:n<=190)(hx:IsD K H n (.ref a) d)(hy:IsD K H n (.ref c) d)(h:Q (.bl true) H):Mg K (.ref a) (.ref c) H Q:=.inr ⟨a,c,n,d,rfl,rfl,hn,hx,hy,h⟩
theorem Zoo {K:O0}{a c:Addr}{H:Hp}{Q:VK}{n:Nat}{d:Dt}(hn:n<=190)(hx:IsD K H n (.ref a) d)(hy:IsD K H n (.ref c) d)(h:Q (.bl false) H):Ks K (.ref a) (.ref c) H Q:=.inr ⟨a,c,n,d,rfl,rfl,hn,hx,hy,h⟩
theorem Room.u200 {k:Nat}{A:Around}(r:Room k A):A.units+200 < cLine:=by have:=r.un;omega
end
section
variable {t u:TS}{c d:TT}{te ta tb tc:TE}{g:TG}{gs:D0}{ts:TA}{D:Ends}{σ:St}{H:Hp}{Q:VK}{QB:Bool->Hp->Prop}{QA':List V->Hp->Prop}
theorem s_seq (h:t { D with nx:=u D } σ H):Zc7 t u D σ H:=h
theorem s_asg (h:te σ H fun x H1=>g x σ H1 D.nx):F3 te g D σ H:=h
theorem s_ret (h:te σ H D.rt):Zcx te D σ H:=h
theorem s_drop (h:te σ H fun _ H1=>D.nx σ H1):Zdc te D σ H:=h
theorem s_next (h:D.nx σ H):Zbw D σ H:=h
theorem s_ifS (h:c σ H fun b H1=>if b=true then t D σ H1 else u D σ H1):F8 c t u D σ H:=h
theorem s_var {i:Nat}{v:V}(e:σ[i]?=some (some v))(h:Q v H):Iz i σ H Q:=⟨v,e,h⟩
theorem s_c {v:V}(h:Q v H):tC v σ H Q:=h
theorem s_op {r:R2}(h:ta σ H fun x H1=>tb σ H1 fun y H2=>r x y H2 Q):Dl r ta tb σ H Q:=h
theorem s_un {r:V->Hp->VK->Prop}(h:ta σ H fun x H1=>r x H1 Q):tUn r ta σ H Q:=h
theorem s_test (h:te σ H fun x H'=>∃ k,x=.bl k/\QB k H'):Kb te σ H QB:=h
theorem s_tB (h:te σ H fun x H'=>∃ k,x=.bl k/\QB k H'):tB te σ H QB:=h
theorem s_ex {b:Bool}{P:Bool->Prop}(h:P b):∃ k,V.bl b=V.bl k/\P k:=⟨b,rfl,h⟩
theorem s_exi {i:Int}{P:Int->Prop}(h:P i):∃ k,V.int i=V.int k/\P k:=⟨i,rfl,h⟩
theorem s_not (h:c σ H fun b H1=>QB (!b) H1):Zbi c σ H QB:=h
theorem s_and (h:c σ H fun b H1=>if b=true then d σ H1 QB else QB false H1):Zar c d σ H QB:=h
theorem s_or (h:c σ H fun b H1=>if b=true then QB true H1 else d σ H1 QB):tOr c d σ H QB:=h
theorem s_andV (h:ta σ H fun x H1=>∃ k,x=.bl k/\if k=true then tb σ H1 Q else Q (.bl false) H1):Le ta tb σ H Q:=h
theorem s_orV (h:ta σ H fun x H1=>∃ k,x=.bl k/\if k=true then Q (.bl true) H1 else tb σ H1 Q):Zcm ta tb σ H Q:=h
theorem s_notV (h:ta σ H fun x H1=>∃ k,x=.bl k/\Q (.bl (!k)) H1):Zcu ta σ H Q:=h
theorem s_nil (h:QA' [] H):E2 σ H QA':=h
theorem s_cons (h:te σ H fun x H1=>ts σ H1 fun xs H2=>QA' (x::xs) H2):F9 te ts σ H QA':=h
theorem s_vals {xs:List V}(h:QA' xs H):Zbs xs σ H QA':=h
theorem s_tup (h:ts σ H fun xs H1=>xs.length<=sizeLine/\∀ p,H1 p=none->Q (.ref p) (upd H1 p (.tup xs))):Zb8 ts σ H Q:=h
theorem s_lst (h:ts σ H fun xs H1=>xs.length<=sizeLine/\∀ p,H1 p=none->Q (.ref p) (upd H1 p (.lst xs))):Om ts σ H Q:=h
theorem s_call {sp:Sp}{dvs:List V}{E:XK}(h:ts σ H fun vs H1=>sp (vs++dvs) H1 Q E):Go sp dvs E ts σ H Q:=h
theorem s_cb {r:List V->Hp->VK->Prop}(h:ts σ H fun vs H1=>r vs H1 Q):Jm r ts σ H Q:=h
theorem s_bm {K:O0}{T:String}{r:V->List V->Hp->VK->Prop}(h:te σ H fun x H1=>Ii K T x H1/\ts σ H1 fun xs H2=>r x xs H2 Q):tBM K T r te ts σ H Q:=h
theorem s_bm0 {K:O0}{T:String}{r:V->List V->Hp->VK->Prop}(h:te σ H fun x H1=>Ii K T x H1/\r x [] H1 Q):M2 K T r te σ H Q:=h
theorem s_sl {r:V->Option Int->Option Int->Hp->VK->Prop}{tl th:TO}(h:te σ H fun x H1=>tl σ H1 fun l H2=>th σ H2 fun u H3=>r x l u H3 Q):tSl r te tl th σ H Q:=h
theorem s_po {QO':Option Int->Hp->Prop}(h:te σ H fun x H1=>∃ i,x=.int i/\QO' (some i) H1):Zcc te σ H QO':=h
theorem s_po0 {QO':Option Int->Hp->Prop}(h:QO' none H):Oy σ H QO':=h
theorem s_gname {i:Nat}{v:V}{QS':St->Hp->Prop}(h:QS' (σ.set i (some v)) H):Ga i v σ H QS':=h
theorem Gw {K:O0}{n:Nat}{a:Addr}{xs:List V}{QS':St->Hp->Prop}(q:SqT K H a xs)(l:xs.length=n)(h:gs xs σ H QS'):Na K n gs (.ref a) σ H QS':=⟨a,xs,rfl,q,l,h⟩
theorem s_gcons {v:V}{r:List V}{QS':St->Hp->Prop}(h:g v σ H fun σ' H'=>gs r σ' H' QS'):Zc2 g gs (v::r) σ H QS':=⟨v,r,rfl,h⟩
theorem s_gnil {QS':St->Hp->Prop}(h:QS' σ H):Zb5 [] σ H QS':=⟨rfl,h⟩
theorem s_gsub {to ti:TE}{tt:Kr}{v:V}{QS':St->Hp->Prop}(h:to σ H fun o H1=>ti σ H1 fun i H2=>tt o i v H2 fun H3=>QS' σ H3):Zdd to ti tt v σ H QS':=h
theorem s_isN (h:ta σ H fun x H1=>Q (.bl (decide (x=.non))) H1):Zcv ta σ H Q:=h
theorem s_notN (h:ta σ H fun x H1=>Q (.bl (!decide (x=.non))) H1):Zcw ta σ H Q:=h
end
section
variable {wi:TI}{σ0:St->St}{g:TG}{tt:TT}{te:TE}{ta:TA}{tb:TS}{D:Ends}{σ:St}{H:Hp}{Q:VK}{R:It->Hp->Prop}{K:O0}
theorem s_comp (h:wi σ H fun J H1=>∀ L,H1 L=none->Oa J g tt te (σ0 σ) H1 L Q):Lj wi σ0 g tt te σ H Q:=h
theorem s_for (h:wi σ H fun J H1=>∃ W:Nat->Nat->St->Hp->Prop,(∃ m,W 0 m σ H1)/\∀ i m σ H,W i m σ H ->
 (J.stop i H/\D.nx σ H)\/(J.go i H/\∃ N:St->Hp->Prop,(∀ σ' H',N σ' H'->∃ m',m' < m/\W (i+1) m' σ' H')/\∀ x H',J.yld i H x H'->g x σ H' fun σ2 H2=>tb { D with nx:=N,ct:=N,bk:=D.nx } σ2 H2)):Zc4 wi g tb D σ H:=h
theorem s_rng1 (h:ta σ H fun vs H1=>∃ j:Int,vs=[.int j]/\-(2 ^ 62)<=j/\j < 2 ^ 62/\R (Gg 0 j.toNat) H1):Zax ta σ H R:=h
theorem s_rng3 (h:ta σ H fun vs H1=>∃ i j:Int,vs=[.int i,.int j,.int (-1)]/\(-(2 ^ 62)<=i/\i < 2 ^ 62/\-(2 ^ 62)<=j/\j < 2 ^ 62)/\R (Jo i (i - j).toNat) H1):Zgj ta σ H R:=h
theorem s_exr {i:Int}{P:Int->Prop}(h:P i):∃ j,([V.int i]:List V)=[.int j]/\P j:=⟨i,rfl,h⟩
theorem s_exr3 {i j k:Int}{P:Int->Int->Prop}(hk:k=-1)(h:P i j):∃ a b,([V.int i,V.int j,V.int k]:List V)=[.int a,.int b,.int (-1)]/\P a b:=⟨i,j,by rw [hk],h⟩
theorem s_iany (h:te σ H fun x H1=>(∃ a,x=.ref a/\(∃ xs,SqL K H1 a xs)/\R (Jr K a) H1)\/(∃ a,x=.ref a/\(∃ xs,SqT K H1 a xs)/\R (Jp K a) H1)\/∃ z,x=.str z/\R (Its z) H1):Ou K te σ H R:=h
theorem s_irev (h:ta σ H fun vs H1=>∃ a xs,vs=[.ref a]/\SqL K H1 a xs/\R (Je K a xs.length) H1):Zal K ta σ H R:=h
theorem s_ienum (h:ta σ H fun vs H1=>∃ a xs,vs=[.ref a]/\SqL K H1 a xs/\R (Ig K a xs.length) H1):Zdi K ta σ H R:=h
theorem s_yes {QB:Bool->Hp->Prop}(h:QB true H):Zb6 σ H QB:=h
theorem s_turn {L:Addr}{Nx:List V->St->Hp->Prop}{x:V}(h:g x σ H fun σ2 H3=>tt σ2 H3 fun b H4=>if b=true then te σ2 H4 fun y H5=>∃ ys,H5 L=some (.lst ys)/\ys.length < sizeLine/\(∃ zs,upd H5 L (.lst (ys++[y])) L=some (.lst zs)/\Nx zs σ2 (upd H5 L (.lst (ys++[y])))) else ∃ zs,H4 L=some (.lst zs)/\Nx zs σ2 H4):Zao g tt te L Nx x σ H:=h
theorem Du {l:Addr}{xs:List V}{y:V}(e:H l=some (.lst xs))(z:xs.length < sizeLine)(h:Q .non (upd H l (.lst (xs++[y])))):Zc5 (.ref l) [y] H Q:=⟨l,xs,y,rfl,rfl,e,z,h⟩
theorem Zcn {l:Addr}{xs:List V}{y:V}(e:H l=some (.lst (xs++[y])))(h:Q y (upd H l (.lst xs))):rPop (.ref l) [] H Q:=⟨l,xs++[y],y,rfl,rfl,e,by simp,by simpa using h⟩
theorem Zjy {l:Addr}{xs:List V}(e:H l=some (.lst xs))(h:Q .non (upd H l (.lst []))):Zh3 (.ref l) [] H Q:=⟨l,xs,rfl,rfl,e,h⟩
theorem Zi9 {sep:Str}{p:Addr}{ys:List Str}(hq:SqL K H p (ys.map V.str))(hz:(ys.map (·.length)).sum+ys.length * sep.length<=16777216)(h:Q (.str (Q7 sep ys)) H):Zcf K (.str sep) [.ref p] H Q:=⟨sep,p,ys,rfl,rfl,hq,hz,h⟩
theorem Zex {p:Addr}{xs:List V}{k:Int}{j:Nat}{v:V}{QH:Hp->Prop}(e:H p=some (.lst xs))(hj:Dq xs.length k=some j)(h:QH (upd H p (.lst (xs.set j v)))):Zg5 (.ref p) (.int k) v H QH:=⟨p,xs,k,j,rfl,rfl,e,hj,h⟩
end
section
variable {X:Cx}(K:O0)
theorem Bj (hK:X.K=K:=by rfl):OpR X (binaryOp .Add) (Ih K):=by subst hK;exact Zjp
theorem A5 (hu:X.A.units+200 < cLine)(hK:X.K=K:=by rfl):OpR X (compareOp .Eq) (Mg K):=by subst hK;exact Zlc hu
theorem Ky (hu:X.A.units+200 < cLine)(hK:X.K=K:=by rfl):OpR X (compareOp .NotEq) (Ks K):=by subst hK;exact Zfw hu
theorem Eh (hK:X.K=K:=by rfl):OpR X (compareOp .In) (J1 K false):=by subst hK;exact Zn0
theorem Zbt (hK:X.K=K:=by rfl):OpR X (compareOp .NotIn) (J1 K true):=by subst hK;exact Zlh
theorem k_ix (hK:X.K=K:=by rfl):IxR X (Gx K):=by subst hK;exact Zn1
theorem Od (hK:X.K=K:=by rfl):SlR X (Mv K):=by subst hK;exact Zta
theorem Cp (hK:X.K=K:=by rfl):Cm X (.builtin "len") (Ji K):=by subst hK;exact Zqr
theorem Zo9 (hK:X.K=K:=by rfl):Fd X "str.join" (Zcf K):=by subst hK;exact Zqm
inductive TyQ (K:O0)(H:Hp):V->Value->Prop where
 | ty {x:V} {t:Value} (h:Di K H x t):TyQ K H x t
 | tup {a:Addr} {xs:List V} (q:SqT K H a xs):TyQ K H (.ref a) (.type "tuple")
 | lst {a:Addr} {xs:List V} (q:SqL K H a xs):TyQ K H (.ref a) (.type "list")
noncomputable def J7 (K:O0)(T:String):List V->Hp->VK->Prop:=fun xs H Q=>∃ x t b,xs=[x,.ty T]/\TyQ K H x t/\Po K t (.type T)=some b/\Q (.bl b) H
theorem Zjx {T:String}:Cm X (.builtin "isinstance") (J7 X.K T):=by
 intro pins s σ H xs us Q I r h
 obtain ⟨x,t,b,rfl,ty,e,q⟩:=h
 obtain ⟨u,v,rfl,ru,rv⟩:=r.two
 obtain rfl:v=Value.type T:=rv
 cases ty with
 | ty ty=>exact Ziu I ru ty e fun tk=>⟨.bl b,H,I.tok tk,rfl,q⟩
 | tup hq =>
  cases ru
  obtain ⟨its,_,p,_⟩:=I.tuple hq
  obtain ⟨o,h1,h2,_⟩:=p
  exact Qe PySem.W.kitx_tuple I.kIn ⟨o,h1,h2⟩ e (fun z=>nomatch z) fun tk=>⟨.bl b,H,I.tok tk,rfl,q⟩
 | lst hq =>
  cases ru
  obtain ⟨its,_,p,_⟩:=I.list hq
  obtain ⟨o,n,h1,h2,_⟩:=p
  exact Qe Vo I.kIn ⟨o,h1,h2⟩ e (fun z=>nomatch z) fun tk=>⟨.bl b,H,I.tok tk,rfl,q⟩
theorem Fx (T:String)(hK:X.K=K:=by rfl):Cm X (.builtin "isinstance") (J7 K T):=by subst hK;exact Zjx
noncomputable def rAll (K:O0):List V->Hp->VK->Prop:=fun xs H Q=>∃(p:Addr)(bs:List Bool),xs=[.ref p]/\SqL K H p (bs.map V.bl)/\Q (.bl (bs.all id)) H
theorem Za2 (hc:X.calm=true)(hK:X.K=K:=by rfl):Cm X (.builtin "all") (rAll K):=by subst hK;exact Zt8 hc
noncomputable def Zo4 (K:O0):List V->Hp->VK->Prop:=fun xs H Q=>∃ p ys,xs=[.ref p]/\(SqL K H p ys\/SqT K H p ys)/\∀ l,H l=none->Q (.ref l) (upd H l (.lst ys))
theorem Zkx (hK:X.K=K:=by rfl):Cm X (.type "list") (Zo4 K):=by subst hK;exact Zte
noncomputable def Zd0 (K:O0):List V->Hp->VK->Prop:=fun xs H Q=>∃ p ys,xs=[.ref p]/\((SqL K H p ys/\∀ l,H l=none->Q (.ref l) (upd H l (.tup ys)))\/(SqT K H p ys/\Q (.ref p) H))
theorem N4 (hK:X.K=K:=by rfl):Cm X (.type "tuple") (Zd0 K):=by subst hK;exact Zry
noncomputable def rInt:List V->Hp->VK->Prop:=fun xs H Q=>(∃ i,xs=[.int i]/\Q (.int i) H)\/∃ k,xs=[.bl k]/\Q (.int (if k then 1 else 0)) H
theorem Zaq:Cm X (.type "int") rInt:=Zln
theorem s_intb {k:Bool}{H:Hp}{Q:VK}(h:Q (.int (if k=true then 1 else 0)) H):rInt [.bl k] H Q:=.inr ⟨k,rfl,h⟩
theorem Fw {tg l:Expr}{tl:TE}(hl:QE X l tl)(hK:X.K=K:=by rfl):QI X tg l (Ou K tl):=by subst hK;exact Zij hl
theorem Zg9 {tg a:Expr}{ta:TA}{p pos:Pos}(hg:Gl X "reversed")(hm:X.mg "reversed" = none)(ha:QA X [a] ta)(hK:X.K=K:=by rfl)(hs:starEach [a] X.env=[(false,eval a X.env)]:=by rfl):QI X tg (.Call (.Name "reversed" p) [a] [] pos) (Zal K ta):=by subst hK;exact Zpm hg hm ha hs
theorem Zmn {elts:List Expr}{kt:Nat}{pt:Pos}{e:Expr}{ta:TA}{p pos:Pos}(hg:Gl X "enumerate")(hm:X.mg "enumerate" = none)(ha:QA X [e] ta)(hK:X.K=K:=by rfl)(hs:starEach [e] X.env=[(false,eval e X.env)]:=by rfl):QI X (.Tuple elts kt pt) (.Call (.Name "enumerate" p) [e] [] pos) (Zdi K ta):=by subst hK;exact Zl3 hg hm ha hs
theorem G9 {es:List Expr}{k:Nat}{pos:Pos}{t:D0}{n:Nat}(hc:X.calm=true)(h:QGs X es t)(hK:X.K=K:=by rfl)(hn:(assignEach es X.env).length=n:=by rfl)(hst:(assignEach es X.env).findIdx? (·.1)=none:=by rfl):QG X (.Tuple es k pos) (Na K n t):=by subst hK;exact Zuf hc h hn hst
noncomputable def Zfn (K:O0)(ta:TE):TT:=fun σ H Q=>ta σ H fun x H'=>∃ k,Kj K x H' k/\Q k H'
theorem Ol {a:Expr}{ta:TE}(ha:QE X a ta)(he:∀ whole,isTrue a X.env whole=(do let v <- whole;standAt a.pos;holding [v] (truthy v)))(hK:X.K=K:=by rfl):QT X a (Zfn K ta):=by subst hK;exact ⟨Zmm ha.run he⟩
theorem Cv {o e:Expr}{es:List Expr}{to:TE}{t:TA}{name:Str}{apos cpos:Pos}{T id:String}{r:V->List V->Hp->VK->Prop}(pa:PlainAttrs T)(slot:Slot T name id)(hty:typeOf (.builtin id)=pure (.type "method_descriptor"))(hm:Fd X id r)(ho:QE X o to)(ha:QA X (e::es) t)(hK:X.K=K:=by rfl)
  (hbase:attributeBase o name X.env (eval o X.env)=eval o X.env:=by rfl) (hfew:((backTo cpos (starEach (e::es) X.env)).all (fun x=>!x.1) && (backToKw cpos (keywordEach [] X.env)).all (fun x=>x.1.isSome)
   && decide ((e::es).length+([]:List Keyword).length+(if ([]:List Keyword).isEmpty then 0 else 1) < 30))=true:=by rfl) (hline:(apos.endLine == cpos.line)=true:=by rfl) (hs:starEach (e::es) X.env=(false,eval e X.env)::starEach es X.env:=by rfl) (hplain:(backTo cpos (starEach es X.env)).any (·.1)=false:=by rfl):QE X (.Call (.Attribute o name apos) (e::es) [] cpos) (tBM K T r to t):=by subst hK;exact Zks pa slot hty hm ho ha hbase hfew hline hs hplain
theorem M6 {o:Expr}{to:TE}{name:Str}{apos cpos:Pos}{T id:String}{r:V->List V->Hp->VK->Prop}(pa:PlainAttrs T)(slot:Slot T name id)(hty:typeOf (.builtin id)=pure (.type "method_descriptor"))(hm:Fd X id r)(ho:QE X o to)(hK:X.K=K:=by rfl)(hbase:attributeBase o name X.env (eval o X.env)=eval o X.env:=by rfl)(hline:(apos.endLine == cpos.line)=true:=by rfl):QE X (.Call (.Attribute o name apos) [] [] cpos) (M2 K T r to):=by subst hK;exact Zmv pa slot hty hm ho hbase hline
end
section
variable {K:O0}{σ:St}{H:Hp}{Q:VK}{QB:Bool->Hp->Prop}{ta:TE}
theorem s_truth (h:ta σ H fun x H'=>∃ k,Kj K x H' k/\QB k H'):Zfn K ta σ H QB:=h
theorem Zng {a:Addr}{xs:List V}{P:Bool->Prop}(q:SqL K H a xs)(h:P (!xs.isEmpty)):∃ k,Kj K (.ref a) H k/\P k:=⟨_,.inl ⟨xs,q,rfl⟩,h⟩
theorem Za9 {T:String}{a:Addr}{xs:List V}{b:Bool}(q:SqT K H a xs)(e:Po K (.type "tuple") (.type T)=some b)(h:Q (.bl b) H):J7 K T [.ref a,.ty T] H Q:=⟨_,_,b,rfl,.tup q,e,h⟩
theorem Nj {p:Addr}{ys:List V}(q:SqL K H p ys)(h:∀ l,H l=none->Q (.ref l) (upd H l (.tup ys))):Zd0 K [.ref p] H Q:=⟨p,ys,rfl,.inl ⟨q,h⟩⟩
theorem B3 {a:Addr}{xs:List V}{P:Prop}(q:SqL K H a xs)(h:P):Ii K "list" (.ref a) H/\P:=⟨.inl ⟨rfl,_,q⟩,h⟩
end
theorem s_nt {A B:Prop}(h:B):if (!true)=true then A else B:=by simpa using h
theorem s_nf {A B:Prop}(h:A):if (!false)=true then A else B:=by simpa using h
end L2
namespace L2
open PySem
inductive Tr where
 | mk (wd:Str) (note:Dt) (ps:List Tr)
noncomputable def Tr.wd:Tr->Str
 | .mk w _ _=>w
noncomputable def Tr.ps:Tr->List Tr
 | .mk _ _ ps=>ps
mutual
noncomputable def Tr.size:Tr->Nat
 | .mk _ _ ps=>1+As ps
noncomputable def As:List Tr->Nat
 | []=>0
 | t::r=>t.size+As r
end
theorem Tr.size_eq (t:Tr):t.size=1+As t.ps:=by
 cases t with
 | mk w n ps=>rw [Tr.size];rfl
theorem Fc (a b:List Tr):As (a++b)=As a+As b:=by
 induction a with
 | nil=>simp [As]
 | cons t r ih=>rw [Vx,As,As,ih];omega
theorem Jq {ts:List Tr}{j:Nat}{t:Tr}(h:ts[j]?=some t):t.size<=As ts:=by
 induction ts generalizing j with
 | nil=>simp at h
 | cons x r ih =>
  rw [As]
  cases j with
  | zero=>simp at h;subst h;omega
  | succ j=>have:=ih (j:=j) (by simpa using h);omega
theorem Lg (ts:List Tr):ts.length<=As ts:=by
 induction ts with
 | nil=>simp [As]
 | cons t r ih =>
  have:=t.size_eq
  rw [As,Pr]
  omega
noncomputable def SameT (H H':Hp):Prop:=∀ b,(∀ xs,H b=some (.tup xs)->H' b=some (.tup xs))/\∀ o u,H b=some (.frz o u)->H' b=some (.frz o u)
theorem Same.t {H H':Hp}(e:Same H H'):SameT H H':=fun b=>⟨fun xs h=>e b _ h,fun o u h=>e b _ h⟩
theorem SameT.refl (H:Hp):SameT H H:=fun _=>⟨fun _ h=>h,fun _ _ h=>h⟩
theorem SameT.trans {H H1 H2:Hp}(a:SameT H H1)(b:SameT H1 H2):SameT H H2:=fun c=>⟨fun xs h=>(b c).1 xs ((a c).1 xs h),fun o u h=>(b c).2 o u ((a c).2 o u h)⟩
theorem SameT.set {H:Hp}{S:Addr}{zs:List V}{o:HO}(h:H S=some (.lst zs)):SameT H (upd H S o):=fun b =>
 ⟨fun xs e=>by rw [Au (Zad e h (by intro z;cases z))];exact e,fun o' u e=>by rw [Au (Zad e h (by intro z;cases z))];exact e⟩
theorem SameT.new {H:Hp}{S:Addr}{o:HO}(h:H S=none):SameT H (upd H S o):=(Same.upd h).t
theorem SameT.tup {K:O0}{H H':Hp}{a:Addr}{xs:List V}(e:SameT H H')(h:SqT K H a xs):SqT K H' a xs:=by
 rcases h with (h | ⟨o,h⟩) | h
 ·exact .inl (.inl ((e a).1 _ h))
 ·exact .inl (.inr ⟨o,(e a).2 _ _ h⟩)
 ·exact .inr h
noncomputable def IsN (K:O0)(H:Hp)(v:V)(n:Dt):Prop:=(Cy v=true/\n=.flat v)\/∃(a:Addr)(vs:List V),v=.ref a/\SqT K H a vs/\vs.all Cy=true/\n=.tup (vs.map .flat)
theorem IsN.same {K:O0}{H H':Hp}{v:V}{n:Dt}(h:IsN K H v n)(e:SameT H H'):IsN K H' v n:=by
 rcases h with h | ⟨a,vs,h1,h2,h3⟩
 ·exact .inl h
 ·exact .inr ⟨a,vs,h1,e.tup h2,h3⟩
theorem IsN.d {K:O0}{H:Hp}{v:V}{n:Dt}(h:IsN K H v n):IsD K H 1 v n:=by
 rcases h with ⟨h,rfl⟩ | ⟨a,vs,rfl,h2,h3,rfl⟩
 ·exact .flat h
 ·refine .tup h2 (by simp) fun j v d e1 e2=>?_
  rw [Sf,e1] at e2
  cases e2
  exact .flat (P3.mp h3 v (Pt e1))
inductive TrAt (K:O0)(H:Hp):V->Tr->Prop where
 | mk {a p:Addr} {wd:Str} {nv:V} {n:Dt} {vs:List V} {ts:List Tr} (q:SqT K H a [.str wd,nv,.ref p]) (hn:IsN K H nv n) (qp:SqT K H p vs) (l:vs.length=ts.length)
   (h:∀(j:Nat)(v:V)(t:Tr),vs[j]?=some v->ts[j]?=some t->TrAt K H v t):TrAt K H (.ref a) (.mk wd n ts)
theorem TrAt.sameT {K:O0}{H H':Hp}{v:V}{t:Tr}(h:TrAt K H v t)(e:SameT H H'):TrAt K H' v t:=by
 induction h with
 | mk q hn qp l _ ih=>exact .mk (e.tup q) (hn.same e) (e.tup qp) l ih
theorem TrAt.same {K:O0}{H H':Hp}{v:V}{t:Tr}(h:TrAt K H v t)(e:Same H H'):TrAt K H' v t:=h.sameT e.t
noncomputable def Al {α:Type}(R:V->α->Prop)(vs:List V)(xs:List α):Prop:=vs.length=xs.length/\∀(j:Nat)(v:V)(x:α),vs[j]?=some v->xs[j]?=some x->R v x
section
variable {α:Type}{R R':V->α->Prop}{vs:List V}{xs:List α}{v:V}{x:α}
theorem Al.mono (h:Al R vs xs)(f:∀ v x,R v x->R' v x):Al R' vs xs:=⟨h.1,fun j v x a b=>f v x (h.2 j v x a b)⟩
theorem Al.nil:Al R [] []:=⟨rfl,fun j v x a _=>by simp at a⟩
theorem Al.snoc (h:Al R vs xs)(a:R v x):Al R (vs++[v]) (xs++[x]):=by
 refine ⟨by simp [h.1],fun j y z e1 e2=>?_⟩
 by_cases hj:j < vs.length
 ·rw [Q8 hj] at e1
  rw [Q8 (by have:=h.1;omega)] at e2
  exact h.2 j y z e1 e2
 ·have hl:=(Pl.mp e1).1
  rw [Pm,Rl] at hl
  have hj':j=vs.length:=by omega
  subst hj'
  rw [Rh (O3 _),Sz] at e1
  rw [h.1,Rh (O3 _),Sz] at e2
  have e1:v=y:=by simpa using e1
  have e2:x=z:=by simpa using e2
  rw [<- e1,<- e2]
  exact a
theorem Al.split (h:Al R (vs++[v]) xs):∃ ys x,xs=ys++[x]/\Al R vs ys/\R v x:=by
 have hl:xs.length=vs.length+1:=by have:=h.1;simp at this;omega
 have hne:xs≠[]:=fun z=>by rw [z] at hl;simp at hl
 refine ⟨xs.dropLast,xs.getLast hne,(Wb hne).symm,⟨by simp [hl],fun j y z e1 e2=>?_⟩,?_⟩
 ·have hj:=(Pl.mp e1).1
  refine h.2 j y z (by rw [Q8 hj];exact e1) ?_
  rw [List.getElem?_dropLast] at e2
  split at e2
  ·exact e2
  ·cases e2
 ·refine h.2 vs.length v _ (by simp) ?_
  rw [List.getLast_eq_getElem,O7 (by omega)]
  congr 1
  simp [hl]
theorem Al.last (h:Al R vs xs)(hn:vs≠[]):∃ vs' v xs' x,vs=vs'++[v]/\xs=xs'++[x]/\Al R vs' xs'/\R v x:=by
 have e:=(Wb hn).symm
 rw [e] at h
 obtain ⟨ys,x,e2,a,r⟩:=h.split
 exact ⟨_,_,ys,x,e,e2,a,r⟩
theorem Al.get {j:Nat}(h:Al R vs xs)(e:vs[j]?=some v):∃ x,xs[j]?=some x/\R v x:=by
 have hj:=(Pl.mp e).1
 have hx:j < xs.length:=by have:=h.1;omega
 exact ⟨xs[j],O7 hx,h.2 j v _ e (O7 hx)⟩
theorem Al.get' {j:Nat}(h:Al R vs xs)(e:xs[j]?=some x):∃ v,vs[j]?=some v/\R v x:=by
 have hj:=(Pl.mp e).1
 have hv:j < vs.length:=by have:=h.1;omega
 exact ⟨vs[j],O7 hv,h.2 j _ x (O7 hv) e⟩
end
noncomputable def gapT:Tr:=.mk "gap" (.flat .non) []
theorem TrAt.gap {K:O0}{H:Hp}{a p:Addr}(q:SqT K H a [.str "gap",.non,.ref p])(qp:SqT K H p []):TrAt K H (.ref a) gapT:=.mk q (.inl ⟨rfl,rfl⟩) qp rfl fun j v t e _=>by simp at e
theorem N1:gapT.size=1:=by unfold gapT;rw [Tr.size,As]
mutual
noncomputable def walk:List Nat->Tr->List (List Nat×Tr)
 | pl,.mk w n ps=>(pl,.mk w n ps)::B7 pl 0 ps
noncomputable def B7:List Nat->Nat->List Tr->List (List Nat×Tr)
 | _,_,[]=>[]
 | pl,i,t::r=>walk (pl++[i]) t++B7 pl (i+1) r
end
theorem Zm4 (pl:List Nat)(t:Tr):walk pl t=(pl,t)::B7 pl 0 t.ps:=by
 cases t with
 | mk w n ps=>rw [walk];rfl
mutual
theorem Ip:∀(pl:List Nat)(t:Tr),(walk pl t).length=t.size
 | pl,.mk w n ps=>by rw [walk,Tr.size,Pr,Zh2 pl 0 ps];omega
theorem Zh2:∀(pl:List Nat)(i:Nat)(ts:List Tr),(B7 pl i ts).length=As ts
 | _,_,[]=>by rw [B7,As];rfl
 | pl,i,t::r=>by rw [B7,As,Pm,Ip,Zh2]
end
mutual
theorem Zho:∀(pl:List Nat)(t:Tr)(x:List Nat×Tr),x∈walk pl t->x.1.length+1<=pl.length+t.size
 | pl,.mk w n ps,x,h=>by
  rw [walk] at h
  rw [Tr.size]
  rcases Pb.mp h with h | h
  ·subst h;show pl.length+1<=_;omega
  ·have:=Zgr pl 0 ps x h;omega
theorem Zgr:∀(pl:List Nat)(i:Nat)(ts:List Tr)(x:List Nat×Tr),x∈B7 pl i ts->x.1.length<=pl.length+As ts
 | _,_,[],x,h=>by rw [B7] at h;cases h
 | pl,i,t::r,x,h=>by
  rw [B7] at h
  rw [As]
  rcases P4.mp h with h | h
  ·have:=Zho (pl++[i]) t x h
   rw [Pm,Rl] at this
   omega
  ·have:=Zgr pl (i+1) r x h;omega
end
noncomputable def Bm (pl:List Nat):List V:=pl.map fun i=>V.int ((i:Nat):Int)
noncomputable def RowAt (K:O0)(H:Hp)(v:V)(x:List Nat×Tr):Prop:=∃(a p:Addr)(u:V),v=.ref a/\SqT K H a [.ref p,u]/\SqT K H p (Bm x.1)/\TrAt K H u x.2
theorem RowAt.same {K:O0}{H H':Hp}(e:SameT H H')(v:V)(x:List Nat×Tr)(h:RowAt K H v x):RowAt K H' v x:=by
 obtain ⟨a,p,u,r,q,qp,t⟩:=h
 exact ⟨a,p,u,r,e.tup q,e.tup qp,t.sameT e⟩
noncomputable def Bx:List Nat->Nat->List Tr->List (List Nat×Tr)
 | _,_,[]=>[]
 | pl,i,t::r=>(pl++[i],t)::Bx pl (i+1) r
theorem Zgw (pl:List Nat):∀(i:Nat)(ts:List Tr),(Bx pl i ts).length=ts.length
 | _,[]=>rfl
 | i,t::r=>by rw [Bx,Pr,Pr,Zgw pl (i+1) r]
theorem Zft (pl:List Nat):∀(i j:Nat)(ts:List Tr),(Bx pl i ts)[j]?=(ts[j]?).map fun t=>(pl++[i+j],t)
 | _,_,[]=>by simp [Bx]
 | i,0,t::r=>by simp [Bx]
 | i,j+1,t::r=>by
  rw [Bx,Td,Td,Zft pl (i+1) j r]
  congr 1
  funext t
  rw [show i+1+j=i+(j+1) by omega]
theorem Zep (pl:List Nat):∀(i:Nat)(ts:List Tr),(Bx pl i ts).flatMap (fun x=>walk x.1 x.2)=B7 pl i ts
 | _,[]=>by simp [Bx,B7]
 | i,t::r=>by rw [Bx,List.flatMap_cons,B7,Zep pl (i+1) r]
noncomputable def Fb (st:List (List Nat×Tr)):List (List Nat×Tr):=st.reverse.flatMap fun x=>walk x.1 x.2
theorem Zlo:Fb []=[]:=rfl
theorem Zc6 (st:List (List Nat×Tr))(x:List Nat×Tr):Fb (st++[x])=x::Fb (st++(Bx x.1 0 x.2.ps).reverse):=by
 unfold Fb
 rw [Vh,Vh,List.reverse_reverse,Vi,Vi,Zep]
 rw [List.reverse_singleton,List.flatMap_singleton,Zm4]
 rfl
noncomputable def load (st:List (List Nat×Tr)):Nat:=(Fb st).length
theorem Zuh (st:List (List Nat×Tr))(x:List Nat×Tr):load (st++(Bx x.1 0 x.2.ps).reverse) < load (st++[x]):=by
 unfold load
 rw [Zc6]
 exact Tj _
theorem Zrb (st:List (List Nat×Tr)):st.length<=load st:=by
 unfold load Fb
 have:∀ l:List (List Nat×Tr),l.length<=(l.flatMap fun x=>walk x.1 x.2).length:=fun l=>by
  induction l with
  | nil=>simp
  | cons x r ih =>
   rw [List.flatMap_cons,Pm,Ip,Pr]
   have:=x.2.size_eq
   omega
 have:=this st.reverse
 rw [List.length_reverse] at this
 exact this
theorem Zkm {α:Type}{l:List α}{n i:Nat}{x:α}(hl:l.length=n)(hi:i < n)(hx:l[n - 1 - i]?=some x):(l.drop (n - (i+1))).reverse=(l.drop (n - i)).reverse++[x]:=by
 have hk:n - 1 - i < l.length:=by omega
 have e:l.drop (n - (i+1))=x::l.drop (n - i):=by
  have h1:n - (i+1)=n - 1 - i:=by omega
  rw [h1,Ri hk,show n - 1 - i+1=n - i by omega]
  rw [O7 hk] at hx
  rw [Pu hx]
 rw [e,List.reverse_cons]
mutual
theorem Zcl:∀(pl:List Nat)(t:Tr),walk pl t=(walk [] t).map fun x=>(pl++x.1,x.2)
 | pl,.mk w n ps=>by
  have e:=Zd2 pl [] 0 ps
  rw [Rc] at e
  rw [walk,walk,R4,e]
  simp
theorem Zd2:∀(pl q:List Nat)(i:Nat)(ts:List Tr),B7 (pl++q) i ts=(B7 q i ts).map fun x=>(pl++x.1,x.2)
 | _,_,_,[]=>by rw [B7,B7];rfl
 | pl,q,i,t::r=>by
  rw [B7,B7,Q2,<- Zd2 pl q (i+1) r,Zcl (pl++q++[i]) t,Zcl (q++[i]) t]
  simp
end
theorem Al.append {α:Type}{R:V->α->Prop}{vs ws:List V}{xs ys:List α}(h:Al R vs xs)(h':Al R ws ys):Al R (vs++ws) (xs++ys):=by
 refine ⟨by simp [h.1,h'.1],fun j v x e1 e2=>?_⟩
 by_cases hj:j < vs.length
 ·rw [Q8 hj] at e1
  rw [Q8 (by have:=h.1;omega)] at e2
  exact h.2 j v x e1 e2
 ·rw [Rh (by omega)] at e1
  rw [Rh (by have:=h.1;omega),<- h.1] at e2
  exact h'.2 _ v x e1 e2
end L2
namespace L2
open PySem PySem.Spec PyProof.Rows
section
open PySem.AutoSeq1
theorem Zmc (l:Addr)(items:Array Value)(n:Nat)(b:Addr)(items2:Array Value)(n2:Nat)(od:Option Addr)(sl:Array (Option Value))(hs0:¬(!items.isEmpty && So (items.size+items2.size))=true)(hs1:items.size<=sizeLine)(hs2:items.size+items2.size<=sizeLine+1) :
  Meets (Builtin.«list.extend» ⟨[.ref l,.ref b],[]⟩) (fun _ R s=>s.heap.get? l=some { cls:=.type "list",dict:=none,data:=.seq items n,slots:=#[] }/\s.heap.get? b=some { cls:=.type "tuple",dict:=od,data:=.seq items2 n2,slots:=sl }/\R (.ok (.ret Value.none)) { s with heap:=s.heap.update l (Qc fun x=>x++items2),toks:=s.toks }) :=
 .of_wp fun prog w A R s h=>by
  obtain ⟨hp,g,d,tk,os⟩:=s;obtain ⟨hl,hb,h⟩:=h;have f1:=AutoSeq1.idx_int;have f2:=AutoSeq1.sub_tuple_tuple;have f3:=AutoSeq1.sub_list_list;have f4:=AutoSeq1.sub_tuple_list;have f5:=AutoSeq1.sub_list_tuple;
  have hz':(items++items2).size<=sizeLine+1:=by rw [Array.size_append];exact hs2
  wp_walk using (Tq hl rfl (hz:=hs1) (_hz':=hz')),AutoSeq1.wpAny_loadPart' hl,AutoSeq1.wpAny_loadPart' hb;exact ⟨_,rfl,h⟩
end
noncomputable def Zdv (K:O0):V->List V->Hp->VK->Prop:=fun x vs H Q=>∃ l b xs zs,x=.ref l/\vs=[.ref b]/\H l=some (.lst xs)/\SqT K H b zs/\xs.length+zs.length<=sizeLine/\Q .non (upd H l (.lst (xs++zs)))
section
variable {X:Cx}
theorem Zr1:Iv X "list.extend" (Zdv X.K):=by
 intro pins s σ H x vs v us Q I rx rv h
 obtain ⟨l,b,xs,zs,rfl,rfl,hH,hB,hz,q⟩:=h
 cases rx
 obtain ⟨u,rfl,ru⟩:=rv.one
 cases ru
 obtain ⟨z,its,n,r,hl,e⟩:=I.lstM hH
 obtain ⟨its2,r2,⟨o2,e2,hc2,n2,hd2⟩,hz2⟩:=I.tuple hB
 obtain ⟨oc,od,odata,sl⟩:=o2
 simp only at hc2 hd2
 subst hc2 hd2
 have hl2:=r2.length
 have hsz:its.toArray.size+its2.toArray.size<=sizeLine:=by rw [O5,O5];omega
 have hlong:¬ (!its.toArray.isEmpty && So (its.toArray.size+its2.toArray.size))=true:=by
  rw [Za6 hsz,Ts]
  exact O8
 refine Qy F.slot_list_extend ⟨_,e,rfl⟩ F.entry_list_extend (F.args_list_extend_2 _ _)
  (Zmc l its.toArray n b its2.toArray n2 od sl hlong (by rw [O5];omega) (by omega)) ⟨e,e2,?_⟩
 refine ⟨.non,_,I.lset (its':=its++its2) hH e (by simp) (r.append r2) ?_,rfl,q⟩
 rw [Pm]
 omega
noncomputable def Hc (kvs:List (Str×V))(k:Str):Option V:=(kvs.find? fun kv=>kv.1=k).map (·.2)
inductive VPs:List (Str×V)->List (Str×Value)->Prop
 | nil:VPs [] []
 | cons {k:Str} {x:V} {v:Value} {r:List (Str×V)} {q:List (Str×Value)}:RelV x v->VPs r q->VPs ((k,x)::r) ((k,v)::q)
theorem VPs.look {kvs:List (Str×V)}{vs:List (Str×Value)}(h:VPs kvs vs)(k:Str):(valueAt vs k).isSome=(Hc kvs k).isSome/\∀ x,Hc kvs k=some x->∃ v,valueAt vs k=some v/\RelV x v:=by
 induction h with
 | nil=>exact ⟨rfl,fun x e=>nomatch e⟩
 | @cons k' x v r q rx _ ih =>
  unfold valueAt Hc at ih ⊢
  by_cases z:k'=k
  ·simp only [V4,z,decide_true,Option.map_some,Option.isSome_some]
   exact ⟨trivial,fun y e=>⟨v,rfl,by cases e;exact rx⟩⟩
  ·simp only [V4,z,decide_false]
   exact ih
noncomputable def DkK (P:Program)(w:World)(K:O0)(a:Addr)(kvs:List (Str×V)):Prop :=
 ∃(o:Obj)(vs:List (Str×Value)),K.lookup a=some o/\o.IsDictOf (strKind P w) vs/\(a == sysModules)=false/\VPs kvs vs
noncomputable def rInD (P:Program)(w:World)(K:O0):R2:=fun x y H Q=>∃ s a kvs,x=.str s/\y=.ref a/\DkK P w K a kvs/\Q (.bl (Hc kvs s).isSome) H
theorem Zsu:OpR X (compareOp .In) (rInD X.prog X.w X.K):=by
 intro pins s σ H x y v u Q I rx ry h
 obtain ⟨z,a,kvs,rfl,rfl,⟨o,vs,hk,hd,lo,vp⟩,q⟩:=h
 obtain ⟨t,rfl⟩:=rx
 cases ry
 have D:s.heap.DictOf (strKind X.prog X.w) a vs:=V5.mpr ⟨o,I.kIn a o hk,hd⟩
 exact wpAny_in_of (knd:=strKind X.prog X.w) (k:=z) (strKind_is _ _ _ _) lo D.mapOf (Bb (I.tok _) q (vp.look z).1.symm)
noncomputable def rIxD (P:Program)(w:World)(K:O0):R2:=fun x y H Q=>∃ a kvs s v,x=.ref a/\y=.str s/\DkK P w K a kvs/\Hc kvs s=some v/\Q v H
theorem ix_D:IxR X (rIxD X.prog X.w X.K):=by
 intro value slice pins s σ H x y v u Q I rx ry h hs
 obtain ⟨a,kvs,z,v',rfl,rfl,⟨o,vs,hk,hd,lo,vp⟩,hv,q⟩:=h
 cases rx
 obtain ⟨t,rfl⟩:=ry
 have D:s.heap.DictOf (strKind X.prog X.w) a vs:=V5.mpr ⟨o,I.kIn a o hk,hd⟩
 obtain ⟨u',e,r⟩:=(vp.look z).2 _ hv
 exact tail_any D.typeIs slot_dict_getitem.lookup (wpAny_getItem_of (knd:=strKind X.prog X.w) (k:=z) (strKind_is _ _ _ _) D.mapOf e ⟨v',H,I.tok _,r,q⟩) hs
noncomputable def rIsB:R2:=fun x y H Q=>∃ b,y=.bl b/\Q (.bl (decide (x=.bl b))) H
theorem Zf1:OpR X (compareOp .Is) rIsB:=by
 intro pins s σ H x y v u Q I rx ry h
 obtain ⟨b,rfl,q⟩:=h
 cases ry
 refine wpAny_is_plain ?_ (Bb I q ?_)
 ·cases x <;> first | (cases rx;rfl) | (obtain ⟨t,rfl⟩:=rx;rfl)
 ·cases x <;> first
   | (cases rx;rfl)
   | (obtain ⟨t,rfl⟩:=rx;rfl)
   | (rename_i c;cases rx;cases c <;> cases b <;> rfl)
end
section
variable {X:Cx}(P:Program)(w:World)(K:O0)
theorem Zoz (hP:X.prog=P:=by rfl)(hw:X.w=w:=by rfl)(hK:X.K=K:=by rfl):OpR X (compareOp .In) (rInD P w K):=by subst hP hw hK;exact Zsu
theorem Zd1 (hP:X.prog=P:=by rfl)(hw:X.w=w:=by rfl)(hK:X.K=K:=by rfl):IxR X (rIxD P w K):=by subst hP hw hK;exact ix_D
theorem Zmt (hK:X.K=K:=by rfl):Iv X "list.extend" (Zdv K):=by subst hK;exact Zr1
end
theorem s_chain {r r':R2}{ta tb tc:TE}{σ:St}{H:Hp}{Q:VK}(h:ta σ H fun x H1=>tb σ H1 fun y H2=>r x y H2 fun z H3=>∃ k,z=.bl k/\(if k=true then tc σ H3 fun w' H4=>r' y w' H4 Q else Q (.bl false) H3)):J9 r r' ta tb tc σ H Q:=h
inductive Ents (p:Params):List DictEntry->List (Str×V)->Prop
 | nil:Ents p [] []
 | cons {k:Str} {t:Tok} {x:V} {v:Value} {r:List DictEntry} {q:List (Str×V)}:RelV x v->Ents p r q->Ents p (⟨PyData.keyHash p k,.str k t,v⟩::r) ((k,x)::q)
theorem Ents.pairs {P:Program}{w:World}{es:List DictEntry}{kvs:List (Str×V)}(h:Ents w.params es kvs):∃ vs,VPs kvs vs/\PySem.Pairs (PySem.strKind P w) es vs/\vs.map (·.1)=kvs.map (·.1)/\∀ e∈es,∃ k,(PySem.strKind P w).is k e.key=true/\e.hash=(PySem.strKind P w).hash k:=by
 induction h with
 | nil=>exact ⟨[],.nil,.nil,rfl,fun e he=>nomatch he⟩
 | @cons k t x v r q rx _ ih =>
  obtain ⟨vs,a,b,c,d⟩:=ih
  refine ⟨(k,v)::vs,.cons rx a,.cons (strKind_is _ _ _ _) rfl b,by simp [c],fun e he=>?_⟩
  rcases Pb.mp he with rfl | he
  ·exact ⟨k,strKind_is _ _ _ _,rfl⟩
  ·exact d e he
theorem Ztt {P:Program}{w:World}{K:O0}{a:Addr}{es:Array DictEntry}{n:Nat}{kvs:List (Str×V)}(l:K.lookup a=some ⟨.type "dict",none,.dict es n,#[]⟩)(hs:(a == sysModules)=false)
  (e:Ents w.params es.toList kvs) (nd:(kvs.map (·.1)).Nodup):DkK P w K a kvs:=by
 obtain ⟨vs,a1,a2,a3,a4⟩:=e.pairs (P:=P)
 exact ⟨_,vs,l,⟨es,n,⟨rfl,rfl,rfl⟩,rfl,fun e he=>a4 e (by simpa using he),a2,by rw [a3];exact nd⟩,hs,a1⟩
section
variable {X:Cx}
end
structure ZA (z TI TO i1 i2:Addr)(fp1 fp2:List Addr):Prop where
 TIz:TI≠z
 TOz:TO≠z
 TITO:TI≠TO
 z1:z ∉ fp1
 z2:z ∉ fp2
 TI1:TI≠i1
 TI2:TI≠i2
 TO1:TO ∉ fp1
 TO2:TO ∉ fp2
 m1:i1∈fp1
 m2:i2∈fp2
 n1:i1 ∉ fp2
 n2:i2 ∉ fp1
theorem ZA.i1z {z TI TO i1 i2:Addr}{fp1 fp2:List Addr}(D:ZA z TI TO i1 i2 fp1 fp2):i1≠z:=fun e=>D.z1 (e ▸ D.m1)
theorem ZA.i2z {z TI TO i1 i2:Addr}{fp1 fp2:List Addr}(D:ZA z TI TO i1 i2 fp1 fp2):i2≠z:=fun e=>D.z2 (e ▸ D.m2)
theorem ZA.TOi1 {z TI TO i1 i2:Addr}{fp1 fp2:List Addr}(D:ZA z TI TO i1 i2 fp1 fp2):TO≠i1:=fun e=>D.TO1 (e ▸ D.m1)
theorem ZA.TOi2 {z TI TO i1 i2:Addr}{fp1 fp2:List Addr}(D:ZA z TI TO i1 i2 fp1 fp2):TO≠i2:=fun e=>D.TO2 (e ▸ D.m2)
theorem B4 {prog:Program}{w:World}{A:Around}{it c:Addr}{fp:List Addr}{n i:Nat}{P:Nat->Value->Prop}{St:Nat->Heap->Prop}(D:Draws prog w A it fp n P St){h h':Heap}(st:St i h)(e:Px c h h')(hc:c ∉ fp):St i h' :=
 D.frame i h h' st fun b hb o eo=>e.extBut b o (fun z=>hc (z ▸ hb)) eo
section
variable {prog:Program}{w:World}{A:Around}{E:Value->Shared->Prop}{s:Shared}{z TI TO i1 i2:Addr}{fp1 fp2:List Addr}{n1 n2 i:Nat}{P1 P2:Nat->Value->Prop}{St1 St2:Nat->Heap->Prop}{a b:Value}
theorem Zpi {Q:Value->Shared->Prop}(D1:Draws prog w A i1 fp1 n1 P1 St1)(D2:Draws prog w A i2 fp2 n2 P2 St2)(D:ZA z TI TO i1 i2 fp1 fp2)(hz:IsZip s.heap z TI TO .none)(hTI:IsPair s.heap TI (.ref i1) (.ref i2))(hTO:IsPair s.heap TO a b)
  (st1:St1 i s.heap) (st2:St2 i s.heap) (l1:i < n1) (l2:i < n2)
  (hQ:∀ x y h' tk,P1 i x->P2 i y->IsZip h' z TI TO (rawInt s.heap.objs.size)->IsPair h' TO x y->St1 (i+1) h'->St2 (i+1) h'->IsPair h' s.heap.objs.size x y->h'.objs.size=s.heap.objs.size+1 ->
   (∀ c o,c≠z->c≠TO->c≠i1->c≠i2->s.heap.get? c=some o->h'.get? c=some o)->Q (.ref s.heap.objs.size) { s with heap:=h',toks:=tk }) :
  wpAny (model prog w) A (Builtin.«zip.__next__» ⟨[.ref z],[]⟩) (fun fin s'=>∃ v,fin=.done (.ret v)/\Q v s') E s:=by
 show wpAny _ _ (field (.ref z) 2 >>= _) _ _ s
 refine O1 (Pn hz rfl (x:=Value.bool false) rfl ?_)
 show wpAny _ _ (field (.ref z) 3 >>= _) _ _ s
 refine O1 (Pn hz rfl (x:=Value.ref TI) rfl (O1 (Q3 hTI rfl ?_)))
 show wpAny _ _ (Rs (.ref z) >>= _) _ _ s
 refine O1 ?_
 unfold Rs
 refine O1 (Pn hz rfl (x:=Value.none) rfl (O2 ?_))
 simp only [if_true]
 refine O1 (T2 (O1 (Pn hz rfl (x:=Value.ref TO) rfl ?_)))
 refine O1 (Se hz (by simp) fun h₁ hz₁ e1=>?_)
 replace hz₁:IsZip h₁ z TI TO Value.ellipsis:=hz₁
 refine O1 ?_
 simp only [List.zipIdx_cons,List.zipIdx_nil,Tp,Uu]
 refine O1 (O1 (Uv ?_))
 show wpAny _ _ (Qq (.ref i1) >>= _) _ _ _
 refine O1 (D1.item i _ _ _ l1 (B4 D1 st1 e1 D.z1) fun x h₂ tk₂ px s12 e2=>O2 ?_)
 replace e2:Px i1 h₁ h₂:=e2
 have p2:IsPair h₂ TO a b:=e2.extBut _ _ D.TOi1 (e1.extBut _ _ D.TOz hTO)
 refine O1 (Q3 p2 rfl (O1 (Ve p2 fun h₃ p3 e3=>?_)))
 replace p3:IsPair h₃ TO x b:=p3
 replace e3:Px TO h₂ h₃:=e3
 refine O1 (U0 (O2 (O1 (O1 (Uv ?_)))))
 show wpAny _ _ (Qq (.ref i2) >>= _) _ _ _
 have s22:St2 i h₃:=B4 D2 (B4 D2 (B4 D2 st2 e1 D.z2) e2 D.n1) e3 D.TO2
 refine O1 (D2.item i _ _ _ l2 s22 fun y h₄ tk₄ py s24 e4=>O2 ?_)
 replace e4:Px i2 h₃ h₄:=e4
 have p4:IsPair h₄ TO x b:=e4.extBut _ _ D.TOi2 p3
 refine O1 (Q3 p4 rfl (O1 (Ve p4 fun h₅ p5 e5=>?_)))
 replace p5:IsPair h₅ TO x y:=p5
 replace e5:Px TO h₄ h₅:=e5
 refine O1 (U0 (O2 (O2 (O1 (Q3 p5 rfl (O1 (wpAny_newTuple ?_)))))))
 have sz:h₅.objs.size=s.heap.objs.size:=by rw [e5.1,e4.1,e3.1,e2.1,e1.1]
 have z5:IsZip h₅ z TI TO Value.ellipsis:=e5.extBut _ _ D.TOz.symm (e4.extBut _ _ D.i2z.symm (e3.extBut _ _ D.TOz.symm (e2.extBut _ _ D.i1z.symm hz₁)))
 have k5:∀ c o,c≠z->c≠TO->c≠i1->c≠i2->s.heap.get? c=some o->h₅.get? c=some o:=fun c o c1 c2 c3 c4 e=>e5.extBut _ _ c2 (e4.extBut _ _ c4 (e3.extBut _ _ c2 (e2.extBut _ _ c3 (e1.extBut _ _ c1 e))))
 have t1:St1 (i+1) h₅:=B4 D1 (B4 D1 (B4 D1 s12 e3 D.TO1) e4 D.n2) e5 D.TO1
 have t2:St2 (i+1) h₅:=B4 D2 s24 e5 D.TO2
 have zlt:z < h₅.objs.size:=O9 z5
 show wpAny _ _ (V6 (.ref z) (.ref h₅.objs.size) >>= _) _ _ _
 refine O1 ?_
 unfold V6
 have z6:IsZip (h₅.push { cls:=.type "tuple",data:=.seq #[x,y] }) z TI TO Value.ellipsis:=O6 _ z5
 refine O1 (Se z6 (by simp) fun h₇ z7 e7=>?_)
 replace z7:IsZip h₇ z TI TO (rawInt h₅.objs.size):=z7
 refine Se z7 (by simp) fun h₈ z8 e8=>?_
 replace z8:IsZip h₈ z TI TO (rawInt h₅.objs.size):=z8
 have up:∀ c o,c≠z->h₅.get? c=some o->h₈.get? c=some o:=fun c o c1 e=>e8.extBut _ _ c1 (e7.extBut _ _ c1 (O6 _ e))
 have t8:IsPair h₈ h₅.objs.size x y:=e8.extBut _ _ (Re zlt) (e7.extBut _ _ (Re zlt) (Pe _ rfl))
 have sz8:h₈.objs.size=h₅.objs.size+1:=by rw [e8.1,e7.1,Qx]
 rw [sz] at z8 t8 sz8
 refine O2 ⟨_,rfl,?_⟩
 show Q (.ref h₅.objs.size) _
 rw [sz]
 exact hQ x y h₈ tk₄ px py z8 (up _ _ D.TOz p5) (D1.frame _ _ _ t1 fun c hc o e=>up c o (fun q=>D.z1 (q ▸ hc)) e) (D2.frame _ _ _ t2 fun c hc o e=>up c o (fun q=>D.z2 (q ▸ hc)) e) t8 sz8 fun c o c1 c2 c3 c4 e=>up c o c1 (k5 c o c1 c2 c3 c4 e)
theorem Zk3 {Q:Fin->Shared->Prop}(D1:Draws prog w A i1 fp1 n1 P1 St1)(D2:Draws prog w A i2 fp2 n2 P2 St2)(D:ZA z TI TO i1 i2 fp1 fp2)(hz:IsZip s.heap z TI TO .none)(hTI:IsPair s.heap TI (.ref i1) (.ref i2))(hTO:IsPair s.heap TO a b)
  (st1:St1 i s.heap) (st2:St2 i s.heap) (hend:i=n1\/(i < n1/\i=n2))
  (hE:∀ h' e tk,(∀ c o,c≠z->c≠TO->c≠i1->c≠i2->s.heap.get? c=some o->h'.get? c=some o)->(∃ o,h'.get? e=some o/\o.cls=.type "StopIteration")->E (.ref e) { s with heap:=h',toks:=tk }) :
  wpAny (model prog w) A (Builtin.«zip.__next__» ⟨[.ref z],[]⟩) Q E s:=by
 show wpAny _ _ (field (.ref z) 2 >>= _) _ _ s
 refine O1 (Pn hz rfl (x:=Value.bool false) rfl ?_)
 show wpAny _ _ (field (.ref z) 3 >>= _) _ _ s
 refine O1 (Pn hz rfl (x:=Value.ref TI) rfl (O1 (Q3 hTI rfl ?_)))
 show wpAny _ _ (Rs (.ref z) >>= _) _ _ s
 refine O1 ?_
 unfold Rs
 refine O1 (Pn hz rfl (x:=Value.none) rfl (O2 ?_))
 simp only [if_true]
 refine O1 (T2 (O1 (Pn hz rfl (x:=Value.ref TO) rfl ?_)))
 refine O1 (Se hz (by simp) fun h₁ hz₁ e1=>?_)
 replace hz₁:IsZip h₁ z TI TO Value.ellipsis:=hz₁
 refine O1 ?_
 simp only [List.zipIdx_cons,List.zipIdx_nil,Tp,Uu]
 refine O1 (O1 (Uv ?_))
 show wpAny _ _ (Qq (.ref i1) >>= _) _ _ _
 rcases hend with rfl | ⟨l1,rfl⟩
 ·refine O1 (D1.done _ _ _ (B4 D1 st1 e1 D.z1) fun h₂ e e2 he=>?_)
  obtain ⟨oe,hoe,hce⟩:=he
  replace e2:Tz i1 h₁ h₂:=e2
  have z2:IsZip h₂ z TI TO Value.ellipsis:=e2 _ _ D.i1z.symm hz₁
  have hez:e≠z:=fun x=>by subst x;rw [z2] at hoe;cases hoe;simp at hce
  refine Se z2 (by simp) fun h₃ _ e3=>hE h₃ e s.toks (fun c o c1 _ c3 _ x=>e3.extBut _ _ c1 (e2 _ _ c3 (e1.extBut _ _ c1 x))) ⟨oe,e3.extBut _ _ hez hoe,hce⟩
 ·refine O1 (D1.item i _ _ _ l1 (B4 D1 st1 e1 D.z1) fun x h₂ tk₂ px s12 e2=>O2 ?_)
  replace e2:Px i1 h₁ h₂:=e2
  have p2:IsPair h₂ TO a b:=e2.extBut _ _ D.TOi1 (e1.extBut _ _ D.TOz hTO)
  refine O1 (Q3 p2 rfl (O1 (Ve p2 fun h₃ p3 e3=>?_)))
  replace e3:Px TO h₂ h₃:=e3
  refine O1 (U0 (O2 (O1 (O1 (Uv ?_)))))
  show wpAny _ _ (Qq (.ref i2) >>= _) _ _ _
  have s22:St2 i h₃:=B4 D2 (B4 D2 (B4 D2 st2 e1 D.z2) e2 D.n1) e3 D.TO2
  refine O1 (D2.done _ _ _ s22 fun h₄ e e4 he=>?_)
  obtain ⟨oe,hoe,hce⟩:=he
  replace e4:Tz i2 h₃ h₄:=e4
  have z4:IsZip h₄ z TI TO Value.ellipsis:=e4 _ _ D.i2z.symm (e3.extBut _ _ D.TOz.symm (e2.extBut _ _ D.i1z.symm hz₁))
  have hez:e≠z:=fun x=>by subst x;rw [z4] at hoe;cases hoe;simp at hce
  refine Se z4 (by simp) fun h₅ _ e5=>hE h₅ e tk₂ (fun c o c1 c2 c3 c4 x=>e5.extBut _ _ c1 (e4 _ _ c4 (e3.extBut _ _ c2 (e2.extBut _ _ c3 (e1.extBut _ _ c1 x))))) ⟨oe,e5.extBut _ _ hez hoe,hce⟩
theorem Zq7 {Q:Option Value->Shared->Prop}(D1:Draws prog w A.in1 i1 fp1 n1 P1 St1)(D2:Draws prog w A.in1 i2 fp2 n2 P2 St2)(D:ZA z TI TO i1 i2 fp1 fp2)(hz:IsZip s.heap z TI TO .none)(hTI:IsPair s.heap TI (.ref i1) (.ref i2))(hTO:IsPair s.heap TO a b)
  (st1:St1 i s.heap) (st2:St2 i s.heap) (l1:i < n1) (l2:i < n2)
  (hQ:∀ x y h' tk,P1 i x->P2 i y->IsZip h' z TI TO (rawInt s.heap.objs.size)->IsPair h' TO x y->St1 (i+1) h'->St2 (i+1) h'->IsPair h' s.heap.objs.size x y->h'.objs.size=s.heap.objs.size+1 ->
   (∀ c o,c≠z->c≠TO->c≠i1->c≠i2->s.heap.get? c=some o->h'.get? c=some o)->Q (some (.ref s.heap.objs.size)) { s with heap:=h',toks:=tk }) :
  wpAny (model prog w) A (pyNext (.ref z)) Q E s:=by
 have hT:s.TypeIs (.ref z) "zip" := ⟨_,hz,rfl⟩
 unfold pyNext
 exact O1 (Sj (Rt (name:=Qm "__next__") hT Rv
  (Ry Rv hT Uc (Zpi D1 D2 D hz hTI hTO st1 st2 l1 l2 fun x y h' tk a1 a2 a3 a4 a5 a6 a7 a8 a9=>O2 (hQ x y h' tk a1 a2 a3 a4 a5 a6 a7 a8 a9)) (Ua _))))
theorem Ztk {Q:Option Value->Shared->Prop}(D1:Draws prog w A.in1 i1 fp1 n1 P1 St1)(D2:Draws prog w A.in1 i2 fp2 n2 P2 St2)(D:ZA z TI TO i1 i2 fp1 fp2)(hz:IsZip s.heap z TI TO .none)(hTI:IsPair s.heap TI (.ref i1) (.ref i2))(hTO:IsPair s.heap TO a b)
  (st1:St1 i s.heap) (st2:St2 i s.heap) (hend:i=n1\/(i < n1/\i=n2))
  (hQ:∀ h' tk,(∀ c o,c≠z->c≠TO->c≠i1->c≠i2->s.heap.get? c=some o->h'.get? c=some o)->Q none { s with heap:=h',toks:=tk }):wpAny (model prog w) A (pyNext (.ref z)) Q E s:=by
 have hT:s.TypeIs (.ref z) "zip" := ⟨_,hz,rfl⟩
 unfold pyNext
 refine O1 (Sj (Rt (name:=Qm "__next__") hT Rv
  (Ry Rv hT Uc (Zk3 D1 D2 D hz hTI hTO st1 st2 hend fun h' e tk hk he=>?_) (Ua _))))
 obtain ⟨o,ho,hc⟩:=he
 exact O1 (wpAny_isInstance (T := "StopIteration") (b:=true) ⟨o,ho,hc⟩ isSubtype_stop (O2 (hQ _ _ hk)))
end
section
variable {prog:Program}{w:World}{A:Around}{E:Value->Shared->Prop}{s:Shared}
end
section
variable {X:Cx}{pins:List (Addr×Obj)}{σ:St}{H:Hp}{s:Shared}{h':Heap}
theorem Inv.turnedL {t':Nat}{fp:List Addr}(I:Inv X pins σ H s)(k:∀ b o,b ∉ fp->s.heap.get? b=some o->h'.get? b=some o)(f:∀ b∈fp,FpOk X pins H b):Inv X pins σ H { s with heap:=h',toks:=t' }:=by
 have nit:∀ b u,H b=some u->b ∉ fp:=fun b u e hb=>by rw [(f b hb).1] at e;exact nomatch e
 refine I.step (g':=s.gens) (d':=s.drawn) (ch:=fp) (fun b hb=>?_) (fun b o _ _ hc e _=>k b o hc e) (fun b o _ _ hc e _=>⟨o.slots,k b o hc e⟩) (fun _ _ _ _ n=>n)
  (fun b o hc e=>⟨o,k b o hc e⟩) (fun _ _ e=>e) (fun _ _ _ e=>e) (fun b ps e=>⟨#[],by rw [e];simp⟩) (fun m hm=>?_) (fun b u e=>?_) I.bare
 ·obtain ⟨n1,l1,_,e1,c1,p1⟩:=f b hb
  exact ⟨e1,l1,c1,p1⟩
 ·obtain ⟨o,es,ep,ho,r⟩:=hm
  exact ⟨o,es,ep,k _ o (fun hb=>(f _ hb).2.1 rfl) ho,r⟩
 ·refine (I.hok b u e).stay (fun c v hc q=>k c v ?_ q) (fun _ q=>q) fun _ _ q=>q
  rcases hc with z | z
  ·rw [z];exact nit b u e
  ·exact nit c _ z
theorem Inv.pairL {tk:Nat}{fp:List Addr}{T:Addr}{xs:List V}{its:List Value}(I:Inv X pins σ H s)(f:∀ b∈fp,FpOk X pins H b)
  (kk:∀ b o,b ∉ fp->s.heap.get? b=some o->h'.get? b=some o) (hT:s.heap.objs.size<=T) (rv:Vals xs its) (hz:xs.length<=sizeLine) (ht:h'.IsTuple T its.toArray):Inv X pins σ (upd H T (.tup xs)) { s with heap:=h',toks:=tk }:=by
 have hf:H T=none:=I.hok.fresh hT
 have I1:Inv X pins σ H { s with heap:=h',toks:=tk }:=I.turnedL kk f
 have hokN:HOk X.prog X.w (upd H T (.tup xs)) h':=fun b o e=>by
  by_cases hb:b=T
  ·subst hb
   rw [Ad] at e
   cases e
   exact ⟨hz,its,rv,ht⟩
  ·rw [Au hb] at e
   refine (I1.hok b o e).stay (fun c v _ q=>q) (fun c q=>?_) fun c zs q=>?_
   ·rw [Au (Bz q hf)];exact q
   ·rw [Au (Bz q hf)];exact q
 have u:Un (Bc X.stack) fp H (upd H T (.tup xs)) s.heap h':={
  keep:=fun b o e n _ hx=>kk b o hx e
  slot:=fun b o e n _ hx=>⟨o.slots,kk b o hx e⟩
  free:=fun b o e n _=>by rw [Au (Pg (Pf (O9 e) hT))];exact n
  there:=fun b o e hx=>⟨o,kk b o hx e⟩
  tups:=fun b zs e=>by rw [Au (Bz e hf)];exact e
  frzs:=fun b o u e=>by rw [Au (Bz e hf)];exact e
  tbls:=fun b ps e=>⟨#[],by rw [Au (Bz e hf),e];simp⟩ }
 refine I.call (g':=s.gens) (d':=s.drawn) (t':=tk) u hokN I.bare fun b hb=>?_
 obtain ⟨n1,l1,_,e1,c1,p1⟩:=f b hb
 exact ⟨e1,l1,c1,p1⟩
end
structure ZB (z TI TO i1 i2 a b:Addr):Prop where
 TIz:TI≠z
 TOz:TO≠z
 TITO:TI≠TO
 i1z:i1≠z
 i2z:i2≠z
 TI1:TI≠i1
 TI2:TI≠i2
 TO1:TO≠i1
 TO2:TO≠i2
 i12:i1≠i2
 az:a≠z
 aTO:a≠TO
 a1:a≠i1
 a2:a≠i2
 bz:b≠z
 bTO:b≠TO
 b1:b≠i1
 b2:b≠i2
theorem ZB.za {z TI TO i1 i2 a b:Addr}(D:ZB z TI TO i1 i2 a b):ZA z TI TO i1 i2 [i1,a] [i2,b] where
 TIz:=D.TIz
 TOz:=D.TOz
 TITO:=D.TITO
 z1:=by simp [D.i1z.symm,D.az.symm]
 z2:=by simp [D.i2z.symm,D.bz.symm]
 TI1:=D.TI1
 TI2:=D.TI2
 TO1:=by simp [D.TO1,D.aTO.symm]
 TO2:=by simp [D.TO2,D.bTO.symm]
 m1:=by simp
 m2:=by simp
 n1:=by simp [D.i12,D.b1.symm]
 n2:=by simp [D.i12.symm,D.a2.symm]
theorem Zi0 {n a b:Nat}(h1:a < n)(h2:b < n):ZB (n+4) (n+2) (n+3) n (n+1) a b:=by
 have f:∀ i j:Nat,i≠j->n+i≠n+j:=fun i j h e=>h (Nat.add_left_cancel e)
 have g:∀ i:Nat,a≠n+i:=fun i e=>absurd h1 (by rw [e];exact Nat.not_lt.mpr (Tl _ _))
 have g':∀ i:Nat,b≠n+i:=fun i e=>absurd h2 (by rw [e];exact Nat.not_lt.mpr (Tl _ _))
 exact ⟨f 2 4 (by decide),f 3 4 (by decide),f 2 3 (by decide),f 0 4 (by decide),f 1 4 (by decide),f 2 0 (by decide),f 2 1 (by decide),f 3 0 (by decide),f 3 1 (by decide),f 0 1 (by decide),g 4,g 3,g 0,g 1,g' 4,g' 3,g' 0,g' 1⟩
section
variable {X:Cx}
end
theorem Zoi {prog:Program}{w:World}{A:Around}{E:Value->Shared->Prop}{s:Shared}{t sl:Addr}{items:Array Value}{vl vu:Value}{lo hi:Option Int}{Q:Value->Shared->Prop}(ht:IsTup s.heap t items)(hs:s.heap.IsSliceOf sl vl vu .none)(pl:IsPart vl lo)(pu:IsPart vu hi)
  (hw:HT.sIx items.size 0 lo=0/\HT.sIx items.size items.size hi=items.size) (h:Q (.ref t) s):wpAny (model prog w) A (getItem (.ref t) (.ref sl)) Q E s:=by
 obtain ⟨os,hos,hcs,hds⟩:=id hs
 have hTs:s.TypeIs (.ref sl) "slice" := ⟨os,hos,hcs⟩
 unfold getItem
 try with_reducible refine P9 ?_
 first | refine O1 (O2 ?_) | skip
 refine O1 (wpAny_sequenceKey ht.typeIs (by decide) ?_)
 refine O1 (Rt (name:=Qm "__getitem__") ht.typeIs Sn
  (Ry Sn ht.typeIs PyProof.Rows.entry_tuple_getitem ?_ (PyProof.Rows.args_tuple_getitem _ _)))
 show wpAny _ _ (Builtin.Tuple.tupleItemsOf (.ref t) >>= _) _ _ s
 refine O1 (PyProof.Rows.tupleItemsOf_ ht ?_)
 refine O1 (Ux hTs ?_)
 rw [if_pos (by decide)]
 refine O1 (HT.sliceApplied_gen hs pl pu ?_)
 have hyes:(((HT.sIx items.size 0 lo:Nat):Int) == 0 && (1:Int) == 1 && (HT.sIx items.size items.size hi - HT.sIx items.size 0 lo) == items.size)=true:=by
  rw [hw.1,hw.2]
  simp
 show wpAny _ _ (if (((HT.sIx items.size 0 lo:Nat):Int) == 0 && (1:Int) == 1 && (HT.sIx items.size items.size hi - HT.sIx items.size 0 lo) == items.size)=true then _ else _) _ _ s
 rw [if_pos hyes]
 refine O1 (m:=Builtin.Tuple.tupleIsExact (.ref t)) ?_
 unfold Builtin.Tuple.tupleIsExact
 refine O1 (Ux ht.typeIs (O2 ?_))
 rw [if_pos (by decide)]
 refine O1 (T2 ?_)
 exact O2 ⟨_,rfl,O2 h⟩
noncomputable def rSlU (K:O0):V->Option Int->Option Int->Hp->VK->Prop:=fun x lo hi H Q=>∃ a xs,x=.ref a/\SqT K H a xs/\∀ r H',Same H H'->SqT K H' r (B9 xs lo hi)->Q (.ref r) H'
theorem Zn6 {X:Cx}:SlR X (rSlU X.K):=by
 intro pins s σ H x v vl vu lo hi sl Q I rx hs pl pu h
 obtain ⟨a,xs,rfl,hx,q⟩:=h
 by_cases hw:HT.sIx xs.length 0 lo=0/\HT.sIx xs.length xs.length hi=xs.length
 ·cases rx
  obtain ⟨its,r,ht,hz⟩:=I.tuple hx
  have hlen:its.toArray.size=xs.length:=by rw [O5];exact r.length.symm
  refine ⟨"tuple",_,Sn.lookup,ht.typeIs,?_⟩
  refine Zoi ht hs pl pu (by rw [hlen];exact hw) ⟨.ref a,H,I,rfl,q a H (Same.refl H) ?_⟩
  have e:B9 xs lo hi=xs:=by unfold B9;rw [hw.1,hw.2];simp
  rw [e]
  exact hx
 ·exact Zhx pins s σ H _ v vl vu lo hi sl Q I rx hs pl pu ⟨a,xs,rfl,hx,hw,fun p hp=>q p _ (Same.upd hp) (.of Ad)⟩
noncomputable def rSlB (K:O0):V->Option Int->Option Int->Hp->VK->Prop:=fun x lo hi H Q=>Zca K x lo hi H Q\/Zbg x lo hi H Q\/rSlU K x lo hi H Q
theorem Mm {X:Cx}(K:O0)(hK:X.K=K:=by rfl):SlR X (rSlB K):=by subst hK;exact sl_list.or (sl_str.or Zn6)
theorem Kw {K:O0}{a:Addr}{xs:List V}{lo hi:Option Int}{H:Hp}{Q:VK}(ha:SqT K H a xs)(h:∀ r H',Same H H'->SqT K H' r (B9 xs lo hi)->Q (.ref r) H'):rSlB K (.ref a) lo hi H Q:=.inr (.inr ⟨a,xs,rfl,ha,h⟩)
theorem Ot (xs:List V)(k:Nat):B9 xs none (some (k:Int))=xs.take k:=by
 unfold B9
 rw [HT.sIx_none,HT.sIx_nat,Tx,List.drop_zero]
 by_cases h:k<=xs.length
 ·rw [Ur h]
 ·rw [Uk (by omega),R8 (O3 _),R8 (by omega)]
theorem Zhv (xs:List V)(k:Nat):B9 xs (some (k:Int)) none=xs.drop k:=by
 unfold B9
 rw [HT.sIx_none,HT.sIx_nat]
 by_cases h:k<=xs.length
 ·rw [Ur h,R8 (by simp)]
 ·rw [Uk (by omega),Ru (O3 _),Ru (by omega)]
  simp
theorem Zso (xs:List V)(j k:Nat):B9 xs (some (j:Int)) (some (k:Int))=(xs.drop j).take (k - j):=by
 unfold B9
 rw [HT.sIx_nat,HT.sIx_nat]
 by_cases hj:j<=xs.length
 ·rw [Ur hj]
  by_cases hk:k<=xs.length
  ·rw [Ur hk]
  ·rw [Uk (by omega),R8 (by simp),R8 (by simp;omega)]
 ·rw [Uk (Uw (Nat.lt_of_not_le hj)),Ru (O3 _),Ru (by omega)]
  simp
structure Mvd (fs xs:List Addr)(h h':Heap):Prop where
 keep:∀ b o,b ∉ xs->b ∉ fs->h.get? b=some o->h'.get? b=some o
 slot:∀ b o,b ∉ xs->h.get? b=some o->∃ sl,h'.get? b=some { o with slots:=sl }
theorem Mvd.trans {fs xs:List Addr}{h h1 h2:Heap}(a:Mvd fs xs h h1)(b:Mvd fs xs h1 h2):Mvd fs xs h h2 :=
 ⟨fun c o n1 n2 e=>b.keep c o n1 n2 (a.keep c o n1 n2 e),fun c o n e=>by
  obtain ⟨sl,e1⟩:=a.slot c o n e
  obtain ⟨sl',e2⟩:=b.slot c _ n e1
  exact ⟨sl',e2⟩⟩
theorem Mvd.mono {fs xs ys:List Addr}{h h1:Heap}(a:Mvd fs xs h h1)(s:∀ b∈xs,b∈ys):Mvd fs ys h h1 :=
 ⟨fun c o n1 n2 e=>a.keep c o (fun z=>n1 (s c z)) n2 e,fun c o n e=>a.slot c o (fun z=>n (s c z)) e⟩
theorem Mvd.upd {fs:List Addr}{h:Heap}{a:Addr}(f:Obj->Obj):Mvd fs [a] h (h.update a f) :=
 ⟨fun c o n _ e=>by rw [Qn _ _ (fun z=>n (by simp [z]))];exact e,fun c o n e=>⟨o.slots,by rw [Qn _ _ (fun z=>n (by simp [z]))];exact e⟩⟩
theorem Mvd.push {fs xs:List Addr}{h:Heap}(o:Obj):Mvd fs xs h (h.push o):=⟨fun _ _ _ _ e=>O6 _ e,fun _ o _ e=>⟨o.slots,O6 _ e⟩⟩
theorem Mvd.fun {fs xs:List Addr}{h h1 base:Heap}{l:List Env}(a:Mvd fs xs h h1)(hl:h.FunFrames base l)(nx:∀ b∈xs,∃ o vs,h.get? b=some o/\o.data=.fields vs):h1.FunFrames base l :=
 hl.of_keeps fun b o e hd=>by
  obtain ⟨sl,e1⟩:=a.slot b o (fun z=>by
   obtain ⟨o',vs,e',d'⟩:=nx b z
   rw [e] at e'
   cases e'
   exact hd vs d') e
  exact ⟨_,e1,rfl⟩
noncomputable def Kx (h:Heap)(e T:Addr)(cls:Value)(od:Option Addr)(fl:Value):Prop :=
 ∃ oe vs oT ts,h.get? e=some oe/\oe.cls=cls/\oe.dict=od/\oe.data=.fields vs/\vs[1]?=some (.ref T)/\T≠e/\h.get? T=some oT/\oT.data=.fields ts/\ts[3]?=some fl/\vs[2]?=some .none
noncomputable abbrev F5 (h:Heap)(e T:Addr)(cls:Value)(od:Option Addr):Prop:=Kx h e T cls od .none
noncomputable def F0 (h:Heap)(e:Addr)(cls:Value)(od:Option Addr):Prop:=∃ oe vs,h.get? e=some oe/\oe.cls=cls/\oe.dict=od/\oe.data=.fields vs/\vs[1]?=some .none/\vs[2]?=some .none
section
variable {M:Model}{A:Around}{E:Value->Shared->Prop}{s:Shared}
theorem Zeo {base:Heap}{env:Env}{outer:List Env}{L e:Addr}{oe:Obj}{vs:Array Value}{head:Value}{hadNext:Bool}{Q:Unit->Shared->Prop}
  (hfr:A.frames=some (env::outer)) (hl:s.heap.FunFrames base (env::outer)) (hf:env.frame=some L) (he:s.heap.get? e=some oe) (hd:oe.data=.fields vs) (hsz:1 < vs.size) (hct:vs[2]?=some .none)
  (h:∀ h' T,s.heap.objs.size<=T->Kx h' e T oe.cls oe.dict (rawInt L)->Mvd (Bc (env::outer)) [e] s.heap h'->Q () { s with heap:=h' }) :
  wpAny M A (do let a <- frameOf env;let pl <- entryPlaceOf L hadNext;let b <- EntryCells.newEntry head a .none (rawInt L) .none pl;setField (.ref e) 1 b) Q E s:=by
 have hene:e ∉ Bc (env::outer):=fun hm=>by
  obtain ⟨_,o,ho,hnf⟩:=hl.mem hm
  rw [he] at ho
  cases ho
  exact hnf vs hd
 refine O1 (wpAny_frameOf_fun hfr hl hf fun h₁ s1=>?_)
 refine O1 (wpAny_entryPlaceOf fun pl hpl=>?_)
 unfold EntryCells.newEntry newFields
 refine O1 (Rx ?_ (hpl.sizeOk5 _ _ _ _ _))
 have e1:h₁.get? e=some oe:=(s1.2.1 e hene).trans he
 generalize hoT:({ cls:=.type "traceback",dict:=none,data:=.fields ([head,.ref L,.none,rawInt L,.none]++(if pl.isEmpty then Pa 6 Value.none else pl)).toArray }:Obj)=oT
 have e2:(h₁.push oT).get? e=some oe:=O6 _ e1
 refine Tt e2 hd hsz (h _ h₁.objs.size (by rw [s1.1];exact O3 _) ?_ ?_)
 ·have nT:h₁.objs.size≠e:=Re (O9 e1)
  have d3:=Ui hd (·.setIfInBounds 1 (Value.ref h₁.objs.size))
  have e3:=Rk (Sx (·.setIfInBounds 1 (Value.ref h₁.objs.size))) e2 (Va d3)
  have fT:oT.isFreed=false:=by rw [<- hoT];rfl
  have e4:=(Qn (h₁.push oT) (Sx (·.setIfInBounds 1 (Value.ref h₁.objs.size))) (Ps nT)).trans (Pe h₁ fT)
  refine ⟨_,_,_,_,e3,Obj.cls_mapFields _ _,?_,d3,by simp [hsz],nT,e4,by rw [<- hoT],?_⟩
  ·obtain ⟨c0,d0,t0,s0⟩:=oe
   cases t0 <;> rfl
  ·refine ⟨?_,by rw [Array.getElem?_setIfInBounds_ne (by decide)];exact hct⟩
   first | (simp;done) | (rcases hpl with rfl | ⟨_,_,_,_,_,_,_,rfl⟩ <;> simp)
 ·have m1:Mvd (Bc (env::outer)) [e] s.heap h₁:=⟨fun b o _ n e=>(s1.2.1 b n).trans e,fun b o _ e=>s1.2.2 b o e⟩
  exact (m1.trans (Mvd.push oT)).trans (Mvd.upd _)
theorem Ob {e T:Addr}{cls fl:Value}{od:Option Addr}{fs:List Addr}{Q:Unit->Shared->Prop}(x:Kx s.heap e T cls od fl)(h:∀ h',F5 h' e T cls od->Mvd fs [T] s.heap h'->Q () { s with heap:=h' }):wpAny M A (setFlight (.ref e) none) Q E s:=by
 obtain ⟨oe,vs,oT,ts,a1,a2,a3,a4,a5,a6,a7,a8,a9⟩:=x
 have hz:3 < ts.size:=(T5.mp a9.1).1
 unfold setFlight
 refine O1 (Pn a1 a4 a5 ?_)
 rw [if_pos (show (Value.ref T != Value.none)=true from by simp)]
 refine Tt a7 a8 hz (h _ ?_ (Mvd.upd _))
 have d:=Ui a8 (·.setIfInBounds 3 ((none:Option Addr).elim Value.none fun f=>rawInt f))
 exact ⟨oe,vs,_,_,by rw [Qn _ _ a6];exact a1,a2,a3,a4,a5,a6,Rk _ a7 (Va d),d,by simp [hz],a9.2⟩
theorem Zqy {base:Heap}{env:Env}{outer:List Env}{L e:Addr}{cls:Value}{od:Option Addr}{Q:Unit->Shared->Prop}
  (hfr:A.frames=some (env::outer)) (hl:s.heap.FunFrames base (env::outer)) (hf:env.frame=some L) (x:F0 s.heap e cls od)
  (h:∀ h' T,s.heap.objs.size<=T->Kx h' e T cls od (rawInt L)->Mvd (Bc (env::outer)) [e] s.heap h'->Q () { s with heap:=h' }):wpAny M A (noteFrame (.ref e) env) Q E s:=by
 obtain ⟨oe,vs,he,rfl,rfl,hd,h1,hct⟩:=x
 unfold noteFrame
 simp only [hf]
 refine O1 (Pn he hd h1 ?_)
 rw [if_neg (by decide)]
 exact Zeo hfr hl hf he hd (T5.mp h1).1 hct h
theorem Zek {base:Heap}{env:Env}{outer:List Env}{L e T:Addr}{cls:Value}{od:Option Addr}{Q:Unit->Shared->Prop}
  (hfr:A.frames=some (env::outer)) (hl:s.heap.FunFrames base (env::outer)) (hf:env.frame=some L) (x:F5 s.heap e T cls od)
  (h:∀ h' T',s.heap.objs.size<=T'->Kx h' e T' cls od (rawInt L)->Mvd (Bc (env::outer)) [e,T] s.heap h'->Q () { s with heap:=h' }):wpAny M A (noteFrame (.ref e) env) Q E s:=by
 obtain ⟨oe,vs,oT,ts,he,rfl,rfl,hd,h1,nT,hT,dT,h3,hct⟩:=x
 unfold noteFrame
 simp only [hf]
 refine O1 (Pn he hd h1 ?_)
 rw [if_pos (show (Value.ref T != Value.none)=true from by simp)]
 refine O1 (Pn hT dT h3 ?_)
 rw [if_neg (show ¬ ((Value.none == rawInt L)=true) from by simp [rawInt])]
 refine O1 (Tt hT dT (T5.mp h3).1 ?_)
 have m1:Mvd (Bc (env::outer)) [T] s.heap (s.heap.update T (Sx (·.setIfInBounds 3 Value.none))):=Mvd.upd _
 have he':(s.heap.update T (Sx (·.setIfInBounds 3 Value.none))).get? e=some oe:=(Qn _ _ nT).trans he
 refine Zeo hfr (m1.fun hl fun b hb=>by rw [P8.mp hb];exact ⟨oT,ts,hT,dT⟩) hf he' hd (T5.mp h1).1 hct fun h' T' hz x m=>?_
 refine h h' T' ?_ x ((m1.mono (by simp)).trans (m.mono (by simp)))
 have:(s.heap.update T (Sx (·.setIfInBounds 3 Value.none))).objs.size=s.heap.objs.size:=Heap.size_after_update ..
 have hz:(s.heap.update T (Sx (·.setIfInBounds 3 Value.none))).objs.size<=T':=hz
 omega
theorem Ziy {base:Heap}{env:Env}{outer:List Env}{L e:Addr}{cls:Value}{od:Option Addr}{Q:Unit->Shared->Prop}
  (hfr:A.frames=some (env::outer)) (hl:s.heap.FunFrames base (env::outer)) (hf:env.frame=some L) (x:F0 s.heap e cls od)
  (h:∀ h' T,s.heap.objs.size<=T->F5 h' e T cls od->Mvd (Bc (env::outer)) [e,T] s.heap h'->Q () { s with heap:=h' }):wpAny M A (leaving env (.ref e)) Q E s:=by
 unfold leaving
 refine O1 (Zqy hfr hl hf x fun h1 T hz y m=>?_)
 refine Ob (fs:=Bc (env::outer)) y fun h2 y2 m2=>h h2 T hz y2 ((m.mono (by simp)).trans (m2.mono (by simp)))
theorem Zpu {base:Heap}{env:Env}{outer:List Env}{L e T:Addr}{cls:Value}{od:Option Addr}{Q:Unit->Shared->Prop}
  (hfr:A.frames=some (env::outer)) (hl:s.heap.FunFrames base (env::outer)) (hf:env.frame=some L) (x:F5 s.heap e T cls od)
  (h:∀ h' T',s.heap.objs.size<=T'->F5 h' e T' cls od->Mvd (Bc (env::outer)) [e,T,T'] s.heap h'->Q () { s with heap:=h' }):wpAny M A (leaving env (.ref e)) Q E s:=by
 unfold leaving
 refine O1 (Zek hfr hl hf x fun h1 T' hz y m=>?_)
 refine Ob (fs:=Bc (env::outer)) y fun h2 y2 m2=>h h2 T' hz y2 ((m.mono (by simp)).trans (m2.mono (by simp)))
end
theorem Hq {X:Cx}{st:Stmt}:QS X st (fun _ _ _=>False):=⟨fun _ _ _ _ _ _ h=>h.elim⟩
noncomputable def Iq (h:Heap)(z TI TO i1 i2:Addr):Prop:=∃(a:Addr)(oa:Obj)(f1:Value),h.get? z=some { cls:=.type "zip",dict:=none,data:=.fields #[rawInt a,f1,.bool false,.ref TI,.ref TO],slots:=#[] }/\h.get? a=some oa/\a≠z/\a≠i1/\a≠i2
section
variable {prog:Program}{w:World}{A:Around}{E:Value->Shared->Prop}{s:Shared}{z TI TO i1 i2:Addr}{fp1 fp2:List Addr}{n1 n2 i:Nat}{P1 P2:Nat->Value->Prop}{St1 St2:Nat->Heap->Prop}{a b:Value}
theorem Zhq {Q:Bool->Shared->Prop}(hz:Iq s.heap z TI TO i1 i2)(h:∀ h',Iq h' z TI TO i1 i2->Px z s.heap h'->Q false { s with heap:=h' }):wpAny (model prog w) A (Rs (.ref z)) Q E s:=by
 obtain ⟨a,oa,f1,e,ea,n0,n1,n2⟩:=hz
 unfold Rs
 refine O1 (Pn e rfl (x:=rawInt a) rfl ?_)
 show wpAny _ _ (loadIfAlive ((a:Int).toNat) >>= _) _ _ s
 refine O1 (Zqk ?_)
 rw [Uj,ea]
 rw [if_neg (by simp)]
 refine O1 (Pn e rfl (x:=f1) rfl ?_)
 by_cases hf:(f1 != Value.bool true)=true
 ·simp only [hf,if_true]
  refine O1 (Se e (by simp) fun h₅ e5 s5=>?_)
  replace s5:Px z s.heap h₅:=s5
  exact O2 (h h₅ ⟨a,oa,.bool true,e5,s5.extBut a oa n0 ea,n0,n1,n2⟩ s5)
 ·simp only [hf]
  exact O2 (h s.heap ⟨a,oa,f1,e,ea,n0,n1,n2⟩ (Px.refl ..))
theorem Zi8 {Q:Value->Shared->Prop}(D1:Draws prog w A i1 fp1 n1 P1 St1)(D2:Draws prog w A i2 fp2 n2 P2 St2)(D:ZA z TI TO i1 i2 fp1 fp2)(hz:Iq s.heap z TI TO i1 i2)(hTI:IsPair s.heap TI (.ref i1) (.ref i2))
  (st1:St1 i s.heap) (st2:St2 i s.heap) (l1:i < n1) (l2:i < n2)
  (hQ:∀ x y h' tk,P1 i x->P2 i y->Iq h' z TI TO i1 i2->St1 (i+1) h'->St2 (i+1) h'->IsPair h' s.heap.objs.size x y->h'.objs.size=s.heap.objs.size+1 ->
   (∀ c o,c≠z->c≠i1->c≠i2->s.heap.get? c=some o->h'.get? c=some o)->Q (.ref s.heap.objs.size) { s with heap:=h',toks:=tk }) :
  wpAny (model prog w) A (Builtin.«zip.__next__» ⟨[.ref z],[]⟩) (fun fin s'=>∃ v,fin=.done (.ret v)/\Q v s') E s:=by
 obtain ⟨a0,oa0,f10,e0,_⟩:=id hz
 show wpAny _ _ (field (.ref z) 2 >>= _) _ _ s
 refine O1 (Pn e0 rfl (x:=Value.bool false) rfl ?_)
 show wpAny _ _ (field (.ref z) 3 >>= _) _ _ s
 refine O1 (Pn e0 rfl (x:=Value.ref TI) rfl (O1 (Q3 hTI rfl ?_)))
 show wpAny _ _ (Rs (.ref z) >>= _) _ _ s
 refine O1 (Zhq hz fun h₁ hz₁ e1=>?_)
 simp only [Sd,if_false]
 refine O1 ?_
 simp only [List.forIn_toArray,Tp,Uu]
 refine O1 (O1 (P9 ?_))
 show wpAny _ _ (Qq (.ref i1) >>= _) _ _ _
 refine O1 (D1.item i _ _ _ l1 (B4 D1 st1 e1 D.z1) fun x h₂ tk₂ px s12 e2=>O2 (O2 ?_))
 replace e2:Px i1 h₁ h₂:=e2
 refine O1 (O1 (P9 ?_))
 show wpAny _ _ (Qq (.ref i2) >>= _) _ _ _
 have s22:St2 i h₂:=B4 D2 (B4 D2 st2 e1 D.z2) e2 D.n1
 refine O1 (D2.item i _ _ _ l2 s22 fun y h₄ tk₄ py s24 e4=>O2 (O2 (O2 ?_)))
 replace e4:Px i2 h₂ h₄:=e4
 show wpAny _ _ (newTuple [x,y] >>= _) _ _ _
 refine O1 (wpAny_newTuple (O2 ⟨_,rfl,?_⟩))
 have sz:h₄.objs.size=s.heap.objs.size:=by rw [e4.1,e2.1,e1.1]
 show Q (.ref h₄.objs.size) { s with heap:=h₄.push { cls:=.type "tuple",data:=.seq #[x,y] },toks:=tk₄ }
 have up:∀ c o,h₄.get? c=some o->(h₄.push { cls:=.type "tuple",data:=.seq #[x,y] }).get? c=some o:=fun c o e=>O6 _ e
 have k4:∀ c o,c≠z->c≠i1->c≠i2->s.heap.get? c=some o->h₄.get? c=some o:=fun c o c1 c3 c4 e=>e4.extBut _ _ c4 (e2.extBut _ _ c3 (e1.extBut _ _ c1 e))
 have t8:IsPair (h₄.push { cls:=.type "tuple",data:=.seq #[x,y] }) h₄.objs.size x y:=Pe _ rfl
 rw [sz] at t8
 rw [sz]
 obtain ⟨a1,oa1,f1,g1,g2,g3,g4,g5⟩:=hz₁
 refine hQ x y _ tk₄ px py ⟨a1,oa1,f1,up _ _ (e4.extBut _ _ D.i2z.symm (e2.extBut _ _ D.i1z.symm g1)),up _ _ (e4.extBut _ _ g5 (e2.extBut _ _ g4 g2)),g3,g4,g5⟩ ?_ ?_ t8 (by rw [Qx,sz]) fun c o c1 c3 c4 e=>up c o (k4 c o c1 c3 c4 e)
 ·exact D1.frame _ _ _ (B4 D1 s12 e4 D.n2) fun c _ o e=>up c o e
 ·exact D2.frame _ _ _ s24 fun c _ o e=>up c o e
theorem Zmj {Q:Fin->Shared->Prop}(D1:Draws prog w A i1 fp1 n1 P1 St1)(D2:Draws prog w A i2 fp2 n2 P2 St2)(D:ZA z TI TO i1 i2 fp1 fp2)(hz:Iq s.heap z TI TO i1 i2)(hTI:IsPair s.heap TI (.ref i1) (.ref i2))
  (st1:St1 i s.heap) (st2:St2 i s.heap) (hend:i=n1\/(i < n1/\i=n2))
  (hE:∀ h' e tk,(∀ c o,c≠z->c≠i1->c≠i2->s.heap.get? c=some o->h'.get? c=some o)->(∃ o,h'.get? e=some o/\o.cls=.type "StopIteration")->E (.ref e) { s with heap:=h',toks:=tk }) :
  wpAny (model prog w) A (Builtin.«zip.__next__» ⟨[.ref z],[]⟩) Q E s:=by
 obtain ⟨a0,oa0,f10,e0,_⟩:=id hz
 show wpAny _ _ (field (.ref z) 2 >>= _) _ _ s
 refine O1 (Pn e0 rfl (x:=Value.bool false) rfl ?_)
 show wpAny _ _ (field (.ref z) 3 >>= _) _ _ s
 refine O1 (Pn e0 rfl (x:=Value.ref TI) rfl (O1 (Q3 hTI rfl ?_)))
 show wpAny _ _ (Rs (.ref z) >>= _) _ _ s
 refine O1 (Zhq hz fun h₁ hz₁ e1=>?_)
 simp only [Sd,if_false]
 refine O1 ?_
 simp only [List.forIn_toArray,Tp,Uu]
 refine O1 (O1 (P9 ?_))
 show wpAny _ _ (Qq (.ref i1) >>= _) _ _ _
 rcases hend with rfl | ⟨l1,rfl⟩
 ·refine O1 (D1.done _ _ _ (B4 D1 st1 e1 D.z1) fun h₂ e e2 he=>?_)
  replace e2:Tz i1 h₁ h₂:=e2
  exact hE h₂ e s.toks (fun c o c1 c3 _ x=>e2 _ _ c3 (e1.extBut _ _ c1 x)) he
 ·refine O1 (D1.item i _ _ _ l1 (B4 D1 st1 e1 D.z1) fun x h₂ tk₂ px s12 e2=>O2 (O2 ?_))
  replace e2:Px i1 h₁ h₂:=e2
  refine O1 (O1 (P9 ?_))
  show wpAny _ _ (Qq (.ref i2) >>= _) _ _ _
  have s22:St2 i h₂:=B4 D2 (B4 D2 st2 e1 D.z2) e2 D.n1
  refine O1 (D2.done _ _ _ s22 fun h₄ e e4 he=>?_)
  replace e4:Tz i2 h₂ h₄:=e4
  exact hE h₄ e tk₂ (fun c o c1 c3 c4 x=>e4 _ _ c4 (e2.extBut _ _ c3 (e1.extBut _ _ c1 x))) he
noncomputable def ZpSt (h:Heap)(z TI TO i1 i2:Addr)(i:Nat):Prop:=(i=0/\IsZip h z TI TO .none/\∃ u v,IsPair h TO u v)\/(0 < i/\Iq h z TI TO i1 i2)
theorem ZpSt.obj {h:Heap}{z TI TO i1 i2:Addr}{i:Nat}(x:ZpSt h z TI TO i1 i2 i):∃ vs,h.get? z=some { cls:=.type "zip",dict:=none,data:=.fields vs,slots:=#[] }:=by
 rcases x with ⟨_,x,_⟩ | ⟨_,_,_,_,x,_⟩
 ·exact ⟨_,x⟩
 ·exact ⟨_,x⟩
theorem Zmd {Q:Option Value->Shared->Prop}(D1:Draws prog w A.in1 i1 fp1 n1 P1 St1)(D2:Draws prog w A.in1 i2 fp2 n2 P2 St2)(D:ZA z TI TO i1 i2 fp1 fp2)(hz:ZpSt s.heap z TI TO i1 i2 i)(hTI:IsPair s.heap TI (.ref i1) (.ref i2))(eTO:∃ o,s.heap.get? TO=some o)
  (st1:St1 i s.heap) (st2:St2 i s.heap) (l1:i < n1) (l2:i < n2)
  (hQ:∀ x y h' tk,P1 i x->P2 i y->ZpSt h' z TI TO i1 i2 (i+1)->(∃ o,h'.get? TO=some o)->St1 (i+1) h'->St2 (i+1) h'->IsPair h' s.heap.objs.size x y->h'.objs.size=s.heap.objs.size+1 ->
   (∀ c o,c≠z->c≠TO->c≠i1->c≠i2->s.heap.get? c=some o->h'.get? c=some o)->Q (some (.ref s.heap.objs.size)) { s with heap:=h',toks:=tk }) :
  wpAny (model prog w) A (pyNext (.ref z)) Q E s:=by
 obtain ⟨vs,ho⟩:=hz.obj
 have hT:s.TypeIs (.ref z) "zip" := ⟨_,ho,rfl⟩
 have zl:z < s.heap.objs.size:=O9 ho
 have l1':i1 < s.heap.objs.size:=by obtain ⟨_,y⟩:=D1.live _ _ st1;exact O9 y
 have l2':i2 < s.heap.objs.size:=by obtain ⟨_,y⟩:=D2.live _ _ st2;exact O9 y
 rcases hz with ⟨rfl,hz,u,v,hTO⟩ | ⟨hi,hz⟩
 ·exact Zq7 D1 D2 D hz hTI hTO st1 st2 l1 l2 fun x y h' tk a1 a2 a3 a4 a5 a6 a7 a8 a9=>hQ x y h' tk a1 a2 (.inr ⟨Nat.succ_pos _,_,_,_,a3,a7,Re zl,Re l1',Re l2'⟩) ⟨_,a4⟩ a5 a6 a7 a8 a9
 ·unfold pyNext
  exact O1 (Sj (Rt (name:=Qm "__next__") hT Rv
   (Ry Rv hT Uc (Zi8 D1 D2 D hz hTI st1 st2 l1 l2 fun x y h' tk a1 a2 a3 a4 a5 a6 a7 a8=>O2 (hQ x y h' tk a1 a2 (.inr ⟨Nat.succ_pos _,a3⟩) (let ⟨o,e⟩:=eTO;⟨o,a8 _ o D.TOz D.TOi1 D.TOi2 e⟩) a4 a5 a6 a7 fun c o c1 _ c3 c4 e=>a8 c o c1 c3 c4 e)) (Ua _))))
theorem Zqd {Q:Option Value->Shared->Prop}(D1:Draws prog w A.in1 i1 fp1 n1 P1 St1)(D2:Draws prog w A.in1 i2 fp2 n2 P2 St2)(D:ZA z TI TO i1 i2 fp1 fp2)(hz:ZpSt s.heap z TI TO i1 i2 i)(hTI:IsPair s.heap TI (.ref i1) (.ref i2))
  (st1:St1 i s.heap) (st2:St2 i s.heap) (hend:i=n1\/(i < n1/\i=n2))
  (hQ:∀ h' tk,(∀ c o,c≠z->c≠TO->c≠i1->c≠i2->s.heap.get? c=some o->h'.get? c=some o)->Q none { s with heap:=h',toks:=tk }):wpAny (model prog w) A (pyNext (.ref z)) Q E s:=by
 obtain ⟨vs,ho⟩:=hz.obj
 have hT:s.TypeIs (.ref z) "zip" := ⟨_,ho,rfl⟩
 rcases hz with ⟨rfl,hz,u,v,hTO⟩ | ⟨hi,hz⟩
 ·exact Ztk D1 D2 D hz hTI hTO st1 st2 hend hQ
 ·unfold pyNext
  refine O1 (Sj (Rt (name:=Qm "__next__") hT Rv
   (Ry Rv hT Uc (Zmj D1 D2 D hz hTI st1 st2 hend fun h' e tk hk he=>?_) (Ua _))))
  obtain ⟨o,ho,hc⟩:=he
  exact O1 (wpAny_isInstance (T := "StopIteration") (b:=true) ⟨o,ho,hc⟩ isSubtype_stop (O2 (hQ _ _ fun c o c1 _ c3 c4 e=>hk c o c1 c3 c4 e)))
end
noncomputable abbrev itZ (b:Bool)(l:Addr):Obj:={ cls:=.type (cond b "tuple_iterator" "list_iterator"),data:=.fields #[.ref l,.int 0 0] }
noncomputable def ZIt (b:Bool)(h:Heap)(a l:Addr)(i:Nat):Prop:=∃ o,h.get? a=some o/\o.cls=.type (cond b "tuple_iterator" "list_iterator")/\o.data=.fields #[.ref l,.int i 0]
theorem ZIt.at {b:Bool}{h h':Heap}{a l:Addr}{i:Nat}(x:ZIt b h a l i)(k:∀ o,h.get? a=some o->h'.get? a=some o):ZIt b h' a l i:=let ⟨o,e,r⟩:=x;⟨o,k o e,r⟩
noncomputable def ZIn (b:Bool)(h:Heap)(a:Addr)(xs:Array Value):Prop:=cond b (h.IsTuple a xs) (h.IsList a xs)
noncomputable def G0 (b:Bool)(K:O0)(H:Hp)(a:Addr)(xs:List V):Prop:=cond b (SqT K H a xs) (SqL K H a xs)
theorem ZIn.lt {b:Bool}{h:Heap}{a:Addr}{xs:Array Value}(x:ZIn b h a xs):a < h.objs.size:=by
 cases b <;> exact let ⟨_,e,_⟩:=id x;O9 e
theorem ZIn.push {b:Bool}{h:Heap}{a:Addr}{xs:Array Value}(x:ZIn b h a xs)(o:Obj):ZIn b (h.push o) a xs:=by
 cases b
 ·exact Heap.IsList.push x _
 ·obtain ⟨o,e,r⟩:=id x
  exact ⟨o,O6 _ e,r⟩
theorem Same.sqZ {b:Bool}{K:O0}{H H':Hp}{a:Addr}{xs:List V}(m:Same H H')(x:G0 b K H a xs):G0 b K H' a xs:=by
 cases b
 ·exact m.seq x
 ·exact m.tup x
theorem Inv.zin {X:Cx}{pins:List (Addr×Obj)}{σ:St}{H:Hp}{s:Shared}{b:Bool}{a:Addr}{xs:List V}(I:Inv X pins σ H s)(x:G0 b X.K H a xs):∃ its,Vals xs its/\ZIn b s.heap a its.toArray:=by
 cases b
 ·obtain ⟨its,rv,pl,hz⟩:=I.list x
  exact ⟨its,rv,pl.isList⟩
 ·obtain ⟨its,rv,pl,hz⟩:=I.tuple x
  exact ⟨its,rv,pl⟩
theorem Inv.zsz {X:Cx}{pins:List (Addr×Obj)}{σ:St}{H:Hp}{s:Shared}{b:Bool}{a:Addr}{xs:List V}(I:Inv X pins σ H s)(x:G0 b X.K H a xs):xs.length<=sizeLine:=by
 cases b
 ·obtain ⟨its,rv,pl,hz⟩:=I.list x
  have:=rv.length
  omega
 ·obtain ⟨its,rv,pl,hz⟩:=I.tuple x
  have:=rv.length
  omega
theorem M4 {prog:Program}{w:World}{A:Around}(b:Bool)(hh:A.handled=none)(it l:Addr)(hne:l≠it)(items:Array Value) :
  Draws prog w A it [it,l] items.size (fun i v=>items[i]?=some v) (fun i h=>ZIt b h it l i/\ZIn b h l items):=by
 cases b
 ·exact Draws.list hh it l hne items
 ·exact Zti hh it l hne items
theorem Zgy {prog:Program}{w:World}{A:Around}{E:Value->Shared->Prop}{s:Shared}{b:Bool}{a:Addr}{xs:Array Value}{Q:Value->Shared->Prop}(q:ZIn b s.heap a xs)
  (h:Q (.ref s.heap.objs.size) { s with heap:=s.heap.push (itZ b a) }):wpAny (model prog w) A (pyIter (.ref a)) Q E s:=by
 cases b
 ·exact Vq q h
 ·exact wpAny_pyIter_tuple q h
noncomputable abbrev zl1 (b:Bool)(h:Heap)(l1:Addr):Heap:=h.push (itZ b l1)
noncomputable abbrev zl2 (b gg:Bool)(h:Heap)(l1 l2:Addr):Heap:=(zl1 b h l1).push (itZ gg l2)
noncomputable abbrev zl3 (b gg:Bool)(h:Heap)(l1 l2:Addr):Heap:=(zl2 b gg h l1 l2).push { cls:=.type "tuple",data:=.seq #[.ref h.objs.size,.ref (zl1 b h l1).objs.size] }
noncomputable abbrev zl4 (b gg:Bool)(h:Heap)(l1 l2:Addr):Heap:=(zl3 b gg h l1 l2).push { cls:=.type "tuple",data:=.seq #[.none,.none] }
noncomputable abbrev Hm (b gg:Bool)(h:Heap)(l1 l2:Addr):Heap:=(zl4 b gg h l1 l2).push { cls:=.type "zip",data:=.fields #[.none,.bool false,.bool false,.ref (zl2 b gg h l1 l2).objs.size,.ref (zl3 b gg h l1 l2).objs.size] }
theorem Zke (b gg:Bool)(l1 l2:Addr)(xs ys:Array Value) :
  Meets (Builtin.«zip.__new__» ⟨[.type "zip",.ref l1,.ref l2],[]⟩) (fun _ R s=>ZIn b s.heap l1 xs/\ZIn gg s.heap l2 ys/\R (.ok (.ret (.ref (zl4 b gg s.heap l1 l2).objs.size))) { s with heap:=Hm b gg s.heap l1 l2 }) :=
 .of_wp fun prog w A R s h=>by
  obtain ⟨hp,g,d,tk,os⟩:=s;obtain ⟨hl1,hl2,h⟩:=h
  have hsub:=sub_zip
  have q1:ZIn b (Shared.heap ⟨hp,g,d,tk,os⟩) l1 xs:=hl1
  have q2:ZIn gg (Shared.heap ⟨hp.push (itZ b l1),g,d,tk,os⟩) l2 ys:=hl2.push _
  wp_walk using Zgy q1,Zgy q2
  exact ⟨_,rfl,h⟩
theorem Zsx {b gg:Bool}{prog:Program}{w:World}{A:Around}{E:Value->Shared->Prop}{s:Shared}{l1 l2:Addr}{xs ys:Array Value}{Q:Value->Shared->Prop}(hl1:ZIn b s.heap l1 xs)(hl2:ZIn gg s.heap l2 ys)
  (h:∀ h',IsZip h' (s.heap.objs.size+4) (s.heap.objs.size+2) (s.heap.objs.size+3) .none->IsPair h' (s.heap.objs.size+2) (.ref s.heap.objs.size) (.ref (s.heap.objs.size+1)) ->
   IsPair h' (s.heap.objs.size+3) .none .none->ZIt b h' s.heap.objs.size l1 0->ZIt gg h' (s.heap.objs.size+1) l2 0->h'.objs.size=s.heap.objs.size+5 ->
   (∀ c o,s.heap.get? c=some o->h'.get? c=some o)->Q (.ref (s.heap.objs.size+4)) { s with heap:=h' }) :
  wpAny (model prog w) A (call (.type "zip") [.ref l1,.ref l2]) Q E s:=by
 refine callType_new PySem.F.called_zip (by decide) (PySem.F.typeCall_zip_2 _ _) (PySem.F.newCall_zip_2 _ _) (fun obj=>PySem.F.args_object_init_3 obj _ _) PySem.F.entry_zip_new (Zke b gg l1 l2 xs ys) ⟨hl1,hl2,?_⟩
 have y1:(zl1 b s.heap l1).objs.size=s.heap.objs.size+1:=Qx ..
 have y2:(zl2 b gg s.heap l1 l2).objs.size=s.heap.objs.size+2:=by rw [Qx,y1]
 have y3:(zl3 b gg s.heap l1 l2).objs.size=s.heap.objs.size+3:=by rw [Qx,y2]
 have y4:(zl4 b gg s.heap l1 l2).objs.size=s.heap.objs.size+4:=by rw [Qx,y3]
 have y5:(Hm b gg s.heap l1 l2).objs.size=s.heap.objs.size+5:=by rw [Qx,y4]
 have u5:(Hm b gg s.heap l1 l2).get? (zl4 b gg s.heap l1 l2).objs.size=some _:=Pe _ rfl
 have u4:(Hm b gg s.heap l1 l2).get? (zl3 b gg s.heap l1 l2).objs.size=some _:=O6 _ (Pe _ rfl)
 have u3:(Hm b gg s.heap l1 l2).get? (zl2 b gg s.heap l1 l2).objs.size=some _:=O6 _ (O6 _ (Pe _ rfl))
 have u2:(Hm b gg s.heap l1 l2).get? (zl1 b s.heap l1).objs.size=some _:=O6 _ (O6 _ (O6 _ (Pe _ rfl)))
 have u1:(Hm b gg s.heap l1 l2).get? s.heap.objs.size=some _:=O6 _ (O6 _ (O6 _ (O6 _ (Pe _ rfl))))
 show _/\_
 rw [y2,y3,y4] at u5
 rw [y1,y2] at u3
 rw [y3] at u4
 rw [y1] at u2
 rw [y4]
 exact ⟨⟨_,u5,rfl⟩,h _ u5 u3 u4 ⟨_,u1,rfl,rfl⟩ ⟨_,u2,rfl,rfl⟩ y5 fun c o x=>O6 _ (O6 _ (O6 _ (O6 _ (O6 _ x))))⟩
noncomputable def Zbd (H:Hp)(xs ys zs:List V):Prop:=∀(j:Nat)(z:V),zs[j]?=some z->∃(t:Addr)(x y:V),z=V.ref t/\xs[j]?=some x/\ys[j]?=some y/\H t=some (.tup [x,y])
noncomputable def JZp (f gg:Bool)(K:O0)(H0:Hp)(z TI TO i1 i2 a b:Addr)(xs ys:List V):Nat->List V->Hp->Heap->Prop:=fun i zs H h =>
 ZpSt h z TI TO i1 i2 i/\(IsPair h TI (.ref i1) (.ref i2)/\∃ o,h.get? TO=some o)/\ZIt f h i1 a i/\ZIt gg h i2 b i/\(∀ c∈[z,TI,TO,i1,i2],H c=none)/\zs.length=i/\Zbd H xs ys zs/\Same H0 H
theorem Zoj:typeLookup (.type "zip") "__len__" = pure none:=by rw [typeLookup_type,builtinLookup_eq_fast];kernel_rfl
theorem Zmz:typeLookup (.type "zip") "__length_hint__" = pure none:=by rw [typeLookup_type,builtinLookup_eq_fast];kernel_rfl
theorem Zo0 {f gg:Bool}{X:Cx}{pins:List (Addr×Obj)}{σ:St}{H0:Hp}{z TI TO i1 i2 a b:Addr}{xs ys:List V}(fp:∀ c∈[z,TI,TO,i1,i2],FpOk X pins H0 c)(D:ZB z TI TO i1 i2 a b)(ha:G0 f X.K H0 a xs)(hb:G0 gg X.K H0 b ys) :
  Src X pins σ z "zip" (min xs.length ys.length) H0 (JZp f gg X.K H0 z TI TO i1 i2 a b xs ys) where
 ty:=fun i zs H h j=>by
  obtain ⟨vs,e⟩:=j.1.obj
  exact ⟨_,e,rfl⟩
 nl:=by decide
 hint:=⟨_,fun A s Q E hT h=>Ztm hT Zoj Zmz h⟩
 self:=fun A s zs H Q E j q=>by
  rcases j.1 with ⟨_,e,_⟩ | ⟨z,_⟩
  ·exact wpAny_pyIter_zip e q
  ·exact absurd z (Q4 _)
 keep:=fun i zs H h h' S us us' h0 hS j k al=>by
  obtain ⟨j1,⟨j2,jT⟩,j3,j4,j5,j6,j7,j8⟩:=j
  have ne:∀ c∈[z,TI,TO,i1,i2],c≠S:=fun c hc e=>by
   have:=j5 c hc
   rw [e,hS] at this
   cases this
  refine ⟨?_,⟨k _ _ (ne TI (by simp)) j2,let ⟨o,e⟩:=jT;⟨o,k _ _ (ne TO (by simp)) e⟩⟩,j3.at fun o e=>k _ _ (ne i1 (by simp)) e,j4.at fun o e=>k _ _ (ne i2 (by simp)) e,fun c hc=>by rw [Au (ne c hc)];exact j5 c hc,j6,fun m y hy=>?_,j8.over h0⟩
  ·rcases j1 with ⟨z0,e,u,v,e2⟩ | ⟨z0,a0,oa,f1,e,ea,x1,x2,x3⟩
   ·exact .inl ⟨z0,k _ _ (ne z (by simp)) e,u,v,k _ _ (ne TO (by simp)) e2⟩
   ·by_cases hs:a0=S
    ·subst hs
     obtain ⟨o,eo⟩:=al
     exact .inr ⟨z0,a0,o,f1,k _ _ (ne z (by simp)) e,eo,x1,x2,x3⟩
    ·exact .inr ⟨z0,a0,oa,f1,k _ _ (ne z (by simp)) e,k _ _ hs ea,x1,x2,x3⟩
  ·obtain ⟨t,x,y',e1,e2,e3,e4⟩:=j7 m y hy
   exact ⟨t,x,y',e1,e2,e3,by rw [Au (Zad e4 hS (by intro z;cases z))];exact e4⟩
 fresh:=fun i zs H h j=>j.2.2.2.2.1 z (by simp)
 item:=fun A i s H zs E hh hi I j=>by
  obtain ⟨j1,⟨j2,jT⟩,j3,j4,j5,j6,j7,j8⟩:=j
  obtain ⟨its,rv,p⟩:=I.zin (j8.sqZ ha)
  obtain ⟨its2,rv2,p2⟩:=I.zin (j8.sqZ hb)
  have g1:=rv.length
  have g2:=rv2.length
  have l1:i < xs.length:=by omega
  have l2:i < ys.length:=by omega
  have D1:=M4 (prog:=X.prog) (w:=X.w) (A:=A.in1) f hh i1 a D.a1 its.toArray
  have D2:=M4 (prog:=X.prog) (w:=X.w) (A:=A.in1) gg hh i2 b D.b2 its2.toArray
  refine Zmd D1 D2 D.za j1 j2 jT ⟨j3,p⟩ ⟨j4,p2⟩ (by rw [O5];omega) (by rw [O5];omega) fun x y h' tk px py a1 aT a2 a3 a4 a5 a6=>?_
  have hx':its[i]?=some x:=by simpa using px
  have hy':its2[i]?=some y:=by simpa using py
  obtain ⟨u1,hu1,ru1⟩:=rv.get (O7 l1)
  obtain ⟨u2,hu2,ru2⟩:=rv2.get (O7 l2)
  rw [hx'] at hu1
  cases hu1
  rw [hy'] at hu2
  cases hu2
  have hf:H s.heap.objs.size=none:=I.hok.fresh (O3 _)
  have fpH:∀ c∈[z,TI,TO,i1,i2],FpOk X pins H c:=fun c hc=>(fp c hc).of (j5 c hc)
  have kk:∀ c o,c ∉ [z,TI,TO,i1,i2]->s.heap.get? c=some o->h'.get? c=some o:=fun c o hc e=>by
   simp only [Pb,Pp,or_false,not_or] at hc
   exact a6 c o hc.1 hc.2.2.1 hc.2.2.2.1 hc.2.2.2.2 e
  have I2:=I.pairL (tk:=tk) (T:=s.heap.objs.size) (xs:=[xs[i],ys[i]]) (its:=[x,y]) fpH kk (O3 _) (.cons ru1 (.cons ru2 .nil)) (by show 2<=sizeLine;decide) ⟨_,a4,rfl,_,rfl⟩
  have sm:Same H (upd H s.heap.objs.size (.tup [xs[i],ys[i]])):=Same.upd hf
  have lt:∀{c o},s.heap.get? c=some o->c≠s.heap.objs.size:=fun e=>Pg (O9 e)
  have nw:∀ c∈[z,TI,TO,i1,i2],c≠s.heap.objs.size:=fun c hc=>by
   simp only [Pb,Pp,or_false] at hc
   rcases hc with rfl | rfl | rfl | rfl | rfl
   ·obtain ⟨_,e⟩:=j1.obj;exact lt e
   ·exact lt j2
   ·obtain ⟨_,e⟩:=jT;exact lt e
   ·obtain ⟨_,e,_⟩:=j3;exact lt e
   ·obtain ⟨_,e,_⟩:=j4;exact lt e
  refine ⟨_,.ref s.heap.objs.size,_,rfl,rfl,I2,⟨a1,⟨a6 _ _ D.TIz D.TITO D.TI1 D.TI2 j2,aT⟩,a2.1,a3.1,fun c hc=>by rw [Au (nw c hc)];exact j5 c hc,by simp [j6],fun m y hy=>?_,j8.trans sm⟩,fun S us e=>sm S _ e⟩
  by_cases hm:m < i
  ·rw [Q8 (by omega)] at hy
   obtain ⟨t,x,y',e1,e2,e3,e4⟩:=j7 m y hy
   exact ⟨t,x,y',e1,e2,e3,sm _ _ e4⟩
  ·have hlen:=(Pl.mp hy).1
   rw [Pm,Rl] at hlen
   have:m=i:=by omega
   subst this
   rw [Rh (by omega),j6,Sz] at hy
   have hy:V.ref s.heap.objs.size=y:=by simpa using hy
   exact ⟨_,xs[m],ys[m],hy.symm,O7 l1,O7 l2,Ad⟩
 done:=fun A s H zs E hh I j=>by
  obtain ⟨j1,⟨j2,jT⟩,j3,j4,j5,j6,j7,j8⟩:=j
  obtain ⟨its,rv,p⟩:=I.zin (j8.sqZ ha)
  obtain ⟨its2,rv2,p2⟩:=I.zin (j8.sqZ hb)
  have g1:=rv.length
  have g2:=rv2.length
  have D1:=M4 (prog:=X.prog) (w:=X.w) (A:=A.in1) f hh i1 a D.a1 its.toArray
  have D2:=M4 (prog:=X.prog) (w:=X.w) (A:=A.in1) gg hh i2 b D.b2 its2.toArray
  have fpH:∀ c∈[z,TI,TO,i1,i2],FpOk X pins H c:=fun c hc=>(fp c hc).of (j5 c hc)
  refine Zqd D1 D2 D.za j1 j2 ⟨j3,p⟩ ⟨j4,p2⟩ (by simp only [O5];omega) fun h' tk kk=>⟨rfl,I.turnedL (fun c o hc e=>?_) fpH⟩
  simp only [Pb,Pp,or_false,not_or] at hc
  exact kk c o hc.1 hc.2.2.1 hc.2.2.2.1 hc.2.2.2.2 e
section
variable {X:Cx}
noncomputable def Zev (f gg:Bool)(K:O0)(ta:TA):TE:=fun σ H Q=>ta σ H fun vs H1=>∃ a b xs ys,vs=[.ref a,.ref b]/\G0 f K H1 a xs/\G0 gg K H1 b ys /\
 ∀(S:Addr)(zs:List V)(H2:Hp),H1 S=none->Same H1 H2->zs.length=min xs.length ys.length->Zbd H2 xs ys zs->H2 S=some (.lst zs)->Q (.ref S) H2
theorem Zo1 (f gg:Bool)(K:O0){e e2:Expr}{ta:TA}{p p2 pos pos2:Pos}(hg:Gl X "list")(hm:X.mg "list" = none)(hg2:Gl X "zip")(hm2:X.mg "zip" = none)(ha:QA X [e,e2] ta)(hK:X.K=K:=by rfl)(hc:X.calm=true:=by rfl)
  (hs:starEach [.Call (.Name "zip" p2) [e,e2] [] pos2] X.env=[(false,eval (.Call (.Name "zip" p2) [e,e2] [] pos2) X.env)]:=by rfl) (hs2:starEach [e,e2] X.env=[(false,eval e X.env),(false,eval e2 X.env)]:=by rfl) (hs3:starEach [e2] X.env=[(false,eval e2 X.env)]:=by rfl) :
  QE X (.Call (.Name "list" p) [.Call (.Name "zip" p2) [e,e2] [] pos2] [] pos) (Zev f gg K ta):=by
 subst hK
 refine ⟨fun pins s σ H Q I h=>?_⟩
 refine Call_ (Fs I hg hm Zor (R6 ?_ hs rfl))
 rw [hs]
 show wpAny _ _ (spliced ((false,eval (.Call (.Name "zip" p2) [e,e2] [] pos2) X.env)::[])) _ _ s
 refine Uh ?_
 refine Call_ (Fs I hg2 hm2 PyProof.Rows.boot_zip (R6 (Aj (ha.run pos2 pins s σ H _ I h) fun us s1 ⟨vs,H1,I1,r1,q1⟩=>?_) (by rw [hs2,hs3]) (by rw [hs3];rfl)))
 obtain ⟨a,b,xs,ys,e1,hq,hq2,q⟩:=q1
 subst e1
 obtain ⟨u,v,rfl,ru,rv⟩:=r1.two
 cases ru
 cases rv
 obtain ⟨its,rv,pl⟩:=I1.zin hq
 obtain ⟨its2,rv2,pl2⟩:=I1.zin hq2
 have hz2:=I1.zsz hq2
 have lt1:a < s1.heap.objs.size:=pl.lt
 have lt2:b < s1.heap.objs.size:=pl2.lt
 refine Zsx pl pl2 fun h' a1 a2 a3 a4 a5 a6 hk=>?_
 refine Vp ?_
 have fr:∀ k,FpOk X pins H1 (s1.heap.objs.size+k):=fun k=>I1.fpOk (Tl _ _) (I1.hok.fresh (Tl _ _))
 have fp:∀ c∈[s1.heap.objs.size+4,s1.heap.objs.size+2,s1.heap.objs.size+3,s1.heap.objs.size,s1.heap.objs.size+1],FpOk X pins H1 c:=fun c hc=>by
  simp only [Pb,Pp,or_false] at hc
  rcases hc with rfl | rfl | rfl | rfl | rfl
  ·exact fr 4
  ·exact fr 2
  ·exact fr 3
  ·exact fr 0
  ·exact fr 1
 have C:=Zo0 (X:=X) (pins:=pins) (σ:=σ) (H0:=H1) fp (Zi0 lt1 lt2) hq hq2
 have I2:Inv X pins σ H1 { s1 with heap:=h' }:=I1.kept (t':=s1.toks) hk
 refine Ztc C (by omega) (I1.ok.hd hc) I2 ⟨.inl ⟨rfl,a1,_,_,a3⟩,⟨a2,_,a3⟩,a4,a5,fun c hc=>(fp c hc).1,rfl,fun j y hy=>by simp at hy,Same.refl _⟩ (fun S hge hS h2 k2=>?_) fun S H' zs hS hS' hl' hj=>?_
 ·have sm:Same H1 (upd H1 S (.lst [])):=Same.upd hS
  refine ⟨.inl ⟨rfl,k2 _ _ a1,_,_,k2 _ _ a3⟩,⟨k2 _ _ a2,_,k2 _ _ a3⟩,a4.at fun o e=>k2 _ _ e,a5.at fun o e=>k2 _ _ e,fun c hc=>?_,rfl,fun j y hy=>by simp at hy,sm⟩
  have hge:h'.objs.size<=S:=hge
  rw [Au (show c≠S from fun z=>?_)]
  ·exact (fp c hc).1
  ·simp only [Pb,Pp,or_false] at hc
   rcases hc with rfl | rfl | rfl | rfl | rfl <;> exact absurd z (Pg (Pf (by omega) hge))
 ·obtain ⟨h,j⟩:=hj
  exact q S zs H' hS j.2.2.2.2.2.2.2 hl' j.2.2.2.2.2.2.1 hS'
noncomputable abbrev Zgu:=Zev true false
theorem Zj2 (K:O0){e e2:Expr}{ta:TA}{p p2 pos pos2:Pos}(hg:Gl X "list")(hm:X.mg "list" = none)(hg2:Gl X "zip")(hm2:X.mg "zip" = none)(ha:QA X [e,e2] ta)(hK:X.K=K:=by rfl)(hc:X.calm=true:=by rfl)
  (hs:starEach [.Call (.Name "zip" p2) [e,e2] [] pos2] X.env=[(false,eval (.Call (.Name "zip" p2) [e,e2] [] pos2) X.env)]:=by rfl) (hs2:starEach [e,e2] X.env=[(false,eval e X.env),(false,eval e2 X.env)]:=by rfl) (hs3:starEach [e2] X.env=[(false,eval e2 X.env)]:=by rfl) :
  QE X (.Call (.Name "list" p) [.Call (.Name "zip" p2) [e,e2] [] pos2] [] pos) (Zgu K ta):=Zo1 true false K hg hm hg2 hm2 ha hK hc hs hs2 hs3
theorem s_listzp {K:O0}{ta:TA}{σ:St}{H:Hp}{Q:VK}(h:ta σ H fun vs H1=>∃ a b xs ys,vs=[.ref a,.ref b]/\SqT K H1 a xs/\SqL K H1 b ys /\
 ∀(S:Addr)(zs:List V)(H2:Hp),H1 S=none->Same H1 H2->zs.length=min xs.length ys.length->Zbd H2 xs ys zs->H2 S=some (.lst zs)->Q (.ref S) H2):Zgu K ta σ H Q:=h
end
section
variable {X:Cx}
end
noncomputable def Be (P:Program)(w:World):Bs:=fun outer H s E ev s'=>∃(e T:Addr)(cls:Value)(od:Option Addr)(H':Hp),ev=.ref e/\s'.os=s.os/\AllBare s'.gens/\Un (Bc outer) [] H H' s.heap s'.heap/\HOk P w H' s'.heap /\
 s.heap.get? e=none/\s.heap.get? T=none/\H' e=none/\H' T=none/\F5 s'.heap e T cls od/\E cls od H'
section
variable {X:Cx}{pins:List (Addr×Obj)}{σ:St}{H:Hp}{s:Shared}
theorem Inv.old (I:Inv X pins σ H s)(hex:X.ex=[]){b:Addr}(h:s.heap.get? b=none):X.s₀.heap.get? b=none:=by
 cases q:X.s₀.heap.get? b with
 | none=>rfl
 | some o =>
  obtain ⟨o',e⟩:=I.base.there b o q (by rw [hex];simp)
  rw [h] at e
  cases e
theorem Inv.mvd (I:Inv X pins σ H s){h':Heap}{xs:List Addr}(m:Mvd (Bc X.stack) xs s.heap h')(hx:∀ b∈xs,X.s₀.heap.get? b=none/\H b=none)(hex:X.ex=[]):Un X.fs [] X.H₀ H X.s₀.heap h'/\HOk X.prog X.w H h':=by
 have low:∀ b o,X.s₀.heap.get? b=some o->b ∉ xs:=fun b o e hb=>by rw [(hx b hb).1] at e;cases e
 have neL:∀ b o,X.s₀.heap.get? b=some o->b≠X.env.locals:=fun b o e=>Pg (Pf (O9 e) I.ok.above)
 have nst:∀ b o,X.s₀.heap.get? b=some o->b ∉ X.fs->b ∉ Bc X.stack:=fun b o e hf hs=>by
  rcases I.ok.stk with z | ⟨z,z2⟩
  ·rw [z] at hs;exact hf hs
  ·rw [z] at hs
   unfold Bc at hs
   rw [Ug,z2] at hs
   rcases Pb.mp hs with q | q
   ·exact neL b o e q
   ·exact hf q
 have B:=I.base
 rw [hex] at B
 refine ⟨⟨fun b o e n hf _=>?_,fun b o e n hf _=>?_,fun b o e n _=>B.free b o e n (by simp),fun b o e _=>?_,B.tups,B.frzs,B.tbls⟩,fun b u e=>?_⟩
 ·exact m.keep b o (low b o e) (nst b o e hf) (B.keep b o e n hf (by simp))
 ·obtain ⟨sl,e1⟩:=B.slot b o e n hf (by simp)
  obtain ⟨sl',e2⟩:=m.slot b _ (low b o e) e1
  exact ⟨sl',e2⟩
 ·obtain ⟨o',e1⟩:=B.there b o e (by simp)
  obtain ⟨sl,e2⟩:=m.slot b o' (low b o e) e1
  exact ⟨_,e2⟩
 ·have tr:∀ c v,H c=some v->c ∉ xs/\c ∉ Bc X.stack:=fun c v q=>⟨(fun z=>by rw [(hx c z).2] at q;cases q),(fun z=>by rw [I.stkFree c z] at q;cases q)⟩
  refine (I.hok b u e).stay (fun c v hc q=>m.keep c v ?_ ?_ q) (fun _ q=>q) fun _ _ q=>q
  ·rcases hc with z | z
   ·rw [z];exact (tr b u e).1
   ·exact (tr c _ z).1
  ·rcases hc with z | z
   ·rw [z];exact (tr b u e).2
   ·exact (tr c _ z).2
end
section
variable {P:Program}{w:World}{K:O0}{mg:Str->Option Value}{base:Heap}{N:List Str}{qual:Str}{scope:Scope}{f:Addr}{cd:Value}{A:Around}{outer:List Env}{s0:Shared}{H0:Hp}{E:XK}
theorem Lw {E':XK}(h:∀ cls od H',E' cls od H'->E cls od H'):Er (Be P w) (Cq (Be P w) P w K mg base N qual scope f cd A outer s0 H0 E) E':=by
 intro pins σ H s ev s' I c
 obtain ⟨e,T,cls,od,H',rfl,h1,h2,h3,h4,h5,h6,h7,h8,h9,h10⟩:=c
 have J:Inv (Cq (Be P w) P w K mg base N qual scope f cd A outer s0 H0 E) pins σ H' s':=I.call' (ch:=[]) h1 h3 h4 h2 (fun b z=>absurd z (by simp))
 refine Zpu (base:=base) (outer:=outer) (L:=s0.heap.objs.size) J.ok.frames J.stack rfl h9 fun h' T' hT' y m=>?_
 obtain ⟨u,ok⟩:=J.mvd (h':=h') m (fun b hb=>by
  simp only [Pb,Pp,or_false] at hb
  rcases hb with rfl | rfl | rfl
  ·exact ⟨I.old rfl h5,h7⟩
  ·exact ⟨I.old rfl h6,h8⟩
  ·exact ⟨J.old rfl (R9 hT'),J.hok.fresh hT'⟩) rfl
 exact ⟨e,T',cls,od,H',rfl,J.os,J.bare,u,ok,I.old rfl h5,J.old rfl (R9 hT'),h7,J.hok.fresh hT',y,h _ _ _ h10⟩
theorem Jw {pins:List (Addr×Obj)}{σ:St}{H:Hp}{s:Shared}{e:Addr}{cls:Value}{od:Option Addr}(I:Inv (Cq (Be P w) P w K mg base N qual scope f cd A outer s0 H0 E) pins σ H s)(x:F0 s.heap e cls od)(he:s0.heap.get? e=none)(hn:H e=none)(h:E cls od H) :
  (Cq (Be P w) P w K mg base N qual scope f cd A outer s0 H0 E).xe (.ref e) s:=by
 refine Ziy (base:=base) (outer:=outer) (L:=s0.heap.objs.size) I.ok.frames I.stack rfl x fun h' T hT y m=>?_
 obtain ⟨u,ok⟩:=I.mvd (h':=h') m (fun b hb=>by
  simp only [Pb,Pp,or_false] at hb
  rcases hb with rfl | rfl
  ·exact ⟨he,hn⟩
  ·exact ⟨I.old rfl (R9 hT),I.hok.fresh hT⟩) rfl
 exact ⟨e,T,cls,od,H,rfl,I.os,I.bare,u,ok,he,I.old rfl (R9 hT),hn,I.hok.fresh hT,y,h⟩
end
section
variable {P:Program}{w:World}{K:O0}{mg:Str->Option Value}{base:Heap}
theorem Fun.okx {x qual:Str}{st:Stmt}{f:Addr}{fd:FuncData}{N ps:List Str}{k:Nat}{sp:Sp}(F:Fun K x qual st f fd)(S:A2 N ps (Am st))(len:∀ vs H Q E,sp vs H Q E->vs.length=ps.length)
  (hbody:∀(cdv:Value)(A:Around)(outer:List Env)(s:Shared)(H:Hp)(vs:List V)(Q:VK)(E:XK),Room k (A.deeper (envOfC qual (Am st) s.heap.objs.size f cdv))->sp vs H Q E ->
   ∃ t,Dm (Cq (Be P w) P w K mg base N qual (Am st) f cdv A outer s H E) (Bg st) t/\t { nx:=fun _ H'=>Q .non H',rt:=Q } (start N vs) H):Ao P w K mg base (Be P w) (k+1) f fd ps sp:=by
 obtain ⟨oc,od,kV,doc,pm,an,cdv,ct,osl,rfl,lk,hcd⟩:=F.ex
 refine Zdb lk hcd S len fun A outer s H vs Q E hr hsp=>?_
 obtain ⟨t,h,q⟩:=hbody cdv A outer s H vs Q E hr hsp
 exact ⟨t,h.run,q⟩
structure E8 (P:Program)(w:World)(K:O0)(mg:Str->Option Value)(base:Heap)(k:Nat)(x:Str)(ps:List Str)(sp:Sp):Prop where
 ex:∃(f:Addr)(fd:FuncData),Ao P w K mg base (Be P w) k f fd ps sp/\mg x=some (.ref f)/\Ph K (.ref f)=true/\Binds K fd ps []
theorem Zp7 {k:Nat}{x:Str}{ps:List Str}{sp:Sp}{f:Addr}{fd:FuncData}(F:Ao P w K mg base (Be P w) k f fd ps sp)(m:mg x=some (.ref f))(kp:Ph K (.ref f)=true)(b:Binds K fd ps []):E8 P w K mg base k x ps sp:=⟨f,fd,F,m,kp,b⟩
end
section
variable {X:Cx}{k:Nat}{x:Str}{ps:List Str}{sp:Sp}{p pos np cpos:Pos}{e:Expr}{es:List Expr}{t:TA}{E:XK}
theorem N3 (C:E8 X.prog X.w X.K X.mg X.base k x ps sp)(hr:Room k X.A)(hx:Er (Be X.prog X.w) X E)(ha:QA X (e::es) t)(hg:Gl X x:=by rfl)(hdb:(x == ("__debug__" : Str))=false:=by decide)
  (he:starEach (e::es) X.env=(false,eval e X.env)::starEach es X.env:=by rfl) (hpl:(backTo pos (starEach es X.env)).any (·.1)=false:=by rfl):QE X (.Call (.Name x p) (e::es) [] pos) (Go sp [] E t):=by
 obtain ⟨f,fd,F,hm,hk,hb⟩:=C.ex
 exact ⟨Zej F hr hg hm hk hb .nil hx ha.run hdb he hpl⟩
noncomputable abbrev VE:List Value:=[.type "ValueError",.type "Exception",.type "BaseException",.type "object"]
noncomputable def Zd5 (X:Cx)(E:XK):Prop:=∀(pins:List (Addr×Obj))(σ:St)(H:Hp)(s:Shared)(a:Addr)(cls:Value)(od:Option Addr),Inv X pins σ H s->F0 s.heap a cls od->X.s₀.heap.get? a=none->H a=none->E cls od H->X.xe (.ref a) s
structure Hz (K:O0)(C:Addr):Prop where
 ex:∃ bm dd nm bs ns qn hd sn sub ab col k0 k1 k2 k3 k5,K.lookup C=some (excClassObj nm qn C ns bs bm hd sn sub ab col dd k0 k1 k2 k3 k5 "ValueError.__new__")/\R3 K VE bm=true/\Sv K ns=true/\Pc K ns "__init__" = some none
theorem Zoh {K:O0}{h0:Heap}{C:Addr}(kin0:K.In h0)(q:Hz K C) :
  ∃ bm N nm q bs hdct sn sub ab col dd k0 k1 k2 k3 k5 mN,mN "__init__" = none/\∀ h:Heap,K.In h->h.get? C=some (excClassObj nm q C N bs bm hdct sn sub ab col dd k0 k1 k2 k3 k5 "ValueError.__new__")/\h.Ns N mN/\OwnTail h VE bm:=by
 obtain ⟨bm,dd,nm,bs,ns,qn,hd,sn,sub,ab,col,k0,k1,k2,k3,k5,ho,ht,hok,hni⟩:=q.ex
 have n0:h0.Ns ns (h0.nsMap ns):=.of_isNs (PySem.W.isNs_of_in kin0 hok)
 refine ⟨bm,ns,nm,qn,bs,hd,sn,sub,ab,col,dd,k0,k1,k2,k3,k5,h0.nsMap ns,PySem.W.nsMap_none_of_in kin0 hok hni,fun h kin=>⟨kin _ _ ho,?_,PySem.W.tail_of_in kin ht⟩⟩
 obtain ⟨o,es,ep,e,r⟩:=n0
 refine ⟨o,es,ep,?_,r⟩
 unfold Sv at hok
 split at hok
 ·rename_i hl
  have:=kin0 _ _ hl
  rw [e] at this
  cases this
  exact kin _ _ hl
 ·cases hok
theorem ObjOk.there {P:Program}{w:World}{H:Hp}{h:Heap}{a:Addr}{o:HO}(x:ObjOk P w H h a o):∃ u,h.get? a=some u:=by
 induction o with
 | lst xs=>obtain ⟨_,_,_,_,e⟩:=x;exact ⟨_,e⟩
 | tup xs=>obtain ⟨_,_,_,o,e,_⟩:=x;exact ⟨_,e⟩
 | dK kvs=>obtain ⟨_,_,vs,_,d⟩:=x;obtain ⟨o,e,_⟩:=V5.mp d;exact ⟨_,e⟩
 | dT kvs=>obtain ⟨_,_,_,_,o,_,_,e,_⟩:=x;exact ⟨_,e⟩
 | set S n=>obtain ⟨o,_,_,_,e,_⟩:=x;exact ⟨_,e⟩
 | ins C dx fs=>obtain ⟨_,_,_,e,_⟩:=x;exact ⟨_,e⟩
 | own y=>exact x
 | xd fs=>obtain ⟨_,⟨o,_,_,e,_⟩,_⟩:=x;exact ⟨_,e⟩
 | met f y=>exact ⟨_,x⟩
 | rng lo hi=>obtain ⟨_,_,_,e⟩:=x;exact ⟨_,e⟩
 | frz o u _=>exact ⟨_,x.1⟩
 | tbl ps=>exact ⟨_,x⟩
 | ext φ=>exact x.2.1
theorem HOk.no {P:Program}{w:World}{H:Hp}{h:Heap}(x:HOk P w H h){a:Addr}(e:h.get? a=none):H a=none:=by
 cases q:H a with
 | none=>rfl
 | some u =>
  have z:=(x a u q).there
  rw [e] at z
  obtain ⟨o,z⟩:=z
  cases z
theorem Mq {C:Addr}{a:Expr}(hc:X.calm=true)(hC:Hz X.K C)(G:X.mg x=some (.ref C))(ha:QA X [a] t)(hx:Zd5 X E)(hex:X.ex=[])(hg:Gl X x:=by rfl)(hdb:(x == ("__debug__" : Str))=false:=by decide)
  (he:starEach [a] X.env=[(false,eval a X.env)]:=by rfl):QS X (.Raise (some (.Call (.Name x np) [a] [] cpos)) none pos) (fun D σ H=>t σ H fun vs H1=>vs.length<=sizeLine/\E (.ref C) none H1):=by
 refine ⟨fun pins s σ H D I h=>?_⟩
 obtain ⟨bm,N,nm,q,bs,hdct,sn,sub,ab,col,dd,k0,k1,k2,k3,k5,mN,cni,cl⟩:=Zoh I.kIn hC
 obtain ⟨cC,cN,cT⟩:=cl _ I.kIn
 refine wpAny_Raise_call_subU (C:=C) (nm:=nm) (q:=q) (N:=N) (bs:=bs) (bm:=bm) (hdct:=hdct) (sn:=sn) (sub:=sub) (ab:=ab) (col:=col) (dd:=dd) (k0:=k0) (k1:=k1) (k2:=k2) (k3:=k3) (k5:=k5)
  Ta (by decide) Ta (mN:=mN) (cT.hasType Ta.hasBase) (I.ok.hd hc) (by rw [he];rfl) cni (El I hg G ⟨rfl,?_⟩ hdb)
 rw [he]
 have ar:=ha.run cpos pins s σ H _ I h
 rw [he] at ar
 refine Calls.evalArgs_plain (Q5 ar (fun us s2 h2=>?_) fun _ _ y=>y)
 obtain ⟨vs,H1,I1,r1,z,q1⟩:=h2
 obtain ⟨cC',cN',cT'⟩:=cl _ I1.kIn
 refine ⟨rfl,by rw [<- r1.length];exact z,cC',cN',cT',fun h' a' hm=>?_⟩
 obtain ⟨t',e1,_,_⟩:=hm.there
 have I2:Inv X pins σ H1 { s2 with heap:=h' }:=I1.kept (t':=s2.toks) hm.keeps
 exact hx pins σ H1 _ a' (.ref C) none I2 ⟨_,_,e1,rfl,rfl,rfl,rfl,rfl⟩ (I1.old hex hm.new) (I1.hok.no hm.new) q1
end
noncomputable def Dk (a:Addr)(cls:Value)(od:Option Addr):HO:=.ext fun h=>∃ o vs,h.get? a=some o/\o.cls=cls/\o.dict=od/\o.data=.fields vs/\vs[2]?=some .none
theorem Zjr {P:Program}{w:World}{H:Hp}{h:Heap}{a T:Addr}{cls:Value}{od:Option Addr}(x:F5 h a T cls od):ObjOk P w H h a (Dk a cls od):=by
 obtain ⟨oe,vs,oT,ts,a1,a2,a3,a4,a5,a6,a7,a8,a9⟩:=x
 refine ⟨⟨oe,vs,a1,a2,a3,a4,a9.2⟩,⟨oe,a1⟩,fun h1 h2 q k=>?_⟩
 obtain ⟨o,vs,q1,q2⟩:=q
 exact ⟨o,vs,k o q1,q2⟩
theorem Un.land {fs xs:List Addr}{H H':Hp}{h h1 h2:Heap}{e:Addr}{o:HO}(u:Un fs [] H H' h h1)(m:Mvd fs xs h1 h2)(hx:∀ b∈xs,h.get? b=none)(he:h.get? e=none)(hn:H' e=none):Un fs [] H (upd H' e o) h h2:=by
 have low:∀ b ob,h.get? b=some ob->b ∉ xs:=fun b ob q z=>by rw [hx b z] at q;cases q
 have ne:∀ b ob,h.get? b=some ob->b≠e:=fun b ob q z=>by rw [z,he] at q;cases q
 have ne':∀ b ob,H' b=some ob->b≠e:=fun b ob q z=>by rw [z,hn] at q;cases q
 refine ⟨fun b ob q n hf _=>m.keep b ob (low b ob q) hf (u.keep b ob q n hf (by simp)),fun b ob q n hf _=>?_,fun b ob q n _=>?_,fun b ob q _=>?_,fun b ys q=>?_,fun b ob v q=>?_,fun b ps q=>?_⟩
 ·obtain ⟨sl,e1⟩:=u.slot b ob q n hf (by simp)
  obtain ⟨sl',e2⟩:=m.slot b _ (low b ob q) e1
  exact ⟨sl',e2⟩
 ·rw [Au (ne b ob q)];exact u.free b ob q n (by simp)
 ·obtain ⟨o',e1⟩:=u.there b ob q (by simp)
  obtain ⟨sl,e2⟩:=m.slot b o' (low b ob q) e1
  exact ⟨_,e2⟩
 ·have z:=u.tups b ys q
  rw [Au (ne' b _ z)];exact z
 ·have z:=u.frzs b ob v q
  rw [Au (ne' b _ z)];exact z
 ·obtain ⟨more,z⟩:=u.tbls b ps q
  exact ⟨more,by rw [Au (ne' b _ z)];exact z⟩
theorem HOk.land {P:Program}{w:World}{fs xs:List Addr}{H:Hp}{h1 h2:Heap}{e:Addr}{o:HO}(x:HOk P w H h1)(m:Mvd fs xs h1 h2)(hx:∀ b∈xs,H b=none)(hf:∀ b∈fs,H b=none)(hn:H e=none)(new:ObjOk P w (upd H e o) h2 e o):HOk P w (upd H e o) h2:=by
 intro b u q
 by_cases hb:b=e
 ·subst hb
  rw [Ad] at q
  cases q
  exact new
 ·rw [Au hb] at q
  have tr:∀ c v,H c=some v->c ∉ xs/\c ∉ fs:=fun c v q=>⟨(fun z=>by rw [hx c z] at q;cases q),(fun z=>by rw [hf c z] at q;cases q)⟩
  have ne':∀ b ob,H b=some ob->b≠e:=fun b ob q z=>by rw [z,hn] at q;cases q
  refine (x b u q).stay (fun c v hc z=>?_) (fun c z=>by rw [Au (ne' c _ z)];exact z) fun c ys z=>by rw [Au (ne' c _ z)];exact z
  rcases hc with r | r
  ·rw [r] at z ⊢
   exact m.keep b v (tr b u q).1 (tr b u q).2 z
  ·exact m.keep c v (tr c _ r).1 (tr c _ r).2 z
noncomputable abbrev TX:=St->Hp->VK->XK->Prop
noncomputable abbrev Im:=Ends->(St->XK)->St->Hp->Prop
noncomputable def XP (X:Cx)(pins:List (Addr×Obj))(σ:St)(E:XK)(ev:Value)(s':Shared):Prop:=∃ H0 s0,Inv X pins σ H0 s0/\Be X.prog X.w X.stack H0 s0 E ev s'
structure QX (X:Cx)(e:Expr)(t:TX):Prop where
 run:∀(pins:List (Addr×Obj))(s:Shared)(σ:St)(H:Hp)(Q:VK)(E:XK),Inv X pins σ H s->t σ H Q E->wpAny (model X.prog X.w) X.A (eval e X.env) (EP X pins σ Q) (XP X pins σ E) s
structure QXS (X:Cx)(sts:List Stmt)(t:Im):Prop where
 run:∀(pins:List (Addr×Obj))(s:Shared)(σ:St)(H:Hp)(D:Ends)(E:St->XK),Inv X pins σ H s->t D E σ H->wpAny (model X.prog X.w) X.A (execs sts X.env) (SP X pins D) (fun ev s'=>∃ σ',XP X pins σ' (E σ') ev s') s
noncomputable abbrev Cx.to (X:Cx)(A:Around)(c:Bool)(XE:Value->Shared->Prop):Cx:={ X with A:=A,calm:=c,xe:=XE }
section
variable {X:Cx}{pins:List (Addr×Obj)}{σ:St}{H:Hp}{s:Shared}
theorem Inv.to (I:Inv X pins σ H s){A:Around}{c:Bool}{XE:Value->Shared->Prop}(hA:A.frames=X.A.frames)(hc:c=true->A.handled=none):Inv (X.to A c XE) pins σ H s :=
 ⟨⟨I.ok.mod,I.ok.kind,I.ok.glob,I.ok.blt,I.ok.above,I.ok.inj,I.ok.has,I.ok.cab,hc,hA.trans I.ok.frames,I.ok.stk,I.ok.exf,I.ok.bs,I.ok.bsz,I.ok.noex,I.ok.exfs,I.ok.funs,I.ok.frf⟩,I.os,I.bare,I.base,I.loc,I.cell,I.free,I.freeC,I.pin,I.hok,I.len⟩
theorem Inv.back {A:Around}{c:Bool}{XE:Value->Shared->Prop}(I:Inv (X.to A c XE) pins σ H s)(ok:X.Ok):Inv X pins σ H s :=
 ⟨ok,I.os,I.bare,I.base,I.loc,I.cell,I.free,I.freeC,I.pin,I.hok,I.len⟩
end
section
variable {X:Cx}{k:Nat}{x:Str}{ps:List Str}{sp:Sp}{p pos np cpos:Pos}{e:Expr}{es:List Expr}{t:TA}
theorem Zh5 (C:E8 X.prog X.w X.K X.mg X.base k x ps sp)(hr:Room k X.A)(ha:∀ XE,QA (X.to X.A X.calm XE) (e::es) t)(hg:Gl X x:=by rfl)(hdb:(x == ("__debug__" : Str))=false:=by decide)
  (he:starEach (e::es) X.env=(false,eval e X.env)::starEach es X.env:=by rfl) (hpl:(backTo pos (starEach es X.env)).any (·.1)=false:=by rfl):QX X (.Call (.Name x p) (e::es) [] pos) (fun σ H Q E=>t σ H fun vs H1=>sp vs H1 Q E):=by
 obtain ⟨f,fd,F,hm,hk,hb⟩:=C.ex
 refine ⟨fun pins s σ H Q E I h=>?_⟩
 refine Ra (El I hg hm ?_ hdb)
 refine Sq (h₀:=X.base) I.ok.mod.kin hk (Aj ((ha (XP X pins σ E)).run pos pins s σ H _ (I.to rfl I.ok.hd) h) fun us s1 zq=>?_) he hpl
 obtain ⟨vs,H1,I1,r,q⟩:=zq
 refine ⟨(I1.back I.ok).kIn,?_⟩
 have I1:=I1.back I.ok
 have hl:us.length=ps.length:=by rw [<- r.length];exact F.len _ _ _ _ q
 have hb':=hb s1 us I1.kIn (by simpa using hl)
 rw [Rc] at hb'
 refine Q6 (Rg (F.run X.A X.stack s1 H1 ⟨us,[]⟩ us vs Q E hr I1.env0 hb' r q) fun r s' hq=>?_)
 cases r with
 | error e=>exact ⟨H1,s1,I1,hq⟩
 | ok fl =>
  cases fl with
  | ret u=>exact I1.after hq
  | next=>exact Pd hq
  | brk=>exact Pd hq
  | cont=>exact Pd hq
theorem Zip {i:Nat}{t:TX}{pos':Pos}(hN:X.N.Nodup)(hi:X.N[i]?=some x)(hx:Ex X.env.scope x)(he:QX X e t)(hs:swapsWith e (some (.Name x pos')) pos.line X.env=pure false:=by rfl)(hf:X.fn x=true\/X.env.scope.names.lookup x=some .local:=by first | exact .inl rfl | exact .inr rfl | assumption) :
  QXS X [.Assign [.Name x pos'] e pos] (fun D E σ H=>t σ H (fun v H1=>D.nx (σ.set i (some v)) H1) (E σ)):=by
 refine ⟨fun pins s σ H D E I h=>?_⟩
 refine Vu (Q5 (wpAny_Assign_Name (Q:=SP X pins D) (Aj (he.run pins s σ H _ (E σ) I h) fun v s1 ⟨y,H1,I1,r1,q1⟩=>N8 I1 hN hi hx r1 (fun s2 I2=>⟨_,H1,I2,q1⟩) hf) hs) (fun f s1 q=>?_) fun ev s1 q=>⟨σ,q⟩)
 cases f with
 | next=>exact Ss q
 | ret v=>exact q
 | brk=>exact q
 | cont=>exact q
end
structure Nn (K:O0)(C:Addr):Prop where
 ty:Qw K (.ref C)=some (.type "type")
 cl:(Rq K C).isSome=true
 bs:Pw K (.ref C) (.type "BaseException")=some true
theorem Zgo {K:O0}{M:Model}{h:Heap}{C:Addr}(X:K.In h)(e:(Rq K C).isSome=true):Qg M h (isType (.ref C)) true:=by
 unfold Rq at e
 split at e
 ·rename_i c' d' cd' sl' ho
  intro A' Q' E' s' k q
  unfold isType loadHead
  exact O1 (Su (k _ _ (X _ _ ho)) (O2 q))
 ·cases e
theorem Zto {K:O0}{M:Model}{A:Around}{E:Value->Shared->Prop}{s:Shared}{Q:Bool->Shared->Prop}{e C C':Addr}{oe:Obj}(X:K.In s.heap)(c:Nn K C)(he:s.heap.get? e=some oe)(hcls:oe.cls=.ref C')(hs:Pw K (.ref C') (.ref C)=some true)(h:Q true s) :
  wpAny M A (excMatches (.ref e) (.ref C)) Q E s:=by
 have L1:Qg M s.heap (typeOf (.ref C)) (.type "type"):=PySem.W.looks_typeIn X c.ty
 have L2:Qg M s.heap (isType (.ref C)) true:=Zgo X c.cl
 have L3:=Vj (M:=M) X c.bs
 have L4:Qg M s.heap (typeOf (.ref e)) (.ref C'):=by
  intro A' Q' E' s' k q
  unfold typeOf
  exact O1 (Su (k _ _ he) (O2 (by rw [hcls];exact q)))
 have L5:=Vj (M:=M) X hs
 have f:=tc_notTuple
 unfold excMatches
 unfold isInstance isExcClass
 repeat (first | with_reducible refine L1.here ?_ | with_reducible refine L2.here ?_ | with_reducible refine L3.here ?_ | with_reducible refine L4.here ?_ | with_reducible refine L5.here ?_ | wp_step)
 exact h
section
variable {X:Cx}{pins:List (Addr×Obj)}{σ:St}{H:Hp}{s:Shared}
theorem N7 {M:Model}{A:Around}{E:Value->Shared->Prop}{i:Nat}{n:Str}{hpos:Pos}{Q:Unit->Shared->Prop}(I:Inv X pins σ H s)(hN:X.N.Nodup)(hi:X.N[i]?=some n)(hk:X.env.scope.names.lookup n=some .local)
  (h:∀ s',Inv X pins (σ.set i none) H s'->Q () s'):wpAny M A (do bindName X.env n .none;unbindBehindTheSuite X.env n hpos) Q E s:=by
 obtain ⟨m,hn,hl⟩:=id I.loc
 have hcls:(X.env.scope.kind == .class || (X.env.scope.kind == .module && X.env.locals != X.env.globals))=false:=by rw [I.ok.kind];rfl
 have cne:=I.cne
 obtain ⟨oL,_,_,hoL,_⟩:=id hn
 refine wpAny_nameGoes_keeps hk hn hcls fun h' v hn' hs=>?_
 have hok:HOk X.prog X.w H h':=fun b ob e=>by
  refine (I.hok b ob e).stay (fun c w' hc q=>(hs.2 c ?_).trans q) (fun _ q=>q) fun _ _ q=>q
  rintro rfl
  rcases hc with rfl | hc
  ·rw [I.free] at e;cases e
  ·rw [I.free] at hc;cases hc
 refine h _ ⟨I.ok,I.os,I.bare,⟨fun b o e n hb hx=>?_,fun b o e n hb hx=>?_,I.base.free,fun b o e hx=>?_,I.base.tups,I.base.frzs,I.base.tbls⟩,⟨_,hn',fun j y v' e1 e2 e3=>?_⟩,fun y c e=>?_,I.free,I.freeC,fun p hp=>?_,hok,by simpa using I.len⟩
 ·exact (hs.2 b (Pg (Pf (O9 e) I.ok.above))).trans (I.base.keep b o e n hb hx)
 ·obtain ⟨sl,e1⟩:=I.base.slot b o e n hb hx
  exact ⟨sl,(hs.2 b (Pg (Pf (O9 e) I.ok.above))).trans e1⟩
 ·obtain ⟨o',e1⟩:=I.base.there b o e hx
  exact ⟨o',(hs.2 b (Pg (Pf (O9 e) I.ok.above))).trans e1⟩
 ·by_cases hj:j=i
  ·subst hj
   have hiσ:j < σ.length:=by rw [I.len];exact (Pl.mp hi).1
   rw [Te hiσ] at e2
   cases e2
  ·rw [Tg (Ps hj)] at e2
   obtain ⟨u',r',q⟩:=hl j y v' e1 e2 e3
   refine ⟨u',r',?_⟩
   rcases q with ⟨k,e⟩ | ⟨k,c,e,z⟩
   ·refine .inl ⟨k,?_⟩
    have:y≠n:=fun e=>hj (Oo hN e1 (e ▸ hi))
    simp [this,e]
   ·exact .inr ⟨k,c,e,z.sameBut hs (cne y c e)⟩
 ·obtain ⟨w',z⟩:=I.cell y c e
  exact ⟨w',z.sameBut hs (cne y c e)⟩
 ·obtain ⟨e,n,ne,nf,d⟩:=I.pin p hp
  exact ⟨(hs.2 p.1 ne).trans e,n,ne,nf,d⟩
end
section
variable {X:Cx}{c n:Str}{np hpos pos:Pos}{body hbody:List Stmt}{b₀:Stmt}{tb:Im}{th:TS}{i:Nat}{C:Addr}
noncomputable def Ends.gone (D:Ends)(i:Nat):Ends:={ nx:=fun σ H=>D.nx (σ.set i none) H,rt:=D.rt,bk:=fun σ H=>D.bk (σ.set i none) H,ct:=fun σ H=>D.ct (σ.set i none) H }
noncomputable def tTry (K:O0)(C:Addr)(i:Nat)(tb:Im)(th:TS):TS:=fun D σ H=>tb D (fun σ1 cls od H2=>(∃ C',cls=.ref C'/\Pw K (.ref C') (.ref C)=some true)/\∀ a,H2 a=none->th (D.gone i) (σ1.set i (some (.ref a))) (upd H2 a (Dk a cls od))) σ H
theorem Zqn (hN:X.N.Nodup)(hi:X.N[i]?=some n)(hk:X.env.scope.names.lookup n=some .local)(hC:Nn X.K C)(G:X.mg c=some (.ref C))(hf:X.env.frame=some X.env.locals)(hst:X.stack=X.env::X.outer)(hb:QXS X body tb)(hh:∀ e XE,Dm (X.to (X.A.mark (some e)) false XE) (b₀::hbody) th)(hg:Gl X c:=by rfl)(hdb:(c == ("__debug__" : Str))=false:=by decide) :
  QS X (.Try body [.ExceptHandler (some (.Name c np)) (some n) (b₀::hbody) hpos] [] [] pos) (tTry X.K C i tb th):=by
 refine ⟨fun pins s σ H D I h=>?_⟩
 refine wpAny_Try_except (Q5 (hb.run pins s σ H D _ I h) (fun f s1 q=>?_) fun ev s1 q=>?_)
 ·cases f with
  | next=>exact Ss q
  | ret v=>exact q
  | brk=>exact q
  | cont=>exact q
 ·obtain ⟨σ1,H0,s0,I0,e,T,cls,od,H',rfl,h1,h2,h3,h4,h5,h6,h7,h8,h9,⟨C',rfl,hsub⟩,h10⟩:=q
  have J:Inv X pins σ1 H' s1:=I0.call' (ch:=[]) h1 h3 h4 h2 (fun b z=>absurd z (by simp))
  have hfr:X.A.frames=some (X.env::X.outer):=by rw [<- hst];exact J.ok.frames
  have hstk:=J.stack
  rw [hst] at hstk
  refine Zek (base:=X.base) hfr hstk hf h9 fun h' T' hT' y m=>Ob (fs:=Bc (X.env::X.outer)) y fun h'' y' m'=>?_
  have M1:Mvd (Bc X.stack) [e,T,T'] s1.heap h'':=by rw [hst];exact (m.mono (by simp)).trans (m'.mono (by simp))
  have fT':s0.heap.get? T'=none:=by
   cases q:s0.heap.get? T' with
   | none=>rfl
   | some o =>
    obtain ⟨o',z⟩:=h3.there T' o q (by simp)
    exact absurd (O9 z) (Nat.not_lt.mpr hT')
  have hT'n:H' T'=none:=J.hok.fresh hT'
  have fx:∀ b∈[e,T,T'],s0.heap.get? b=none/\H' b=none:=by
   intro b hb
   simp only [Pb,Pp,or_false] at hb
   rcases hb with rfl | rfl | rfl
   ·exact ⟨h5,h7⟩
   ·exact ⟨h6,h8⟩
   ·exact ⟨fT',hT'n⟩
  have land:∀{h3':Heap},Mvd (Bc X.stack) [e,T,T'] s1.heap h3'->F5 h3' e T' (.ref C') od->Inv X pins σ1 (upd H' e (Dk e (.ref C') od)) { s1 with heap:=h3' }:=fun {h3'} mm ll =>
   I0.call' (s':={ s1 with heap:=h3' }) (ch:=[]) h1 (h3.land mm (fun b hb=>(fx b hb).1) h5 h7) (h4.land mm (fun b hb=>(fx b hb).2) (fun b hb=>J.stkFree b hb) h7 (Zjr ll)) h2 (fun b z=>absurd z (by simp))
  have I1:=land M1 y'
  refine wpAny_handleBy_cons (codeAny_handlers_test ?_) (by intro q;cases q)
  have I1':Inv (X.to (X.A.mark (some (.ref e))) false (notedBy (model X.prog X.w) (X.A.mark (some (.ref e))) X.env fun x s₁=>True)) pins σ1 (upd H' e (Dk e (.ref C') od)) { s1 with heap:=h'' }:=I1.to rfl (by simp)
  refine El I1' hg G ?_ hdb
  obtain ⟨oe,vs,oT,ts,a1,a2,a3,a4,a5,a6,a7,a8,a9⟩:=id y'
  refine Zto I1.kIn hC a1 a2 hsub ?_
  refine codeAny_handlers_suite_as (Ob (fs:=Bc X.stack) y' fun h4' y4 m4=>?_)
  have I2:=land (M1.trans (m4.mono (by simp))) y4
  refine N8 (v:=.ref e) I2 hN hi (.inl hk) rfl (fun s3 I3=>?_) (.inr hk)
  refine Q5 ((hh (.ref e) _).run pins s3 _ _ (D.gone i) (I3.to rfl (by simp)) (h10 e h7)) (fun f s4 q=>?_) fun ev s4 q=>q
  cases f with
  | next =>
   obtain ⟨σ',H4,I4,q⟩:=q
   exact N7 (I4.back I.ok) hN hi hk fun s5 I5=>⟨_,H4,I5,q⟩
  | ret v =>
   obtain ⟨u,σ',H4,I4,r,q⟩:=q
   exact N7 (I4.back I.ok) hN hi hk fun s5 I5=>⟨u,_,H4,I5,r,q⟩
  | brk =>
   obtain ⟨σ',H4,I4,q⟩:=q
   exact N7 (I4.back I.ok) hN hi hk fun s5 I5=>⟨_,H4,I5,q⟩
  | cont =>
   obtain ⟨σ',H4,I4,q⟩:=q
   exact N7 (I4.back I.ok) hN hi hk fun s5 I5=>⟨_,H4,I5,q⟩
end
theorem E1 (self:Value):refuseLoop self "__setattr__" VE=pure ():=by kernel_rfl
noncomputable def Hk:List Value->Bool
 | .ref _::r=>Hk r
 | l=>l == VE
theorem Ze0 (self:Value):∀{l:List Value},Hk l=true->refuseLoop self "__setattr__" l=pure ()
 | [],e=>by cases e
 | .ref c::r,e=>by rw [refuseLoop_ref];exact Ze0 self e
 | .none::r,e=>by rw [beq_iff_eq.mp (show (_ == _)=true from e)];exact E1 self
 | .ellipsis::r,e=>by rw [beq_iff_eq.mp (show (_ == _)=true from e)];exact E1 self
 | .notImplemented::r,e=>by rw [beq_iff_eq.mp (show (_ == _)=true from e)];exact E1 self
 | .bool _::r,e=>by rw [beq_iff_eq.mp (show (_ == _)=true from e)];exact E1 self
 | .int _ _::r,e=>by rw [beq_iff_eq.mp (show (_ == _)=true from e)];exact E1 self
 | .float _ _::r,e=>by rw [beq_iff_eq.mp (show (_ == _)=true from e)];exact E1 self
 | .str _ _::r,e=>by rw [beq_iff_eq.mp (show (_ == _)=true from e)];exact E1 self
 | .bytes _ _::r,e=>by rw [beq_iff_eq.mp (show (_ == _)=true from e)];exact E1 self
 | .type _::r,e=>by rw [beq_iff_eq.mp (show (_ == _)=true from e)];exact E1 self
 | .builtin _::r,e=>by rw [beq_iff_eq.mp (show (_ == _)=true from e)];exact E1 self
theorem Nb:∀{l:List Value},Hk l=true->l.contains (.type "object")=true/\l.contains (.type "BaseException")=true:=by
 intro l
 induction l with
 | nil=>intro e;cases e
 | cons c r ih =>
  intro e
  cases c with
  | ref a=>obtain ⟨x,y⟩:=ih e;exact ⟨by rw [List.contains_cons,x,Bool.or_true],by rw [List.contains_cons,y,Bool.or_true]⟩
  | _=>rw [beq_iff_eq.mp (show (_ == _)=true from e)];decide
structure ExC (K:O0)(C:Addr):Prop where
 ov:((Rq K C).any fun cd=>Hk cd.mro)=true
 hd:Qi K C=true
 ga:O4 K (.ref C) "__getattribute__" = some (some (.builtin "BaseException.__getattribute__"))
 gt:O4 K (.ref C) "__getattr__" = some none
 sa:O4 K (.ref C) "__setattr__" = some (some (.builtin "object.__setattr__"))
 dc:Qw K (.ref C)=some (.type "type")
section
open PySem.W PySem.Builtin PySem.Builtin.ObjectAttr
variable {prog:Program}{w:World}{A:Around}{E:Value->Shared->Prop}{s:Shared}{K:Frag}{x C:Addr}{ox:Obj}{od:Option Obj}{name:Str}{R:Result->Shared->Prop}
theorem Znu {tk:Tok}{v:Value}(X:K.In s.heap)(I:R1 s.heap x ox C od)(c:ExC K C)(ht:takerIn K C name=some none)
  (h:∀ b,wpAny (model prog w) A.in1 (storeInOwnDict (.ref x) (.ref C) (.str name tk) name v b)
   (fun fin s'=>match fin with | .done f=>R (.ok f) s' | .again c'=>c'.quiet=true/\codeAny (model prog w) A c' R s') (fun e s'=>R (.error e) s') s) :
  codeAny (model prog w) A (.call (.builtin "object.__setattr__") ⟨[.ref x,.str name tk,v],[]⟩) R s:=by
 have SF:=PySem.F.store_object
 obtain ⟨cd,hc,ho⟩:=any_some c.ov
 have ne:cd.mro.isEmpty=false:=by cases q:cd.mro with | nil=>rw [q] at ho;cases ho | cons _ _=>rfl
 have sub:Looks (model prog w) s.heap (isInstance (.ref x) (.type "object")) true:=I.type.andThen (looks_mroIn X (by unfold mroIn;rw [hc,Sg,if_neg (by rw [ne];decide),(Nb ho).1]))
 refine Uf SF.slot.plain SF.entry (@check_slot (model prog w) _ _ s "object.__setattr__" "object" "__setattr__" (.ref x) [.str name tk,v] [] _ SF.kind SF.split sub (SF.args (.ref x) (.str name tk) v) ?_)
 obtain ⟨attr,ha,hr⟩:=Option.bind_eq_some_iff.mp ht
 have hm:Looks (model prog w) s.heap (mroOf (.ref C)) cd.mro:=(looks_clsIn X hc).andThen .now
 have L3:Looks (model prog w) s.heap (storeTaker? attr) none:=by
  cases attr with
  | none=>exact .now
  | some a =>
   obtain ⟨b,hb,hz⟩:=Option.map_eq_some_iff.mp hr
   refine (looks_takesIn X hb).andThen ?_
   cases b
   ·exact .now
   ·cases hz
 rw [osa_eq,refuse_eq]
 refine O1 (O1 (I.type.here (O1 (hm.here ?_))))
 rw [Ze0 _ ho]
 refine O2 (O1 (I.type.here (O1 ((looks_findIn X ha).here (O1 (L3.here ?_))))))
 exact h _
theorem Zsa {expr:Bool}{v:Value}{Q:Value->Shared->Prop}(X:K.In s.heap)(I:R1 s.heap x ox C od)(c:ExC K C)(hf:findObj K C od name=some (.value v))(hh:handedIn v=true)(h:Q v { s with toks:=s.toks+1 }) :
  wpAny (model prog w) A (getAttr (.ref x) name expr) Q E s:=by
 obtain ⟨hp,g,d,t,os⟩:=s
 have L0:=I.type (M:=model prog w)
 have L1:=looks_findIn (M:=model prog w) X c.ga
 have L2:=looks_findIn (M:=model prog w) X c.gt
 have L3:=looks_find (M:=model prog w) X I hf
 have L4:Looks (model prog w) hp (isInstance (.ref x) (.type "BaseException")) true:=by
  obtain ⟨cd,hc,ho⟩:=any_some c.ov
  have ne:cd.mro.isEmpty=false:=by cases q:cd.mro with | nil=>rw [q] at ho;cases ho | cons _ _=>rfl
  exact I.type.andThen (looks_mroIn X (by unfold mroIn;rw [hc,Sg,if_neg (by rw [ne];decide),(Nb ho).2]))
 have f3:=Ub.ga.bind (.ref x)
 have hx0:(expr && onTheHeap (Value.builtin "BaseException.__getattribute__"))=false:=by cases expr <;> rfl
 have hx2:(Value.builtin "BaseException.__getattribute__" == Value.builtin "object.__getattribute__")=false:=by decide +kernel
 have hx1:(onTheHeap (Value.ref C) && Value.builtin "BaseException.__getattribute__" == Value.builtin "object.__getattribute__")=false:=by rw [hx2];rfl
 unfold getAttr getAttrBy
 refine O1 (wpAny_mkText (P9 (O1 (L0.at (O1 (L1.at ?_))))))
 dsimp only
 rw [hx1]
 simp only [Sd,if_false]
 unfold getAttrByItsOwn hookBefore callGetattribute
 rw [if_pos (show onTheHeap (Value.ref C)=true from rfl),hx0]
 refine O1 (L2.at ?_)
 simp only [Sd,if_false]
 unfold boundAndCalled
 rw [f3]
 have hk:builtinKind "BaseException.__getattribute__" = some .slot:=by decide +kernel
 have hsplit:splitId "BaseException.__getattribute__" = some ("BaseException", "__getattribute__"):=by decide +kernel
 refine O1 (Sj (P9 (O1 (O2 (Q6 (Uf Ub.ga.plain PySem.F.entry_bexc_ga (@check_slot (model prog w) _ _ ⟨hp,g,d,t+1,os⟩ "BaseException.__getattribute__" "BaseException" "__getattribute__" (.ref x) [.str name t] [] _ hk hsplit L4 (PySem.F.args_bexc_ga (.ref x) (.str name t)) ?_)))))))
 show wpAny _ _ (Builtin.«object.__getattribute__» ⟨[.ref x,.str name t],[]⟩) _ _ _
 refine O1 (O2 (O1 (O2 (O1 (L0.at (O1 (L3.at ?_)))))))
 refine O2 ?_
 show wpAny _ _ (handedOut v) _ _ _
 rw [handedOut_of hh];exact O2 h
end
noncomputable def D8 (a:Addr)(cls:Value)(od:Option Addr):HO:=.ext fun h=>F0 h a cls od
theorem Zg2 {P:Program}{w:World}{H:Hp}{h:Heap}{a:Addr}{cls:Value}{od:Option Addr}(x:F0 h a cls od):ObjOk P w H h a (D8 a cls od):=by
 obtain ⟨oe,vs,a1,a2⟩:=id x
 refine ⟨x,⟨oe,a1⟩,fun h1 h2 q k=>?_⟩
 obtain ⟨o,vs,q1,q2⟩:=q
 exact ⟨o,vs,k o q1,q2⟩
theorem Za1 {P:Program}{w:World}{H:Hp}{h:Heap}{a:Addr}{cls:Value}{od:Option Addr}(x:ObjOk P w H h a (D8 a cls od)):F0 h a cls od:=x.1
theorem Zf5 {P:Program}{w:World}{H:Hp}{h:Heap}{a:Addr}{cls:Value}{od:Option Addr}(x:ObjOk P w H h a (Dk a cls od)):∃ o vs,h.get? a=some o/\o.cls=cls/\o.dict=od/\o.data=.fields vs:=let ⟨o,vs,a,b,c,d,_⟩:=x.1;⟨o,vs,a,b,c,d⟩
noncomputable def del (H:Hp)(a:Addr):Hp:=fun b=>if b=a then none else H b
theorem Zgb {H:Hp}{a:Addr}:del H a a=none:=by unfold del;rw [if_pos rfl]
theorem Nf {H:Hp}{a b:Addr}(h:b≠a):del H a b=H b:=by unfold del;rw [if_neg h]
section
variable {X:Cx}{pins:List (Addr×Obj)}{σ:St}{H:Hp}{s:Shared}
theorem Inv.del {a:Addr}{φ:Heap->Prop}(I:Inv X pins σ H s)(h0:X.s₀.heap.get? a=none)(e:H a=some (.ext φ)):Inv X pins σ (L2.del H a) s:=by
 have fr:∀ b,H b=none->L2.del H a b=none:=fun b q=>by
  unfold L2.del;split
  ·rfl
  ·exact q
 have st:∀ b o,H b=some o->(∀ φ,o≠.ext φ)->L2.del H a b=some o:=fun b o q n=>by
  rw [Nf fun z=>by rw [z,e] at q;cases q;exact n φ rfl]
  exact q
 refine ⟨I.ok,I.os,I.bare,⟨I.base.keep,I.base.slot,fun b o q n hx=>fr b (I.base.free b o q n hx),I.base.there,fun b xs q=>st b _ (I.base.tups b xs q) (by intro φ z;cases z),fun b o u q=>st b _ (I.base.frzs b o u q) (by intro φ z;cases z),fun b ps q=>?_⟩,I.loc,I.cell,fr _ I.free,fun x c q=>fr _ (I.freeC x c q),fun p hp=>?_,fun b o q=>?_,I.len⟩
 ·obtain ⟨more,z⟩:=I.base.tbls b ps q
  exact ⟨more,st b _ z (by intro φ z;cases z)⟩
 ·obtain ⟨q1,q2,q3⟩:=I.pin p hp
  exact ⟨q1,fr _ q2,q3⟩
 ·have hb:b≠a:=fun z=>by rw [z,Zgb] at q;cases q
  rw [Nf hb] at q
  exact (I.hok b o q).stay (fun _ _ _ z=>z) (fun c z=>st c _ z (by intro φ z;cases z)) fun c xs z=>st c _ z (by intro φ z;cases z)
end
section
variable {X:Cx}{pins:List (Addr×Obj)}{σ:St}{H:Hp}{s:Shared}{a C:Addr}{f:Str}{A:Around}{E:Value->Shared->Prop}
open PySem.W PySem.Builtin PySem.Builtin.ObjectAttr
theorem Zk1 {y:V}{u:Value}{Q:Unit->Shared->Prop}(I:Inv X pins σ H s)(e:H a=some (D8 a (.ref C) none))(c:ExC X.K C)(n:NoAttr X.K C f)(ry:RelV y u)
  (h:∀ d s',H d=none->d≠a->Inv X pins σ (upd (upd H d (.xd [(f,y)])) a (D8 a (.ref C) (some d))) s'->Q () s'):wpAny (model X.prog X.w) A (setAttr (.ref a) f u) Q E s:=by
 obtain ⟨oe,vs,a1,a2,a3,a4,a5⟩:=Za1 (I.hok a _ e)
 have J:R1 s.heap a oe C none:=⟨a1,a2,by unfold notCls;rw [a4],by rw [a3];trivial⟩
 refine PySem.W.set_plain I.kIn J c.sa (Znu (s:={ s with toks:=s.toks+1 }) I.kIn J c n.taker fun b=>?_)
 obtain ⟨cd,hc,hd'⟩:=PySem.W.any_some c.hd
 obtain ⟨oc,odi,oda,osl⟩:=oe
 dsimp only at a2 a3 a4
 subst a2 a3 a4
 refine O1 (O2 (O1 (O1 (Su a1 (O1 (Qg.here (s:={ s with toks:=s.toks+1 }) (PySem.W.looks_clsIn I.kIn hc) ?_))))))
 rw [hd']
 show wpAny _ _ (alloc { cls:=Value.type "dict",data:=Data.dict #[] } >>= fun d=>update a (fun o=>{ o with dict:=some d }) >>= fun _=>dictMade (.ref C) a d) _ _ _
 have sz:a < s.heap.objs.size:=O9 a1
 have ne:s.heap.objs.size≠a:=Re sz
 generalize hoD:({ cls:=Value.type "dict",data:=Data.dict #[] }:Obj)=oD
 have fD:oD.isFreed=false:=by rw [<- hoD];rfl
 refine O1 (wpAny_alloc ?_)
 have b1:(s.heap.push oD).get? a=some { cls:=Value.ref C,data:=Data.fields vs,slots:=osl }:=O6 _ a1
 refine O1 (wpAny_update b1 ?_)
 refine O2 ?_
 dsimp only
 have b2:((s.heap.push oD).update a fun o=>{ o with dict:=some s.heap.objs.size }).get? a=some { cls:=Value.ref C,dict:=some s.heap.objs.size,data:=Data.fields vs,slots:=osl }:=Rk _ b1 rfl
 have b3:((s.heap.push oD).update a fun o=>{ o with dict:=some s.heap.objs.size }).get? s.heap.objs.size=some oD:=(Qn _ _ (Ps ne)).trans (Pe _ fD)
 have b4:∀ b o,b≠a->s.heap.get? b=some o->((s.heap.push oD).update a fun o=>{ o with dict:=some s.heap.objs.size }).get? b=some o:=fun b o hb q=>(Qn _ _ (Ps hb)).trans (O6 _ q)
 generalize ((s.heap.push oD).update a fun o=>{ o with dict:=some s.heap.objs.size })=h1 at b2 b3 b4 ⊢
 have n0:h1.Ns s.heap.objs.size (fun _=>none):=⟨oD,#[],_,b3,by rw [<- hoD],(fun e he=>absurd he (by simp)),fun _=>rfl⟩
 have n1:h1.Ns1 s.heap.objs.size (fun _=>none):=Heap.Ns1.of_empty n0
 unfold storeInDict
 refine O1 (O2 (O1 ?_))
 refine wpAny_nsSet1 (s:=⟨h1,s.gens,s.drawn,s.toks+1,s.os⟩) n1 fun h2 hn2 hs2=>?_
 obtain ⟨oD2,esD,epD,hoD2,hdD,hcD⟩:=hn2.count (Tw.cons (ns:=[]) f u fun y hy=>absurd rfl hy)
 refine O1 (wpAny_lookBehind hoD2 (by rw [hdD];exact pastItsLine_dict (P5 hcD (by rw [Pr];decide))) ?_)
 refine O2 (h s.heap.objs.size _ (I.hok.fresh (O3 _)) ne ?_)
 have fD2:oD2.isFreed=false:=by
  obtain ⟨c0,d0,t0,s0⟩:=oD2
  dsimp only at hdD
  subst hdD
  rfl
 have k1:=Pe s.heap fD2
 have n2:(s.heap.push oD2).Ns1 s.heap.objs.size (fun x=>if x=f then some u else none):=by
  refine hn2.at fun o q=>?_
  rw [hoD2] at q
  cases q
  exact k1
 have I1:=I.laid (a:=s.heap.objs.size) (o:=.xd [(f,y)]) (h':=s.heap.push oD2) (t':=s.toks) (fun b u q=>O6 _ q) (O3 _) ⟨_,n2,fun g=>by
  by_cases q:g=f
  ·rw [if_pos q,q,List.lookup_cons_self];exact ry
  ·rw [if_neg q]
   have:(g == f)=false:=by simpa using q
   rw [Qu,this]
   exact True.intro⟩
 have ne':upd H s.heap.objs.size (.xd [(f,y)]) a=some (D8 a (.ref C) none):=by rw [Au (Ps ne)];exact e
 refine I1.write (x:=a) (e:=a) (h':=h2) (t':=s.toks+1+1) (by rw [ne'];exact True.intro) (.inl rfl) (fun b w hb q=>?_) ⟨_,(hs2.2 a (Ps ne)).trans b2⟩ (Zg2 ⟨_,vs,(hs2.2 a (Ps ne)).trans b2,rfl,rfl,rfl,a5⟩)
 by_cases hb2:b=s.heap.objs.size
 ·rw [hb2] at q ⊢
  rw [k1] at q
  rw [<- q]
  exact hoD2
 ·have q':s.heap.get? b=some w:=by
   rw [Heap.get?_push_ne _ _ _ hb2] at q
   exact q
  exact (hs2.2 b hb2).trans (b4 b w hb q')
theorem Znn {expr:Bool}{d:Addr}{fs:List (Str×V)}{v:V}{Q:Value->Shared->Prop}(I:Inv X pins σ H s)(e:H a=some (Dk a (.ref C) (some d)))(ed:H d=some (.xd fs))(c:ExC X.K C)(n:NoAttr X.K C f)(l:fs.lookup f=some v)
  (h:∀ u s',Inv X pins σ H s'->RelV v u->Q u s'):wpAny (model X.prog X.w) A (getAttr (.ref a) f expr) Q E s:=by
 obtain ⟨oe,vs,a1,a2,a3,a4⟩:=Zf5 (I.hok a _ e)
 obtain ⟨mA,nA,r⟩:=I.hok d _ ed
 obtain ⟨od,hod,hl⟩:=Os nA
 obtain ⟨u,hu,ru⟩:=RelO.some_of (v:=v) (o:=mA f) (by rw [<- l];exact r f)
 have J:R1 s.heap a oe C (some od):=⟨a1,a2,by unfold notCls;rw [a4],by rw [a3];exact hod⟩
 exact Zsa I.kIn J c (PySem.W.findObj_own c.hd n rfl (by rw [hl,hu])) (Zds ru) (h u _ (I.tok _) ru)
end
section
variable {X:Cx}{o e value:Expr}{f:Str}{pos pos':Pos}{ta tv:TE}
noncomputable def Znk (K:O0)(ta tv:TE)(f:Str):TS:=fun D σ H=>tv σ H fun y H1=>ta σ H1 fun x H2=>∃ a C,x=.ref a/\H2 a=some (D8 a (.ref C) none)/\ExC K C/\NoAttr K C f/\∀ d,H2 d=none->d≠a->D.nx σ (upd (upd H2 d (.xd [(f,y)])) a (D8 a (.ref C) (some d)))
theorem Zr7 (ha:QE X o ta)(hv:QE X value tv)(hs:swapsWith value (some (.Attribute o f pos')) pos.line X.env=pure false:=by rfl):QS X (.Assign [.Attribute o f pos'] value pos) (Znk X.K ta tv f):=by
 refine ⟨fun pins s σ H D I h=>?_⟩
 refine V9 (Aj (hv.run pins s σ H _ I h) fun u s1 zq=>?_) hs
 obtain ⟨y,H1,I1,ry,q⟩:=zq
 refine Aj (ha.run pins s1 σ H1 _ I1 q) fun ov s2 zq=>?_
 obtain ⟨x,H2,I2,rx,a,C,ex,ea,c,n,q2⟩:=zq
 subst ex
 obtain rfl:ov=Value.ref a:=rx
 exact Zk1 I2 ea c n ry fun d s3 hd hda I3=>⟨σ,_,I3,q2 d hd hda⟩
noncomputable def Zg7 (K:O0)(ta:TE)(f:Str):TE:=fun σ H Q=>ta σ H fun x H1=>∃ a C d fs v,x=.ref a/\H1 a=some (Dk a (.ref C) (some d))/\H1 d=some (.xd fs)/\ExC K C/\NoAttr K C f/\fs.lookup f=some v/\Q v H1
theorem Znc (he:QE X e ta)(hb:attributeBase e f X.env (eval e X.env)=eval e X.env:=by rfl):QE X (.Attribute e f pos) (Zg7 X.K ta f):=by
 refine ⟨fun pins s σ H Q I h=>?_⟩
 refine Ze5 hb (Aj (he.run pins s σ H _ I h) fun u s1 zq=>?_)
 obtain ⟨x,H1,I1,rx,a,C,d,fs,v,ex,ea,ed,c,n,l,q⟩:=zq
 subst ex
 obtain rfl:u=Value.ref a:=rx
 exact Znn I1 ea ed c n l fun u' s2 I2 ru=>⟨v,H1,I2,ru,q⟩
end
section
open PySem.W
end
structure Ov (K:O0)(C:Addr):Prop where
 ex:∃ bm dd nm bs ns qn hd sn sub ab col k0 k1 k2 k3 k5,K.lookup C=some (excClassObj nm qn C ns bs bm hd sn sub ab col dd k0 k1 k2 k3 k5 "ValueError.__new__")/\R3 K VE bm=true
theorem Zpy {K:O0}{C:Addr}(q:Ov K C) :
  ∃ bm N nm q bs hdct sn sub ab col dd k0 k1 k2 k3 k5,∀ h:Heap,K.In h->h.get? C=some (excClassObj nm q C N bs bm hdct sn sub ab col dd k0 k1 k2 k3 k5 "ValueError.__new__")/\OwnTail h VE bm:=by
 obtain ⟨bm,dd,nm,bs,ns,qn,hd,sn,sub,ab,col,k0,k1,k2,k3,k5,ho,ht⟩:=q.ex
 exact ⟨bm,ns,nm,qn,bs,hd,sn,sub,ab,col,dd,k0,k1,k2,k3,k5,fun h kin=>⟨kin _ _ ho,PySem.W.tail_of_in kin ht⟩⟩
section
variable {prog:Program}{w:World}{A:Around}{E:Value->Shared->Prop}{h:Heap}{g:Array GenState}{d:Drawn}{t:Nat}{os:OsState}
variable {nm q:Str}{C N:Addr}{bs bm bmB:List Value}{hdct:Bool}{sn:List Str}{sub:List Value}{ab:Bool}{col:Option Bool}{dd:Option Addr}{k0 k1 k2 k3 k5:Option Value}{B Bn newId nid initId inN:String}{bmN:List Value}
theorem Zh9 {K:O0}(Fn:ExcBaseFacts Bn newId inN bmN)(hBn:bmB.contains (.type Bn)=true)(F:ExcBaseFacts B nid initId bmB)(T:OwnTail h bmB bm){rest:List Value}{fI:Addr}{Q:Fin->Shared->Prop}(X:K.In h)
  (hC:h.get? C=some (excClassObj nm q C N bs bm hdct sn sub ab col dd k0 k1 k2 k3 k5 newId)) (hi:O4 K (.ref C) "__init__" = some (some (.ref fI))) (hf:Qw K (.ref fI)=some (.type "function"))
  (hq:∀ h' e,Heap.MadeExcOf h h' e (.ref C) rest ->
   wpAny (model prog w) A (call (.ref fI) (.ref e::rest)) (fun r s'=>r=.none/\Q (.done (.ret (.ref e))) s') E ⟨h',g,d,t,os⟩) (hrest:rest.length<=sizeLine:=by size_fits) :
  wpAny (model prog w) A (Builtin.«type.__call__» ⟨.ref C::rest,[]⟩) Q E ⟨h,g,d,t,os⟩:=by
 repeat (first | with_reducible refine Vr hC ?_ | with_reducible refine wpAny_madeBy_exc hC ?_ | wp_step)
 refine codeAny_call_builtin_code (Code.quiet_builtin _ Fn.quiet) (wpAny_check_new_subU Fn hBn T hC ?_)
 refine codeAny_exc_new_subU Fn hBn F T hC ?_ hrest
 show wpAny _ _ _ _ _ _
 have hC₁:=O6 { cls:=.ref C,data:=.fields #[.ref h.objs.size,.none,.none,.none,.bool false,.none] }
  (O6 { cls:=.type "tuple",data:=.seq rest.toArray } hC)
 have hget:((h.push { cls:=.type "tuple",data:=.seq rest.toArray }).push
   { cls:=.ref C,data:=.fields #[.ref h.objs.size,.none,.none,.none,.bool false,.none] }).get? (h.objs.size+1)=some
   { cls:=.ref C,data:=.fields #[.ref h.objs.size,.none,.none,.none,.bool false,.none] }:=by heap_get
 have hcC:(Value.ref C::bm).contains (.ref C)=true:=by simp
 have X₁:K.In ((h.push { cls:=.type "tuple",data:=.seq rest.toArray }).push { cls:=.ref C,data:=.fields #[.ref h.objs.size,.none,.none,.none,.bool false,.none] }):=fun b o e=>O6 _ (O6 _ (X b o e))
 unfold isInstance
 repeat (first | with_reducible refine Vr hget ?_ | (with_reducible refine wpAny_isSubtype_exc hC₁ ?_;rw [hcC]) | wp_step)
 show wpAny _ _ (typeLookup (.ref C) _) _ _ _
 refine (Vd X₁ hi).at ?_
 refine P9 (O1 ((PySem.W.bind_fn X₁ _ hf).at ?_))
 refine O1 (Q5 (hq _ (h.objs.size+1) ⟨fun b o hb=>O6 _ (O6 _ hb),R9 (Sl _),h.objs.size,hget,R9 (O3 _),?_⟩) (fun r s' hr=>?_) fun _ _ x=>x)
 ·exact O6 _ (Heap.get?_push_at rfl rfl)
 ·obtain ⟨rfl,hQ⟩:=hr
  wp_walk
  exact hQ
theorem Zsc {K:O0}(Fn:ExcBaseFacts Bn newId inN bmN)(hBn:bmB.contains (.type Bn)=true)(F:ExcBaseFacts B nid initId bmB)(T:OwnTail h bmB bm){rest:List Value}{fI:Addr}{Q:Value->Shared->Prop}(X:K.In h)
  (hC:h.get? C=some (excClassObj nm q C N bs bm hdct sn sub ab col dd k0 k1 k2 k3 k5 newId)) (hi:O4 K (.ref C) "__init__" = some (some (.ref fI))) (hf:Qw K (.ref fI)=some (.type "function"))
  (hq:∀ h' e,Heap.MadeExcOf h h' e (.ref C) rest ->
   wpAny (model prog w) (A.under (.builtin "type.__call__" ⟨.ref C::rest,[]⟩)) (call (.ref fI) (.ref e::rest)) (fun r s'=>r=.none/\Q (.ref e) s') E ⟨h',g,d,t,os⟩) (hrest:rest.length<=sizeLine:=by size_fits) :
  wpAny (model prog w) A (call (.ref C) rest) Q E ⟨h,g,d,t,os⟩:=by
 have f1:=tc_lookup
 have f2:=tc_bind (.ref C)
 have hT:(⟨h,g,d,t,os⟩:Shared).TypeIs (.ref C) "type" := ⟨_,hC,rfl⟩
 refine Q6 (codeAny_of_tree ?_)
 show wpAny _ _ (callAny (.ref C) _) _ _ _
 repeat (any_goals (first | assumption | with_reducible refine Vr hC ?_ | wp_step))
 refine ⟨rfl,?_⟩
 refine codeAny_call_builtin_at (Code.quiet_builtin _ (by decide +kernel)) entry_typeCall (wpAny_check_type_call_sub hC (Zh9 (hrest:=hrest) Fn hBn F T X hC hi hf fun h' e hm=>?_))
 exact hq h' e hm
end
theorem Zqu {K:O0}{M:Model}{A:Around}{E:Value->Shared->Prop}{s:Shared}{env:Env}{x:Sem Value}{Q:Flow->Shared->Prop}{C:Addr}(hh:A.handled=none)(hb:Pw K (.ref C) (.type "BaseException")=some true)(hty:Qw K (.ref C)=some (.type "type"))
  (h:wpAny M A x (fun v s₁=>∃ e od,v=.ref e/\K.In s₁.heap/\F0 s₁.heap e (.ref C) od/\E (.ref e) s₁) E s):wpAny M A (raiseStmt env (some x) none) Q E s:=by
 unfold raiseStmt
 refine O1 (Q5 h (fun v s₁ h₁=>?_) fun _ _ x=>x)
 obtain ⟨e,od,rfl,X,⟨oe,vs,a1,a2,a3,a4,a5⟩,hE⟩:=h₁
 have L3:=Vj (M:=M) X hb
 have L4:Qg M s₁.heap (typeOf (.ref e)) (.ref C):=by
  intro A' Q' E' s' k q
  unfold typeOf
  exact O1 (Su (k _ _ a1) (O2 (by rw [a2];exact q)))
 have L5:Qg M s₁.heap (isInstance (.ref e) (.type "BaseException")) true:=L4.andThen L3
 have L6:Qg M s₁.heap (isType (.ref e)) false:=by
  intro A' Q' E' s' k q
  unfold isType loadHead
  refine O1 (Su (k _ _ a1) ?_)
  rw [a4]
  exact O2 q
 have L7:Qg M s₁.heap (typeOf (.ref C)) (.type "type"):=PySem.W.looks_typeIn X hty
 unfold excFromValue isExcClass raisedInstance
 obtain ⟨hp,g,d,tk,os⟩:=s₁
 repeat (first | with_reducible refine L6.at ?_ | with_reducible refine L5.at ?_ | with_reducible refine L4.at ?_ | with_reducible refine L7.at ?_ | wp_step)
 rw [a4]
 refine O2 ?_
 dsimp only
 rw [a5.1]
 refine O2 ?_
 rw [if_neg (by decide)]
 exact O2 (wpAny_raiseNew_none hh hE)
section
variable {X:Cx}{k:Nat}{x:Str}{sp:Sp}{ps:List Str}{C f:Addr}{fd:FuncData}{np cpos pos:Pos}{a:Expr}{t:TA}{E:XK}
structure Rz (K:O0)(C f:Addr):Prop where
 ei:Ov K C
 init:O4 K (.ref C) "__init__" = some (some (.ref f))
 fn:R5 K (.ref f)=true
 kp:Ph K (.ref C)=true
 bs:Pw K (.ref C) (.type "BaseException")=some true
 ty:Qw K (.ref C)=some (.type "type")
noncomputable def tRz (C:Addr)(sp:Sp)(E:XK)(t:TA):TS:=fun D σ H=>t σ H fun vs H1=>vs.length<=sizeLine/\∀ e,H1 e=none->sp (.ref e::vs) (upd H1 e (D8 e (.ref C) none)) (fun v H2=>v=.non/\∃ od,H2 e=some (D8 e (.ref C) od)/\E (.ref C) od (del H2 e)) (fun _ _ _=>False)
theorem Zlg (hc:X.calm=true)(R:Rz X.K C f)(F:Ao X.prog X.w X.K X.mg X.base Aq k f fd ps sp)(hr:Room (k+1) X.A)(hb:Binds X.K fd ps [])(G:X.mg x=some (.ref C))(ha:QA X [a] t)(hx:Zd5 X E)(hex:X.ex=[])(hg:Gl X x:=by rfl)(hdb:(x == ("__debug__" : Str))=false:=by decide)
  (he:starEach [a] X.env=(false,eval a X.env)::starEach [] X.env:=by rfl) (hpl:(backTo cpos (starEach [] X.env)).any (·.1)=false:=by rfl):QS X (.Raise (some (.Call (.Name x np) [a] [] cpos)) none pos) (tRz C sp E t):=by
 refine ⟨fun pins s σ H D I h=>?_⟩
 rw [arm_exec_Raise]
 refine O1 (Sw (Zqu (K:=X.K) (C:=C) (I.ok.hd hc) R.bs R.ty (O1 (Q5 (Ra (El I hg G ?_ hdb)) (fun v s₃ h₃=>O1 (Sw (O2 h₃))) fun _ _ x=>x))))
 refine Sq (h₀:=X.base) I.ok.mod.kin R.kp (Aj (ha.run cpos pins s σ H _ I h) fun us s1 zq=>?_) he hpl
 obtain ⟨vs,H1,I1,r,hz,q⟩:=zq
 refine ⟨I1.kIn,?_⟩
 obtain ⟨bm,N,nm,qn,bs,hdct,sn,sub,ab,col,dd,k0,k1,k2,k3,k5,cl⟩:=Zpy R.ei
 obtain ⟨cC,cT⟩:=cl _ I1.kIn
 obtain ⟨hp,g,d,tk,os⟩:=s1
 refine Zsc Ta (by decide) Ta cT I1.kIn cC R.init (beq_iff_eq.mp R.fn) (fun h' e hm=>?_) (by show us.length<=sizeLine;rw [<- r.length];exact hz)
 obtain ⟨t',e1,_,_⟩:=hm.there
 have hn:H1 e=none:=I1.hok.no hm.new
 have mk:F0 h' e (.ref C) none:=⟨_,_,e1,rfl,rfl,rfl,rfl,rfl⟩
 have rf:Mvd (Bc X.stack) [] h' h':=⟨fun _ _ _ _ q=>q,fun _ o _ q=>⟨o.slots,q⟩⟩
 have I2:Inv X pins σ (upd H1 e (D8 e (.ref C) none)) ⟨h',g,d,tk,os⟩:=I1.call' (s':=⟨h',g,d,tk,os⟩) (ch:=[]) rfl ((Un.kept hm.keeps).land rf (fun b hb=>absurd hb (by simp)) hm.new hn) ((I1.hok.kept hm.keeps).land rf (fun b hb=>absurd hb (by simp)) (fun b hb=>I1.stkFree b hb) hn (Zg2 mk)) I1.bare (fun b z=>absurd z (by simp))
 have hq:=q e hn
 have r2:Vals (V.ref e::vs) (Value.ref e::us):=.cons rfl r
 have hl:(Value.ref e::us).length=ps.length:=by
  have z:=r2.length
  rw [F.len _ _ _ _ hq] at z
  exact z.symm
 have hb':=hb ⟨h',g,d,tk,os⟩ (Value.ref e::us) I2.kIn (by simpa using hl)
 rw [Rc] at hb'
 refine Q6 (Rg (F.run _ X.stack _ _ ⟨Value.ref e::us,[]⟩ (Value.ref e::us) _ _ _ (hr.make C us []) (I2.env0.make C us []) hb' r2 hq) fun r s' hq'=>?_)
 cases r with
 | error e=>exact Pd hq'
 | ok fl =>
  cases fl with
  | ret u =>
   obtain ⟨v,H',I3,rv,ev,od,q3,q4⟩:=I2.after hq'
   subst ev
   obtain rfl:u=Value.none:=rv
   have h0:=I1.old hex hm.new
   exact ⟨rfl,e,od,rfl,I3.kIn,Za1 (I3.hok e _ q3),hx pins σ _ s' e _ od (I3.del h0 q3) (Za1 (I3.hok e _ q3)) h0 Zgb q4⟩
  | next=>exact Pd hq'
  | brk=>exact Pd hq'
  | cont=>exact Pd hq'
end
theorem Zlf {X:Cx}{e:Expr}{f:Str}{pos:Pos}{ta:TE}(K:O0)(he:QE X e ta)(hK:X.K=K:=by rfl)(hb:attributeBase e f X.env (eval e X.env)=eval e X.env:=by rfl):QE X (.Attribute e f pos) (Zg7 K ta f):=by subst hK;exact Znc he hb
structure RoomN (k:Nat)(A:Around):Prop where
 dp:A.depth+3 * k+5 < recursionLimit
 un:A.units+16 * k+200 < cLine
theorem Room.n {k:Nat}{A:Around}(r:Room k A):RoomN k A:=⟨r.dp,r.un⟩
theorem RoomN.mono {j k:Nat}{A:Around}(r:RoomN k A)(h:j<=k):RoomN j A:=⟨by have:=r.dp;omega,by have:=r.un;omega⟩
theorem RoomN.deeper {k:Nat}{A:Around}(r:RoomN (k+1) A)(env:Env):RoomN k (A.deeper env) :=
 ⟨by have:=r.dp;show A.depth+1+3 * k+5 < _;omega,by have:=r.un;show A.units+3+16 * k+200 < _;omega⟩
theorem RoomN.mark {k:Nat}{A:Around}(r:RoomN k A)(e:Value):RoomN k (A.mark (some e)):=⟨r.dp,r.un⟩
structure Hv (P:Program)(w:World)(K:O0)(mg:Str->Option Value)(base:Heap)(k:Nat)(f:Addr)(fd:FuncData)(ps:List Str)(sp:Sp):Prop where
 len:∀ vs H Q E,sp vs H Q E->vs.length=ps.length
 run:∀(A:Around)(outer:List Env)(s:Shared)(H:Hp)(args:Args)(us:List Value)(vs:List V)(Q:VK)(E:XK),RoomN k A->Env0 P w K mg base A outer s H->BindsTo s fd args (ps.zip us)->Vals vs us->sp vs H Q E ->
  codeAny (model P w) A (.call (.ref f) args) (CR Aq outer P w H s Q E) s
section
variable {P:Program}{w:World}{K:O0}{mg:Str->Option Value}{base:Heap}
theorem Zp2 {k:Nat}{f:Addr}{name qual:Str}{params:Arguments}{body:List Stmt}{scope:Scope}{dV kV doc pm cdv ct oc:Value}{an od:Option Addr}
  {osl:Array (Option Value)} {N ps:List Str} {sp:Sp} (lk:K.lookup f=some ⟨oc,od,.func (Pk name qual params body scope dV kV doc pm an cdv ct),osl⟩) (hcd:Rp K cdv qual=true) (S:A2 N ps scope)
  (len:∀ vs H Q E,sp vs H Q E->vs.length=ps.length)
  (hbody:∀(A:Around)(outer:List Env)(s:Shared)(H:Hp)(vs:List V)(Q:VK)(E:XK),RoomN k (A.deeper (envOfC qual scope s.heap.objs.size f cdv))->sp vs H Q E ->
   ∃ t,PSs ((Cq Aq P w K mg base N qual scope f cdv A outer s H E).to (A.deeper (envOfC qual scope s.heap.objs.size f cdv)) false (fun _ _=>False)) body t/\t { nx:=fun _ H'=>Q .non H',rt:=Q } (start N vs) H) :
  Hv P w K mg base (k+1) f (Pk name qual params body scope dV kV doc pm an cdv ct) ps sp:=by
 refine ⟨len,fun A outer s H args us vs Q E hr e0 hb r hsp=>?_⟩
 have hl:=len _ _ _ _ hsp
 have KX:K.In s.heap:=e0.mod.kin.keeps fun b o e=>(e0.bs b o e).1
 have lim:s.heap.NoLimit:=e0.mod.nolimit.keeps fun b o e=>(e0.bs b o e).1
 have hkind:∀ y∈ps.zip us,scope.names.lookup y.1=some .local\/(scope.names.lookup y.1=some .cell/\((cellsFrom (s.heap.objs.size+1) scope.names []).lookup y.1).isSome=true):=fun ⟨n,v⟩ hy=>by
  rcases S.par n (Ul hy).1 with q | q
  ·exact .inl q
  ·exact .inr ⟨q,U8 _ _ _ (.inl q)⟩
 refine codeAny_call_function (by have:=hr.dp;omega) (KX _ _ lk) rfl S.co S.gen rfl (PySem.W.codeRec_of KX hcd) (hb _ _ _ _ ?_)
 refine wpAny_newFunctionEnv_cells S.kind hkind fun env he s1 x=>?_
 subst he
 refine ⟨lim.keeps x.toInCall.keep,codeAny_func ?_⟩
 obtain ⟨t,ht,hq⟩:=hbody A outer s H vs Q E (hr.deeper _) hsp
 have e0':Env0 P w K mg base { A with handled:=none } outer s H:=⟨e0.frames,e0.mod,e0.bs,e0.bsz,e0.funs,e0.frf,e0.hok,e0.bare⟩
 have I0:Inv (Cq Aq P w K mg base N qual scope f cdv { A with handled:=none } outer s H E) [] (start N vs) H s1:=Zhs S rfl e0' hl r x
 have I:Inv ((Cq Aq P w K mg base N qual scope f cdv A outer s H E).to (A.deeper (envOfC qual scope s.heap.objs.size f cdv)) false (fun _ _=>False)) [] (start N vs) H s1:=I0.to (A:=A.deeper (envOfC qual scope s.heap.objs.size f cdv)) (c:=false) (XE:=fun _ _=>False) rfl (by simp)
 refine Q5 (ht [] s1 (start N vs) H _ I hq) (fun fl s' hs=>?_) fun e s' hs=>Pd hs
 have fin:∀{σ':St}{H':Hp}{v:V}{u:Value},Inv ((Cq Aq P w K mg base N qual scope f cdv A outer s H E).to (A.deeper (envOfC qual scope s.heap.objs.size f cdv)) false (fun _ _=>False)) [] σ' H' s'->RelV v u->Q v H'->CE outer P w H s Q u s' :=
  fun {σ' H' v u} J rv q=>⟨v,H',J.os,J.bare,J.base,J.hok,rv,q⟩
 cases fl with
 | ret u =>
  obtain ⟨v,σ',H',J,rv,q⟩:=hs
  exact fin J rv q
 | next =>
  obtain ⟨σ',H',J,q⟩:=hs
  exact fin (v:=V.non) (u:=Value.none) J rfl q
 | brk =>
  obtain ⟨_,_,_,q⟩:=hs
  exact Pd q
 | cont =>
  obtain ⟨_,_,_,q⟩:=hs
  exact Pd q
theorem Fun.okN {x qual:Str}{st:Stmt}{f:Addr}{fd:FuncData}{N ps:List Str}{k:Nat}{sp:Sp}(F:Fun K x qual st f fd)(S:A2 N ps (Am st))(len:∀ vs H Q E,sp vs H Q E->vs.length=ps.length)
  (hbody:∀(cdv:Value)(A:Around)(outer:List Env)(s:Shared)(H:Hp)(vs:List V)(Q:VK)(E:XK),RoomN k (A.deeper (envOfC qual (Am st) s.heap.objs.size f cdv))->sp vs H Q E ->
   ∃ t,Dm ((Cq Aq P w K mg base N qual (Am st) f cdv A outer s H E).to (A.deeper (envOfC qual (Am st) s.heap.objs.size f cdv)) false (fun _ _=>False)) (Bg st) t/\t { nx:=fun _ H'=>Q .non H',rt:=Q } (start N vs) H):Hv P w K mg base (k+1) f fd ps sp:=by
 obtain ⟨oc,od,kV,doc,pm,an,cdv,ct,osl,rfl,lk,hcd⟩:=F.ex
 refine Zp2 lk hcd S len fun A outer s H vs Q E hr hsp=>?_
 obtain ⟨t,h,q⟩:=hbody cdv A outer s H vs Q E hr hsp
 exact ⟨t,h.run,q⟩
structure Ma (P:Program)(w:World)(K:O0)(mg:Str->Option Value)(base:Heap)(k:Nat)(x:Str)(ps:List Str)(sp:Sp):Prop where
 ex:∃(f:Addr)(fd:FuncData),Hv P w K mg base k f fd ps sp/\mg x=some (.ref f)/\Ph K (.ref f)=true/\Binds K fd ps []
theorem Zql {k:Nat}{x:Str}{ps:List Str}{sp:Sp}{f:Addr}{fd:FuncData}(F:Hv P w K mg base k f fd ps sp)(m:mg x=some (.ref f))(kp:Ph K (.ref f)=true)(b:Binds K fd ps []):Ma P w K mg base k x ps sp:=⟨f,fd,F,m,kp,b⟩
end
section
variable {X:Cx}{k:Nat}{x:Str}{ps:List Str}{sp:Sp}{p pos:Pos}{e:Expr}{es:List Expr}{t:TA}
theorem Zf8 (C:Ma X.prog X.w X.K X.mg X.base k x ps sp)(hr:RoomN k X.A)(ha:QA X (e::es) t)(hg:Gl X x:=by rfl)(hdb:(x == ("__debug__" : Str))=false:=by decide)
  (he:starEach (e::es) X.env=(false,eval e X.env)::starEach es X.env:=by rfl) (hpl:(backTo pos (starEach es X.env)).any (·.1)=false:=by rfl):QE X (.Call (.Name x p) (e::es) [] pos) (Go sp [] E0 t):=by
 obtain ⟨f,fd,F,hm,hk,hb⟩:=C.ex
 refine ⟨fun pins s σ H Q I h=>?_⟩
 refine Ra (El I hg hm ?_ hdb)
 refine Sq (h₀:=X.base) I.ok.mod.kin hk (Aj (ha.run pos pins s σ H _ I h) fun us s1 zq=>?_) he hpl
 obtain ⟨vs,H1,I1,r,q⟩:=zq
 refine ⟨I1.kIn,?_⟩
 have q:sp (vs++[]) H1 Q E0:=q
 rw [Rc] at q
 have hl:us.length=ps.length:=by rw [<- r.length];exact F.len _ _ _ _ q
 have hb':=hb s1 us I1.kIn (by simpa using hl)
 rw [Rc] at hb'
 refine Q6 (Rg (F.run X.A X.stack s1 H1 ⟨us,[]⟩ us vs Q _ hr I1.env0 hb' r q) fun r s' hq=>?_)
 cases r with
 | error e=>exact Pd hq
 | ok fl =>
  cases fl with
  | ret u=>exact I1.after hq
  | next=>exact Pd hq
  | brk=>exact Pd hq
  | cont=>exact Pd hq
end
structure Jn (K:O0)(D:Addr):Prop extends ExC K D where
 ca:O4 K (.ref D) "__class__" = some (some (.builtin "object.__class__"))
 cg:Vn K (.builtin "object.__class__") "__get__" = some (some (.builtin "getset_descriptor.__get__"))
 ct:V1 K (.builtin "object.__class__")=some true
section
open PySem.W PySem.Builtin PySem.Builtin.ObjectAttr
variable {prog:Program}{w:World}{A:Around}{E:Value->Shared->Prop}{s:Shared}{K:Frag}{x D:Addr}{ox:Obj}{od:Option Obj}
theorem Zod {Q:Option Value->Shared->Prop}(X:K.In s.heap)(I:R1 s.heap x ox D od)(c:Jn K D)(h:Q (some (.ref D)) { s with toks:=s.toks+1 }):wpAny (model prog w) A (getAttr? (.ref x) "__class__") Q E s:=by
 obtain ⟨cd,hc,ho⟩:=any_some c.ov
 have ne:cd.mro.isEmpty=false:=by cases q:cd.mro with | nil=>rw [q] at ho;cases ho | cons _ _=>rfl
 have hf:findObj K D od "__class__" = some (.bind (.builtin "getset_descriptor.__get__") (.builtin "object.__class__")):=by
  unfold findObj
  rw [hc,Sg,c.ca,Sg]
  dsimp only
  rw [c.cg,Sg]
  dsimp only
  rw [c.ct]
  rfl
 have hm:mroIn K D (.type "object")=some true:=by unfold mroIn;rw [hc,Sg,if_neg (by rw [ne];decide),(Nb ho).1]
 obtain ⟨hp,g,d,t,os⟩:=s
 have L0:=I.type (M:=model prog w)
 have L1:=looks_findIn (M:=model prog w) X c.ga
 have L2:=looks_findIn (M:=model prog w) X c.gt
 have L3:=looks_find (M:=model prog w) X I hf
 have L4:Looks (model prog w) hp (isInstance (.ref x) (.type "BaseException")) true:=I.type.andThen (looks_mroIn X (by unfold mroIn;rw [hc,Sg,if_neg (by rw [ne];decide),(Nb ho).2]))
 have f3:=Ub.ga.bind (.ref x)
 have hx2:(Value.builtin "BaseException.__getattribute__" == Value.builtin "object.__getattribute__")=false:=by decide +kernel
 have hx1:(onTheHeap (Value.ref D) && Value.builtin "BaseException.__getattribute__" == Value.builtin "object.__getattribute__")=false:=by rw [hx2];rfl
 have hk:builtinKind "BaseException.__getattribute__" = some .slot:=by decide +kernel
 have hsplit:splitId "BaseException.__getattribute__" = some ("BaseException", "__getattribute__"):=by decide +kernel
 unfold getAttr? getAttrBy? getAttrBy
 refine O1 (wpAny_mkText (O1 (Sj (P9 (O1 (L0.at (O1 (L1.at ?_))))))))
 dsimp only
 rw [hx1]
 simp only [Sd,if_false]
 unfold getAttrByItsOwn hookBefore callGetattribute
 rw [if_pos (show onTheHeap (Value.ref D)=true from rfl)]
 refine O1 (L2.at ?_)
 simp only [P0,Sd,if_false]
 unfold boundAndCalled
 rw [f3]
 refine O1 (Sj (P9 (O1 (O2 (Q6 (Uf Ub.ga.plain PySem.F.entry_bexc_ga (@check_slot (model prog w) _ _ ⟨hp,g,d,t+1,os⟩ "BaseException.__getattribute__" "BaseException" "__getattribute__" (.ref x) [.str "__class__" t] [] _ hk hsplit L4 (PySem.F.args_bexc_ga (.ref x) (.str "__class__" t)) ?_)))))))
 show wpAny _ _ (Builtin.«object.__getattribute__» ⟨[.ref x,.str "__class__" t],[]⟩) _ _ _
 refine O1 (O2 (O1 (O2 (O1 (L0.at (O1 (L3.at ?_)))))))
 show wpAny _ _ (holding [.builtin "object.__class__"] (call (.builtin "getset_descriptor.__get__") [.builtin "object.__class__",.ref x,.ref D]) >>= ret) _ _ _
 refine O1 (P9 (Q6 (class_get (s:=⟨hp,g,d,t+1,os⟩) (ox:=ox) (od:=od) X I hm (O2 ?_))))
 show wpAny _ _ (handedOut (.ref D)) _ _ _
 rw [handedOut_of rfl]
 exact O2 (O2 h)
theorem Zhr (c:Jn K D):KitX K (.ref x) (.ref D) (fun h=>R1 h x ox D od) where
 ty:=fun _ _ _ I=>I.type
 it:=fun _ _ X _=>by
  obtain ⟨cd,hc,_⟩:=any_some c.ov
  exact Zgo X (by rw [hc];rfl)
 ne:=fun h tp dd its n sl X htp=>by
  obtain ⟨cdD,hcD,_⟩:=any_some c.ov
  refine Bool.eq_false_iff.mpr fun q=>?_
  have e:D=tp:=Value.ref.inj (beq_iff_eq.mp q)
  subst e
  unfold clsIn at hcD
  split at hcD
  ·rename_i c' d' cd' sl' ho
   have z:=(X _ _ ho).symm.trans htp
   cases z
  ·cases hcD
 ca:=fun X I k=>Zod X I c k
end
noncomputable def rIsY (K:O0):List V->Hp->VK->Prop:=fun xs H Q=>∃ a C C' od b,xs=[.ref a,.ref C]/\H a=some (Dk a (.ref C') od)/\(∀ d,od=some d->∃ fs,H d=some (.xd fs))/\Jn K C'/\Po K (.ref C') (.ref C)=some b/\Q (.bl b) H
noncomputable def Zpn (K:O0)(T:String):List V->Hp->VK->Prop:=fun xs H Q=>∃ a C' od b,xs=[.ref a,.ty T]/\H a=some (Dk a (.ref C') od)/\(∀ d,od=some d->∃ fs,H d=some (.xd fs))/\Jn K C'/\Po K (.ref C') (.type T)=some b/\Q (.bl b) H
section
variable {X:Cx}{pins:List (Addr×Obj)}{σ:St}{H:Hp}{s:Shared}{a C':Addr}{od:Option Addr}
theorem Zhn (I:Inv X pins σ H s)(ea:H a=some (Dk a (.ref C') od))(hd:∀ d,od=some d->∃ fs,H d=some (.xd fs)):∃ ox oo,R1 s.heap a ox C' oo:=by
 obtain ⟨oe,vs,a1,a2,a3,a4⟩:=Zf5 (I.hok a _ ea)
 cases od with
 | none=>exact ⟨oe,none,a1,a2,by unfold PySem.W.notCls;rw [a4],by rw [a3];trivial⟩
 | some d =>
  obtain ⟨fs,ed⟩:=hd d rfl
  obtain ⟨mA,nA,r⟩:=I.hok d _ ed
  obtain ⟨oD,hoD,hl⟩:=Os nA
  exact ⟨oe,some oD,a1,a2,by unfold PySem.W.notCls;rw [a4],by rw [a3];exact hoD⟩
theorem Mz {K:O0}(hK:X.K=K:=by rfl):Cm X (.builtin "isinstance") (rIsY K):=by
 subst hK
 intro pins s σ H xs us Q I r h
 obtain ⟨a,C,C',od,b,rfl,ea,hd,c,e,q⟩:=h
 obtain ⟨u,v,rfl,ru,rv⟩:=r.two
 obtain rfl:u=Value.ref a:=ru
 obtain rfl:v=Value.ref C:=rv
 obtain ⟨ox,oo,J⟩:=Zhn I ea hd
 exact Qe (Zhr (ox:=ox) (od:=oo) c) I.kIn J e (fun z=>nomatch z) fun tk=>⟨.bl b,H,I.tok tk,rfl,q⟩
theorem Zm7 {K:O0}(T:String)(hK:X.K=K:=by rfl):Cm X (.builtin "isinstance") (Zpn K T):=by
 subst hK
 intro pins s σ H xs us Q I r h
 obtain ⟨a,C',od,b,rfl,ea,hd,c,e,q⟩:=h
 obtain ⟨u,v,rfl,ru,rv⟩:=r.two
 obtain rfl:u=Value.ref a:=ru
 obtain rfl:v=Value.type T:=rv
 obtain ⟨ox,oo,J⟩:=Zhn I ea hd
 exact Qe (Zhr (ox:=ox) (od:=oo) c) I.kIn J e (fun z=>nomatch z) fun tk=>⟨.bl b,H,I.tok tk,rfl,q⟩
end
section
variable {X:Cx}
end
end L2
namespace L2
open PySem
section
variable {g:TG}{tt:TT}{te:TE}{σ0:St}{H1:Hp}{D:Addr}{Q:VK}
end
end L2
namespace L2
open PySem PySem.Spec PyProof.Rows
section
variable {X:Cx}
end
section
variable {prog:Program}{w:World}{A:Around}{E:Value->Shared->Prop}{s:Shared}
end
section
variable {X:Cx}
end
section
variable {g:TG}{tt:TT}{te:TE}{σ0:St}{H1:Hp}{D:Addr}{Q:VK}
end
section
variable {X:Cx}
end
theorem Zob:fillsNumberSlot (.type "tuple") "mul" = pure false :=
 PySem.fillsNumberSlot_seq (id := "tuple.__mul__") (r:=some (.builtin "tuple.__rmul__")) Tf.lookup (by decide +kernel) PySem.F.slot_tuple_rmul.lookup (by decide +kernel)
theorem Zty:seqRepeat? (.type "tuple")=pure (some (.builtin "tuple.__mul__")):=by
 unfold seqRepeat?
 rw [PySem.seqSlot_of (T := "tuple") (name := "__mul__") (id := "tuple.__mul__") Tf.lookup (by decide +kernel),PySem.seqSlot_of (T := "tuple") (name := "__rmul__") (id := "tuple.__rmul__") PySem.F.slot_tuple_rmul.lookup (by decide +kernel)]
 rfl
theorem Zkv (a:Int)(t:Tok)(l:Addr)(items:Array Value)(n:Nat)(dd:Option Addr)(sl:Array (Option Value)) :
  Meets (Builtin.«int.__rmul__» ⟨[.int a t,.ref l],[]⟩) (fun _ R s=>s.heap.get? l=some { cls:=.type "tuple",dict:=dd,data:=.seq items n,slots:=sl }/\R (.ok (.ret Value.notImplemented)) s) :=
 .of_wp fun prog w A R s h=>by obtain ⟨hp,g,d,tk,os⟩:=s;obtain ⟨hl,h⟩:=h;wp_walk;exact ⟨_,rfl,h⟩
theorem Zni (l:Addr)(items:Array Value)(n:Nat)(dd:Option Addr)(sl:Array (Option Value))(u:Tok) :
  Meets (Builtin.«tuple.__mul__» ⟨[.ref l,.int 1 u],[]⟩) (fun _ R s=>s.heap.get? l=some { cls:=.type "tuple",dict:=dd,data:=.seq items n,slots:=sl }/\R (.ok (.ret (.ref l))) s) :=
 .of_wp fun prog w A R s h=>by obtain ⟨hp,g,d,tk,os⟩:=s;obtain ⟨hl,h⟩:=h;wp_walk;exact ⟨_,rfl,h⟩
theorem Zrc (l:Addr)(items:Array Value)(n:Nat)(dd:Option Addr)(sl:Array (Option Value))(u:Tok)(hne:¬ items.isEmpty=true) :
  Meets (Builtin.«tuple.__mul__» ⟨[.ref l,.int 0 u],[]⟩) (fun _ R s=>s.heap.get? l=some { cls:=.type "tuple",dict:=dd,data:=.seq items n,slots:=sl }/\R (.ok (.ret (.ref s.heap.objs.size))) { s with heap:=s.heap.push { cls:=.type "tuple",data:=.seq #[] } }) :=
 .of_wp fun prog w A R s h=>by obtain ⟨hp,g,d,tk,os⟩:=s;obtain ⟨hl,h⟩:=h;wp_walk;exact ⟨_,rfl,h⟩
theorem Zro (l:Addr)(items:Array Value)(n:Nat)(dd:Option Addr)(sl:Array (Option Value))(u:Tok)(x:Int)(h2:2<=x)(hx:x < 2 ^ 62)(hne:items.isEmpty=false)(hz:(items.size:Int) * x<=1000)(hs:¬ ((Pa x.toNat items).foldl (·++·) #[]).size > sizeLine) :
  Meets (Builtin.«tuple.__mul__» ⟨[.ref l,.int x u],[]⟩) (fun _ R s=>s.heap.get? l=some { cls:=.type "tuple",dict:=dd,data:=.seq items n,slots:=sl }/\R (.ok (.ret (.ref s.heap.objs.size))) { s with heap:=s.heap.push { cls:=.type "tuple",data:=.seq ((Pa x.toNat items).foldl (·++·) #[]) } }) :=
 .of_wp fun prog w A R s h=>by
  obtain ⟨hp,g,d,tk,os⟩:=s;obtain ⟨hl,h⟩:=h
  have c0:(decide (x < -2 ^ 63) || decide (x ≥ 2 ^ 63))=false:=by
   have a:¬ x < -2 ^ 63:=by omega
   have b:¬ x ≥ 2 ^ 63:=by omega
   rw [decide_eq_false a,decide_eq_false b];rfl
  have c1:(items.isEmpty || x == 1)=false:=by
   have b:¬ x=1:=by omega
   rw [hne]
   simp [b]
  have c2:(decide (x<=0) || items.isEmpty)=false:=by
   have b:¬ x<=0:=by omega
   rw [hne,decide_eq_false b];rfl
  have c3:¬ ((items.size:Int) * x > (2 ^ 63 - 1) / 8):=by omega
  have c4:Builtin.Tuple.tupleTooMany ((items.size:Int) * x)=false:=by
   unfold Builtin.Tuple.tupleTooMany
   have:(100000:Nat)<=sizeLine:=by decide
   exact decide_eq_false (by omega)
  wp_walk
  refine Us (by rw [c0];rfl) ?_
  wp_walk
  refine Us (by rw [c1];rfl) ?_
  wp_walk
  refine Us (by rw [c2];rfl) ?_
  wp_walk
  refine Us (decide_eq_false c3) ?_
  wp_walk
  exact ⟨_,rfl,h⟩
section
variable {X:Cx}
noncomputable def Zfs (K:O0):R2:=fun x y H Q=>∃ l k xs,x=.ref l/\y=.int k/\SqT K H l xs/\xs≠[]/\0<=k/\k < 2 ^ 62/\(xs.length:Int) * k<=1000/\∀ r H',Same H H'->SqT K H' r (Pa k.toNat xs).flatten->Q (.ref r) H'
theorem Zmw (K:O0)(hK:X.K=K:=by rfl):OpR X (binaryOp .Mult) (Zfs K):=by
 subst hK
 intro pins s σ H x y v u Q I rx ry h
 obtain ⟨l,k,xs,rfl,rfl,hH,hne,h0,h1,hz,q⟩:=h
 cases rx
 obtain ⟨t,rfl⟩:=ry
 obtain ⟨its,r,p,_⟩:=I.tuple hH
 have hl:=r.length
 obtain ⟨⟨cls,dd,data,sl⟩,e,hc,n,hd⟩:=id p
 simp only at hc hd
 subst hc hd
 have hz':(its.toArray.size:Int) * k<=1000:=by rw [O5,<- hl];exact hz
 have hem:its.toArray.isEmpty=false:=by
  cases its with
  | nil=>cases xs with | nil=>exact absurd rfl hne | cons a b=>simp at hl
  | cons a b=>simp
 have go:∀ Q':Value->Shared->Prop,wpAny (model X.prog X.w) X.A (call (.builtin "tuple.__mul__") [.ref l,.int k t]) Q' X.xe s->wpAny (model X.prog X.w) X.A (binaryOp .Mult (.ref l) (.int k t)) Q' X.xe s:=fun Q' hh =>
  wpAny_binaryOp_repeat_ref (T := "tuple") (U := "int") (by decide) ⟨_,e,rfl⟩ (fun s'=>T0 s' k t) Zob PySem.F.fills_int_mul PySem.F.slot_int_rmul Zty PySem.F.slot_int_index.lookup
   (Qy PySem.F.slot_int_rmul (T0 s k t) PySem.F.entry_int_rmul (PySem.F.args_int_rmul_2 _ _) (Zkv k t l its.toArray n dd sl) ⟨e,rfl,⟨_,e,rfl⟩,hh⟩)
 by_cases k1:k=1
 ·subst k1
  refine go _ (Qy Tf ⟨_,e,rfl⟩ U7 (U5 _ _) (Zni l its.toArray n dd sl t) ⟨e,?_⟩)
  exact ⟨.ref l,H,I,rfl,q l H (Same.refl _) (by show SqT X.K H l (Pa 1 xs).flatten;simpa using hH)⟩
 by_cases k0:k=0
 ·subst k0
  refine go _ (Qy Tf ⟨_,e,rfl⟩ U7 (U5 _ _) (Zrc l its.toArray n dd sl t (by rw [hem];exact O8)) ⟨e,?_⟩)
  refine ⟨.ref _,_,I.laid (t':=s.toks) (o:=.tup []) (fun b ob q=>O6 _ q) (O3 _) ⟨by show 0<=sizeLine;decide,[],.nil,⟨_,Pe _ rfl,rfl,_,rfl⟩⟩,rfl,q _ _ (Same.upd I.fresh) (SqT.of Ad)⟩
 ·have hnew:T1 (fun x1 x2=>x1++x2) #[] (Pa k.toNat its.toArray)=(Pa k.toNat its).flatten.toArray:=by
   have:=Zcz its k.toNat []
   rw [Uo] at this
   exact this
  have hlen:(Pa k.toNat xs).flatten.length<=sizeLine:=by
   rw [Oc]
   have:(100000:Nat)<=sizeLine:=by decide
   have e:((k.toNat * xs.length:Nat):Int)=(xs.length:Int) * k:=by rw [Int.natCast_mul,Vg h0,Int.mul_comm]
   omega
  have hs:¬ ((Pa k.toNat its.toArray).foldl (·++·) #[]).size > sizeLine:=by
   have h':T1 (fun x1 x2=>x1++x2) #[] (Pa k.toNat its.toArray)=(Pa k.toNat its).flatten.toArray:=hnew
   rw [h',O5,Oc,<- hl]
   rw [Oc] at hlen
   omega
  refine go _ (Qy Tf ⟨_,e,rfl⟩ U7 (U5 _ _) (Zro l its.toArray n dd sl t k (by omega) h1 hem hz' hs) ⟨e,?_⟩)
  rw [hnew]
  exact ⟨.ref _,_,I.laid (t':=s.toks) (o:=.tup (Pa k.toNat xs).flatten) (fun b ob q=>O6 _ q) (O3 _) ⟨hlen,_,r.rep k.toNat,⟨_,Pe _ rfl,rfl,_,rfl⟩⟩,rfl,q _ _ (Same.upd I.fresh) (SqT.of Ad)⟩
theorem Znj {K:O0}{l:Addr}{k:Int}{xs:List V}{H:Hp}{Q:VK}(hq:SqT K H l xs)(hne:xs≠[])(h0:0<=k)(h1:k < 2 ^ 62)(hz:(xs.length:Int) * k<=1000)(h:∀ r H',Same H H'->SqT K H' r (Pa k.toNat xs).flatten->Q (.ref r) H'):Zfs K (.ref l) (.int k) H Q:=⟨l,k,xs,rfl,rfl,hq,hne,h0,h1,hz,h⟩
open PySem.Builtin PySem.Builtin.Str in
noncomputable def Zsq (z:Str):Value->Bool
 | .str a _=>a == z
 | _=>false
theorem Zh1:∀{ws:List Str}{us:List Value}{j:Nat}{u:Value},Vals (ws.map V.str) us->us[j]?=some u->∃ a t,u=.str a t/\ws[j]?=some a
 | [],_,j,u,.nil,h=>by simp at h
 | a::r,_,0,u,.cons ra _,h=>by
  obtain ⟨t,rfl⟩:=ra
  have h:u=.str a t:=by simpa using h.symm
  exact ⟨a,t,h,rfl⟩
 | a::r,_,j+1,u,.cons _ rr,h=>by
  obtain ⟨b,t,e1,e2⟩:=Zh1 (j:=j) rr (by simpa using h)
  exact ⟨b,t,e1,by simpa using e2⟩
noncomputable def Zol (K:O0):V->List V->Hp->VK->Prop:=fun x vs H Q=>∃(l:Addr)(z:Str)(ws:List Str)(j:Nat),x=.ref l/\vs=[.str z]/\SqL K H l (ws.map V.str)/\ws[j]?=some z/\(∀ m < j,ws[m]?≠some z)/\ws.length<=1000/\Q (.int (j:Nat)) H
theorem Zog (K:O0)(hK:X.K=K:=by rfl):Fd X "list.index" (Zol K):=by
 subst hK
 intro pins s σ H x vs v us Q I rx rv h
 obtain ⟨l,z,ws,j,rfl,rfl,hl,hj,hno,hz,q⟩:=h
 cases rx
 obtain ⟨u,rfl,ru⟩:=rv.one
 obtain ⟨t,rfl⟩:=ru
 obtain ⟨its,r,p,_⟩:=I.list hl
 have hlen:=r.length
 rw [Pq] at hlen
 have hjl:=(Pl.mp hj).1
 obtain ⟨⟨cls,dd,data,sl⟩,ho,hc,n,hd⟩:=id p.isList
 simp only at hc hd
 subst hc hd
 have at':∀ m (hm:m < its.toArray.size),∃ a t,its.toArray[m]=.str a t/\ws[m]?=some a:=fun m hm=>by
  have hm':m < its.length:=by simpa using hm
  have:=Zh1 r (O7 hm')
  simpa using this
 refine Qy PySem.F.slot_list_index ⟨_,ho,rfl⟩ PySem.F.entry_list_index (PySem.F.args_list_index_2 _ _) (SeqAt.list_indexAt l its.toArray n dd sl (.str z t) (Zsq z) j (by rw [O5];omega) (by omega) ?_ ?_) ⟨ho,fun y hy=>?_,?_⟩
 ·obtain ⟨a,t',e1,e2⟩:=at' j (by rw [O5];omega)
  rw [hj] at e2
  cases e2
  rw [e1]
  show (z == z)=true
  simp
 ·intro m hm hmj
  obtain ⟨a,t',e1,e2⟩:=at' m hm
  rw [e1]
  show (a == z)=false
  have:a≠z:=fun e=>hno m hmj (by rw [e2,e])
  simpa using this
 ·obtain ⟨m,hm,rfl⟩:=Array.mem_iff_getElem.mp hy
  obtain ⟨a,t',e1,e2⟩:=at' m hm
  rw [e1]
  exact Pi.str_str a t' z t
 ·exact ⟨.int (j:Nat),H,I.tok _,⟨_,rfl⟩,q⟩
end
section
variable {prog:Program}{w:World}{A:Around}{E:Value->Shared->Prop}{s:Shared}
end
section
variable {X:Cx}
end
section
variable {X:Cx}{k:Nat}{x:Str}{ps:List Str}{sp:Sp}{p pos:Pos}
end
structure Oe (CX:Bs)(P:Program)(w:World)(K:O0)(mg:Str->Option Value)(base:Heap)(k:Nat)(C:Addr)(m:Str)(ps:List Str)(sp:Sp):Prop where
 ex:∃(g:Addr)(fd:FuncData),Ao P w K mg base CX k g fd ps sp/\Cls K C/\Meth K C m g/\Binds K fd ps []
structure Ha (CX:Bs)(P:Program)(w:World)(K:O0)(mg:Str->Option Value)(base:Heap)(k:Nat)(x:Str)(C:Addr)(ps:List Str)(sp:Sp):Prop where
 ex:∃(f:Addr)(fd:FuncData),Ao P w K mg base CX k f fd ps sp/\Mk K C f/\mg x=some (.ref C)/\Binds K fd ps []
structure Jx (K:O0)(mg:Str->Option Value)(x:Str)(C:Addr):Prop where
 makes:Qp K C=true
 init:O4 K (.ref C) "__init__" = some (some (.builtin "object.__init__"))
 kp:Ph K (.ref C)=true
 at_:mg x=some (.ref C)
noncomputable def Zjf (CX:Bs)(P:Program)(w:World)(K:O0)(mg:Str->Option Value)(base:Heap)(k:Nat)(m:Str)(ps:List Str)(E:XK)(ta:TE)(t:TA):TE:=fun σ H Q=>ta σ H fun x H1=>∃ a C dx fs sp,x=.ref a/\H1 a=some (.ins C dx fs)/\fs.lookup m=none/\Oe CX P w K mg base k C m ps sp /\
 t σ H1 fun vs H2=>sp (.ref a::vs) H2 Q E
noncomputable def Nw (C:Addr)(sp:Sp)(E:XK)(t:TA):TE:=fun σ H Q=>t σ H fun vs H1=>∀ x dx,H1 x=none->H1 dx=none->dx≠x->sp (.ref x::vs) (upd (upd H1 dx (.own x)) x (.ins C dx [])) (fun v H2=>v=.non/\Q (.ref x) H2) E
noncomputable def Zkt (C:Addr):TE:=fun σ H Q=>∀ x dx,H x=none->H dx=none->dx≠x->Q (.ref x) (upd (upd H dx (.own x)) x (.ins C dx []))
section
variable {X:Cx}{k:Nat}{x m:Str}{ps:List Str}{sp:Sp}{E:XK}{C:Addr}{p pos apos:Pos}{e o:Expr}{es:List Expr}{ta:TE}{t:TA}{CX:Bs}{P:Program}{w:World}{mg:Str->Option Value}{base:Heap}
theorem Zj6 (K:O0)(CX:Bs)(ps:List Str){pl:Sem Bool}(he:QE X o ta)(hr:Room k X.A)(hx:Er CX X E)(ha:QA X (e::es) t)(hP:X.prog=P:=by rfl)(hw:X.w=w:=by rfl)(hK:X.K=K:=by rfl)(hmg:X.mg=mg:=by rfl)(hbs:X.base=base:=by rfl)
  (hst:starEach (e::es) X.env=(false,eval e X.env)::starEach es X.env:=by rfl) (hpl:(backTo pos (starEach es X.env)).any (·.1)=false:=by rfl)
  (ht:eval (.Call (.Attribute o m apos) (e::es) [] pos) X.env=(do
   let ov <- eval o X.env
   standAt apos.atName
   let (f,first) <- holding [ov] (getMethod ov m pl)
   callWith pos f first (backTo pos (starEach (e::es) X.env)) (backToKw pos (keywordEach [] X.env))):=by rfl) :
  QE X (.Call (.Attribute o m apos) (e::es) [] pos) (Zjf CX P w K mg base k m ps E ta t):=by
 subst hP hw hK hmg hbs
 refine ⟨fun pins s σ H Q I h=>?_⟩
 refine PySem.W.methodCall_KW (pl:=pl) (Aj (he.run pins s σ H _ I h) fun u s1 zq=>?_) ht
 obtain ⟨x,H1,I1,rx,a,C,dx,fs,sp,ex,ea,l,M,q⟩:=zq
 obtain ⟨g,fd,F,c,hm,hb⟩:=M.ex
 subst ex
 obtain rfl:u=Value.ref a:=rx
 refine Znv I1 ea c hm l ?_
 refine Sq (first:=[.ref a]) (h₀:=X.base) I.ok.mod.kin hm.kp (Aj (ha.run pos pins s1 σ H1 _ I1 q) fun us s2 zq=>?_) hst hpl
 obtain ⟨vs,H2,I2,r,q2⟩:=zq
 refine ⟨I2.kIn,?_⟩
 exact Zga (us:=.ref a::us) (vs:=.ref a::vs) (dvs:=[]) F hr hb .nil hx I2 (.cons rfl r) (by rw [Rc];exact q2)
theorem Ow (M:Ha CX X.prog X.w X.K X.mg X.base k x C ps sp)(hr:Room (k+1) X.A)(hx:Er CX X E)(ha:QA X (e::es) t)(hg:Gl X x:=by rfl)(hdb:(x == ("__debug__" : Str))=false:=by decide)
  (he:starEach (e::es) X.env=(false,eval e X.env)::starEach es X.env:=by rfl) (hpl:(backTo pos (starEach es X.env)).any (·.1)=false:=by rfl):QE X (.Call (.Name x p) (e::es) [] pos) (Nw C sp E t):=by
 obtain ⟨f,fd,F,mk,hm,hb⟩:=M.ex
 refine ⟨fun pins s σ H Q I h=>?_⟩
 refine Ra (El I hg hm ?_ hdb)
 refine Sq (h₀:=X.base) I.ok.mod.kin mk.kp (Aj (ha.run pos pins s σ H _ I h) fun us s1 zq=>?_) he hpl
 obtain ⟨vs,H1,I1,r,q⟩:=zq
 refine ⟨I1.kIn,?_⟩
 exact Zua (dvs:=[]) mk F hr hb .nil hx I1 r (fun x dx h1 h2 h3=>by rw [Rc];exact q x dx h1 h2 h3)
theorem Ze6 (M:Jx X.K X.mg x C)(hg:Gl X x:=by rfl)(hdb:(x == ("__debug__" : Str))=false:=by decide):QE X (.Call (.Name x p) [] [] pos) (Zkt C):=by
 refine ⟨fun pins s σ H Q I h=>?_⟩
 refine Ra (El I hg M.at_ ?_ hdb)
 refine PySem.W.callWith_K0 I.kIn M.kp ?_
 have hq:=h (s.heap.objs.size+1) s.heap.objs.size (I.hok.fresh (Sl _)) (I.hok.fresh (O3 _)) (Pg (Tj _))
 have I2:=Inv.made (C:=C) I
 have Y:=Vv (M:=model X.prog X.w) I.kIn M.makes
 refine Q6 (Zii I.kIn M.makes M.init (fun self=>Qg.of_pure (PySem.W.oi_bind self)) ?_)
 have t1:Qg (model X.prog X.w) ((s.heap.push Qo).push (Qv C s.heap.objs.size)) (typeOf (.ref (s.heap.objs.size+1))) (.ref C):=(Qg.ld (by have:=Pe (s.heap.push Qo) (o:=Qv C s.heap.objs.size) rfl;rw [Qx] at this;exact this)).andThen .now
 have t2:Qg (model X.prog X.w) ((s.heap.push Qo).push (Qv C s.heap.objs.size)) (isInstance (.ref (s.heap.objs.size+1)) (.type "object")) true:=t1.andThen (Y.top.keeps fun b o e=>O6 _ (O6 _ e))
 refine Uf PySem.W.oi_plain PySem.W.entry_oi (@PySem.W.check_slot (model X.prog X.w) _ _ _ "object.__init__" "object" "__init__" (.ref (s.heap.objs.size+1)) [] [] _ PySem.W.oi_kind PySem.W.oi_split t2 (PySem.W.oi_args (.ref (s.heap.objs.size+1))) ?_)
 rw [PySem.W.oi_run]
 exact O2 (And.intro rfl ⟨V.ref (s.heap.objs.size+1),_,I2,rfl,hq⟩)
end
section
variable {X:Cx}{e o value:Expr}{f:Str}{pos pos':Pos}{ta tv:TE}{pins:List (Addr×Obj)}{σ:St}{H:Hp}{s:Shared}
theorem Ep (K:O0)(he:QE X e ta)(hb:attributeBase e f X.env (eval e X.env)=eval e X.env:=by rfl)(hK:X.K=K:=by rfl):QE X (.Attribute e f pos) (Zbz K ta f):=by subst hK;exact Zoy he hb
theorem Hi (K:O0)(ha:QE X o ta)(hv:QE X value tv)(hs:swapsWith value (some (.Attribute o f pos')) pos.line X.env=pure false:=by rfl)(hK:X.K=K:=by rfl):QS X (.Assign [.Attribute o f pos'] value pos) (Zb0 K ta tv f):=by subst hK;exact Zn3 ha hv hs
end
section
variable {X:Cx}{pins:List (Addr×Obj)}{σ:St}{H:Hp}{s:Shared}
end
structure FunD (K:O0)(x qual:Str)(st:Stmt)(T f:Addr)(fd:FuncData):Prop where
 ex:∃ oc od kV doc pm an cdv ct osl,fd=Pk x qual (Bp st) (Bg st) (Am st) (.ref T) kV doc pm an cdv ct/\K.lookup f=some ⟨oc,od,.func (Pk x qual (Bp st) (Bg st) (Am st) (.ref T) kV doc pm an cdv ct),osl⟩/\Rp K cdv qual=true
 kp:Ph K (.ref f)=true
section
variable {P:Program}{w:World}{K:O0}{mg:Str->Option Value}{base:Heap}
theorem FunD.okx {x qual:Str}{st:Stmt}{T f:Addr}{fd:FuncData}{N ps:List Str}{k:Nat}{sp:Sp}(F:FunD K x qual st T f fd)(S:A2 N ps (Am st))(len:∀ vs H Q E,sp vs H Q E->vs.length=ps.length)
  (hbody:∀(cdv:Value)(A:Around)(outer:List Env)(s:Shared)(H:Hp)(vs:List V)(Q:VK)(E:XK),Room k (A.deeper (envOfC qual (Am st) s.heap.objs.size f cdv))->sp vs H Q E ->
   ∃ t,Dm (Cq (Be P w) P w K mg base N qual (Am st) f cdv A outer s H E) (Bg st) t/\t { nx:=fun _ H'=>Q .non H',rt:=Q } (start N vs) H):Ao P w K mg base (Be P w) (k+1) f fd ps sp:=by
 obtain ⟨oc,od,kV,doc,pm,an,cdv,ct,osl,rfl,lk,hcd⟩:=F.ex
 refine Zdb lk hcd S len fun A outer s H vs Q E hr hsp=>?_
 obtain ⟨t,h,q⟩:=hbody cdv A outer s H vs Q E hr hsp
 exact ⟨t,h.run,q⟩
theorem Oz {x qual:Str}{st:Stmt}{T f:Addr}{oc:Value}{od an:Option Addr}{osl:Array (Option Value)}{kV doc pm cdv ct:Value}(l:K.lookup f=some ⟨oc,od,.func (Pk x qual (Bp st) (Bg st) (Am st) (.ref T) kV doc pm an cdv ct),osl⟩)
  (c:Rp K cdv qual=true) (k:Ph K (.ref f)=true):FunD K x qual st T f (Pk x qual (Bp st) (Bg st) (Am st) (.ref T) kV doc pm an cdv ct):=⟨⟨oc,od,kV,doc,pm,an,cdv,ct,osl,rfl,l,c⟩,k⟩
end
structure QK (X:Cx)(kws:List Keyword)(t:TA):Prop where
 run:PK X kws t
structure B1 (CX:Bs)(P:Program)(w:World)(K:O0)(mg:Str->Option Value)(base:Heap)(k:Nat)(x:Str)(C:Addr)(ps ks:List Str)(gV:List V->List V->List V)(sp:Sp):Prop where
 ex:∃(f:Addr)(fd:FuncData)(g:List Value->List Value->List Value),Ao P w K mg base CX k f fd ps sp/\Mk K C f/\mg x=some (.ref C)/\Em K fd ps ks g gV
noncomputable def D5 (C:Addr)(gV:List V->List V->List V)(sp:Sp)(E:XK)(t tk:TA):TE:=fun σ H Q=>t σ H fun vs H1=>tk σ H1 fun zs H2=>∀ x dx,H2 x=none->H2 dx=none->dx≠x->sp (gV (.ref x::vs) zs) (upd (upd H2 dx (.own x)) x (.ins C dx [])) (fun v H3=>v=.non/\Q (.ref x) H3) E
section
variable {X:Cx}{k:Nat}{x:Str}{ps ks:List Str}{gV:List V->List V->List V}{sp:Sp}{E:XK}{C:Addr}{p pos kpos:Pos}{e:Expr}{es:List Expr}{kws:List Keyword}{te:TE}{t tk:TA}{CX:Bs}{nm:Option Str}{f:Addr}{fd:FuncData}{g:List Value->List Value->List Value}
theorem Ej:QK X [] E2:=⟨Zpw⟩
theorem Zct (ha:QE X e te)(hr:QK X kws t):QK X (⟨nm,e,kpos⟩::kws) (F9 te t):=⟨Zox ha.run hr.run⟩
theorem Zd4 {pins:List (Addr×Obj)}{σ:St}{H:Hp}{s:Shared}{Q:VK}{us ws:List Value}{vs zs:List V}{XE:Value->Shared->Prop}(M:Mk X.K C f)(F:Ao X.prog X.w X.K X.mg X.base CX k f fd ps sp)(hr:Room (k+1) X.A)(hb:Em X.K fd ps ks g gV)
  (I:Inv X pins σ H s) (r:Vals vs us) (rz:Vals zs ws)
  (hx:∀ H0 s0 ev s',Inv X pins σ H0 s0->CX X.stack H0 s0 E ev s'->XE ev s')
  (h:∀ x dx,H x=none->H dx=none->dx≠x->sp (gV (.ref x::vs) zs) (upd (upd H dx (.own x)) x (.ins C dx [])) (fun v H2=>v=.non/\Q (.ref x) H2) E) :
  wpAny (model X.prog X.w) X.A (call (.ref C) us (ks.zip ws)) (EP X pins σ Q) XE s:=by
 have hq:=h (s.heap.objs.size+1) s.heap.objs.size (I.hok.fresh (Sl _)) (I.hok.fresh (O3 _)) (Pg (Tj _))
 have I2:=Inv.made (C:=C) I
 have r1:Vals (V.ref (s.heap.objs.size+1)::vs) (Value.ref (s.heap.objs.size+1)::us):=.cons rfl r
 have r2:=hb.rel r1 rz
 have hl:(g (Value.ref (s.heap.objs.size+1)::us) ws).length=ps.length:=by
  rw [<- r2.length]
  exact F.len _ _ _ _ hq
 have hb':=hb.to _ (Value.ref (s.heap.objs.size+1)::us) ws I2.kIn hl
 refine Q6 (Zhz (f:=f) I.kIn M.makes M.init (beq_iff_eq.mp M.fn) (Rg (F.run _ X.stack _ _ ⟨Value.ref (s.heap.objs.size+1)::us,ks.zip ws⟩ (g (Value.ref (s.heap.objs.size+1)::us) ws) _ _ E (hr.make C us (ks.zip ws))
  (I2.env0.make C us (ks.zip ws)) hb' r2 hq) fun r s' hq'=>?_))
 cases r with
 | error e=>exact hx _ _ _ _ I2 hq'
 | ok fl =>
  cases fl with
  | ret u =>
   obtain ⟨v,H',I3,rv,ev,q3⟩:=I2.after hq'
   subst ev
   exact ⟨rv,⟨V.ref (s.heap.objs.size+1),H',I3,rfl,q3⟩⟩
  | next=>exact Pd hq'
  | brk=>exact Pd hq'
  | cont=>exact Pd hq'
theorem Gb (M:B1 CX X.prog X.w X.K X.mg X.base k x C ps ks gV sp)(hr:Room (k+1) X.A)(hx:Er CX X E)(ha:QA X (e::es) t)(hkw:QK X kws tk)(hg:Gl X x:=by rfl)(hdb:(x == ("__debug__" : Str))=false:=by decide)
  (hall:(backToKw pos (keywordEach kws X.env)).all (·.1.isSome)=true:=by rfl) (hks:(backToKw pos (keywordEach kws X.env)).filterMap (·.1)=ks:=by rfl)
  (he:starEach (e::es) X.env=(false,eval e X.env)::starEach es X.env:=by rfl)
  (hpl:((backTo pos (starEach (e::es) X.env)).any (·.1) || (backToKw pos (keywordEach kws X.env)).any (·.1.isNone))=false:=by rfl):QE X (.Call (.Name x p) (e::es) kws pos) (D5 C gV sp E t tk):=by
 obtain ⟨f,fd,g,F,mk,hm,hb⟩:=M.ex
 refine ⟨fun pins s σ H Q I h=>?_⟩
 refine Ra (El I hg hm ?_ hdb)
 refine PySem.W.callWith_KW (h₀:=X.base) I.ok.mod.kin mk.kp hall (Aj (ha.run pos pins s σ H _ I h) fun us s1 zq=>?_) hpl he
 obtain ⟨vs,H1,I1,r,q⟩:=zq
 refine Aj (hkw.run pos pins s1 σ H1 _ I1 q) fun ws s2 zq=>?_
 obtain ⟨zs,H2,I2,rz,q2⟩:=zq
 refine ⟨I2.kIn,?_⟩
 rw [hks]
 exact Zd4 mk F hr hb I2 r rz (fun H0 s0 ev s' I0 c=>hx pins σ H0 s0 ev s' I0 c) q2
theorem Zbb (M:B1 CX X.prog X.w X.K X.mg X.base k x C ps ks gV sp)(hr:Room (k+1) X.A)(hx:Er CX X E)(hkw:QK X kws tk)(hg:Gl X x:=by rfl)(hdb:(x == ("__debug__" : Str))=false:=by decide)
  (hall:(backToKw pos (keywordEach kws X.env)).all (·.1.isSome)=true:=by rfl) (hks:(backToKw pos (keywordEach kws X.env)).filterMap (·.1)=ks:=by rfl)
  (hpl:((backTo pos (starEach [] X.env)).any (·.1) || (backToKw pos (keywordEach kws X.env)).any (·.1.isNone))=false:=by rfl):QE X (.Call (.Name x p) [] kws pos) (D5 C gV sp E E2 tk):=by
 obtain ⟨f,fd,g,F,mk,hm,hb⟩:=M.ex
 refine ⟨fun pins s σ H Q I h=>?_⟩
 refine Ra (El I hg hm ?_ hdb)
 refine PySem.W.callWith_KW0 (h₀:=X.base) I.ok.mod.kin mk.kp hall ?_ hpl
 refine Aj (hkw.run pos pins s σ H _ I h) fun ws s2 zq=>?_
 obtain ⟨zs,H2,I2,rz,q2⟩:=zq
 refine ⟨I2.kIn,?_⟩
 rw [hks]
 exact Zd4 (vs:=[]) mk F hr hb I2 .nil rz (fun H0 s0 ev s' I0 c=>hx pins σ H0 s0 ev s' I0 c) q2
end
section
variable {X:Cx}{pins:List (Addr×Obj)}{σ:St}{H:Hp}{s:Shared}
end
section
variable {κ:Type}[DecidableEq κ]
end
section
variable {P:Program}{w:World}{H:Hp}{h:Heap}{a:Addr}
end
section
variable {X:Cx}{pins:List (Addr×Obj)}{σ:St}{H:Hp}{s:Shared}{a:Addr}{y v:V}{u r:Value}{o:Option V}{A:Around}{E:Value->Shared->Prop}
end
section
variable {X:Cx}{pins:List (Addr×Obj)}{σ:St}{H:Hp}{s:Shared}{a:Addr}{kvs:List (Bu×V)}{k:Bu}{u:Value}{A:Around}{E:Value->Shared->Prop}
end
section
variable {X:Cx}{o i e value:Expr}{pos pos' tpos:Pos}{td ty tv:TE}
end
section
variable {X:Cx}{pos:Pos}
end
section
variable {X:Cx}{pins:List (Addr×Obj)}{σ:St}{H:Hp}{s:Shared}{a:Addr}{y d:V}{u r:Value}{o:Option V}{A:Around}{E:Value->Shared->Prop}
end
section
variable {X:Cx}{o e f:Expr}{apos cpos:Pos}{td ty tx:TE}
end
section
variable {X:Cx}{pins:List (Addr×Obj)}{σ:St}{H:Hp}{s:Shared}{a:Addr}{kvs:List (Bu×V)}{A:Around}{E:Value->Shared->Prop}
end
section
variable {X:Cx}{pins:List (Addr×Obj)}{σ:St}{H:Hp}{s:Shared}{a:Addr}{y:V}{u:Value}{A:Around}{E:Value->Shared->Prop}
end
end L2
namespace PySem
namespace F
end F
end PySem
namespace L2
open PySem PySem.Spec PyProof.Rows
section
variable {X:Cx}{pins:List (Addr×Obj)}{σ:St}{H:Hp}{s:Shared}{a:Addr}{y v:V}{u r:Value}{A:Around}{E:Value->Shared->Prop}
end
section
variable {X:Cx}{k:Nat}{x m f:Str}{ps:List Str}{sp:Sp}{E:XK}{C:Addr}{p pos pos' tpos apos:Pos}{e o i value:Expr}{es:List Expr}{ta tv td ty:TE}{t:TA}{CX:Bs}{P:Program}{w:World}{mg:Str->Option Value}{base:Heap}{K:O0}
end
end L2
namespace L2
open PySem
section
variable {K:O0}{HB H H':Hp}{C:Addr}{kvs:List (List Bu×V)}{L:Ml}{S:MS}
end
section
variable {g:TG}{tt:TT}{te:TE}{σ0:St}{H1:Hp}{D:Addr}{Q:VK}
end
end L2
namespace L2
open PySem PySem.Spec PyProof.Rows
section
variable {X:Cx}
end
end L2
namespace L2
open PySem PySem.Spec PySem.Calls PySem.W PyProof.Rows
section
variable {X:Cx}
end
end L2
namespace L2
open PySem PySem.Spec PyProof.Rows
section
variable {X:Cx}{c n:Str}{np hpos pos:Pos}{body hbody:List Stmt}{b₀:Stmt}{tb:Im}{th:TS}{i:Nat}{C:Addr}
end
section
variable {X:Cx}{o i e f k v value:Expr}{pos pos' apos cpos:Pos}{td ty tx tk tv:TE}
end
section
variable {X:Cx}{c n:Str}{np hpos pos:Pos}{body hbody:List Stmt}{b₀:Stmt}{tb:Im}{th:TS}{i:Nat}{C:Addr}{rest:List ExceptHandler}{tr:THd}
end
section
variable {X:Cx}
end
section
variable {X:Cx}
end
section
variable {g:TG}{tt:TT}{te:TE}{σ0:St}{H1:Hp}{D:Addr}{Q:VK}
end
section
variable {X:Cx}
end
theorem s_isB {x:V}{b:Bool}{H:Hp}{Q:VK}(h:Q (.bl (decide (x=.bl b))) H):rIsB x (.bl b) H Q:=⟨b,rfl,h⟩
section
variable {X:Cx}
end
section
variable {prog:Program}{w:World}{A:Around}{E:Value->Shared->Prop}{s:Shared}
end
section
variable {X:Cx}{tg:Expr}
end
section
variable {X:Cx}{c n:Str}{np hpos pos:Pos}{body hbody:List Stmt}{b₀:Stmt}{tb:Im}{th:Addr->TS}{i:Nat}{C:Addr}
end
section
variable {P:Program}{w:World}{K:O0}{mg:Str->Option Value}{base:Heap}
end
section
variable {X:Cx}{k:Nat}{x:Str}{ps:List Str}{sp:Addr->Sp}{p pos:Pos}{e:Expr}{es:List Expr}{t:TA}
end
section
variable {X:Cx}{tg:Expr}
end
section
variable {X:Cx}
end
section
variable {X:Cx}
end
section
variable {X:Cx}{pins:List (Addr×Obj)}{σ:St}{H:Hp}{s:Shared}
end
section
variable {X:Cx}
open Classical in
end
section
variable {X:Cx}{pins:List (Addr×Obj)}{σ:St}{H:Hp}{s:Shared}
end
section
variable {X:Cx}
end
end L2
namespace PySem
open PyProof.Rows
section
variable {prog:Program}{w:World}{A:Around}{E:Value->Shared->Prop}{s:Shared}
end
end PySem
namespace L2
open PySem PySem.Spec PyProof.Rows
section
variable {X:Cx}{tg:Expr}
end
section
variable {X:Cx}
end
section
variable {X:Cx}{pins:List (Addr×Obj)}{σ:St}{H:Hp}{s:Shared}
end
section
variable {X:Cx}
end
section
variable {X:Cx}{c e:Expr}{tc:TE}{t:TX}{pos:Pos}
theorem Zim {x1}(hc:∀ XE,QE (X.to X.A X.calm XE) c tc)(he:QX X e t)(hs:starEach [c,e] X.env=(false,eval c X.env)::(false,eval e X.env)::[]:=by rfl)(hb:backTo pos (starEach [c,e] X.env)=(false,eval c X.env)::(false,eval e X.env)::[]:=by rfl) :
  QX X (.Tuple [c,e] x1 pos) (fun σ H Q E=>tc σ H fun x H1=>t σ H1 (fun y H2=>∀ p,H2 p=none->Q (.ref p) (upd H2 p (.tup [x,y]))) E):=by
 refine ⟨fun pins s σ H Q E I h=>?_⟩
 refine wpAny_Tuple_spliced ?_
 rw [hb]
 refine Uh (Aj ((hc (XP X pins σ E)).run pins s σ H _ (I.to rfl I.ok.hd) h) fun u s1 zq=>?_)
 obtain ⟨x,H1,I1,rx,q1⟩:=zq
 have I1:=I1.back I.ok
 refine Uh (Aj (he.run pins s1 σ H1 _ E I1 q1) fun v s2 zq=>?_)
 obtain ⟨y,H2,I2,ry,q2⟩:=zq
 refine Vp ⟨by show 2<=sizeLine;decide,?_⟩
 have hf:H2 s2.heap.objs.size=none:=I2.hok.fresh (O3 _)
 refine ⟨.ref s2.heap.objs.size,upd H2 s2.heap.objs.size (.tup [x,y]),I2.laid (t':=s2.toks) (fun b u e=>O6 _ e) (O3 _) ?_,rfl,q2 _ hf⟩
 exact ⟨by show 2<=sizeLine;decide,[u,v],.cons rx (.cons ry .nil),⟨_,Pe _ rfl,rfl,_,rfl⟩⟩
end
section
variable {X:Cx}
noncomputable def Zav (K:O0):R2:=fun x y H Q=>Ks K x y H Q\/∃(a b:Addr)(xs:List V),x=.ref a/\y=.ref b/\SqL K H a xs/\SqL K H b xs/\(∀ v∈xs,∃ r,v=.ref r)/\Q (.bl false) H
theorem Zl1 (hu:X.A.units+200 < cLine):OpR X (compareOp .NotEq) (fun x y H Q=>∃(a b:Addr)(xs:List V),x=.ref a/\y=.ref b/\SqL X.K H a xs/\SqL X.K H b xs/\(∀ v∈xs,∃ r,v=.ref r)/\Q (.bl false) H):=by
 intro pins s σ H x y v u Q I rx ry h
 obtain ⟨a,b,xs,rfl,rfl,ha,hb,hr,q⟩:=h
 cases rx
 cases ry
 obtain ⟨its,r1,p1,_⟩:=I.list ha
 obtain ⟨its2,r2,p2,_⟩:=I.list hb
 have l1:=r1.length
 have l2:=r2.length
 refine Zes (e:=fun _=>true) p1.isList p2.isList (by simp only [O5];omega) (by omega) (fun j h1 h2=>?_) ⟨.bl false,H,I,?_,q⟩
 ·simp only [O5] at h1 h2
  simp only [List.getElem_toArray]
  have ev:xs[j]?=some (xs[j]'(by omega)):=O7 _
  obtain ⟨r,er⟩:=hr _ (Pt ev)
  obtain ⟨w,hw,rw1⟩:=r1.get ev
  obtain ⟨w',hw',rw2⟩:=r2.get ev
  rw [O7 h1] at hw
  rw [O7 h2] at hw'
  rw [er] at rw1 rw2
  rw [Pu hw,Pu hw',show w=Value.ref r from rw1,show w'=Value.ref r from rw2]
  exact Um _
 ·have e:((Pj its.toArray.size).all fun _=>true)=true:=P3.mpr fun _ _=>rfl
  rw [e]
  rfl
theorem Zbx (K:O0)(hu:X.A.units+200 < cLine)(hK:X.K=K:=by rfl):OpR X (compareOp .NotEq) (Zav K):=by subst hK;exact (Zfw hu).or (Zl1 hu)
theorem Zec {K:O0}{a c:Addr}{H:Hp}{Q:VK}{n:Nat}{d:Dt}(hn:n<=190)(hx:IsD K H n (.ref a) d)(hy:IsD K H n (.ref c) d)(h:Q (.bl false) H):Zav K (.ref a) (.ref c) H Q:=.inl (Zoo hn hx hy h)
theorem Zmy {K:O0}{a b:Addr}{xs:List V}{H:Hp}{Q:VK}(ha:SqL K H a xs)(hb:SqL K H b xs)(hr:∀ v∈xs,∃ r,v=.ref r)(h:Q (.bl false) H):Zav K (.ref a) (.ref b) H Q:=.inr ⟨a,b,xs,rfl,rfl,ha,hb,hr,h⟩
end
end L2
namespace K10
open PySem L2
noncomputable def LET:Str := "abcdefghijklmnopqrstuvwxyz_"
noncomputable def DIG:Str := "0123456789"
noncomputable def W9:List Str:=["let", "in", "if", "then", "else", "fn", "rec", "yes", "no"]
noncomputable def W10:List Str:=["let", "if", "fn", "rec", "yes", "no", "?", "+", "-", "<"]
noncomputable def S4:List Str:=["?", "+", "-", "<"]
noncomputable def BR:Str := "()"
noncomputable def C1 (t:Str)(ws:List Str):Bool:=ws.any fun a=>a == t
noncomputable def B6 (t s:Str):Bool:=t.cps.toList.all fun c=>decide (c∈s.cps.toList)
noncomputable def hd0 (t:Str):Bool:=t.cps.toList.head? == some 48
noncomputable def Ea (c:Nat):Bool:=decide (33<=c) && decide (c<=126) && !decide (c∈BR.cps.toList)
noncomputable def A7 (t:Str):Bool:=decide (1<=t.length) && decide (t.length<=8) && B6 t LET && !C1 t W9
noncomputable def Lq (t:Str):Bool:=decide (1<=t.length) && decide (t.length<=18) && B6 t DIG && (t == ("0" : Str) || !hd0 t)
noncomputable def Fo (t:Str):Bool:=decide (1<=t.length) && decide (t.length<=60) && t.cps.toList.all Ea && !A7 t && !C1 t W10 && !Lq t
theorem Zfp {t:Str}{ws:List Str}(h:C1 t ws=true):t∈ws:=by
 obtain ⟨a,ha,e⟩:=Vy.mp h
 have e:a=t:=by simpa using e
 rw [<- e];exact ha
theorem Lb {t:Str}{ws:List Str}(h:¬ t∈ws):C1 t ws=false:=by
 cases e:C1 t ws
 ·rfl
 ·exact absurd (Zfp e) h
theorem Za7 {t:Str}{ws:List Str}(h:t∈ws):C1 t ws=true:=Vy.mpr ⟨t,h,by simp⟩
end K10
namespace K19
open PySem L2
inductive Sub:Tr->List Nat->Prop where
 | nil (t:Tr):Sub t []
 | cons {w:Str} {n:Dt} {ts:List Tr} {j:Nat} {t:Tr} {r:List Nat} (h:ts[j]?=some t) (s:Sub t r):Sub (.mk w n ts) (j::r)
noncomputable def path:Tr->List Nat->List Tr
 | t,[]=>[t]
 | .mk w n ps,k::r=>.mk w n ps::(match ps[k]? with | some u=>path u r | none=>[])
theorem M3 {w:Str}{n:Dt}{ts:List Tr}{j:Nat}{t:Tr}{r:List Nat}(h:ts[j]?=some t):path (.mk w n ts) (j::r)=.mk w n ts::path t r:=by rw [path,h]
theorem Js {t:Tr}{pl:List Nat}(s:Sub t pl):(path t pl).length=pl.length+1:=by
 induction s with
 | nil t=>cases t;rfl
 | cons h _ ih=>rw [M3 h,Pr,ih,Pr]
theorem Oi (t:Tr)(pl:List Nat):(path t pl)[0]?=some t:=by
 cases t with
 | mk w n ps=>cases pl <;> rfl
theorem Np {t:Tr}{pl:List Nat}(s:Sub t pl):∀(i:Nat)(k:Nat),pl[i]?=some k->∃ w n ps u,(path t pl)[i]?=some (.mk w n ps)/\ps[k]?=some u/\(path t pl)[i+1]?=some u:=by
 induction s with
 | nil t=>intro i k h;simp at h
 | @cons w n ts j u r h s ih =>
  intro i k hk
  rw [M3 h]
  cases i with
  | zero =>
   have:j=k:=by simpa using hk
   subst this
   exact ⟨w,n,ts,u,rfl,h,by simpa using Oi u r⟩
  | succ i =>
   obtain ⟨w',n',ps,u',a,b,c⟩:=ih i k (by simpa using hk)
   exact ⟨w',n',ps,u',by simpa using a,b,by simpa using c⟩
noncomputable def B5:Tr->List Nat->Tr->Tr
 | _,[],f=>f
 | .mk w n ps,k::r,f=>match ps[k]? with
  | some u=>.mk w n (ps.set k (B5 u r f))
  | none=>.mk w n ps
theorem K7 {w:Str}{n:Dt}{ts:List Tr}{j:Nat}{t f:Tr}{r:List Nat}(h:ts[j]?=some t):B5 (.mk w n ts) (j::r) f=.mk w n (ts.set j (B5 t r f)):=by rw [B5,h]
theorem Hw (t f:Tr):B5 t [] f=f:=by cases t;rfl
theorem Zsy {t f:Tr}{pl:List Nat}(s:Sub t pl):∀(m k:Nat)(w:Str)(n:Dt)(ps:List Tr)(u:Tr),pl[m]?=some k->(path t pl)[m]?=some (.mk w n ps)->(path t pl)[m+1]?=some u->B5 (.mk w n ps) (pl.drop m) f=.mk w n (ps.set k (B5 u (pl.drop (m+1)) f)):=by
 intro m k w n ps u hk hp hu
 obtain ⟨w',n',ps',u',a,b,c⟩:=Np s m k hk
 rw [hp] at a
 cases a
 rw [hu] at c
 cases c
 have hl:=(Pl.mp hk)
 obtain ⟨g,e⟩:=hl
 rw [Ri g,e,K7 b]
end K19
local macro_rules | `(tactic| walk_at "sc")=>`(tactic| exact ⟨rfl,rfl,rfl,by decide +kernel,rfl,by decide +kernel,by decide +kernel⟩)
namespace L2
open PySem PySem.Spec PyProof.Rows
theorem Cu:0<=sizeLine:=by decide
theorem Ck:1<=sizeLine:=by decide
theorem sz11:11<=sizeLine:=by decide
theorem sz13:13<=sizeLine:=by decide
theorem Bq:2<=sizeLine:=by decide
theorem Bk:3<=sizeLine:=by decide
theorem sz4:4<=sizeLine:=by decide
theorem sz5:5<=sizeLine:=by decide
theorem sz9:9<=sizeLine:=by decide
theorem RoomN.m {j k:Nat}{A:Around}(r:RoomN k A)(h:j<=k:=by decide):RoomN j A:=r.mono h
theorem Room.m {j k:Nat}{A:Around}(r:Room k A)(h:j<=k:=by decide):Room j A:=r.mono h
section
variable {X:Cx}{a b:Expr}{ta tb:TE}{pos:Pos}{K:O0}
theorem A3 (i:Nat){ps:List Str}{sc:Scope}{x:Str}{e:Expr}{te:TE}{pos':Pos}(S:A2 X.N ps sc)(he:QE X e te)(hi:X.N[i]?=some x:=by rfl)(hx:Ex X.env.scope x:=by exact Or.inl rfl)(hs:swapsWith e (some (.Name x pos')) pos.line X.env=pure false:=by rfl)(hf:X.fn x=true\/X.env.scope.names.lookup x=some .local:=by first | exact .inl rfl | exact .inr rfl | assumption):QS X (.Assign [.Name x pos'] e pos) (F3 te (Ga i)):=Zht S.nd hi hx he hs hf
theorem Ai (K:O0)(ha:QE X a ta)(hb:QE X b tb)(hs:Zc1 b:=by exact fun _ _=>rfl)(hK:X.K=K:=by rfl):QE X (.Subscript a b pos) (Dl (Gx K) ta tb):=Ms (k_ix K hK) ha hb hs
end
end L2
namespace K26
theorem lz1 {α:Type}{vs:List α}(h:vs.length=1):∃ u,vs=[u]:=by
 cases vs with
 | nil=>cases h
 | cons u r=>cases Wa (Nat.succ.inj h);exact ⟨u,rfl⟩
theorem lz2 {α:Type}{vs:List α}(h:vs.length=2):∃ u v,vs=[u,v]:=by
 cases vs with
 | nil=>cases h
 | cons u r=>obtain ⟨v,rfl⟩:=lz1 (Nat.succ.inj h);exact ⟨u,v,rfl⟩
end K26
namespace K26
open PySem L2
noncomputable def top (i:Nat):Stmt:=Sm.main.body.getD i (.Pass ⟨0,0,0,0⟩)
noncomputable abbrev Kt:Stmt:=top 13
noncomputable abbrev J5:Stmt:=top 14
noncomputable abbrev Kf:Stmt:=top 15
noncomputable abbrev Mn:Stmt:=top 16
noncomputable abbrev Ly:Stmt:=top 17
noncomputable abbrev Ki:Stmt:=top 18
noncomputable abbrev K4:Stmt:=top 19
noncomputable abbrev Kg:Stmt:=top 20
noncomputable abbrev Kl:Stmt:=top 21
noncomputable abbrev Ls:Stmt:=top 22
noncomputable abbrev Jy:Stmt:=top 23
noncomputable abbrev J6:Stmt:=top 24
noncomputable abbrev Km:Stmt:=top 26
noncomputable abbrev Jc:Stmt:=top 27
noncomputable abbrev Il:Stmt:=top 28
noncomputable abbrev K9:Stmt:=top 29
noncomputable abbrev Jv:Stmt:=top 30
noncomputable abbrev J0:Stmt:=top 32
noncomputable abbrev Li:Stmt:=top 33
noncomputable abbrev A8 (i j:Nat):Stmt:=match top i with | .ClassDef _ _ _ b _ _ _ _ _ _ _=>b.getD j (.Pass ⟨0,0,0,0⟩) | s=>s
noncomputable abbrev J4:Stmt:=A8 34 0
noncomputable abbrev Cd:Stmt:=A8 35 0
noncomputable abbrev K1:Stmt:=A8 35 1
noncomputable abbrev Md:Stmt:=A8 36 0
noncomputable abbrev Ju:Stmt:=A8 36 1
noncomputable abbrev J2:Stmt:=A8 37 0
noncomputable abbrev Cj:Stmt:=A8 38 0
noncomputable abbrev Ld:Stmt:=A8 38 1
noncomputable abbrev Cg:Stmt:=A8 39 0
noncomputable abbrev K2:Stmt:=A8 39 1
noncomputable abbrev Kk:Stmt:=A8 40 0
noncomputable abbrev J3:Stmt:=A8 40 1
noncomputable abbrev Lk:Stmt:=A8 41 0
noncomputable abbrev K6:Stmt:=A8 41 1
noncomputable abbrev Ln:Stmt:=top 43
noncomputable abbrev Mo:Stmt:=top 45
noncomputable abbrev Kh:Stmt:=top 46
noncomputable abbrev Lh:Stmt:=top 47
noncomputable abbrev Jt:Stmt:=top 48
noncomputable abbrev K5:Stmt:=top 49
noncomputable abbrev Lo:Stmt:=top 50
noncomputable abbrev L8:Stmt:=top 51
noncomputable abbrev Ka:Stmt:=top 52
noncomputable abbrev Jz:Stmt:=top 53
noncomputable abbrev Kp:Stmt:=top 54
noncomputable abbrev K0:Stmt:=top 55
noncomputable abbrev La:Stmt:=top 56
noncomputable abbrev Me:Stmt:=top 57
noncomputable abbrev Kz:Stmt:=top 58
noncomputable abbrev Lc:Stmt:=top 59
noncomputable abbrev Kd:Stmt:=top 60
noncomputable abbrev J8:Stmt:=top 61
noncomputable abbrev Ke:Stmt:=top 62
noncomputable abbrev Kv:Stmt:=top 63
noncomputable abbrev Ll:Stmt:=top 64
noncomputable abbrev Lm:Stmt:=top 65
structure Txt (K:O0)(mg:Str->Option Value):Prop where
 isinstance:mg "isinstance" = none
 int:mg "int" = none
 bool:mg "bool" = none
 str:mg "str" = none
 len:mg "len" = none
 all:mg "all" = none
 tuple:mg "tuple" = none
 reversed:mg "reversed" = none
 list:mg "list" = none
 zip:mg "zip" = none
 range:mg "range" = none
 enumerate:mg "enumerate" = none
 ValueError:mg "ValueError" = none
structure Script (K:O0)(H:Hp)(a:Addr):Prop where
 ex:∃ ns:List Int,SqL K H a (ns.map V.int)/\ns.length<=63
theorem Script.same {K:O0}{H H':Hp}{a:Addr}(S:Script K H a)(h:Same H H'):Script K H' a:=by
 obtain ⟨ns,q,l⟩:=S.ex
 exact ⟨ns,h.seq q,l⟩
end K26
namespace K26
open PySem L2 K10 K19
inductive TyN (K:O0)(H:Hp):V->String->Prop where
 | non:TyN K H .non "NoneType"
 | bl (x:Bool):TyN K H (.bl x) "bool"
 | int (i:Int):TyN K H (.int i) "int"
 | str (x:Str) (h:x.length<=1000):TyN K H (.str x) "str"
 | tup {a:Addr} {xs:List V} (q:SqT K H a xs):TyN K H (.ref a) "tuple"
 | lst {a:Addr} {xs:List V} (q:SqL K H a xs):TyN K H (.ref a) "list"
 | dK {a:Addr} {kvs:List (Bu×V)} (e:H a=some (.dK kvs)):TyN K H (.ref a) "dict"
noncomputable def C9 (t T:String):Bool:=t == T || (t == "bool" && T == "int")
theorem TyN.q {K:O0}{H:Hp}{v:V}{t:String}(h:TyN K H v t):TyQ K H v (.type t):=by
 cases h with
 | non=>exact .ty .non
 | bl x=>exact .ty (.bl x)
 | int x=>exact .ty (.int x)
 | str x=>exact .ty (.str x)
 | tup q=>exact .tup q
 | lst q=>exact .lst q
 | dK e=>exact .ty (.dK e)
theorem Zsz {K:O0}{t T:String}(ht:t∈["NoneType", "bool", "int", "str", "tuple", "list", "dict"])(hT:T∈["str", "int", "bool", "tuple"]):Po K (.type t) (.type T)=some (C9 t T):=by
 have one:∀(t T:String),t≠T->(V3 T && (match fastBuiltinMro t with | some l=>l.contains (.type T) == C9 t T | none=>false))=true->Po K (.type t) (.type T)=some (C9 t T):=by
  intro t T hne h
  rw [Qk] at h
  obtain ⟨h1,h2⟩:=h
  split at h2
  ·rename_i l hl
   exact Zm0 h1 hne hl (by simpa using h2)
  ·cases h2
 simp only [Pb,Pp,or_false] at ht hT
 rcases hT with rfl | rfl | rfl | rfl <;> rcases ht with rfl | rfl | rfl | rfl | rfl | rfl | rfl <;> first | (exact Zdj) | (exact one _ _ (by decide) (by decide +kernel))
theorem TyN.mem {K:O0}{H:Hp}{v:V}{t:String}(h:TyN K H v t):t∈["NoneType", "bool", "int", "str", "tuple", "list", "dict"]:=by
 cases h <;> simp
theorem Ia {K:O0}{H:Hp}{Q:VK}{v:V}{t T:String}(h:TyN K H v t)(hT:T∈["str", "int", "bool", "tuple"])(q:Q (.bl (C9 t T)) H):J7 K T [v,.ty T] H Q :=
 ⟨v,.type t,_,rfl,h.q,Zsz h.mem hT,q⟩
theorem TyN.same {K:O0}{H H':Hp}{v:V}{t:String}(h:TyN K H v t)(e:Same H H'):TyN K H' v t:=by
 cases h with
 | non=>exact .non
 | bl x=>exact .bl x
 | int x=>exact .int x
 | str x h=>exact .str x h
 | tup q=>exact .tup (e.t.tup q)
 | lst q=>exact .lst (e.seq q)
 | dK h=>exact .dK (e _ _ h)
noncomputable def Has (K:O0)(H:Hp)(v:V):Prop:=∃ t,TyN K H v t
theorem Has.same {K:O0}{H H':Hp}{v:V}(h:Has K H v)(e:Same H H'):Has K H' v:=by
 obtain ⟨t,h⟩:=h
 exact ⟨t,h.same e⟩
noncomputable def Jb:List (Str×V):=[("gap",.int 0),("odd",.int 0),("num",.int 0),("truth",.int 0),("name",.int 0),("plus",.int 2),("minus",.int 2),("less",.int 2),("call",.int 2),("if",.int 3),("fn",.int 1),("rec",.int 1),("let",.int 2)]
noncomputable def PN:List (Str×Nat):=[("gap",0),("odd",0),("num",0),("truth",0),("name",0),("plus",2),("minus",2),("less",2),("call",2),("if",3),("fn",1),("rec",1),("let",2)]
noncomputable def Bo (wd:Str):Option Nat:=PN.lookup wd
theorem Zba (wd:Str):Hc Jb wd=(Bo wd).map (fun n:Nat=>V.int (n:Int)):=by
 have gen:∀ ps:List (Str×Nat),Hc (ps.map fun p=>(p.1,V.int (p.2:Int))) wd=(ps.lookup wd).map (fun n:Nat=>V.int (n:Int)):=by
  intro ps
  induction ps with
  | nil=>rfl
  | cons p r ih =>
   unfold Hc at ih ⊢
   rw [R4,V4,Qu]
   by_cases z:p.1=wd
   ·have e2:(wd == p.1)=true:=by rw [z];simp
    simp only [z,decide_true,Option.map_some]
    simp
   ·have e2:(wd == p.1)=false:=by simpa using fun h=>z h.symm
    simp only [z,decide_false,e2]
    exact ih
 exact gen PN
noncomputable def Hb:V->Bool
 | .int _=>true
 | _=>false
noncomputable def Ec:V->Bool
 | .str s=>A7 s
 | _=>false
noncomputable def Ko:V->Bool
 | .str s=>Fo s
 | _=>false
noncomputable def N9:V->Bool
 | .str s=>(Bo s).isSome
 | _=>false
structure Gs (P:Program)(w:World)(K:O0)(mg:Str->Option Value):Prop where
 ns:Eo mg "NAME_SIGNS" (.str LET)
 fg:Eo mg "FIGURES" (.str DIG)
 w9:∃ a,Eo mg "WORDS_NO_NAMES" (.ref a)/\∀ H,SqT K H a (W9.map V.str)
 w10:∃ a,Eo mg "WORDS_NOT_ODD" (.ref a)/\∀ H,SqT K H a (W10.map V.str)
 pw:∃ a,Eo mg "PARTS_OF_WORDS" (.ref a)/\DkK P w K a Jb
 gp:∃ a e,Eo mg "GAP" (.ref a)/\(∀ H,SqT K H a [.str "gap",.non,.ref e])/\∀ H,SqT K H e []
end K26
local macro_rules | `(tactic| walk_at "r1")=>`(tactic| (first | (with_reducible first | refine L2.s_seq ?_ | refine L2.s_asg ?_ | refine L2.s_ret ?_ | refine L2.s_ifS ?_ | refine L2.s_ifE ?_ | refine L2.s_dget ?_ | refine L2.s_din ?_ | refine L2.s_dput ?_ | refine L2.s_dget2 ?_ | refine L2.s_izipm ?_ | refine L2.s_dnotin ?_ | refine L2.s_listzt ?_ | refine L2.s_listr ?_ | refine L2.s_dget1 ?_ | refine L2.s_isB ?_ | refine L2.s_par ?_ | refine L2.s_test ?_ | refine L2.s_op ?_ | refine L2.s_c ?_ | refine L2.s_cons ?_ | refine L2.s_nil ?_ | refine L2.s_call ?_ | refine L2.s_cb ?_ | refine L2.s_gname ?_ | refine L2.s_ex ?_ | refine L2.s_exi ?_ | refine L2.s_drop ?_ | refine L2.s_next ?_ | refine L2.s_un ?_ | refine L2.s_tB ?_ | refine L2.s_not ?_ | refine L2.s_and ?_ | refine L2.s_or ?_ | refine L2.s_andV ?_ | refine L2.s_orV ?_ | refine L2.s_notV ?_ | refine L2.s_vals ?_ | refine L2.s_tup ?_ | refine L2.s_lst ?_ | refine L2.s_bm ?_ | refine L2.s_bm0 ?_ | refine L2.s_sl ?_ | refine L2.s_po ?_ | refine L2.s_po0 ?_ | refine L2.s_gcons ?_ | refine L2.s_gnil ?_ | refine L2.s_gsub ?_ | refine L2.s_isN ?_ | refine L2.s_notN ?_ | refine L2.s_rI0 ?_ | refine L2.s_rU ?_ | refine L2.s_add_int ?_ | refine L2.s_lt ?_ | refine L2.s_le ?_ | refine L2.iteT ?_ | refine L2.iteF ?_ | refine L2.s_comp ?_ | refine L2.s_for ?_ | refine L2.s_rng1 ?_ | refine L2.s_rng3 ?_ | refine L2.s_exr ?_ | refine L2.s_iany ?_ | refine L2.s_irev ?_ | refine L2.s_ienum ?_ | refine L2.s_listen ?_ | refine L2.s_listrev ?_ | refine L2.s_izip ?_ | refine L2.s_ienumT ?_ | refine L2.s_listzp ?_ | refine L2.s_ipI ?_ | refine L2.s_yes ?_ | refine L2.s_turn ?_ | refine L2.s_int_b ?_ | refine L2.s_intb ?_ | refine L2.s_truth ?_ | refine L2.s_chain ?_ | refine L2.s_nt ?_ | refine L2.s_nf ?_) | ((with_reducible refine' L2.s_var ?e ?_); (case e=>exact rfl)) | ((with_reducible refine' L2.s_aug ?e ?_); (case e=>exact rfl)) | ((with_reducible refine' L2.s_eq ?e ?_); (case e=>exact rfl)) | ((with_reducible refine' L2.s_ne ?e ?_); (case e=>exact rfl)) | ((with_reducible refine' L2.s_neb ?e ?_); (case e=>exact rfl)) | ((with_reducible refine' L2.s_eqy ?e ?_); (case e=>exact rfl)) | ((with_reducible refine' L2.s_eqk ?e ?_); (case e=>exact rfl)) | ((with_reducible refine' L2.s_rI ?c ?_); (case c=>first | decide | exact ⟨by decide,by decide⟩ | exact ⟨by decide,by decide,by decide⟩)) | ((with_reducible refine' L2.s_mul_r ?a ?b ?_); (case a=>decide); (case b=>decide)) | ((with_reducible refine' L2.s_mul_l ?a ?b ?_); (case a=>decide); (case b=>decide)) | ((with_reducible refine' L2.s_exr3 ?e ?_); (case e=>decide))))
local macro_rules | `(tactic| walk_at "r")=>`(tactic| (repeat walk_at "r1"))
local macro_rules | `(tactic| walk_at "q")=>`(tactic| (repeat (first | (with_reducible first | refine L2.s_gcons ?_ | refine L2.s_gname ?_ | refine L2.s_gnil ?_ | refine L2.s_seq ?_ | refine L2.s_asg ?_ | refine L2.s_c ?_ | refine L2.s_lst ?_ | refine L2.s_tup ?_ | refine L2.s_cons ?_ | refine L2.s_nil ?_) | ((with_reducible refine' L2.s_var ?e ?_); (case e=>exact rfl)))))
namespace K26
open PySem L2 K10 K19
section
variable {P:Program}{w:World}{K:O0}{mg:Str->Option Value}{base:Heap}
noncomputable def Zbn (K:O0):Sp:=fun vs H Q _=>∃ v,vs=[v]/\Has K H v/\Q (.bl (Hb v)) H
theorem Zlz:A2 ["thing"] ["thing"] (Am Kt):=by walk_at "sc"
theorem Zk4 {f:Addr}{fd:FuncData}(F:Fun K "is_whole" "is_whole" Kt f fd)(T:Txt K mg):Ao P w K mg base Aq 1 f fd ["thing"] (Zbn K):=by
 refine F.okq Zlz (fun vs H Q E h=>?_) (fun cdv A outer s H vs Q E hr h=>?_)
 ·obtain ⟨v,rfl,_⟩:=h
  rfl
 ·obtain ⟨v,rfl,⟨t,ht⟩,q⟩:=h
  refine ⟨_,Af (Ak (Dp (Bd (Fx K "int") (by rfl) T.isinstance (by decide +kernel) (Aa (qv 0) (Aa (Eu (v:=.ty "int") (by rfl) T.int (by decide +kernel) rfl) Ac))) (D6 (Zag (Bd (Fx K "bool") (by rfl) T.isinstance (by decide +kernel) (Aa (qv 0) (Aa (Eu (v:=.ty "bool") (by rfl) T.bool (by decide +kernel) rfl) Ac))))))),?_⟩
  walk_at "r"
  refine Ia ht (by simp) ?_
  have e:Hb v=(C9 t "int" && !C9 t "bool"):=by cases ht <;> rfl
  rw [e] at q
  refine ⟨_,rfl,?_⟩
  cases h1:C9 t "int" with
  | false =>
   rw [h1] at q
   exact q
  | true =>
   rw [h1] at q
   walk_at "r"
   refine Ia ht (by simp) ?_
   walk_at "r"
   exact q
theorem Ct:100000<=sizeLine:=by decide
theorem Zbk {α:Type}{l:List α}{i:Nat}{c:α}(h:l[i]?=some c):l.take (i+1)=l.take i++[c]:=by
 rw [List.take_succ,h]
 rfl
theorem Zde {z:Str}{i:Nat}{c:Nat}(h:z.cps.toList[i]?=some c):i < z.length:=by
 have:=(Pl.mp h).1
 simpa [Str.length] using this
theorem On {z:Str}{p:Nat->Bool}:(((z.cps.toList.take z.cps.size).map p).all id)=z.cps.toList.all p:=by
 rw [R8 (by simp),List.all_map]
 rfl
noncomputable def Iu (K:O0):Sp:=fun vs H Q _=>∃ v,vs=[v]/\Has K H v/\∀ H',Same H H'->Q (.bl (Ec v)) H'
theorem Znw:(["sign"]:List Str).Nodup:=by decide +kernel
theorem Zsh:A2 ["thing"] ["thing"] (Am J5):=by walk_at "sc"
theorem Ix {t:Str}{ws:List Str}:Cr (.str t) (ws.map V.str)=C1 t ws:=by
 unfold Cr C1
 rw [List.any_map]
 rfl
theorem Ze2 {ws:List Str}:(ws.map V.str).all Cy=true:=by
 rw [List.all_map]
 exact P3.mpr fun _ _=>rfl
theorem Zrm {f:Addr}{fd:FuncData}(F:Fun K "is_name" "is_name" J5 f fd)(T:Txt K mg)(G:Gs P w K mg):Ao P w K mg base Aq 1 f fd ["thing"] (Iu K):=by
 refine F.okq Zsh (fun vs H Q E h=>?_) (fun cdv A outer s H vs Q E hr h=>?_)
 ·obtain ⟨v,rfl,_⟩:=h
  rfl
 ·obtain ⟨v,rfl,⟨t,ht⟩,q⟩:=h
  obtain ⟨a9,G_WORDS_NO_NAMES,h9⟩:=G.w9
  have G_NAME_SIGNS:=G.ns
  refine ⟨_,Ag (Ar (QW.qt (Ek (Cf (Cb (Bd (Fx K "str") (by rfl) T.isinstance (by decide +kernel) (Aa (qv 0) (Aa (Eu (v:=.ty "str") (by rfl) T.str (by decide +kernel) rfl) Ac))))) (Es (Cf (Op Ey Ey Ab (Bd (Cp K) (by rfl) T.len (by decide +kernel) (Aa (qv 0) Ac)) Ab))))) (Af (Ak Dg)) Av)
   (Af (Ak (Dp (Bd (Za2 K rfl) (by rfl) T.all (by decide +kernel) (Aa (Mc (N:=["sign"]) (σ0:=Df 1 []) rfl (E5 rfl (by decide +kernel) (by decide +kernel) (by decide +kernel)) (Fw K (qv 0)) (Fe rfl (by rfl)) (fun _ _ _ _=>A9 (i:=0) Znw rfl (Or.inl rfl)) (fun _ _ _ _=>Ff) (fun _ _ _ _=>Co (Eh K) (qv 0) (Fy G_NAME_SIGNS) (by rfl))) Ac)) (D6 (Co (Zbt K) (qv 0) (Fy G_WORDS_NO_NAMES) (by rfl)))))),?_⟩
  have bg:=Ct
  walk_at "r"
  refine Ia ht (by simp) ?_
  walk_at "r"
  cases h1:C9 t "str" with
  | false =>
   have e:Ec v=false:=by cases ht <;> first | rfl | (cases h1)
   walk_at "r"
   rw [e] at q
   exact q H (Same.refl H)
  | true =>
   obtain ⟨z,rfl,hz⟩:∃ z,v=.str z/\z.length<=1000:=by
    cases ht <;> first | exact ⟨_,rfl,by assumption⟩ | (cases h1)
   walk_at "r"
   refine Nl (by omega) ?_
   walk_at "r"
   have e:Ec (.str z)=(decide (1<=z.length) && decide (z.length<=8) && B6 z LET && !C1 z W9):=rfl
   rw [e] at q
   refine Aw (fun h=>?_) (fun h=>?_)
   ·have l1:1<=z.length:=by have:=of_decide_eq_true h;omega
    walk_at "r"
    refine Aw (fun h'=>?_) (fun h'=>?_)
    ·have l2:¬ z.length<=8:=fun x=>by simp at h';omega
     walk_at "r"
     have:=q H (Same.refl H)
     rw [decide_eq_false l2,Ts,P0,P0] at this
     exact this
    ·have l2:z.length<=8:=by simp at h';omega
     walk_at "r"
     refine .inr (.inr ⟨z,rfl,fun D hD=>?_⟩)
     refine Zbv (z:=z) (Pv:=fun i ys σ' H'=>∃ sv,σ'=[sv]/\ys=((z.cps.toList.take i).map fun c=>decide (c∈LET.cps.toList)).map V.bl/\Same H H') ⟨none,rfl,rfl,Same.upd hD⟩ ?_ ?_
     ·rintro i c ys σ' H' hc hys ⟨sv,rfl,rfl,hH⟩
      walk_at "r"
      have hi:=Zde hc
      refine .inr ⟨c,LET,rfl,rfl,?_⟩
      refine ⟨_,hys,by rw [Pq,Pq,Qj];omega,_,Ad,_,rfl,?_,hH.over hD⟩
      rw [Zbk hc,Q2,Q2]
      rfl
     ·rintro ys σ' H' hys ⟨sv,rfl,rfl,hH⟩
      walk_at "r"
      refine ⟨D,_,rfl,SqL.of hys,?_⟩
      rw [On]
      have en:B6 z LET=(z.cps.toList.all fun c=>decide (c∈LET.cps.toList)):=rfl
      rw [<- en]
      have q':=q H' hH
      rw [decide_eq_true l1,decide_eq_true l2,Qa,Qa] at q'
      walk_at "r"
      refine Aw (fun hA=>?_) (fun hA=>?_)
      ·walk_at "r"
       refine Eg (.inr (h9 _)) rfl Ze2 ?_
       rw [hA,Qa] at q'
       rw [if_pos rfl,Ix]
       exact q'
      ·have hA:B6 z LET=false:=by simpa using hA
       rw [hA,P0] at q'
       exact q'
   ·have l1:¬ 1<=z.length:=fun x=>h (decide_eq_true (by omega))
    walk_at "r"
    have:=q H (Same.refl H)
    rw [decide_eq_false l1,P0,P0,P0] at this
    exact this
theorem Zsi (t:Str):t.cps.toList.length=t.length:=by simp [Str.length]
theorem Zpl {t:Str}{c:Nat}(h:Bl t.cps.toList 0=some c):t.cps.toList.head?=some c:=by
 obtain ⟨j,h1,h2,h3,_⟩:=M0 h
 have:j=0:=by
  unfold Bl Dq at h
  rw [Uz (by decide) (by omega)] at h1
  have:=Pu h1
  omega
 subst this
 rw [List.head?_eq_getElem?]
 exact h2
theorem Zna {t:Str}(h:1<=t.length):∃ c,Bl t.cps.toList 0=some c:=by
 obtain ⟨c,h1,_⟩:=Dy (xs:=t.cps.toList) (i:=0) (by decide) (by rw [Zsi];omega)
 exact ⟨c,h1⟩
theorem Znf (c:Nat):decide (V.str ⟨#[c]⟩=V.str ("0" : Str))=(some c == some 48):=by
 have e:("0" : Str)=⟨#[48]⟩:=by decide +kernel
 rw [e,R0]
 simp
theorem Zki (t u:Str):decide (V.str t=V.str u)=(t == u):=by
 rw [R0]
 simp
noncomputable def Zhb:Sp:=fun vs H Q _=>∃ z:Str,vs=[.str z]/\z.length<=1000/\∀ H',Same H H'->Q (.bl (Lq z)) H'
theorem Zjj:(["sign"]:List Str).Nodup:=by decide +kernel
theorem Zp8:A2 ["text"] ["text"] (Am Kf):=by walk_at "sc"
theorem Zkd {f:Addr}{fd:FuncData}(F:Fun K "is_figures" "is_figures" Kf f fd)(T:Txt K mg)(G:Gs P w K mg):Ao P w K mg base Aq 1 f fd ["text"] Zhb:=by
 refine F.okq Zp8 (fun vs H Q E h=>?_) (fun cdv A outer s H vs Q E hr h=>?_)
 ·obtain ⟨v,rfl,_⟩:=h
  rfl
 ·obtain ⟨z,rfl,hz,q⟩:=h
  have G_FIGURES:=G.fg
  refine ⟨_,Ag (Ar (QW.qt (Ek (Cf (Op Ey Ey Ab (Bd (Cp K) (by rfl) T.len (by decide +kernel) (Aa (qv 0) Ac)) Ab)) (Es (Cf (Cb (Bd (Za2 K rfl) (by rfl) T.all (by decide +kernel) (Aa (Mc (N:=["sign"]) (σ0:=Df 1 []) rfl (E5 rfl (by decide +kernel) (by decide +kernel) (by decide +kernel)) (Fw K (qv 0)) (Fe rfl (by rfl)) (fun _ _ _ _=>A9 (i:=0) Zjj rfl (Or.inl rfl)) (fun _ _ _ _=>Ff) (fun _ _ _ _=>Co (Eh K) (qv 0) (Fy G_FIGURES) (by rfl))) Ac))))))) (Af (Ak Dg)) Av)
   (Af (Ak (Zgz (Co (A5 K hr.u200) (qv 0) An (Ax _)) (D6 (Co (Ky K hr.u200) (Ai K (qv 0) Ab) An (Ax _)))))),?_⟩
  have bg:=Ct
  have e:Lq z=(decide (1<=z.length) && decide (z.length<=18) && B6 z DIG && (z == ("0" : Str) || !hd0 z)):=rfl
  rw [e] at q
  walk_at "r"
  refine Nl (by omega) ?_
  walk_at "r"
  refine Aw (fun h=>?_) (fun h=>?_)
  ·have l1:1<=z.length:=by have:=of_decide_eq_true h;omega
   walk_at "r"
   refine Aw (fun h'=>?_) (fun h'=>?_)
   ·have l2:¬ z.length<=18:=fun x=>by simp at h';omega
    walk_at "r"
    have:=q H (Same.refl H)
    rw [decide_eq_false l2,Ts,P0,P0] at this
    exact this
   ·have l2:z.length<=18:=by simp at h';omega
    walk_at "r"
    refine .inr (.inr ⟨z,rfl,fun D hD=>?_⟩)
    refine Zbv (z:=z) (Pv:=fun i ys σ' H'=>∃ sv,σ'=[sv]/\ys=((z.cps.toList.take i).map fun c=>decide (c∈DIG.cps.toList)).map V.bl/\Same H H') ⟨none,rfl,rfl,Same.upd hD⟩ ?_ ?_
    ·rintro i c ys σ' H' hc hys ⟨sv,rfl,rfl,hH⟩
     walk_at "r"
     have hi:=Zde hc
     refine .inr ⟨c,DIG,rfl,rfl,?_⟩
     refine ⟨_,hys,by rw [Pq,Pq,Qj];omega,_,Ad,_,rfl,?_,hH.over hD⟩
     rw [Zbk hc,Q2,Q2]
     rfl
    ·rintro ys σ' H' hys ⟨sv,rfl,rfl,hH⟩
     walk_at "r"
     refine ⟨D,_,rfl,SqL.of hys,?_⟩
     rw [On]
     have en:B6 z DIG=(z.cps.toList.all fun c=>decide (c∈DIG.cps.toList)):=rfl
     rw [<- en]
     have q':=q H' hH
     rw [decide_eq_true l1,decide_eq_true l2,Qa,Qa] at q'
     walk_at "r"
     refine Aw (fun hA=>?_) (fun hA=>?_)
     ·have hA:B6 z DIG=false:=by simpa using hA
      rw [hA,P0] at q'
      walk_at "r"
      exact q'
     ·have hA:B6 z DIG=true:=by simpa using hA
      rw [hA,Qa] at q'
      walk_at "r"
      rw [Zki]
      refine Aw (fun hz=>?_) (fun hz=>?_)
      ·rw [hz,Bool.true_or] at q'
       exact q'
      ·have hz:(z == ("0" : Str))=false:=by simpa using hz
       rw [hz,Bool.false_or] at q'
       walk_at "r"
       obtain ⟨c,hc⟩:=Zna l1
       refine M8 (by omega) hc ?_
       refine s_ne rfl ?_
       rw [Znf]
       have:hd0 z=(some c == some 48):=by
        unfold hd0
        rw [Zpl hc]
       rw [<- this]
       exact q'
  ·have l1:¬ 1<=z.length:=fun x=>h (decide_eq_true (by omega))
   walk_at "r"
   have:=q H (Same.refl H)
   rw [decide_eq_false l1,P0,P0,P0] at this
   exact this
noncomputable def Zfe:Sp:=fun vs H Q _=>∃ c:Nat,vs=[.str ⟨#[c]⟩]/\Q (.bl (Ea c)) H
theorem Zji:A2 ["sign"] ["sign"] (Am Mn):=by walk_at "sc"
theorem ll1 (a b:Nat):decide ([a] < [b])=decide (a < b):=by
 by_cases h:a < b
 ·rw [decide_eq_true h]
  exact decide_eq_true (List.Lex.rel h)
 ·rw [decide_eq_false h]
  refine decide_eq_false fun e=>?_
  cases e with
  | rel e=>exact h e
  | cons e=>cases e
theorem Znx (c:Nat):(!decide ((⟨#[c]⟩:Str).cps.toList < ("!" : Str).cps.toList))=decide (33<=c):=by
 have e:("!" : Str).cps.toList=[33]:=by decide +kernel
 have e2:(⟨#[c]⟩:Str).cps.toList=[c]:=rfl
 rw [e,e2,ll1,R0]
 simp
theorem Zl6 (c:Nat):(!decide (("~" : Str).cps.toList < (⟨#[c]⟩:Str).cps.toList))=decide (c<=126):=by
 have e:("~" : Str).cps.toList=[126]:=by decide +kernel
 have e2:(⟨#[c]⟩:Str).cps.toList=[c]:=rfl
 rw [e,e2,ll1,R0]
 simp
theorem Znl {f:Addr}{fd:FuncData}(F:Fun K "is_odd_sign" "is_odd_sign" Mn f fd)(T:Txt K mg):Ao P w K mg base Aq 1 f fd ["sign"] Zfe:=by
 refine F.okq Zji (fun vs H Q E h=>?_) (fun cdv A outer s H vs Q E hr h=>?_)
 ·obtain ⟨v,rfl,_⟩:=h
  rfl
 ·obtain ⟨c,rfl,q⟩:=h
  refine ⟨_,Af (Ak (Dp (Zch Ey Ey An (qv 0) An) (D6 (Co (Zbt K) (qv 0) An (by rfl))))),?_⟩
  walk_at "r"
  have e:Ea c=(decide (33<=c) && decide (c<=126) && !decide (c∈BR.cps.toList)):=rfl
  rw [e] at q
  refine .inr ⟨_,_,rfl,rfl,_,rfl,?_⟩
  rw [Znx]
  refine Aw (fun h=>?_) (fun h=>?_)
  ·rw [h,Qa] at q
   walk_at "r"
   refine .inr ⟨_,_,rfl,rfl,_,rfl,?_⟩
   rw [Zl6]
   refine Aw (fun h=>?_) (fun h=>?_)
   ·rw [h,Qa] at q
    walk_at "r"
    exact .inr ⟨c,BR,rfl,rfl,q⟩
   ·have h:decide (c<=126)=false:=by simpa using h
    rw [h,P0] at q
    exact q
  ·have h:decide (33<=c)=false:=by simpa using h
   rw [h,P0,P0] at q
   exact ⟨_,rfl,iteF q⟩
noncomputable def Zg4 (K:O0):Sp:=fun vs H Q _=>∃ v,vs=[v]/\Has K H v/\∀ H',Same H H'->Q (.bl (Ko v)) H'
theorem Zov:(["sign"]:List Str).Nodup:=by decide +kernel
theorem Zi3:A2 ["thing"] ["thing"] (Am Ly):=by walk_at "sc"
theorem Zil {f:Addr}{fd:FuncData}(F:Fun K "is_odd" "is_odd" Ly f fd)(T:Txt K mg)(G:Gs P w K mg)(C_is_odd_sign:A4 P w K mg base 1 "is_odd_sign" ["sign"] Zfe)(C_is_name:A4 P w K mg base 1 "is_name" ["thing"] (Iu K))(C_is_figures:A4 P w K mg base 1 "is_figures" ["text"] Zhb):Ao P w K mg base Aq 2 f fd ["thing"] (Zg4 K):=by
 refine F.okq Zi3 (fun vs H Q E h=>?_) (fun cdv A outer s H vs Q E hr h=>?_)
 ·obtain ⟨v,rfl,_⟩:=h
  rfl
 ·obtain ⟨v,rfl,⟨t,ht⟩,q⟩:=h
  obtain ⟨a10,G_WORDS_NOT_ODD,h10⟩:=G.w10
  refine ⟨_,Ag (Ar (QW.qt (Ek (Cf (Cb (Bd (Fx K "str") (by rfl) T.isinstance (by decide +kernel) (Aa (qv 0) (Aa (Eu (v:=.ty "str") (by rfl) T.str (by decide +kernel) rfl) Ac))))) (Es (Cf (Op Ey Ey Ab (Bd (Cp K) (by rfl) T.len (by decide +kernel) (Aa (qv 0) Ac)) Ab))))) (Af (Ak Dg)) Av)
   (Ag (Ar (Cf (Cb (Bd (Za2 K rfl) (by rfl) T.all (by decide +kernel) (Aa (Mc (N:=["sign"]) (σ0:=Df 1 []) rfl (E5 rfl (by decide +kernel) (by decide +kernel) (by decide +kernel)) (Fw K (qv 0)) (Fe rfl (by rfl)) (fun _ _ _ _=>A9 (i:=0) Zov rfl (Or.inl rfl)) (fun _ _ _ _=>Ff) (fun _ _ _ _=>A1 C_is_odd_sign hr.m (Aa (qv 0) Ac))) Ac)))) (Af (Ak Dg)) Av)
   (Af (Ak (Dp (Zag (A1 C_is_name hr.m (Aa (qv 0) Ac))) (Dp (Co (Zbt K) (qv 0) (Fy G_WORDS_NOT_ODD) (by rfl)) (D6 (Zag (A1 C_is_figures hr.m (Aa (qv 0) Ac))))))))),?_⟩
  have bg:=Ct
  walk_at "r"
  refine Ia ht (by simp) ?_
  walk_at "r"
  cases h1:C9 t "str" with
  | false =>
   have e:Ko v=false:=by cases ht <;> first | rfl | (cases h1)
   walk_at "r"
   rw [e] at q
   exact q H (Same.refl H)
  | true =>
   obtain ⟨z,rfl,hz⟩:∃ z,v=.str z/\z.length<=1000:=by
    cases ht <;> first | exact ⟨_,rfl,by assumption⟩ | (cases h1)
   walk_at "r"
   refine Nl (by omega) ?_
   walk_at "r"
   have e:Ko (.str z)=(decide (1<=z.length) && decide (z.length<=60) && z.cps.toList.all Ea && !A7 z && !C1 z W10 && !Lq z):=rfl
   rw [e] at q
   refine Aw (fun h=>?_) (fun h=>?_)
   ·have l1:1<=z.length:=by have:=of_decide_eq_true h;omega
    walk_at "r"
    refine Aw (fun h'=>?_) (fun h'=>?_)
    ·have l2:¬ z.length<=60:=fun x=>by simp at h';omega
     walk_at "r"
     have:=q H (Same.refl H)
     rw [decide_eq_false l2,Ts] at this
     exact this
    ·have l2:z.length<=60:=by simp at h';omega
     walk_at "r"
     refine .inr (.inr ⟨z,rfl,fun D hD=>?_⟩)
     refine Zbv (z:=z) (Pv:=fun i ys σ' H'=>∃ sv,σ'=[sv]/\ys=((z.cps.toList.take i).map Ea).map V.bl/\Same H H') ⟨none,rfl,rfl,Same.upd hD⟩ ?_ ?_
     ·rintro i c ys σ' H' hc hys ⟨sv,rfl,rfl,hH⟩
      walk_at "r"
      have hi:=Zde hc
      refine ⟨c,rfl,?_⟩
      refine ⟨_,hys,by rw [Pq,Pq,Qj];omega,_,Ad,_,rfl,?_,hH.over hD⟩
      rw [Zbk hc,Q2,Q2]
      rfl
     ·rintro ys σ' H' hys ⟨sv,rfl,rfl,hH⟩
      walk_at "r"
      refine ⟨D,_,rfl,SqL.of hys,?_⟩
      rw [On]
      rw [decide_eq_true l1,decide_eq_true l2,Qa,Qa] at q
      walk_at "r"
      refine Aw (fun hA=>?_) (fun hA=>?_)
      ·have hA:z.cps.toList.all Ea=false:=by simpa using hA
       rw [hA] at q
       walk_at "r"
       exact q H' hH
      ·have hA:z.cps.toList.all Ea=true:=by simpa using hA
       rw [hA,Qa] at q
       walk_at "r"
       refine ⟨_,rfl,⟨_,.str z hz⟩,fun H2 s2=>?_⟩
       walk_at "r"
       show if (!A7 z)=true then _ else _
       refine Aw (fun hN=>?_) (fun hN=>?_)
       ·rw [hN,Qa] at q
        walk_at "r"
        refine Eg (.inr (h10 _)) rfl Ze2 ?_
        rw [if_pos rfl,Ix]
        walk_at "r"
        refine Aw (fun hW=>?_) (fun hW=>?_)
        ·rw [hW,Qa] at q
         walk_at "r"
         refine ⟨_,rfl,hz,fun H3 s3=>?_⟩
         walk_at "r"
         exact q H3 ((hH.trans s2).trans s3)
        ·have hW:(!C1 z W10)=false:=by simpa using hW
         rw [hW] at q
         exact q H2 (hH.trans s2)
       ·have hN:(!A7 z)=false:=by simpa using hN
        rw [hN] at q
        exact q H2 (hH.trans s2)
   ·have l1:¬ 1<=z.length:=fun x=>h (decide_eq_true (by omega))
    walk_at "r"
    have:=q H (Same.refl H)
    rw [decide_eq_false l1] at this
    exact this
noncomputable def Zae (K:O0):Sp:=fun vs H Q _=>∃ v,vs=[v]/\Has K H v/\Q (.bl (N9 v)) H
theorem Zs8:A2 ["thing"] ["thing"] (Am Ki):=by walk_at "sc"
theorem Zue {f:Addr}{fd:FuncData}(F:Fun K "is_word" "is_word" Ki f fd)(T:Txt K mg)(G:Gs P w K mg):Ao P w K mg base Aq 1 f fd ["thing"] (Zae K):=by
 refine F.okq Zs8 (fun vs H Q E h=>?_) (fun cdv A outer s H vs Q E hr h=>?_)
 ·obtain ⟨v,rfl,_⟩:=h
  rfl
 ·obtain ⟨v,rfl,⟨t,ht⟩,q⟩:=h
  obtain ⟨ap,G_PARTS_OF_WORDS,hp⟩:=G.pw
  refine ⟨_,Af (Ak (Dp (Bd (Fx K "str") (by rfl) T.isinstance (by decide +kernel) (Aa (qv 0) (Aa (Eu (v:=.ty "str") (by rfl) T.str (by decide +kernel) rfl) Ac))) (D6 (Co (Zoz P w K) (qv 0) (Fy G_PARTS_OF_WORDS) (by rfl))))),?_⟩
  walk_at "r"
  refine Ia ht (by simp) ?_
  walk_at "r"
  cases h1:C9 t "str" with
  | false =>
   have e:N9 v=false:=by cases ht <;> first | rfl | (cases h1)
   rw [e] at q
   exact iteF q
  | true =>
   obtain ⟨z,rfl,hz⟩:∃ z,v=.str z/\z.length<=1000:=by
    cases ht <;> first | exact ⟨_,rfl,by assumption⟩ | (cases h1)
   walk_at "r"
   refine ⟨z,ap,Jb,rfl,rfl,hp,?_⟩
   rw [Zba,Option.isSome_map]
   exact q
inductive Nt where
 | fl (v:V)
 | tp (xs:List V)
 | ot
noncomputable def NtAt (K:O0)(H:Hp)(v:V):Nt->Prop
 | .fl u=>v=u/\∃ t,TyN K H u t/\C9 t "tuple" = false
 | .tp xs=>∃ a,v=.ref a/\SqT K H a xs/\∀ x∈xs,Has K H x
 | .ot=>∃ a t,v=.ref a/\TyN K H v t/\C9 t "tuple" = false
theorem NtAt.same {K:O0}{H H':Hp}{v:V}{n:Nt}(h:NtAt K H v n)(e:Same H H'):NtAt K H' v n:=by
 cases n with
 | fl u=>obtain ⟨h1,t,h2,h3⟩:=h;exact ⟨h1,t,h2.same e,h3⟩
 | tp xs=>obtain ⟨a,h1,h2,h3⟩:=h;exact ⟨a,h1,e.t.tup h2,fun x hx=>(h3 x hx).same e⟩
 | ot=>obtain ⟨a,t,h1,h2,h3⟩:=h;exact ⟨a,t,h1,h2.same e,h3⟩
theorem NtAt.has {K:O0}{H:Hp}{v:V}{n:Nt}(h:NtAt K H v n):Has K H v:=by
 cases n with
 | fl u=>obtain ⟨rfl,t,h2,h3⟩:=h;exact ⟨t,h2⟩
 | tp xs=>obtain ⟨a,rfl,h2,h3⟩:=h;exact ⟨_,.tup h2⟩
 | ot=>obtain ⟨a,t,rfl,h2,h3⟩:=h;exact ⟨t,h2⟩
noncomputable def twoN:Nt->Bool
 | .tp [x,y]=>Ec x && Ec y
 | _=>false
noncomputable def Zdy (K:O0):Sp:=fun vs H Q _=>∃ v n,vs=[v]/\NtAt K H v n/\∀ H',Same H H'->Q (.bl (twoN n)) H'
theorem Zt2:A2 ["thing"] ["thing"] (Am K4):=by walk_at "sc"
theorem Zjw {f:Addr}{fd:FuncData}(F:Fun K "is_two_names" "is_two_names" K4 f fd)(T:Txt K mg)(C_is_name:A4 P w K mg base 1 "is_name" ["thing"] (Iu K)):Ao P w K mg base Aq 2 f fd ["thing"] (Zdy K):=by
 refine F.okq Zt2 (fun vs H Q E h=>?_) (fun cdv A outer s H vs Q E hr h=>?_)
 ·obtain ⟨v,n,rfl,_⟩:=h
  rfl
 ·obtain ⟨v,n,rfl,hn,q⟩:=h
  refine ⟨_,Af (Ak (Dp (Bd (Fx K "tuple") (by rfl) T.isinstance (by decide +kernel) (Aa (qv 0) (Aa (Eu (v:=.ty "tuple") (by rfl) T.tuple (by decide +kernel) rfl) Ac))) (Dp (Co (A5 K hr.u200) (Bd (Cp K) (by rfl) T.len (by decide +kernel) (Aa (qv 0) Ac)) Ab (Ax _)) (Dp (A1 C_is_name hr.m (Aa (Ai K (qv 0) Ab) Ac)) (D6 (A1 C_is_name hr.m (Aa (Ai K (qv 0) Ab) Ac))))))),?_⟩
  walk_at "r"
  have no:∀ t,TyN K H v t->C9 t "tuple" = false->twoN n=false->J7 K "tuple" [v,.ty "tuple"] H fun x H1=>∃ k,x=.bl k/\if k=true then (Le (Dl (Mg K) (Jm (Ji K) (F9 (Iz 0) E2)) (tC (.int 2))) (Le (Go (Iu K) [] E (F9 (Dl (Gx K) (Iz 0) (tC (.int 0))) E2)) (Go (Iu K) [] E (F9 (Dl (Gx K) (Iz 0) (tC (.int 1))) E2)))) (L2.start ["thing"] [v]) H1 Q else Q (.bl false) H1:=by
   intro t ht hk h2
   refine Ia ht (by simp) ⟨_,rfl,?_⟩
   rw [hk]
   have:=q H (Same.refl H)
   rw [h2] at this
   exact iteF this
  cases n with
  | fl u =>
   obtain ⟨rfl,t,ht,hk⟩:=hn
   exact no t ht hk rfl
  | ot =>
   obtain ⟨a,t,rfl,ht,hk⟩:=hn
   exact no t ht hk rfl
  | tp xs =>
   obtain ⟨a,rfl,hq,hx⟩:=hn
   refine Ia (.tup hq) (by simp) ?_
   show ∃ k,V.bl true=V.bl k/\_
   walk_at "r"
   refine Fl hq ?_
   walk_at "r"
   match xs,hq,hx,q with
   | [x,y],hq,hx,q =>
    refine iteT ?_
    walk_at "r"
    refine Ae hq (v:=x) rfl ?_
    walk_at "r"
    refine ⟨_,rfl,hx x (by simp),fun H1 s1=>?_⟩
    have e:twoN (.tp [x,y])=(Ec x && Ec y):=rfl
    rw [e] at q
    walk_at "r"
    refine Aw (fun h=>?_) (fun h=>?_)
    ·rw [h,Qa] at q
     walk_at "r"
     refine Ae (s1.t.tup hq) (v:=y) rfl ?_
     walk_at "r"
     exact ⟨_,rfl,(hx y (by simp)).same s1,fun H2 s2=>q H2 (s1.trans s2)⟩
    ·have h:Ec x=false:=by simpa using h
     rw [h,P0] at q
     exact q H1 s1
   | [],hq,hx,q=>exact iteF (q H (Same.refl H))
   | [x],hq,hx,q=>exact iteF (q H (Same.refl H))
   | x::y::z::r,hq,hx,q =>
    refine Aw (fun h=>?_) (fun h=>q H (Same.refl H))
    have:=of_decide_eq_true h
    have h2:(((x::y::z::r).length:Nat):Int)=2:=V.int.inj this
    simp only [Pr] at h2
    omega
noncomputable def Hx:Nt->Bool
 | .fl v=>Ec v
 | _=>false
noncomputable def E4:Nt->Bool
 | .fl v=>Ko v
 | _=>false
noncomputable def Eb:Nt->Bool
 | .fl (.int i)=>decide (0<=i) && decide (i < 10 ^ 18)
 | _=>false
noncomputable def Gr:Nt->Bool
 | .fl (.bl _)=>true
 | _=>false
noncomputable def Hh:Nt->Bool
 | .fl .non=>true
 | _=>false
noncomputable def B2 (wd:Str)(n:Nt):Bool :=
 if wd = "odd" then E4 n else if wd = "num" then Eb n else if wd = "truth" then Gr n else if wd∈(["name", "fn", "let"]:List Str) then Hx n else if wd = "rec" then twoN n else Hh n
theorem NtAt.name {K:O0}{H:Hp}{v:V}{n:Nt}(h:NtAt K H v n):Ec v=Hx n/\Ko v=E4 n/\(Hb v=true↔∃ i,v=.int i/\n=.fl (.int i))/\(decide (v=.bl true) || decide (v=.bl false))=Gr n/\decide (v=.non)=Hh n:=by
 cases n with
 | fl u =>
  obtain ⟨rfl,t,h2,h3⟩:=h
  cases h2 <;> first | (exact ⟨rfl,rfl,by simp [Hb],rfl,rfl⟩) | (exact ⟨rfl,rfl,by simp [Hb],by decide,rfl⟩) | skip
  rename_i b
  exact ⟨rfl,rfl,by simp [Hb],by cases b <;> rfl,rfl⟩
 | tp xs =>
  obtain ⟨a,rfl,h2,h3⟩:=h
  exact ⟨rfl,rfl,by simp [Hb],rfl,rfl⟩
 | ot =>
  obtain ⟨a,t,rfl,h2,h3⟩:=h
  exact ⟨rfl,rfl,by simp [Hb],rfl,rfl⟩
theorem Ci (a b:Str):decide (V.str a=V.str b)=decide (a=b):=by
 by_cases h:a=b
 ·simp [h]
 ·simp [h]
noncomputable def Nd (K:O0):Sp:=fun vs H Q _=>∃ wd v n,vs=[.str wd,v]/\NtAt K H v n/\∀ H',Same H H'->Q (.bl (B2 wd n)) H'
theorem Zoe:A2 ["word", "note"] ["word", "note"] (Am Kg):=by walk_at "sc"
theorem Zjg {f:Addr}{fd:FuncData}(F:Fun K "is_note" "is_note" Kg f fd)(T:Txt K mg)(C_is_whole:A4 P w K mg base 1 "is_whole" ["thing"] (Zbn K))(C_is_name:A4 P w K mg base 1 "is_name" ["thing"] (Iu K))(C_is_odd:A4 P w K mg base 2 "is_odd" ["thing"] (Zg4 K))(C_is_two_names:A4 P w K mg base 2 "is_two_names" ["thing"] (Zdy K)):Ao P w K mg base Aq 3 f fd ["word", "note"] (Nd K):=by
 refine F.okq Zoe (fun vs H Q E h=>?_) (fun cdv A outer s H vs Q E hr h=>?_)
 ·obtain ⟨wd,v,n,rfl,_⟩:=h
  rfl
 ·obtain ⟨wd,v,n,rfl,hn,q⟩:=h
  refine ⟨_,Ag (Ar (Ay (A5 K hr.u200) (qv 0) An (Ax _)) (Af (Ak (A1 C_is_odd hr.m (Aa (qv 1) Ac)))) Av)
   (Ag (Ar (Ay (A5 K hr.u200) (qv 0) An (Ax _)) (Af (Ak (Dp (A1 C_is_whole hr.m (Aa (qv 1) Ac)) (D6 (Zch Ey Ij Ab (qv 1) (Ah Zc9 Ab Ab)))))) Av)
   (Ag (Ar (Ay (A5 K hr.u200) (qv 0) An (Ax _)) (Af (Ak (Zgz (Co Zf1 (qv 1) Dg (Ax _)) (D6 (Co Zf1 (qv 1) Dg (Ax _)))))) Av)
   (Ag (Ar (Ay (Eh K) (qv 0) (A0 (Aa An (Aa An (Aa An Ac)))) (by rfl)) (Af (Ak (A1 C_is_name hr.m (Aa (qv 1) Ac)))) Av)
   (Ag (Ar (Ay (A5 K hr.u200) (qv 0) An (Ax _)) (Af (Ak (A1 C_is_two_names hr.m (Aa (qv 1) Ac)))) Av)
   (Af (Ak (Zq9 (F7 (qv 1))))))))),?_⟩
  obtain ⟨e1,e2,e3,e4,e5⟩:=hn.name
  unfold B2 at q
  walk_at "r"
  rw [Ci]
  refine Aw (fun h=>?_) (fun h=>?_)
  ·rw [if_pos (of_decide_eq_true h),<- e2] at q
   walk_at "r"
   exact ⟨_,rfl,hn.has,q⟩
  rw [if_neg (fun x=>h (decide_eq_true x))] at q
  walk_at "r"
  rw [Ci]
  refine Aw (fun h=>?_) (fun h=>?_)
  ·rw [if_pos (of_decide_eq_true h)] at q
   walk_at "r"
   refine ⟨_,rfl,hn.has,?_⟩
   walk_at "r"
   refine Aw (fun h=>?_) (fun h=>?_)
   ·obtain ⟨i,rfl,rfl⟩:=e3.mp h
    have e:Eb (.fl (.int i))=(decide (0<=i) && decide (i < 10 ^ 18)):=rfl
    rw [e] at q
    walk_at "r"
    refine Aw (fun h=>?_) (fun h=>?_)
    ·rw [h,Qa] at q
     walk_at "r"
     exact q H (Same.refl H)
    ·have h:decide (0<=i)=false:=by simpa using h
     rw [h,P0] at q
     exact q H (Same.refl H)
   ·have e:Eb n=false:=by
     cases hx:Eb n with
     | false=>rfl
     | true =>
      cases n with
      | fl u =>
       obtain ⟨rfl,_⟩:=hn
       cases v <;> first | (cases hx) | (exact absurd rfl h)
      | tp xs=>cases hx
      | ot=>cases hx
    rw [e] at q
    exact q H (Same.refl H)
  rw [if_neg (fun x=>h (decide_eq_true x))] at q
  walk_at "r"
  rw [Ci]
  refine Aw (fun h=>?_) (fun h=>?_)
  ·rw [if_pos (of_decide_eq_true h),<- e4] at q
   walk_at "r"
   refine Aw (fun h=>?_) (fun h=>?_)
   ·rw [h,Bool.true_or] at q
    exact q H (Same.refl H)
   ·have h:decide (v=.bl true)=false:=by simpa using h
    rw [h,Bool.false_or] at q
    walk_at "r"
    exact q H (Same.refl H)
  rw [if_neg (fun x=>h (decide_eq_true x))] at q
  walk_at "r"
  refine ⟨Bk,fun p hp=>?_⟩
  refine Eg (.inr (SqT.of Ad)) rfl rfl ?_
  have sm:=Same.upd (o:=.tup [.str "name",.str "fn",.str "let"]) hp
  have em:Cr (.str wd) [.str "name",.str "fn",.str "let"]=decide (wd∈(["name", "fn", "let"]:List Str)):=by
   have:=Ix (t:=wd) (ws:=["name", "fn", "let"])
   rw [show ([V.str "name",V.str "fn",V.str "let"]:List V)=(["name", "fn", "let"]:List Str).map V.str from rfl,this]
   by_cases hm:wd∈(["name", "fn", "let"]:List Str)
   ·rw [decide_eq_true hm,Za7 hm]
   ·rw [decide_eq_false hm,Lb hm]
  rw [if_neg O8,em]
  walk_at "r"
  refine Aw (fun h=>?_) (fun h=>?_)
  ·rw [if_pos (of_decide_eq_true h),<- e1] at q
   walk_at "r"
   exact ⟨_,rfl,hn.has.same sm,fun H' s'=>q H' (sm.trans s')⟩
  rw [if_neg (fun x=>h (decide_eq_true x))] at q
  walk_at "r"
  rw [Ci]
  refine Aw (fun h=>?_) (fun h=>?_)
  ·rw [if_pos (of_decide_eq_true h)] at q
   walk_at "r"
   exact ⟨_,_,rfl,hn.same sm,fun H' s'=>q H' (sm.trans s')⟩
  rw [if_neg (fun x=>h (decide_eq_true x)),<- e5] at q
  walk_at "r"
  exact q _ sm
noncomputable def Zfc (K:O0):Sp:=fun vs H Q _=>∃(a:Addr)(k:Int),vs=[.ref a,.int k]/\Script K H a/\0<=k/\∀ z:Int,Q (.int z) H
theorem Nq:A2 ["_law_script", "_law_k", "_law_many_here", "_law_first"] ["_law_script", "_law_k"] (Am Mo):=by walk_at "sc"
theorem Zsb {f:Addr}{fd:FuncData}(F:Fun K "_law_cell" "_law_cell" Mo f fd)(T:Txt K mg):Ao P w K mg base Aq 1 f fd ["_law_script", "_law_k"] (Zfc K):=by
 refine F.okq Nq (fun vs H Q E h=>?_) (fun cdv A outer s H vs Q E hr h=>?_)
 ·obtain ⟨a,k,rfl,_⟩:=h
  rfl
 ·obtain ⟨a,k,rfl,S,h0,q⟩:=h
  obtain ⟨ns,hS,hl⟩:=S.ex
  refine ⟨_,Ag (Ar (Ay Ij (qv 1) (Bd (Cp K) (by rfl) T.len (by decide +kernel) (Aa (qv 0) Ac)) (Ax _)) (Af (Ak (Ai K (qv 0) (qv 1)))) Av)
   (Ag (A3 2 Nq (Bd (Cp K) (by rfl) T.len (by decide +kernel) (Aa (qv 0) Ac)))
   (Ag (A3 3 Nq Ab)
   (Ag (Ar (Ay Mx (qv 2) Ab (Ax _)) (Af (A3 3 Nq (Ah A6 (Ai K (qv 0) (Ah A6 (qv 1) (qv 2))) Ab))) Av)
   (Af (Ak (Ah A6 (Ah (Bj K) (Ah (Bj K) (Ah Cc (qv 3) Ab) (Ah Cc (qv 2) Ab)) (Ah Cc (qv 1) Ab)) Ab)))))),?_⟩
  walk_at "r"
  refine Lf hS ?_
  walk_at "r"
  refine Aw (fun h=>?_) (fun h=>?_)
  ·have h1:k < (ns.map V.int).length:=by simpa using h
   obtain ⟨v,hv,m⟩:=Dy h0 h1
   obtain ⟨z,_,rfl⟩:=Sk.mp m
   walk_at "r"
   exact Ca hS hv (q z)
  ·walk_at "r"
   refine Lf hS ?_
   walk_at "r"
   refine Aw (fun h=>?_) (fun h=>?_)
   ·have hp:(0:Int) < (ns.map V.int).length:=by simpa using h
    obtain ⟨v,hv,m⟩:=Dy (xs:=ns.map V.int) (Qf k (by omega)) (Qh k hp)
    obtain ⟨z,_,rfl⟩:=Sk.mp m
    walk_at "r"
    refine s_rI hp ?_
    refine Ca hS hv ?_
    walk_at "r"
    exact q _
   ·walk_at "r"
    exact q _
theorem Znh:LET.cps.toList.length=27:=by decide +kernel
theorem Zjh:LET.length<=sizeLine:=by decide +kernel
theorem Fp (u v:Str):(u++v).length=u.length+v.length:=by
 show (u.cps++v.cps).size=_
 simp [Str.length]
theorem Hj (c:Nat):(⟨#[c]⟩:Str).length=1:=rfl
theorem Io (t u:Str):(t++u).cps.toList=t.cps.toList++u.cps.toList:=by
 show (t.cps++u.cps).toList=_
 simp
theorem Zdl (t u s:Str):B6 (t++u) s=(B6 t s && B6 u s):=by
 unfold B6
 rw [Io,List.all_append]
theorem Zis {c:Nat}{s:Str}(h:c∈s.cps.toList):B6 ⟨#[c]⟩ s=true:=by
 unfold B6
 simpa using h
theorem Zmi:W9.all (fun t=>decide (t.length<=4))=true:=by decide +kernel
theorem Zru:W9.all (fun t=>!(t.cps.toList.getLast? == some 95))=true:=by decide +kernel
theorem Zuo {t:Str}(h:t∈W9):t.length<=4:=of_decide_eq_true (P3.mp Zmi t h)
theorem Ze7 {t:Str}(h1:1<=t.length)(h2:t.length<=8)(h3:B6 t LET=true)(h4:C1 t W9=false):A7 t=true:=by
 unfold A7
 rw [decide_eq_true h1,decide_eq_true h2,h3,h4]
 rfl
theorem Hs {t:Str}(h:A7 t=true):B6 t LET=true/\t.length<=8:=by
 unfold A7 at h
 simp only [Qk,decide_eq_true_eq] at h
 exact ⟨h.1.2,h.1.1.2⟩
theorem Zqh:("_" : Str).cps.toList=[95]:=by decide +kernel
theorem Zhm {t:Str}(h:B6 t LET=true)(hl:t.length+1<=8):A7 (t++("_" : Str))=true:=by
 have l1:(Qm "_").length=1:=by decide +kernel
 have la:(t++Qm "_").length=t.length+1:=by rw [Fp,l1]
 refine Ze7 (by rw [la];omega) (by rw [la];exact hl) ?_ ?_
 ·rw [Zdl,h,Qa]
  decide +kernel
 ·refine Lb fun m=>?_
  have:=P3.mp Zru _ m
  rw [Io,Zqh] at this
  simp at this
noncomputable def Zd6:Sp:=fun vs H Q _=>∃(a b:Int),vs=[.int a,.int b]/\∀(p:Addr)(t0 t1 t2:Str)(H':Hp),A7 t0=true->A7 t1=true->A7 t2=true->Same H H'->H p=none->H' p=some (.lst [.str t0,.str t1,.str t2])->Q (.ref p) H'
theorem Zj5:(["_law_k", "_law_one"]:List Str).Nodup:=by decide +kernel
theorem sc_law_names:A2 ["_law_one", "_law_other", "_law_letters", "_law_size", "_law_base", "_law_step", "_law_names_here", "_law_j", "_law_name", "_law_k", "_law_move"] ["_law_one", "_law_other"] (Am Kh):=by walk_at "sc"
theorem Zjt {α:Type}{xs:List α}(h:xs.length=3):∃ a b c,xs=[a,b,c]:=by
 match xs,h with
 | [a,b,c],_=>exact ⟨a,b,c,rfl⟩
noncomputable def NmJ (H:Hp)(a b:Int)(D p:Addr)(ms:List Int)(j:Nat)(σ':St)(H':Hp):Prop:=∃(v7 v8 v9 v10:Option V)(ts:List Str),σ'=[some (.int a),some (.int b),some (.str LET),some (.int (1+a % 8)),some (.ref D),some (.int (1+b / 8 % 13)),some (.ref p),v7,v8,v9,v10]/\H' D=some (.lst (ms.map V.int))/\H' p=some (.lst (ts.map V.str))/\ts.length=j/\(∀ t∈ts,A7 t=true)/\Same H H'
theorem Zpo {f:Addr}{fd:FuncData}(F:Fun K "_law_names" "_law_names" Kh f fd)(T:Txt K mg):Ao P w K mg base Aq 1 f fd ["_law_one", "_law_other"] Zd6:=by
 refine F.okq sc_law_names (fun vs H Q E h=>?_) (fun cdv A outer s H vs Q E hr h=>?_)
 ·obtain ⟨a,b,rfl,_⟩:=h
  rfl
 ·obtain ⟨a,b,rfl,q⟩:=h
  refine ⟨_,Ag (A3 2 sc_law_names An)
   (Ag (A3 3 sc_law_names (Ah (Bj K) Ab (Ah A6 (qv 0) Ab)))
   (Ag (M5 (i:=4) (N:=["_law_k", "_law_one"]) (σ0:=Df 1 [0]) rfl (E5 rfl (by decide +kernel) (by decide +kernel) (by decide +kernel)) (Ez rfl T.range (Aa (qv 3) Ac)) (Fe rfl (by rfl)) (fun _ _ _ _=>A9 (i:=0) Zj5 rfl (Or.inl rfl)) (fun _ _ _ _=>Ff) (fun _ _ _ _=>Ah A6 (Ah A6 (Ah Cc (qv 1) (Ah (Bj K) (Ah Cc Ab (qv 0)) Ab)) Ab) Ab) sc_law_names.nd rfl (Or.inl rfl))
   (Ag (A3 5 sc_law_names (Ah (Bj K) Ab (Ah A6 (Ah B8 (qv 1) Ab) Ab)))
   (Ag (A3 6 sc_law_names (Bv Ac))
   (Ag (C6 Ql rfl (Ez rfl T.range (Aa Ab Ac)) (A9 (i:=7) sc_law_names.nd rfl (Or.inl rfl)) (Ag (A3 8 sc_law_names An)
   (Ag (C6 Ql rfl (Ez rfl T.range (Aa (qv 3) Ac)) (A9 (i:=9) sc_law_names.nd rfl (Or.inl rfl)) (Ag (A3 10 sc_law_names (Ah Cc (Ah Cc (qv 7) (qv 5)) (F6 Zaq (by rfl) T.int (by decide +kernel) (Aa (Co (A5 K hr.u200) (qv 9) (Ah A6 (qv 1) (qv 3)) (Ax _)) Ac))))
   (Af (A3 8 sc_law_names (Ah (Bj K) (qv 8) (Ai K (qv 2) (Ah A6 (Ah (Bj K) (Ai K (qv 4) (qv 9)) (qv 10)) Ab)))))))
   (Ag (Ar (Ay (Eh K) (qv 8) (A0 (Ib (xs:=[.str "let",.str "in",.str "if",.str "then",.str "else",.str "fn",.str "rec",.str "yes",.str "no"]) rfl)) (by rfl)) (Af (A3 8 sc_law_names (Ah (Bj K) (qv 8) An))) Av)
   (Af (Ce (Cv K Pz Qr Qs Dn (qv 6) (Aa (qv 8) Ac))))))))
   (Ag (Ar (QW.qt (Fg (Ay (A5 K hr.u200) (Ah A6 (Ah B8 (qv 1) Ab) Ab) Ab (Ax _)) (Gq (Ay Ij (Bd (Cp K) (by rfl) T.len (by decide +kernel) (Aa (Ai K (qv 6) Ab) Ac)) Ab (Ax _))))) (Af (Hn (Ah (Bj K) (Ai K (qv 6) Ab) An) (Zhw (qv 6) Ab Zeg))) Av)
   (Af (Ak (qv 6))))))))),?_⟩
  have bg:=Ct
  have hs0:0<=a % 8:=Qf a (by decide)
  have hs1:a % 8 < 8:=Qh a (by decide)
  have hst0:0<=b / 8 % 13:=Qf _ (by decide)
  have hst1:b / 8 % 13 < 13:=Qh _ (by decide)
  walk_at "r"
  refine ⟨by omega,by omega,fun D hD=>?_⟩
  refine Ik (Pv:=fun i ys σ' H'=>∃ kv ms,σ'=[kv,some (.int a)]/\ys=ms.map V.int/\ms.length=i/\Same H H') ⟨none,[],rfl,rfl,rfl,Same.upd hD⟩ ?_ ?_
  ·rintro i ys σ' H' hi hys ⟨kv,ms,rfl,rfl,hl,hH⟩
   walk_at "r"
   refine s_mul_r (by omega) (by omega) ?_
   walk_at "r"
   refine ⟨_,hys,by rw [Pq];omega,_,Ad,?_⟩
   exact ⟨_,ms++[_],rfl,by rw [Q2];rfl,by simp [hl],hH.over hD⟩
  ·rintro ys σ' H1 hys ⟨kv,ms,rfl,rfl,hl,hH⟩
   walk_at "r"
   refine ⟨Cu,fun p hp=>?_⟩
   have hpD:D≠p:=fun z=>by rw [z,hp] at hys;cases hys
   have hp0:H p=none:=hH.free hp
   have hys':upd H1 p (.lst []) D=some (.lst (ms.map V.int)):=by rw [Au hpD];exact hys
   walk_at "r"
   refine ⟨by decide,by decide,?_⟩
   refine Nm (n:=3) (NmJ H a b D p ms) ⟨_,_,_,_,[],rfl,hys',Ad,rfl,(fun t h=>nomatch h),hH.put hp⟩ ?_ ?_
   ·rintro j σ' H2 hj ⟨v7,v8,v9,v10,ts,rfl,hD2,hp2,hl2,hle2,sm2⟩
    walk_at "r"
    refine ⟨by omega,by omega,?_⟩
    refine Nm (n:=(1+a % 8).toNat) (fun k σ' H'=>∃ v9 v10 t,σ'=[some (.int a),some (.int b),some (.str LET),some (.int (1+a % 8)),some (.ref D),some (.int (1+b / 8 % 13)),some (.ref p),some (.int (0+j)),some (.str t),v9,v10]/\t.length=k/\B6 t LET=true/\H'=H2) ⟨_,_,Py,rfl,rfl,rfl,rfl⟩ ?_ ?_
    ·rintro k σ' H3 hk ⟨v9',v10',t,rfl,hl3,ha3,rfl⟩
     walk_at "r"
     refine s_mul_l (by omega) (by omega) ?_
     walk_at "r"
     refine s_rI (by omega) ?_
     walk_at "r"
     refine s_mul_r (by split <;> decide) (by split <;> decide) ?_
     walk_at "r"
     have hk':(k:Int) < ((ms.map V.int).length:Int):=by rw [Pq];omega
     obtain ⟨v,hv,m⟩:=Dy (xs:=ms.map V.int) (i:=0+(k:Int)) (by omega) (by omega)
     obtain ⟨z,_,rfl⟩:=Sk.mp m
     refine Ca (SqL.of hD2) hv ?_
     walk_at "r"
     obtain ⟨c,hc,hcm⟩:=Dy (xs:=LET.cps.toList) (i:=(z+(0+(j:Int)) * (1+b / 8 % 13) * (if decide (V.int (0+(k:Int))=V.int (b % (1+a % 8)))=true then 1 else 0)) % 27) (Qf _ (by decide)) (by rw [Znh];exact Qh _ (by decide))
     refine M8 Zjh hc ?_
     refine K8 (by rw [Hj];omega) ?_
     exact ⟨_,_,_,rfl,by rw [Fp,Hj];omega,by rw [Zdl,ha3,Zis hcm];rfl,rfl⟩
    ·rintro σ' H3 ⟨v9',v10',t,rfl,hl3,ha3,rfl⟩
     walk_at "r"
     refine ⟨sz9,fun p9 h9=>?_⟩
     refine Eg (.inr (SqT.of Ad)) rfl rfl ?_
     have nD:D≠p9:=fun z=>by rw [z,h9] at hD2;cases hD2
     have np:p≠p9:=fun z=>by rw [z,h9] at hp2;cases hp2
     have hpU:∀ o,upd H3 p9 o p=some (.lst (ts.map V.str)):=fun o=>by rw [Au np];exact hp2
     have hDU:∀ o,upd H3 p9 o D=some (.lst (ms.map V.int)):=fun o=>by rw [Au nD];exact hD2
     have smU:∀ o,Same H (upd H3 p9 o):=fun o=>sm2.put h9
     have fin:∀(t':Str)(o:HO),A7 t'=true->NmJ H a b D p ms (j+1) [some (.int a),some (.int b),some (.str LET),some (.int (1+a % 8)),some (.ref D),some (.int (1+b / 8 % 13)),some (.ref p),some (.int (0+(j:Int))),some (.str t'),v9',v10'] (upd (upd H3 p9 o) p (.lst (ts.map V.str++[.str t']))):=fun t' o ht' =>
      ⟨_,_,_,_,ts++[t'],rfl,by rw [Au hpD];exact hDU o,by rw [Ad,Q2];rfl,by simp [hl2],fun u hu=>by
       rcases P4.mp hu with hu | hu
       ·exact hle2 u hu
       ·rw [P8.mp hu];exact ht',(smU o).over hp0⟩
     walk_at "r"
     have e9:Cr (.str t) [.str "let",.str "in",.str "if",.str "then",.str "else",.str "fn",.str "rec",.str "yes",.str "no"]=C1 t W9:=Ix (ws:=W9)
     have hln:t.length=(1+a % 8).toNat:=hl3
     refine Aw (fun hin=>?_) (fun hin=>?_)
     ·have hin:C1 t W9=true:=by rw [<- e9];exact hin
      have l4:=Zuo (Zfp hin)
      walk_at "r"
      have l1:(Qm "_").length=1:=by decide +kernel
      refine K8 (by rw [l1];omega) ?_
      walk_at "r"
      refine B3 (SqL.of (hpU _)) ?_
      walk_at "r"
      refine Du (hpU _) (by rw [Pq];omega) ?_
      exact fin _ _ (Zhm ha3 (by omega))
     ·have hin:C1 t W9=false:=by rw [<- e9];simpa using hin
      walk_at "r"
      refine B3 (SqL.of (hpU _)) ?_
      walk_at "r"
      refine Du (hpU _) (by rw [Pq];omega) ?_
      exact fin _ _ (Ze7 (by omega) (by omega) ha3 hin)
   ·rintro σ' H2 ⟨v7,v8,v9,v10,ts,rfl,hD2,hp2,hl2,hle2,sm2⟩
    obtain ⟨t0,t1,t2,rfl⟩:=Zjt hl2
    have n0:=hle2 t0 (by simp)
    have n1:=hle2 t1 (by simp)
    have n2:=hle2 t2 (by simp)
    have l0:=(Hs n0).2
    walk_at "r"
    refine Aw (fun _=>?_) (fun _=>?_)
    ·walk_at "r"
     refine Ca (SqL.of hp2) (v:=.str t0) rfl ?_
     walk_at "r"
     refine Nl (by omega) ?_
     walk_at "r"
     refine Aw (fun h8=>?_) (fun _=>?_)
     ·have h8:t0.length < 8:=by have:=of_decide_eq_true h8;omega
      walk_at "r"
      refine Ca (SqL.of hp2) (v:=.str t0) rfl ?_
      have l1:(Qm "_").length=1:=by decide +kernel
      refine K8 (by rw [l1];omega) ?_
      walk_at "r"
      refine Zex hp2 (j:=2) rfl ?_
      walk_at "r"
      exact q p _ _ _ _ n0 n1 (Zhm (Hs n0).1 (by omega)) (sm2.over hp0) hp0 Ad
     ·walk_at "r"
      exact q p _ _ _ _ n0 n1 n2 sm2 hp0 hp2
    ·walk_at "r"
     exact q p _ _ _ _ n0 n1 n2 sm2 hp0 hp2
noncomputable def SIG91:Str := "!\"#$&'*+,-./0123456789:;<=>?@ABCDEFGHIJKLMNOPQRSTUVWXYZ[\\]^_`abcdefghijklmnopqrstuvwxyz{|}~"
noncomputable def SIG27:Str := "!\"#$&'*,./:;=>@AQZ[\\]^`{|}~"
theorem Zqb:SIG91.cps.toList.length=91:=by decide +kernel
theorem Zl2:SIG91.length<=sizeLine:=by decide +kernel
theorem Zl9:SIG27.cps.toList.length=27:=by decide +kernel
theorem Zi6:SIG27.length<=sizeLine:=by decide +kernel
theorem Zk5:SIG91.cps.toList.all Ea=true:=by decide +kernel
theorem Zlw:SIG27.cps.toList.all Ea=true:=by decide +kernel
theorem Ztv:SIG27.cps.toList.all (fun d=>!decide (d∈LET.cps.toList) && !decide (d∈DIG.cps.toList) && W10.all fun x=>!decide (d∈x.cps.toList))=true:=by decide +kernel
theorem Zpb:("" : Str)=Py:=by decide +kernel
theorem Zhp {t s:Str}{d:Nat}(h:d∈t.cps.toList)(hs:¬ d∈s.cps.toList):B6 t s=false:=by
 cases e:B6 t s with
 | false=>rfl
 | true=>exact absurd (of_decide_eq_true (P3.mp e d h)) hs
theorem Zmh {t:Str}{d:Nat}(h1:1<=t.length)(h2:t.length<=60)(ho:∀ c∈t.cps.toList,Ea c=true)(hd:d∈t.cps.toList)(hs:d∈SIG27.cps.toList):Fo t=true:=by
 have hn:=P3.mp Ztv d hs
 simp only [Qk,Vs,decide_eq_false_iff_not] at hn
 obtain ⟨⟨n1,n2⟩,n3⟩:=hn
 unfold Fo A7 Lq
 rw [Zhp hd n1,Zhp hd n2,decide_eq_true h1,decide_eq_true h2,P3.mpr ho,Lb (t:=t) (ws:=W10) (fun m=>by
  have:=P3.mp n3 t m
  simp only [Vs,decide_eq_false_iff_not] at this
  exact this hd)]
 simp
theorem Zd9 (x:Str)(l u:Option Int):(Qz x l u).length<=(T4 l u 1 x.length).length:=by
 unfold Qz
 split
 ·rename_i h
  simp at h
  omega
 ·show (List.toArray _).size<=_
  rw [O5]
  exact List.length_filterMap_le ..
theorem Zja (t:Str)(k:Int)(h:0<=k):(Qz t none (some k)).length+(Qz t (some k) none).length<=t.length:=by
 have h1:=Zd9 t none (some k)
 have h2:=Zd9 t (some k) none
 have h3:(T4 none (some k) 1 t.length).length+(T4 (some k) none 1 t.length).length<=t.length:=by
  unfold T4 sliceRange
  simp only [show (1:Int) > 0 by decide,if_true,Pq,List.length_range]
  (repeat' split) <;> (try simp only [Int.ediv_one]) <;> omega
 omega
noncomputable def Zhc:Sp:=fun vs H Q _=>∃ c:Int,vs=[.int c]/\∀(t:Str)(H':Hp),Fo t=true->t.length<=60->Same H H'->Q (.str t) H'
theorem Zet {ts:List Str}(h:∀ t∈ts,t.length=1):(ts.map (·.length)).sum=ts.length:=by
 induction ts with
 | nil=>rfl
 | cons t r ih =>
  rw [R4,List.sum_cons,h t Sb,ih fun u hu=>h u (Q0 _ hu),Pr]
  omega
theorem Zrr {ts:List Str}(h:∀ t∈ts,t.length=1):(Q7 "" ts).length<=ts.length:=by
 have e:("" : Str)=Py:=by decide +kernel
 have:=PySem.StrLaws.join_length_le Py ts
 rw [Zet h,show Py.length=0 from rfl] at this
 unfold Q7
 rw [PySem.StrLaws.glued_eq_join,e]
 omega
theorem Zi7:(["_law_k", "_law_signs", "_law_cell_here"]:List Str).Nodup:=by decide +kernel
theorem sc_law_odd:A2 ["_law_cell_here", "_law_some", "_law_signs", "_law_size", "_law_text", "_law_seat"] ["_law_cell_here"] (Am Lh):=by walk_at "sc"
theorem Zrw {f:Addr}{fd:FuncData}(F:Fun K "_law_odd" "_law_odd" Lh f fd)(T:Txt K mg):Ao P w K mg base Aq 1 f fd ["_law_cell_here"] Zhc:=by
 refine F.okq sc_law_odd (fun vs H Q E h=>?_) (fun cdv A outer s H vs Q E hr h=>?_)
 ·obtain ⟨a,rfl,_⟩:=h
  rfl
 ·obtain ⟨c,rfl,q⟩:=h
  refine ⟨_,Ag (A3 1 sc_law_odd (Bv (Ib (xs:=[.str "in",.str "then",.str "else",.str "=",.str "=>",.str "007",.str "--",.str "??",.str "ninesigns"]) rfl)))
   (Ag (Ar (Ay (A5 K hr.u200) (Ah A6 (qv 0) Ab) Ab (Ax _)) (Af (Ak (Ai K (qv 1) (Ah A6 (Ah B8 (qv 0) Ab) Ab)))) Av)
   (Ag (Zht (i:=2) sc_law_odd.nd rfl (Or.inr rfl) An)
   (Ag (A3 3 sc_law_odd (Ai K (Bv (Ib (xs:=[.int 2,.int 1,.int 5,.int 7,.int 60]) rfl)) (Ah A6 (Ah B8 (qv 0) Ab) Ab)))
   (Ag (A3 4 sc_law_odd (Cv K PySem.F.plainAttrs_str PySem.F.slot_str_join PySem.F.type_str_join (Zo9 K) An (Aa (Mc (N:=["_law_k", "_law_signs", "_law_cell_here"]) (σ0:=Df 1 [2,0]) rfl (E5 rfl (by decide +kernel) (by decide +kernel) (by decide +kernel)) (Ez rfl T.range (Aa (Ah Jl (qv 3) Ab) Ac)) (Fe rfl (by rfl)) (fun _ _ _ _=>A9 (i:=0) Zi7 rfl (Or.inl rfl)) (fun _ _ _ _=>Ff) (fun _ _ _ _=>Ms (k_ix K) (qv 1) (Ah A6 (Ah A6 (Ah Cc (qv 2) (Ah (Bj K) (qv 0) Ab)) Ab) Ab) (fun _ _=>rfl))) Ac)))
   (Ag (A3 5 sc_law_odd (Ah A6 (Ah B8 (qv 0) Ab) (qv 3)))
   (Af (Ak (Ah (Bj K) (Ah (Bj K) (Fj (Od K) (qv 4) (He) (Ef (qv 5))) (Ai K An (Ah A6 (Ah B8 (qv 0) Ab) Ab))) (Fj (Od K) (qv 4) (Ef (qv 5)) (He)))))))))),?_⟩
  have bg:=Ct
  walk_at "r"
  refine ⟨sz9,fun p hp=>?_⟩
  have sm:=Same.upd (o:=.lst [.str "in",.str "then",.str "else",.str "=",.str "=>",.str "007",.str "--",.str "??",.str "ninesigns"]) hp
  walk_at "r"
  refine Aw (fun _=>?_) (fun _=>?_)
  ·walk_at "r"
   obtain ⟨v,hv,m⟩:=Dy (xs:=([.str "in",.str "then",.str "else",.str "=",.str "=>",.str "007",.str "--",.str "??",.str "ninesigns"]:List V)) (i:=c / 3 % 9) (Qf _ (by decide)) (Qh _ (by decide))
   obtain ⟨t,rfl,ho,hl⟩:∃ t,v=V.str t/\Fo t=true/\t.length<=60:=by
    simp only [Pb,Pp,or_false] at m
    rcases m with h | h | h | h | h | h | h | h | h <;> exact ⟨_,h,by decide +kernel,by decide +kernel⟩
   exact Ca (SqL.of Ad) hv (q t _ ho hl sm)
  ·walk_at "r"
   refine ⟨sz5,fun p2 hp2=>?_⟩
   have sm2:=sm.put (o:=.lst [.int 2,.int 1,.int 5,.int 7,.int 60]) hp2
   walk_at "r"
   obtain ⟨v,hv,m⟩:=Dy (xs:=([.int 2,.int 1,.int 5,.int 7,.int 60]:List V)) (i:=c / 3 % 5) (Qf _ (by decide)) (Qh _ (by decide))
   obtain ⟨n,rfl,n1,n2⟩:∃ n:Int,v=V.int n/\1<=n/\n<=60:=by
    simp only [Pb,Pp,or_false] at m
    rcases m with h | h | h | h | h <;> exact ⟨_,h,by decide,by decide⟩
   refine Ca (SqL.of Ad) hv ?_
   walk_at "r"
   refine ⟨rfl,?_⟩
   walk_at "r"
   refine ⟨by omega,by omega,fun D hD=>?_⟩
   refine Ik (Pv:=fun i ys σ' H'=>∃ kv ts,σ'=[kv,some (.str SIG91),some (.int c)]/\ys=ts.map V.str/\ts.length=i/\(∀ t∈ts,t.length=1)/\(∀ t∈ts,∀ c∈t.cps.toList,Ea c=true)/\Same H H') ⟨none,[],rfl,rfl,rfl,(fun t h=>nomatch h),(fun t h=>nomatch h),sm2.put hD⟩ ?_ ?_
   ·rintro i ys σ' H' hi hys ⟨kv,ts,rfl,rfl,hl,h1,h1o,hH⟩
    walk_at "r"
    refine s_mul_r (by omega) (by omega) ?_
    walk_at "r"
    obtain ⟨d,hd,hdm⟩:=Dy (xs:=SIG91.cps.toList) (i:=c * (0+(i:Int)+6007) % 1000003 % 91) (Qf _ (by decide)) (by rw [Zqb];exact Qh _ (by decide))
    refine M8 Zl2 hd ?_
    refine ⟨_,hys,by rw [Pq];omega,_,Ad,?_⟩
    refine ⟨_,ts++[⟨#[d]⟩],rfl,by rw [Q2];rfl,by simp [hl],fun t ht=>?_,fun t ht=>?_,hH.over (sm2.free hD)⟩
    ·rcases P4.mp ht with ht | ht
     ·exact h1 t ht
     ·rw [P8.mp ht];rfl
    ·rcases P4.mp ht with ht | ht
     ·exact h1o t ht
     ·rw [P8.mp ht]
      intro c hc
      have:c=d:=by simpa using hc
      rw [this]
      exact P3.mp Zk5 d hdm
   ·rintro ys σ' H1 hys ⟨kv,ts,rfl,rfl,hl,h1,h1o,hH⟩
    have e0:(Qm "").length=0:=by decide +kernel
    walk_at "r"
    refine Zi9 (K:=K) (SqL.of hys) (by rw [Zet h1,e0];omega) ?_
    have jl:=Zrr h1
    walk_at "r"
    refine s_rI (by omega) ?_
    walk_at "r"
    refine Zeh (by omega) ?_
    walk_at "r"
    obtain ⟨d,hd,hdm⟩:=Dy (xs:=SIG27.cps.toList) (i:=c / 7 % 27) (Qf _ (by decide)) (by rw [Zl9];exact Qh _ (by decide))
    refine M8 Zi6 hd ?_
    have l1:=Sy (Q7 "" ts) none (some (c / 15 % n))
    have l2:=Sy (Q7 "" ts) (some (c / 15 % n)) none
    refine K8 (by rw [Hj];omega) ?_
    walk_at "r"
    refine Zeh (by omega) ?_
    refine K8 (by rw [Fp,Hj];omega) ?_
    have jo:∀ c∈(Q7 "" ts).cps.toList,Ea c=true:=fun c hc=>by
     rw [Zpb] at hc
     obtain ⟨t,m,hc⟩:=Zj3 hc
     exact h1o t m c hc
    have sl:=Zja (Q7 "" ts) (c / 15 % n) (Qf _ (by omega))
    refine q _ _ (Zmh (d:=d) (by rw [Fp,Fp,Hj];omega) (by rw [Fp,Fp,Hj];omega) ?_ (by rw [Io,Io];simp) hdm) (by rw [Fp,Fp,Hj];omega) hH
    intro e he
    rw [Io,Io] at he
    rcases P4.mp he with he | he
    ·rcases P4.mp he with he | he
     ·exact jo e (Zgd he)
     ·have:e=d:=by simpa using he
      rw [this]
      exact P3.mp Zlw d hdm
    ·exact jo e (Zgd he)
noncomputable def Zfg:Sp:=fun vs H Q _=>∃ c:Int,vs=[.int c]/\∀ z:Int,0<=z->z < 10 ^ 18->Q (.int z) H
theorem Zl8:A2 ["_law_cell_here"] ["_law_cell_here"] (Am Jt):=by walk_at "sc"
theorem Zmb {f:Addr}{fd:FuncData}(F:Fun K "_law_number" "_law_number" Jt f fd)(T:Txt K mg):Ao P w K mg base Aq 1 f fd ["_law_cell_here"] Zfg:=by
 refine F.okq Zl8 (fun vs H Q E h=>?_) (fun cdv A outer s H vs Q E hr h=>?_)
 ·obtain ⟨a,rfl,_⟩:=h
  rfl
 ·obtain ⟨c,rfl,q⟩:=h
  refine ⟨_,Ag (Ar (Ay (A5 K hr.u200) (Ah A6 (qv 0) Ab) Ab (Ax _)) (Af (Ak (Ah A6 (Ah B8 (qv 0) Ab) Ab))) Av)
   (Ag (Ar (Ay (A5 K hr.u200) (Ah A6 (qv 0) Ab) Ab (Ax _)) (Af (Ak (Ah Jl (Ah Jl (Ah Zc9 Ab Ab) Ab) (Ah A6 (Ah B8 (qv 0) Ab) Ab)))) Av)
   (Af (Ak (Ah A6 (Ah Cc (Ah B8 (qv 0) Ab) Ab) (Ah Zc9 Ab Ab))))),?_⟩
  have h30:0<=c / 4 % 3:=Qf _ (by decide)
  have h31:c / 4 % 3 < 3:=Qh _ (by decide)
  walk_at "r"
  refine Aw (fun _=>?_) (fun _=>?_)
  ·walk_at "r"
   exact q _ h30 (by omega)
  ·walk_at "r"
   refine Aw (fun _=>?_) (fun _=>?_)
   ·walk_at "r"
    refine q _ ?_ ?_
    ·show 0<=(10:Int) ^ 18 - 1 - c / 4 % 3
     omega
    ·show (10:Int) ^ 18 - 1 - c / 4 % 3 < 10 ^ 18
     omega
   ·walk_at "r"
    exact q _ (Qf _ (by decide)) (Qh _ (by decide))
noncomputable def SmallV:V->Prop
 | .str s=>s.length<=1000
 | .int _=>True
 | .bl _=>True
 | .non=>True
 | _=>False
theorem SmallV.ty {v:V}(h:SmallV v){K:O0}{H:Hp}:∃ t,TyN K H v t/\C9 t "tuple" = false:=by
 cases v with
 | str s=>exact ⟨_,.str s h,rfl⟩
 | int i=>exact ⟨_,.int i,rfl⟩
 | bl b=>exact ⟨_,.bl b,rfl⟩
 | non=>exact ⟨_,.non,rfl⟩
 | _=>exact absurd h id
inductive E3:Dt->Nt->Prop where
 | fl {v:V} (h:SmallV v):E3 (.flat v) (.fl v)
 | tp {vs:List V} (h:∀ v∈vs,SmallV v):E3 (.tup (vs.map .flat)) (.tp vs)
theorem Ze8:∀{vs ws:List V},vs.map Dt.flat=ws.map Dt.flat->vs=ws
 | [],[],_=>rfl
 | [],_::_,h=>nomatch h
 | _::_,[],h=>nomatch h
 | v::r,w::q,h=>by
  rw [R4,R4] at h
  injection h with h1 h2
  injection h1 with h1
  rw [h1,Ze8 h2]
theorem IsN.nt {K:O0}{H:Hp}{v:V}{d:Dt}{nt:Nt}(h:IsN K H v d)(hd:E3 d nt):NtAt K H v nt:=by
 cases hd with
 | fl hs =>
  rcases h with ⟨_,e⟩ | ⟨a,vs,_,_,_,e⟩
  ·injection e with e
   obtain ⟨t,h1,h2⟩:=hs.ty (K:=K) (H:=H)
   exact ⟨e.symm,t,h1,h2⟩
  ·cases e
 | @tp ws hs =>
  rcases h with ⟨_,e⟩ | ⟨a,vs,h1,h2,h3,e⟩
  ·cases e
  ·injection e with e
   have:=Ze8 e
   subst this
   refine ⟨a,h1,h2,fun x hx=>?_⟩
   obtain ⟨t,h4,_⟩:=(hs x hx).ty (K:=K) (H:=H)
   exact ⟨t,h4⟩
noncomputable def Iw:List V:=[.str "gap",.str "odd",.str "num",.str "truth",.str "name",.str "plus",.str "minus",.str "less",.str "call",.str "if",.str "fn",.str "rec",.str "let"]
theorem Zcd {i:Int}(h0:0<=i)(h1:i < 13){wd:Str}(h:Bl Iw i=some (.str wd)):(i=0->wd = "gap")/\(1<=i->wd ≠ "gap")/\(i < 5->Bo wd=some 0)/\(5<=i->∃ k,Bo wd=some (k+1)):=by
 obtain e | e | e | e | e | e | e | e | e | e | e | e | e:i=0\/i=1\/i=2\/i=3\/i=4\/i=5\/i=6\/i=7\/i=8\/i=9\/i=10\/i=11\/i=12:=by omega
 all_goals (subst e;cases h)
 ·exact ⟨fun _=>rfl,fun z=>absurd z (by decide),fun _=>by decide +kernel,fun z=>absurd z (by decide)⟩
 ·exact ⟨fun z=>absurd z (by decide),fun _=>by decide +kernel,fun _=>by decide +kernel,fun z=>absurd z (by decide)⟩
 ·exact ⟨fun z=>absurd z (by decide),fun _=>by decide +kernel,fun _=>by decide +kernel,fun z=>absurd z (by decide)⟩
 ·exact ⟨fun z=>absurd z (by decide),fun _=>by decide +kernel,fun _=>by decide +kernel,fun z=>absurd z (by decide)⟩
 ·exact ⟨fun z=>absurd z (by decide),fun _=>by decide +kernel,fun _=>by decide +kernel,fun z=>absurd z (by decide)⟩
 ·exact ⟨fun z=>absurd z (by decide),fun _=>by decide +kernel,fun z=>absurd z (by decide),fun _=>⟨1,by decide +kernel⟩⟩
 ·exact ⟨fun z=>absurd z (by decide),fun _=>by decide +kernel,fun z=>absurd z (by decide),fun _=>⟨1,by decide +kernel⟩⟩
 ·exact ⟨fun z=>absurd z (by decide),fun _=>by decide +kernel,fun z=>absurd z (by decide),fun _=>⟨1,by decide +kernel⟩⟩
 ·exact ⟨fun z=>absurd z (by decide),fun _=>by decide +kernel,fun z=>absurd z (by decide),fun _=>⟨1,by decide +kernel⟩⟩
 ·exact ⟨fun z=>absurd z (by decide),fun _=>by decide +kernel,fun z=>absurd z (by decide),fun _=>⟨2,by decide +kernel⟩⟩
 ·exact ⟨fun z=>absurd z (by decide),fun _=>by decide +kernel,fun z=>absurd z (by decide),fun _=>⟨0,by decide +kernel⟩⟩
 ·exact ⟨fun z=>absurd z (by decide),fun _=>by decide +kernel,fun z=>absurd z (by decide),fun _=>⟨0,by decide +kernel⟩⟩
 ·exact ⟨fun z=>absurd z (by decide),fun _=>by decide +kernel,fun z=>absurd z (by decide),fun _=>⟨1,by decide +kernel⟩⟩
noncomputable def Lu (K:O0):Sp:=fun vs H Q _=>∃(c:Int)(p:Addr)(t0 t1 t2:Str),vs=[.int c,.ref p]/\SqL K H p [.str t0,.str t1,.str t2]/\A7 t0=true/\A7 t1=true/\A7 t2=true /\
 ∀(a:Addr)(wd:Str)(note:V)(n:Dt)(nt:Nt)(H':Hp),Same H H'->SqT K H' a [.str wd,note]->IsN K H' note n->(Bo wd).isSome=true->Bl Iw (c % 13)=some (.str wd)->E3 n nt->B2 wd nt=true->Q (.ref a) H'
theorem Kq {t0 t1 t2:Str}(n0:A7 t0=true)(n1:A7 t1=true)(n2:A7 t2=true)(c:Int):∃ t:Str,Bl ([.str t0,.str t1,.str t2]:List V) (c % 3)=some (.str t)/\A7 t=true:=by
 obtain ⟨v,hv,m⟩:=Dy (xs:=([.str t0,.str t1,.str t2]:List V)) (i:=c % 3) (Qf _ (by decide)) (Qh _ (by decide))
 simp only [Pb,Pp,or_false] at m
 rcases m with h | h | h <;> exact ⟨_,by rw [hv,h],by assumption⟩
theorem Zri {wd:Str}:Cr (.str wd) [.str "name",.str "fn",.str "let"]=decide (wd∈(["name", "fn", "let"]:List Str)):=by
 have:=Ix (t:=wd) (ws:=["name", "fn", "let"])
 rw [show ([V.str "name",V.str "fn",V.str "let"]:List V)=(["name", "fn", "let"]:List Str).map V.str from rfl,this]
 by_cases hm:wd∈(["name", "fn", "let"]:List Str)
 ·rw [decide_eq_true hm,Za7 hm]
 ·rw [decide_eq_false hm,Lb hm]
theorem Nh:A2 ["_law_cell_here", "_law_names_here", "_law_heads", "_law_word", "_law_more"] ["_law_cell_here", "_law_names_here"] (Am K5):=by walk_at "sc"
theorem Zr2 {f:Addr}{fd:FuncData}(F:Fun K "_law_head" "_law_head" K5 f fd)(T:Txt K mg)(C__law_odd:A4 P w K mg base 1 "_law_odd" ["_law_cell_here"] Zhc)(C__law_number:A4 P w K mg base 1 "_law_number" ["_law_cell_here"] Zfg):Ao P w K mg base Aq 2 f fd ["_law_cell_here", "_law_names_here"] (Lu K):=by
 refine F.okq Nh (fun vs H Q E h=>?_) (fun cdv A outer s H vs Q E hr h=>?_)
 ·obtain ⟨c,p,t0,t1,t2,rfl,_⟩:=h
  rfl
 ·obtain ⟨c,p,t0,t1,t2,rfl,hp,n0,n1,n2,q⟩:=h
  refine ⟨_,Ag (A3 2 Nh (Bv (Ib (xs:=[.str "gap",.str "odd",.str "num",.str "truth",.str "name",.str "plus",.str "minus",.str "less",.str "call",.str "if",.str "fn"]) rfl)))
   (Ag (A3 3 Nh (Ai K (Ah (Bj K) (qv 2) (Bv (Aa An (Aa An Ac)))) (Ah A6 (qv 0) Ab)))
   (Ag (A3 4 Nh (Ah B8 (qv 0) Ab))
   (Ag (Ar (Ay (A5 K hr.u200) (qv 3) An (Ax _)) (Af (Ak (A0 (Aa (qv 3) (Aa (A1 C__law_odd hr.m (Aa (qv 4) Ac)) Ac))))) Av)
   (Ag (Ar (Ay (A5 K hr.u200) (qv 3) An (Ax _)) (Af (Ak (A0 (Aa (qv 3) (Aa (A1 C__law_number hr.m (Aa (qv 4) Ac)) Ac))))) Av)
   (Ag (Ar (Ay (A5 K hr.u200) (qv 3) An (Ax _)) (Af (Ak (A0 (Aa (qv 3) (Aa (Co (A5 K hr.u200) (Ah A6 (qv 4) Ab) Ab (Ax _)) Ac))))) Av)
   (Ag (Ar (Ay (Eh K) (qv 3) (A0 (Aa An (Aa An (Aa An Ac)))) (by rfl)) (Af (Ak (A0 (Aa (qv 3) (Aa (Ai K (qv 1) (Ah A6 (qv 4) Ab)) Ac))))) Av)
   (Ag (Ar (Ay (A5 K hr.u200) (qv 3) An (Ax _)) (Af (Ak (A0 (Aa (qv 3) (Aa (A0 (Aa (Ai K (qv 1) (Ah A6 (qv 4) Ab)) (Aa (Ai K (qv 1) (Ah A6 (Ah B8 (qv 4) Ab) Ab)) Ac))) Ac))))) Av)
   (Af (Ak (A0 (Aa (qv 3) (Aa C0 Ac)))))))))))),?_⟩
  walk_at "r"
  refine ⟨sz11,fun p1 h1=>?_⟩
  walk_at "r"
  refine ⟨Bq,fun p2 h2=>?_⟩
  have n12:p1≠p2:=fun z=>by rw [z,<- z,Ad] at h2;cases h2
  refine Zqc (by rw [Au n12];exact Ad) Ad (by show 12+1<=sizeLine;decide) fun p3 h3=>?_
  walk_at "r"
  obtain ⟨v,hv,m⟩:=Dy (xs:=([.str "gap",.str "odd",.str "num",.str "truth",.str "name",.str "plus",.str "minus",.str "less",.str "call",.str "if",.str "fn"]++[.str "rec",.str "let"]:List V)) (i:=c % 13) (Qf _ (by decide)) (Qh _ (by decide))
  obtain ⟨wd,rfl,hps⟩:∃ t,v=V.str t/\(Bo t).isSome=true:=by
   simp only [Vx,Uo,Pb,Pp,or_false] at m
   rcases m with h | h | h | h | h | h | h | h | h | h | h | h | h <;> exact ⟨_,h,by decide +kernel⟩
  have h5:Bl Iw (c % 13)=some (.str wd):=hv
  refine Ca (SqL.of Ad) hv ?_
  have sm3:=((Same.upd (o:=.lst [.str "gap",.str "odd",.str "num",.str "truth",.str "name",.str "plus",.str "minus",.str "less",.str "call",.str "if",.str "fn"]) h1).put (o:=.lst [.str "rec",.str "let"]) h2).put (o:=.lst ([.str "gap",.str "odd",.str "num",.str "truth",.str "name",.str "plus",.str "minus",.str "less",.str "call",.str "if",.str "fn"]++[.str "rec",.str "let"])) h3
  revert sm3
  generalize upd (upd (upd H p1 _) p2 _) p3 _=H3
  intro sm3
  have two:∀(note:V)(n:Dt)(nt:Nt)(H4:Hp),Same H3 H4->IsN K H4 note n->E3 n nt->B2 wd nt=true->([V.str wd,note]:List V).length<=sizeLine/\∀ p,H4 p=none->Q (.ref p) (upd H4 p (.tup [.str wd,note])):=fun note n nt H4 s4 hn hd hb =>
   ⟨Bq,fun p4 h4=>q p4 wd note n nt _ (sm3.trans (s4.put h4)) (SqT.of Ad) (hn.same (SameT.new h4)) hps h5 hd hb⟩
  have nb:∀ nt,B2 wd nt=(if wd = "odd" then E4 nt else if wd = "num" then Eb nt else if wd = "truth" then Gr nt else if wd∈(["name", "fn", "let"]:List Str) then Hx nt else if wd = "rec" then twoN nt else Hh nt):=fun _=>rfl
  walk_at "r"
  rw [Ci]
  refine Aw (fun h=>?_) (fun h=>?_)
  ·walk_at "r"
   refine ⟨_,rfl,fun t H4 ho hl s4=>?_⟩
   walk_at "r"
   exact two _ _ _ _ s4 (.inl ⟨rfl,rfl⟩) (.fl (show t.length<=1000 by omega)) (by rw [nb,if_pos (of_decide_eq_true h)];exact ho)
  have g1:¬ wd = "odd" := fun x=>h (decide_eq_true x)
  walk_at "r"
  rw [Ci]
  refine Aw (fun h=>?_) (fun h=>?_)
  ·walk_at "r"
   refine ⟨_,rfl,fun z z0 z1=>?_⟩
   walk_at "r"
   exact two _ _ _ _ (Same.refl _) (.inl ⟨rfl,rfl⟩) (.fl (v:=.int z) trivial) (by rw [nb,if_neg g1,if_pos (of_decide_eq_true h)];show (decide (0<=z) && decide (z < 10 ^ 18))=true;rw [decide_eq_true z0,decide_eq_true z1];rfl)
  have g2:¬ wd = "num" := fun x=>h (decide_eq_true x)
  walk_at "r"
  rw [Ci]
  refine Aw (fun h=>?_) (fun h=>?_)
  ·walk_at "r"
   exact two _ _ _ _ (Same.refl _) (.inl ⟨rfl,rfl⟩) (.fl (v:=.bl _) trivial) (by rw [nb,if_neg g1,if_neg g2,if_pos (of_decide_eq_true h)];rfl)
  have g3:¬ wd = "truth" := fun x=>h (decide_eq_true x)
  walk_at "r"
  refine ⟨Bk,fun p4 h4=>?_⟩
  refine Eg (.inr (SqT.of Ad)) rfl rfl ?_
  have s4:=Same.upd (o:=.tup [.str "name",.str "fn",.str "let"]) h4
  rw [if_neg O8,Zri]
  walk_at "r"
  refine Aw (fun h=>?_) (fun h=>?_)
  ·walk_at "r"
   obtain ⟨t,ht,hnt⟩:=Kq n0 n1 n2 (c / 13)
   refine Ca ((sm3.trans s4).seq hp) ht ?_
   walk_at "r"
   exact two _ _ _ _ s4 (.inl ⟨rfl,rfl⟩) (.fl (show t.length<=1000 by have:=(Hs hnt).2;omega)) (by rw [nb,if_neg g1,if_neg g2,if_neg g3,if_pos (of_decide_eq_true h)];exact hnt)
  have g4:¬ wd∈(["name", "fn", "let"]:List Str):=fun x=>h (decide_eq_true x)
  walk_at "r"
  rw [Ci]
  refine Aw (fun h=>?_) (fun h=>?_)
  ·walk_at "r"
   obtain ⟨t,ht,hnt⟩:=Kq n0 n1 n2 (c / 13)
   obtain ⟨u,hu,hnu⟩:=Kq n0 n1 n2 (c / 13 / 3)
   refine Ca ((sm3.trans s4).seq hp) ht ?_
   walk_at "r"
   refine Ca ((sm3.trans s4).seq hp) hu ?_
   walk_at "r"
   refine ⟨Bq,fun p5 h5=>?_⟩
   walk_at "r"
   refine two _ _ _ _ (s4.put h5) (.inr ⟨p5,[.str t,.str u],rfl,SqT.of Ad,rfl,rfl⟩) (.tp (fun v hv=>?_)) (by rw [nb,if_neg g1,if_neg g2,if_neg g3,if_neg g4,if_pos (of_decide_eq_true h)];show (A7 t && A7 u)=true;rw [hnt,hnu];rfl)
   have l1:=(Hs hnt).2
   have l2:=(Hs hnu).2
   simp only [Pb,Pp,or_false] at hv
   rcases hv with rfl | rfl
   ·show t.length<=1000
    omega
   ·show u.length<=1000
    omega
  ·have g5:¬ wd = "rec" := fun x=>h (decide_eq_true x)
   walk_at "r"
   exact two _ _ _ _ s4 (.inl ⟨rfl,rfl⟩) (.fl (v:=.non) trivial) (by rw [nb,if_neg g1,if_neg g2,if_neg g3,if_neg g4,if_neg g5];rfl)
theorem Za5 {wd:Str}{m:Nat}:∀{ps:List (Str×Nat)},ps.lookup wd=some m->(wd,m)∈ps
 | [],h=>nomatch h
 | (a,b)::r,h=>by
  rw [Qu] at h
  split at h
  ·rename_i e
   have e:wd=a:=by simpa using e
   cases h
   rw [e]
   exact Sb
  ·exact Q0 _ (Za5 h)
theorem Zls:PN.all (fun x=>(Cr (.str x.1) [.str "plus",.str "minus",.str "less",.str "call",.str "let"] == decide (x.2=2)) && (decide (x.1 = "if") == decide (x.2=3)) && (Cr (.str x.1) [.str "fn",.str "rec"] == decide (x.2=1)) && decide (x.2<=3) && decide (x.1.length<=10))=true:=by decide +kernel
theorem Iy {wd:Str}{m:Nat}(h:Bo wd=some m):Cr (.str wd) [.str "plus",.str "minus",.str "less",.str "call",.str "let"]=decide (m=2)/\decide (wd = "if")=decide (m=3)/\Cr (.str wd) [.str "fn",.str "rec"]=decide (m=1)/\m<=3/\wd.length<=10:=by
 have:=P3.mp Zls _ (Za5 h)
 simp only [Qk,beq_iff_eq,decide_eq_true_eq] at this
 exact ⟨this.1.1.1.1,this.1.1.1.2,this.1.1.2,this.1.2,this.2⟩
noncomputable def Lv:Sp:=fun vs H Q _=>∃(wd:Str)(m:Nat),vs=[.str wd]/\Bo wd=some m/\∀(H':Hp),Same H H'->Q (.int m) H'
theorem Zrk:A2 ["_law_word"] ["_law_word"] (Am Lo):=by walk_at "sc"
theorem Zl4 {f:Addr}{fd:FuncData}(F:Fun K "_law_many" "_law_many" Lo f fd)(T:Txt K mg):Ao P w K mg base Aq 1 f fd ["_law_word"] Lv:=by
 refine F.okq Zrk (fun vs H Q E h=>?_) (fun cdv A outer s H vs Q E hr h=>?_)
 ·obtain ⟨a,m,rfl,_⟩:=h
  rfl
 ·obtain ⟨wd,m,rfl,hm,q⟩:=h
  refine ⟨_,Ag (Ar (Ay (Eh K) (qv 0) (A0 (Ib (xs:=[.str "plus",.str "minus",.str "less",.str "call",.str "let"]) rfl)) (by rfl)) (Af (Ak Ab)) Av)
   (Ag (Ar (Ay (A5 K hr.u200) (qv 0) An (Ax _)) (Af (Ak Ab)) Av)
   (Af (Ak (F6 Zaq (by rfl) T.int (by decide +kernel) (Aa (Co (Eh K) (qv 0) (A0 (Aa An (Aa An Ac))) (by rfl)) Ac))))),?_⟩
  obtain ⟨e1,e2,e3,e4,_⟩:=Iy hm
  walk_at "r"
  refine ⟨sz5,fun p1 h1=>?_⟩
  refine Eg (.inr (SqT.of Ad)) rfl rfl ?_
  have s1:=Same.upd (o:=.tup [.str "plus",.str "minus",.str "less",.str "call",.str "let"]) h1
  rw [if_neg O8,e1]
  walk_at "r"
  refine Aw (fun h=>?_) (fun h=>?_)
  ·have h:m=2:=of_decide_eq_true h
   subst h
   walk_at "r"
   exact q _ s1
  have n2:m≠2:=fun x=>h (decide_eq_true x)
  walk_at "r"
  rw [Ci,e2]
  refine Aw (fun h=>?_) (fun h=>?_)
  ·have h:m=3:=of_decide_eq_true h
   subst h
   walk_at "r"
   exact q _ s1
  have n3:m≠3:=fun x=>h (decide_eq_true x)
  walk_at "r"
  refine ⟨Bq,fun p2 h2=>?_⟩
  refine Eg (.inr (SqT.of Ad)) rfl rfl ?_
  rw [if_neg O8,e3]
  walk_at "r"
  have q':=q _ (s1.put (o:=.tup [.str "fn",.str "rec"]) h2)
  by_cases z:m=1
  ·subst z
   exact q'
  ·have z0:m=0:=by omega
   subst z0
   exact q'
mutual
noncomputable def Bf:Tr->Nat
 | .mk _ _ ps=>1+Ba ps
noncomputable def Ba:List Tr->Nat
 | []=>0
 | t::r=>max (Bf t) (Ba r)
end
theorem Da (w:Str)(n:Dt)(ts:List Tr):Bf (.mk w n ts)=1+Ba ts:=by rw [Bf]
theorem Hd:Ba []=0:=by rw [Ba]
theorem Lr (t:Tr)(r:List Tr):Ba (t::r)=max (Bf t) (Ba r):=by rw [Ba]
theorem Nr:Bf gapT=1:=by unfold gapT;rw [Bf,Ba]
theorem Zl5 (a b:List Tr):Ba (a++b)=max (Ba a) (Ba b):=by
 induction a with
 | nil=>rw [Uo,Ba];omega
 | cons t r ih=>rw [Vx,Ba,Ba,ih];omega
theorem Kc (a:List Tr)(t:Tr):Ba (a++[t])=max (Ba a) (Bf t):=by rw [Zl5,Ba,Ba];omega
theorem Mu {ts:List Tr}{j:Nat}{t:Tr}(h:ts[j]?=some t):Bf t<=Ba ts:=by
 induction ts generalizing j with
 | nil=>simp at h
 | cons x r ih =>
  rw [Ba]
  cases j with
  | zero=>simp at h;subst h;omega
  | succ j=>have:=ih (j:=j) (by simpa using h);omega
theorem Zgp (ts:List Tr)(j:Nat)(u:Tr):Ba (ts.set j u)<=max (Ba ts) (Bf u):=by
 induction ts generalizing j with
 | nil=>simp [Ba]
 | cons x r ih =>
  cases j with
  | zero=>rw [List.set_cons_zero,Ba,Ba];omega
  | succ j=>rw [List.set_cons_succ,Ba,Ba];have:=ih j;omega
inductive TrOk:Tr->Prop where
 | mk {wd:Str} {d:Dt} {nt:Nt} {ts:List Tr} (hp:Bo wd=some ts.length) (hd:E3 d nt) (hn:B2 wd nt=true) (hs:∀ t∈ts,TrOk t):TrOk (.mk wd d ts)
theorem TrOk.gap:TrOk gapT:=.mk (by decide +kernel) (.fl (v:=.non) trivial) (by decide +kernel) (fun t h=>nomatch h)
theorem TrOk.let {u:Str}{s t:Tr}(hu:A7 u=true)(hs:TrOk s)(ht:TrOk t):TrOk (.mk "let" (.flat (.str u)) [s,t]) :=
 .mk (by show Bo "let" = some 2;decide +kernel) (.fl (show u.length<=1000 by have:=(Hs hu).2;omega)) (by
  have e:B2 "let" (.fl (.str u))=A7 u:=by
   unfold B2
   rw [if_neg (by decide +kernel),if_neg (by decide +kernel),if_neg (by decide +kernel),if_pos (by decide +kernel)]
   rfl
  rw [e];exact hu) (fun x hx=>by
  simp only [Pb,Pp,or_false] at hx
  rcases hx with rfl | rfl <;> assumption)
theorem TrOk.call {s t:Tr}(hs:TrOk s)(ht:TrOk t):TrOk (.mk "call" (.flat .non) [s,t]) :=
 .mk (by show Bo "call" = some 2;decide +kernel) (.fl (v:=.non) trivial) (by decide +kernel) (fun x hx=>by
  simp only [Pb,Pp,or_false] at hx
  rcases hx with rfl | rfl <;> assumption)
theorem M9 {ts:List Tr}{t:Tr}(h:∀ x∈ts,TrOk x)(ht:TrOk t):∀ x∈ts++[t],TrOk x:=fun x hx=>by
 rcases P4.mp hx with hx | hx
 ·exact h x hx
 ·rw [P8.mp hx];exact ht
noncomputable def Zfl (K:O0):Sp:=fun vs H Q _=>∃(c p:Addr)(ns:List Int)(t0 t1 t2:Str),vs=[.ref c,.ref p]/\SqL K H c (ns.map V.int)/\ns.length<=63/\SqL K H p [.str t0,.str t1,.str t2]/\A7 t0=true/\A7 t1=true/\A7 t2=true /\
 ∀(v:V)(t:Tr)(H':Hp),Same H H'->TrAt K H' v t->TrOk t->t.size<=1+5 * ns.length->Bf t<=1+2 * ns.length->Q v H'
theorem sc_law_tree:A2 ["_law_cells", "_law_names_here", "_law_left", "_law_cell_here", "_law_word", "_law_remark", "_law_parts", "_law_k", "_law_tree_here", "_law_form_here"] ["_law_cells", "_law_names_here"] (Am L8):=by walk_at "sc"
noncomputable def Zlu (K:O0)(H:Hp)(c p pl:Addr)(i:Nat)(σ:St)(H':Hp):Prop:=∃(v3 v4 v5 v6 v7 v8 v9:Option V)(lv:List V)(lt:List Tr),σ=[some (.ref c),some (.ref p),some (.ref pl),v3,v4,v5,v6,v7,v8,v9]/\H' pl=some (.lst lv)/\Al (TrAt K H') lv lt/\As lt<=4 * i/\lt.length<=i/\(∀ t∈lt,TrOk t)/\Ba lt<=i+1/\Same H H'
theorem TrAt.al {K:O0}{H H':Hp}{vs:List V}{ts:List Tr}(h:Al (TrAt K H) vs ts)(e:SameT H H'):Al (TrAt K H') vs ts:=h.mono fun _ _ a=>a.sameT e
theorem Zt9 {f:Addr}{fd:FuncData}(F:Fun K "_law_tree" "_law_tree" L8 f fd)(T:Txt K mg)(C__law_head:A4 P w K mg base 2 "_law_head" ["_law_cell_here", "_law_names_here"] (Lu K))(C__law_many:A4 P w K mg base 1 "_law_many" ["_law_word"] Lv):Ao P w K mg base Aq 3 f fd ["_law_cells", "_law_names_here"] (Zfl K):=by
 refine F.okq sc_law_tree (fun vs H Q E h=>?_) (fun cdv A outer s H vs Q E hr h=>?_)
 ·obtain ⟨c,p,ns,t0,t1,t2,rfl,_⟩:=h
  rfl
 ·obtain ⟨c,p,ns,t0,t1,t2,rfl,hc,hn,hp,n0,n1,n2,q⟩:=h
  refine ⟨_,Ag (A3 2 sc_law_tree (Bv Ac))
   (Ag (C6 Ql rfl (Fw K (qv 0)) (A9 (i:=3) sc_law_tree.nd rfl (Or.inl rfl)) (Ag (Hn (A1 C__law_head hr.m (Aa (qv 3) (Aa (qv 1) Ac))) (G9 K (n:=2) rfl (Cw (A9 (i:=4) sc_law_tree.nd rfl (Or.inl rfl)) (Cw (A9 (i:=5) sc_law_tree.nd rfl (Or.inl rfl)) (Gf)))))
   (Ag (A3 6 sc_law_tree (Bv Ac))
   (Ag (C6 Ql rfl (Ez rfl T.range (Aa (A1 C__law_many hr.m (Aa (qv 4) Ac)) Ac)) (A9 (i:=7) sc_law_tree.nd rfl (Or.inl rfl)) (Af (Ar (QW.qt (Fg (Ay Mx (Bd (Cp K) (by rfl) T.len (by decide +kernel) (Aa (qv 2) Ac)) Ab (Ax _)) (Gq (Ay Mx (Ah A6 (Ah A6 (Ah Cc (qv 3) (Ah (Bj K) (Ah Cc Ab (qv 7)) Ab)) Ab) Ab) Ab (Ax _))))) (Af (Ce (Cv K Pz Qr Qs Dn (qv 6) (Aa (M6 K Pz Vb Vc Oq (qv 2)) Ac)))) (Af (Ce (Cv K Pz Qr Qs Dn (qv 6) (Aa (A0 (Aa An (Aa C0 (Aa (A0 Ac) Ac)))) Ac)))))))
   (Af (Ce (Cv K Pz Qr Qs Dn (qv 2) (Aa (A0 (Aa (qv 4) (Aa (qv 5) (Aa (F6 (N4 K) (by rfl) T.tuple (by decide +kernel) (Aa (qv 6) Ac)) Ac)))) Ac))))))))
   (Ag (A3 8 sc_law_tree (A0 (Aa An (Aa C0 (Aa (A0 Ac) Ac)))))
   (Ag (C6 Ql rfl (Zmn K rfl T.enumerate (Aa (qv 2) Ac)) (G9 K (n:=2) rfl (Cw (A9 (i:=7) sc_law_tree.nd rfl (Or.inl rfl)) (Cw (A9 (i:=9) sc_law_tree.nd rfl (Or.inl rfl)) (Gf)))) (Af (Ar (Ay (A5 K hr.u200) (qv 7) Ab (Ax _)) (Af (A3 8 sc_law_tree (qv 9))) (Af (Ar (Ay (A5 K hr.u200) (Ah A6 (qv 7) Ab) Ab (Ax _)) (Af (A3 8 sc_law_tree (A0 (Aa An (Aa (Ai K (qv 1) (Ah A6 (qv 7) Ab)) (Aa (A0 (Aa (qv 8) (Aa (qv 9) Ac))) Ac)))))) (Af (A3 8 sc_law_tree (A0 (Aa An (Aa C0 (Aa (A0 (Aa (qv 9) (Aa (qv 8) Ac))) Ac)))))))))))
   (Af (Ak (qv 8)))))),?_⟩
  have bg:=Ct
  walk_at "r"
  refine ⟨Cu,fun pl hpl=>?_⟩
  have s1:=Same.upd (o:=.lst []) hpl
  walk_at "r"
  refine .inl ⟨c,rfl,⟨_,s1.seq hc⟩,?_⟩
  refine Zaw (K:=K) (a:=c) (xs:=ns.map V.int) (Zlu K H c p pl) ⟨_,_,_,_,_,_,_,[],[],rfl,Ad,.nil,Qb _,Qb _,(fun t h=>nomatch h),(by rw [Hd];omega),s1⟩ ?_ ?_ ?_
  ·rintro i σ' H' _ ⟨_,_,_,_,_,_,_,_,_,_,_,_,_,_,_,_,sm⟩
   exact sm.seq hc
  ·rintro i x σ' H1 hx ⟨v3,v4,v5,v6,v7,v8,v9,lv,lt,rfl,el,al,hsz,hln,hok,hdp,sm⟩
   obtain ⟨z,_,rfl⟩:=Sk.mp (Pt hx)
   have hi:=(Pl.mp hx).1
   rw [Pq] at hi
   walk_at "r"
   refine ⟨z,p,t0,t1,t2,rfl,sm.seq hp,n0,n1,n2,fun a wd note n nt H2 s2 qa hno hps _ hdn hnb=>?_⟩
   refine Gw qa rfl ?_
   walk_at "r"
   refine ⟨Cu,fun pp hpp=>?_⟩
   have el2:=s2 _ _ el
   have npp:pl≠pp:=Bz el2 hpp
   have s3:=Same.upd (o:=.lst []) hpp
   walk_at "r"
   obtain ⟨k,hk⟩:=R7.mp hps
   have k3:=(Iy hk).2.2.2.1
   refine ⟨wd,k,rfl,hk,fun H3 s4=>?_⟩
   have sm3:=sm.trans (s2.trans (s3.trans s4))
   have hpp0:H pp=none:=(sm.trans s2).free hpp
   walk_at "r"
   refine ⟨by omega,by omega,?_⟩
   refine Nm (n:=(k:Int).toNat) (fun j σ5 H5=>∃(v7:Option V)(lv5 pv5:List V)(lt5 pt5:List Tr),σ5=[some (.ref c),some (.ref p),some (.ref pl),some (.int z),some (.str wd),some note,some (.ref pp),v7,v8,v9]/\H5 pl=some (.lst lv5)/\H5 pp=some (.lst pv5)/\Al (TrAt K H5) lv5 lt5/\Al (TrAt K H5) pv5 pt5/\pt5.length=j/\(∀ t∈lt5,TrOk t)/\(∀ t∈pt5,TrOk t)/\As lt5+As pt5<=As lt+j/\lt5.length<=i/\Ba lt5<=i+1/\Ba pt5<=i+1/\SameT H3 H5/\Same H H5)
    ⟨_,lv,[],lt,[],rfl,s4 _ _ (s3 _ _ el2),s4 _ _ Ad,TrAt.al al (s2.trans (s3.trans s4)).t,.nil,rfl,hok,(fun t h=>nomatch h),by simp [As],hln,hdp,(by rw [Hd];omega),SameT.refl _,sm3⟩ ?_ ?_
   ·rintro j σ5 H5 hj ⟨v7',lv5,pv5,lt5,pt5,rfl,e5l,e5p,al5,ap5,hpt,ok5,okp,hs5,hl5,hd5,hq5,t5,sm5⟩
    have hpv:pv5.length=j:=by rw [ap5.1,hpt]
    have gap:∀ σ6:St,σ6=[some (.ref c),some (.ref p),some (.ref pl),some (.int z),some (.str wd),some note,some (.ref pp),some (.int (0+(j:Int))),v8,v9] ->
      ∀ pa,H5 pa=none->∀ pb,upd H5 pa (.tup []) pb=none->Zc5 (.ref pp) [.ref pb] (upd (upd H5 pa (.tup [])) pb (.tup [.str "gap",.non,.ref pa])) fun _ H6=>∃(v7:Option V)(lv5 pv5:List V)(lt5 pt5:List Tr),σ6=[some (.ref c),some (.ref p),some (.ref pl),some (.int z),some (.str wd),some note,some (.ref pp),v7,v8,v9]/\H6 pl=some (.lst lv5)/\H6 pp=some (.lst pv5)/\Al (TrAt K H6) lv5 lt5/\Al (TrAt K H6) pv5 pt5/\pt5.length=j+1/\(∀ t∈lt5,TrOk t)/\(∀ t∈pt5,TrOk t)/\As lt5+As pt5<=As lt+(j+1)/\lt5.length<=i/\Ba lt5<=i+1/\Ba pt5<=i+1/\SameT H3 H6/\Same H H6:=fun σ6 e6 pa hpa pb hpb=>by
     have s6:=(Same.upd (o:=.tup []) hpa).put (o:=.tup [.str "gap",.non,.ref pa]) hpb
     have e6p:=s6 _ _ e5p
     have t6:SameT H5 (upd (upd (upd H5 pa (.tup [])) pb (.tup [.str "gap",.non,.ref pa])) pp (.lst (pv5++[.ref pb]))):=s6.t.trans (SameT.set e6p)
     refine Du e6p (by omega) ⟨_,lv5,pv5++[.ref pb],lt5,pt5++[gapT],e6,by rw [Au npp];exact s6 _ _ e5l,Ad,TrAt.al al5 t6,(TrAt.al ap5 t6).snoc ?_,by simp [hpt],ok5,M9 okp TrOk.gap,?_,hl5,hd5,(by rw [Kc,Nr];omega),t5.trans t6,(sm5.trans s6).over hpp0⟩
     ·exact TrAt.gap ((SameT.set e6p).tup (SqT.of Ad)) (((SameT.new (o:=.tup [.str "gap",.non,.ref pa]) hpb).trans (SameT.set e6p)).tup (SqT.of Ad))
     ·have e1:As [gapT]=1:=by rw [As,N1,As]
      rw [Fc,e1]
      omega
    walk_at "r"
    refine Lf (SqL.of e5l) ?_
    walk_at "r"
    by_cases hlv:lv5=[]
    ·subst hlv
     refine iteF ?_
     walk_at "r"
     refine B3 (SqL.of e5p) ?_
     walk_at "r"
     refine ⟨Cu,fun pa hpa=>?_⟩
     walk_at "r"
     refine ⟨Bk,fun pb hpb=>?_⟩
     walk_at "r"
     exact gap _ rfl pa hpa pb hpb
    ·obtain ⟨lv6,x6,lt6,t6,rfl,rfl,al6,hx6⟩:=al5.last hlv
     have hne:decide ((0:Int) < ((lv6++[x6]).length:Int))=true:=decide_eq_true (by rw [Pm,Rl];omega)
     rw [hne]
     walk_at "r"
     refine s_mul_r (by omega) (by omega) ?_
     walk_at "r"
     refine Aw (fun _=>?_) (fun _=>?_)
     ·walk_at "r"
      refine B3 (SqL.of e5p) ?_
      walk_at "r"
      refine B3 (SqL.of e5l) ?_
      refine Zcn e5l ?_
      walk_at "r"
      have e6p:upd H5 pl (.lst lv6) pp=some (.lst pv5):=by rw [Au npp.symm];exact e5p
      have t6':SameT H5 (upd (upd H5 pl (.lst lv6)) pp (.lst (pv5++[x6]))):=(SameT.set e5l).trans (SameT.set e6p)
      have hs6:As (lt6++[t6])=As lt6+t6.size:=by rw [Fc,As,As];omega
      refine Du e6p (by omega) ⟨_,lv6,pv5++[x6],lt6,pt5++[t6],rfl,by rw [Au npp,Ad],Ad,TrAt.al al6 t6',(TrAt.al ap5 t6').snoc (hx6.sameT t6'),by simp [hpt],fun t ht=>ok5 t (Ud _ ht),M9 okp (ok5 t6 (by simp)),?_,?_,(by rw [Kc] at hd5;omega),(by rw [Kc] at hd5 ⊢;omega),t5.trans t6',(sm5.over hpl).over hpp0⟩
      ·have e2:As (pt5++[t6])=As pt5+t6.size:=by rw [Fc,As,As];omega
       omega
      ·rw [Pm,Rl] at hl5
       omega
     ·walk_at "r"
      refine B3 (SqL.of e5p) ?_
      walk_at "r"
      refine ⟨Cu,fun pa hpa=>?_⟩
      walk_at "r"
      refine ⟨Bk,fun pb hpb=>?_⟩
      walk_at "r"
      exact gap _ rfl pa hpa pb hpb
   ·rintro σ5 H5 ⟨v7',lv5,pv5,lt5,pt5,rfl,e5l,e5p,al5,ap5,hpt,ok5,okp,hs5,hl5,hd5,hq5,t5,sm5⟩
    walk_at "r"
    refine B3 (SqL.of e5l) ?_
    walk_at "r"
    refine Nj (SqL.of e5p) fun pq hpq=>?_
    walk_at "r"
    refine ⟨Bk,fun pr hpr=>?_⟩
    walk_at "r"
    have s6:=(Same.upd (o:=.tup pv5) hpq).put (o:=.tup [.str wd,note,.ref pq]) hpr
    have e6l:=s6 _ _ e5l
    have hll:lv5.length<=i:=by rw [al5.1];exact hl5
    have t6:SameT H5 (upd (upd (upd H5 pq (.tup pv5)) pr (.tup [.str wd,note,.ref pq])) pl (.lst (lv5++[.ref pr]))):=s6.t.trans (SameT.set e6l)
    refine Du e6l (by omega) ⟨_,_,_,_,_,_,_,lv5++[.ref pr],lt5++[.mk wd n pt5],rfl,Ad,(TrAt.al al5 t6).snoc ?_,?_,by simp;omega,M9 ok5 (.mk (by rw [hpt];simpa using hk) hdn hnb okp),(by rw [Kc,Da];omega),(sm5.trans s6).over hpl⟩
    ·have ap6:=TrAt.al ap5 t6
     exact .mk ((SameT.set e6l).tup (SqT.of Ad)) (hno.same (((s3.trans s4).t.trans t5).trans t6)) (((SameT.new (o:=.tup [.str wd,note,.ref pq]) hpr).trans (SameT.set e6l)).tup (SqT.of Ad)) ap6.1 ap6.2
    ·have e1:As (lt5++[.mk wd n pt5])=As lt5+(1+As pt5):=by rw [Fc,As,As,Tr.size];omega
     omega
  ·rintro σ' H1 ⟨v3,v4,v5,v6,v7,v8,v9,lv,lt,rfl,el,al,hsz,hln,hok,hdp,sm⟩
   rw [Pq] at hsz hln hdp
   walk_at "r"
   refine ⟨Cu,fun pa hpa=>?_⟩
   walk_at "r"
   refine ⟨Bk,fun pb hpb=>?_⟩
   have s2:=(Same.upd (o:=.tup []) hpa).put (o:=.tup [.str "gap",.non,.ref pa]) hpb
   walk_at "r"
   refine ⟨pl,lv,rfl,SqL.of (s2 _ _ el),?_⟩
   refine Zop (K:=K) (a:=pl) (xs:=lv) (fun i σ5 H5=>∃(v7 v9:Option V)(tv:V)(t:Tr),σ5=[some (.ref c),some (.ref p),some (.ref pl),v3,v4,v5,v6,v7,some tv,v9]/\TrAt K H5 tv t/\TrOk t/\t.size<=1+As (lt.take i)+i/\Bf t<=ns.length+1+i/\Same H1 H5)
    ⟨_,_,_,gapT,rfl,TrAt.gap (SqT.of Ad) ((SameT.new (o:=.tup [.str "gap",.non,.ref pa]) hpb).tup (SqT.of Ad)),TrOk.gap,by rw [N1];omega,by rw [Nr];omega,s2⟩ ?_ ?_ ?_
   ·rintro i σ5 H5 _ ⟨_,_,_,_,_,_,_,_,_,sm5⟩
    exact SqL.of (sm5 _ _ el)
   ·rintro i x tt σ5 H5 hx htt ⟨v7',v9',tv,t,rfl,htv,hto,hts,htd,sm5⟩
    obtain ⟨tx,htx,hax⟩:=al.get hx
    have hxo:=hok tx (Pt htx)
    have hxd:=Mu htx
    have s6:=Same.upd (o:=.tup [.int i,x]) htt
    have hst:As (lt.take (i+1))=As (lt.take i)+tx.size:=by
     rw [Vt,htx,Fc]
     show _+As [tx]=_
     rw [As,As]
     omega
    refine Gw (SqT.of Ad) rfl ?_
    walk_at "r"
    refine Aw (fun _=>?_) (fun _=>?_)
    ·walk_at "r"
     exact ⟨_,_,x,tx,rfl,hax.same (sm5.trans s6),hxo,by omega,by omega,sm5.trans s6⟩
    walk_at "r"
    refine Aw (fun _=>?_) (fun _=>?_)
    ·walk_at "r"
     obtain ⟨u,hu,hnu⟩:=Kq n0 n1 n2 (i:Int)
     refine Ca ((sm.trans (sm5.trans s6)).seq hp) hu ?_
     walk_at "r"
     refine ⟨Bq,fun p8 h8=>?_⟩
     walk_at "r"
     refine ⟨Bk,fun p9 h9=>?_⟩
     walk_at "r"
     have s8:=s6.trans ((Same.upd (o:=.tup [tv,x]) h8).put (o:=.tup [.str "let",.str u,.ref p8]) h9)
     have ax:=hax.same (sm5.trans s8)
     have at':=htv.same s8
     have e8:=(SameT.new (o:=.tup [.str "let",.str u,.ref p8]) h9).tup (K:=K) (SqT.of Ad)
     refine ⟨_,_,.ref p9,.mk "let" (.flat (.str u)) [t,tx],rfl,.mk (SqT.of Ad) (.inl ⟨rfl,rfl⟩) e8 rfl fun j v y f1 f2=>?_,TrOk.let hnu hto hxo,?_,(by rw [Da,Lr,Lr,Hd];omega),sm5.trans s8⟩
     ·match j,f1,f2 with
      | 0,f1,f2=>cases f1;cases f2;exact at'
      | 1,f1,f2=>cases f1;cases f2;exact ax
     ·rw [Tr.size,As,As,As]
      omega
    ·walk_at "r"
     refine ⟨Bq,fun p8 h8=>?_⟩
     walk_at "r"
     refine ⟨Bk,fun p9 h9=>?_⟩
     walk_at "r"
     have s8:=s6.trans ((Same.upd (o:=.tup [x,tv]) h8).put (o:=.tup [.str "call",.non,.ref p8]) h9)
     have ax:=hax.same (sm5.trans s8)
     have at':=htv.same s8
     have e8:=(SameT.new (o:=.tup [.str "call",.non,.ref p8]) h9).tup (K:=K) (SqT.of Ad)
     refine ⟨_,_,.ref p9,.mk "call" (.flat .non) [tx,t],rfl,.mk (SqT.of Ad) (.inl ⟨rfl,rfl⟩) e8 rfl fun j v y f1 f2=>?_,TrOk.call hxo hto,?_,(by rw [Da,Lr,Lr,Hd];omega),sm5.trans s8⟩
     ·match j,f1,f2 with
      | 0,f1,f2=>cases f1;cases f2;exact ax
      | 1,f1,f2=>cases f1;cases f2;exact at'
     ·rw [Tr.size,As,As,As]
      omega
   ·rintro σ5 H5 ⟨v7',v9',tv,t,rfl,htv,hto,hts,htd,sm5⟩
    walk_at "r"
    rw [al.1,Vz] at hts
    rw [al.1] at htd
    exact q tv t H5 (sm.trans sm5) htv hto (by omega) (by omega)
end
inductive At:Tr->List Nat->Tr->Prop where
 | nil (t:Tr):At t [] t
 | cons {w:Str} {n:Dt} {ts:List Tr} {j:Nat} {t u:Tr} {r:List Nat} (h:ts[j]?=some t) (s:At t r u):At (.mk w n ts) (j::r) u
mutual
theorem Zeu:∀(t:Tr)(x:List Nat×Tr),x∈walk [] t->At t x.1 x.2
 | .mk w n ps,x,h=>by
  rw [walk] at h
  rcases Pb.mp h with rfl | h
  ·exact .nil _
  ·obtain ⟨j,t,r,e1,e2,e3⟩:=Zh4 0 ps x h
   rw [e2,Nat.zero_add]
   exact .cons e1 e3
theorem Zh4:∀(i:Nat)(ts:List Tr)(x:List Nat×Tr),x∈B7 [] i ts->∃(j:Nat)(t:Tr)(r:List Nat),ts[j]?=some t/\x.1=(i+j)::r/\At t r x.2
 | _,[],x,h=>by rw [B7] at h;cases h
 | i,t::q,x,h=>by
  rw [B7] at h
  rcases P4.mp h with h | h
  ·rw [Zcl] at h
   obtain ⟨y,hy,rfl⟩:=Sk.mp h
   exact ⟨0,t,y.1,rfl,rfl,Zeu t y hy⟩
  ·obtain ⟨j,t',r,e1,e2,e3⟩:=Zh4 (i+1) q x h
   exact ⟨j+1,t',r,by simpa using e1,by rw [e2];congr 1;omega,e3⟩
end
theorem At.det {t u u':Tr}{pl:List Nat}(h:At t pl u)(h':At t pl u'):u=u':=by
 induction h with
 | nil t=>cases h';rfl
 | cons e _ ih =>
  cases h' with
  | cons e' s' =>
   rw [e] at e'
   cases e'
   exact ih s'
theorem At.split {t u:Tr}:∀{a b:List Nat},At t (a++b) u->∃ m,At t a m/\At m b u:=by
 intro a
 induction a generalizing t with
 | nil=>intro b h;exact ⟨t,.nil _,h⟩
 | cons j r ih =>
  intro b h
  cases h with
  | cons e s =>
   obtain ⟨m,h1,h2⟩:=ih s
   exact ⟨m,.cons e h1,h2⟩
theorem At.app {t m u:Tr}{a b:List Nat}(h:At t a m)(h':At m b u):At t (a++b) u:=by
 induction h with
 | nil t=>exact h'
 | cons e _ ih=>exact .cons e (ih h')
theorem At.ok {t u:Tr}{pl:List Nat}(h:At t pl u):TrOk t->TrOk u/\u.size<=t.size:=by
 induction h with
 | nil t=>exact fun o=>⟨o,O3 _⟩
 | cons e _ ih =>
  intro o
  cases o with
  | mk _ _ _ hs =>
   have h1:=ih (hs _ (Pt e))
   have h2:=Jq e
   rw [Tr.size]
   exact ⟨h1.1,by omega⟩
theorem At.step {t u:Tr}{pl:List Nat}(h:At t pl u){k j:Nat}(hk:pl[k]?=some j):∃(w:Str)(n:Dt)(ts:List Tr)(m:Tr),At t (pl.take k) (.mk w n ts)/\ts[j]?=some m/\At t (pl.take (k+1)) m:=by
 have hl:=(Pl.mp hk).1
 have hd:pl.drop k=j::pl.drop (k+1):=by
  rw [Ri hl]
  rw [O7 hl] at hk
  rw [Pu hk]
 have h0:At t (pl.take k++(j::pl.drop (k+1))) u:=by rw [<- hd,List.take_append_drop];exact h
 obtain ⟨m,h1,h2⟩:=h0.split
 cases h2 with
 | cons e s =>
  refine ⟨_,_,_,_,h1,e,?_⟩
  rw [List.take_succ,hk]
  exact h1.app (.cons e (.nil _))
theorem At.len {t u:Tr}{pl:List Nat}(h:At t pl u):pl.length+1<=t.size:=by
 induction h with
 | nil t=>have:=t.size_eq;simp;omega
 | cons e _ ih=>have:=Jq e;rw [Tr.size,Pr];omega
theorem At.sub {t u:Tr}{pl:List Nat}(h:At t pl u):Sub t pl:=by
 induction h with
 | nil t=>exact .nil t
 | cons e _ ih=>exact .cons e ih
theorem At.path {t u:Tr}{pl:List Nat}(h:At t pl u):(path t pl)[pl.length]?=some u:=by
 induction h with
 | nil t=>cases t;rfl
 | cons e _ ih=>rw [M3 e,Pr,Td];exact ih
theorem Zrt {nt:Nt}(h:Hh nt=true):nt=.fl .non:=by
 unfold Hh at h
 split at h
 ·rfl
 ·cases h
noncomputable def _root_.L2.Tr.note:Tr->Dt
 | .mk _ n _=>n
theorem Zh0 (t:Tr):t=.mk t.wd t.note t.ps:=by cases t;rfl
theorem Zgc {t:Tr}(h:TrOk t):∀ x∈t.ps,TrOk x:=by
 cases h with
 | mk _ _ _ hs=>exact hs
section
variable {P:Program}{w:World}{K:O0}{mg:Str->Option Value}{base:Heap}
structure Cs where
 d:Addr
 p:Addr
 f:Addr
 c:Addr
 w:Addr
 k:Addr
 n:Addr
 g:Addr
inductive Dd where
 | deed
 | put (t:Tr)
 | fill (t:Tr)
 | cut
 | wrap (t:Tr) (i:Nat)
 | keep (i:Int)
 | note (n:Dt) (nt:Nt)
 | chg (t:Tr)
noncomputable def Dd.cls (c:Cs):Dd->Addr
 | .deed=>c.d
 | .put _=>c.p
 | .fill _=>c.f
 | .cut=>c.c
 | .wrap _ _=>c.w
 | .keep _=>c.k
 | .note _ _=>c.n
 | .chg _=>c.g
noncomputable def FsAt (K:O0)(H:Hp)(fs:List (Str×V)):Dd->Prop
 | .deed=>fs=[]
 | .put t=>∃ v,fs=([("form",v)]:List (Str×V))/\TrAt K H v t
 | .fill t=>∃ v,fs=([("form",v)]:List (Str×V))/\TrAt K H v t
 | .cut=>fs=[]
 | .wrap t i=>∃ v,fs=([("form",v),("at",.int (i:Nat))]:List (Str×V))/\TrAt K H v t/\i < t.ps.length/\t.ps.length<=3
 | .keep i=>fs=([("at",.int i)]:List (Str×V))
 | .note n nt=>∃ v,fs=([("note",v)]:List (Str×V))/\IsN K H v n/\E3 n nt
 | .chg t=>∃ v,fs=([("form",v)]:List (Str×V))/\TrAt K H v t
theorem FsAt.same {K:O0}{H H':Hp}{fs:List (Str×V)}{d:Dd}(h:FsAt K H fs d)(e:SameT H H'):FsAt K H' fs d:=by
 cases d with
 | deed=>exact h
 | put t=>obtain ⟨v,h1,h2⟩:=h;exact ⟨v,h1,h2.sameT e⟩
 | fill t=>obtain ⟨v,h1,h2⟩:=h;exact ⟨v,h1,h2.sameT e⟩
 | cut=>exact h
 | wrap t i=>obtain ⟨v,h1,h2,h3⟩:=h;exact ⟨v,h1,h2.sameT e,h3⟩
 | keep i=>exact h
 | note n nt=>obtain ⟨v,h1,h2,h3⟩:=h;exact ⟨v,h1,h2.same e,h3⟩
 | chg t=>obtain ⟨v,h1,h2⟩:=h;exact ⟨v,h1,h2.sameT e⟩
noncomputable def DdAt (K:O0)(c:Cs)(H:Hp)(x:V)(d:Dd):Prop:=∃ a dx fs,x=.ref a/\H a=some (.ins (d.cls c) dx fs)/\FsAt K H fs d
theorem DdAt.same {K:O0}{c:Cs}{H H':Hp}{x:V}{d:Dd}(h:DdAt K c H x d)(e:Same H H'):DdAt K c H' x d:=by
 obtain ⟨a,dx,fs,h1,h2,h3⟩:=h
 exact ⟨a,dx,fs,h1,e _ _ h2,h3.same e.t⟩
theorem DdAt.off {K:O0}{c:Cs}{H:Hp}{x:V}{d:Dd}{p:Addr}{xs:List V}{o:HO}(h:DdAt K c H x d)(hp:H p=some (.lst xs)):DdAt K c (upd H p o) x d:=by
 obtain ⟨a,dx,fs,h1,h2,h3⟩:=h
 exact ⟨a,dx,fs,h1,by rw [Au (fun z=>by rw [z,hp] at h2;cases h2)];exact h2,h3.same (SameT.set hp)⟩
theorem FsAt.nd {K:O0}{H:Hp}{fs:List (Str×V)}{d:Dd}(h:FsAt K H fs d):fs.lookup ("done" : Str)=none:=by
 cases d with
 | deed=>cases h;rfl
 | put t=>obtain ⟨v,rfl,_⟩:=h;rfl
 | fill t=>obtain ⟨v,rfl,_⟩:=h;rfl
 | cut=>cases h;rfl
 | wrap t i=>obtain ⟨v,rfl,_⟩:=h;rfl
 | keep i=>cases h;rfl
 | note n nt=>obtain ⟨v,rfl,_⟩:=h;rfl
 | chg t=>obtain ⟨v,rfl,_⟩:=h;rfl
noncomputable def Bt (t:Tr):Dd->Option Tr
 | .deed=>some t
 | .put p=>if t.wd = "gap" then some p else none
 | .fill p=>if t.wd = "gap" then some p else none
 | .cut=>if t.wd = "gap" then none else some gapT
 | .wrap p i=>some (.mk p.wd p.note (p.ps.set i t))
 | .keep i=>if 0<=i/\i < (t.ps.length:Int) then t.ps[i.toNat]? else none
 | .note n nt=>if B2 t.wd nt=true then some (.mk t.wd n t.ps) else none
 | .chg p=>some p
structure B0 (K:O0)(mg:Str->Option Value)(x:Str)(C:Addr):Prop where
 cl:Cls K C
 at_:mg x=some (.ref C)
 nf:NoAttr K C "form"
 na:NoAttr K C "at"
 nn:NoAttr K C "note"
noncomputable def Cs.Apart (c:Cs):Prop:=[c.d,c.p,c.f,c.c,c.w,c.k,c.n,c.g].Nodup
theorem Cs.Apart.dd {c:Cs}(A:c.Apart){d e:Dd}(h:d.cls c=e.cls c):(∃ t,d=.put t/\∃ u,e=.put u)\/(∃ t,d=.fill t/\∃ u,e=.fill u)\/(∃ t i,d=.wrap t i/\∃ u j,e=.wrap u j)\/(∃ i,d=.keep i/\∃ j,e=.keep j)\/(∃ n m,d=.note n m/\∃ n' m',e=.note n' m')\/(∃ t,d=.chg t/\∃ u,e=.chg u)\/(d=.deed/\e=.deed)\/(d=.cut/\e=.cut):=by
 unfold Cs.Apart at A
 simp only [To,Pb,Pp,or_false,not_or] at A
 obtain ⟨⟨a1,a2,a3,a4,a5,a6,a7⟩,⟨b1,b2,b3,b4,b5,b6⟩,⟨c1,c2,c3,c4,c5⟩,⟨d1,d2,d3,d4⟩,⟨e1,e2,e3⟩,⟨f1,f2⟩,g1,_⟩:=A
 cases d <;> cases e <;> dsimp only [Dd.cls] at h <;> first
  | exact .inl ⟨_,rfl,_,rfl⟩
  | exact .inr (.inl ⟨_,rfl,_,rfl⟩)
  | exact .inr (.inr (.inl ⟨_,_,rfl,_,_,rfl⟩))
  | exact .inr (.inr (.inr (.inl ⟨_,rfl,_,rfl⟩)))
  | exact .inr (.inr (.inr (.inr (.inl ⟨_,_,rfl,_,_,rfl⟩))))
  | exact .inr (.inr (.inr (.inr (.inr (.inl ⟨_,rfl,_,rfl⟩)))))
  | exact .inr (.inr (.inr (.inr (.inr (.inr (.inl ⟨rfl,rfl⟩))))))
  | exact .inr (.inr (.inr (.inr (.inr (.inr (.inr ⟨rfl,rfl⟩))))))
  | exact absurd h (by assumption)
  | exact absurd h.symm (by assumption)
noncomputable def Et (K:O0)(c:Cs)(ND C:Addr):Sp:=fun vs H Q E=>∃ x d y t,vs=[x,y]/\DdAt K c H x d/\d.cls c=C/\TrAt K H y t/\TrOk t/\(∀ u,Bt t d=some u->∀ v H',Same H H'->TrAt K H' v u->Q v H')/\(Bt t d=none->∀ H',Same H H'->E (.ref ND) none H')
theorem Gz {K:O0}{H:Hp}{v:V}{t:Tr}(h:TrAt K H v t):∃(a p:Addr)(n:V),v=.ref a/\SqT K H a [.str t.wd,n,.ref p]:=by
 cases h with
 | mk q hn qp l hs=>exact ⟨_,_,_,rfl,q⟩
structure Jg (K:O0)(ag:Addr):Prop where
 at_:∀ H,TrAt K H (.ref ag) gapT
noncomputable def SameB (a:Addr)(H H':Hp):Prop:=∀ b o,b≠a->H b=some o->H' b=some o
theorem SameB.made {x dx C:Addr}{fs:List (Str×V)}{H H':Hp}(e:SameB x (upd (upd H dx (.own x)) x (.ins C dx fs)) H')(h1:H x=none)(h2:H dx=none):Same H H':=fun b o h=>by
 have hx:b≠x:=fun z=>by rw [z,h1] at h;cases h
 have hd:b≠dx:=fun z=>by rw [z,h2] at h;cases h
 exact e b o hx (by rw [Au hx,Au hd];exact h)
theorem _root_.L2.Same.made {H:Hp}{x dx C:Addr}{fs:List (Str×V)}(h1:H x=none)(h2:H dx=none)(h3:dx≠x):Same H (upd (upd H dx (.own x)) x (.ins C dx fs)) :=
 (Same.upd h2).trans (Same.upd (by rw [Au h3.symm];exact h1))
theorem Zab {H:Hp}{a C dx:Addr}{fs:List (Str×V)}(ha:H a=some (.ins C dx fs))(o:HO):SameT H (upd H a o):=fun b=>⟨fun xs h=>by
 have:b≠a:=fun z=>by rw [z,ha] at h;cases h
 rw [Au this];exact h,fun o u h=>by
 have:b≠a:=fun z=>by rw [z,ha] at h;cases h
 rw [Au this];exact h⟩
mutual
noncomputable def trD:Tr->Dt
 | .mk w n ps=>.tup [.flat (.str w),n,.tup (Fk ps)]
noncomputable def Fk:List Tr->List Dt
 | []=>[]
 | t::r=>trD t::Fk r
end
theorem Zg1:∀ ts:List Tr,(Fk ts).length=ts.length
 | []=>by rw [Fk];rfl
 | t::r=>by rw [Fk,Pr,Zg1 r,Pr]
theorem Zf9:∀(ts:List Tr)(j:Nat),(Fk ts)[j]?=(ts[j]?).map trD
 | [],j=>by rw [Fk];simp
 | t::r,0=>by rw [Fk];simp
 | t::r,j+1=>by rw [Fk,Td,Td,Zf9 r j]
theorem Zt0 {K:O0}{H:Hp}{v:V}{t:Tr}(h:TrAt K H v t):∀{n:Nat},2 * Bf t<=n->IsD K H n v (trD t):=by
 induction h with
 | @mk a p wd nv nt vs ts q hn qp l hc ih =>
  intro n hd
  rw [Bf] at hd
  obtain ⟨m,rfl⟩:∃ m,n=m+1+1:=⟨n - 2,by omega⟩
  rw [trD]
  refine .tup q rfl fun j v d h1 h2=>?_
  match j,h1,h2 with
  | 0,h1,h2=>cases h1;cases h2;exact .flat rfl
  | 1,h1,h2=>cases h1;cases h2;exact hn.d.up (by omega)
  | 2,h1,h2 =>
   cases h1;cases h2
   refine .tup qp (by rw [Zg1];exact l) fun j v d h1 h2=>?_
   rw [Zf9] at h2
   obtain ⟨t,ht,rfl⟩:=Option.map_eq_some_iff.mp h2
   have:=Mu ht
   exact ih j v t h1 ht (by omega)
end
section
variable {P:Program}{w:World}{K:O0}{mg:Str->Option Value}{base:Heap}
noncomputable def Mh (K:O0):Sp:=fun vs H Q _=>∃(v:V)(t:Tr)(k:Int),vs=[v,.int k]/\TrAt K H v t/\Q (.bl (decide (0<=k/\k < (t.ps.length:Int)))) H
theorem Zj9:A2 ["form", "number"] ["form", "number"] (Am Km):=by walk_at "sc"
theorem Zrn {f:Addr}{fd:FuncData}(F:Fun K "has_part" "has_part" Km f fd)(T:Txt K mg)(C_is_whole:A4 P w K mg base 1 "is_whole" ["thing"] (Zbn K)):Ao P w K mg base Aq 2 f fd ["form", "number"] (Mh K):=by
 refine F.okq Zj9 (fun vs H Q E h=>?_) (fun cdv A outer s H vs Q E hr h=>?_)
 ·obtain ⟨v,t,k,rfl,_⟩:=h
  rfl
 ·obtain ⟨v,t,k,rfl,ht,q⟩:=h
  refine ⟨_,Af (Ak (Dp (A1 C_is_whole hr.m (Aa (qv 1) Ac)) (D6 (Zch Ey Ij Ab (qv 1) (Bd (Cp K) (by rfl) T.len (by decide +kernel) (Aa (Ai K (qv 0) Ab) Ac)))))),?_⟩
  cases ht with
  | @mk b pp wd nv nd us ps qb hn qp l hch =>
  have q:Q (.bl (decide (0<=k/\k < (ps.length:Int)))) H:=q
  walk_at "r"
  refine ⟨_,rfl,⟨_,.int k⟩,?_⟩
  show ∃ b,V.bl true=V.bl b/\_
  walk_at "r"
  refine Aw (fun c=>?_) (fun c=>?_)
  ·have c:0<=k:=by simpa using c
   walk_at "r"
   refine Ae qb rfl ?_
   walk_at "r"
   refine Fl qp ?_
   walk_at "r"
   have e:decide (k < (us.length:Int))=decide (0<=k/\k < (ps.length:Int)):=by rw [l];exact decide_eq_decide.mpr ⟨fun h=>⟨c,h⟩,fun h=>h.2⟩
   rw [e]
   exact q
  ·have c:¬ 0<=k:=fun h=>c (by simpa using h)
   have e:decide (0<=k/\k < (ps.length:Int))=false:=decide_eq_false fun h=>c h.1
   rw [e] at q
   walk_at "r"
   exact q
theorem N2 {α:Type}{xs:List α}{x:α}(h:xs[xs.length - 1]?=some x):Bl xs (-1)=some x:=by
 have hl:=(Pl.mp h).1
 unfold Bl Dq
 rw [if_neg (by omega),if_pos (by omega)]
 have e:((-1:Int)+(xs.length:Int)).toNat=xs.length - 1:=by omega
 simpa [e] using h
theorem N6 {α:Type}{xs:List α}{i:Int}{x:α}(j:Nat)(hj:(j:Int)=i)(h:xs[j]?=some x):Bl xs i=some x:=by
 have hl:=(Pl.mp h).1
 subst hj
 unfold Bl Dq
 rw [if_pos (by omega),if_pos (by omega)]
 simpa using h
theorem Ny {pl:List Nat}{i:Nat}{v:V}(h:(Bm pl)[i]?=some v):∃ k,v=.int (k:Nat)/\pl[i]?=some k:=by
 unfold Bm at h
 rw [Sf] at h
 cases e:pl[i]? with
 | none=>rw [e] at h;cases h
 | some x=>rw [e] at h;exact ⟨x,(Pu h).symm,rfl⟩
theorem Ee (pl:List Nat):(Bm pl).length=pl.length:=by unfold Bm;simp
noncomputable def Zc3 (K:O0):Sp:=fun vs H Q _=>∃(v:V)(t:Tr)(p:Addr)(pl:List Nat),vs=[v,.ref p]/\TrAt K H v t/\SqT K H p (Bm pl)/\Sub t pl/\pl.length<=1000 /\
 ∀(q:Addr)(ws:List V)(H':Hp),H q=none->Same H H'->H' q=some (.lst ws)->Al (TrAt K H') ws (path t pl)->Q (.ref q) H'
theorem sc_forms_down_to:A2 ["tree", "place", "passed", "number"] ["tree", "place"] (Am Jc):=by walk_at "sc"
theorem Zo2 {f:Addr}{fd:FuncData}(F:Fun K "forms_down_to" "forms_down_to" Jc f fd)(T:Txt K mg)(C_has_part:A4 P w K mg base 2 "has_part" ["form", "number"] (Mh K)):Ao P w K mg base Aq 3 f fd ["tree", "place"] (Zc3 K):=by
 refine F.okq sc_forms_down_to (fun vs H Q E h=>?_) (fun cdv A outer s H vs Q E hr h=>?_)
 ·obtain ⟨v,t,p,pl,rfl,_⟩:=h
  rfl
 ·obtain ⟨v,t,p,pl,rfl,ht,hp,hs,hl,q⟩:=h
  refine ⟨_,Ag (A3 2 sc_forms_down_to (Bv (Aa (qv 0) Ac)))
   (Ag (C6 Ql rfl (Fw K (qv 1)) (A9 (i:=3) sc_forms_down_to.nd rfl (Or.inl rfl)) (Ag (Ar (Cf (Cb (A1 C_has_part hr.m (Aa (Ai K (qv 2) (Fq Fa Ab)) (Aa (qv 3) Ac))))) (Af Hq) Av)
   (Af (Ce (Cv K Pz Qr Qs Dn (qv 2) (Aa (Ai K (Ai K (Ai K (qv 2) (Fq Fa Ab)) Ab) (qv 3)) Ac))))))
   (Af (Ak (qv 2)))),?_⟩
  have bg:=Ct
  walk_at "r"
  refine ⟨Ck,fun q0 hq0=>?_⟩
  obtain ⟨H1,s1,e1,z9⟩:=newQ hq0 (.lst [v])
  rw [z9]
  walk_at "r"
  refine .inr (.inl ⟨p,rfl,⟨_,s1.tup hp⟩,?_⟩)
  have p0:(path t pl).take 1=[t]:=by
   have:=Oi t pl
   cases e:path t pl with
   | nil=>rw [e] at this;cases this
   | cons a r =>
    rw [e] at this
    have h:a=t:=by simpa using this
    rw [h]
    rfl
  refine Zcs (K:=K) (a:=p) (xs:=Bm pl) (fun i σ' H'=>∃ w3 ws,σ'=[some v,some (.ref p),some (.ref q0),w3]/\H' q0=some (.lst ws)/\Al (TrAt K H') ws ((path t pl).take (i+1))/\Same H H') ⟨none,[v],rfl,e1,by rw [p0];exact Al.nil.snoc (ht.same s1),s1⟩ ?_ ?_ ?_
  ·rintro i σ' H' _ ⟨_,_,_,_,_,sm⟩
   exact sm.tup hp
  ·rintro i x σ' H' hx ⟨w3,ws,rfl,e2,al,sm⟩
   obtain ⟨k,rfl,hk⟩:=Ny hx
   obtain ⟨w',n',ps,u,a1,a2,a3⟩:=Np hs i k hk
   have hi:=(Pl.mp hk).1
   have hpl:=Js hs
   have hwl:ws.length=i+1:=by rw [al.1,Qj];omega
   have hx1:((path t pl).take (i+1))[i]?=some (.mk w' n' ps):=by rw [Vl,if_pos (by omega)];exact a1
   obtain ⟨vi,hvi,hti⟩:=al.get' hx1
   have hlast:Bl ws (-1)=some vi:=N2 (by rw [hwl];exact hvi)
   cases hti with
   | @mk b pp _ nv _ us _ qb hn qp l hch =>
   have hku:k < us.length:=by rw [l];exact (Pl.mp a2).1
   walk_at "r"
   refine Ca (SqL.of e2) hlast ?_
   walk_at "r"
   refine ⟨_,_,_,rfl,.mk qb hn qp l hch,?_⟩
   rw [decide_eq_true (show (0:Int)<=(k:Nat)/\((k:Nat):Int) < (((Tr.mk w' n' ps).ps.length:Nat):Int) from ⟨by omega,by show ((k:Nat):Int) < ((ps.length:Nat):Int);omega⟩)]
   walk_at "r"
   refine B3 (SqL.of e2) ?_
   walk_at "r"
   refine Ca (SqL.of e2) hlast ?_
   walk_at "r"
   refine Ae qb rfl ?_
   walk_at "r"
   refine Ae qp (N6 k rfl (O7 hku)) ?_
   walk_at "r"
   refine Du e2 (by omega) ?_
   walk_at "r"
   have t3:SameT H' (upd H' q0 (.lst (ws++[us[k]]))):=SameT.set e2
   refine ⟨_,ws++[us[k]],rfl,Ad,?_,sm.over hq0⟩
   have e3:(path t pl).take (i+1+1)=(path t pl).take (i+1)++[u]:=by rw [Vt,a3];rfl
   rw [e3]
   exact (al.mono fun _ _ z=>z.sameT t3).snoc ((hch k _ u (O7 hku) a2).sameT t3)
  ·rintro σ' H' ⟨w3,ws,rfl,e2,al,sm⟩
   rw [Ee,R8 (by rw [Js hs];omega)] at al
   walk_at "r"
   exact q q0 ws H' hq0 sm e2 al
noncomputable abbrev Mb:Stmt:=A8 5 0
theorem Zm3:A2 ["self", "place"] ["self", "place"] (Am Mb):=by walk_at "sc"
noncomputable def Zfu (K:O0):Sp:=fun vs H Q _=>∃(a C:Addr)(v:V),vs=[.ref a,v]/\H a=some (D8 a (.ref C) none)/\ExC K C/\NoAttr K C "place" /\ ∀ d,H d=none->d≠a->Q .non (upd (upd H d (.xd [("place",v)])) a (D8 a (.ref C) (some d)))
theorem Zou {f:Addr}{fd:FuncData}(F:Fun K "__init__" "NoPlace.__init__" Mb f fd):Ao P w K mg base Aq 1 f fd ["self", "place"] (Zfu K):=by
 refine F.okq Zm3 (fun vs H Q E h=>?_) (fun cdv A outer s H vs Q E hr h=>?_)
 ·obtain ⟨a,C,v,rfl,_⟩:=h
  rfl
 ·obtain ⟨a,C,v,rfl,h1,h2,h3,q⟩:=h
  refine ⟨_,Af (Zr7 (qv 0) (qv 1)),?_⟩
  exact ⟨v,rfl,.ref a,rfl,a,C,rfl,h1,h2,h3,q⟩
structure Bad (t:Tr)(pl:List Nat)(far:Int):Prop where
 sub:Sub t pl
 ex:∃ w n ps,(path t pl)[pl.length]?=some (.mk w n ps)/\¬ (0<=far/\far < (ps.length:Int))
noncomputable def C5 (pl:List Nat)(far:Int)(rest:List V):List V:=Bm pl++.int far::rest
theorem Zrd {pl:List Nat}{far:Int}{rest:List V}{i:Nat}(hi:i < pl.length){v:V}(h:(C5 pl far rest)[i]?=some v):∃ k,v=.int (k:Nat)/\pl[i]?=some k:=by
 unfold C5 at h
 rw [Q8 (by rw [Ee];exact hi)] at h
 exact Ny h
theorem Zt1 {pl:List Nat}{far:Int}{rest:List V}{v:V}(h:(C5 pl far rest)[pl.length]?=some v):v=.int far:=by
 unfold C5 at h
 rw [Rh (by rw [Ee];exact O3 _),Ee,Sz] at h
 exact (Pu h).symm
noncomputable def Rf (C:Addr)(H:Hp)(p:Addr)(E:XK):Prop:=∀(d:Addr)(H':Hp),Same H H'->H' d=some (.xd [("place",.ref p)])->E (.ref C) (some d) H'
noncomputable def Ni (K:O0)(C:Addr):Sp:=fun vs H _ E=>∃(v:V)(t:Tr)(p:Addr)(pl:List Nat)(far:Int)(rest:List V),vs=[v,.ref p]/\TrAt K H v t/\SqT K H p (C5 pl far rest)/\Bad t pl far/\pl.length<=1000/\Rf C H p E
theorem Zon {f:Addr}{fd:FuncData}(F:Fun K "forms_down_to" "forms_down_to" Jc f fd)(T:Txt K mg)(C_has_part:A4 P w K mg base 2 "has_part" ["form", "number"] (Mh K))
  {C fi:Addr} {fdi:FuncData} (R_NoPlace:Rz K C fi) (F_NoPlace:Ao P w K mg base Aq 1 fi fdi ["self", "place"] (Zfu K)) (b_NoPlace:Binds K fdi ["self", "place"] []) (G_NoPlace:mg "NoPlace" = some (.ref C)) (xC:ExC K C) (nA:NoAttr K C "place"):Ao P w K mg base (Be P w) 3 f fd ["tree", "place"] (Ni K C):=by
 refine F.okx sc_forms_down_to (fun vs H Q E h=>?_) (fun cdv A outer s H vs Q E hr h=>?_)
 ·obtain ⟨v,t,p,pl,far,rest,rfl,_⟩:=h
  rfl
 ·obtain ⟨v,t,p,pl,far,rest,rfl,ht,hp,hb,hl,q⟩:=h
  refine ⟨_,Ag (A3 2 sc_forms_down_to (Bv (Aa (qv 0) Ac)))
   (Ag (C6 PassesOwn.leaving rfl (Fw K (qv 1)) (A9 (i:=3) sc_forms_down_to.nd rfl (Or.inl rfl)) (Ag (Ar (Cf (Cb (A1 C_has_part hr.m (Aa (Ai K (qv 2) (Fq Fa Ab)) (Aa (qv 3) Ac))))) (Af (Zlg rfl R_NoPlace F_NoPlace hr.m b_NoPlace G_NoPlace (Aa (qv 1) Ac) (fun _ _ _ _ _ _ _ I x h0 hn he=>Jw I x h0 hn he) rfl)) Av)
   (Af (Ce (Cv K Pz Qr Qs Dn (qv 2) (Aa (Ai K (Ai K (Ai K (qv 2) (Fq Fa Ab)) Ab) (qv 3)) Ac))))))
   (Af (Ak (qv 2)))),?_⟩
  have bg:=Ct
  have hs:=hb.sub
  walk_at "r"
  refine ⟨Ck,fun q0 hq0=>?_⟩
  obtain ⟨H1,s1,e1,z9⟩:=newQ hq0 (.lst [v])
  rw [z9]
  walk_at "r"
  refine .inr (.inl ⟨p,rfl,⟨_,s1.tup hp⟩,?_⟩)
  have p0:(path t pl).take 1=[t]:=by
   have:=Oi t pl
   cases e:path t pl with
   | nil=>rw [e] at this;cases this
   | cons a r =>
    rw [e] at this
    have h:a=t:=by simpa using this
    rw [h]
    rfl
  refine Zcs (K:=K) (a:=p) (xs:=C5 pl far rest) (fun i σ' H'=>i<=pl.length/\∃ w3 ws,σ'=[some v,some (.ref p),some (.ref q0),w3]/\H' q0=some (.lst ws)/\Al (TrAt K H') ws ((path t pl).take (i+1))/\Same H H') ⟨Qb _,none,[v],rfl,e1,by rw [p0];exact Al.nil.snoc (ht.same s1),s1⟩ ?_ ?_ ?_
  ·rintro i σ' H' _ ⟨_,_,_,_,_,_,sm⟩
   exact sm.tup hp
  ·rintro i x σ' H' hx ⟨hil,w3,ws,rfl,e2,al,sm⟩
   have hpl:=Js hs
   have hwl:ws.length=i+1:=by rw [al.1,Qj];omega
   by_cases hi:i < pl.length
   ·obtain ⟨k,rfl,hk⟩:=Zrd hi hx
    obtain ⟨w',n',ps,u,a1,a2,a3⟩:=Np hs i k hk
    have hx1:((path t pl).take (i+1))[i]?=some (.mk w' n' ps):=by rw [Vl,if_pos (by omega)];exact a1
    obtain ⟨vi,hvi,hti⟩:=al.get' hx1
    have hlast:Bl ws (-1)=some vi:=N2 (by rw [hwl];exact hvi)
    cases hti with
    | @mk b pp _ nv _ us _ qb hn qp l hch =>
    have hku:k < us.length:=by rw [l];exact (Pl.mp a2).1
    walk_at "r"
    refine Ca (SqL.of e2) hlast ?_
    walk_at "r"
    refine ⟨_,.mk w' n' ps,k,rfl,.mk qb hn qp l hch,?_⟩
    rw [decide_eq_true (show (0:Int)<=(k:Int)/\(k:Int) < ((Tr.mk w' n' ps).ps.length:Int) from ⟨by omega,by show (k:Int) < (ps.length:Int);omega⟩)]
    walk_at "r"
    refine B3 (SqL.of e2) ?_
    walk_at "r"
    refine Ca (SqL.of e2) hlast ?_
    walk_at "r"
    refine Ae qb rfl ?_
    walk_at "r"
    refine Ae qp (N6 k rfl (O7 hku)) ?_
    walk_at "r"
    refine Du e2 (by omega) ?_
    walk_at "r"
    have t3:SameT H' (upd H' q0 (.lst (ws++[us[k]]))):=SameT.set e2
    refine ⟨hi,_,ws++[us[k]],rfl,Ad,?_,sm.over hq0⟩
    have e3:(path t pl).take (i+1+1)=(path t pl).take (i+1)++[u]:=by rw [Vt,a3];rfl
    rw [e3]
    exact (al.mono fun _ _ z=>z.sameT t3).snoc ((hch k _ u (O7 hku) a2).sameT t3)
   ·obtain rfl:i=pl.length:=by omega
    obtain rfl:=Zt1 hx
    obtain ⟨w',n',ps,a1,a2⟩:=hb.ex
    have hx1:((path t pl).take (pl.length+1))[pl.length]?=some (.mk w' n' ps):=by rw [Vl,if_pos (by omega)];exact a1
    obtain ⟨vi,hvi,hti⟩:=al.get' hx1
    have hlast:Bl ws (-1)=some vi:=N2 (by rw [hwl];exact hvi)
    walk_at "r"
    refine Ca (SqL.of e2) hlast ?_
    walk_at "r"
    refine ⟨_,.mk w' n' ps,far,rfl,hti,?_⟩
    rw [decide_eq_false (show ¬ (0<=far/\far < ((Tr.mk w' n' ps).ps.length:Int)) from a2)]
    walk_at "r"
    refine ⟨.ref p,rfl,?_⟩
    refine ⟨Ck,fun e he=>⟨e,C,.ref p,rfl,Ad,xC,nA,fun d hd hde=>⟨rfl,some d,Ad,q d _ ?_ ?_⟩⟩⟩
    ·intro b o hbo
     have hb':=sm b o hbo
     have n1:b≠e:=fun z=>by rw [z,he] at hb';cases hb'
     rw [Au hde] at hd
     have n2:b≠d:=fun z=>by rw [z,hd] at hb';cases hb'
     rw [Nf n1,Au n1,Au n2,Au n1]
     exact hb'
    ·rw [Nf hde,Au hde,Ad]
  ·rintro σ' H' ⟨hil,_⟩
   unfold C5 at hil
   rw [Pm,Ee,Pr] at hil
   omega
noncomputable def Zf2 (K:O0):Sp:=fun vs H Q _=>∃(v:V)(t:Tr)(p:Addr)(pl:List Nat)(tx:Tr),vs=[v,.ref p]/\TrAt K H v t/\SqT K H p (Bm pl)/\Sub t pl/\pl.length<=1000/\(path t pl)[pl.length]?=some tx /\
 ∀(u:V)(H':Hp),Same H H'->TrAt K H' u tx->Q u H'
theorem Zgq:A2 ["tree", "place"] ["tree", "place"] (Am Il):=by walk_at "sc"
theorem Zmo {f:Addr}{fd:FuncData}(F:Fun K "form_at" "form_at" Il f fd)(T:Txt K mg)(C_forms_down_to:A4 P w K mg base 3 "forms_down_to" ["tree", "place"] (Zc3 K)):Ao P w K mg base Aq 4 f fd ["tree", "place"] (Zf2 K):=by
 refine F.okq Zgq (fun vs H Q E h=>?_) (fun cdv A outer s H vs Q E hr h=>?_)
 ·obtain ⟨v,t,p,pl,tx,rfl,_⟩:=h
  rfl
 ·obtain ⟨v,t,p,pl,tx,rfl,ht,hp,hs,hl,hx,q⟩:=h
  refine ⟨_,Af (Ak (Ai K (A1 C_forms_down_to hr.m (Aa (qv 0) (Aa (qv 1) Ac))) (Fq Fa Ab))),?_⟩
  have hpl:=Js hs
  walk_at "r"
  refine ⟨v,t,p,pl,rfl,ht,hp,hs,hl,fun q1 ws H1 hq1 s1 e1 al=>?_⟩
  obtain ⟨u,hu,hat⟩:=al.get' hx
  have hwl:ws.length - 1=pl.length:=by rw [al.1,hpl];omega
  walk_at "r"
  refine Ca (SqL.of e1) (N2 (by rw [hwl];exact hu)) ?_
  exact q u H1 s1 hat
theorem Zns {C:Addr}{f:Addr}{fd:FuncData}(F:Fun K "form_at" "form_at" Il f fd)(T:Txt K mg)(C_forms_down_to:E8 P w K mg base 3 "forms_down_to" ["tree", "place"] (Ni K C)):Ao P w K mg base (Be P w) 4 f fd ["tree", "place"] (Ni K C):=by
 refine F.okx Zgq (fun vs H Q E h=>?_) (fun cdv A outer s H vs Q E hr h=>?_)
 ·obtain ⟨v,t,p,pl,far,rest,rfl,_⟩:=h
  rfl
 ·obtain ⟨v,t,p,pl,far,rest,rfl,ht,hp,hb,hl,q⟩:=h
  refine ⟨_,Af (Ak (Ai K (N3 C_forms_down_to hr.m (Lw (fun _ _ _ h=>h)) (Aa (qv 0) (Aa (qv 1) Ac))) (Fq Fa Ab))),?_⟩
  walk_at "r"
  exact ⟨v,t,p,pl,far,rest,rfl,ht,hp,hb,hl,q⟩
noncomputable def Zaz (K:O0):Sp:=fun vs H Q _=>∃(v u:V)(w:Str)(n:Dt)(ps:List Tr)(tu:Tr)(k:Nat),vs=[v,.int (k:Nat),u]/\TrAt K H v (.mk w n ps)/\TrAt K H u tu/\k < ps.length/\ps.length<=1000 /\
 ∀(v':V)(H':Hp),Same H H'->TrAt K H' v' (.mk w n (ps.set k tu))->Q v' H'
theorem Zhd {α:Type}{xs:List α}{k:Nat}{x:α}(h:k < xs.length):xs.take k++[x]++xs.drop (k+1)=xs.set k x:=by
 rw [List.set_eq_take_append_cons_drop,if_pos h,Sr]
 rfl
theorem Zdq:A2 ["form", "number", "part", "parts"] ["form", "number", "part"] (Am K9):=by walk_at "sc"
theorem Zm5 {f:Addr}{fd:FuncData}(F:Fun K "with_part" "with_part" K9 f fd)(T:Txt K mg):Ao P w K mg base Aq 1 f fd ["form", "number", "part"] (Zaz K):=by
 refine F.okq Zdq (fun vs H Q E h=>?_) (fun cdv A outer s H vs Q E hr h=>?_)
 ·obtain ⟨v,u,w,n,ps,tu,k,rfl,_⟩:=h
  rfl
 ·obtain ⟨v,u,w,n,ps,tu,k,rfl,ht,hu,hk,hl,q⟩:=h
  refine ⟨_,Ag (A3 3 Zdq (Ai K (qv 0) Ab))
   (Af (Ak (A0 (Aa (Ai K (qv 0) Ab) (Aa (Ai K (qv 0) Ab) (Aa (Ah (Bj K) (Ah (Bj K) (Fj (Mm K) (qv 3) (He) (Ef (qv 1))) (A0 (Aa (qv 2) Ac))) (Fj (Mm K) (qv 3) (Ef (Ah (Bj K) (qv 1) Ab)) (He))) Ac)))))),?_⟩
  have bg:=Ct
  cases ht with
  | @mk b pp _ nv _ us _ qb hn qp l hch =>
  walk_at "r"
  refine Ae qb rfl ?_
  walk_at "r"
  refine Ae qb rfl ?_
  walk_at "r"
  refine Ae qb rfl ?_
  walk_at "r"
  refine Kw qp fun r1 H1 s1 q1=>?_
  rw [Ot] at q1
  walk_at "r"
  refine ⟨Ck,fun p2 h2=>?_⟩
  have s2:=Same.upd (o:=.tup [u]) h2
  refine Ho (s2.tup q1) (SqT.of Ad) (by rw [Qj];show _+1<=sizeLine;omega) fun r3 H3 s3 q3=>?_
  have s13:=s1.trans (s2.trans s3)
  walk_at "r"
  refine Kw (s13.tup qp) fun r4 H4 s4 q4=>?_
  have ek:(k:Int)+1=((k+1:Nat):Int):=by omega
  rw [ek,Zhv] at q4
  refine Ho (s4.tup q3) q4 (by rw [Pm,Qj,Tk];show _+1+_<=sizeLine;omega) fun r5 H5 s5 q5=>?_
  rw [Zhd (by omega)] at q5
  walk_at "r"
  refine ⟨Bk,fun p6 h6=>?_⟩
  have s6:=Same.upd (o:=.tup [.str w,nv,.ref r5]) h6
  have sm:=s13.trans (s4.trans (s5.trans s6))
  refine q (.ref p6) _ sm (.mk (SqT.of Ad) (hn.same sm.t) (s6.tup q5) (by rw [Rn,Rn];exact l) fun j x y g1 g2=>?_)
  by_cases e:k=j
  ·subst e
   rw [Te (by omega)] at g1 g2
   cases g1
   cases g2
   exact hu.same sm
  ·rw [Tg e] at g1 g2
   exact (hch j x y g1 g2).same sm
noncomputable def Zdt (K:O0):Sp:=fun vs H Q _=>∃(v u:V)(t tu:Tr)(p:Addr)(pl:List Nat),vs=[v,.ref p,u]/\TrAt K H v t/\SqT K H p (Bm pl)/\Sub t pl/\pl.length<=1000/\t.size<=1000/\TrAt K H u tu /\
 ∀(v':V)(H':Hp),Same H H'->TrAt K H' v' (B5 t pl tu)->Q v' H'
theorem Ztb {t:Tr}{pl:List Nat}(s:Sub t pl):∀ u∈path t pl,u.size<=t.size:=by
 induction s with
 | nil t=>intro u hu;cases t;rw [path,P8] at hu;rw [hu];exact O3 _
 | cons hj _ ih =>
  intro u hu
  rw [M3 hj] at hu
  rcases Pb.mp hu with rfl | hu
  ·exact O3 _
  ·have:=ih u hu
   have:=Jq hj
   rw [Tr.size]
   omega
theorem sc_with_at:A2 ["tree", "place", "form", "made", "number", "above"] ["tree", "place", "form"] (Am Jv):=by walk_at "sc"
theorem Zmx {f:Addr}{fd:FuncData}(F:Fun K "with_at" "with_at" Jv f fd)(T:Txt K mg)(C_forms_down_to:A4 P w K mg base 3 "forms_down_to" ["tree", "place"] (Zc3 K))(C_with_part:A4 P w K mg base 1 "with_part" ["form", "number", "part"] (Zaz K)):Ao P w K mg base Aq 4 f fd ["tree", "place", "form"] (Zdt K):=by
 refine F.okq sc_with_at (fun vs H Q E h=>?_) (fun cdv A outer s H vs Q E hr h=>?_)
 ·obtain ⟨v,u,t,tu,p,pl,rfl,_⟩:=h
  rfl
 ·obtain ⟨v,u,t,tu,p,pl,rfl,ht,hp,hs,hl,hz,hu,q⟩:=h
  refine ⟨_,Ag (A3 3 sc_with_at (qv 2))
   (Ag (C6 Ql rfl (Zg9 K rfl T.reversed (Aa (Zj2 K (by rfl) T.list (by rfl) T.zip (Aa (qv 1) (Aa (A1 C_forms_down_to hr.m (Aa (qv 0) (Aa (qv 1) Ac))) Ac))) Ac)) (G9 K (n:=2) rfl (Cw (A9 (i:=4) sc_with_at.nd rfl (Or.inl rfl)) (Cw (A9 (i:=5) sc_with_at.nd rfl (Or.inl rfl)) (Gf)))) (Af (A3 3 sc_with_at (A1 C_with_part hr.m (Aa (qv 5) (Aa (qv 4) (Aa (qv 3) Ac)))))))
   (Af (Ak (qv 3)))),?_⟩
  have hpl:=Js hs
  walk_at "r"
  refine ⟨v,t,p,pl,rfl,ht,hp,hs,hl,fun q1 ws H1 hq1 s1 e1 al=>?_⟩
  walk_at "r"
  refine ⟨p,q1,_,ws,rfl,s1.tup hp,SqL.of e1,fun S zs H2 hS s2 hzl hpairs hS2=>?_⟩
  have hzl:zs.length=pl.length:=by rw [hzl,Ee,al.1,hpl];omega
  walk_at "r"
  refine ⟨S,zs,rfl,SqL.of hS2,?_⟩
  have s12:=s1.trans s2
  have hlastp:(path t pl)[pl.length]?=some ((path t pl)[pl.length]'(by omega)):=O7 (by omega)
  refine Zgi (K:=K) (a:=S) (xs:=zs) (fun j σ' H'=>∃ w4 w5 m tm,σ'=[some v,some (.ref p),some u,some m,w4,w5]/\(path t pl)[pl.length - j]?=some tm/\TrAt K H' m (B5 tm (pl.drop (pl.length - j)) tu)/\Same H2 H') ⟨none,none,u,_,rfl,hlastp,by rw [Tx,Ru (O3 _),Hw];exact hu.same s12,Same.refl _⟩ ?_ ?_ ?_
  ·rintro j σ' H' _ ⟨_,_,_,_,_,_,_,sm⟩
   exact SqL.of (sm _ _ hS2)
  ·rintro j z σ' H' hj hz1 ⟨w4,w5,m,tm,rfl,htm,hm,sm⟩
   obtain ⟨tt,x,y,rfl,hx,hy,htt⟩:=hpairs _ _ hz1
   obtain ⟨k,rfl,hk⟩:=Ny hx
   obtain ⟨w',n',ps,u',a1,a2,a3⟩:=Np hs _ k hk
   rw [hzl] at hk a1 a3 hy hj
   obtain ⟨ty,hty,hat⟩:=al.get hy
   rw [a1] at hty
   cases hty
   have e2:pl.length - 1 - j+1=pl.length - j:=by omega
   rw [e2,htm] at a3
   cases a3
   have hps:ps.length<=1000:=by
    have:=Ztb hs _ (Pt a1)
    rw [Tr.size] at this
    have:=Lg ps
    omega
   walk_at "r"
   refine Gw (SqT.of (sm _ _ htt)) rfl ?_
   walk_at "r"
   refine ⟨y,m,w',n',ps,_,k,rfl,hat.same (s2.trans sm),hm,(Pl.mp a2).1,hps,fun v' H3 s3 hv'=>?_⟩
   walk_at "r"
   have e3:pl.length - (j+1)=pl.length - 1 - j:=by omega
   refine ⟨_,_,v',_,rfl,by rw [e3];exact a1,?_,sm.trans s3⟩
   rw [e3,Zsy hs _ k w' n' ps tm hk a1 (by rw [e2];exact htm),e2]
   exact hv'
  ·rintro σ' H' ⟨w4,w5,m,tm,rfl,htm,hm,sm⟩
   rw [hzl,Sz] at htm hm
   rw [Oi] at htm
   cases htm
   walk_at "r"
   exact q m H' (s12.trans sm) hm
noncomputable def Zee (K:O0):Sp:=fun vs H Q _=>∃(s:Str)(n:Nat),vs=[.str s]/\Has K H (.str s)/\Bo s=some n/\Q (.int (n:Nat)) H
theorem Zmq:A2 ["word"] ["word"] (Am Jy):=by walk_at "sc"
theorem Zqx {f:Addr}{fd:FuncData}(F:Fun K "many_parts" "many_parts" Jy f fd)(T:Txt K mg)(G:Gs P w K mg)(C_is_word:A4 P w K mg base 1 "is_word" ["thing"] (Zae K)):Ao P w K mg base Aq 2 f fd ["word"] (Zee K):=by
 refine F.okq Zmq (fun vs H Q E h=>?_) (fun cdv A outer s H vs Q E hr h=>?_)
 ·obtain ⟨s,n,rfl,_⟩:=h
  rfl
 ·obtain ⟨t,n,rfl,hv,hn,q⟩:=h
  obtain ⟨ap,G_PARTS_OF_WORDS,hp⟩:=G.pw
  refine ⟨_,Ag (Ar (Cf (Cb (A1 C_is_word hr.m (Aa (qv 0) Ac)))) (Af Hq) Av)
   (Af (Ak (Ms (Zd1 P w K) (Fy G_PARTS_OF_WORDS) (qv 0) (fun _ _=>rfl)))),?_⟩
  walk_at "r"
  refine ⟨_,rfl,hv,?_⟩
  have hw:N9 (.str t)=true:=by show (Bo t).isSome=true;rw [hn];rfl
  rw [hw]
  walk_at "r"
  refine ⟨ap,Jb,t,.int (n:Nat),rfl,rfl,hp,by rw [Zba,hn];rfl,?_⟩
  exact q
theorem K3 {s:Str}{n:Nat}(h:Bo s=some n):n<=3:=by
 have all:PN.all (fun p=>decide (p.2<=3))=true:=by decide +kernel
 unfold Bo at h
 have gen:∀ ps:List (Str×Nat),ps.all (fun p=>decide (p.2<=3))=true->ps.lookup s=some n->n<=3:=by
  intro ps
  induction ps with
  | nil=>intro _ h;cases h
  | cons p r ih =>
   intro ha h
   rw [Si,Qk] at ha
   rw [Qu] at h
   split at h
   ·cases h;exact of_decide_eq_true ha.1
   ·exact ih ha.2 h
 exact gen PN all h
noncomputable def BareAt (K:O0)(ag:Addr)(H:Hp)(r:Addr)(s:Str)(nv:V)(n:Nat):Prop:=∃ pp,SqT K H r [.str s,nv,.ref pp]/\SqT K H pp (Pa n (.ref ag))
theorem BareAt.same {K:O0}{ag:Addr}{H H':Hp}{r:Addr}{s:Str}{nv:V}{n:Nat}(h:BareAt K ag H r s nv n)(e:SameT H H'):BareAt K ag H' r s nv n:=by
 obtain ⟨pp,h1,h2⟩:=h
 exact ⟨pp,e.tup h1,e.tup h2⟩
theorem BareAt.tr {K:O0}{ag:Addr}{H:Hp}{r:Addr}{s:Str}{nv:V}{n:Nat}{d:Dt}(GA:Jg K ag)(h:BareAt K ag H r s nv n)(hn:IsN K H nv d):TrAt K H (.ref r) (.mk s d (Pa n gapT)):=by
 obtain ⟨pp,h1,h2⟩:=h
 refine .mk h1 hn h2 (by simp) fun j v t e1 e2=>?_
 rw [Tc (Pt e1),Tc (Pt e2)]
 exact GA.at_ H
theorem Zpp (n:Nat)(x:V):(Pa n [x]).flatten=Pa n x:=by
 induction n with
 | zero=>rfl
 | succ n ih=>rw [Rm,Ti,ih,Rm];rfl
noncomputable def Zb9 (K:O0)(ag:Addr):Sp:=fun vs H Q _=>∃(s:Str)(nv:V)(nt:Nt)(n:Nat),vs=[.str s,nv]/\Has K H (.str s)/\NtAt K H nv nt/\Bo s=some n/\B2 s nt=true/\∀(r:Addr)(H':Hp),Same H H'->BareAt K ag H' r s nv n->Q (.ref r) H'
theorem Zgk:A2 ["word", "note", "many"] ["word", "note"] (Am J6):=by walk_at "sc"
theorem Zrs {ag:Addr}{f:Addr}{fd:FuncData}(F:Fun K "bare" "bare" J6 f fd)(T:Txt K mg)(G_GAP:Eo mg "GAP" (.ref ag))(C_many_parts:A4 P w K mg base 2 "many_parts" ["word"] (Zee K))(C_is_note:A4 P w K mg base 3 "is_note" ["word", "note"] (Nd K)):Ao P w K mg base Aq 4 f fd ["word", "note"] (Zb9 K ag):=by
 refine F.okq Zgk (fun vs H Q E h=>?_) (fun cdv A outer s H vs Q E hr h=>?_)
 ·obtain ⟨v,nv,nt,n,rfl,_⟩:=h
  rfl
 ·obtain ⟨s,nv,nt,n,rfl,hv,hn,hp,hb,q⟩:=h
  refine ⟨_,Ag (A3 2 Zgk (A1 C_many_parts hr.m (Aa (qv 0) Ac)))
   (Ag (Ar (Cf (Cb (A1 C_is_note hr.m (Aa (qv 0) (Aa (qv 1) Ac))))) (Af Hq) Av)
   (Af (Ak (A0 (Aa (qv 0) (Aa (qv 1) (Aa (Ah (Zmw K) (A0 (Aa (Fy G_GAP) Ac)) (qv 2)) Ac))))))),?_⟩
  have n3:=K3 hp
  walk_at "r"
  refine ⟨s,n,rfl,hv,hp,?_⟩
  walk_at "r"
  refine ⟨s,nv,nt,rfl,hn,fun H1 s1=>?_⟩
  rw [hb]
  walk_at "r"
  refine ⟨Ck,fun p1 hp1=>?_⟩
  have s2:=Same.upd (o:=.tup [.ref ag]) hp1
  walk_at "r"
  refine Znj (xs:=[.ref ag]) (SqT.of Ad) (by simp) (by omega) (by omega) (by show ((1:Nat):Int) * (n:Int)<=1000;omega) fun r1 H3 s3 q3=>?_
  walk_at "r"
  refine ⟨Bk,fun r hr3=>?_⟩
  have s4:=Same.upd (o:=.tup [.str s,nv,.ref r1]) hr3
  refine q r _ (s1.trans (s2.trans (s3.trans s4))) ⟨r1,SqT.of Ad,?_⟩
  have:=s4.tup q3
  rw [show ((n:Nat):Int).toNat=n from by simp,Zpp] at this
  exact this
noncomputable def Zcj (K:O0)(ND:Addr):Sp:=fun vs H Q E=>∃ v t,vs=[v]/\TrAt K H v t/\(t.wd = "gap" -> Q .non H)/\(t.wd ≠ "gap" -> E (.ref ND) none H)
theorem Zir:A2 ["form"] ["form"] (Am Li):=by walk_at "sc"
theorem Zup {N_NoDeed:Addr}{f:Addr}{fd:FuncData}(F:Fun K "refuse_no_gap" "refuse_no_gap" Li f fd)(T:Txt K mg)(R_NoDeed:Hz K N_NoDeed)(G_NoDeed:mg "NoDeed" = some (.ref N_NoDeed)):Ao P w K mg base (Be P w) 1 f fd ["form"] (Zcj K N_NoDeed):=by
 refine F.okx Zir (fun vs H Q E h=>?_) (fun cdv A outer s H vs Q E hr h=>?_)
 ·obtain ⟨v,t,rfl,_⟩:=h
  rfl
 ·obtain ⟨v,t,rfl,ht,q,x⟩:=h
  refine ⟨_,Af (Ar (Ay (Ky K hr.u200) (Ai K (qv 0) Ab) An (Ax _)) (Af (Mq rfl R_NoDeed G_NoDeed (Aa An Ac) (fun _ _ _ _ _ _ _ I x h0 hn he=>Jw I x h0 hn he) rfl)) Av),?_⟩
  obtain ⟨a,p,n,rfl,hq⟩:=Gz ht
  walk_at "r"
  refine Ae hq rfl ?_
  walk_at "r"
  by_cases hw:t.wd = "gap"
  ·rw [hw,decide_eq_true (Eq.refl _)]
   walk_at "r"
   exact q hw
  ·rw [decide_eq_false (fun h=>hw (V.str.inj h))]
   walk_at "r"
   exact ⟨Ck,x hw⟩
noncomputable def Zhk (K:O0):Sp:=fun vs H Q _=>∃ v t,vs=[v]/\TrAt K H v t/\TrOk t/\∀ H',Same H H'->Q (.bl true) H'
theorem Zrz:A2 ["thing"] ["thing"] (Am Kl):=by walk_at "sc"
theorem Zj8 {f:Addr}{fd:FuncData}(F:Fun K "is_top_of_form" "is_top_of_form" Kl f fd)(T:Txt K mg)(G:Gs P w K mg)(C_is_word:A4 P w K mg base 1 "is_word" ["thing"] (Zae K))(C_is_note:A4 P w K mg base 3 "is_note" ["word", "note"] (Nd K)):Ao P w K mg base Aq 4 f fd ["thing"] (Zhk K):=by
 refine F.okq Zrz (fun vs H Q E h=>?_) (fun cdv A outer s H vs Q E hr h=>?_)
 ·obtain ⟨v,t,rfl,_⟩:=h
  rfl
 ·obtain ⟨v,t,rfl,ht,ok,q⟩:=h
  obtain ⟨ap,G_PARTS_OF_WORDS,hpw⟩:=G.pw
  refine ⟨_,Ag (Ar (QW.qt (Ek (Cf (Cb (Bd (Fx K "tuple") (by rfl) T.isinstance (by decide +kernel) (Aa (qv 0) (Aa (Eu (v:=.ty "tuple") (by rfl) T.tuple (by decide +kernel) rfl) Ac))))) (Es (Ay (Ky K hr.u200) (Bd (Cp K) (by rfl) T.len (by decide +kernel) (Aa (qv 0) Ac)) Ab (Ax _))))) (Af (Ak Dg)) Av)
   (Ag (Ar (QW.qt (Ek (Cf (Cb (A1 C_is_word hr.m (Aa (Ai K (qv 0) Ab) Ac)))) (Es (Cf (Cb (A1 C_is_note hr.m (Aa (Ai K (qv 0) Ab) (Aa (Ai K (qv 0) Ab) Ac)))))))) (Af (Ak Dg)) Av)
   (Af (Ak (Dp (Bd (Fx K "tuple") (by rfl) T.isinstance (by decide +kernel) (Aa (Ai K (qv 0) Ab) (Aa (Eu (v:=.ty "tuple") (by rfl) T.tuple (by decide +kernel) rfl) Ac))) (D6 (Co (A5 K hr.u200) (Bd (Cp K) (by rfl) T.len (by decide +kernel) (Aa (Ai K (qv 0) Ab) Ac)) (Ms (Zd1 P w K) (Fy G_PARTS_OF_WORDS) (Ai K (qv 0) Ab) (fun _ _=>rfl)) (Ax _))))))),?_⟩
  cases ht with
  | @mk b p wd nv n us ts qb hn qp l hc =>
  cases ok with
  | @mk _ _ nt _ hps hd hb hs =>
  have hwl:wd.length<=1000:=P5 (Iy hps).2.2.2.2 (by decide)
  walk_at "r"
  refine Za9 qb (b:=true) Zdj ?_
  walk_at "r"
  refine Fl qb ?_
  walk_at "r"
  rw [show (!decide (V.int (([V.str wd,nv,V.ref p]:List V).length:Nat)=V.int 3))=false from rfl]
  walk_at "r"
  refine Ae qb rfl ?_
  walk_at "r"
  refine ⟨_,rfl,⟨_,.str wd hwl⟩,?_⟩
  have hw:N9 (.str wd)=true:=by show (Bo wd).isSome=true;rw [hps];rfl
  rw [hw]
  walk_at "r"
  refine Ae qb rfl ?_
  walk_at "r"
  refine Ae qb rfl ?_
  walk_at "r"
  refine ⟨wd,nv,nt,rfl,IsN.nt hn hd,fun H1 s1=>?_⟩
  rw [hb]
  walk_at "r"
  refine Ae (s1.tup qb) rfl ?_
  walk_at "r"
  refine Za9 (s1.tup qp) (b:=true) Zdj ?_
  refine ⟨_,rfl,?_⟩
  refine iteT ?_
  walk_at "r"
  refine Ae (s1.tup qb) rfl ?_
  walk_at "r"
  refine Fl (s1.tup qp) ?_
  walk_at "r"
  refine Ae (s1.tup qb) rfl ?_
  refine ⟨ap,Jb,wd,.int (ts.length:Nat),rfl,rfl,hpw,by rw [Zba,hps];rfl,?_⟩
  walk_at "r"
  rw [l,decide_eq_true (Eq.refl _)]
  exact q H1 s1
noncomputable def Zd3 (K:O0):Sp:=fun vs H Q _=>∃ v t,vs=[v]/\TrAt K H v t/\TrOk t/\t.size<=1000/\∀ H',Same H H'->Q (.bl true) H'
theorem Zb3:A2 ["thing", "waiting", "top"] ["thing"] (Am Ls):=by walk_at "sc"
theorem Zky {f:Addr}{fd:FuncData}(F:Fun K "is_form" "is_form" Ls f fd)(T:Txt K mg)(C_is_top_of_form:A4 P w K mg base 4 "is_top_of_form" ["thing"] (Zhk K)):Ao P w K mg base Aq 5 f fd ["thing"] (Zd3 K):=by
 refine F.okq Zb3 (fun vs H Q E h=>?_) (fun cdv A outer s H vs Q E hr h=>?_)
 ·obtain ⟨v,t,rfl,_⟩:=h
  rfl
 ·obtain ⟨v,t,rfl,ht,ok,hz,q⟩:=h
  refine ⟨_,Ag (A3 1 Zb3 (Bv (Aa (qv 0) Ac)))
   (Ag (Zfq Ql (Ol K (qv 1) (by intro _;rfl)) (Ag (A3 2 Zb3 (M6 K Pz Vb Vc Oq (qv 1)))
   (Ag (Ar (Cf (Cb (A1 C_is_top_of_form hr.m (Aa (qv 2) Ac)))) (Af (Ak Dg)) Av)
   (Af (Ce (Cv K Pz PySem.F.slot_list_extend PySem.F.type_list_extend (Zmt K) (qv 1) (Aa (Ai K (qv 2) Ab) Ac)))))))
   (Af (Ak Dg))),?_⟩
  have bg:=Ct
  walk_at "r"
  refine ⟨Ck,fun pw hpw=>?_⟩
  have s0:=Same.upd (o:=.lst [v]) hpw
  walk_at "r"
  refine ⟨fun m σ' H'=>∃(v2:Option V)(wv:List V)(st:List Tr),σ'=[some v,some (.ref pw),v2]/\H' pw=some (.lst wv)/\Al (TrAt K H') wv st/\(∀ t∈st,TrOk t)/\m=As st/\As st<=t.size/\Same H H',⟨_,none,[v],[t],rfl,Ad,Al.nil.snoc (ht.same s0),(fun x hx=>by rw [P8.mp hx];exact ok),rfl,by rw [As,As];omega,s0⟩,?_⟩
  rintro m σ' H' ⟨v2,wv,st,rfl,ew,al,okst,rfl,hsz,sm⟩
  have hwl:wv.length<=1000:=by rw [al.1];have:=Lg st;omega
  walk_at "r"
  refine Zng (SqL.of ew) ?_
  by_cases hwv:wv=[]
  ·subst hwv
   refine iteF ?_
   walk_at "r"
   exact q H' sm
  obtain ⟨wv',tp,st',x,rfl,rfl,al',hx⟩:=al.last hwv
  have hne:(!(wv'++[tp]).isEmpty)=true:=by simp
  rw [hne]
  refine iteT ?_
  have hss:As (st'++[x])=As st'+x.size:=by rw [Fc,As,As];omega
  have okx:=okst x (by simp)
  refine ⟨fun σ2 H2=>∃ m',m' < As (st'++[x])/\∃(v2:Option V)(wv:List V)(st:List Tr),σ2=[some v,some (.ref pw),v2]/\H2 pw=some (.lst wv)/\Al (TrAt K H2) wv st/\(∀ t∈st,TrOk t)/\m'=As st/\As st<=t.size/\Same H H2,fun _ _ h=>h,?_⟩
  walk_at "r"
  refine B3 (SqL.of ew) ?_
  refine Zcn ew ?_
  have t1:=SameT.set (o:=.lst wv') ew
  have e1:upd H' pw (.lst wv') pw=some (.lst wv'):=Ad
  have sm1:=sm.over (o:=.lst wv') hpw
  revert t1 e1 sm1
  generalize upd H' pw (.lst wv')=H1
  intro t1 e1 sm1
  have hx1:=hx.sameT t1
  walk_at "r"
  refine ⟨tp,x,rfl,hx1,okx,fun H2 s2=>?_⟩
  cases hx1 with
  | @mk b p wd nv n us ts qb hn qp l hc =>
  have hts:(Tr.mk wd n ts).size=1+As ts:=by rw [Tr.size]
  have hul:us.length<=1000:=by rw [l];have:=Lg ts;omega
  have e2:=s2 _ _ e1
  walk_at "r"
  refine B3 (SqL.of e2) ?_
  walk_at "r"
  refine Ae (s2.tup qb) rfl ?_
  walk_at "r"
  refine ⟨pw,p,wv',us,rfl,rfl,e2,s2.tup qp,by rw [Pm,Rl] at hwl;omega,?_⟩
  have t3:=SameT.set (o:=.lst (wv'++us)) e2
  have tt:=t1.trans (s2.t.trans t3)
  walk_at "r"
  refine ⟨As (st'++ts),by rw [hss,Fc];omega,_,wv'++us,st'++ts,rfl,Ad,Al.append (TrAt.al al' tt) ⟨l,fun j y z g1 g2=>(hc j y z g1 g2).sameT (s2.t.trans t3)⟩,fun y hy=>?_,rfl,by rw [Fc];omega,(sm1.trans s2).over hpw⟩
  rcases P4.mp hy with hy | hy
  ·exact okst y (Ud _ hy)
  ·exact Zgc okx y hy
noncomputable def Zcy (K:O0):Sp:=fun vs H Q _=>∃ v t,vs=[v]/\TrAt K H v t/\TrOk t/\t.size<=1000/\∀ H',Same H H'->Q .non H'
theorem Zsf:A2 ["thing"] ["thing"] (Am J0):=by walk_at "sc"
theorem Zmp {f:Addr}{fd:FuncData}(F:Fun K "refuse_no_form" "refuse_no_form" J0 f fd)(T:Txt K mg)(C_is_form:A4 P w K mg base 5 "is_form" ["thing"] (Zd3 K)):Ao P w K mg base Aq 6 f fd ["thing"] (Zcy K):=by
 refine F.okq Zsf (fun vs H Q E h=>?_) (fun cdv A outer s H vs Q E hr h=>?_)
 ·obtain ⟨v,t,rfl,_⟩:=h
  rfl
 ·obtain ⟨v,t,rfl,ht,ok,hz,q⟩:=h
  refine ⟨_,Af (Ar (Cf (Cb (A1 C_is_form hr.m (Aa (qv 0) Ac)))) (Af Hq) Av),?_⟩
  walk_at "r"
  refine ⟨v,t,rfl,ht,ok,hz,fun H1 s1=>?_⟩
  walk_at "r"
  exact q H1 s1
noncomputable def F4 (K:O0)(c:Cs)(ag:Addr):Sp:=fun vs H Q _=>∃(a dx:Addr)(s:Str)(nv:V)(nt:Nt)(n:Nat),vs=[.ref a,.str s,nv]/\H a=some (.ins c.p dx [])/\Has K H (.str s)/\NtAt K H nv nt/\Bo s=some n/\B2 s nt=true/\s ≠ "gap" /\
 ∀(r:Addr)(H':Hp),SameB a H H'->H' a=some (.ins c.p dx [("form",.ref r)])->BareAt K ag H' r s nv n->Q .non H'
theorem Zsn:A2 ["self", "word", "note"] ["self", "word", "note"] (Am Cd):=by walk_at "sc"
theorem Zp5 {c:Cs}{ag:Addr}{TD:Addr}{f:Addr}{fd:FuncData}(F:FunD K "__init__" "Put.__init__" Cd TD f fd)(T:Txt K mg)(O:B0 K mg "Put" c.p)(C_bare:A4 P w K mg base 4 "bare" ["word", "note"] (Zb9 K ag)):Ao P w K mg base (Be P w) 5 f fd ["self", "word", "note"] (F4 K c ag):=by
 refine F.okx Zsn (fun vs H Q E h=>?_) (fun cdv A outer s H vs Q E hr h=>?_)
 ·obtain ⟨a,dx,s,nv,nt,n,rfl,_⟩:=h
  rfl
 ·obtain ⟨a,dx,z,nv,nt,n,rfl,ha,hv,hn,hp,hb,hw,q⟩:=h
  refine ⟨_,Ag (Hi K (qv 0) (A1 C_bare hr.m (Aa (qv 1) (Aa (qv 2) Ac))))
   (Af (Ar (Ay (A5 K hr.u200) (qv 1) An (Ax _)) (Af Hq) Av)),?_⟩
  walk_at "r"
  refine ⟨_,rfl,_,rfl,?_⟩
  refine ⟨z,nv,nt,n,rfl,hv,hn,hp,hb,fun r H1 s1 hr1=>?_⟩
  refine ⟨_,rfl,a,c.p,dx,[],rfl,s1 _ _ ha,O.cl,O.nf,by simp,?_⟩
  have st:=Zab (s1 _ _ ha) (.ins c.p dx (Br "form" (.ref r) []))
  walk_at "r"
  rw [decide_eq_false (fun h=>hw (V.str.inj h))]
  walk_at "r"
  exact q r _ (fun b o hb h=>by rw [Au hb];exact s1 b o h) Ad (hr1.same st)
noncomputable def Zbu (K:O0)(c:Cs):Sp:=fun vs H Q _=>∃(a dx:Addr)(v:V)(t:Tr),vs=[.ref a,v]/\H a=some (.ins c.f dx [])/\TrAt K H v t/\TrOk t/\t.size<=1000/\t.wd ≠ "gap" /\ ∀ H',SameB a H H'->H' a=some (.ins c.f dx [("form",v)])->Q .non H'
theorem Zr6:A2 ["self", "form"] ["self", "form"] (Am Md):=by walk_at "sc"
theorem Zjs {c:Cs}{f:Addr}{fd:FuncData}(F:Fun K "__init__" "Fill.__init__" Md f fd)(T:Txt K mg)(O:B0 K mg "Fill" c.f)(C_refuse_no_form:A4 P w K mg base 6 "refuse_no_form" ["thing"] (Zcy K)):Ao P w K mg base Aq 7 f fd ["self", "form"] (Zbu K c):=by
 refine F.okq Zr6 (fun vs H Q E h=>?_) (fun cdv A outer s H vs Q E hr h=>?_)
 ·obtain ⟨a,dx,v,t,rfl,_⟩:=h
  rfl
 ·obtain ⟨a,dx,v,t,rfl,ha,hv,ok,hz,hw,q⟩:=h
  refine ⟨_,Ag (Ce (A1 C_refuse_no_form hr.m (Aa (qv 1) Ac)))
   (Ag (Ar (Ay (A5 K hr.u200) (Ai K (qv 1) Ab) An (Ax _)) (Af Hq) Av)
   (Af (Hi K (qv 0) (qv 1)))),?_⟩
  walk_at "r"
  refine ⟨v,t,rfl,hv,ok,hz,fun H1 s1=>?_⟩
  obtain ⟨b,p,n,rfl,hq⟩:=Gz (hv.same s1)
  walk_at "r"
  refine Ae hq rfl ?_
  walk_at "r"
  rw [decide_eq_false (fun h=>hw (V.str.inj h))]
  walk_at "r"
  refine ⟨_,rfl,_,rfl,a,c.f,dx,[],rfl,s1 _ _ ha,O.cl,O.nf,by simp,?_⟩
  exact q _ (fun b o hb h=>by rw [Au hb];exact s1 b o h) Ad
noncomputable def Zcg (K:O0)(c:Cs):Sp:=fun vs H Q _=>∃(a dx:Addr)(v:V)(t:Tr),vs=[.ref a,v]/\H a=some (.ins c.g dx [])/\TrAt K H v t/\TrOk t/\t.size<=1000/\∀ H',SameB a H H'->H' a=some (.ins c.g dx [("form",v)])->Q .non H'
theorem Zuj:A2 ["self", "form"] ["self", "form"] (Am Lk):=by walk_at "sc"
theorem Zsp {c:Cs}{f:Addr}{fd:FuncData}(F:Fun K "__init__" "Change.__init__" Lk f fd)(T:Txt K mg)(O:B0 K mg "Change" c.g)(C_refuse_no_form:A4 P w K mg base 6 "refuse_no_form" ["thing"] (Zcy K)):Ao P w K mg base Aq 7 f fd ["self", "form"] (Zcg K c):=by
 refine F.okq Zuj (fun vs H Q E h=>?_) (fun cdv A outer s H vs Q E hr h=>?_)
 ·obtain ⟨a,dx,v,t,rfl,_⟩:=h
  rfl
 ·obtain ⟨a,dx,v,t,rfl,ha,hv,ok,hz,q⟩:=h
  refine ⟨_,Ag (Ce (A1 C_refuse_no_form hr.m (Aa (qv 1) Ac)))
   (Af (Hi K (qv 0) (qv 1))),?_⟩
  walk_at "r"
  refine ⟨v,t,rfl,hv,ok,hz,fun H1 s1=>?_⟩
  walk_at "r"
  refine ⟨_,rfl,_,rfl,a,c.g,dx,[],rfl,s1 _ _ ha,O.cl,O.nf,by simp,?_⟩
  exact q _ (fun b o hb h=>by rw [Au hb];exact s1 b o h) Ad
noncomputable def Zac (K:O0)(c:Cs):Sp:=fun vs H Q _=>∃(a dx:Addr)(v:V),vs=[.ref a,v]/\H a=some (.ins c.n dx [])/\Q .non (upd H a (.ins c.n dx [("note",v)]))
theorem Zs1:A2 ["self", "note"] ["self", "note"] (Am Kk):=by walk_at "sc"
theorem Ziq {c:Cs}{f:Addr}{fd:FuncData}(F:Fun K "__init__" "Note.__init__" Kk f fd)(T:Txt K mg)(O:B0 K mg "Note" c.n):Ao P w K mg base Aq 1 f fd ["self", "note"] (Zac K c):=by
 refine F.okq Zs1 (fun vs H Q E h=>?_) (fun cdv A outer s H vs Q E hr h=>?_)
 ·obtain ⟨a,dx,v,rfl,_⟩:=h
  rfl
 ·obtain ⟨a,dx,v,rfl,ha,q⟩:=h
  refine ⟨_,Af (Hi K (qv 0) (qv 1)),?_⟩
  exact ⟨_,rfl,_,rfl,a,c.n,dx,[],rfl,ha,O.cl,O.nn,by simp,q⟩
noncomputable def Fu (K:O0)(c:Cs):Sp:=fun vs H Q _=>∃(a dx:Addr)(v:V),vs=[.ref a,v]/\H a=some (.ins c.k dx [])/\Q .non (upd H a (.ins c.k dx [("at",v)]))
theorem Zqa:A2 ["self", "at"] ["self", "at"] (Am Cg):=by walk_at "sc"
theorem Zm6 {c:Cs}{TD:Addr}{f:Addr}{fd:FuncData}(F:FunD K "__init__" "Keep.__init__" Cg TD f fd)(T:Txt K mg)(O:B0 K mg "Keep" c.k):Ao P w K mg base (Be P w) 1 f fd ["self", "at"] (Fu K c):=by
 refine F.okx Zqa (fun vs H Q E h=>?_) (fun cdv A outer s H vs Q E hr h=>?_)
 ·obtain ⟨a,dx,v,rfl,_⟩:=h
  rfl
 ·obtain ⟨a,dx,v,rfl,ha,q⟩:=h
  refine ⟨_,Af (Hi K (qv 0) (qv 1)),?_⟩
  exact ⟨_,rfl,_,rfl,a,c.k,dx,[],rfl,ha,O.cl,O.na,by simp,q⟩
noncomputable def Fz (K:O0)(c:Cs)(ag:Addr):Sp:=fun vs H Q _=>∃(a dx:Addr)(s:Str)(nv:V)(nt:Nt)(n i:Nat),vs=[.ref a,.str s,nv,.int (i:Nat)]/\H a=some (.ins c.w dx [])/\Has K H (.str s)/\NtAt K H nv nt/\Bo s=some n/\B2 s nt=true/\i < n/\(∃ d,IsN K H nv d) /\
 ∀(r:Addr)(H':Hp),SameB a H H'->H' a=some (.ins c.w dx [("form",.ref r),("at",.int (i:Nat))])->BareAt K ag H' r s nv n->Q .non H'
theorem Znm:A2 ["self", "word", "note", "at"] ["self", "word", "note", "at"] (Am Cj):=by walk_at "sc"
theorem Zt6 {c:Cs}{ag:Addr}{TD:Addr}{f:Addr}{fd:FuncData}(F:FunD K "__init__" "Wrap.__init__" Cj TD f fd)(T:Txt K mg)(O:B0 K mg "Wrap" c.w)(GA:Jg K ag)(C_bare:A4 P w K mg base 4 "bare" ["word", "note"] (Zb9 K ag))(C_has_part:A4 P w K mg base 2 "has_part" ["form", "number"] (Mh K)):Ao P w K mg base (Be P w) 5 f fd ["self", "word", "note", "at"] (Fz K c ag):=by
 refine F.okx Znm (fun vs H Q E h=>?_) (fun cdv A outer s H vs Q E hr h=>?_)
 ·obtain ⟨a,dx,s,nv,nt,n,i,rfl,_⟩:=h
  rfl
 ·obtain ⟨a,dx,z,nv,nt,n,i,rfl,ha,hv,hn,hp,hb,hi,⟨dt,hdt⟩,q⟩:=h
  refine ⟨_,Ag (Hi K (qv 0) (A1 C_bare hr.m (Aa (qv 1) (Aa (qv 2) Ac))))
   (Ag (Hi K (qv 0) (qv 3))
   (Af (Ar (Cf (Cb (A1 C_has_part hr.m (Aa (Ep K (qv 0)) (Aa (qv 3) Ac))))) (Af Hq) Av))),?_⟩
  walk_at "r"
  refine ⟨_,rfl,_,rfl,?_⟩
  refine ⟨z,nv,nt,n,rfl,hv,hn,hp,hb,fun r H1 s1 hr1=>?_⟩
  refine ⟨_,rfl,a,c.w,dx,[],rfl,s1 _ _ ha,O.cl,O.nf,by simp,?_⟩
  have st:=Zab (s1 _ _ ha) (.ins c.w dx (Br "form" (.ref r) []))
  have e2:upd H1 a (.ins c.w dx (Br "form" (.ref r) [])) a=some (.ins c.w dx [("form",.ref r)]):=Ad
  have b2:SameB a H (upd H1 a (.ins c.w dx (Br "form" (.ref r) []))):=fun b o hb h=>by rw [Au hb];exact s1 b o h
  have hr2:=hr1.same st
  have n2:=(hdt.same s1.t).same st
  revert e2 b2 hr2 n2
  generalize upd H1 a (.ins c.w dx (Br "form" (.ref r) []))=H2
  intro e2 b2 hr2 n2
  walk_at "r"
  refine ⟨_,rfl,_,rfl,a,c.w,dx,[("form",.ref r)],rfl,e2,O.cl,O.na,by simp,?_⟩
  have st3:=Zab e2 (.ins c.w dx (Br "at" (.int (i:Nat)) [("form",.ref r)]))
  have e3:upd H2 a (.ins c.w dx (Br "at" (.int (i:Nat)) [("form",.ref r)])) a=some (.ins c.w dx [("form",.ref r),("at",.int (i:Nat))]):=Ad
  have b3:SameB a H (upd H2 a (.ins c.w dx (Br "at" (.int (i:Nat)) [("form",.ref r)]))):=fun b o hb h=>by rw [Au hb];exact b2 b o hb h
  have hr3:=hr2.same st3
  have n3:=n2.same st3
  revert e3 b3 hr3 n3
  generalize upd H2 a (.ins c.w dx (Br "at" (.int (i:Nat)) [("form",.ref r)]))=H3
  intro e3 b3 hr3 n3
  walk_at "r"
  refine ⟨_,rfl,a,c.w,dx,_,.ref r,rfl,e3,O.cl,O.nf,rfl,?_⟩
  walk_at "r"
  refine ⟨_,_,_,rfl,hr3.tr GA n3,?_⟩
  rw [decide_eq_true (show (0:Int)<=((i:Nat):Int)/\((i:Nat):Int) < (((Tr.mk z dt (Pa n gapT)).ps.length:Nat):Int) from ⟨by omega,by show ((i:Nat):Int) < (((Pa n gapT).length:Nat):Int);rw [Rj];omega⟩)]
  walk_at "r"
  exact q r H3 b3 e3 hr3
end
theorem Zqj {c:Cs}(A:c.Apart){d:Dd}(h:d.cls c=c.p):∃ t,d=.put t:=by
 have:=A.dd (d:=d) (e:=.put gapT) h
 rcases this with ⟨_,h1,_,h2⟩ | ⟨_,h1,_,h2⟩ | ⟨_,_,h1,_,_,h2⟩ | ⟨_,h1,_,h2⟩ | ⟨_,_,h1,_,_,h2⟩ | ⟨_,h1,_,h2⟩ | ⟨h1,h2⟩ | ⟨h1,h2⟩ <;> first | (cases h2;done) | exact ⟨_,h1⟩
theorem Zpx {c:Cs}(A:c.Apart){d:Dd}(h:d.cls c=c.f):∃ t,d=.fill t:=by
 have:=A.dd (d:=d) (e:=.fill gapT) h
 rcases this with ⟨_,h1,_,h2⟩ | ⟨_,h1,_,h2⟩ | ⟨_,_,h1,_,_,h2⟩ | ⟨_,h1,_,h2⟩ | ⟨_,_,h1,_,_,h2⟩ | ⟨_,h1,_,h2⟩ | ⟨h1,h2⟩ | ⟨h1,h2⟩ <;> first | (cases h2;done) | exact ⟨_,h1⟩
theorem Zib {c:Cs}(A:c.Apart){d:Dd}(h:d.cls c=c.w):∃ t i,d=.wrap t i:=by
 have:=A.dd (d:=d) (e:=.wrap gapT 0) h
 rcases this with ⟨_,h1,_,h2⟩ | ⟨_,h1,_,h2⟩ | ⟨_,_,h1,_,_,h2⟩ | ⟨_,h1,_,h2⟩ | ⟨_,_,h1,_,_,h2⟩ | ⟨_,h1,_,h2⟩ | ⟨h1,h2⟩ | ⟨h1,h2⟩ <;> first | (cases h2;done) | exact ⟨_,_,h1⟩
theorem Zsk {c:Cs}(A:c.Apart){d:Dd}(h:d.cls c=c.k):∃ i,d=.keep i:=by
 have:=A.dd (d:=d) (e:=.keep 0) h
 rcases this with ⟨_,h1,_,h2⟩ | ⟨_,h1,_,h2⟩ | ⟨_,_,h1,_,_,h2⟩ | ⟨_,h1,_,h2⟩ | ⟨_,_,h1,_,_,h2⟩ | ⟨_,h1,_,h2⟩ | ⟨h1,h2⟩ | ⟨h1,h2⟩ <;> first | (cases h2;done) | exact ⟨_,h1⟩
theorem Zs6 {c:Cs}(A:c.Apart){d:Dd}(h:d.cls c=c.n):∃ n m,d=.note n m:=by
 have:=A.dd (d:=d) (e:=.note (.flat .non) (.fl .non)) h
 rcases this with ⟨_,h1,_,h2⟩ | ⟨_,h1,_,h2⟩ | ⟨_,_,h1,_,_,h2⟩ | ⟨_,h1,_,h2⟩ | ⟨_,_,h1,_,_,h2⟩ | ⟨_,h1,_,h2⟩ | ⟨h1,h2⟩ | ⟨h1,h2⟩ <;> first | (cases h2;done) | exact ⟨_,_,h1⟩
theorem Zjq {c:Cs}(A:c.Apart){d:Dd}(h:d.cls c=c.g):∃ t,d=.chg t:=by
 have:=A.dd (d:=d) (e:=.chg gapT) h
 rcases this with ⟨_,h1,_,h2⟩ | ⟨_,h1,_,h2⟩ | ⟨_,_,h1,_,_,h2⟩ | ⟨_,h1,_,h2⟩ | ⟨_,_,h1,_,_,h2⟩ | ⟨_,h1,_,h2⟩ | ⟨h1,h2⟩ | ⟨h1,h2⟩ <;> first | (cases h2;done) | exact ⟨_,h1⟩
theorem Zrf {c:Cs}(A:c.Apart){d:Dd}(h:d.cls c=c.d):d=.deed:=by
 have:=A.dd (d:=d) (e:=.deed) h
 rcases this with ⟨_,h1,_,h2⟩ | ⟨_,h1,_,h2⟩ | ⟨_,_,h1,_,_,h2⟩ | ⟨_,h1,_,h2⟩ | ⟨_,_,h1,_,_,h2⟩ | ⟨_,h1,_,h2⟩ | ⟨h1,h2⟩ | ⟨h1,h2⟩ <;> first | (cases h2;done) | exact h1
theorem Zj0 {c:Cs}(A:c.Apart){d:Dd}(h:d.cls c=c.c):d=.cut:=by
 have:=A.dd (d:=d) (e:=.cut) h
 rcases this with ⟨_,h1,_,h2⟩ | ⟨_,h1,_,h2⟩ | ⟨_,_,h1,_,_,h2⟩ | ⟨_,h1,_,h2⟩ | ⟨_,_,h1,_,_,h2⟩ | ⟨_,h1,_,h2⟩ | ⟨h1,h2⟩ | ⟨h1,h2⟩ <;> first | (cases h2;done) | exact h1
section
variable {P:Program}{w:World}{K:O0}{mg:Str->Option Value}{base:Heap}
theorem Zq3:A2 ["self", "form"] ["self", "form"] (Am J4):=by walk_at "sc"
theorem Zrp {c:Cs}{ND:Addr}{f:Addr}{fd:FuncData}(A:c.Apart)(F:Fun K "done" "Deed.done" J4 f fd)(T:Txt K mg)(O:B0 K mg "Deed" c.d):Ao P w K mg base (Be P w) 7 f fd ["self", "form"] (Et K c ND c.d):=by
 refine F.okx Zq3 (fun vs H Q E h=>?_) (fun cdv A' outer s H vs Q E hr h=>?_)
 ·obtain ⟨x,d,y,t,rfl,_⟩:=h
  rfl
 ·obtain ⟨x,d,y,t,rfl,hx,hc,hy,oky,q,e⟩:=h
  obtain rfl:=Zrf A hc
  obtain ⟨a,dx,fs,rfl,ha,hf⟩:=hx
  skip
  refine ⟨_,Af (Ak (qv 1)),?_⟩
  walk_at "r"
  exact q t rfl y H (Same.refl _) hy
theorem Zpf:A2 ["self", "form"] ["self", "form"] (Am K1):=by walk_at "sc"
theorem Zs0 {c:Cs}{ND:Addr}{f:Addr}{fd:FuncData}(A:c.Apart)(F:Fun K "done" "Put.done" K1 f fd)(T:Txt K mg)(O:B0 K mg "Put" c.p)(C_refuse_no_gap:E8 P w K mg base 1 "refuse_no_gap" ["form"] (Zcj K ND)):Ao P w K mg base (Be P w) 7 f fd ["self", "form"] (Et K c ND c.p):=by
 refine F.okx Zpf (fun vs H Q E h=>?_) (fun cdv A' outer s H vs Q E hr h=>?_)
 ·obtain ⟨x,d,y,t,rfl,_⟩:=h
  rfl
 ·obtain ⟨x,d,y,t,rfl,hx,hc,hy,oky,q,e⟩:=h
  obtain ⟨p,rfl⟩:=Zqj A hc
  obtain ⟨a,dx,fs,rfl,ha,hf⟩:=hx
  obtain ⟨v,rfl,hv⟩:=hf
  refine ⟨_,Ag (Ce (N3 C_refuse_no_gap hr.m (Lw (fun _ _ _ h=>h)) (Aa (qv 1) Ac)))
   (Af (Ak (Ep K (qv 0)))),?_⟩
  walk_at "r"
  refine ⟨y,t,rfl,hy,fun hw=>?_,fun hw=>e (if_neg hw) H (Same.refl _)⟩
  walk_at "r"
  exact ⟨_,rfl,a,c.p,dx,_,v,rfl,ha,O.cl,O.nf,rfl,q p (if_pos hw) v H (Same.refl _) hv⟩
theorem Zum:A2 ["self", "form"] ["self", "form"] (Am Ju):=by walk_at "sc"
theorem Zly {c:Cs}{ND:Addr}{f:Addr}{fd:FuncData}(A:c.Apart)(F:Fun K "done" "Fill.done" Ju f fd)(T:Txt K mg)(O:B0 K mg "Fill" c.f)(C_refuse_no_gap:E8 P w K mg base 1 "refuse_no_gap" ["form"] (Zcj K ND)):Ao P w K mg base (Be P w) 7 f fd ["self", "form"] (Et K c ND c.f):=by
 refine F.okx Zum (fun vs H Q E h=>?_) (fun cdv A' outer s H vs Q E hr h=>?_)
 ·obtain ⟨x,d,y,t,rfl,_⟩:=h
  rfl
 ·obtain ⟨x,d,y,t,rfl,hx,hc,hy,oky,q,e⟩:=h
  obtain ⟨p,rfl⟩:=Zpx A hc
  obtain ⟨a,dx,fs,rfl,ha,hf⟩:=hx
  obtain ⟨v,rfl,hv⟩:=hf
  refine ⟨_,Ag (Ce (N3 C_refuse_no_gap hr.m (Lw (fun _ _ _ h=>h)) (Aa (qv 1) Ac)))
   (Af (Ak (Ep K (qv 0)))),?_⟩
  walk_at "r"
  refine ⟨y,t,rfl,hy,fun hw=>?_,fun hw=>e (if_neg hw) H (Same.refl _)⟩
  walk_at "r"
  exact ⟨_,rfl,a,c.f,dx,_,v,rfl,ha,O.cl,O.nf,rfl,q p (if_pos hw) v H (Same.refl _) hv⟩
theorem Zud:A2 ["self", "form"] ["self", "form"] (Am J2):=by walk_at "sc"
theorem Zq2 {c:Cs}{ND:Addr}{f:Addr}{fd:FuncData}(A:c.Apart)(F:Fun K "done" "Cut.done" J2 f fd)(T:Txt K mg)(O:B0 K mg "Cut" c.c){ag:Addr}(G_GAP:Eo mg "GAP" (.ref ag))(GA:Jg K ag)(R_NoDeed:Hz K ND)(G_NoDeed:mg "NoDeed" = some (.ref ND)):Ao P w K mg base (Be P w) 7 f fd ["self", "form"] (Et K c ND c.c):=by
 refine F.okx Zud (fun vs H Q E h=>?_) (fun cdv A' outer s H vs Q E hr h=>?_)
 ·obtain ⟨x,d,y,t,rfl,_⟩:=h
  rfl
 ·obtain ⟨x,d,y,t,rfl,hx,hc,hy,oky,q,e⟩:=h
  obtain rfl:=Zj0 A hc
  obtain ⟨a,dx,fs,rfl,ha,hf⟩:=hx
  skip
  refine ⟨_,Ag (Ar (Ay (A5 K hr.u200) (Ai K (qv 1) Ab) An (Ax _)) (Af (Mq rfl R_NoDeed G_NoDeed (Aa An Ac) (fun _ _ _ _ _ _ _ I x h0 hn he=>Jw I x h0 hn he) rfl)) Av)
   (Af (Ak (Fy G_GAP))),?_⟩
  obtain ⟨b,p,n,rfl,hq⟩:=Gz hy
  walk_at "r"
  refine Ae hq rfl ?_
  walk_at "r"
  by_cases hw:t.wd = "gap"
  ·rw [hw,decide_eq_true (Eq.refl _)]
   walk_at "r"
   exact ⟨Ck,e (if_pos hw) H (Same.refl _)⟩
  ·rw [decide_eq_false (fun h=>hw (V.str.inj h))]
   walk_at "r"
   exact q gapT (if_neg hw) _ H (Same.refl _) (GA.at_ H)
theorem Zps:A2 ["self", "form"] ["self", "form"] (Am Ld):=by walk_at "sc"
theorem Zkp {c:Cs}{ND:Addr}{f:Addr}{fd:FuncData}(A:c.Apart)(F:Fun K "done" "Wrap.done" Ld f fd)(T:Txt K mg)(O:B0 K mg "Wrap" c.w)(C_with_part:A4 P w K mg base 1 "with_part" ["form", "number", "part"] (Zaz K)):Ao P w K mg base (Be P w) 7 f fd ["self", "form"] (Et K c ND c.w):=by
 refine F.okx Zps (fun vs H Q E h=>?_) (fun cdv A' outer s H vs Q E hr h=>?_)
 ·obtain ⟨x,d,y,t,rfl,_⟩:=h
  rfl
 ·obtain ⟨x,d,y,t,rfl,hx,hc,hy,oky,q,e⟩:=h
  obtain ⟨p,i,rfl⟩:=Zib A hc
  obtain ⟨a,dx,fs,rfl,ha,hf⟩:=hx
  obtain ⟨v,rfl,hv,hi,h3⟩:=hf
  refine ⟨_,Af (Ak (A1 C_with_part hr.m (Aa (Ep K (qv 0)) (Aa (Ep K (qv 0)) (Aa (qv 1) Ac))))),?_⟩
  walk_at "r"
  refine ⟨_,rfl,a,c.w,dx,_,v,rfl,ha,O.cl,O.nf,rfl,?_⟩
  refine ⟨_,rfl,a,c.w,dx,_,.int (i:Nat),rfl,ha,O.cl,O.na,rfl,?_⟩
  walk_at "r"
  exact ⟨v,y,p.wd,p.note,p.ps,t,i,rfl,by rw [<- Zh0 p];exact hv,hy,hi,by omega,fun v' H' s' h'=>q _ rfl v' H' s' h'⟩
theorem Zqq:A2 ["self", "form"] ["self", "form"] (Am K2):=by walk_at "sc"
theorem Zlj {c:Cs}{ND:Addr}{f:Addr}{fd:FuncData}(A:c.Apart)(F:Fun K "done" "Keep.done" K2 f fd)(T:Txt K mg)(O:B0 K mg "Keep" c.k)(C_has_part:A4 P w K mg base 2 "has_part" ["form", "number"] (Mh K))(R_NoDeed:Hz K ND)(G_NoDeed:mg "NoDeed" = some (.ref ND)):Ao P w K mg base (Be P w) 7 f fd ["self", "form"] (Et K c ND c.k):=by
 refine F.okx Zqq (fun vs H Q E h=>?_) (fun cdv A' outer s H vs Q E hr h=>?_)
 ·obtain ⟨x,d,y,t,rfl,_⟩:=h
  rfl
 ·obtain ⟨x,d,y,t,rfl,hx,hc,hy,oky,q,e⟩:=h
  obtain ⟨i,rfl⟩:=Zsk A hc
  obtain ⟨a,dx,fs,rfl,ha,hf⟩:=hx
  obtain rfl:=hf
  refine ⟨_,Ag (Ar (Cf (Cb (A1 C_has_part hr.m (Aa (qv 1) (Aa (Ep K (qv 0)) Ac))))) (Af (Mq rfl R_NoDeed G_NoDeed (Aa An Ac) (fun _ _ _ _ _ _ _ I x h0 hn he=>Jw I x h0 hn he) rfl)) Av)
   (Af (Ak (Ai K (Ai K (qv 1) Ab) (Ep K (qv 0))))),?_⟩
  walk_at "r"
  refine ⟨_,rfl,a,c.k,dx,_,.int i,rfl,ha,O.cl,O.na,rfl,?_⟩
  walk_at "r"
  refine ⟨y,t,i,rfl,hy,?_⟩
  by_cases hi:0<=i/\i < (t.ps.length:Int)
  ·rw [decide_eq_true hi]
   walk_at "r"
   cases hy with
   | @mk b p wd nv n us ts qb hn qp l hch =>
   have hi':0<=i/\i < (ts.length:Int):=hi
   have hlt:i.toNat < ts.length:=by omega
   refine Ae qb rfl ?_
   walk_at "r"
   refine ⟨_,rfl,a,c.k,dx,_,.int i,rfl,ha,O.cl,O.na,rfl,?_⟩
   have hu:us[i.toNat]?=some (us[i.toNat]'(by omega)):=O7 _
   refine Ae qp (N6 i.toNat (by omega) hu) ?_
   have ht:ts[i.toNat]?=some ts[i.toNat]:=O7 hlt
   refine q ts[i.toNat] ?_ _ H (Same.refl _) (hch _ _ _ hu ht)
   show (if _ then ts[i.toNat]? else none)=_
   rw [if_pos hi,ht]
  ·rw [decide_eq_false hi]
   walk_at "r"
   exact ⟨Ck,e (if_neg hi) H (Same.refl _)⟩
theorem Ztw:A2 ["self", "form"] ["self", "form"] (Am J3):=by walk_at "sc"
theorem Zqe {c:Cs}{ND:Addr}{f:Addr}{fd:FuncData}(A:c.Apart)(F:Fun K "done" "Note.done" J3 f fd)(T:Txt K mg)(O:B0 K mg "Note" c.n)(C_is_note:A4 P w K mg base 3 "is_note" ["word", "note"] (Nd K))(R_NoDeed:Hz K ND)(G_NoDeed:mg "NoDeed" = some (.ref ND)):Ao P w K mg base (Be P w) 7 f fd ["self", "form"] (Et K c ND c.n):=by
 refine F.okx Ztw (fun vs H Q E h=>?_) (fun cdv A' outer s H vs Q E hr h=>?_)
 ·obtain ⟨x,d,y,t,rfl,_⟩:=h
  rfl
 ·obtain ⟨x,d,y,t,rfl,hx,hc,hy,oky,q,e⟩:=h
  obtain ⟨n0,nt,rfl⟩:=Zs6 A hc
  obtain ⟨a,dx,fs,rfl,ha,hf⟩:=hx
  obtain ⟨nv0,rfl,hnv,hdn⟩:=hf
  refine ⟨_,Ag (Ar (Cf (Cb (A1 C_is_note hr.m (Aa (Ai K (qv 1) Ab) (Aa (Ep K (qv 0)) Ac))))) (Af (Mq rfl R_NoDeed G_NoDeed (Aa An Ac) (fun _ _ _ _ _ _ _ I x h0 hn he=>Jw I x h0 hn he) rfl)) Av)
   (Af (Ak (A0 (Aa (Ai K (qv 1) Ab) (Aa (Ep K (qv 0)) (Aa (Ai K (qv 1) Ab) Ac)))))),?_⟩
  cases hy with
  | @mk b p wd nv n us ts qb hn qp l hch =>
  walk_at "r"
  refine Ae qb rfl ?_
  walk_at "r"
  refine ⟨_,rfl,a,c.n,dx,_,nv0,rfl,ha,O.cl,O.nn,rfl,?_⟩
  walk_at "r"
  refine ⟨wd,nv0,nt,rfl,IsN.nt hnv hdn,fun H1 s1=>?_⟩
  cases hb:B2 wd nt with
  | false =>
   walk_at "r"
   exact ⟨Ck,e (if_neg (by show ¬ B2 wd nt=true;rw [hb];exact O8)) H1 s1⟩
  | true =>
   walk_at "r"
   refine Ae (s1.tup qb) rfl ?_
   walk_at "r"
   refine ⟨_,rfl,a,c.n,dx,_,nv0,rfl,s1 _ _ ha,O.cl,O.nn,rfl,?_⟩
   walk_at "r"
   refine Ae (s1.tup qb) rfl ?_
   walk_at "r"
   refine ⟨Bk,fun p2 h2=>?_⟩
   have s2:=s1.put (o:=.tup [.str wd,nv0,.ref p]) h2
   exact q (.mk wd n0 ts) (if_pos hb) _ _ s2 (.mk (SqT.of Ad) (hnv.same s2.t) (s2.tup qp) l fun j v t e1 e2=>(hch j v t e1 e2).same s2)
theorem Zh7:A2 ["self", "form"] ["self", "form"] (Am K6):=by walk_at "sc"
theorem Zk2 {c:Cs}{ND:Addr}{f:Addr}{fd:FuncData}(A:c.Apart)(F:Fun K "done" "Change.done" K6 f fd)(T:Txt K mg)(O:B0 K mg "Change" c.g):Ao P w K mg base (Be P w) 7 f fd ["self", "form"] (Et K c ND c.g):=by
 refine F.okx Zh7 (fun vs H Q E h=>?_) (fun cdv A' outer s H vs Q E hr h=>?_)
 ·obtain ⟨x,d,y,t,rfl,_⟩:=h
  rfl
 ·obtain ⟨x,d,y,t,rfl,hx,hc,hy,oky,q,e⟩:=h
  obtain ⟨p,rfl⟩:=Zjq A hc
  obtain ⟨a,dx,fs,rfl,ha,hf⟩:=hx
  obtain ⟨v,rfl,hv⟩:=hf
  refine ⟨_,Af (Ak (Ep K (qv 0))),?_⟩
  walk_at "r"
  exact ⟨_,rfl,a,c.g,dx,_,v,rfl,ha,O.cl,O.nf,rfl,q p rfl v H (Same.refl _) hv⟩
end
theorem Zew {ts:List Tr}{j:Nat}{t u:Tr}(h:ts[j]?=some t):As (ts.set j u)+t.size=As ts+u.size:=by
 induction ts generalizing j with
 | nil=>simp at h
 | cons x r ih =>
  cases j with
  | zero =>
   have h:x=t:=by simpa using h
   subst h
   rw [List.set_cons_zero,As,As]
   omega
  | succ j =>
   have:=ih (j:=j) (by simpa using h)
   rw [List.set_cons_succ,As,As]
   omega
theorem At.size {t u f:Tr}{pl:List Nat}(h:At t pl u):(B5 t pl f).size+u.size=t.size+f.size:=by
 induction h with
 | nil t=>rw [Hw];omega
 | @cons w n ts j t u r e _ ih=>rw [K7 e,Tr.size,Tr.size];have:=Zew (u:=B5 t r f) e;omega
theorem At.okw {t u f:Tr}{pl:List Nat}(h:At t pl u):TrOk t->TrOk f->TrOk (B5 t pl f):=by
 induction h with
 | nil t=>intro _ o;rw [Hw];exact o
 | cons e _ ih =>
  intro o of
  rw [K7 e]
  cases o with
  | mk hp hd hb hs =>
   refine .mk (by rw [Rn];exact hp) hd hb fun x hx=>?_
   rcases List.mem_or_eq_of_mem_set hx with hx | rfl
   ·exact hs x hx
   ·exact ih (hs _ (Pt e)) of
theorem Zj1 (t:Tr):1<=Bf t:=by cases t;rw [Da];omega
theorem At.depw {t u f:Tr}{pl:List Nat}(h:At t pl u)(k:Nat)(hf:Bf f<=Bf u+k):Bf (B5 t pl f)<=Bf t+k:=by
 induction h with
 | nil t=>rw [Hw];omega
 | @cons w n ts j t u r e _ ih =>
  rw [K7 e,Da,Da]
  have h1:=Zgp ts j (B5 t r f)
  have h2:=Mu e
  have h3:=ih hf
  omega
noncomputable abbrev Jd:=List Nat×Option Int
inductive Res where
 | tree (t:Tr)
 | place (pl:List Nat) (far:Int)
 | deed
noncomputable abbrev Rw:=List (Jd×Dd)
inductive Bh:Tr->Rw->Res->Prop where
 | nil (t:Tr):Bh t [] (.tree t)
 | ok {t f g:Tr} {pl:List Nat} {d:Dd} {r:Rw} {res:Res} (h:At t pl f) (hd:Bt f d=some g) (s:Bh (B5 t pl g) r res):Bh t (((pl,none),d)::r) res
 | place {t:Tr} {pl:List Nat} {far:Int} {d:Dd} {r:Rw} (h:Bad t pl far):Bh t (((pl,some far),d)::r) (.place pl far)
 | deed {t f:Tr} {pl:List Nat} {d:Dd} {r:Rw} (h:At t pl f) (hd:Bt f d=none):Bh t (((pl,none),d)::r) .deed
theorem Bh.app {t u:Tr}{r s:Rw}{res:Res}(h:Bh t r (.tree u))(h':Bh u s res):Bh t (r++s) res:=by
 generalize e:Res.tree u=q at h
 induction h with
 | nil t=>cases e;exact h'
 | ok h hd _ ih=>exact .ok h hd (ih e)
 | place h=>cases e
 | deed h hd=>cases e
theorem Bh.stop {t:Tr}{r s:Rw}{res:Res}(h:Bh t r res)(n:∀ u,res≠.tree u):Bh t (r++s) res:=by
 induction h with
 | nil t=>exact absurd rfl (n t)
 | ok h hd _ ih=>exact .ok h hd (ih n)
 | place h=>exact .place h
 | deed h hd=>exact .deed h hd
noncomputable def Hf (t:Tr):Prop:=TrOk t/\t.size<=4/\Bf t<=2
noncomputable def Dd.ok:Dd->Prop
 | .put t=>Hf t
 | .fill t=>Hf t
 | .wrap t i=>Hf t/\i < t.ps.length
 | .note n nt=>E3 n nt
 | .chg t=>Hf t
 | _=>True
theorem Zc8 {d:Dd}{t u:Tr}(h:d.ok)(ok:TrOk t)(e:Bt t d=some u):TrOk u/\u.size<=t.size+4/\Bf u<=Bf t+2:=by
 have hd:=Zj1 t
 have hz:1<=t.size:=by have:=t.size_eq;omega
 cases d with
 | deed=>cases e;exact ⟨ok,by omega,by omega⟩
 | put p =>
  have e:(if t.wd = "gap" then some p else none)=some u:=e
  split at e <;> cases e
  exact ⟨h.1,by have:=h.2.1;omega,by have:=h.2.2;omega⟩
 | fill p =>
  have e:(if t.wd = "gap" then some p else none)=some u:=e
  split at e <;> cases e
  exact ⟨h.1,by have:=h.2.1;omega,by have:=h.2.2;omega⟩
 | cut =>
  have e:(if t.wd = "gap" then none else some gapT)=some u:=e
  split at e <;> cases e
  exact ⟨TrOk.gap,by rw [N1];omega,by rw [Nr];omega⟩
 | wrap p i =>
  cases e
  obtain ⟨⟨okp,szp,dpp⟩,hi⟩:=h
  cases p with
  | mk w n ts =>
  have hi:i < ts.length:=hi
  have h1:=Zew (u:=t) (O7 hi)
  have h2:=Zgp ts i t
  rw [Tr.size] at szp
  rw [Da] at dpp
  refine ⟨?_,by show (Tr.mk w n (ts.set i t)).size<=_;rw [Tr.size];omega,by show Bf (Tr.mk w n (ts.set i t))<=_;rw [Da];omega⟩
  cases okp with
  | mk hp hd hb hs =>
   refine .mk (by rw [Rn];exact hp) hd hb fun x hx=>?_
   rcases List.mem_or_eq_of_mem_set hx with hx | rfl
   ·exact hs x hx
   ·exact ok
 | keep i =>
  have e:(if 0<=i/\i < (t.ps.length:Int) then t.ps[i.toNat]? else none)=some u:=e
  split at e
  ·refine ⟨Zgc ok u (Pt e),?_,?_⟩
   ·have:=Jq e;have:=t.size_eq;omega
   ·have:=Mu e
    have:Bf t=1+Ba t.ps:=by cases t;rw [Da];rfl
    omega
  ·cases e
 | note n nt =>
  have e:(if B2 t.wd nt=true then some (Tr.mk t.wd n t.ps) else none)=some u:=e
  split at e
  ·rename_i hb
   cases e
   cases t with
   | mk w n0 ts =>
   cases ok with
   | mk hp _ _ hs=>exact ⟨.mk hp h hb hs,by show (Tr.mk w n ts).size<=_;rw [Tr.size,Tr.size];omega,by show Bf (Tr.mk w n ts)<=_;rw [Da,Da];omega⟩
  ·cases e
 | chg p=>cases e;exact ⟨h.1,by have:=h.2.1;omega,by have:=h.2.2;omega⟩
noncomputable def plcV:Jd->List V
 | (pl,none)=>Bm pl
 | (pl,some far)=>C5 pl far []
noncomputable def PairAt (K:O0)(c:Cs)(H:Hp)(v:V)(x:Jd×Dd):Prop:=∃(a q:Addr)(y:V),v=.ref a/\SqT K H a [.ref q,y]/\SqT K H q (plcV x.1)/\DdAt K c H y x.2
theorem PairAt.same {K:O0}{c:Cs}{H H':Hp}(e:Same H H')(v:V)(x:Jd×Dd)(h:PairAt K c H v x):PairAt K c H' v x:=by
 obtain ⟨a,q,y,h1,h2,h3,h4⟩:=h
 exact ⟨a,q,y,h1,e.tup h2,e.tup h3,h4.same e⟩
theorem PairAt.off {K:O0}{c:Cs}{H:Hp}{p:Addr}{xs:List V}{o:HO}(hp:H p=some (.lst xs))(v:V)(x:Jd×Dd)(h:PairAt K c H v x):PairAt K c (upd H p o) v x:=by
 obtain ⟨a,q,y,h1,h2,h3,h4⟩:=h
 exact ⟨a,q,y,h1,(SameT.set hp).tup h2,(SameT.set hp).tup h3,h4.off hp⟩
noncomputable def Zed (K:O0)(c:Cs)(H:Hp)(p:Addr)(r:Rw):Prop:=∃ vs,SqL K H p vs/\Al (PairAt K c H) vs r
section
variable {P:Program}{w:World}{K:O0}{mg:Str->Option Value}{base:Heap}
theorem Ztg {t:Tr}{pl:List Nat}(s:Sub t pl):pl.length+1<=t.size:=by
 induction s with
 | nil t=>have:=t.size_eq;simp;omega
 | cons e _ ih=>have:=Jq e;rw [Tr.size,Pr];omega
noncomputable def Zjo (K:O0)(NP:Addr):Sp:=fun vs H Q E=>Zf2 K vs H Q E\/Ni K NP vs H Q E
noncomputable def Zha (K:O0)(c:Cs)(ND NP:Addr):Sp:=fun vs H Q E=>∃(v:V)(p:Addr)(t:Tr)(r:Rw)(res:Res),vs=[v,.ref p]/\TrAt K H v t/\TrOk t/\Zed K c H p r/\Bh t r res/\(∀ x∈r,x.2.ok)/\t.size+4 * r.length<=1000 /\
 (∀ u,res=.tree u->∀ v' H',Same H H'->TrAt K H' v' u->Q v' H') /\
 (res=.deed->∀ H',Same H H'->E (.ref ND) none H') /\
 (∀ pl far,res=.place pl far->∀ q H' d,Same H H'->SqT K H' q (C5 pl far [])->H' d=some (.xd [("place",.ref q)])->E (.ref NP) (some d) H')
theorem sc_behind:A2 ["tree", "row", "made", "place", "deed"] ["tree", "row"] (Am Ln):=by walk_at "sc"
theorem Zm9 {c:Cs}{ND NP:Addr}{f:Addr}{fd:FuncData}(F:Fun K "behind" "behind" Ln f fd)(T:Txt K mg)(C_form_at:E8 P w K mg base 4 "form_at" ["tree", "place"] (Zjo K NP))(C_with_at:A4 P w K mg base 4 "with_at" ["tree", "place", "form"] (Zdt K))(M:∀ d:Dd,Oe (Be P w) P w K mg base 7 (d.cls c) "done" ["self", "form"] (Et K c ND (d.cls c))):Ao P w K mg base (Be P w) 8 f fd ["tree", "row"] (Zha K c ND NP):=by
 refine F.okx sc_behind (fun vs H Q E h=>?_) (fun cdv A outer s H vs Q E hr h=>?_)
 ·obtain ⟨v,p,t,r,res,rfl,_⟩:=h
  rfl
 ·obtain ⟨v,p,t,r,res,rfl,ht,okt,⟨ds,ed,al⟩,hbh,hok,hz,q,x1,x2⟩:=h
  refine ⟨_,Ag (A3 2 sc_behind (qv 0))
   (Ag (C6 PassesOwn.leaving rfl (Fw K (qv 1)) (G9 K (n:=2) rfl (Cw (A9 (i:=3) sc_behind.nd rfl (Or.inl rfl)) (Cw (A9 (i:=4) sc_behind.nd rfl (Or.inl rfl)) (Gf)))) (Af (A3 2 sc_behind (A1 C_with_at hr.m (Aa (qv 2) (Aa (qv 3) (Aa (Zj6 (k:=7) K (Be P w) ["self", "form"] (qv 4) hr.m (Lw (fun _ _ _ h=>h)) (Aa (N3 C_form_at hr.m (Lw (fun _ _ _ h=>h)) (Aa (qv 2) (Aa (qv 3) Ac))) Ac)) Ac)))))))
   (Af (Ak (qv 2)))),?_⟩
  have bg:=Ct
  walk_at "r"
  refine .inl ⟨p,rfl,⟨_,ed⟩,?_⟩
  refine Zaw (K:=K) (a:=p) (xs:=ds) (fun i σ' H'=>∃ v3 v4 v' t',σ'=[some v,some (.ref p),some v',v3,v4]/\TrAt K H' v' t'/\TrOk t'/\Bh t' (r.drop i) res/\t'.size<=t.size+4 * i/\Same H H') ⟨_,_,v,t,rfl,ht,okt,hbh,by omega,Same.refl _⟩ ?_ ?_ ?_
  ·rintro i σ' H' _ ⟨_,_,_,_,_,_,_,_,_,sm⟩
   exact sm.seq ed
  ·rintro i x σ' H' hx ⟨v3,v4,v',t',rfl,hv',okt',hl',hz',sm⟩
   obtain ⟨⟨⟨pl,fo⟩,d⟩,hg,hdo⟩:=al.get hx
   have hi:=(Pl.mp hg).1
   have hdok:=hok _ (Pt hg)
   have hdr:r.drop i=((pl,fo),d)::r.drop (i+1):=by
    rw [Ri hi]
    rw [O7 hi] at hg
    rw [Pu hg]
   rw [hdr] at hl'
   obtain ⟨a,qp,y,rfl,qa,qq,hdd⟩:=PairAt.same sm _ _ hdo
   obtain ⟨oa,dx,fs,rfl,ho,hfs⟩:=id hdd
   refine Gw qa rfl ?_
   walk_at "r"
   refine ⟨_,rfl,oa,d.cls c,dx,fs,_,rfl,ho,hfs.nd,M d,?_⟩
   walk_at "r"
   cases hl' with
   | place hb =>
    refine .inr ⟨v',t',qp,pl,_,[],rfl,hv',qq,hb,by have:=hb.sub;have:=Ztg this;omega,fun dd H2 s2 e2=>?_⟩
    exact x2 pl _ rfl qp H2 dd (sm.trans s2) (s2.tup qq) e2
   | @ok _ f g _ _ _ _ hat hd hs =>
    have hpl:pl.length<=1000:=by have:=hat.len;omega
    have hat2:=hat.size (f:=g)
    have okf:=hat.ok okt'
    obtain ⟨okg,szg,_⟩:=Zc8 hdok okf.1 hd
    refine .inl ⟨v',t',qp,pl,f,rfl,hv',qq,hat.sub,hpl,hat.path,fun u1 H1 s1 hu1=>?_⟩
    walk_at "r"
    refine ⟨_,d,u1,f,rfl,hdd.same s1,rfl,hu1,okf.1,fun g' hg' v2 H2 s2 hv2=>?_,fun hn=>by rw [hd] at hn;cases hn⟩
    rw [hd] at hg'
    cases hg'
    have s12:=s1.trans s2
    walk_at "r"
    refine ⟨v',v2,t',g,qp,pl,rfl,hv'.same s12,s12.tup qq,hat.sub,hpl,by omega,hv2,fun v5 H5 s5 h5=>?_⟩
    walk_at "r"
    exact ⟨_,_,v5,_,rfl,h5,hat.okw okt' okg,hs,by omega,sm.trans (s12.trans s5)⟩
   | @deed _ f _ _ _ hat hd =>
    have hpl:pl.length<=1000:=by have:=hat.len;omega
    have okf:=hat.ok okt'
    refine .inl ⟨v',t',qp,pl,f,rfl,hv',qq,hat.sub,hpl,hat.path,fun u1 H1 s1 hu1=>?_⟩
    walk_at "r"
    exact ⟨_,d,u1,f,rfl,hdd.same s1,rfl,hu1,okf.1,(fun g' hg'=>by rw [hd] at hg';cases hg'),fun _ H2 s2=>x1 rfl H2 (sm.trans (s1.trans s2))⟩
  ·rintro σ' H' ⟨v3,v4,v',t',rfl,hv',okt',hl',hz',sm⟩
   rw [al.1,List.drop_length] at hl'
   cases hl'
   walk_at "r"
   exact q _ rfl v' H' sm hv'
noncomputable def Zge (K:O0):Sp:=fun vs H Q _=>∃(v:V)(t:Tr),vs=[v]/\TrAt K H v t/\t.size<=2000/\∀(p:Addr)(rows:List V)(H':Hp),Same H H'->H p=none->H' p=some (.lst rows)->Al (RowAt K H') rows (walk [] t)->Q (.ref p) H'
theorem sc_law_walk:A2 ["_law_tree_here", "_law_rows", "_law_left", "_law_place", "_law_form_here", "_law_k"] ["_law_tree_here"] (Am Ka):=by walk_at "sc"
noncomputable def WkJ (K:O0)(H:Hp)(v:V)(t:Tr)(pt pw:Addr)(m:Nat)(σ:St)(H':Hp):Prop:=∃(v3 v4 v5:Option V)(tv wv:List V)(dn st:List (List Nat×Tr)),σ=[some v,some (.ref pt),some (.ref pw),v3,v4,v5]/\H' pt=some (.lst tv)/\H' pw=some (.lst wv) /\
 Al (RowAt K H') tv dn/\Al (RowAt K H') wv st/\dn++Fb st=walk [] t/\m=load st/\Same H H'
theorem Zpz {f:Addr}{fd:FuncData}(F:Fun K "_law_walk" "_law_walk" Ka f fd)(T:Txt K mg):Ao P w K mg base Aq 1 f fd ["_law_tree_here"] (Zge K):=by
 refine F.okq sc_law_walk (fun vs H Q E h=>?_) (fun cdv A outer s H vs Q E hr h=>?_)
 ·obtain ⟨v,t,rfl,_⟩:=h
  rfl
 ·obtain ⟨v,t,rfl,ht,hz,q⟩:=h
  refine ⟨_,Ag (A3 1 sc_law_walk (Bv Ac))
   (Ag (A3 2 sc_law_walk (Bv (Aa (A0 (Aa (A0 Ac) (Aa (qv 0) Ac))) Ac)))
   (Ag (Zfq Ql (Ay Mx (Bd (Cp K) (by rfl) T.len (by decide +kernel) (Aa (qv 2) Ac)) Ab (Ax _)) (Ag (Hn (M6 K Pz Vb Vc Oq (qv 2)) (G9 K (n:=2) rfl (Cw (A9 (i:=3) sc_law_walk.nd rfl (Or.inl rfl)) (Cw (A9 (i:=4) sc_law_walk.nd rfl (Or.inl rfl)) (Gf)))))
   (Ag (Ce (Cv K Pz Qr Qs Dn (qv 1) (Aa (A0 (Aa (qv 3) (Aa (qv 4) Ac))) Ac)))
   (Af (C6 Ql rfl (Zjb rfl T.range (Aa (Ah Jl (Bd (Cp K) (by rfl) T.len (by decide +kernel) (Aa (Ai K (qv 4) Ab) Ac)) Ab) (Aa (Fq Fa Ab) (Aa (Fq Fa Ab) Ac)))) (A9 (i:=5) sc_law_walk.nd rfl (Or.inl rfl)) (Af (Ce (Cv K Pz Qr Qs Dn (qv 2) (Aa (A0 (Aa (Ah (Bj K) (qv 3) (A0 (Aa (qv 5) Ac))) (Aa (Ai K (Ai K (qv 4) Ab) (qv 5)) Ac))) Ac)))))))))
   (Af (Ak (qv 1))))),?_⟩
  have bg:=Ct
  walk_at "r"
  refine ⟨Cu,fun pt hpt=>?_⟩
  walk_at "r"
  refine ⟨Cu,fun p0 hp0=>?_⟩
  walk_at "r"
  refine ⟨Bq,fun p1 hp1=>?_⟩
  walk_at "r"
  refine ⟨Ck,fun pw hpw=>?_⟩
  walk_at "r"
  have s0:Same (upd H pt (.lst [])) _:=((Same.upd (o:=.tup []) hp0).put (o:=.tup [.ref p0,v]) hp1).put (o:=.lst [.ref p1]) hpw
  have s1:Same (upd (upd H pt (.lst [])) p0 (.tup [])) _:=(Same.upd (o:=.tup [.ref p0,v]) hp1).put (o:=.lst [.ref p1]) hpw
  have s2:=Same.upd (o:=.lst [.ref p1]) hpw
  have sH:=(Same.upd (o:=.lst []) hpt).trans s0
  have ept:=s0 pt _ Ad
  have epw:upd (upd (upd (upd H pt (.lst [])) p0 (.tup [])) p1 (.tup [.ref p0,v])) pw (.lst [.ref p1]) pw=some (.lst [.ref p1]):=Ad
  have ep0:=s1 p0 _ Ad
  have ep1:=s2 p1 _ Ad
  have npw:pt≠pw:=fun z=>by rw [z] at ept;rw [Ad] at ept;cases ept
  have hpw0:H pw=none:=((Same.upd (o:=.lst []) hpt).trans ((Same.upd (o:=.tup []) hp0).put (o:=.tup [.ref p0,v]) hp1)).free hpw
  refine ⟨WkJ K H v t pt pw,⟨_,none,none,none,[],[.ref p1],[],[([],t)],rfl,ept,epw,.nil,Al.nil.snoc ⟨p1,p0,v,rfl,SqT.of ep1,SqT.of ep0,ht.same sH⟩,by simp [Fb],rfl,sH⟩,?_⟩
  rintro m σ' H' ⟨v3,v4,v5,tv,wv,dn,st,rfl,et,ew,al1,al2,hw,rfl,sm⟩
  have hdl:dn.length+load st=t.size:=by
   have:=congrArg List.length hw
   rw [Pm,Ip] at this
   exact this
  have htl:tv.length=dn.length:=al1.1
  walk_at "r"
  refine Lf (SqL.of ew) ?_
  walk_at "r"
  by_cases hwv:wv=[]
  ·subst hwv
   have hst:st=[]:=Wa al2.1.symm
   subst hst
   refine iteF ?_
   walk_at "r"
   rw [Zlo,Rc] at hw
   rw [hw] at al1
   exact q pt tv H' sm hpt et al1
  obtain ⟨wv',tp,st',x,rfl,rfl,al3,hrow⟩:=al2.last hwv
  have hne:decide ((0:Int) < ((wv'++[tp]).length:Int))=true:=decide_eq_true (by rw [Pm,Rl];omega)
  rw [hne]
  refine iteT ?_
  obtain ⟨pl,tx⟩:=x
  have hx:(pl,tx)∈walk [] t:=by rw [<- hw,Zc6];simp
  have hpl:pl.length<=2000:=by have:=Zho [] t _ hx;simp at this;omega
  have hload:=Zuh st' (pl,tx)
  have hll:=Zrb (st'++(Bx pl 0 tx.ps).reverse)
  refine ⟨fun σ2 H2=>∃ m',m' < load (st'++[(pl,tx)])/\WkJ K H v t pt pw m' σ2 H2,fun _ _ h=>h,?_⟩
  walk_at "r"
  refine B3 (SqL.of ew) ?_
  refine Zcn ew ?_
  have t1:SameT H' (upd H' pw (.lst wv')):=SameT.set ew
  have et2:upd H' pw (.lst wv') pt=some (.lst tv):=by rw [Au npw];exact et
  obtain ⟨a,p,u,rfl,qa,qp,hu⟩:=id hrow
  refine Gw (t1.tup qa) rfl ?_
  walk_at "r"
  refine B3 (SqL.of et2) ?_
  walk_at "r"
  refine ⟨Bq,fun pr hpr=>?_⟩
  walk_at "r"
  have s2':=Same.upd (o:=.tup [.ref p,u]) hpr
  have et2':=s2' _ _ et2
  refine Du et2' (by omega) ?_
  have t2:SameT H' (upd (upd (upd H' pw (.lst wv')) pr (.tup [.ref p,u])) pt (.lst (tv++[.ref pr]))):=t1.trans (s2'.t.trans (SameT.set et2'))
  have et3:upd (upd (upd H' pw (.lst wv')) pr (.tup [.ref p,u])) pt (.lst (tv++[.ref pr])) pt=some (.lst (tv++[.ref pr])):=Ad
  have ew3:upd (upd (upd H' pw (.lst wv')) pr (.tup [.ref p,u])) pt (.lst (tv++[.ref pr])) pw=some (.lst wv'):=by rw [Au npw.symm];exact s2' _ _ Ad
  have er3:upd (upd (upd H' pw (.lst wv')) pr (.tup [.ref p,u])) pt (.lst (tv++[.ref pr])) pr=some (.tup [.ref p,u]):=by rw [Au (Bz et2 hpr).symm];exact Ad
  have sm3:Same H (upd (upd (upd H' pw (.lst wv')) pr (.tup [.ref p,u])) pt (.lst (tv++[.ref pr]))):=((sm.over hpw0).put hpr).over hpt
  revert t2 et3 ew3 sm3 er3
  generalize upd (upd (upd H' pw (.lst wv')) pr (.tup [.ref p,u])) pt (.lst (tv++[.ref pr]))=H4
  intro t2 et3 ew3 er3 sm3
  have hu4:=hu.sameT t2
  have qp4:=t2.tup qp
  have hrow4:RowAt K H4 (.ref pr) (pl,tx):=⟨pr,p,u,rfl,SqT.of er3,qp4,hu4⟩
  cases hu4 with
  | @mk b pp wd nv n vs ts qb hn qpp hl hch =>
  walk_at "r"
  refine Ae qb rfl ?_
  walk_at "r"
  refine Fl qpp ?_
  walk_at "r"
  have hvl:vs.length<=2000:=by
   have h1:=Lg ts
   have h2:=Tr.size_eq (.mk wd n ts)
   have h3:(walk [] t).length=t.size:=Ip _ _
   have h4:(Tr.mk wd n ts).size<=L2.load (st'++[(pl,Tr.mk wd n ts)]):=by
    unfold L2.load Fb
    rw [Vh,List.reverse_singleton,Vi,List.flatMap_singleton,Pm,Ip]
    exact Tl _ _
   have h5:(Tr.mk wd n ts).ps=ts:=rfl
   rw [h5] at h2
   omega
  refine ⟨by omega,?_⟩
  have al4:Al (RowAt K H4) wv' st':=al3.mono (RowAt.same t2)
  have hkl:(Bx pl 0 ts).length=vs.length:=by rw [Zgw];omega
  have hn':((vs.length:Int) - 1 - -1).toNat=vs.length:=by omega
  rw [hn']
  refine Zo7 (n:=vs.length) (fun j σ5 H5=>∃(v5:Option V)(wv5:List V),σ5=[some v,some (.ref pt),some (.ref pw),some (.ref p),some (.ref b),v5]/\H5 pt=some (.lst (tv++[.ref pr]))/\H5 pw=some (.lst wv5)/\Al (RowAt K H5) wv5 (st'++((Bx pl 0 ts).drop (vs.length - j)).reverse)/\SameT H4 H5/\Same H H5)
   ⟨_,wv',rfl,et3,ew3,by rw [Tx,Ru (by omega)];simpa using al4,SameT.refl _,sm3⟩ ?_ ?_
  ·rintro i σ5 H5 hi ⟨v5',wv5,rfl,e5t,e5w,al5,t5,sm5⟩
   have hk:(vs.length:Int) - 1 - (i:Int)=((vs.length - 1 - i:Nat):Int):=by omega
   rw [hk]
   walk_at "r"
   refine B3 (SqL.of e5w) ?_
   walk_at "r"
   refine ⟨Ck,fun p6 h6=>?_⟩
   refine Ho ((t5.trans (SameT.new h6)).tup qp4) (SqT.of Ad) (by show (Bm pl).length+1<=sizeLine;unfold Bm;rw [Pq];omega) fun r H7 s7 q7=>?_
   have s57:Same H5 H7:=(Same.upd h6).trans s7
   have hj:vs.length - 1 - i < vs.length:=by omega
   walk_at "r"
   refine Ae ((t5.trans s57.t).tup qb) rfl ?_
   walk_at "r"
   refine Ae ((t5.trans s57.t).tup qpp) (Kn (O7 hj)) ?_
   walk_at "r"
   refine ⟨Bq,fun p7 h7=>?_⟩
   walk_at "r"
   have s58:=s57.put (o:=.tup [.ref r,vs[vs.length - 1 - i]]) h7
   have hlw:wv5.length=st'.length+((Bx pl 0 ts).drop (vs.length - i)).length:=by have:=al5.1;simp at this ⊢;omega
   have hlk:(st'++(Bx pl 0 ts).reverse).length=st'.length+vs.length:=by rw [Pm,List.length_reverse,hkl]
   have hll':(st'++(Bx pl 0 ts).reverse).length<=2000:=by
    have h1:load (st'++(Bx pl 0 (Tr.mk wd n ts).ps).reverse) < load (st'++[(pl,Tr.mk wd n ts)]):=hload
    have h2:(st'++(Bx pl 0 (Tr.mk wd n ts).ps).reverse).length<=load (st'++(Bx pl 0 (Tr.mk wd n ts).ps).reverse):=hll
    have h3:(Tr.mk wd n ts).ps=ts:=rfl
    rw [h3] at h1 h2
    omega
   have hdr:((Bx pl 0 ts).drop (vs.length - i)).length<=vs.length:=by rw [Tk];omega
   refine Du (s58 _ _ e5w) (by omega) ?_
   have e8w:=s58 _ _ e5w
   have t9:SameT H5 (upd (upd H7 p7 (.tup [.ref r,vs[vs.length - 1 - i]])) pw (.lst (wv5++[.ref p7]))):=s58.t.trans (SameT.set e8w)
   have hj':vs.length - 1 - i < ts.length:=by omega
   have hat:=hch _ _ _ (O7 hj) (O7 hj')
   have hkid:(Bx pl 0 ts)[vs.length - 1 - i]?=some (pl++[vs.length - 1 - i],ts[vs.length - 1 - i]):=by
    rw [Zft,O7 hj']
    simp
   refine ⟨_,wv5++[.ref p7],rfl,?_,Ad,?_,t5.trans t9,(sm5.trans s58).over hpw0⟩
   ·rw [Au npw];exact s58 _ _ e5t
   ·rw [Zkm hkl hi hkid,<- Sr]
    refine (al5.mono (RowAt.same t9)).snoc ⟨p7,r,_,rfl,(SameT.set e8w).tup (SqT.of Ad),?_,hat.sameT (t5.trans t9)⟩
    have q9:=((SameT.new (o:=.tup [.ref r,vs[vs.length - 1 - i]]) h7).trans (SameT.set (o:=.lst (wv5++[.ref p7])) e8w)).tup q7
    have e:Bm (pl++[vs.length - 1 - i])=Bm pl++[.int ((vs.length - 1 - i:Nat):Int)]:=by unfold Bm;rw [Q2];rfl
    show SqT K _ r (Bm (pl++[vs.length - 1 - i]))
    rw [e]
    exact q9
  ·rintro σ5 H5 ⟨v5',wv5,rfl,e5t,e5w,al5,t5,sm5⟩
   rw [Sz,List.drop_zero] at al5
   refine ⟨_,hload,_,_,_,tv++[.ref pr],wv5,dn++[(pl,.mk wd n ts)],_,rfl,e5t,e5w,?_,al5,?_,rfl,sm5⟩
   ·exact (al1.mono (RowAt.same (t2.trans t5))).snoc (RowAt.same t5 _ _ hrow4)
   ·rw [<- hw,Zc6,Sr]
    rfl
theorem Zk0 (pl:List Nat)(k:Nat):(Bm pl).take k=Bm (pl.take k):=by unfold Bm;rw [List.map_take]
noncomputable def Zey (K:O0):Sp:=fun vs H Q _=>∃(v:V)(p:Addr)(t u:Tr)(pl:List Nat),vs=[v,.ref p]/\TrAt K H v t/\SqT K H p (Bm pl)/\At t pl u/\∀ v',TrAt K H v' u->Q v' H
theorem sc_law_form:A2 ["_law_tree_here", "_law_place", "_law_form_here", "_law_k"] ["_law_tree_here", "_law_place"] (Am Jz):=by walk_at "sc"
theorem Zts {f:Addr}{fd:FuncData}(F:Fun K "_law_form" "_law_form" Jz f fd)(T:Txt K mg):Ao P w K mg base Aq 1 f fd ["_law_tree_here", "_law_place"] (Zey K):=by
 refine F.okq sc_law_form (fun vs H Q E h=>?_) (fun cdv A outer s H vs Q E hr h=>?_)
 ·obtain ⟨v,p,t,u,pl,rfl,_⟩:=h
  rfl
 ·obtain ⟨v,p,t,u,pl,rfl,ht,hp,ha,q⟩:=h
  refine ⟨_,Ag (A3 2 sc_law_form (qv 0))
   (Ag (C6 Ql rfl (Fw K (qv 1)) (A9 (i:=3) sc_law_form.nd rfl (Or.inl rfl)) (Af (A3 2 sc_law_form (Ai K (Ai K (qv 2) Ab) (qv 3)))))
   (Af (Ak (qv 2)))),?_⟩
  walk_at "r"
  refine .inr (.inl ⟨p,rfl,⟨_,hp⟩,?_⟩)
  refine Zcs (K:=K) (a:=p) (xs:=Bm pl) (fun i σ' H'=>∃ v' w3 m,σ'=[some v,some (.ref p),some v',w3]/\H'=H/\At t (pl.take i) m/\TrAt K H v' m) ⟨v,none,t,rfl,rfl,.nil _,ht⟩ ?_ ?_ ?_
  ·rintro i σ' H' _ ⟨_,_,_,_,rfl,_⟩
   exact hp
  ·rintro i x σ' H' hx ⟨v',w3,m,rfl,rfl,hm,hv⟩
   obtain ⟨k,rfl,hk⟩:=Ny hx
   obtain ⟨w',n',ts,m',a1,a2,a3⟩:=ha.step hk
   cases hm.det a1
   cases hv with
   | @mk b pp _ nv _ us _ qb hn qp l hch =>
   have hku:k < us.length:=by rw [l];exact (Pl.mp a2).1
   walk_at "r"
   refine Ae qb rfl ?_
   walk_at "r"
   refine Ae qp (Kn (O7 hku)) ?_
   walk_at "r"
   exact ⟨_,_,m',rfl,rfl,a3,hch k _ m' (O7 hku) a2⟩
  ·rintro σ' H' ⟨v',w3,m,rfl,rfl,hm,hv⟩
   walk_at "r"
   rw [Ee,Vz] at hm
   cases hm.det ha
   exact q v' hv
noncomputable def Zdm (K:O0):Sp:=fun vs H Q _=>∃(v:V)(p:Addr)(x:V)(t u f:Tr)(pl:List Nat),vs=[v,.ref p,x]/\TrAt K H v t/\t.size<=1000/\SqT K H p (Bm pl)/\At t pl u/\TrAt K H x f/\∀ v' H',Same H H'->TrAt K H' v' (B5 t pl f)->Q v' H'
theorem At.sz {t u:Tr}{pl:List Nat}(h:At t pl u):u.size<=t.size:=by
 induction h with
 | nil t=>exact O3 _
 | cons e _ ih=>have:=Jq e;rw [Tr.size];omega
theorem Zix:(["_law_k", "_law_place"]:List Str).Nodup:=by decide +kernel
theorem sc_law_with:A2 ["_law_tree_here", "_law_place", "_law_form_here", "_law_spots", "_law_spot", "_law_above", "_law_k"] ["_law_tree_here", "_law_place", "_law_form_here"] (Am Kp):=by walk_at "sc"
theorem Zo6 {f:Addr}{fd:FuncData}(F:Fun K "_law_with" "_law_with" Kp f fd)(T:Txt K mg)(C__law_form:A4 P w K mg base 1 "_law_form" ["_law_tree_here", "_law_place"] (Zey K)):Ao P w K mg base Aq 2 f fd ["_law_tree_here", "_law_place", "_law_form_here"] (Zdm K):=by
 refine F.okq sc_law_with (fun vs H Q E h=>?_) (fun cdv A outer s H vs Q E hr h=>?_)
 ·obtain ⟨v,p,x,t,u,f,pl,rfl,_⟩:=h
  rfl
 ·obtain ⟨v,p,x,t,u,f,pl,rfl,ht,hsz,hp,ha,hx,q⟩:=h
  refine ⟨_,Ag (M5 (i:=3) (N:=["_law_k", "_law_place"]) (σ0:=Df 1 [1]) rfl (E5 rfl (by decide +kernel) (by decide +kernel) (by decide +kernel)) (Ez rfl T.range (Aa (Bd (Cp K) (by rfl) T.len (by decide +kernel) (Aa (qv 1) Ac)) Ac)) (Fe rfl (by rfl)) (fun _ _ _ _=>A9 (i:=0) Zix rfl (Or.inl rfl)) (fun _ _ _ _=>Ff) (fun _ _ _ _=>Fj (Mm K) (qv 1) (He) (Ef (qv 0))) sc_law_with.nd rfl (Or.inl rfl))
   (Ag (C6 Ql rfl (Zg9 K rfl T.reversed (Aa (qv 3) Ac)) (A9 (i:=4) sc_law_with.nd rfl (Or.inl rfl)) (Ag (A3 5 sc_law_with (A1 C__law_form hr.m (Aa (qv 0) (Aa (qv 4) Ac))))
   (Ag (A3 6 sc_law_with (Ai K (qv 1) (Bd (Cp K) (by rfl) T.len (by decide +kernel) (Aa (qv 4) Ac))))
   (Af (A3 2 sc_law_with (A0 (Aa (Ai K (qv 5) Ab) (Aa (Ai K (qv 5) Ab) (Aa (Ah (Bj K) (Ah (Bj K) (Fj (Mm K) (Ai K (qv 5) Ab) (He) (Ef (qv 6))) (A0 (Aa (qv 2) Ac))) (Fj (Mm K) (Ai K (qv 5) Ab) (Ef (Ah (Bj K) (qv 6) Ab)) (He))) Ac)))))))))
   (Af (Ak (qv 2)))),?_⟩
  have bg:=Ct
  have hpl:pl.length<=1000:=by have:=ha.len;omega
  walk_at "r"
  refine Fl hp ?_
  have hpn:((Bm pl).length:Int)=(pl.length:Nat):=by rw [Ee]
  rw [hpn]
  walk_at "r"
  refine ⟨by omega,by omega,fun S hS=>?_⟩
  refine Ik (n:=((pl.length:Nat):Int).toNat) (Pv:=fun i ys σ' H'=>∃ kv,σ'=[kv,some (.ref p)]/\ys.length=i/\(∀ k,k < i->∃ a,ys[k]?=some (.ref a)/\SqT K H' a (Bm (pl.take k)))/\Same H H') ⟨none,rfl,rfl,(fun k h=>by omega),Same.upd hS⟩ ?_ ?_
  ·rintro i ys σ' H' hi hys ⟨kv,rfl,hl,hall,sm⟩
   walk_at "r"
   refine Kw (sm.tup hp) fun r1 H1 s1 q1=>?_
   rw [Int.zero_add,Ot,Zk0] at q1
   walk_at "r"
   refine ⟨_,s1 _ _ hys,by omega,_,Ad,?_⟩
   have st:=SameT.set (o:=.lst (ys++[.ref r1])) (s1 _ _ hys)
   refine ⟨_,rfl,by simp [hl],fun k hk=>?_,(sm.trans s1).over hS⟩
   by_cases e:k=i
   ·subst e
    exact ⟨r1,by rw [Rh (by omega),hl];simp,st.tup q1⟩
   ·obtain ⟨a,h1,h2⟩:=hall k (by omega)
    exact ⟨a,by rw [Q8 (by omega)];exact h1,st.tup (s1.tup h2)⟩
  ·rintro zs σ' H1 hzs ⟨kv,rfl,hl,hall,s1⟩
   have hl:zs.length=pl.length:=by omega
   walk_at "r"
   refine ⟨S,zs,rfl,SqL.of hzs,?_⟩
   refine Zgi (K:=K) (a:=S) (xs:=zs) (fun i σ' H'=>∃ x' w4 w5 w6 m,σ'=[some v,some (.ref p),some x',some (.ref S),w4,w5,w6]/\At t (pl.take (pl.length - i)) m/\TrAt K H' x' (B5 m (pl.drop (pl.length - i)) f)/\Same H1 H') ⟨x,_,_,_,u,rfl,by rw [Tx,Vz];exact ha,by rw [Tx,List.drop_length,Hw];exact hx.same s1,Same.refl _⟩ ?_ ?_ ?_
   ·rintro i σ' H2 _ ⟨_,_,_,_,_,_,_,_,s2⟩
    exact SqL.of (s2 _ _ hzs)
   ·rintro i y σ' H2 hi hy ⟨x',w4,w5,w6,m,rfl,hm,hb,s2⟩
    have hk0:zs.length - 1 - i < pl.length:=by omega
    obtain ⟨k,hk⟩:∃ k,k=zs.length - 1 - i:=⟨_,rfl⟩
    rw [<- hk] at hy hk0
    obtain ⟨a,h1,h2⟩:=hall k (by omega)
    rw [hy] at h1
    cases h1
    have s02:=s1.trans s2
    have hpk:pl[k]?=some pl[k]:=O7 hk0
    obtain ⟨w',n',ts,m',a1,a2,a3⟩:=ha.step hpk
    rw [show pl.length - i=k+1 by omega] at hm hb
    cases hm.det a3
    have hsa:=a1.sz
    walk_at "r"
    refine ⟨v,a,t,_,pl.take k,rfl,ht.same s02,s2.tup h2,a1,fun v' hv'=>?_⟩
    cases hv' with
    | @mk b pp _ nv _ us _ qb hn qp l hch =>
    have hku:pl[k] < us.length:=by rw [l];exact (Pl.mp a2).1
    have hul:us.length<=1000:=by have:=Lg ts;rw [Tr.size] at hsa;omega
    walk_at "r"
    refine Fl (s2.tup h2) ?_
    walk_at "r"
    refine Ae (v:=.int (pl[k]:Nat)) (s02.tup hp) (N6 k (by rw [Ee,Qj];omega) (by unfold Bm;rw [Sf,hpk];rfl)) ?_
    walk_at "r"
    refine Ae qb rfl ?_
    walk_at "r"
    refine Ae qb rfl ?_
    walk_at "r"
    refine Ae qb rfl ?_
    walk_at "r"
    refine Kw qp fun r1 H3 s3 q3=>?_
    rw [Ot] at q3
    walk_at "r"
    refine ⟨Ck,fun p4 h4=>?_⟩
    have s4:=Same.upd (o:=.tup [x']) h4
    refine Ho (s4.tup q3) (SqT.of Ad) (by rw [Qj];show _+1<=sizeLine;omega) fun r5 H5 s5 q5=>?_
    have s25:=s3.trans (s4.trans s5)
    walk_at "r"
    refine Ae (s25.tup qb) rfl ?_
    walk_at "r"
    refine Kw (s25.tup qp) fun r6 H6 s6 q6=>?_
    have ek:((pl[k]:Nat):Int)+1=((pl[k]+1:Nat):Int):=by omega
    rw [ek,Zhv] at q6
    refine Ho (s6.tup q5) q6 (by rw [Pm,Qj,Tk];show _+1+_<=sizeLine;omega) fun r7 H7 s7 q7=>?_
    rw [Zhd (by omega)] at q7
    walk_at "r"
    refine ⟨Bk,fun p8 h8=>?_⟩
    have s8:=Same.upd (o:=.tup [.str w',nv,.ref r7]) h8
    have s28:=s25.trans (s6.trans (s7.trans s8))
    walk_at "r"
    refine ⟨.ref p8,_,_,_,.mk w' n' ts,rfl,by rw [show pl.length - (i+1)=k by omega];exact a1,?_,s2.trans s28⟩
    rw [show pl.length - (i+1)=k by omega,Ri hk0,K7 a2]
    refine .mk (SqT.of Ad) (hn.same s28.t) (s8.tup q7) (by rw [Rn,Rn];exact l) fun j y z g1 g2=>?_
    by_cases e:pl[k]=j
    ·subst e
     rw [Te (by omega)] at g1 g2
     cases g1
     cases g2
     exact hb.same s28
    ·rw [Tg e] at g1 g2
     exact (hch j y z g1 g2).same s28
   ·rintro σ' H2 ⟨x',w4,w5,w6,m,rfl,hm,hb,s2⟩
    rw [show pl.length - zs.length=0 by omega] at hm hb
    rw [List.take_zero] at hm
    cases hm
    rw [List.drop_zero] at hb
    walk_at "r"
    exact q x' H2 (s1.trans s2) hb
noncomputable def Zhf (K:O0):Sp:=fun vs H Q _=>∃(c:Int)(p:Addr)(t0 t1 t2:Str),vs=[.int c,.ref p]/\SqL K H p [.str t0,.str t1,.str t2]/\A7 t0=true/\A7 t1=true/\A7 t2=true /\
 ∀(v:V)(t:Tr)(H':Hp),Same H H'->TrAt K H' v t->TrOk t->t.size=1->Bf t=1->Q v H'
theorem sc_law_leaf:A2 ["_law_cell_here", "_law_names_here", "_law_word", "_law_remark"] ["_law_cell_here", "_law_names_here"] (Am K0):=by walk_at "sc"
theorem Zh8 {f:Addr}{fd:FuncData}(F:Fun K "_law_leaf" "_law_leaf" K0 f fd)(T:Txt K mg)(C__law_head:A4 P w K mg base 2 "_law_head" ["_law_cell_here", "_law_names_here"] (Lu K)):Ao P w K mg base Aq 3 f fd ["_law_cell_here", "_law_names_here"] (Zhf K):=by
 refine F.okq sc_law_leaf (fun vs H Q E h=>?_) (fun cdv A outer s H vs Q E hr h=>?_)
 ·obtain ⟨c,p,t0,t1,t2,rfl,_⟩:=h
  rfl
 ·obtain ⟨c,p,t0,t1,t2,rfl,hp,n0,n1,n2,q⟩:=h
  refine ⟨_,Ag (Hn (A1 C__law_head hr.m (Aa (Ah (Bj K) (Ah Cc (Ah B8 (qv 0) Ab) Ab) (Ah A6 (qv 0) Ab)) (Aa (qv 1) Ac))) (G9 K (n:=2) rfl (Cw (A9 (i:=2) sc_law_leaf.nd rfl (Or.inl rfl)) (Cw (A9 (i:=3) sc_law_leaf.nd rfl (Or.inl rfl)) (Gf)))))
   (Af (Ak (A0 (Aa (qv 2) (Aa (qv 3) (Aa (A0 Ac) Ac)))))),?_⟩
  walk_at "r"
  refine ⟨_,p,t0,t1,t2,rfl,hp,n0,n1,n2,fun a wd note n nt H2 s2 qa hno hps h5 hdn hnb=>?_⟩
  have h0:Bo wd=some 0:=(Zcd (by omega) (by omega) h5).2.2.1 (by omega)
  refine Gw qa rfl ?_
  walk_at "r"
  refine ⟨Cu,fun p3 h3=>?_⟩
  have s3:=Same.upd (o:=.tup []) h3
  walk_at "r"
  refine ⟨Bk,fun p4 h4=>?_⟩
  have s4:=Same.upd (o:=.tup [.str wd,note,.ref p3]) h4
  have s34:=s3.trans s4
  exact q (.ref p4) (.mk wd n []) _ (s2.trans s34) (.mk (SqT.of Ad) (hno.same s34.t) (s4.tup (SqT.of Ad)) rfl fun j v t e _=>by simp at e) (.mk h0 hdn hnb (fun t h=>nomatch h)) (by rw [Tr.size,As]) (by rw [Da,Hd])
noncomputable def Zen (K:O0):Sp:=fun vs H Q _=>∃(c:Int)(p:Addr)(t0 t1 t2:Str),vs=[.int c,.ref p]/\SqL K H p [.str t0,.str t1,.str t2]/\A7 t0=true/\A7 t1=true/\A7 t2=true /\
 ∀(v:V)(t:Tr)(H':Hp),Same H H'->TrAt K H' v t->TrOk t->t.size<=4->Bf t<=2->(1<=c % 13->t.wd ≠ "gap")->Q v H'
theorem Zoq:(["_law_k", "_law_names_here", "_law_cell_here"]:List Str).Nodup:=by decide +kernel
theorem sc_law_small:A2 ["_law_cell_here", "_law_names_here", "_law_word", "_law_remark", "_law_parts"] ["_law_cell_here", "_law_names_here"] (Am La):=by walk_at "sc"
theorem Zjd {f:Addr}{fd:FuncData}(F:Fun K "_law_small" "_law_small" La f fd)(T:Txt K mg)(C__law_head:A4 P w K mg base 2 "_law_head" ["_law_cell_here", "_law_names_here"] (Lu K))(C__law_many:A4 P w K mg base 1 "_law_many" ["_law_word"] Lv)(C__law_leaf:A4 P w K mg base 3 "_law_leaf" ["_law_cell_here", "_law_names_here"] (Zhf K)):Ao P w K mg base Aq 4 f fd ["_law_cell_here", "_law_names_here"] (Zen K):=by
 refine F.okq sc_law_small (fun vs H Q E h=>?_) (fun cdv A outer s H vs Q E hr h=>?_)
 ·obtain ⟨c,p,t0,t1,t2,rfl,_⟩:=h
  rfl
 ·obtain ⟨c,p,t0,t1,t2,rfl,hp,n0,n1,n2,q⟩:=h
  refine ⟨_,Ag (Hn (A1 C__law_head hr.m (Aa (qv 0) (Aa (qv 1) Ac))) (G9 K (n:=2) rfl (Cw (A9 (i:=2) sc_law_small.nd rfl (Or.inl rfl)) (Cw (A9 (i:=3) sc_law_small.nd rfl (Or.inl rfl)) (Gf)))))
   (Ag (M5 (i:=4) (N:=["_law_k", "_law_names_here", "_law_cell_here"]) (σ0:=Df 1 [1,0]) rfl (E5 rfl (by decide +kernel) (by decide +kernel) (by decide +kernel)) (Ez rfl T.range (Aa (A1 C__law_many hr.m (Aa (qv 2) Ac)) Ac)) (Fe rfl (by rfl)) (fun _ _ _ _=>A9 (i:=0) Zoq rfl (Or.inl rfl)) (fun _ _ _ _=>Ff) (fun _ _ _ _=>A1 C__law_leaf hr.m (Aa (Ah A6 (Ah Cc (qv 2) (Ah (Bj K) (Ah Cc Ab (qv 0)) Ab)) Ab) (Aa (qv 1) Ac))) sc_law_small.nd rfl (Or.inl rfl))
   (Af (Ak (A0 (Aa (qv 2) (Aa (qv 3) (Aa (F6 (N4 K) (by rfl) T.tuple (by decide +kernel) (Aa (qv 4) Ac)) Ac))))))),?_⟩
  have bg:=Ct
  walk_at "r"
  refine ⟨c,p,t0,t1,t2,rfl,hp,n0,n1,n2,fun a wd note n nt H2 s2 qa hno hps h13f hdn hnb=>?_⟩
  refine Gw qa rfl ?_
  walk_at "r"
  obtain ⟨k,hk⟩:=R7.mp hps
  have k3:=(Iy hk).2.2.2.1
  refine ⟨wd,k,rfl,hk,fun H3 s3=>?_⟩
  walk_at "r"
  refine ⟨by omega,by omega,fun D hD=>?_⟩
  refine Ik (n:=((k:Nat):Int).toNat) (Pv:=fun i ys σ' H'=>∃ kv ts,σ'=[kv,some (.ref p),some (.int c)]/\ys.length=i/\Al (TrAt K H') ys ts/\(∀ t∈ts,TrOk t)/\As ts=i/\Ba ts<=1/\SameT H3 H'/\Same H H') ⟨none,[],rfl,rfl,.nil,(fun t h=>nomatch h),by rw [As],by rw [Hd];omega,SameT.new hD,(s2.trans s3).put hD⟩ ?_ ?_
  ·rintro i ys σ' H' hi hys ⟨kv,ts,rfl,hl,al,okt,hsz,hdp,st,sm⟩
   walk_at "r"
   refine s_mul_r (by omega) (by omega) ?_
   walk_at "r"
   refine ⟨_,p,t0,t1,t2,rfl,sm.seq hp,n0,n1,n2,fun v t H4 s4 htv okv hz1 hd1=>?_⟩
   walk_at "r"
   have ey:=s4 _ _ hys
   refine ⟨_,ey,by omega,_,Ad,?_⟩
   have tt:=s4.t.trans (SameT.set (o:=.lst (ys++[v])) ey)
   refine ⟨_,ts++[t],rfl,by simp [hl],(al.mono fun _ _ h=>h.sameT tt).snoc (htv.sameT (SameT.set ey)),M9 okt okv,?_,?_,st.trans tt,(sm.trans s4).over ((s2.trans s3).free hD)⟩
   ·rw [Fc,As,As];omega
   ·rw [Kc];omega
  ·rintro ys σ' H4 hys ⟨kv,ts,rfl,hl,al,okt,hsz,hdp,st,sm⟩
   have hl:ys.length=k:=by omega
   walk_at "r"
   refine Nj (SqL.of hys) fun p5 h5=>?_
   have s5:=Same.upd (o:=.tup ys) h5
   walk_at "r"
   refine ⟨Bk,fun p6 h6=>?_⟩
   have s6:=Same.upd (o:=.tup [.str wd,note,.ref p5]) h6
   have s56:=s5.trans s6
   have htl:ts.length=k:=by rw [<- al.1];exact hl
   refine q (.ref p6) (.mk wd n ts) _ (sm.trans s56) (.mk (SqT.of Ad) (hno.same ((s3.t.trans st).trans s56.t)) (s6.tup (SqT.of Ad)) al.1 fun j v t e1 e2=>(al.2 j v t e1 e2).same s56) (.mk (by rw [htl];exact hk) hdn hnb okt) ?_ ?_ (Zcd (by omega) (by omega) h13f).2.1
   ·rw [Tr.size];omega
   ·rw [Da];omega
theorem Zck {t:Str}{ws:List Str}:Cr (.str t) (ws.map V.str)=decide (t∈ws):=by
 rw [Ix]
 by_cases hm:t∈ws
 ·rw [decide_eq_true hm,Za7 hm]
 ·rw [decide_eq_false hm,Lb hm]
noncomputable def Db (s:Str):Str:=if s∈(["fn", "let"]:List Str) then "name" else if s∈(["odd", "num", "truth", "name", "rec"]:List Str) then s else ""
noncomputable def Jh (nt:Nt):Str:=if E4 nt=true then "odd" else if Eb nt=true then "num" else if Gr nt=true then "truth" else if Hx nt=true then "name" else if twoN nt=true then "rec" else ""
theorem Zr8 {s:Str}(h:Fo s=true):A7 s=false:=by
 unfold Fo at h
 simp only [Qk,Vs] at h
 exact h.1.1.2
theorem Zdn {s:Str}{nt:Nt}(h:B2 s nt=true):Db s=Jh nt:=by
 unfold B2 at h
 split at h
 ·rename_i e
  subst e
  unfold Jh
  rw [if_pos h]
  decide +kernel
 split at h
 ·rename_i e
  subst e
  have h1:E4 nt=false:=by
   unfold Eb at h
   split at h
   ·rfl
   ·cases h
  unfold Jh
  rw [h1,if_neg O8,if_pos h]
  decide +kernel
 split at h
 ·rename_i e
  subst e
  have h1:E4 nt=false/\Eb nt=false:=by
   unfold Gr at h
   split at h
   ·exact ⟨rfl,rfl⟩
   ·cases h
  unfold Jh
  rw [h1.1,h1.2,if_neg O8,if_neg O8,if_pos h]
  decide +kernel
 split at h
 ·rename_i e
  have h1:E4 nt=false/\Eb nt=false/\Gr nt=false:=by
   unfold Hx at h
   split at h
   ·rename_i v
    cases v with
    | str z =>
     refine ⟨?_,rfl,rfl⟩
     show Fo z=false
     cases hz:Fo z with
     | false=>rfl
     | true=>have:=Zr8 hz;rw [show Ec (.str z)=A7 z from rfl,this] at h;cases h
    | _=>cases h
   ·cases h
  have e2:Db s = "name" := by
   simp only [Pb,Pp,or_false] at e
   rcases e with rfl | rfl | rfl <;> decide +kernel
  unfold Jh
  rw [h1.1,h1.2.1,h1.2.2,if_neg O8,if_neg O8,if_neg O8,if_pos h]
  exact e2
 split at h
 ·rename_i e
  subst e
  have h1:E4 nt=false/\Eb nt=false/\Gr nt=false/\Hx nt=false:=by
   unfold twoN at h
   split at h
   ·exact ⟨rfl,rfl,rfl,rfl⟩
   ·cases h
  unfold Jh
  rw [h1.1,h1.2.1,h1.2.2.1,h1.2.2.2,if_neg O8,if_neg O8,if_neg O8,if_neg O8,if_pos h]
  decide +kernel
 ·rename_i g1 g2 g3 g4 g5
  have e:=Zrt h
  subst e
  unfold Db
  simp only [Pb,Pp,or_false,not_or] at g4
  rw [if_neg (by simp [g4]),if_neg (by simp [g1,g2,g3,g4,g5])]
  decide +kernel
noncomputable def Zhj:Sp:=fun vs H Q _=>∃ s:Str,vs=[.str s]/\∀ H',Same H H'->Q (.str (Db s)) H'
theorem Zqi:A2 ["_law_word"] ["_law_word"] (Am Me):=by walk_at "sc"
theorem Zm2 {f:Addr}{fd:FuncData}(F:Fun K "_law_sort" "_law_sort" Me f fd)(T:Txt K mg):Ao P w K mg base Aq 1 f fd ["_law_word"] Zhj:=by
 refine F.okq Zqi (fun vs H Q E h=>?_) (fun cdv A outer s H vs Q E hr h=>?_)
 ·obtain ⟨z,rfl,_⟩:=h
  rfl
 ·obtain ⟨z,rfl,q⟩:=h
  refine ⟨_,Ag (Ar (Ay (Eh K) (qv 0) (Bv (Aa An (Aa An Ac))) (by rfl)) (Af (Ak An)) Av)
   (Ag (Ar (Ay (Eh K) (qv 0) (Bv (Ib (xs:=[.str "odd",.str "num",.str "truth",.str "name",.str "rec"]) rfl)) (by rfl)) (Af (Ak (qv 0))) Av)
   (Af (Ak An))),?_⟩
  walk_at "r"
  refine ⟨Bq,fun p1 h1=>?_⟩
  refine Eg (.inl (SqL.of Ad)) rfl rfl ?_
  have s1:=Same.upd (o:=.lst [.str "fn",.str "let"]) h1
  rw [if_neg O8,show Cr (.str z) [.str "fn",.str "let"]=decide (z∈(["fn", "let"]:List Str)) from Zck (ws:=["fn", "let"])]
  walk_at "r"
  have e:Db z=if z∈(["fn", "let"]:List Str) then ("name" : Str) else if z∈(["odd", "num", "truth", "name", "rec"]:List Str) then z else "" := rfl
  refine Aw (fun h=>?_) (fun h=>?_)
  ·rw [if_pos (of_decide_eq_true h)] at e
   walk_at "r"
   rw [<- e]
   exact q _ s1
  have h:¬ z∈(["fn", "let"]:List Str):=fun x=>h (decide_eq_true x)
  rw [if_neg h] at e
  walk_at "r"
  refine ⟨sz5,fun p2 h2=>?_⟩
  refine Eg (.inl (SqL.of Ad)) rfl rfl ?_
  have s2:=s1.put (o:=.lst [.str "odd",.str "num",.str "truth",.str "name",.str "rec"]) h2
  rw [if_neg O8,show Cr (.str z) [.str "odd",.str "num",.str "truth",.str "name",.str "rec"]=decide (z∈(["odd", "num", "truth", "name", "rec"]:List Str)) from Zck (ws:=["odd", "num", "truth", "name", "rec"])]
  walk_at "r"
  refine Aw (fun h=>?_) (fun h=>?_)
  ·rw [if_pos (of_decide_eq_true h)] at e
   walk_at "r"
   have q2:=q _ s2
   rw [e] at q2
   exact q2
  have h:¬ z∈(["odd", "num", "truth", "name", "rec"]:List Str):=fun x=>h (decide_eq_true x)
  rw [if_neg h] at e
  walk_at "r"
  have q2:=q _ s2
  rw [e] at q2
  exact q2
end
noncomputable def Ev (s:Str)(d:Dt)(n:Nat):Tr:=.mk s d (Pa n gapT)
theorem Zt5 (n:Nat):As (Pa n gapT)=n:=by
 induction n with
 | zero=>rfl
 | succ n ih=>rw [Rm,As,ih,N1];omega
theorem Zny (n:Nat):Ba (Pa n gapT)<=1:=by
 induction n with
 | zero=>rw [List.replicate_zero,Hd];omega
 | succ n ih=>rw [Rm,Lr,Nr];omega
inductive Sc where
 | put (w:Str) (n:Dt) (nt:Nt) (k:Nat)
 | cut
 | fill (t:Tr)
 | wrap (w:Str) (n:Dt) (nt:Nt) (k i:Nat)
 | keep (i:Int)
 | note (n:Dt) (nt:Nt) (w:Str)
 | chg (t:Tr)
 | deed
noncomputable def Sc.dd:Sc->Dd
 | .put w n _ k=>.put (Ev w n k)
 | .cut=>.cut
 | .fill t=>.fill t
 | .wrap w n _ k i=>.wrap (Ev w n k) i
 | .keep i=>.keep i
 | .note n nt _=>.note n nt
 | .chg t=>.chg t
 | .deed=>.deed
noncomputable def Ja (w:Str)(n:Dt)(nt:Nt):Prop:=E3 n nt/\B2 w nt=true
noncomputable def Sc.good:Sc->Prop
 | .put w n nt k=>Ja w n nt/\Bo w=some k/\w ≠ "gap"
 | .fill t=>Hf t/\t.wd ≠ "gap"
 | .wrap w n nt k i=>Ja w n nt/\Bo w=some k/\i < k
 | .keep i=>-1<=i/\i<=3
 | .note n nt w=>Ja w n nt
 | .chg t=>Hf t
 | _=>True
noncomputable def ScAt (K:O0)(H:Hp)(a:Addr):Sc->Prop
 | .put w n _ _=>∃ nv,SqT K H a [.str "put",.str w,nv]/\IsN K H nv n
 | .cut=>SqT K H a [.str "cut"]
 | .fill t=>∃ v,SqT K H a [.str "fill",v]/\TrAt K H v t
 | .wrap w n _ _ i=>∃ nv,SqT K H a [.str "wrap",.str w,nv,.int (i:Nat)]/\IsN K H nv n
 | .keep i=>SqT K H a [.str "keep",.int i]
 | .note n _ w=>∃ nv,SqT K H a [.str "note",nv,.str w]/\IsN K H nv n
 | .chg t=>∃ v,SqT K H a [.str "change",v]/\TrAt K H v t
 | .deed=>SqT K H a [.str "deed"]
theorem ScAt.same {K:O0}{H H':Hp}{a:Addr}{s:Sc}(h:ScAt K H a s)(e:SameT H H'):ScAt K H' a s:=by
 cases s with
 | put w n nt k=>obtain ⟨v,h1,h2⟩:=h;exact ⟨v,e.tup h1,h2.same e⟩
 | cut=>exact e.tup h
 | fill t=>obtain ⟨v,h1,h2⟩:=h;exact ⟨v,e.tup h1,h2.sameT e⟩
 | wrap w n nt k i=>obtain ⟨v,h1,h2⟩:=h;exact ⟨v,e.tup h1,h2.same e⟩
 | keep i=>exact e.tup h
 | note n nt w=>obtain ⟨v,h1,h2⟩:=h;exact ⟨v,e.tup h1,h2.same e⟩
 | chg t=>obtain ⟨v,h1,h2⟩:=h;exact ⟨v,e.tup h1,h2.sameT e⟩
 | deed=>exact e.tup h
theorem Zat {w:Str}{n:Dt}{nt:Nt}{k:Nat}(h:Ja w n nt)(hk:Bo w=some k):Hf (Ev w n k):=by
 have k3:=K3 hk
 have:=Zt5 k
 have:=Zny k
 refine ⟨.mk (by rw [Rj];exact hk) h.1 h.2 fun x hx=>?_,?_,?_⟩
 ·rw [Tc hx];exact TrOk.gap
 ·rw [Ev,Tr.size];omega
 ·rw [Ev,Da];omega
theorem Sc.good.ok {s:Sc}(h:s.good):s.dd.ok:=by
 cases s with
 | put w n nt k=>exact Zat h.1 h.2.1
 | cut=>trivial
 | fill t=>exact h.1
 | wrap w n nt k i=>exact ⟨Zat h.1 h.2.1,by show i < (Pa k gapT).length;rw [Rj];exact h.2.2⟩
 | keep i=>trivial
 | note n nt w=>exact h.1
 | chg t=>exact h
 | deed=>trivial
noncomputable def W13:List Str:=["gap", "odd", "num", "truth", "name", "plus", "minus", "less", "call", "if", "fn", "rec", "let"]
theorem Zuq {w:Str}{k:Nat}(h:Bo w=some k):∃ j:Nat,j < 13/\W13[j]?=some w/\(∀ m < j,W13[m]?≠some w)/\Bl Iw (j:Int)=some (.str w):=by
 have all:PN.all (fun p=>(Pj 13).any (fun j=>decide (W13[j]?=some p.1) && (Pj j).all (fun m=>decide (W13[m]?≠some p.1)) && decide (Bl Iw ((j:Nat):Int)=some (.str p.1))))=true:=by decide +kernel
 have:=P3.mp all _ (Za5 h)
 obtain ⟨j,hj,e⟩:=Vy.mp this
 simp only [Qk,decide_eq_true_eq] at e
 refine ⟨j,List.mem_range.mp hj,e.1.1,fun m hm=>?_,e.2⟩
 have:=P3.mp e.1.2 m (List.mem_range.mpr hm)
 exact of_decide_eq_true this
section
variable {P:Program}{w:World}{K:O0}{mg:Str->Option Value}{base:Heap}
noncomputable def Zeq (K:O0):Sp:=fun vs H Q _=>∃(c:Int)(fv:V)(t:Tr)(p:Addr)(t0 t1 t2:Str),vs=[.int c,fv,.ref p]/\TrAt K H fv t/\TrOk t/\SqL K H p [.str t0,.str t1,.str t2]/\A7 t0=true/\A7 t1=true/\A7 t2=true /\
 ∀(a:Addr)(s:Sc)(H':Hp),Same H H'->ScAt K H' a s->s.good->Q (.ref a) H'
theorem Ku {t:TS}{X:St->Hp->Prop}{rt:VK}{bk ct:St->Hp->Prop}{σ:St}{H:Hp}(R:St->Hp->Prop)(h2:∀ σ' H',R σ' H'->X σ' H')(h1:∀ Y:St->Hp->Prop,(∀ σ' H',R σ' H'->Y σ' H')->t ⟨Y,rt,bk,ct⟩ σ H):t ⟨X,rt,bk,ct⟩ σ H:=h1 X h2
theorem Hr:A2 ["_law_cell_here", "_law_form_here", "_law_names_here", "_law_turn", "_law_more", "_law_head_here", "_law_heads"] ["_law_cell_here", "_law_form_here", "_law_names_here"] (Am Kz):=by walk_at "sc"
theorem Zn7 {f:Addr}{fd:FuncData}(F:Fun K "_law_spec" "_law_spec" Kz f fd)(T:Txt K mg)(C__law_head:A4 P w K mg base 2 "_law_head" ["_law_cell_here", "_law_names_here"] (Lu K))(C__law_many:A4 P w K mg base 1 "_law_many" ["_law_word"] Lv)(C__law_small:A4 P w K mg base 4 "_law_small" ["_law_cell_here", "_law_names_here"] (Zen K)):Ao P w K mg base Aq 5 f fd ["_law_cell_here", "_law_form_here", "_law_names_here"] (Zeq K):=by
 refine F.okq Hr (fun vs H Q E h=>?_) (fun cdv A outer s H vs Q E hr h=>?_)
 ·obtain ⟨c,fv,t,p,t0,t1,t2,rfl,_⟩:=h
  rfl
 ·obtain ⟨c,fv,t,p,t0,t1,t2,rfl,ht,okt,hp,n0,n1,n2,q⟩:=h
  refine ⟨_,Ag (A3 3 Hr (Ah A6 (qv 0) Ab))
   (Ag (A3 4 Hr (Ah B8 (qv 0) Ab))
   (Ag (A3 5 Hr (A1 C__law_head hr.m (Aa (qv 4) (Aa (qv 2) Ac))))
   (Ag (Ar (Ay (A5 K hr.u200) (Ai K (qv 5) Ab) An (Ax _)) (Af (A3 5 Hr (A0 (Aa An (Aa C0 Ac))))) Av)
   (Ag (Ar (QW.qt (Ek (Ay (A5 K hr.u200) (qv 3) Ab (Ax _)) (Es (QW.qt (Fg (Ay (A5 K hr.u200) (qv 3) Ab (Ax _)) (Gq (Ay (A5 K hr.u200) (Ai K (qv 1) Ab) An (Ax _)))))))) (Af (Ak (A0 (Aa An (Aa (Ai K (qv 5) Ab) (Aa (Ai K (qv 5) Ab) Ac)))))) Av)
   (Ag (Ar (Ay Ij (qv 3) Ab (Ax _)) (Af (Ak (A0 (Aa An Ac)))) Av)
   (Ag (Ar (Ay (A5 K hr.u200) (qv 3) Ab (Ax _)) (Af (Ak (A0 (Aa An (Aa (A1 C__law_small hr.m (Aa (Ah (Bj K) (Ah (Bj K) (Ah Cc (Ah B8 (qv 4) Ab) Ab) Ab) (Ah A6 (qv 4) Ab)) (Aa (qv 2) Ac))) Ac))))) Av)
   (Ag (Ar (Ay (A5 K hr.u200) (qv 3) Ab (Ax _)) (Ag (A3 5 Hr (A1 C__law_head hr.m (Aa (Ah (Bj K) (Ah (Bj K) (Ah Cc (Ah B8 (qv 4) Ab) Ab) Ab) (Ah A6 (qv 4) Ab)) (Aa (qv 2) Ac))))
   (Af (Ak (A0 (Aa An (Aa (Ai K (qv 5) Ab) (Aa (Ai K (qv 5) Ab) (Aa (Ah A6 (Ah B8 (qv 4) Ab) (A1 C__law_many hr.m (Aa (Ai K (qv 5) Ab) Ac))) Ac)))))))) Av)
   (Ag (Ar (Ay (A5 K hr.u200) (qv 3) Ab (Ax _)) (Af (Ak (A0 (Aa An (Aa (Ah Jl (Ah A6 (qv 4) Ab) Ab) Ac))))) Av)
   (Ag (Ar (Ay (A5 K hr.u200) (qv 3) Ab (Ax _)) (Af (Ak (A0 (Aa An (Aa (Ai K (qv 5) Ab) (Aa (Ai K (qv 5) Ab) Ac)))))) Av)
   (Ag (Ar (Ay (A5 K hr.u200) (qv 3) Ab (Ax _)) (Ag (A3 6 Hr (Bv (Ib (xs:=[.str "gap",.str "odd",.str "num",.str "truth",.str "name",.str "plus",.str "minus",.str "less",.str "call",.str "if",.str "fn",.str "rec",.str "let"]) rfl)))
   (Af (Ak (A0 (Aa An (Aa (Ai K (A1 C__law_head hr.m (Aa (Ah (Bj K) (Ah Cc (qv 4) Ab) (Cv K Pz PySem.F.slot_list_index PySem.F.type_list_index (Zog K) (qv 6) (Aa (Ai K (qv 1) Ab) Ac))) (Aa (qv 2) Ac))) Ab) (Aa (Ai K (qv 1) Ab) Ac))))))) Av)
   (Ag (Ar (Ay (A5 K hr.u200) (qv 3) Ab (Ax _)) (Af (Ak (A0 (Aa An (Aa (A1 C__law_small hr.m (Aa (qv 4) (Aa (qv 2) Ac))) Ac))))) Av)
   (Af (Ak (A0 (Aa An Ac))))))))))))))),?_⟩
  walk_at "r"
  refine ⟨_,p,t0,t1,t2,rfl,hp,n0,n1,n2,fun a wd note n nt H1 s1 qa hno hps h13f hdn hnb=>?_⟩
  refine s_gname ?_
  obtain ⟨k,hk⟩:=R7.mp hps
  with_reducible refine s_seq ?_
  refine Ku (t:=F8 _ _ _) (R:=fun σ' H'=>∃(a1:Addr)(wd1:Str)(nv1:V)(n1:Dt)(nt1:Nt)(k1:Nat),σ'=[some (.int c),some fv,some (.ref p),some (.int (c % 10)),some (.int (c / 10)),some (.ref a1),none]/\Same H H'/\SqT K H' a1 [.str wd1,nv1]/\IsN K H' nv1 n1/\Ja wd1 n1 nt1/\Bo wd1=some k1/\wd1 ≠ "gap") ?_ (fun Y hY=>?_)
  rotate_left
  ·walk_at "r"
   refine Ae qa rfl ?_
   walk_at "r"
   rw [Ci]
   refine Aw (fun h=>?_) (fun h=>?_)
   ·walk_at "r"
    refine ⟨Bq,fun p1 h1=>?_⟩
    walk_at "r"
    exact hY _ _ ⟨p1, "plus",.non,_,_,2,rfl,s1.put h1,SqT.of Ad,.inl ⟨rfl,rfl⟩,⟨.fl (v:=.non) trivial,rfl⟩,by decide +kernel,by decide +kernel⟩
   ·walk_at "r"
    exact hY _ _ ⟨a,wd,note,n,nt,k,rfl,s1,qa,hno,⟨hdn,hnb⟩,hk,fun z=>h (decide_eq_true z)⟩
  clear qa hno hk hps h13f hdn hnb s1 k
  rintro σ' H2 ⟨a1,wd1,nv1,d1,nt1,k1,rfl,s2,qa,hno,hnk,hk,hng⟩
  obtain ⟨af,pf,nf,rfl,qf⟩:=Gz ht
  have qf:=s2.tup qf
  have hp:=s2.seq hp
  have put:([V.str "put",V.str wd1,nv1]:List V).length<=sizeLine/\∀ p,H2 p=none->Q (.ref p) (upd H2 p (.tup [.str "put",.str wd1,nv1])) :=
   ⟨Bk,fun p4 h4=>q p4 (.put wd1 d1 nt1 k1) _ (s2.put h4) ⟨nv1,SqT.of Ad,hno.same (SameT.new h4)⟩ ⟨hnk,hk,hng⟩⟩
  with_reducible refine s_seq ?_
  refine Ku (t:=F8 _ _ _) (R:=fun σ' H'=>σ'=[some (.int c),some (.ref af),some (.ref p),some (.int (c % 10)),some (.int (c / 10)),some (.ref a1),none]/\H'=H2) ?_ (fun Y hY=>?_)
  rotate_left
  ·walk_at "r"
   refine Aw (fun h=>?_) (fun h0=>?_)
   ·walk_at "r"
    refine Ae qa rfl ?_
    walk_at "r"
    refine Ae qa rfl ?_
    walk_at "r"
    exact put
   walk_at "r"
   refine Aw (fun h=>?_) (fun h0=>?_)
   ·walk_at "r"
    refine Ae qf rfl ?_
    walk_at "r"
    rw [Ci]
    refine Aw (fun h=>?_) (fun h=>?_)
    ·walk_at "r"
     refine Ae qa rfl ?_
     walk_at "r"
     refine Ae qa rfl ?_
     walk_at "r"
     exact put
    ·walk_at "r"
     exact hY _ _ ⟨rfl,rfl⟩
   ·walk_at "r"
    exact hY _ _ ⟨rfl,rfl⟩
  rintro σ' H' ⟨rfl,rfl⟩
  walk_at "r"
  refine Aw (fun h=>?_) (fun h=>?_)
  ·walk_at "r"
   exact ⟨Ck,fun p4 h4=>q p4 .cut _ (s2.put h4) (SqT.of Ad) trivial⟩
  walk_at "r"
  refine Aw (fun h=>?_) (fun h=>?_)
  ·walk_at "r"
   refine ⟨_,p,t0,t1,t2,rfl,hp,n0,n1,n2,fun v u H3 s3 hv oku szu dpu gu=>?_⟩
   walk_at "r"
   exact ⟨Bq,fun p4 h4=>q p4 (.fill u) _ (s2.trans (s3.put h4)) ⟨v,SqT.of Ad,hv.same (Same.upd h4)⟩ ⟨⟨oku,szu,dpu⟩,gu (by omega)⟩⟩
  walk_at "r"
  refine Aw (fun h=>?_) (fun h=>?_)
  ·walk_at "r"
   refine ⟨_,p,t0,t1,t2,rfl,hp,n0,n1,n2,fun a3 wd3 nv3 d3 nt3 H3 s3 qa3 hno3 hps3 h3 hdn3 hnb3=>?_⟩
   obtain ⟨k3,hk3⟩:=(Zcd (by omega) (by omega) h3).2.2.2 (by omega)
   refine s_gname ?_
   walk_at "r"
   refine Ae qa3 rfl ?_
   walk_at "r"
   refine Ae qa3 rfl ?_
   walk_at "r"
   refine Ae qa3 rfl ?_
   walk_at "r"
   refine ⟨wd3,k3+1,rfl,hk3,fun H4 s4=>?_⟩
   refine ⟨_,_,rfl,rfl,by omega,?_⟩
   walk_at "r"
   have em:c / 10 / 8 % ((k3+1:Nat):Int)=(((c / 10 / 8 % ((k3+1:Nat):Int)).toNat:Nat):Int):=(Vg (Qf _ (by omega))).symm
   have el:=Qh (c / 10 / 8) (show (0:Int) < ((k3+1:Nat):Int) by omega)
   rw [em] at el
   have em:(fun i j:Int=>V.int (i % j)) (c / 10 / 8) ((k3+1:Nat):Int)=.int (((c / 10 / 8 % ((k3+1:Nat):Int)).toNat:Nat):Int):=congrArg V.int em
   rw [em]
   exact ⟨sz4,fun p4 h4=>q p4 (.wrap wd3 d3 nt3 (k3+1) _) _ (s2.trans (s3.trans (s4.put h4))) ⟨nv3,SqT.of Ad,hno3.same (s4.t.trans (SameT.new h4))⟩ ⟨⟨hdn3,hnb3⟩,hk3,Int.ofNat_lt.mp el⟩⟩
  walk_at "r"
  refine Aw (fun h=>?_) (fun h=>?_)
  ·walk_at "r"
   exact ⟨Bq,fun p4 h4=>q p4 (.keep (c / 10 % 5 - 1)) _ (s2.put h4) (SqT.of Ad) ⟨by omega,by omega⟩⟩
  walk_at "r"
  refine Aw (fun h=>?_) (fun h=>?_)
  ·walk_at "r"
   refine Ae qa rfl ?_
   walk_at "r"
   refine Ae qa rfl ?_
   walk_at "r"
   exact ⟨Bk,fun p4 h4=>q p4 (.note d1 nt1 wd1) _ (s2.put h4) ⟨nv1,SqT.of Ad,hno.same (SameT.new h4)⟩ hnk⟩
  walk_at "r"
  refine Aw (fun h=>?_) (fun h=>?_)
  ·walk_at "r"
   refine ⟨sz13,fun p3 h3=>?_⟩
   have s3:=Same.upd (o:=.lst (W13.map V.str)) h3
   walk_at "r"
   obtain ⟨kf,hkf⟩:∃ k,Bo t.wd=some k:=by cases okt with | mk hp _ _ _=>exact ⟨_,hp⟩
   obtain ⟨j,j13,hj,hjm,hja⟩:=Zuq hkf
   refine B3 (SqL.of Ad) ?_
   walk_at "r"
   refine Ae (s3.tup qf) rfl ?_
   walk_at "r"
   refine ⟨p3,t.wd,W13,j,rfl,rfl,SqL.of Ad,hj,hjm,by decide,?_⟩
   walk_at "r"
   refine ⟨_,p,t0,t1,t2,rfl,s3.seq hp,n0,n1,n2,fun a3 wd3 nv3 d3 nt3 H3 s3' qa3 hno3 hps3 h13 hdn3 hnb3=>?_⟩
   have ej:(c / 10 * 13+(j:Nat)) % 13=(j:Nat):=by omega
   rw [ej,hja] at h13
   injection h13 with h13
   injection h13 with h13
   subst h13
   have s33:=s3.trans s3'
   walk_at "r"
   refine Ae qa3 rfl ?_
   walk_at "r"
   refine Ae (s33.tup qf) rfl ?_
   walk_at "r"
   exact ⟨Bk,fun p4 h4=>q p4 (.note d3 nt3 t.wd) _ (s2.trans (s33.put h4)) ⟨nv3,SqT.of Ad,hno3.same (SameT.new h4)⟩ ⟨hdn3,hnb3⟩⟩
  walk_at "r"
  refine Aw (fun h=>?_) (fun h=>?_)
  ·walk_at "r"
   refine ⟨_,p,t0,t1,t2,rfl,hp,n0,n1,n2,fun v u H3 s3 hv oku szu dpu gu=>?_⟩
   walk_at "r"
   exact ⟨Bq,fun p4 h4=>q p4 (.chg u) _ (s2.trans (s3.put h4)) ⟨v,SqT.of Ad,hv.same (Same.upd h4)⟩ ⟨oku,szu,dpu⟩⟩
  walk_at "r"
  exact ⟨Ck,fun p4 h4=>q p4 .deed _ (s2.put h4) (SqT.of Ad) trivial⟩
noncomputable def Zb2 (K:O0):Sp:=fun vs H Q _=>∃(a:Addr)(s:Sc)(fv:V)(t:Tr),vs=[.ref a,fv]/\ScAt K H a s/\s.good/\TrAt K H fv t/\TrOk t /\
 (∀ u,Bt t s.dd=some u->∀ v H',Same H H'->TrAt K H' v u->Q v H')/\(Bt t s.dd=none->∀ H',Same H H'->Q .non H')
theorem Az {b:Bool}{X Y:Prop}(h:b=false)(y:Y):if b=true then X else Y:=by rw [if_neg (by rw [h];exact O8)];exact y
theorem Bw {b:Bool}{X Y:Prop}(h:b=true)(x:X):if b=true then X else Y:=by rw [if_pos h];exact x
noncomputable def Sc.kw:Sc->Str
 | .put _ _ _ _ => "put"
 | .cut => "cut"
 | .fill _ => "fill"
 | .wrap _ _ _ _ _ => "wrap"
 | .keep _ => "keep"
 | .note _ _ _ => "note"
 | .chg _ => "change"
 | .deed => "deed"
theorem ScAt.kw {K:O0}{H:Hp}{a:Addr}{s:Sc}(h:ScAt K H a s):∃ xs,SqT K H a (.str s.kw::xs):=by
 cases s with
 | put w n nt k=>obtain ⟨v,h1,h2⟩:=h;exact ⟨_,h1⟩
 | cut=>exact ⟨_,h⟩
 | fill t=>obtain ⟨v,h1,h2⟩:=h;exact ⟨_,h1⟩
 | wrap w n nt k i=>obtain ⟨v,h1,h2⟩:=h;exact ⟨_,h1⟩
 | keep i=>exact ⟨_,h⟩
 | note n nt w=>obtain ⟨v,h1,h2⟩:=h;exact ⟨_,h1⟩
 | chg t=>obtain ⟨v,h1,h2⟩:=h;exact ⟨_,h1⟩
 | deed=>exact ⟨_,h⟩
theorem Zkn {s:Sc}{t:Tr}(h:s.kw∈(["put", "fill"]:List Str))(g:t.wd ≠ "gap"):Bt t s.dd=none:=by
 cases s with
 | put w n nt k=>exact if_neg g
 | fill u=>exact if_neg g
 | cut=>exact absurd h (by show ¬ ("cut" : Str)∈(["put", "fill"]:List Str);decide +kernel)
 | wrap w n nt k i=>exact absurd h (by show ¬ ("wrap" : Str)∈(["put", "fill"]:List Str);decide +kernel)
 | keep i=>exact absurd h (by show ¬ ("keep" : Str)∈(["put", "fill"]:List Str);decide +kernel)
 | note n nt w=>exact absurd h (by show ¬ ("note" : Str)∈(["put", "fill"]:List Str);decide +kernel)
 | chg u=>exact absurd h (by show ¬ ("change" : Str)∈(["put", "fill"]:List Str);decide +kernel)
 | deed=>exact absurd h (by decide +kernel)
theorem Zra {s:Sc}{t:Tr}(h:s.kw = "cut")(g:t.wd = "gap"):Bt t s.dd=none:=by
 cases s with
 | cut=>exact if_pos g
 | put w n nt k=>exact absurd h (by show ("put" : Str) ≠ "cut";decide +kernel)
 | fill u=>exact absurd h (by show ("fill" : Str) ≠ "cut";decide +kernel)
 | wrap w n nt k i=>exact absurd h (by show ("wrap" : Str) ≠ "cut";decide +kernel)
 | keep i=>exact absurd h (by show ("keep" : Str) ≠ "cut";decide +kernel)
 | note n nt w=>exact absurd h (by show ("note" : Str) ≠ "cut";decide +kernel)
 | chg u=>exact absurd h (by show ("change" : Str) ≠ "cut";decide +kernel)
 | deed=>exact absurd h (by decide +kernel)
theorem Zez (s:Str)(nt:Nt):B2 s nt=B2 (Db s) nt:=by
 by_cases h:s∈(["fn", "let"]:List Str)
 ·simp only [Pb,Pp,or_false] at h
  rcases h with rfl | rfl <;> rfl
 by_cases h2:s∈(["odd", "num", "truth", "name", "rec"]:List Str)
 ·rw [show Db s=s by unfold Db;rw [if_neg h,if_pos h2]]
 ·rw [show Db s = "" by unfold Db;rw [if_neg h,if_neg h2]]
  simp only [Pb,Pp,or_false,not_or] at h h2
  show (if s = "odd" then E4 nt else if s = "num" then Eb nt else if s = "truth" then Gr nt else if s∈(["name", "fn", "let"]:List Str) then Hx nt else if s = "rec" then twoN nt else Hh nt)=Hh nt
  rw [if_neg h2.1,if_neg h2.2.1,if_neg h2.2.2.1,if_neg (by simp only [Pb,Pp,or_false,not_or];exact ⟨h2.2.2.2.1,h.1,h.2⟩),if_neg h2.2.2.2.2]
theorem at0 {v:V}{xs:List V}:Bl (v::xs) 0=some v:=Kn (j:=0) rfl
theorem Zjn {K:O0}{H:Hp}{us:List V}{n i:Nat}{v:V}{t:Tr}(hl:us.length=n)(hg:∀ u∈us,TrAt K H u gapT)(hv:TrAt K H v t):∀(j:Nat)(u:V)(x:Tr),(us.set i v)[j]?=some u->((Pa n gapT).set i t)[j]?=some x->TrAt K H u x:=by
 intro j u x h1 h2
 rw [List.getElem?_set] at h1 h2
 by_cases e:i=j
 ·rw [if_pos e] at h1 h2
  split at h1
  ·split at h2
   ·cases h1;cases h2;exact hv
   ·cases h2
  ·cases h1
 ·rw [if_neg e] at h1 h2
  rw [Tc (Pt h2)]
  exact hg u (Pt h1)
theorem Zih:(["_law_k"]:List Str).Nodup:=by decide +kernel
theorem Zid:(["_law_k"]:List Str).Nodup:=by decide +kernel
theorem sc_law_after:A2 ["_law_spec_here", "_law_form_here", "_law_parts"] ["_law_spec_here", "_law_form_here"] (Am Lc):=by walk_at "sc"
theorem Zq5 {f:Addr}{fd:FuncData}(F:Fun K "_law_after" "_law_after" Lc f fd)(T:Txt K mg)(C__law_many:A4 P w K mg base 1 "_law_many" ["_law_word"] Lv)(C__law_sort:A4 P w K mg base 1 "_law_sort" ["_law_word"] Zhj):Ao P w K mg base Aq 2 f fd ["_law_spec_here", "_law_form_here"] (Zb2 K):=by
 refine F.okq sc_law_after (fun vs H Q E h=>?_) (fun cdv A outer s H vs Q E hr h=>?_)
 ·obtain ⟨a,s,fv,t,rfl,_⟩:=h
  rfl
 ·obtain ⟨a,sc,fv,t,rfl,hs,hg,ht,okt,q,x⟩:=h
  refine ⟨_,Ag (Ar (QW.qt (Ek (QW.qt (Fg (Ay (Eh K) (Ai K (qv 0) Ab) (Bv (Aa An (Aa An Ac))) (by rfl)) (Gq (Ay (Ky K hr.u200) (Ai K (qv 1) Ab) An (Ax _))))) (Es (QW.qt (Fg (Ay (A5 K hr.u200) (Ai K (qv 0) Ab) An (Ax _)) (Gq (Ay (A5 K hr.u200) (Ai K (qv 1) Ab) An (Ax _)))))))) (Af (Ak C0)) Av)
   (Ag (Ar (Ay (A5 K hr.u200) (Ai K (qv 0) Ab) An (Ax _)) (Af (Ak (A0 (Aa (Ai K (qv 0) Ab) (Aa (Ai K (qv 0) Ab) (Aa (F6 (N4 K) (by rfl) T.tuple (by decide +kernel) (Aa (Mc (N:=["_law_k"]) (σ0:=Df 1 []) rfl (E5 rfl (by decide +kernel) (by decide +kernel) (by decide +kernel)) (Ez rfl T.range (Aa (A1 C__law_many hr.m (Aa (Ai K (qv 0) Ab) Ac)) Ac)) (Fe rfl (by rfl)) (fun _ _ _ _=>A9 (i:=0) Zih rfl (Or.inl rfl)) (fun _ _ _ _=>Ff) (fun _ _ _ _=>A0 (Aa An (Aa C0 (Aa (A0 Ac) Ac))))) Ac)) Ac)))))) Av)
   (Ag (Ar (Ay (A5 K hr.u200) (Ai K (qv 0) Ab) An (Ax _)) (Af (Ak (A0 (Aa An (Aa C0 (Aa (A0 Ac) Ac)))))) Av)
   (Ag (Ar (Ay (A5 K hr.u200) (Ai K (qv 0) Ab) An (Ax _)) (Ag (M5 (i:=2) (N:=["_law_k"]) (σ0:=Df 1 []) rfl (E5 rfl (by decide +kernel) (by decide +kernel) (by decide +kernel)) (Ez rfl T.range (Aa (A1 C__law_many hr.m (Aa (Ai K (qv 0) Ab) Ac)) Ac)) (Fe rfl (by rfl)) (fun _ _ _ _=>A9 (i:=0) Zid rfl (Or.inl rfl)) (fun _ _ _ _=>Ff) (fun _ _ _ _=>A0 (Aa An (Aa C0 (Aa (A0 Ac) Ac)))) sc_law_after.nd rfl (Or.inl rfl))
   (Ag (Hn (qv 1) (Zhw (qv 2) (Ai K (qv 0) Ab) Zeg))
   (Af (Ak (A0 (Aa (Ai K (qv 0) Ab) (Aa (Ai K (qv 0) Ab) (Aa (F6 (N4 K) (by rfl) T.tuple (by decide +kernel) (Aa (qv 2) Ac)) Ac)))))))) Av)
   (Ag (Ar (Ay (A5 K hr.u200) (Ai K (qv 0) Ab) An (Ax _)) (Ag (Ar (QW.qt (Ek (Ay Ij (Ai K (qv 0) Ab) Ab (Ax _)) (Es (Ay Zot (Ai K (qv 0) Ab) (Bd (Cp K) (by rfl) T.len (by decide +kernel) (Aa (Ai K (qv 1) Ab) Ac)) (Ax _))))) (Af (Ak C0)) Av)
   (Af (Ak (Ai K (Ai K (qv 1) Ab) (Ai K (qv 0) Ab))))) Av)
   (Ag (Ar (Ay (A5 K hr.u200) (Ai K (qv 0) Ab) An (Ax _)) (Ag (Ar (Ay (Ky K hr.u200) (A1 C__law_sort hr.m (Aa (Ai K (qv 0) Ab) Ac)) (A1 C__law_sort hr.m (Aa (Ai K (qv 1) Ab) Ac)) (Ax _)) (Af (Ak C0)) Av)
   (Af (Ak (A0 (Aa (Ai K (qv 1) Ab) (Aa (Ai K (qv 0) Ab) (Aa (Ai K (qv 1) Ab) Ac))))))) Av)
   (Ag (Ar (Ay (A5 K hr.u200) (Ai K (qv 0) Ab) An (Ax _)) (Af (Ak (qv 1))) Av)
   (Af (Ak (Ai K (qv 0) Ab))))))))),?_⟩
  have bg:=Ct
  obtain ⟨xs,qh⟩:=hs.kw
  obtain ⟨af,pf,nf,rfl,qf⟩:=Gz ht
  with_reducible refine s_seq ?_
  refine Ku (t:=F8 _ _ _) (R:=fun σ' H'=>σ'=[some (.ref a),some (.ref af),none]/\Same H H'/\(sc.kw∈(["put", "fill"]:List Str)->t.wd = "gap")/\(sc.kw = "cut" -> t.wd ≠ "gap")) ?_ (fun Y hY=>?_)
  rotate_left
  ·walk_at "r"
   refine Ae qh at0 ?_
   walk_at "r"
   refine ⟨Bq,fun p1 h1=>?_⟩
   have s1:=Same.upd (o:=.lst [.str "put",.str "fill"]) h1
   refine Eg (.inl (SqL.of Ad)) rfl rfl ?_
   rw [if_neg O8,show Cr (.str sc.kw) [.str "put",.str "fill"]=decide (sc.kw∈(["put", "fill"]:List Str)) from Zck (ws:=["put", "fill"])]
   revert s1
   generalize upd H p1 _=H1
   intro s1
   walk_at "r"
   refine Aw (fun h=>?_) (fun h=>?_)
   ·walk_at "r"
    refine Ae (s1.tup qf) rfl ?_
    walk_at "r"
    rw [Ci]
    refine Aw (fun h2=>?_) (fun h2=>?_)
    ·walk_at "r"
     exact x (Zkn (of_decide_eq_true h) (by simpa using h2)) _ s1
    ·have hgap:t.wd = "gap" := by simpa using h2
     have nc:sc.kw ≠ "cut" := fun z=>by rw [z] at h;revert h;decide +kernel
     walk_at "r"
     refine Ae (s1.tup qh) at0 ?_
     walk_at "r"
     rw [Ci]
     refine Az (decide_eq_false nc) ?_
     walk_at "r"
     exact hY _ _ ⟨rfl,s1,fun _=>hgap,fun z=>absurd z nc⟩
   ·have np:¬ sc.kw∈(["put", "fill"]:List Str):=fun z=>h (decide_eq_true z)
    walk_at "r"
    refine Ae (s1.tup qh) at0 ?_
    walk_at "r"
    rw [Ci]
    refine Aw (fun h=>?_) (fun h=>?_)
    ·walk_at "r"
     refine Ae (s1.tup qf) rfl ?_
     walk_at "r"
     rw [Ci]
     refine Aw (fun h2=>?_) (fun h2=>?_)
     ·walk_at "r"
      exact x (Zra (of_decide_eq_true h) (of_decide_eq_true h2)) _ s1
     ·walk_at "r"
      exact hY _ _ ⟨rfl,s1,fun z=>absurd z np,fun _ z=>h2 (decide_eq_true z)⟩
    ·walk_at "r"
     exact hY _ _ ⟨rfl,s1,fun z=>absurd z np,fun z=>absurd (decide_eq_true z) h⟩
  rintro σ' H1 ⟨rfl,s1,hpf,hct⟩
  replace hs:=hs.same s1.t
  replace ht:=ht.same s1
  replace qf:=s1.tup qf
  replace q:=fun u h v H' (s:Same H1 H')=>q u h v H' (s1.trans s)
  replace x:=fun h H' (s:Same H1 H')=>x h H' (s1.trans s)
  clear qh
  cases sc with
  | put w n nt k =>
   obtain ⟨nv,qa,hn⟩:=hs
   obtain ⟨hno,hk,hng⟩:=hg
   have k3:=K3 hk
   walk_at "r"
   refine Ae qa rfl ?_
   walk_at "r"
   refine Bw (by decide +kernel) ?_
   walk_at "r"
   refine Ae qa rfl ?_
   walk_at "r"
   refine Ae qa rfl ?_
   walk_at "r"
   refine Ae qa rfl ?_
   walk_at "r"
   refine ⟨w,k,rfl,hk,fun H2 s2=>?_⟩
   walk_at "r"
   refine ⟨by omega,by omega,fun D hD=>?_⟩
   refine Ik (n:=((k:Nat):Int).toNat) (Pv:=fun i ys σ' H'=>∃ kv,σ'=[kv]/\ys.length=i/\(∀ u∈ys,TrAt K H' u gapT)/\Same H1 H') ⟨none,rfl,rfl,(fun u h=>nomatch h),s2.put hD⟩ ?_ ?_
   ·rintro i ys σ' H' hi hys ⟨kv,rfl,hl,hg,sm⟩
    walk_at "r"
    refine ⟨Cu,fun p2 h2=>?_⟩
    have s3:=Same.upd (o:=.tup []) h2
    walk_at "r"
    refine ⟨Bk,fun p3 h3=>?_⟩
    have s4:=Same.upd (o:=.tup [.str "gap",.non,.ref p2]) h3
    have s34:=s3.trans s4
    have gp:=TrAt.gap (K:=K) (SqT.of Ad) (s4.tup (SqT.of Ad))
    have ey:=s34 _ _ hys
    revert s34 gp ey
    generalize upd (upd H' p2 (.tup [])) p3 (.tup [.str "gap",.non,.ref p2])=H3
    intro s34 gp ey
    walk_at "r"
    refine ⟨_,ey,by omega,_,Ad,?_⟩
    have st:=SameT.set (o:=.lst (ys++[.ref p3])) ey
    refine ⟨_,rfl,by simp [hl],fun u hu=>?_,(sm.trans s34).over (s2.free hD)⟩
    rcases P4.mp hu with hu | hu
    ·exact (hg u hu).sameT (s34.t.trans st)
    ·rw [P8.mp hu];exact gp.sameT st
   ·rintro ys σ' H2 hys ⟨kv,rfl,hl,hg,sm⟩
    walk_at "r"
    refine Nj (SqL.of hys) fun p5 h5=>?_
    have s5:=Same.upd (o:=.tup ys) h5
    walk_at "r"
    refine ⟨Bk,fun p6 h6=>?_⟩
    have s6:=Same.upd (o:=.tup [.str w,nv,.ref p5]) h6
    have s56:=s5.trans s6
    refine q (Ev w n k) (if_pos (hpf (by show ("put" : Str)∈(["put", "fill"]:List Str);decide +kernel))) _ _ (sm.trans s56) (.mk (SqT.of Ad) (hn.same (sm.t.trans s56.t)) (s6.tup (SqT.of Ad)) (by rw [Rj];omega) fun j u y h1 h2=>?_)
    rw [Tc (Pt h2)]
    exact (hg u (Pt h1)).same s56
  | cut =>
   have qa:=hs
   walk_at "r"
   refine Ae qa rfl ?_
   walk_at "r"
   refine Az (by decide +kernel) ?_
   walk_at "r"
   refine Ae qa rfl ?_
   walk_at "r"
   refine Bw (by decide +kernel) ?_
   walk_at "r"
   refine ⟨Cu,fun p2 h2=>?_⟩
   have s3:=Same.upd (o:=.tup []) h2
   walk_at "r"
   refine ⟨Bk,fun p3 h3=>?_⟩
   have s4:=Same.upd (o:=.tup [.str "gap",.non,.ref p2]) h3
   exact q gapT (if_neg (hct rfl)) _ _ (s3.trans s4) (TrAt.gap (K:=K) (SqT.of Ad) (s4.tup (SqT.of Ad)))
  | fill u =>
   obtain ⟨v,qa,hv⟩:=hs
   walk_at "r"
   refine Ae qa rfl ?_
   walk_at "r"
   refine Az (by decide +kernel) ?_
   walk_at "r"
   refine Ae qa rfl ?_
   walk_at "r"
   refine Az (by decide +kernel) ?_
   walk_at "r"
   refine Ae qa rfl ?_
   walk_at "r"
   refine Az (by decide +kernel) ?_
   walk_at "r"
   refine Ae qa rfl ?_
   walk_at "r"
   refine Az (by decide +kernel) ?_
   walk_at "r"
   refine Ae qa rfl ?_
   walk_at "r"
   refine Az (by decide +kernel) ?_
   walk_at "r"
   refine Ae qa rfl ?_
   walk_at "r"
   refine Az (by decide +kernel) ?_
   walk_at "r"
   refine Ae qa rfl ?_
   exact q u (if_pos (hpf (by show ("fill" : Str)∈(["put", "fill"]:List Str);decide +kernel))) v _ (Same.refl _) hv
  | wrap w n nt k i =>
   obtain ⟨nv,qa,hn⟩:=hs
   obtain ⟨hno,hk,hik⟩:=hg
   have k3:=K3 hk
   walk_at "r"
   refine Ae qa rfl ?_
   walk_at "r"
   refine Az (by decide +kernel) ?_
   walk_at "r"
   refine Ae qa rfl ?_
   walk_at "r"
   refine Az (by decide +kernel) ?_
   walk_at "r"
   refine Ae qa rfl ?_
   walk_at "r"
   refine Bw (by decide +kernel) ?_
   walk_at "r"
   refine Ae qa rfl ?_
   walk_at "r"
   refine ⟨w,k,rfl,hk,fun H2 s2=>?_⟩
   walk_at "r"
   refine ⟨by omega,by omega,fun D hD=>?_⟩
   refine Ik (n:=((k:Nat):Int).toNat) (Pv:=fun i ys σ' H'=>∃ kv,σ'=[kv]/\ys.length=i/\(∀ u∈ys,TrAt K H' u gapT)/\Same H1 H') ⟨none,rfl,rfl,(fun u h=>nomatch h),s2.put hD⟩ ?_ ?_
   ·rintro i ys σ' H' hi hys ⟨kv,rfl,hl,hg,sm⟩
    walk_at "r"
    refine ⟨Cu,fun p2 h2=>?_⟩
    have s3:=Same.upd (o:=.tup []) h2
    walk_at "r"
    refine ⟨Bk,fun p3 h3=>?_⟩
    have s4:=Same.upd (o:=.tup [.str "gap",.non,.ref p2]) h3
    have s34:=s3.trans s4
    have gp:=TrAt.gap (K:=K) (SqT.of Ad) (s4.tup (SqT.of Ad))
    have ey:=s34 _ _ hys
    revert s34 gp ey
    generalize upd (upd H' p2 (.tup [])) p3 (.tup [.str "gap",.non,.ref p2])=H3
    intro s34 gp ey
    walk_at "r"
    refine ⟨_,ey,by omega,_,Ad,?_⟩
    have st:=SameT.set (o:=.lst (ys++[.ref p3])) ey
    refine ⟨_,rfl,by simp [hl],fun u hu=>?_,(sm.trans s34).over (s2.free hD)⟩
    rcases P4.mp hu with hu | hu
    ·exact (hg u hu).sameT (s34.t.trans st)
    ·rw [P8.mp hu];exact gp.sameT st
   ·rintro ys σ' H2 hys ⟨kv,rfl,hl,hg,sm⟩
    refine s_gname ?_
    walk_at "r"
    refine Ae (sm.tup qa) rfl ?_
    have hz:ys.length=k:=by omega
    have hix:Dq ys.length ((i:Nat):Int)=some i:=by
     unfold Dq
     rw [if_pos (by omega),if_pos (by omega)]
     congr 1
    refine Zex hys (j:=i) hix ?_
    have st:=SameT.set (o:=.lst (ys.set i (.ref af))) hys
    have sm2:=(sm.over (s2.free hD):Same H1 (upd H2 D (.lst (ys.set i (.ref af)))))
    have al:=Zjn (K:=K) (i:=i) (v:=.ref af) (t:=t) hz (fun u hu=>(hg u hu).sameT st) (ht.same sm2)
    have eD:upd H2 D (.lst (ys.set i (.ref af))) D=some (.lst (ys.set i (.ref af))):=Ad
    revert eD sm2 al
    generalize upd H2 D _=H3
    intro sm2 al eD
    walk_at "r"
    refine Ae (sm2.tup qa) rfl ?_
    walk_at "r"
    refine Ae (sm2.tup qa) rfl ?_
    walk_at "r"
    refine Nj (SqL.of eD) fun p5 h5=>?_
    have s5:=Same.upd (o:=.tup (ys.set i (.ref af))) h5
    walk_at "r"
    refine ⟨Bk,fun p6 h6=>?_⟩
    have s6:=Same.upd (o:=.tup [.str w,nv,.ref p5]) h6
    have s56:=s5.trans s6
    exact q (.mk w n ((Pa k gapT).set i t)) rfl _ _ (sm2.trans s56) (.mk (SqT.of Ad) (hn.same (sm2.t.trans s56.t)) (s6.tup (SqT.of Ad)) (by rw [Rn,Rn,Rj];omega) fun j u y h1 h2=>(al j u y h1 h2).same s56)
  | keep i =>
   have qa:=hs
   walk_at "r"
   refine Ae qa rfl ?_
   walk_at "r"
   refine Az (by decide +kernel) ?_
   walk_at "r"
   refine Ae qa rfl ?_
   walk_at "r"
   refine Az (by decide +kernel) ?_
   walk_at "r"
   refine Ae qa rfl ?_
   walk_at "r"
   refine Az (by decide +kernel) ?_
   walk_at "r"
   refine Ae qa rfl ?_
   walk_at "r"
   refine Bw (by decide +kernel) ?_
   walk_at "r"
   refine Ae qa rfl ?_
   walk_at "r"
   have hd:Bt t (.keep i)=if 0<=i/\i < (t.ps.length:Int) then t.ps[i.toNat]? else none:=rfl
   cases ht with
   | @mk af pf wd nv n vs ts qf' hn' qp hl hc =>
   refine Aw (fun h=>?_) (fun h=>?_)
   ·have h:=of_decide_eq_true h
    walk_at "r"
    exact x (by show Bt _ (.keep i)=none;rw [hd,if_neg (by omega)]) _ (Same.refl _)
   have h:¬ i < 0:=fun z=>h (decide_eq_true z)
   walk_at "r"
   refine Ae qa rfl ?_
   walk_at "r"
   refine Ae qf' rfl ?_
   walk_at "r"
   refine Fl qp ?_
   refine ⟨_,_,rfl,rfl,?_⟩
   refine ⟨_,rfl,?_⟩
   refine Aw (fun h2=>?_) (fun h2=>?_)
   ·have h2:=of_decide_eq_true h2
    walk_at "r"
    refine x ?_ _ (Same.refl _)
    show Bt _ (.keep i)=none
    rw [hd,if_neg]
    intro z
    have z2:i < (ts.length:Int):=z.2
    omega
   ·have h2:¬ (vs.length:Int)<=i:=fun z=>h2 (decide_eq_true z)
    obtain ⟨j,rfl⟩:∃ j:Nat,i=(j:Nat):=⟨i.toNat,by omega⟩
    have hj:j < vs.length:=by omega
    have hj2:j < ts.length:=by omega
    walk_at "r"
    refine Ae qf' rfl ?_
    walk_at "r"
    refine Ae qa rfl ?_
    walk_at "r"
    refine Ae qp (Kn (O7 hj)) ?_
    refine q ts[j] ?_ _ _ (Same.refl _) (hc j _ _ (O7 hj) (O7 hj2))
    show Bt _ (.keep j)=_
    rw [hd,if_pos ⟨by omega,show ((j:Nat):Int) < ts.length by omega⟩]
    exact O7 hj2
  | note n nt w =>
   obtain ⟨nv,qa,hn⟩:=hs
   walk_at "r"
   refine Ae qa rfl ?_
   walk_at "r"
   refine Az (by decide +kernel) ?_
   walk_at "r"
   refine Ae qa rfl ?_
   walk_at "r"
   refine Az (by decide +kernel) ?_
   walk_at "r"
   refine Ae qa rfl ?_
   walk_at "r"
   refine Az (by decide +kernel) ?_
   walk_at "r"
   refine Ae qa rfl ?_
   walk_at "r"
   refine Az (by decide +kernel) ?_
   walk_at "r"
   refine Ae qa rfl ?_
   walk_at "r"
   refine Bw (by decide +kernel) ?_
   walk_at "r"
   refine Ae qa rfl ?_
   walk_at "r"
   refine ⟨w,rfl,fun H2 s2=>?_⟩
   walk_at "r"
   refine Ae (s2.tup qf) rfl ?_
   walk_at "r"
   refine ⟨t.wd,rfl,fun H3 s3=>?_⟩
   have s23:=s2.trans s3
   have hd:Bt t (.note n nt)=if B2 t.wd nt=true then some (.mk t.wd n t.ps) else none:=rfl
   walk_at "r"
   rw [Ci]
   refine Aw (fun h=>?_) (fun h=>?_)
   ·walk_at "r"
    refine x ?_ _ s23
    show Bt t (.note n nt)=none
    rw [hd,if_neg]
    intro z
    have e:=(Zdn hg.2).trans (Zdn z).symm
    rw [e] at h
    simp at h
   ·walk_at "r"
    have e:Db t.wd=Db w:=by simpa using (Eq.symm (by simpa using h:Db w=Db t.wd))
    have hb:B2 t.wd nt=true:=by rw [Zez,e,<- Zez];exact hg.2
    cases ht with
    | @mk af pf wd nv2 n2 vs ts qf' hn' qp hl hc =>
    refine Ae (s23.tup qf') rfl ?_
    walk_at "r"
    refine Ae (s23.tup qa) rfl ?_
    walk_at "r"
    refine Ae (s23.tup qf') rfl ?_
    walk_at "r"
    refine ⟨Bk,fun p6 h6=>?_⟩
    have s6:=s23.put (o:=.tup [.str wd,nv,.ref pf]) h6
    exact q (.mk wd n ts) (hd.trans (if_pos hb)) _ _ s6 (.mk (SqT.of Ad) (hn.same s6.t) (s6.tup qp) hl fun j u y h1 h2=>(hc j u y h1 h2).same s6)
  | chg u =>
   obtain ⟨v,qa,hv⟩:=hs
   walk_at "r"
   refine Ae qa rfl ?_
   walk_at "r"
   refine Az (by decide +kernel) ?_
   walk_at "r"
   refine Ae qa rfl ?_
   walk_at "r"
   refine Az (by decide +kernel) ?_
   walk_at "r"
   refine Ae qa rfl ?_
   walk_at "r"
   refine Az (by decide +kernel) ?_
   walk_at "r"
   refine Ae qa rfl ?_
   walk_at "r"
   refine Az (by decide +kernel) ?_
   walk_at "r"
   refine Ae qa rfl ?_
   walk_at "r"
   refine Az (by decide +kernel) ?_
   walk_at "r"
   refine Ae qa rfl ?_
   walk_at "r"
   refine Az (by decide +kernel) ?_
   walk_at "r"
   refine Ae qa rfl ?_
   exact q u rfl v _ (Same.refl _) hv
  | deed =>
   have qa:=hs
   walk_at "r"
   refine Ae qa rfl ?_
   walk_at "r"
   refine Az (by decide +kernel) ?_
   walk_at "r"
   refine Ae qa rfl ?_
   walk_at "r"
   refine Az (by decide +kernel) ?_
   walk_at "r"
   refine Ae qa rfl ?_
   walk_at "r"
   refine Az (by decide +kernel) ?_
   walk_at "r"
   refine Ae qa rfl ?_
   walk_at "r"
   refine Az (by decide +kernel) ?_
   walk_at "r"
   refine Ae qa rfl ?_
   walk_at "r"
   refine Az (by decide +kernel) ?_
   walk_at "r"
   refine Ae qa rfl ?_
   walk_at "r"
   refine Bw (by decide +kernel) ?_
   walk_at "r"
   exact q t rfl _ _ (Same.refl _) ht
noncomputable def Mt {α:Type}:List α->List α->List α
 | [a,b],[n]=>[a,b,n]
 | _,_=>[]
noncomputable def Nk {α:Type}:List α->List α->List α
 | [a],[b]=>[a,b]
 | _,_=>[]
noncomputable def Zau:List V->List V->List V
 | [a,b],[c]=>[a,b,.non,c]
 | _,_=>[]
noncomputable def Zg8 (K:O0)(c:Cs):Sp:=fun vs H Q _=>∃(a:Addr)(s:Sc),vs=[.ref a]/\ScAt K H a s/\s.good/\∀ x H',Same H H'->DdAt K c H' x s.dd->Q x H'
theorem Zpe:A2 ["_law_spec_here"] ["_law_spec_here"] (Am Kd):=by walk_at "sc"
theorem Zlv {c:Cs}{ag:Addr}{f:Addr}{fd:FuncData}(F:Fun K "_law_make" "_law_make" Kd f fd)(T:Txt K mg)(GA:Jg K ag)(MK_Put_1:B1 Aq P w K mg base 5 "Put" c.p ["self", "word", "note"] [] (fun vs _=>vs++[.non]) (F4 K c ag))(MK_Put_1_note:B1 Aq P w K mg base 5 "Put" c.p ["self", "word", "note"] ["note"] Mt (F4 K c ag))(MK_Put_2:B1 Aq P w K mg base 5 "Put" c.p ["self", "word", "note"] [] (fun vs _=>vs) (F4 K c ag))(MK_Fill:Ha Aq P w K mg base 7 "Fill" c.f ["self", "form"] (Zbu K c))(MK_Cut:Jx K mg "Cut" c.c)
  (MK_Wrap_1_at:B1 Aq P w K mg base 5 "Wrap" c.w ["self", "word", "note", "at"] ["at"] Zau (Fz K c ag)) (MK_Wrap_2:B1 Aq P w K mg base 5 "Wrap" c.w ["self", "word", "note", "at"] [] (fun vs _=>vs++[.int 0]) (Fz K c ag)) (MK_Wrap_3:B1 Aq P w K mg base 5 "Wrap" c.w ["self", "word", "note", "at"] [] (fun vs _=>vs) (Fz K c ag)) (MK_Keep_0:B1 Aq P w K mg base 1 "Keep" c.k ["self", "at"] [] (fun vs _=>vs++[.int 0]) (Fu K c)) (MK_Keep_0_at:B1 Aq P w K mg base 1 "Keep" c.k ["self", "at"] ["at"] Nk (Fu K c)) (MK_Keep_1:B1 Aq P w K mg base 1 "Keep" c.k ["self", "at"] [] (fun vs _=>vs) (Fu K c)) (MK_Note:Ha Aq P w K mg base 1 "Note" c.n ["self", "note"] (Zac K c)) (MK_Change:Ha Aq P w K mg base 7 "Change" c.g ["self", "form"] (Zcg K c)) (MK_Deed:Jx K mg "Deed" c.d):Ao P w K mg base Aq 9 f fd ["_law_spec_here"] (Zg8 K c):=by
 refine F.okq Zpe (fun vs H Q E h=>?_) (fun cdv A outer s H vs Q E hr h=>?_)
 ·obtain ⟨a,s,rfl,_⟩:=h
  rfl
 ·obtain ⟨a,sc,rfl,hs,hg,q⟩:=h
  refine ⟨_,Ag (Ar (Ay (A5 K hr.u200) (Ai K (qv 0) Ab) An (Ax _)) (Ag (Ar (E6 (F7 (Ai K (qv 0) Ab))) (Af (Ak (Gb MK_Put_1 hr.m C4 (Aa (Ai K (qv 0) Ab) Ac) (Ej)))) Av)
   (Ag (Ar (Ay (Eh K) (Ai K (qv 0) Ab) (Bv (Aa An (Aa An (Aa An Ac)))) (by rfl)) (Af (Ak (Gb MK_Put_1_note hr.m C4 (Aa (Ai K (qv 0) Ab) Ac) (Zct (Ai K (qv 0) Ab) Ej)))) Av)
   (Af (Ak (Gb MK_Put_2 hr.m C4 (Aa (Ai K (qv 0) Ab) (Aa (Ai K (qv 0) Ab) Ac)) (Ej)))))) Av)
   (Ag (Ar (Ay (A5 K hr.u200) (Ai K (qv 0) Ab) An (Ax _)) (Af (Ak (Ow MK_Fill hr.m C4 (Aa (Ai K (qv 0) Ab) Ac)))) Av)
   (Ag (Ar (Ay (A5 K hr.u200) (Ai K (qv 0) Ab) An (Ax _)) (Af (Ak (Ze6 MK_Cut))) Av)
   (Ag (Ar (Ay (A5 K hr.u200) (Ai K (qv 0) Ab) An (Ax _)) (Ag (Ar (E6 (F7 (Ai K (qv 0) Ab))) (Af (Ak (Gb MK_Wrap_1_at hr.m C4 (Aa (Ai K (qv 0) Ab) Ac) (Zct (Ai K (qv 0) Ab) Ej)))) Av)
   (Ag (Ar (Ay (A5 K hr.u200) (Ai K (qv 0) Ab) Ab (Ax _)) (Af (Ak (Gb MK_Wrap_2 hr.m C4 (Aa (Ai K (qv 0) Ab) (Aa (Ai K (qv 0) Ab) Ac)) (Ej)))) Av)
   (Af (Ak (Gb MK_Wrap_3 hr.m C4 (Aa (Ai K (qv 0) Ab) (Aa (Ai K (qv 0) Ab) (Aa (Ai K (qv 0) Ab) Ac))) (Ej)))))) Av)
   (Ag (Ar (Ay (A5 K hr.u200) (Ai K (qv 0) Ab) An (Ax _)) (Ag (Ar (Ay (A5 K hr.u200) (Ai K (qv 0) Ab) Ab (Ax _)) (Af (Ak (Zbb MK_Keep_0 hr.m C4 (Ej)))) Av)
   (Ag (Ar (Ay (A5 K hr.u200) (Ai K (qv 0) Ab) Ab (Ax _)) (Af (Ak (Zbb MK_Keep_0_at hr.m C4 (Zct (Ai K (qv 0) Ab) Ej)))) Av)
   (Af (Ak (Gb MK_Keep_1 hr.m C4 (Aa (Ai K (qv 0) Ab) Ac) (Ej)))))) Av)
   (Ag (Ar (Ay (A5 K hr.u200) (Ai K (qv 0) Ab) An (Ax _)) (Af (Ak (Ow MK_Note hr.m C4 (Aa (Ai K (qv 0) Ab) Ac)))) Av)
   (Ag (Ar (Ay (A5 K hr.u200) (Ai K (qv 0) Ab) An (Ax _)) (Af (Ak (Ow MK_Change hr.m C4 (Aa (Ai K (qv 0) Ab) Ac)))) Av)
   (Af (Ak (Ze6 MK_Deed))))))))),?_⟩
  cases sc with
  | put w n nt k =>
   obtain ⟨nv,qa,hn⟩:=hs
   obtain ⟨⟨hdn,hnb⟩,hk,hng⟩:=hg
   have hnt:=IsN.nt hn hdn
   have hw:=(Iy hk).2.2.2.2
   have key:∀ H1,Same H H1->∀ x dx,H1 x=none->H1 dx=none->dx≠x->F4 K c ag [.ref x,.str w,nv] (upd (upd H1 dx (.own x)) x (.ins c.p dx [])) (fun v H3=>v=.non/\Q (.ref x) H3) E0:=by
    intro H1 s1 a1 d1 h1 h2 h3
    have s3:=Same.made (C:=c.p) (fs:=[]) h1 h2 h3
    have s13:=s1.trans s3
    refine ⟨a1,d1,w,nv,nt,k,rfl,Ad,⟨_,.str _ (by omega)⟩,hnt.same s13,hk,hnb,hng,fun r H4 sb e4 hb4=>⟨rfl,?_⟩⟩
    have s4:=s1.trans (sb.made h1 h2)
    exact q _ _ s4 ⟨a1,d1,_,rfl,e4,.ref r,rfl,hb4.tr GA (hn.same s4.t)⟩
   walk_at "r"
   refine Ae qa rfl ?_
   walk_at "r"
   refine Bw (by decide +kernel) ?_
   walk_at "r"
   refine Ae qa rfl ?_
   walk_at "r"
   refine Aw (fun h=>?_) (fun h=>?_)
   ·have h:=of_decide_eq_true h
    subst h
    walk_at "r"
    unfold D5
    walk_at "r"
    refine Ae qa rfl ?_
    walk_at "r"
    exact key H (Same.refl _)
   walk_at "r"
   refine Ae qa rfl ?_
   walk_at "r"
   refine ⟨Bk,fun p1 h1=>?_⟩
   have s1:=Same.upd (o:=.lst [.str "num",.str "let",.str "rec"]) h1
   refine Eg (.inl (SqL.of Ad)) rfl rfl ?_
   walk_at "r"
   refine Aw (fun h=>?_) (fun h=>?_)
   ·walk_at "r"
    unfold D5
    walk_at "r"
    refine Ae (s1.tup qa) rfl ?_
    walk_at "r"
    refine Ae (s1.tup qa) rfl ?_
    walk_at "r"
    exact key _ s1
   ·walk_at "r"
    unfold D5
    walk_at "r"
    refine Ae (s1.tup qa) rfl ?_
    walk_at "r"
    refine Ae (s1.tup qa) rfl ?_
    walk_at "r"
    exact key _ s1
  | cut =>
   have qa:=hs
   walk_at "r"
   refine Ae qa rfl ?_
   walk_at "r"
   refine Az (by decide +kernel) ?_
   walk_at "r"
   refine Ae qa rfl ?_
   walk_at "r"
   refine Az (by decide +kernel) ?_
   walk_at "r"
   refine Ae qa rfl ?_
   walk_at "r"
   refine Bw (by decide +kernel) ?_
   walk_at "r"
   intro a1 d1 h1 h2 h3
   exact q _ _ (Same.made h1 h2 h3) ⟨a1,d1,[],rfl,Ad,rfl⟩
  | fill t =>
   obtain ⟨v,qa,hv⟩:=hs
   obtain ⟨⟨ok,sz,dp⟩,hng⟩:=hg
   walk_at "r"
   refine Ae qa rfl ?_
   walk_at "r"
   refine Az (by decide +kernel) ?_
   walk_at "r"
   refine Ae qa rfl ?_
   walk_at "r"
   refine Bw (by decide +kernel) ?_
   walk_at "r"
   unfold Nw
   walk_at "r"
   refine Ae qa rfl ?_
   walk_at "r"
   intro a1 d1 h1 h2 h3
   have s3:=Same.made (C:=c.f) (fs:=[]) h1 h2 h3
   refine ⟨a1,d1,v,t,rfl,Ad,hv.same s3,ok,by omega,hng,fun H4 sb e4=>⟨rfl,?_⟩⟩
   have s4:=sb.made h1 h2
   exact q _ _ s4 ⟨a1,d1,_,rfl,e4,v,rfl,hv.same s4⟩
  | wrap w n nt k i =>
   obtain ⟨nv,qa,hn⟩:=hs
   obtain ⟨⟨hdn,hnb⟩,hk,hik⟩:=hg
   have hnt:=IsN.nt hn hdn
   have hw:=(Iy hk).2.2.2.2
   have k3:=K3 hk
   have key:∀ H1,Same H H1->∀ x dx,H1 x=none->H1 dx=none->dx≠x->Fz K c ag [.ref x,.str w,nv,.int (i:Nat)] (upd (upd H1 dx (.own x)) x (.ins c.w dx [])) (fun v H3=>v=.non/\Q (.ref x) H3) E0:=by
    intro H1 s1 a1 d1 h1 h2 h3
    have s3:=Same.made (C:=c.w) (fs:=[]) h1 h2 h3
    have s13:=s1.trans s3
    refine ⟨a1,d1,w,nv,nt,k,i,rfl,Ad,⟨_,.str _ (by omega)⟩,hnt.same s13,hk,hnb,hik,⟨n,hn.same s13.t⟩,fun r H4 sb e4 hb4=>⟨rfl,?_⟩⟩
    have s4:=s1.trans (sb.made h1 h2)
    exact q _ _ s4 ⟨a1,d1,_,rfl,e4,.ref r,rfl,hb4.tr GA (hn.same s4.t),by show i < (Pa k gapT).length;rw [Rj];exact hik,by show (Pa k gapT).length<=3;rw [Rj];exact k3⟩
   walk_at "r"
   refine Ae qa rfl ?_
   walk_at "r"
   refine Az (by decide +kernel) ?_
   walk_at "r"
   refine Ae qa rfl ?_
   walk_at "r"
   refine Az (by decide +kernel) ?_
   walk_at "r"
   refine Ae qa rfl ?_
   walk_at "r"
   refine Az (by decide +kernel) ?_
   walk_at "r"
   refine Ae qa rfl ?_
   walk_at "r"
   refine Bw (by decide +kernel) ?_
   walk_at "r"
   refine Ae qa rfl ?_
   walk_at "r"
   refine Aw (fun h=>?_) (fun h=>?_)
   ·have h:=of_decide_eq_true h
    subst h
    walk_at "r"
    unfold D5
    walk_at "r"
    refine Ae qa rfl ?_
    walk_at "r"
    refine Ae qa rfl ?_
    walk_at "r"
    exact key H (Same.refl _)
   walk_at "r"
   refine Ae qa rfl ?_
   walk_at "r"
   refine Aw (fun h=>?_) (fun h=>?_)
   ·have h:=of_decide_eq_true h
    injection h with h
    obtain rfl:i=0:=by omega
    walk_at "r"
    unfold D5
    walk_at "r"
    refine Ae qa rfl ?_
    walk_at "r"
    refine Ae qa rfl ?_
    walk_at "r"
    exact key H (Same.refl _)
   ·walk_at "r"
    unfold D5
    walk_at "r"
    refine Ae qa rfl ?_
    walk_at "r"
    refine Ae qa rfl ?_
    walk_at "r"
    refine Ae qa rfl ?_
    walk_at "r"
    exact key H (Same.refl _)
  | keep i =>
   have qa:=hs
   have key:∀ x dx,H x=none->H dx=none->dx≠x->Fu K c [.ref x,.int i] (upd (upd H dx (.own x)) x (.ins c.k dx [])) (fun v H3=>v=.non/\Q (.ref x) H3) E0:=by
    intro a1 d1 h1 h2 h3
    refine ⟨a1,d1,_,rfl,Ad,rfl,?_⟩
    refine q _ _ ((Same.made h1 h2 h3).over h1) ⟨a1,d1,_,rfl,Ad,rfl⟩
   walk_at "r"
   refine Ae qa rfl ?_
   walk_at "r"
   refine Az (by decide +kernel) ?_
   walk_at "r"
   refine Ae qa rfl ?_
   walk_at "r"
   refine Az (by decide +kernel) ?_
   walk_at "r"
   refine Ae qa rfl ?_
   walk_at "r"
   refine Az (by decide +kernel) ?_
   walk_at "r"
   refine Ae qa rfl ?_
   walk_at "r"
   refine Az (by decide +kernel) ?_
   walk_at "r"
   refine Ae qa rfl ?_
   walk_at "r"
   refine Bw (by decide +kernel) ?_
   walk_at "r"
   refine Ae qa rfl ?_
   walk_at "r"
   refine Aw (fun h=>?_) (fun h=>?_)
   ·have h:=of_decide_eq_true h
    injection h with h
    subst h
    walk_at "r"
    unfold D5
    walk_at "r"
    exact key
   walk_at "r"
   refine Ae qa rfl ?_
   walk_at "r"
   refine Aw (fun h=>?_) (fun h=>?_)
   ·walk_at "r"
    unfold D5
    walk_at "r"
    refine Ae qa rfl ?_
    walk_at "r"
    exact key
   ·walk_at "r"
    unfold D5
    walk_at "r"
    refine Ae qa rfl ?_
    walk_at "r"
    exact key
  | note n nt w =>
   obtain ⟨nv,qa,hn⟩:=hs
   walk_at "r"
   refine Ae qa rfl ?_
   walk_at "r"
   refine Az (by decide +kernel) ?_
   walk_at "r"
   refine Ae qa rfl ?_
   walk_at "r"
   refine Az (by decide +kernel) ?_
   walk_at "r"
   refine Ae qa rfl ?_
   walk_at "r"
   refine Az (by decide +kernel) ?_
   walk_at "r"
   refine Ae qa rfl ?_
   walk_at "r"
   refine Az (by decide +kernel) ?_
   walk_at "r"
   refine Ae qa rfl ?_
   walk_at "r"
   refine Az (by decide +kernel) ?_
   walk_at "r"
   refine Ae qa rfl ?_
   walk_at "r"
   refine Bw (by decide +kernel) ?_
   walk_at "r"
   unfold Nw
   walk_at "r"
   refine Ae qa rfl ?_
   walk_at "r"
   intro a1 d1 h1 h2 h3
   refine ⟨a1,d1,_,rfl,Ad,rfl,?_⟩
   have s4:=(Same.made (C:=c.n) (fs:=[]) h1 h2 h3).over (o:=.ins c.n d1 [("note",nv)]) h1
   exact q _ _ s4 ⟨a1,d1,_,rfl,Ad,nv,rfl,hn.same s4.t,hg.1⟩
  | chg t =>
   obtain ⟨v,qa,hv⟩:=hs
   obtain ⟨ok,sz,dp⟩:=hg
   walk_at "r"
   refine Ae qa rfl ?_
   walk_at "r"
   refine Az (by decide +kernel) ?_
   walk_at "r"
   refine Ae qa rfl ?_
   walk_at "r"
   refine Az (by decide +kernel) ?_
   walk_at "r"
   refine Ae qa rfl ?_
   walk_at "r"
   refine Az (by decide +kernel) ?_
   walk_at "r"
   refine Ae qa rfl ?_
   walk_at "r"
   refine Az (by decide +kernel) ?_
   walk_at "r"
   refine Ae qa rfl ?_
   walk_at "r"
   refine Az (by decide +kernel) ?_
   walk_at "r"
   refine Ae qa rfl ?_
   walk_at "r"
   refine Az (by decide +kernel) ?_
   walk_at "r"
   refine Ae qa rfl ?_
   walk_at "r"
   refine Bw (by decide +kernel) ?_
   walk_at "r"
   unfold Nw
   walk_at "r"
   refine Ae qa rfl ?_
   walk_at "r"
   intro a1 d1 h1 h2 h3
   have s3:=Same.made (C:=c.g) (fs:=[]) h1 h2 h3
   refine ⟨a1,d1,v,t,rfl,Ad,hv.same s3,ok,by omega,fun H4 sb e4=>⟨rfl,?_⟩⟩
   have s4:=sb.made h1 h2
   exact q _ _ s4 ⟨a1,d1,_,rfl,e4,v,rfl,hv.same s4⟩
  | deed =>
   have qa:=hs
   walk_at "r"
   refine Ae qa rfl ?_
   walk_at "r"
   refine Az (by decide +kernel) ?_
   walk_at "r"
   refine Ae qa rfl ?_
   walk_at "r"
   refine Az (by decide +kernel) ?_
   walk_at "r"
   refine Ae qa rfl ?_
   walk_at "r"
   refine Az (by decide +kernel) ?_
   walk_at "r"
   refine Ae qa rfl ?_
   walk_at "r"
   refine Az (by decide +kernel) ?_
   walk_at "r"
   refine Ae qa rfl ?_
   walk_at "r"
   refine Az (by decide +kernel) ?_
   walk_at "r"
   refine Ae qa rfl ?_
   walk_at "r"
   refine Az (by decide +kernel) ?_
   walk_at "r"
   refine Ae qa rfl ?_
   walk_at "r"
   refine Az (by decide +kernel) ?_
   walk_at "r"
   intro a1 d1 h1 h2 h3
   exact q _ _ (Same.made h1 h2 h3) ⟨a1,d1,[],rfl,Ad,rfl⟩
noncomputable def Zfv (K:O0)(ND NP:Addr):Sp:=fun vs H Q _=>∃(a C:Addr)(od:Option Addr)(t:Str),vs=[.ref a]/\H a=some (Dk a (.ref C) od)/\(∀ d,od=some d->∃ fs,H d=some (.xd fs))/\((C=ND/\t = "deed")\/(C=NP/\t = "place"))/\∀(p:Addr)(H':Hp),Same H H'->H' p=some (.lst [.bl true,.str t])->Q (.ref p) H'
theorem Zf4:A2 ["_law_e", "_law_found"] ["_law_e"] (Am J8):=by walk_at "sc"
theorem Zdf {K:O0}{C:Addr}:Po K (.ref C) (.ref C)=some true:=by unfold Po;rw [if_pos (by simp)]
structure KdC (K:O0)(mg:Str->Option Value)(NF ND NP:Addr):Prop where
 nD:Jn K ND
 nP:Jn K NP
 gF:mg "NoForm" = some (.ref NF)
 gD:mg "NoDeed" = some (.ref ND)
 gP:mg "NoPlace" = some (.ref NP)
 vD:Po K (.ref ND) (.type "ValueError")=some true
 vP:Po K (.ref NP) (.type "ValueError")=some true
 dF:Po K (.ref ND) (.ref NF)=some false
 dP:Po K (.ref ND) (.ref NP)=some false
 pF:Po K (.ref NP) (.ref NF)=some false
 pD:Po K (.ref NP) (.ref ND)=some false
theorem Zj4 {N_NoForm N_NoDeed N_NoPlace:Addr}{f:Addr}{fd:FuncData}(F:Fun K "_law_class" "_law_class" J8 f fd)(T:Txt K mg)(D:KdC K mg N_NoForm N_NoDeed N_NoPlace):Hv P w K mg base 1 f fd ["_law_e"] (Zfv K N_NoDeed N_NoPlace):=by
 have G_NoForm:=D.gF
 have G_NoDeed:=D.gD
 have G_NoPlace:=D.gP
 refine F.okN Zf4 (fun vs H Q E h=>?_) (fun cdv A outer s H vs Q E hr h=>?_)
 ·obtain ⟨a,C,od,t,rfl,_⟩:=h
  rfl
 ·obtain ⟨a,C,od,t,rfl,e,hd,hc,q⟩:=h
  refine ⟨_,Ag (A3 1 Zf4 (Bv (Aa (Bd (Zm7 (K:=K) "ValueError") (by rfl) T.isinstance (by decide +kernel) (Aa (qv 0) (Aa (Eu (v:=.ty "ValueError") (by rfl) T.ValueError (by decide +kernel) rfl) Ac))) Ac)))
   (Ag (Ar (Cb (Bd (Mz (K:=K)) (by rfl) T.isinstance (by decide +kernel) (Aa (qv 0) (Aa (Mp (v:=.ref N_NoForm) (by rfl) G_NoForm rfl) Ac)))) (Af (Ce (Cv K Pz Qr Qs Dn (qv 1) (Aa An Ac)))) Av)
   (Ag (Ar (Cb (Bd (Mz (K:=K)) (by rfl) T.isinstance (by decide +kernel) (Aa (qv 0) (Aa (Mp (v:=.ref N_NoDeed) (by rfl) G_NoDeed rfl) Ac)))) (Af (Ce (Cv K Pz Qr Qs Dn (qv 1) (Aa An Ac)))) Av)
   (Ag (Ar (Cb (Bd (Mz (K:=K)) (by rfl) T.isinstance (by decide +kernel) (Aa (qv 0) (Aa (Mp (v:=.ref N_NoPlace) (by rfl) G_NoPlace rfl) Ac)))) (Af (Ce (Cv K Pz Qr Qs Dn (qv 1) (Aa An Ac)))) Av)
   (Af (Ak (qv 1)))))),?_⟩
  walk_at "r"
  rcases hc with ⟨rfl,rfl⟩ | ⟨rfl,rfl⟩
  ·refine ⟨a,_,od,_,rfl,e,hd,D.nD,D.vD,?_⟩
   walk_at "r"
   refine ⟨Ck,fun p hp=>?_⟩
   have s1:=Same.upd (o:=.lst [.bl true]) hp
   have e1:upd H p (.lst [.bl true]) p=some (.lst [.bl true]):=Ad
   have q1:∀(H':Hp),Same H H'->H' p=some (.lst [.bl true,.str "deed"])->Q (.ref p) H':=fun H' h=>q p H' h
   have hd1:∀ d,od=some d->∃ fs,upd H p (.lst [.bl true]) d=some (.xd fs):=fun d h=>by obtain ⟨fs,z⟩:=hd d h;exact ⟨fs,s1 _ _ z⟩
   walk_at "r"
   refine ⟨a,_,_,od,false,rfl,s1 _ _ e,hd1,D.nD,D.dF,?_⟩
   walk_at "r"
   refine ⟨a,_,_,od,true,rfl,s1 _ _ e,hd1,D.nD,Zdf,?_⟩
   walk_at "r"
   refine B3 (SqL.of e1) ?_
   walk_at "r"
   refine Du e1 (by decide) ?_
   have s2:Same H (upd (upd H p (.lst [.bl true])) p (.lst ([.bl true]++[.str "deed"]))):=s1.over hp
   have hd2:∀ d,od=some d->∃ fs,upd (upd H p (.lst [.bl true])) p (.lst ([.bl true]++[.str "deed"])) d=some (.xd fs):=fun d h=>by obtain ⟨fs,z⟩:=hd d h;exact ⟨fs,s2 _ _ z⟩
   walk_at "r"
   refine ⟨a,_,_,od,false,rfl,s2 _ _ e,hd2,D.nD,D.dP,?_⟩
   walk_at "r"
   exact q1 _ s2 Ad
  ·refine ⟨a,_,od,_,rfl,e,hd,D.nP,D.vP,?_⟩
   walk_at "r"
   refine ⟨Ck,fun p hp=>?_⟩
   have s1:=Same.upd (o:=.lst [.bl true]) hp
   have e1:upd H p (.lst [.bl true]) p=some (.lst [.bl true]):=Ad
   have q1:∀(H':Hp),Same H H'->H' p=some (.lst [.bl true,.str "place"])->Q (.ref p) H':=fun H' h=>q p H' h
   have hd1:∀ d,od=some d->∃ fs,upd H p (.lst [.bl true]) d=some (.xd fs):=fun d h=>by obtain ⟨fs,z⟩:=hd d h;exact ⟨fs,s1 _ _ z⟩
   walk_at "r"
   refine ⟨a,_,_,od,false,rfl,s1 _ _ e,hd1,D.nP,D.pF,?_⟩
   walk_at "r"
   refine ⟨a,_,_,od,false,rfl,s1 _ _ e,hd1,D.nP,D.pD,?_⟩
   walk_at "r"
   refine ⟨a,_,_,od,true,rfl,s1 _ _ e,hd1,D.nP,Zdf,?_⟩
   walk_at "r"
   refine B3 (SqL.of e1) ?_
   walk_at "r"
   refine Du e1 (by decide) ?_
   have s2:Same H (upd (upd H p (.lst [.bl true])) p (.lst ([.bl true]++[.str "place"]))):=s1.over hp
   have hd2:∀ d,od=some d->∃ fs,upd (upd H p (.lst [.bl true])) p (.lst ([.bl true]++[.str "place"])) d=some (.xd fs):=fun d h=>by obtain ⟨fs,z⟩:=hd d h;exact ⟨fs,s2 _ _ z⟩
   walk_at "r"
   exact q1 _ s2 Ad
noncomputable def Zhe (K:O0)(ND NP:Addr):Sp:=fun vs H Q _=>∃(a C:Addr)(od:Option Addr)(v:V),vs=[.ref a]/\H a=some (Dk a (.ref C) od)/\((C=ND/\od=none/\v=.non)\/(C=NP/\∃ d,od=some d/\H d=some (.xd [("place",v)])))/\Q v H
theorem Zkg:A2 ["_law_e"] ["_law_e"] (Am Ke):=by walk_at "sc"
theorem Zme {N_NoForm N_NoDeed N_NoPlace:Addr}{f:Addr}{fd:FuncData}(F:Fun K "_law_place_of" "_law_place_of" Ke f fd)(T:Txt K mg)(D:KdC K mg N_NoForm N_NoDeed N_NoPlace)(xC:ExC K N_NoPlace)(nA:NoAttr K N_NoPlace "place"):Hv P w K mg base 1 f fd ["_law_e"] (Zhe K N_NoDeed N_NoPlace):=by
 have G_NoPlace:=D.gP
 refine F.okN Zkg (fun vs H Q E h=>?_) (fun cdv A outer s H vs Q E hr h=>?_)
 ·obtain ⟨a,C,od,v,rfl,_⟩:=h
  rfl
 ·obtain ⟨a,C,od,v,rfl,e,hc,q⟩:=h
  refine ⟨_,Ag (Ar (Cb (Bd (Mz (K:=K)) (by rfl) T.isinstance (by decide +kernel) (Aa (qv 0) (Aa (Mp (v:=.ref N_NoPlace) (by rfl) G_NoPlace rfl) Ac)))) (Af (Ak (Zlf K (qv 0)))) Av)
   (Af (Ak C0)),?_⟩
  walk_at "r"
  rcases hc with ⟨rfl,rfl,rfl⟩ | ⟨rfl,d,rfl,hd⟩
  ·refine ⟨a,_,_,none,false,rfl,e,(fun d h=>nomatch h),D.nD,D.dP,?_⟩
   walk_at "r"
   exact q
  ·refine ⟨a,_,_,some d,true,rfl,e,(fun d h=>by cases h;exact ⟨_,hd⟩),D.nP,Zdf,?_⟩
   walk_at "r"
   exact ⟨_,rfl,a,_,d,_,v,rfl,e,hd,xC,nA,rfl,q⟩
noncomputable def TldAt (K:O0)(H:Hp)(r:Addr):Res->Prop
 | .tree t=>∃ v,SqT K H r [.str "tree",v]/\TrAt K H v t
 | .deed=>∃ p,SqT K H r [.str "no",.ref p,.non]/\H p=some (.lst [.bl true,.str "deed"])
 | .place pl far=>∃ p q,SqT K H r [.str "no",.ref p,.ref q]/\H p=some (.lst [.bl true,.str "place"])/\SqT K H q (C5 pl far [])
theorem TldAt.same {K:O0}{H H':Hp}{r:Addr}{x:Res}(h:TldAt K H r x)(e:Same H H'):TldAt K H' r x:=by
 cases x with
 | tree t=>obtain ⟨v,h1,h2⟩:=h;exact ⟨v,e.tup h1,h2.same e⟩
 | deed=>obtain ⟨p,h1,h2⟩:=h;exact ⟨p,e.tup h1,e _ _ h2⟩
 | place pl far=>obtain ⟨p,q,h1,h2,h3⟩:=h;exact ⟨p,q,e.tup h1,e _ _ h2,e.tup h3⟩
noncomputable def Ze3 (K:O0)(c:Cs):Sp:=fun vs H Q _=>∃(v:V)(p:Addr)(t:Tr)(r:Rw)(res:Res),vs=[v,.ref p]/\TrAt K H v t/\TrOk t/\Zed K c H p r/\Bh t r res/\(∀ x∈r,x.2.ok)/\t.size+4 * r.length<=1000 /\
 ∀(a:Addr)(H':Hp),Same H H'->TldAt K H' a res->Q (.ref a) H'
theorem sc_law_told:A2 ["_law_tree_here", "_law_row", "_law_told_here", "_law_e"] ["_law_tree_here", "_law_row"] (Am Kv):=by walk_at "sc"
theorem Zr3 {c:Cs}{N_NoDeed N_NoPlace N_GapError:Addr}{f:Addr}{fd:FuncData}(F:Fun K "_law_told" "_law_told" Kv f fd)(T:Txt K mg)(C_behind:E8 P w K mg base 8 "behind" ["tree", "row"] (Zha K c N_NoDeed N_NoPlace))(C__law_class:Ma P w K mg base 1 "_law_class" ["_law_e"] (Zfv K N_NoDeed N_NoPlace))(C__law_place_of:Ma P w K mg base 1 "_law_place_of" ["_law_e"] (Zhe K N_NoDeed N_NoPlace))
  (X_GapError:Nn K N_GapError) (G_GapError:mg "GapError" = some (.ref N_GapError)) (sD:Pw K (.ref N_NoDeed) (.ref N_GapError)=some true) (sP:Pw K (.ref N_NoPlace) (.ref N_GapError)=some true):Ao P w K mg base Aq 9 f fd ["_law_tree_here", "_law_row"] (Ze3 K c):=by
 refine F.okq sc_law_told (fun vs H Q E h=>?_) (fun cdv A outer s H vs Q E hr h=>?_)
 ·obtain ⟨v,p,t,r,res,rfl,_⟩:=h
  rfl
 ·obtain ⟨v,p,t,r,res,rfl,ht,okt,hr',hbh,hok,hz,q⟩:=h
  refine ⟨_,Ag (A3 2 sc_law_told C0)
   (Ag (Zqn (i:=3) sc_law_told.nd rfl rfl X_GapError G_GapError rfl rfl (Zip (i:=2) sc_law_told.nd rfl (Or.inl rfl) (Zim (fun _=>An) (Zh5 C_behind hr.m (fun _=>Aa (qv 0) (Aa (qv 1) Ac))))) (fun _ _=>Af (A3 2 sc_law_told (A0 (Aa An (Aa (Zf8 C__law_class (RoomN.mark (RoomN.mono (Room.n hr) (by decide)) _) (Aa (qv 3) Ac)) (Aa (Zf8 C__law_place_of (RoomN.mark (RoomN.mono (Room.n hr) (by decide)) _) (Aa (qv 3) Ac)) Ac)))))))
   (Af (Ak (qv 2)))),?_⟩
  walk_at "r"
  refine ⟨_,rfl,_,rfl,?_⟩
  refine ⟨v,p,t,r,res,rfl,ht,okt,hr',hbh,hok,hz,fun u hu v' H1 s1 hv1=>?_,fun hu H1 s1=>⟨⟨N_NoDeed,rfl,sD⟩,fun a1 ha1=>?_⟩,fun pl far hu q1 H1 d s1 hq1 hd1=>⟨⟨N_NoPlace,rfl,sP⟩,fun a1 ha1=>?_⟩⟩
  ·subst hu
   intro p1 h1
   have s2:=Same.upd (o:=.tup [.str "tree",v']) h1
   walk_at "r"
   exact q p1 _ (s1.trans s2) ⟨v',SqT.of Ad,hv1.same s2⟩
  ·subst hu
   walk_at "r"
   refine ⟨a1,N_NoDeed,none, "deed",rfl,Ad,(fun d hd=>nomatch hd),.inl ⟨rfl,rfl⟩,fun p1 H2 s2 f1=>?_⟩
   walk_at "r"
   refine ⟨a1,N_NoDeed,none,.non,rfl,s2 _ _ Ad,.inl ⟨rfl,rfl,rfl⟩,?_⟩
   walk_at "r"
   refine ⟨Bk,fun p3 h3=>?_⟩
   have s3:=Same.upd (o:=.tup [.str "no",.ref p1,.non]) h3
   walk_at "r"
   dsimp only [Ends.gone]
   walk_at "r"
   exact q p3 _ (s1.trans ((Same.upd ha1).trans (s2.trans s3))) ⟨p1,SqT.of Ad,s3 _ _ f1⟩
  ·subst hu
   have sx:=Same.upd (o:=Dk a1 (.ref N_NoPlace) (some d)) ha1
   walk_at "r"
   refine ⟨a1,N_NoPlace,some d, "place",rfl,Ad,(fun d' h=>by cases h;exact ⟨_,sx _ _ hd1⟩),.inr ⟨rfl,rfl⟩,fun p1 H2 s2 f1=>?_⟩
   walk_at "r"
   refine ⟨a1,N_NoPlace,some d,.ref q1,rfl,s2 _ _ Ad,.inr ⟨rfl,d,rfl,s2 _ _ (sx _ _ hd1)⟩,?_⟩
   walk_at "r"
   refine ⟨Bk,fun p3 h3=>?_⟩
   have s3:=Same.upd (o:=.tup [.str "no",.ref p1,.ref q1]) h3
   walk_at "r"
   dsimp only [Ends.gone]
   walk_at "r"
   have sa:=sx.trans (s2.trans s3)
   exact q p3 _ (s1.trans sa) ⟨p1,q1,SqT.of Ad,s3 _ _ f1,sa.tup hq1⟩
noncomputable def Zgg (K:O0):Sp:=fun vs H Q _=>∃(p:Addr)(pl:List Nat)(fv:V)(t:Tr)(c:Int),vs=[.ref p,fv,.int c]/\SqT K H p (Bm pl)/\pl.length<=1000/\TrAt K H fv t/\∀(far:Int)(r:Addr)(H':Hp),Same H H'->(far < 0\/(t.ps.length:Int)<=far)->SqT K H' r (C5 pl far [])->Q (.ref r) H'
theorem Zr4:A2 ["_law_place", "_law_form_here", "_law_cell_here"] ["_law_place", "_law_form_here", "_law_cell_here"] (Am Ll):=by walk_at "sc"
theorem Zmg {f:Addr}{fd:FuncData}(F:Fun K "_law_bad" "_law_bad" Ll f fd)(T:Txt K mg):Ao P w K mg base Aq 1 f fd ["_law_place", "_law_form_here", "_law_cell_here"] (Zgg K):=by
 refine F.okq Zr4 (fun vs H Q E h=>?_) (fun cdv A outer s H vs Q E hr h=>?_)
 ·obtain ⟨p,pl,fv,t,c,rfl,_⟩:=h
  rfl
 ·obtain ⟨p,pl,fv,t,c,rfl,hp,hpl,ht,q⟩:=h
  refine ⟨_,Ag (Ar (Ay (A5 K hr.u200) (Ah A6 (Ah B8 (qv 2) Ab) Ab) Ab (Ax _)) (Af (Ak (Ah (Bj K) (qv 0) (A0 (Aa (Ah (Bj K) (Bd (Cp K) (by rfl) T.len (by decide +kernel) (Aa (Ai K (qv 1) Ab) Ac)) (Ah A6 (Ah B8 (qv 2) Ab) Ab)) Ac))))) Av)
   (Af (Ak (Ah (Bj K) (qv 0) (A0 (Aa (Ah Jl (Fq Fa Ab) (Ah A6 (Ah B8 (qv 2) Ab) Ab)) Ac))))),?_⟩
  have bg:=Ct
  walk_at "r"
  refine Aw (fun h=>?_) (fun h=>?_)
  ·walk_at "r"
   cases ht with
   | @mk af pf wd nv n vs ts qf hn qp hl hc =>
   refine Ae qf rfl ?_
   walk_at "r"
   refine Fl qp ?_
   walk_at "r"
   refine ⟨Ck,fun p1 h1=>?_⟩
   have s1:=Same.upd (o:=.tup [.int ((vs.length:Nat)+c / 18 % 5)]) h1
   refine Ho (s1.tup hp) (SqT.of Ad) (by rw [Ee];show pl.length+1<=_;omega) fun r1 H2 s2 q2=>?_
   exact q _ r1 H2 (s1.trans s2) (.inr (by show (ts.length:Int)<=_;omega)) q2
  ·walk_at "r"
   refine ⟨Ck,fun p1 h1=>?_⟩
   have s1:=Same.upd (o:=.tup [.int (-1 - c / 18 % 3)]) h1
   refine Ho (s1.tup hp) (SqT.of Ad) (by rw [Ee];show pl.length+1<=_;omega) fun r1 H2 s2 q2=>?_
   exact q _ r1 H2 (s1.trans s2) (.inl (by omega)) q2
theorem Zfk (ns:List Int)(j k:Nat):∃ ms:List Int,B9 (ns.map V.int) (some (j:Int)) (some (k:Int))=ms.map V.int/\ms.length<=k - j:=by
 refine ⟨(ns.drop j).take (k - j),?_,?_⟩
 ·rw [Zso,List.map_take,List.map_drop]
 ·rw [Qj]
  omega
theorem two_rows {t:Tr}{w:Str}(hw:A7 w=true):Bh t [(([],none),.wrap (Ev "fn" (.flat (.str w)) 1) 0),(([],none),.keep 0)] (.tree t):=by
 refine .ok (.nil t) (g:=.mk "fn" (.flat (.str w)) [t]) rfl ?_
 rw [Hw]
 refine .ok (.nil _) (g:=t) rfl ?_
 rw [Hw]
 exact .nil t
theorem Znb {w:Str}(hw:A7 w=true):Ja "fn" (.flat (.str w)) (.fl (.str w)):=⟨.fl (show w.length<=1000 by have:=(Hs hw).2;omega),hw⟩
theorem Zgs:Bo ("fn" : Str)=some 1:=by decide +kernel
noncomputable def RowJ (K:O0)(c:Cs)(H:Hp)(t:Tr)(D:Addr)(n:Nat)(res:Res)(H':Hp):Prop:=∃ vs rw,H' D=some (.lst vs)/\Al (PairAt K c H') vs rw/\Bh t rw res/\rw.length<=n/\(∀ x∈rw,x.2.ok)/\Same H H'
theorem RowJ.same {K:O0}{c:Cs}{H H1 H2:Hp}{t:Tr}{D:Addr}{n:Nat}{res:Res}(h:RowJ K c H t D n res H1)(e:Same H1 H2):RowJ K c H t D n res H2:=by
 obtain ⟨vs,rw,h1,h2,h3,h4,h5,h6⟩:=h
 exact ⟨vs,rw,e _ _ h1,h2.mono (PairAt.same e),h3,h4,h5,h6.trans e⟩
theorem RowJ.mono {K:O0}{c:Cs}{H H1:Hp}{t:Tr}{D:Addr}{n n':Nat}{res:Res}(h:RowJ K c H t D n res H1)(e:n<=n'):RowJ K c H t D n' res H1:=by
 obtain ⟨vs,rw,h1,h2,h3,h4,h5,h6⟩:=h
 exact ⟨vs,rw,h1,h2,h3,by omega,h5,h6⟩
noncomputable def N5 (vs:List V):Prop:=∀ v∈vs,∃ r,v=.ref r
theorem Ze4 {K:O0}{c:Cs}{H:Hp}{vs:List V}{rw:Rw}(h:Al (PairAt K c H) vs rw):N5 vs:=fun v hv=>by
 obtain ⟨j,hj⟩:=List.getElem?_of_mem hv
 obtain ⟨x,_,a,_,_,e,_⟩:=h.get hj
 exact ⟨a,e⟩
theorem TldAt.off {K:O0}{H:Hp}{r D:Addr}{x:Res}{vs:List V}{o:HO}(h:TldAt K H r x)(hD:H D=some (.lst vs))(hr:N5 vs):TldAt K (upd H D o) r x:=by
 have st:=SameT.set (o:=o) hD
 have ne:∀(p:Addr)(w:V),H p=some (.lst [.bl true,w])->p≠D:=fun p w e z=>by
  rw [z,hD] at e
  injection e with e
  injection e with e
  obtain ⟨_,e2⟩:=hr (.bl true) (by rw [e];simp)
  cases e2
 cases x with
 | tree t=>obtain ⟨v,h1,h2⟩:=h;exact ⟨v,st.tup h1,h2.sameT st⟩
 | deed=>obtain ⟨p,h1,h2⟩:=h;exact ⟨p,st.tup h1,by rw [Au (ne p _ h2)];exact h2⟩
 | place pl far=>obtain ⟨p,q,h1,h2,h3⟩:=h;exact ⟨p,q,st.tup h1,by rw [Au (ne p _ h2)];exact h2,st.tup h3⟩
theorem RowJ.push {K:O0}{c:Cs}{H H1:Hp}{t:Tr}{D:Addr}{n:Nat}{res res':Res}{v:V}{x:Jd×Dd}(h:RowJ K c H t D n res H1)(hD:H D=none)(hp:PairAt K c H1 v x)(hx:x.2.ok)(hb:∀ rw,Bh t rw res->Bh t (rw++[x]) res'):∃ vs,H1 D=some (.lst vs)/\vs.length<=n/\N5 vs/\RowJ K c H t D (n+1) res' (upd H1 D (.lst (vs++[v]))):=by
 obtain ⟨vs,rw,h1,h2,h3,h4,h5,h6⟩:=h
 have hl:=h2.1
 refine ⟨vs,h1,by omega,Ze4 h2,vs++[v],rw++[x],Ad,(h2.snoc hp).mono (PairAt.off h1),hb rw h3,by rw [Pm];show rw.length+1<=_;omega,fun y hy=>?_,h6.over hD⟩
 rcases P4.mp hy with hy | hy
 ·exact h5 y hy
 ·rw [P8.mp hy];exact hx
noncomputable def AftAt (K:O0)(H:Hp)(v:V):Option Tr->Prop
 | some u=>TrAt K H v u
 | none=>v=.non
theorem AftAt.non {K:O0}{H:Hp}{v:V}{o:Option Tr}(h:AftAt K H v o):decide (v=.non)=decide (o=none):=by
 cases o with
 | none=>have h:v=.non:=h;subst h;rfl
 | some u=>obtain ⟨a,p,n,rfl,_⟩:=Gz h;rfl
theorem Zur {K:O0}{vs:List V}{H:Hp}{Q:VK}{E:XK}(h:∃(a:Addr)(s:Sc)(fv:V)(t:Tr),vs=[.ref a,fv]/\ScAt K H a s/\s.good/\TrAt K H fv t/\TrOk t/\∀ v H',Same H H'->AftAt K H' v (Bt t s.dd)->Q v H'):Zb2 K vs H Q E:=by
 obtain ⟨a,s,fv,t,h1,h2,h3,h4,h5,q⟩:=h
 exact ⟨a,s,fv,t,h1,h2,h3,h4,h5,fun u hu v H' s1 hv=>q v H' s1 (by rw [hu];exact hv),fun hu H' s1=>q .non H' s1 (by rw [hu];rfl)⟩
noncomputable def DueJ (K:O0)(H:Hp)(due:V)(th:Tr)(res:Res):Prop:=(due=.non/\res=.tree th)\/∃ r,due=.ref r/\TldAt K H r res/\∀ u,res≠.tree u
theorem DueJ.same {K:O0}{H H':Hp}{due:V}{th:Tr}{res:Res}(h:DueJ K H due th res)(e:Same H H'):DueJ K H' due th res:=by
 rcases h with h | ⟨r,h1,h2,h3⟩
 ·exact .inl h
 ·exact .inr ⟨r,h1,h2.same e,h3⟩
theorem DueJ.off {K:O0}{H:Hp}{due:V}{th:Tr}{res:Res}{D:Addr}{vs:List V}{o:HO}(h:DueJ K H due th res)(hD:H D=some (.lst vs))(hr:N5 vs):DueJ K (upd H D o) due th res:=by
 rcases h with h | ⟨r,h1,h2,h3⟩
 ·exact .inl h
 ·exact .inr ⟨r,h1,h2.off hD hr,h3⟩
noncomputable def Zmk (xs:List V):Dt:=.tup (xs.map Dt.flat)
noncomputable def noD (t:Str):Dt:=.lst [.flat (.bl true),.flat (.str t)]
noncomputable def resD:Res->Dt
 | .tree t=>.tup [.flat (.str "tree"),trD t]
 | .deed=>.tup [.flat (.str "no"),noD "deed",.flat .non]
 | .place pl far=>.tup [.flat (.str "no"),noD "place",Zmk (C5 pl far [])]
theorem Zgl {K:O0}{H:Hp}{p:Addr}{t:Str}{n:Nat}(h:H p=some (.lst [.bl true,.str t])):IsD K H (n+1) (.ref p) (noD t):=by
 refine .lst (SqL.of h) rfl fun j v d h1 h2=>?_
 match j,h1,h2 with
 | 0,h1,h2=>cases h1;cases h2;exact .flat rfl
 | 1,h1,h2=>cases h1;cases h2;exact .flat rfl
theorem Ziw {pl:List Nat}{far:Int}{v:V}(h:v∈C5 pl far []):Cy v=true:=by
 unfold C5 Bm at h
 rcases P4.mp h with h | h
 ·obtain ⟨k,_,rfl⟩:=Sk.mp h;rfl
 ·rw [P8.mp h];rfl
theorem Jf {K:O0}{H:Hp}{r:Addr}{x:Res}{n:Nat}(h:TldAt K H r x)(hd:∀ t,x=.tree t->2 * Bf t<=n)(hn:1<=n):IsD K H (n+1) (.ref r) (resD x):=by
 obtain ⟨m,rfl⟩:∃ m,n=m+1:=⟨n - 1,by omega⟩
 cases x with
 | tree t =>
  obtain ⟨v,h1,h2⟩:=h
  refine .tup h1 rfl fun j v d h3 h4=>?_
  match j,h3,h4 with
  | 0,h3,h4=>cases h3;cases h4;exact .flat rfl
  | 1,h3,h4=>cases h3;cases h4;exact Zt0 h2 (hd t rfl)
 | deed =>
  obtain ⟨p,h1,h2⟩:=h
  refine .tup h1 rfl fun j v d h3 h4=>?_
  match j,h3,h4 with
  | 0,h3,h4=>cases h3;cases h4;exact .flat rfl
  | 1,h3,h4=>cases h3;cases h4;exact Zgl h2
  | 2,h3,h4=>cases h3;cases h4;exact .flat rfl
 | place pl far =>
  obtain ⟨p,q,h1,h2,h5⟩:=h
  refine .tup h1 rfl fun j v d h3 h4=>?_
  match j,h3,h4 with
  | 0,h3,h4=>cases h3;cases h4;exact .flat rfl
  | 1,h3,h4=>cases h3;cases h4;exact Zgl h2
  | 2,h3,h4 =>
   cases h3;cases h4
   refine .tup h5 (by rw [Pq]) fun j v d h3 h4=>?_
   rw [Sf,h3] at h4
   cases h4
   exact .flat (Ziw (Pt h3))
theorem Zi4 {t u:Tr}{pl:List Nat}{far:Int}(h:At t pl u)(e:far < 0\/(u.ps.length:Int)<=far):Bad t pl far:=by
 refine ⟨h.sub,u.wd,u.note,u.ps,by rw [h.path,<- Zh0],by omega⟩
theorem TldAt.tup {K:O0}{H:Hp}{r:Addr}{x:Res}(h:TldAt K H r x):∃ ys,SqT K H r ys:=by
 cases x with
 | tree t=>obtain ⟨v,h1,h2⟩:=h;exact ⟨_,h1⟩
 | deed=>obtain ⟨p,h1,h2⟩:=h;exact ⟨_,h1⟩
 | place pl far=>obtain ⟨p,q,h1,h2,h3⟩:=h;exact ⟨_,h1⟩
noncomputable def Zhu (K:O0):Sp:=fun vs H Q _=>∃(a:Addr)(ns:List Int),vs=[.ref a]/\SqL K H a (ns.map V.int)/\ns.length<=63/\∀ H',Q (.bl true) H'
theorem sc_law:A2 ["_law_script", "_law_names_here", "_law_tree_here", "_law_here", "_law_row", "_law_k", "_law_due", "_law_cell_here", "_law_rows", "_law_place", "_law_form_here", "_law_spec_here", "_law_after_here", "_law_raw", "_law_handed"] ["_law_script"] (Am Lm):=by walk_at "sc"
theorem Zkz {c:Cs}{ag:Addr}{f:Addr}{fd:FuncData}(F:Fun K "law" "law" Lm f fd)(T:Txt K mg)(GA:Jg K ag)(C__law_cell:A4 P w K mg base 1 "_law_cell" ["_law_script", "_law_k"] (Zfc K))(C__law_names:A4 P w K mg base 1 "_law_names" ["_law_one", "_law_other"] Zd6)(C__law_tree:A4 P w K mg base 3 "_law_tree" ["_law_cells", "_law_names_here"] (Zfl K))(MK_Wrap_2:B1 Aq P w K mg base 5 "Wrap" c.w ["self", "word", "note", "at"] [] (fun vs _=>vs++[.int 0]) (Fz K c ag))(MK_Keep_0:B1 Aq P w K mg base 1 "Keep" c.k ["self", "at"] [] (fun vs _=>vs++[.int 0]) (Fu K c))(C__law_walk:A4 P w K mg base 1 "_law_walk" ["_law_tree_here"] (Zge K))(C__law_spec:A4 P w K mg base 5 "_law_spec" ["_law_cell_here", "_law_form_here", "_law_names_here"] (Zeq K))(C__law_after:A4 P w K mg base 2 "_law_after" ["_law_spec_here", "_law_form_here"] (Zb2 K))(C__law_bad:A4 P w K mg base 1 "_law_bad" ["_law_place", "_law_form_here", "_law_cell_here"] (Zgg K))(C__law_with:A4 P w K mg base 2 "_law_with" ["_law_tree_here", "_law_place", "_law_form_here"] (Zdm K))(C__law_make:A4 P w K mg base 9 "_law_make" ["_law_spec_here"] (Zg8 K c))(C__law_told:A4 P w K mg base 9 "_law_told" ["_law_tree_here", "_law_row"] (Ze3 K c)):Ao P w K mg base Aq 10 f fd ["_law_script"] (Zhu K):=by
 refine F.okq sc_law (fun vs H Q E h=>?_) (fun cdv A outer s H vs Q E hr h=>?_)
 ·obtain ⟨a,ns,rfl,_⟩:=h
  rfl
 ·obtain ⟨a,ns,rfl,hS,hn,q⟩:=h
  have S:Script K H a:=⟨ns,hS,hn⟩
  refine ⟨_,Ag (A3 1 sc_law (A1 C__law_names hr.m (Aa (A1 C__law_cell hr.m (Aa (qv 0) (Aa Ab Ac))) (Aa (A1 C__law_cell hr.m (Aa (qv 0) (Aa Ab Ac))) Ac))))
   (Ag (A3 2 sc_law (A1 C__law_tree hr.m (Aa (Fj (Od K) (qv 0) (Ef Ab) (Ef Ab)) (Aa (qv 1) Ac))))
   (Ag (A3 3 sc_law (qv 2))
   (Ag (A3 4 sc_law (Bv Ac))
   (Ag (C6 Ql rfl (Ez rfl T.range (Aa (Ah Cc (F6 Zaq (by rfl) T.int (by decide +kernel) (Aa (Co (A5 K hr.u200) (Ah A6 (Ah B8 (A1 C__law_cell hr.m (Aa (qv 0) (Aa Ab Ac))) Ab) Ab) Ab (Ax _)) Ac)) (Ah A6 (Ah B8 (A1 C__law_cell hr.m (Aa (qv 0) (Aa Ab Ac))) Ab) Ab)) Ac)) (A9 (i:=5) sc_law.nd rfl (Or.inl rfl)) (Af (Ce (Cv K Pz PySem.F.slot_list_extend PySem.F.type_list_extend Zk6 (qv 4) (Aa (Bv (Aa (A0 (Aa (A0 Ac) (Aa (Gb MK_Wrap_2 hr.m C4 (Aa An (Aa (Ai K (qv 1) (Ah A6 (qv 5) Ab)) Ac)) (Ej)) Ac))) (Aa (A0 (Aa (A0 Ac) (Aa (Zbb MK_Keep_0 hr.m C4 (Ej)) Ac))) Ac))) Ac)))))
   (Ag (A3 6 sc_law C0)
   (Ag (C6 Ql rfl (Fw K (Fj (Od K) (qv 0) (Ef Ab) (Ef Ab))) (A9 (i:=7) sc_law.nd rfl (Or.inl rfl)) (Ag (A3 8 sc_law (A1 C__law_walk hr.m (Aa (qv 3) Ac)))
   (Ag (Hn (Ai K (qv 8) (Ah A6 (Ah A6 (Ah Cc (qv 7) Ab) Ab) (Bd (Cp K) (by rfl) T.len (by decide +kernel) (Aa (qv 8) Ac)))) (G9 K (n:=2) rfl (Cw (A9 (i:=9) sc_law.nd rfl (Or.inl rfl)) (Cw (A9 (i:=10) sc_law.nd rfl (Or.inl rfl)) (Gf)))))
   (Ag (A3 11 sc_law (A1 C__law_spec hr.m (Aa (qv 7) (Aa (qv 10) (Aa (qv 1) Ac)))))
   (Ag (A3 12 sc_law (A1 C__law_after hr.m (Aa (qv 11) (Aa (qv 10) Ac))))
   (Ag (A3 13 sc_law (Co (A5 K hr.u200) (Ah A6 (A1 C__law_cell hr.m (Aa (qv 0) (Aa Ab Ac))) Ab) Ab (Ax _)))
   (Ag (Ar (QW.qt (Fg (Ol K (qv 13) (by intro _;rfl)) (Gq (Ay (A5 K hr.u200) (Ah A6 (Ah A6 (Ah Cc (qv 7) Ab) Ab) Ab) Ab (Ax _))))) (Ag (A3 9 sc_law (A1 C__law_bad hr.m (Aa (qv 9) (Aa (qv 10) (Aa (qv 7) Ac)))))
   (Af (Ar (E6 (F7 (qv 6))) (Af (A3 6 sc_law (A0 (Aa An (Aa (Bv (Aa Dg (Aa An Ac))) (Aa (qv 9) Ac)))))) Av))) (Af (Ar (QW.qt (Fg (E6 (F7 (qv 12))) (Fg (Ol K (qv 13) (by intro _;rfl)) (Gq (E6 (F7 (qv 6))))))) (Af (A3 6 sc_law (A0 (Aa An (Aa (Bv (Aa Dg (Aa An Ac))) (Aa C0 Ac)))))) (Af (Ar (QW.qt (Fg (E6 (Zd7 (qv 12))) (Gq (E6 (F7 (qv 6)))))) (Af (A3 3 sc_law (A1 C__law_with hr.m (Aa (qv 3) (Aa (qv 9) (Aa (qv 12) Ac)))))) Av)))))
   (Af (Ar (QW.qt (Ek (Ol K (qv 13) (by intro _;rfl)) (Es (E6 (Zd7 (qv 12)))))) (Af (Ce (Cv K Pz Qr Qs Dn (qv 4) (Aa (A0 (Aa (qv 9) (Aa (A1 C__law_make hr.m (Aa (qv 11) Ac)) Ac))) Ac)))) Av)))))))))
   (Ag (Ar (E6 (F7 (qv 6))) (Af (A3 6 sc_law (A0 (Aa An (Aa (qv 3) Ac))))) Av)
   (Ag (A3 14 sc_law (F6 (Zkx K) (by rfl) T.list (by decide +kernel) (Aa (qv 4) Ac)))
   (Ag (Ar (QW.qt (Ek (Ay (Zbx K hr.u200) (A1 C__law_told hr.m (Aa (qv 2) (Aa (qv 14) Ac))) (qv 6) (Ax _)) (Ek (Ay (Zbx K hr.u200) (qv 14) (qv 4) (Ax _)) (Es (Ay (Zbx K hr.u200) (A1 C__law_told hr.m (Aa (qv 2) (Aa (Bv Ac) Ac))) (A0 (Aa An (Aa (qv 2) Ac))) (Ax _)))))) (Af (Ak Dg)) Av)
   (Ag (Ce (M6 K Pz PySem.F.slot_list_clear PySem.F.type_list_clear Zs2 (qv 14)))
   (Af (Ak (Dp (Co (A5 K hr.u200) (A1 C__law_told hr.m (Aa (qv 2) (Aa (qv 4) Ac))) (qv 6) (Ax _)) (D6 (Bd (Fx K "tuple") (by rfl) T.isinstance (by decide +kernel) (Aa (qv 6) (Aa (Eu (v:=.ty "tuple") (by rfl) T.tuple (by decide +kernel) rfl) Ac))))))))))))))))),?_⟩
  have bg:=Ct
  walk_at "r"
  refine ⟨a,0,rfl,S,by decide,fun z0=>?_⟩
  walk_at "r"
  refine ⟨a,1,rfl,S,by decide,fun z1=>?_⟩
  walk_at "r"
  refine ⟨z0,z1,rfl,fun p t0 t1 t2 H1 n0 n1 n2 s1 hp0 hp=>?_⟩
  walk_at "r"
  refine Zdz (s1.seq hS) fun pc hpc=>?_
  obtain ⟨ms,hms,hml⟩:=Zfk ns 3 13
  rw [show B9 (ns.map V.int) (some 3) (some 13)=ms.map V.int from hms]
  have s2:=s1.put (o:=.lst (ms.map V.int)) hpc
  walk_at "r"
  refine ⟨pc,p,ms,t0,t1,t2,rfl,SqL.of Ad,by omega,(Same.upd hpc).seq (SqL.of hp),n0,n1,n2,fun x t H2 s2' hx okx szx dpx=>?_⟩
  have hp:=s2' _ _ (Same.upd (o:=.lst (ms.map V.int)) hpc _ _ hp)
  replace s2:=s2.trans s2'
  replace S:=S.same s2
  replace hS:=s2.seq hS
  clear s2' s1 hpc hp0
  walk_at "r"
  refine ⟨Cu,fun D hD=>?_⟩
  have e3:upd H2 D (.lst []) D=some (.lst []):=Ad
  have s3:=Same.upd (o:=.lst []) hD
  revert e3 s3
  generalize upd H2 D (.lst [])=H3
  intro e3 s3
  walk_at "r"
  refine ⟨a,2,rfl,S.same s3,by decide,fun z2=>?_⟩
  walk_at "r"
  refine ⟨a,2,rfl,S.same s3,by decide,fun z3=>?_⟩
  walk_at "r"
  refine s_mul_r (by omega) (by omega) ?_
  obtain ⟨m,hm,m69⟩:∃ m:Nat,(if decide (V.int (z2 / 2 % 3)=V.int 0)=true then (1:Int) else 0) * (z3 / 6 % 70)=((m:Nat):Int)/\m<=69:=by
   split
   ·exact ⟨(z3 / 6 % 70).toNat,by omega,by omega⟩
   ·exact ⟨0,by omega,by omega⟩
  rw [hm]
  refine ⟨_,rfl,by omega,by omega,?_⟩
  refine Nm (n:=((m:Nat):Int).toNat) (fun i σ' H'=>∃ kv,σ'=[some (.ref a),some (.ref p),some x,some x,some (.ref D),kv,none,none,none,none,none,none,none,none,none]/\RowJ K c H2 t D (2 * i) (.tree t) H') ⟨none,rfl,[],[],e3,.nil,.nil t,by simp,(fun x h=>nomatch h),s3⟩ ?_ ?_
  ·rintro i σ' H' hi ⟨kv,rfl,vs,rw,eD,al,hb,hl,hok,sm⟩
   walk_at "r"
   refine B3 (SqL.of eD) ?_
   walk_at "r"
   refine ⟨Cu,fun q0 hq0=>?_⟩
   have b1:=Same.upd (o:=.tup []) hq0
   have c1:SqT K (upd H' q0 (.tup [])) q0 []:=SqT.of Ad
   revert b1 c1
   generalize upd H' q0 (.tup [])=G1
   intro b1 c1
   walk_at "r"
   unfold D5
   walk_at "r"
   obtain ⟨nm,hnm,hnn⟩:=Kq n0 n1 n2 (0+(i:Int))
   refine Ca (SqL.of (b1 _ _ (sm _ _ hp))) hnm ?_
   walk_at "r"
   intro a1 d1 h1 h2 h3
   have hno:=Znb hnn
   have hIs:∀ G,IsN K G (.str nm) (.flat (.str nm)):=fun G=>.inl ⟨rfl,rfl⟩
   refine ⟨a1,d1, "fn",.str nm,.fl (.str nm),1,0,rfl,Ad,⟨_,.str _ (by decide)⟩,IsN.nt (hIs _) hno.1,Zgs,hno.2,by decide,⟨_,hIs _⟩,fun r G2 sb e2 hb2=>⟨rfl,?_⟩⟩
   have b2:=sb.made h1 h2
   have dd1:DdAt K c G2 (.ref a1) (.wrap (Ev "fn" (.flat (.str nm)) 1) 0):=⟨a1,d1,_,rfl,e2,.ref r,rfl,hb2.tr GA (hIs _),by show 0 < 1;decide,by show 1<=3;decide⟩
   walk_at "r"
   refine ⟨Bq,fun q1 hq1=>?_⟩
   have b3:=Same.upd (o:=.tup [.ref q0,.ref a1]) hq1
   have c3:SqT K (upd G2 q1 (.tup [.ref q0,.ref a1])) q1 [.ref q0,.ref a1]:=SqT.of Ad
   revert b3 c3
   generalize upd G2 q1 (.tup [.ref q0,.ref a1])=G3
   intro b3 c3
   walk_at "r"
   refine ⟨Cu,fun q2 hq2=>?_⟩
   have b4:=Same.upd (o:=.tup []) hq2
   have c4:SqT K (upd G3 q2 (.tup [])) q2 []:=SqT.of Ad
   revert b4 c4
   generalize upd G3 q2 (.tup [])=G4
   intro b4 c4
   walk_at "r"
   intro a2 d2 h1' h2' h3'
   refine ⟨a2,d2,_,rfl,Ad,rfl,?_⟩
   have b5:=(Same.made (C:=c.k) (fs:=[]) h1' h2' h3').over (o:=.ins c.k d2 [("at",.int 0)]) h1'
   have dd2:DdAt K c (upd (upd (upd G4 d2 (.own a2)) a2 (.ins c.k d2 [])) a2 (.ins c.k d2 [("at",.int 0)])) (.ref a2) (.keep 0):=⟨a2,d2,_,rfl,Ad,rfl⟩
   revert b5 dd2
   generalize upd (upd (upd G4 d2 (.own a2)) a2 (.ins c.k d2 [])) a2 (.ins c.k d2 [("at",.int 0)])=G5
   intro b5 dd2
   walk_at "r"
   refine ⟨Bq,fun q3 hq3=>?_⟩
   have b6:=Same.upd (o:=.tup [.ref q2,.ref a2]) hq3
   have c6:SqT K (upd G5 q3 (.tup [.ref q2,.ref a2])) q3 [.ref q2,.ref a2]:=SqT.of Ad
   revert b6 c6
   generalize upd G5 q3 (.tup [.ref q2,.ref a2])=G6
   intro b6 c6
   walk_at "r"
   refine ⟨Bq,fun q4 hq4=>?_⟩
   have b7:=Same.upd (o:=.lst [.ref q1,.ref q3]) hq4
   have c7:upd G6 q4 (.lst [.ref q1,.ref q3]) q4=some (.lst [.ref q1,.ref q3]):=Ad
   revert b7 c7
   generalize upd G6 q4 (.lst [.ref q1,.ref q3])=G7
   intro b7 c7
   have b47:=b4.trans (b5.trans (b6.trans b7))
   have b17:=b1.trans (b2.trans (b3.trans b47))
   have eD7:=b17 _ _ eD
   have hvl:=al.1
   refine ⟨D,q4,vs,[.ref q1,.ref q3],rfl,rfl,eD7,c7,by show vs.length+2<=_;omega,?_⟩
   walk_at "r"
   have st:=SameT.set (o:=.lst (vs++[.ref q1,.ref q3])) eD7
   have p1:PairAt K c G7 (.ref q1) (([],none),.wrap (Ev "fn" (.flat (.str nm)) 1) 0):=⟨q1,q0,.ref a1,rfl,b47.tup c3,(b2.trans (b3.trans b47)).tup c1,dd1.same (b3.trans b47)⟩
   have p2:PairAt K c G7 (.ref q3) (([],none),.keep 0):=⟨q3,q2,.ref a2,rfl,b7.tup c6,(b5.trans (b6.trans b7)).tup c4,dd2.same (b6.trans b7)⟩
   refine ⟨_,rfl,vs++[.ref q1,.ref q3],rw++[(([],none),.wrap (Ev "fn" (.flat (.str nm)) 1) 0),(([],none),.keep 0)],Ad,?_,hb.app (two_rows hnn),by rw [Pm];show rw.length+2<=_;omega,fun y hy=>?_,(sm.trans b17).over hD⟩
   ·have:=(((al.mono (PairAt.same b17)).snoc p1).snoc p2).mono (PairAt.off (o:=.lst (vs++[.ref q1,.ref q3])) eD7)
    rw [Sr,Sr] at this
    exact this
   ·rcases P4.mp hy with hy | hy
    ·exact hok y hy
    ·simp only [Pb,Pp,or_false] at hy
     rcases hy with rfl | rfl
     ·exact ⟨Zat hno Zgs,by show 0 < 1;decide⟩
     ·trivial
  rintro σ' H4 ⟨kv,rfl,hJ⟩
  rw [show ((m:Nat):Int).toNat=m by simp] at hJ
  clear hm
  walk_at "r"
  have sm4:Same H2 H4:=by obtain ⟨_,_,_,_,_,_,_,h⟩:=hJ;exact h
  refine Zdz (sm4.seq hS) fun pi hpi=>?_
  have nDi:D≠pi:=by obtain ⟨_,_,h,_⟩:=hJ;exact Bz h hpi
  obtain ⟨ks,hks,hkl⟩:=Zfk ns 13 33
  rw [show B9 (ns.map V.int) (some 13) (some 33)=ks.map V.int from hks]
  have s5:=Same.upd (o:=.lst (ks.map V.int)) hpi
  have e5:upd H4 pi (.lst (ks.map V.int)) pi=some (.lst (ks.map V.int)):=Ad
  have hJ:=hJ.same s5
  revert s5 e5 hJ
  generalize upd H4 pi (.lst (ks.map V.int))=H5
  intro s5 e5 hJ
  refine .inl ⟨pi,rfl,⟨_,SqL.of e5⟩,?_⟩
  refine Zaw (K:=K) (a:=pi) (xs:=ks.map V.int) (fun i σ' H'=>∃ xh th due res v7 v8 v9 v10 v11 v12 v13,σ'=[some (.ref a),some (.ref p),some x,some xh,some (.ref D),kv,some due,v7,v8,v9,v10,v11,v12,v13,none]/\TrAt K H' xh th/\TrOk th/\th.size<=51+4 * i/\Bf th<=21+2 * i/\RowJ K c H2 t D (2 * m+i) res H'/\DueJ K H' due th res/\H' pi=some (.lst (ks.map V.int))) ⟨x,t,.non,.tree t,_,_,_,_,_,_,_,rfl,hx.same (sm4.trans s5),okx,by omega,by omega,hJ,.inl ⟨rfl,rfl⟩,e5⟩ ?_ ?_ ?_
  ·rintro i σ' H' _ ⟨_,_,_,_,_,_,_,_,_,_,_,_,_,_,_,_,_,_,e⟩
   exact SqL.of e
  ·rintro i xv σ' H' hxv ⟨xh,th,due,res,v7,v8,v9,v10,v11,v12,v13,rfl,hxh,okh,szh,dph,hJ',hdue,ei⟩
   obtain ⟨z,_,rfl⟩:=Sk.mp (Pt hxv)
   have hi:=(Pl.mp hxv).1
   rw [Pq] at hi
   have smh:Same H2 H':=by obtain ⟨_,_,_,_,_,_,_,h⟩:=hJ';exact h
   walk_at "r"
   refine ⟨xh,th,rfl,hxh,by omega,fun pr rows H6 s6 hpr er al=>?_⟩
   have hrl:1<=rows.length:=by rw [al.1,Ip];have:=th.size_eq;omega
   walk_at "r"
   refine Lf (SqL.of er) ?_
   refine s_rI (by omega) ?_
   obtain ⟨w0,hw0,hm0⟩:=Dy (xs:=rows) (i:=z * 7919 % 10007 % ((rows.length:Nat):Int)) (Qf _ (by omega)) (Qh _ (by omega))
   obtain ⟨k,hk⟩:=List.getElem?_of_mem hm0
   obtain ⟨⟨pl,fx⟩,hpl,ra,pp,fv,rfl,qa,qp,hf⟩:=al.get hk
   have hat:At th pl fx:=Zeu th _ (Pt hpl)
   have okf:=(hat.ok okh).1
   have hpll:pl.length<=200:=by have:=hat.len;omega
   refine Ca (SqL.of er) hw0 ?_
   refine Gw qa rfl ?_
   walk_at "r"
   refine ⟨z,fv,fx,p,t0,t1,t2,rfl,hf,okf,(smh.trans s6).seq (SqL.of hp),n0,n1,n2,fun sa sc H7 s7 hsc hgood=>?_⟩
   walk_at "r"
   refine Zur ⟨sa,sc,fv,fx,rfl,hsc,hgood,hf.same s7,okf,fun av H8 s8 ha=>?_⟩
   have s78:=s7.trans s8
   have s68:=s6.trans s78
   walk_at "r"
   refine ⟨a,2,rfl,S.same (smh.trans s68),by decide,fun z4=>?_⟩
   iterate 6 walk_at "r1"
   generalize hrb:decide (V.int (z4 % 2)=V.int 1)=rb
   refine Ku (t:=F8 _ _ _) (R:=fun σ' H9=>∃ xh' th' due' res' pp' plc,σ'=[some (.ref a),some (.ref p),some x,some xh',some (.ref D),kv,some due',some (.int z),some (.ref pr),some (.ref pp'),some fv,some (.ref sa),some av,some (.bl rb),none]/\Same H8 H9/\SqT K H9 pp' (plcV plc)/\TrAt K H9 xh' th'/\TrOk th'/\th'.size<=51+4 * (i+1)/\Bf th'<=21+2 * (i+1)/\DueJ K H9 due' th' res'/\((rb=true\/Bt fx sc.dd≠none)->∀ rw,Bh t rw res->Bh t (rw++[(plc,sc.dd)]) res')/\(¬ (rb=true\/Bt fx sc.dd≠none)->res'=res)) ?_ (fun Y hY=>?_)
   rotate_left
   ·have hdue8:=hdue.same s68
    have hxh8:=hxh.same s68
    have qp8:=s78.tup qp
    have stop:(∀ u,res≠.tree u)->∀ plc rw,Bh t rw res->Bh t (rw++[(plc,sc.dd)]) res:=fun hn plc rw h=>h.stop hn
    walk_at "r"
    refine ⟨rb,rfl,?_⟩
    refine Aw (fun hr1=>?_) (fun hr1=>?_)
    ·walk_at "r"
     refine Aw (fun hbt=>?_) (fun hbt=>?_)
     ·walk_at "r"
      refine ⟨pp,pl,fv,fx,z,rfl,qp8,by omega,hf.same s78,fun far r1 H9 s9 hfar q9=>?_⟩
      walk_at "r"
      rcases hdue8 with ⟨rfl,rfl⟩ | ⟨r,rfl,hr3,hn⟩
      ·refine Bw rfl ?_
       walk_at "r"
       refine ⟨Bq,fun p3 h3=>?_⟩
       have b3:=Same.upd (o:=.lst [.bl true,.str "place"]) h3
       have c3:upd H9 p3 (.lst [.bl true,.str "place"]) p3=some (.lst [.bl true,.str "place"]):=Ad
       revert b3 c3
       generalize upd H9 p3 (.lst [.bl true,.str "place"])=G3
       intro b3 c3
       walk_at "r"
       refine ⟨Bk,fun p4 h4=>?_⟩
       have b4:=Same.upd (o:=.tup [.str "no",.ref p3,.ref r1]) h4
       have b34:=b3.trans b4
       walk_at "r"
       have b94:=s9.trans b34
       exact hY _ _ ⟨xh,th,.ref p4,.place pl far,r1,(pl,some far),rfl,b94,b34.tup q9,hxh8.same b94,okh,by omega,by omega,.inr ⟨p4,rfl,⟨p3,r1,SqT.of Ad,b4 _ _ c3,b34.tup q9⟩,fun u h=>nomatch h⟩,fun _ rw h=>h.app (.place (Zi4 hat hfar)),fun h=>absurd (.inl hr1) h⟩
      ·refine Az rfl ?_
       walk_at "r"
       exact hY _ _ ⟨xh,th,.ref r,res,r1,(pl,some far),rfl,s9,q9,hxh8.same s9,okh,by omega,by omega,.inr ⟨r,rfl,hr3.same s9,hn⟩,fun _=>stop hn _,fun h=>absurd (.inl hr1) h⟩
     walk_at "r"
     cases ho:Bt fx sc.dd with
     | none =>
      rw [ho] at ha
      have ha:av=.non:=ha
      subst ha
      refine Bw rfl ?_
      walk_at "r"
      refine ⟨rb,rfl,?_⟩
      refine Aw (fun hr2=>?_) (fun hr2=>?_)
      ·walk_at "r"
       rcases hdue8 with ⟨rfl,rfl⟩ | ⟨r,rfl,hr3,hn⟩
       ·refine Bw rfl ?_
        walk_at "r"
        refine ⟨Bq,fun p3 h3=>?_⟩
        have b3:=Same.upd (o:=.lst [.bl true,.str "deed"]) h3
        have c3:upd H8 p3 (.lst [.bl true,.str "deed"]) p3=some (.lst [.bl true,.str "deed"]):=Ad
        revert b3 c3
        generalize upd H8 p3 (.lst [.bl true,.str "deed"])=G3
        intro b3 c3
        walk_at "r"
        refine ⟨Bk,fun p4 h4=>?_⟩
        have b4:=Same.upd (o:=.tup [.str "no",.ref p3,.non]) h4
        have b34:=b3.trans b4
        walk_at "r"
        exact hY _ _ ⟨xh,th,.ref p4,.deed,pp,(pl,none),rfl,b34,b34.tup qp8,hxh8.same b34,okh,by omega,by omega,.inr ⟨p4,rfl,⟨p3,SqT.of Ad,b4 _ _ c3⟩,fun u h=>nomatch h⟩,fun _ rw h=>h.app (.deed hat ho),fun h=>absurd (.inl hr2) h⟩
       ·refine Az rfl ?_
        walk_at "r"
        refine Az rfl ?_
        walk_at "r"
        exact hY _ _ ⟨xh,th,.ref r,res,pp,(pl,none),rfl,Same.refl _,qp8,hxh8,okh,by omega,by omega,.inr ⟨r,rfl,hr3,hn⟩,fun _=>stop hn _,fun h=>absurd (.inl hr2) h⟩
      ·walk_at "r"
       refine Az rfl ?_
       walk_at "r"
       exact hY _ _ ⟨xh,th,due,res,pp,(pl,none),rfl,Same.refl _,qp8,hxh8,okh,by omega,by omega,hdue8,fun h=>absurd h (by rw [ho];simp [hr2]),fun _=>rfl⟩
     | some u =>
      rw [ho] at ha
      have ha:TrAt K H8 av u:=ha
      obtain ⟨oku,szu,dpu⟩:=Zc8 hgood.ok okf ho
      obtain ⟨au,_,_,rfl,_⟩:=Gz ha
      refine Az rfl ?_
      walk_at "r"
      refine Bw rfl ?_
      walk_at "r"
      rcases hdue8 with ⟨rfl,rfl⟩ | ⟨r,rfl,hr3,hn⟩
      ·refine Bw rfl ?_
       walk_at "r"
       refine ⟨xh,pp,.ref au,th,fx,u,pl,rfl,hxh8,by omega,qp8,hat,ha,fun v' H9 s9 hv9=>?_⟩
       walk_at "r"
       have z1:=hat.size (f:=u)
       have z2':=hat.depw (f:=u) 2 dpu
       exact hY _ _ ⟨v',B5 th pl u,.non,.tree (B5 th pl u),pp,(pl,none),rfl,s9,s9.tup qp8,hv9,hat.okw okh oku,by omega,by omega,.inl ⟨rfl,rfl⟩,fun _ rw h=>h.app (.ok hat ho (.nil _)),fun h=>absurd (.inr (by rw [ho];exact nofun)) h⟩
      ·refine Az rfl ?_
       walk_at "r"
       exact hY _ _ ⟨xh,th,.ref r,res,pp,(pl,none),rfl,Same.refl _,qp8,hxh8,okh,by omega,by omega,.inr ⟨r,rfl,hr3,hn⟩,fun _=>stop hn _,fun h=>absurd (.inr (by rw [ho];exact nofun)) h⟩
    ·walk_at "r"
     cases ho:Bt fx sc.dd with
     | none =>
      rw [ho] at ha
      have ha:av=.non:=ha
      subst ha
      refine Bw rfl ?_
      walk_at "r"
      refine ⟨rb,rfl,?_⟩
      refine Aw (fun hr2=>?_) (fun hr2=>?_)
      ·walk_at "r"
       rcases hdue8 with ⟨rfl,rfl⟩ | ⟨r,rfl,hr3,hn⟩
       ·refine Bw rfl ?_
        walk_at "r"
        refine ⟨Bq,fun p3 h3=>?_⟩
        have b3:=Same.upd (o:=.lst [.bl true,.str "deed"]) h3
        have c3:upd H8 p3 (.lst [.bl true,.str "deed"]) p3=some (.lst [.bl true,.str "deed"]):=Ad
        revert b3 c3
        generalize upd H8 p3 (.lst [.bl true,.str "deed"])=G3
        intro b3 c3
        walk_at "r"
        refine ⟨Bk,fun p4 h4=>?_⟩
        have b4:=Same.upd (o:=.tup [.str "no",.ref p3,.non]) h4
        have b34:=b3.trans b4
        walk_at "r"
        exact hY _ _ ⟨xh,th,.ref p4,.deed,pp,(pl,none),rfl,b34,b34.tup qp8,hxh8.same b34,okh,by omega,by omega,.inr ⟨p4,rfl,⟨p3,SqT.of Ad,b4 _ _ c3⟩,fun u h=>nomatch h⟩,fun _ rw h=>h.app (.deed hat ho),fun h=>absurd (.inl hr2) h⟩
       ·refine Az rfl ?_
        walk_at "r"
        refine Az rfl ?_
        walk_at "r"
        exact hY _ _ ⟨xh,th,.ref r,res,pp,(pl,none),rfl,Same.refl _,qp8,hxh8,okh,by omega,by omega,.inr ⟨r,rfl,hr3,hn⟩,fun _=>stop hn _,fun h=>absurd (.inl hr2) h⟩
      ·walk_at "r"
       refine Az rfl ?_
       walk_at "r"
       exact hY _ _ ⟨xh,th,due,res,pp,(pl,none),rfl,Same.refl _,qp8,hxh8,okh,by omega,by omega,hdue8,fun h=>absurd h (by rw [ho];simp [hr2]),fun _=>rfl⟩
     | some u =>
      rw [ho] at ha
      have ha:TrAt K H8 av u:=ha
      obtain ⟨oku,szu,dpu⟩:=Zc8 hgood.ok okf ho
      obtain ⟨au,_,_,rfl,_⟩:=Gz ha
      refine Az rfl ?_
      walk_at "r"
      refine Bw rfl ?_
      walk_at "r"
      rcases hdue8 with ⟨rfl,rfl⟩ | ⟨r,rfl,hr3,hn⟩
      ·refine Bw rfl ?_
       walk_at "r"
       refine ⟨xh,pp,.ref au,th,fx,u,pl,rfl,hxh8,by omega,qp8,hat,ha,fun v' H9 s9 hv9=>?_⟩
       walk_at "r"
       have z1:=hat.size (f:=u)
       have z2':=hat.depw (f:=u) 2 dpu
       exact hY _ _ ⟨v',B5 th pl u,.non,.tree (B5 th pl u),pp,(pl,none),rfl,s9,s9.tup qp8,hv9,hat.okw okh oku,by omega,by omega,.inl ⟨rfl,rfl⟩,fun _ rw h=>h.app (.ok hat ho (.nil _)),fun h=>absurd (.inr (by rw [ho];exact nofun)) h⟩
      ·refine Az rfl ?_
       walk_at "r"
       exact hY _ _ ⟨xh,th,.ref r,res,pp,(pl,none),rfl,Same.refl _,qp8,hxh8,okh,by omega,by omega,.inr ⟨r,rfl,hr3,hn⟩,fun _=>stop hn _,fun h=>absurd (.inr (by rw [ho];exact nofun)) h⟩
   rintro σ' H9 ⟨xh',th',due',res',pp',plc,rfl,s9,qp9,hxh9,okh9,szh9,dph9,hdue9,hbh9,hres9⟩
   have s69:=s68.trans s9
   have hJ9:=hJ'.same s69
   have ei9:=s69 _ _ ei
   have hsc9:=hsc.same (s8.trans s9).t
   have eD9:∃ vs,H9 D=some (.lst vs):=by obtain ⟨vs,_,h,_⟩:=hJ9;exact ⟨vs,h⟩
   obtain ⟨vs9,eD9⟩:=eD9
   have han:decide (av=.non)=decide (Bt fx sc.dd=none):=ha.non
   walk_at "r"
   refine ⟨rb,rfl,?_⟩
   have fin:(rb=true\/Bt fx sc.dd≠none)->∀ dv H10,Same H9 H10->DdAt K c H10 dv sc.dd->∀ q1,H10 q1=none->∃ vs,upd H10 q1 (.tup [.ref pp',dv]) D=some (.lst vs)/\vs.length<=2 * m+i/\∃ xh th due res v7 v8 v9 v10 v11 v12 v13,([some (.ref a),some (.ref p),some x,some xh',some (.ref D),kv,some due',some (.int z),some (.ref pr),some (.ref pp'),some fv,some (.ref sa),some av,some (.bl rb),none]:St)=[some (.ref a),some (.ref p),some x,some xh,some (.ref D),kv,some due,v7,v8,v9,v10,v11,v12,v13,none]/\TrAt K (upd (upd H10 q1 (.tup [.ref pp',dv])) D (.lst (vs++[.ref q1]))) xh th/\TrOk th/\th.size<=51+4 * (i+1)/\Bf th<=21+2 * (i+1)/\RowJ K c H2 t D (2 * m+(i+1)) res (upd (upd H10 q1 (.tup [.ref pp',dv])) D (.lst (vs++[.ref q1])))/\DueJ K (upd (upd H10 q1 (.tup [.ref pp',dv])) D (.lst (vs++[.ref q1]))) due th res/\upd (upd H10 q1 (.tup [.ref pp',dv])) D (.lst (vs++[.ref q1])) pi=some (.lst (ks.map V.int)):=by
    intro hor dv H10 s10 hdd q1 hq1
    have s11:=Same.upd (o:=.tup [.ref pp',dv]) hq1
    have sa1:=s10.trans s11
    have hpa:PairAt K c (upd H10 q1 (.tup [.ref pp',dv])) (.ref q1) (plc,sc.dd):=⟨q1,pp',dv,rfl,SqT.of Ad,sa1.tup qp9,hdd.same s11⟩
    obtain ⟨vs,eD,hvl,hrf,hJ11⟩:=(hJ9.same sa1).push hD hpa hgood.ok (hbh9 hor)
    exact ⟨vs,eD,hvl,xh',th',due',res',_,_,_,_,_,_,_,rfl,(hxh9.same sa1).sameT (SameT.set eD),okh9,szh9,dph9,hJ11,(hdue9.same sa1).off eD hrf,by rw [Au nDi.symm];exact sa1 _ _ ei9⟩
   refine Aw (fun hr1=>?_) (fun hr1=>?_)
   rotate_left
   ·walk_at "r"
    rw [han]
    refine Aw (fun hh=>?_) (fun hh=>?_)
    ·have hor:Bt fx sc.dd≠none:=by simpa using hh
     walk_at "r"
     refine B3 (SqL.of eD9) ?_
     walk_at "r"
     refine ⟨sa,sc,rfl,hsc9,hgood,fun dv H10 s10 hdd=>?_⟩
     walk_at "r"
     refine ⟨Bq,fun q1 hq1=>?_⟩
     obtain ⟨vs,eD,hvl,hfin⟩:=fin (.inr hor) dv H10 s10 hdd q1 hq1
     walk_at "r"
     refine Du eD (by omega) ?_
     walk_at "r"
     exact hfin
    ·have hnor:¬ (rb=true\/Bt fx sc.dd≠none):=fun h=>h.elim hr1 (fun h=>hh (by simpa using h))
     walk_at "r"
     have hJz:=hJ9.mono (show 2 * m+i<=2 * m+(i+1) by omega)
     rw [<- hres9 hnor] at hJz
     exact ⟨xh',th',due',res',_,_,_,_,_,_,_,rfl,hxh9,okh9,szh9,dph9,hJz,hdue9,ei9⟩
   ·walk_at "r"
    refine B3 (SqL.of eD9) ?_
    walk_at "r"
    refine ⟨sa,sc,rfl,hsc9,hgood,fun dv H10 s10 hdd=>?_⟩
    walk_at "r"
    refine ⟨Bq,fun q1 hq1=>?_⟩
    obtain ⟨vs,eD,hvl,hfin⟩:=fin (.inl hr1) dv H10 s10 hdd q1 hq1
    walk_at "r"
    refine Du eD (by omega) ?_
    walk_at "r"
    exact hfin
  rintro σ' H6 ⟨xh,th,due,res,v7,v8,v9,v10,v11,v12,v13,rfl,hxh,okh,szh,dph,hJ6,hdue,ei⟩
  rw [Pq] at szh dph hJ6
  have hdep:∀ u,res=.tree u->2 * Bf u<=122:=fun u hu=>by
   rcases hdue with ⟨_,h2⟩ | ⟨_,_,_,hn⟩
   ·rw [h2] at hu;injection hu with hu;rw [<- hu];omega
   ·exact absurd hu (hn u)
  walk_at "r1"
  refine Ku (t:=F8 _ _ _) (R:=fun σ' H7=>∃ r,σ'=[some (.ref a),some (.ref p),some x,some xh,some (.ref D),kv,some (.ref r),v7,v8,v9,v10,v11,v12,v13,none]/\TldAt K H7 r res/\Same H6 H7) ?_ (fun Y hY=>?_)
  rotate_left
  ·walk_at "r"
   rcases hdue with ⟨rfl,rfl⟩ | ⟨r,rfl,hr3,hn⟩
   ·refine Bw rfl ?_
    walk_at "r"
    refine ⟨Bq,fun p4 h4=>?_⟩
    have b4:=Same.upd (o:=.tup [.str "tree",xh]) h4
    walk_at "r"
    exact hY _ _ ⟨p4,rfl,⟨xh,SqT.of Ad,hxh.same b4⟩,b4⟩
   ·refine Az rfl ?_
    walk_at "r"
    exact hY _ _ ⟨r,rfl,hr3,Same.refl _⟩
  rintro σ' H7 ⟨r,rfl,hr7,s7⟩
  obtain ⟨vs,rw,eD,al,hbh,hrl,hok,sm7⟩:=hJ6.same s7
  have hrf:=Ze4 al
  have hx7:=hx.same sm7
  have hbig:t.size+4 * rw.length<=1000:=by omega
  walk_at "r"
  refine ⟨D,vs,rfl,.inl (SqL.of eD),fun l hl=>?_⟩
  have nDl:D≠l:=Bz eD hl
  have s8:=Same.upd (o:=.lst vs) hl
  have el:upd H7 l (.lst vs) l=some (.lst vs):=Ad
  revert s8 el
  generalize upd H7 l (.lst vs)=H8
  intro s8 el
  walk_at "r"
  refine ⟨x,l,t,rw,res,rfl,hx7.same s8,okx,⟨vs,SqL.of el,al.mono (PairAt.same s8)⟩,hbh,hok,hbig,fun r2 H9 s9 h9=>?_⟩
  have s89:=s8.trans s9
  walk_at "r"
  refine Zec (n:=123) (by decide) (Jf h9 hdep (by decide)) (Jf (hr7.same s89) hdep (by decide)) ?_
  walk_at "r"
  refine Zmy (SqL.of (s9 _ _ el)) (SqL.of (s89 _ _ eD)) hrf ?_
  walk_at "r"
  refine ⟨Cu,fun le hle=>?_⟩
  have s10:=Same.upd (o:=.lst []) hle
  have ee:upd H9 le (.lst []) le=some (.lst []):=Ad
  revert s10 ee
  generalize upd H9 le (.lst [])=H10
  intro s10 ee
  walk_at "r"
  refine ⟨x,le,t,[],.tree t,rfl,hx7.same (s89.trans s10),okx,⟨[],SqL.of ee,.nil⟩,.nil t,(fun x h=>nomatch h),by show t.size+4 * 0<=1000;omega,fun r3 H11 s11 h11=>?_⟩
  walk_at "r"
  refine ⟨Bq,fun r4 h4=>?_⟩
  have s12:=Same.upd (o:=.tup [.str "tree",x]) h4
  have s7a:=s89.trans (s10.trans (s11.trans s12))
  have ed:∀ u,Res.tree t=.tree u->2 * Bf u<=122:=fun u hu=>by injection hu with hu;rw [<- hu];omega
  have e4:TldAt K (upd H11 r4 (.tup [.str "tree",x])) r4 (.tree t):=⟨x,SqT.of Ad,hx7.same s7a⟩
  refine Zec (n:=123) (by decide) (Jf (h11.same s12) ed (by decide)) (Jf e4 ed (by decide)) ?_
  have elz:=(s9.trans (s10.trans (s11.trans s12))) _ _ el
  have eDz:=s7a _ _ eD
  have hxz:=hx7.same s7a
  have alz:=al.mono (PairAt.same s7a)
  have hrz:=hr7.same s7a
  clear e4 h11 h9 s7a
  revert elz eDz hxz alz hrz
  generalize upd H11 r4 (.tup [.str "tree",x])=H12
  intro elz eDz hxz alz hrz
  walk_at "r"
  refine B3 (SqL.of elz) ?_
  refine Zjy elz ?_
  have st:=SameT.set (o:=.lst []) elz
  walk_at "r"
  refine ⟨x,D,t,rw,res,rfl,hxz.sameT st,okx,⟨vs,SqL.of (by rw [Au nDl];exact eDz),alz.mono (PairAt.off elz)⟩,hbh,hok,hbig,fun r5 Iw s13 h13=>?_⟩
  have hrz:=(hrz.off (o:=.lst []) elz hrf).same s13
  walk_at "r"
  refine Zp3 (n:=123) (by decide) (Jf h13 hdep (by decide)) (Jf hrz hdep (by decide)) ?_
  walk_at "r"
  obtain ⟨ys,qy⟩:=hrz.tup
  refine Za9 (b:=true) qy (by unfold Po;rw [if_pos (by simp)]) ?_
  exact q _
end
end K26
namespace K26
open PySem L2
local macro_rules | `(tactic| walk_at "zF")=>`(tactic| exact (let +zeta a:=_; let +zeta b:=_; let +zeta c:=_; let +zeta d:=_; let +zeta e:=_; let +zeta f:=_; let +zeta g:=_; let +zeta h:=_; let +zeta i:=_; let +zeta j:=_; have +usedOnly q:(‹Stmt›:Stmt)=.FunctionDef a b c d e f g h i j:=rfl; .FunctionDef a b c d e f g h i j))
local macro_rules | `(tactic| walk_at "zA")=>`(tactic| exact (let +zeta a:=_; let +zeta b:=_; let +zeta c:=_; have +usedOnly q:(‹Stmt›:Stmt)=.Assign a b c:=rfl; .Assign a b c))
local macro_rules | `(tactic| walk_at "zC")=>`(tactic| exact (let +zeta a:=_; let +zeta b:=_; let +zeta c:=_; let +zeta d:=_; let +zeta e:=_; let +zeta f:=_; let +zeta g:=_; let +zeta h:=_; let +zeta i:=_; let +zeta j:=_; let +zeta k:=_; have +usedOnly q:(‹Stmt›:Stmt)=.ClassDef a b c d e f g h i j k:=rfl; .ClassDef a b c d e f g h i j k))
noncomputable def w0:Stmt:=by let +zeta s:=top 0;walk_at "zF"
noncomputable def w1:Stmt:=by let +zeta s:=top 1;walk_at "zA"
noncomputable def w2:Stmt:=by let +zeta s:=top 2;walk_at "zC"
noncomputable def w3:Stmt:=by let +zeta s:=top 3;walk_at "zC"
noncomputable def w4:Stmt:=by let +zeta s:=top 4;walk_at "zC"
noncomputable def w5:Stmt:=by let +zeta s:=top 5;walk_at "zC"
noncomputable def w6:Stmt:=by let +zeta s:=top 6;walk_at "zA"
noncomputable def w7:Stmt:=by let +zeta s:=top 7;walk_at "zA"
noncomputable def w8:Stmt:=by let +zeta s:=top 8;walk_at "zA"
noncomputable def w9:Stmt:=by let +zeta s:=top 9;walk_at "zA"
noncomputable def w10:Stmt:=by let +zeta s:=top 10;walk_at "zA"
noncomputable def w11:Stmt:=by let +zeta s:=top 11;walk_at "zA"
noncomputable def w12:Stmt:=by let +zeta s:=top 12;walk_at "zA"
noncomputable def w13:Stmt:=by let +zeta s:=top 13;walk_at "zF"
noncomputable def w14:Stmt:=by let +zeta s:=top 14;walk_at "zF"
noncomputable def w15:Stmt:=by let +zeta s:=top 15;walk_at "zF"
noncomputable def w16:Stmt:=by let +zeta s:=top 16;walk_at "zF"
noncomputable def w17:Stmt:=by let +zeta s:=top 17;walk_at "zF"
noncomputable def w18:Stmt:=by let +zeta s:=top 18;walk_at "zF"
noncomputable def w19:Stmt:=by let +zeta s:=top 19;walk_at "zF"
noncomputable def w20:Stmt:=by let +zeta s:=top 20;walk_at "zF"
noncomputable def w21:Stmt:=by let +zeta s:=top 21;walk_at "zF"
noncomputable def w22:Stmt:=by let +zeta s:=top 22;walk_at "zF"
noncomputable def w23:Stmt:=by let +zeta s:=top 23;walk_at "zF"
noncomputable def w24:Stmt:=by let +zeta s:=top 24;walk_at "zF"
noncomputable def w25:Stmt:=by let +zeta s:=top 25;walk_at "zA"
noncomputable def w26:Stmt:=by let +zeta s:=top 26;walk_at "zF"
noncomputable def w27:Stmt:=by let +zeta s:=top 27;walk_at "zF"
noncomputable def w28:Stmt:=by let +zeta s:=top 28;walk_at "zF"
noncomputable def w29:Stmt:=by let +zeta s:=top 29;walk_at "zF"
noncomputable def w30:Stmt:=by let +zeta s:=top 30;walk_at "zF"
noncomputable def w31:Stmt:=by let +zeta s:=top 31;walk_at "zA"
noncomputable def w32:Stmt:=by let +zeta s:=top 32;walk_at "zF"
noncomputable def w33:Stmt:=by let +zeta s:=top 33;walk_at "zF"
noncomputable def w34:Stmt:=by let +zeta s:=top 34;walk_at "zC"
noncomputable def Zjl:Stmt:=by let +zeta s:=(A8 35 0);walk_at "zF"
noncomputable def Zpa:Stmt:=by let +zeta s:=(A8 35 1);walk_at "zF"
noncomputable def Zco:Stmt:=by let +zeta s:=(A8 35 2);walk_at "zF"
noncomputable def w35:Stmt:=let +zeta a:=_;let +zeta b:=_;let +zeta c:=_;let +zeta d:=_;let +zeta e:=_;let +zeta f:=_;let +zeta g:=_;let +zeta h:=_;let +zeta i:=_;let +zeta j:=_;let +zeta k:=_;have +usedOnly q:top 35=.ClassDef a b c d e f g h i j k:=rfl;.ClassDef a b c [Zjl,Zpa,Zco] e f g h i j k
noncomputable def Zj7:Stmt:=by let +zeta s:=(A8 36 0);walk_at "zF"
noncomputable def Zul:Stmt:=by let +zeta s:=(A8 36 1);walk_at "zF"
noncomputable def Zai:Stmt:=by let +zeta s:=(A8 36 2);walk_at "zF"
noncomputable def w36:Stmt:=let +zeta a:=_;let +zeta b:=_;let +zeta c:=_;let +zeta d:=_;let +zeta e:=_;let +zeta f:=_;let +zeta g:=_;let +zeta h:=_;let +zeta i:=_;let +zeta j:=_;let +zeta k:=_;have +usedOnly q:top 36=.ClassDef a b c d e f g h i j k:=rfl;.ClassDef a b c [Zj7,Zul,Zai] e f g h i j k
noncomputable def w37:Stmt:=by let +zeta s:=top 37;walk_at "zC"
noncomputable def Zkl:Stmt:=by let +zeta s:=(A8 38 0);walk_at "zF"
noncomputable def Zjz:Stmt:=by let +zeta s:=(A8 38 1);walk_at "zF"
noncomputable def Zbe:Stmt:=by let +zeta s:=(A8 38 2);walk_at "zF"
noncomputable def w38:Stmt:=let +zeta a:=_;let +zeta b:=_;let +zeta c:=_;let +zeta d:=_;let +zeta e:=_;let +zeta f:=_;let +zeta g:=_;let +zeta h:=_;let +zeta i:=_;let +zeta j:=_;let +zeta k:=_;have +usedOnly q:top 38=.ClassDef a b c d e f g h i j k:=rfl;.ClassDef a b c [Zkl,Zjz,Zbe] e f g h i j k
noncomputable def Zqw:Stmt:=by let +zeta s:=(A8 39 0);walk_at "zF"
noncomputable def Zno:Stmt:=by let +zeta s:=(A8 39 1);walk_at "zF"
noncomputable def Zas:Stmt:=by let +zeta s:=(A8 39 2);walk_at "zF"
noncomputable def w39:Stmt:=let +zeta a:=_;let +zeta b:=_;let +zeta c:=_;let +zeta d:=_;let +zeta e:=_;let +zeta f:=_;let +zeta g:=_;let +zeta h:=_;let +zeta i:=_;let +zeta j:=_;let +zeta k:=_;have +usedOnly q:top 39=.ClassDef a b c d e f g h i j k:=rfl;.ClassDef a b c [Zqw,Zno,Zas] e f g h i j k
noncomputable def Zuk:Stmt:=by let +zeta s:=(A8 40 0);walk_at "zF"
noncomputable def Zml:Stmt:=by let +zeta s:=(A8 40 1);walk_at "zF"
noncomputable def Ox:Stmt:=by let +zeta s:=(A8 40 2);walk_at "zF"
noncomputable def w40:Stmt:=let +zeta a:=_;let +zeta b:=_;let +zeta c:=_;let +zeta d:=_;let +zeta e:=_;let +zeta f:=_;let +zeta g:=_;let +zeta h:=_;let +zeta i:=_;let +zeta j:=_;let +zeta k:=_;have +usedOnly q:top 40=.ClassDef a b c d e f g h i j k:=rfl;.ClassDef a b c [Zuk,Zml,Ox] e f g h i j k
noncomputable def Zo3:Stmt:=by let +zeta s:=(A8 41 0);walk_at "zF"
noncomputable def Zko:Stmt:=by let +zeta s:=(A8 41 1);walk_at "zF"
noncomputable def Zbh:Stmt:=by let +zeta s:=(A8 41 2);walk_at "zF"
noncomputable def w41:Stmt:=let +zeta a:=_;let +zeta b:=_;let +zeta c:=_;let +zeta d:=_;let +zeta e:=_;let +zeta f:=_;let +zeta g:=_;let +zeta h:=_;let +zeta i:=_;let +zeta j:=_;let +zeta k:=_;have +usedOnly q:top 41=.ClassDef a b c d e f g h i j k:=rfl;.ClassDef a b c [Zo3,Zko,Zbh] e f g h i j k
noncomputable def w42:Stmt:=by let +zeta s:=top 42;walk_at "zA"
noncomputable def w43:Stmt:=by let +zeta s:=top 43;walk_at "zF"
noncomputable def w44:Stmt:=by let +zeta s:=top 44;walk_at "zA"
noncomputable def w45:Stmt:=by let +zeta s:=top 45;walk_at "zF"
noncomputable def w46:Stmt:=by let +zeta s:=top 46;walk_at "zF"
noncomputable def w47:Stmt:=by let +zeta s:=top 47;walk_at "zF"
noncomputable def w48:Stmt:=by let +zeta s:=top 48;walk_at "zF"
noncomputable def w49:Stmt:=by let +zeta s:=top 49;walk_at "zF"
noncomputable def w50:Stmt:=by let +zeta s:=top 50;walk_at "zF"
noncomputable def w51:Stmt:=by let +zeta s:=top 51;walk_at "zF"
noncomputable def w52:Stmt:=by let +zeta s:=top 52;walk_at "zF"
noncomputable def w53:Stmt:=by let +zeta s:=top 53;walk_at "zF"
noncomputable def w54:Stmt:=by let +zeta s:=top 54;walk_at "zF"
noncomputable def w55:Stmt:=by let +zeta s:=top 55;walk_at "zF"
noncomputable def w56:Stmt:=by let +zeta s:=top 56;walk_at "zF"
noncomputable def w57:Stmt:=by let +zeta s:=top 57;walk_at "zF"
noncomputable def w58:Stmt:=by let +zeta s:=top 58;walk_at "zF"
noncomputable def w59:Stmt:=by let +zeta s:=top 59;walk_at "zF"
noncomputable def w60:Stmt:=by let +zeta s:=top 60;walk_at "zF"
noncomputable def w61:Stmt:=by let +zeta s:=top 61;walk_at "zF"
noncomputable def w62:Stmt:=by let +zeta s:=top 62;walk_at "zF"
noncomputable def w63:Stmt:=by let +zeta s:=top 63;walk_at "zF"
noncomputable def w64:Stmt:=by let +zeta s:=top 64;walk_at "zF"
noncomputable def w65:Stmt:=by let +zeta s:=top 65;walk_at "zF"
noncomputable def PWc:Program:=let +zeta a:=_;let +zeta b:=_;let +zeta c:=_;let +zeta d:=_;let +zeta e:=_;let +zeta f:=_;let +zeta g:=_;let +zeta h:=_;let +zeta i:=_;let +zeta j:=_;have +usedOnly q:Sm=⟨⟨a,b,c,d,e⟩,f,g,h,i,j⟩:=rfl;⟨⟨[w0,w1,w2,w3,w4,w5,w6,w7,w8,w9,w10,w11,w12,w13,w14,w15,w16,w17,w18,w19,w20,w21,w22,w23,w24,w25,w26,w27,w28,w29,w30,w31,w32,w33,w34,w35,w36,w37,w38,w39,w40,w41,w42,w43,w44,w45,w46,w47,w48,w49,w50,w51,w52,w53,w54,w55,w56,w57,w58,w59,w60,w61,w62,w63,w64,w65],b,c,d,e⟩,f,g,h,i,j⟩
theorem e_PW:PWc=PWc:=rfl
name_quick x_PW for K26.PWc by K26.e_PW
end K26
noncomputable def PySem.W.Fast.tw12814667588116439472:PySem.Program:=PySem.W.Fast.tw6123398324526379689
theorem PySem.W.Fast.te12814667588116439472:Sm=PySem.W.Fast.tw12814667588116439472:=(rfl:Sm=K26.PWc).trans PySem.W.Fast.te6123398324526379689
namespace K26
open PySem L2
noncomputable def VWc:Program:={ Sm with main:={ Sm.main with body:=[w0,w2,w3,w4,w5,w7,w8,w9,w10,w11,w12,w13,w14,w15,w16,w17,w18,w19,w20,w21,w22,w23,w24,w26,w27,w28,w29,w30,w32,w33,w34,w35,w36,w37,w38,w39,w40,w41,w43,w45,w46,w47,w48,w49,w50,w51,w52,w53,w54,w55,w56,w57,w58,w59,w60,w61,w62,w63,w64,w65] } }
noncomputable def S0:List Stmt:=[w40]
noncomputable def S1:List Stmt:=[w18,w19,w20,w21,w22,w23,w24,w25,w26,w27,w28,w29,w30,w31]
noncomputable def S2:List Stmt:=[w32,w33,w34]
noncomputable def S3:List Stmt:=[w37]
noncomputable def S4:List Stmt:=[w3]
noncomputable def S5:List Stmt:=[w46,w47,w48,w49,w50,w51,w52,w53,w54,w55,w56,w57,w58]
noncomputable def S6:List Stmt:=[w35]
noncomputable def S7:List Stmt:=[w59,w60,w61,w62,w63,w64,w65]
noncomputable def S8:List Stmt:=[w4]
noncomputable def S9:List Stmt:=[w36]
noncomputable def S10:List Stmt:=[w8,w9,w10,w11,w12,w13,w14,w15,w16,w17]
noncomputable def S11:List Stmt:=[w0,w1,w2]
noncomputable def S12:List Stmt:=[w38]
noncomputable def S13:List Stmt:=[w41,w42,w43,w44,w45]
noncomputable def S14:List Stmt:=[w5,w6,w7]
noncomputable def S15:List Stmt:=[w39]
noncomputable def SB:Program×List (List Stmt):=(VWc,[S0,S1,S2,S3,S4,S5,S6,S7,S8,S9,S10,S11,S12,S13,S14,S15])
theorem e_SB:SB=SB:=rfl
name_quick x_SB for K26.SB by K26.e_SB
end K26
noncomputable def PySem.W.Fast.tw11668338879809529363:PySem.Program:=PySem.W.Fast.tw2643245839322932895
theorem PySem.W.Fast.te11668338879809529363:K26.VWc=PySem.W.Fast.tw11668338879809529363:=PySem.W.Fast.te2643245839322932895
noncomputable def PySem.W.Fast.tw4273769833651449250:List Qd:=PySem.W.Fast.tw14228631163927191891
theorem PySem.W.Fast.te4273769833651449250:K26.S0=PySem.W.Fast.tw4273769833651449250:=PySem.W.Fast.te14228631163927191891
noncomputable def PySem.W.Fast.tw4213589340209984035:List Qd:=PySem.W.Fast.tw16812629006739728718
theorem PySem.W.Fast.te4213589340209984035:K26.S1=PySem.W.Fast.tw4213589340209984035:=PySem.W.Fast.te16812629006739728718
noncomputable def PySem.W.Fast.tw14034902693843826820:List Qd:=PySem.W.Fast.tw12759060308487661833
theorem PySem.W.Fast.te14034902693843826820:K26.S2=PySem.W.Fast.tw14034902693843826820:=PySem.W.Fast.te12759060308487661833
noncomputable def PySem.W.Fast.tw17497095789214617382:List Qd:=PySem.W.Fast.tw4372496890805666831
theorem PySem.W.Fast.te17497095789214617382:K26.S3=PySem.W.Fast.tw17497095789214617382:=PySem.W.Fast.te4372496890805666831
noncomputable def PySem.W.Fast.tw4694147993666587655:List Qd:=PySem.W.Fast.tw15238598558843195386
theorem PySem.W.Fast.te4694147993666587655:K26.S4=PySem.W.Fast.tw4694147993666587655:=PySem.W.Fast.te15238598558843195386
noncomputable def PySem.W.Fast.tw16397674259424194248:List Qd:=PySem.W.Fast.tw7018245350676135266
theorem PySem.W.Fast.te16397674259424194248:K26.S5=PySem.W.Fast.tw16397674259424194248:=PySem.W.Fast.te7018245350676135266
noncomputable def PySem.W.Fast.tw6243694312635120297:List Qd:=PySem.W.Fast.tw5932886677793469883
theorem PySem.W.Fast.te6243694312635120297:K26.S6=PySem.W.Fast.tw6243694312635120297:=PySem.W.Fast.te5932886677793469883
noncomputable def PySem.W.Fast.tw9416682420937413513:List Qd:=PySem.W.Fast.tw7131728191817332795
theorem PySem.W.Fast.te9416682420937413513:K26.S7=PySem.W.Fast.tw9416682420937413513:=PySem.W.Fast.te7131728191817332795
noncomputable def PySem.W.Fast.tw10112217580798439402:List Qd:=PySem.W.Fast.tw8732692185000238628
theorem PySem.W.Fast.te10112217580798439402:K26.S8=PySem.W.Fast.tw10112217580798439402:=PySem.W.Fast.te8732692185000238628
noncomputable def PySem.W.Fast.tw9494692502099327692:List Qd:=PySem.W.Fast.tw14576414076294971999
theorem PySem.W.Fast.te9494692502099327692:K26.S9=PySem.W.Fast.tw9494692502099327692:=PySem.W.Fast.te14576414076294971999
noncomputable def PySem.W.Fast.tw6188488046415527726:List Qd:=PySem.W.Fast.tw16265348093137102138
theorem PySem.W.Fast.te6188488046415527726:K26.S10=PySem.W.Fast.tw6188488046415527726:=PySem.W.Fast.te16265348093137102138
noncomputable def PySem.W.Fast.tw2840911405901441455:List Qd:=PySem.W.Fast.tw7654747625508729447
theorem PySem.W.Fast.te2840911405901441455:K26.S11=PySem.W.Fast.tw2840911405901441455:=PySem.W.Fast.te7654747625508729447
noncomputable def PySem.W.Fast.tw12491695091663904405:List Qd:=PySem.W.Fast.tw7379268596245512346
theorem PySem.W.Fast.te12491695091663904405:K26.S12=PySem.W.Fast.tw12491695091663904405:=PySem.W.Fast.te7379268596245512346
noncomputable def PySem.W.Fast.tw14108898748324363673:List Qd:=PySem.W.Fast.tw12987695195029726478
theorem PySem.W.Fast.te14108898748324363673:K26.S13=PySem.W.Fast.tw14108898748324363673:=PySem.W.Fast.te12987695195029726478
noncomputable def PySem.W.Fast.tw1501121801474322619:List Qd:=PySem.W.Fast.tw11112010064729480561
theorem PySem.W.Fast.te1501121801474322619:K26.S14=PySem.W.Fast.tw1501121801474322619:=PySem.W.Fast.te11112010064729480561
noncomputable def PySem.W.Fast.tw1659561667970340703:List Qd:=PySem.W.Fast.tw12519458006709412405
theorem PySem.W.Fast.te1659561667970340703:K26.S15=PySem.W.Fast.tw1659561667970340703:=PySem.W.Fast.te12519458006709412405
namespace K26
open PySem L2 PySem.W
noncomputable def zs (i j:Nat):Stmt:=match top i with | .ClassDef _ _ _ b _ _ _ _ _ _ _=>b.getD j (.Pass ⟨0,0,0,0⟩) | s=>s
noncomputable def ze (P:Params)(s:Str)(t:Tok)(v:Value):DictEntry:=⟨PyData.keyHash P s,.str s t,v⟩
noncomputable abbrev B:=P6
noncomputable def evb (l:List Obj):Bool->List Obj:=@List.rec Obj (fun _=>Bool->List Obj) (fun _=>[]) (fun a _ ih b=>@Bool.rec (fun _=>List Obj) (ih true) (a::ih false) b) l
noncomputable def tO (l:List Obj):B:=@Nat.rec (fun _=>List Obj->B) (fun _=>.nil) (fun _ ih l=>@List.rec Obj (fun _=>B) .nil (fun x r _=>.node x (ih (evb r true)) (ih (evb r false))) l) 12 l
noncomputable def zv:List (Str×Tok)->List Value
 | []=>[]
 | (a,b)::t=>.str a b::zv t
noncomputable def zu (l:List (Str×Tok)):Obj:=⟨.type "tuple",none,.seq ⟨zv l⟩,#[]⟩
noncomputable def zt (c:String)(d:Data):Obj:=⟨.type c,none,d,#[]⟩
noncomputable def zf (n q:Str)(s:Stmt)(m:Str)(t:Tok)(c:Addr):Obj:=⟨.type "function",none,.func (Pk n q (Bp s) (Bg s) (Am s) .none .none .none (.str m t) none (.ref c) .none),#[]⟩
noncomputable def zh (n q:Str)(s:Stmt):Obj:=⟨.none,none,.func ⟨n,q,Bp s,.stmts (Bg s),Am s,0,[],.none,.none,.none,.none,none,.none,.none,0⟩,#[]⟩
noncomputable def zk (n q:Str)(t:Tok)(l a g:Int)(r:Addr)(b:Bool)(x:Value)(u:Int)(v:Tok):Obj:=⟨.type "code",none,.fields #[.str n t,.str q (t+1),.str "/claim/cut.py" (t+2),.int l 0,.int a 0,.int 0 0,.int 0 0,.int g 0,.ref r,.bool b,.int 181 0,.ref (r+1),.none,.none,.none,x,.int u 0,.int l 0,.str "/claim/cut.py" v],#[]⟩
noncomputable def zw:List (Int×Int×Addr)->List Value
 | []=>[]
 | (a,b,c)::t=>.int a 0::.int b 0::.ref c::zw t
noncomputable def zy (l:List (Int×Int×Addr)):Obj:=⟨.none,none,.fields ⟨zw l⟩,#[]⟩
noncomputable def zc (n q:Str)(t:Tok)(l a g:Int)(r:Addr)(u:Int)(v:Tok):Obj:=⟨.type "code",none,.fields #[.str n t,.str q (t+1),.str "/claim/cut.py" (t+2),.int l 0,.int a 0,.int 0 0,.int 0 0,.int g 0,.ref r,.bool true,.int 181 0,.ref (r+1),.none,.ref (r+2),.ref (r+3),.ref (r+4),.int u 0,.int l 0,.str "/claim/cut.py" v],#[]⟩
noncomputable def zb (n:Str):=zc n n
noncomputable def zi (n:Str):=zf n n
noncomputable def zj (n:Str):=zh n n
noncomputable section
def d0 (P:Params):=[ze P "__name__" 165 (.str "gapscribe.errors" 194),ze P "__doc__" 166 .none,ze P "__package__" 167 .none,ze P "__loader__" 168 (.builtin "__main__.__loader__#opaque"),ze P "__spec__" 169 .none,ze P "__annotations__" 170 (.ref 6),ze P "__builtins__" 171 (.ref 4),ze P "__file__" 173 (.str "/claim/cut.py" 172),ze P "__cached__" 174 .none,ze P "_wall" 193 (.ref 21),ze P "GapError" 213 (.ref 31)]
def z0 (P:Params):=zt "dict" (.dict ⟨d0 P⟩ 11)
def z1:=zt "tuple" (.seq #[])
noncomputable def y0:List (Int×Int×Addr):=[(1,0,20),(5,0,27)]
def z2:=zy y0
def z3:=zk "<module>" "<module>" 182 1 0 0 11 false .none 185 186
noncomputable def Ds (x0:Nat)(x1:Nat)(x2:Str)(x3:Nat):Obj:=Obj.mk (.type "frame") none Data.plain #[some (.ref x0),some (.ref 3),some (.ref x1),none,some (.str x2 x3),none,some (.ref 0)]
def z4:=Ds 13 3 "__main__" 164
def h0_0 (P:Params)(t:List Obj):=(boot_o_0 P)::(boot_o_1 P)::(boot_o_2 P)::(z0 P)::(boot_o_4 P)::(boot_o_5 P)::(boot_o_6 P)::(boot_o_7 P)::(boot_o_8 P)::(boot_o_9 P)::(boot_o_10 P)::z1::z2::z3::z4::z1::t
noncomputable def z5:=Obj.mk .none none (.fields #[]) #[]
def z6:=zu [("k",190)]
def z7:=zj "_wall" w0
def z8:=zb "_wall" 187 1 1 3 15 191 192
def z9:=zi "_wall" w0 "__main__" 164 20
def z10:=zt "tuple" (.seq #[.type "ValueError"])
def z11:=zt "builtin_function_or_method" (.fields #[.builtin "type.__prepare__",.type "type"])
def zq1 (P:Params)(x0:Nat)(x1:Str)(x2:Int)(x3:Nat):Obj:=zt "dict" (.dict #[ze P "__module__" x0 (.str "gapscribe.errors" 194),ze P "__qualname__" (x0+2) (.str x1 (x0+1)),ze P "__firstlineno__" (x0+4) (.int x2 (x0+3)),ze P "__static_attributes__" (x0+5) (.ref x3)] 4)
def z12 (P:Params):=zq1 P 203 "GapError" 5 29
def z13:=zk "GapError" "GapError" 198 5 0 0 25 false .none 201 202
def z14:=Ds 27 24 "gapscribe.errors" 194
def z15 (P:Params):=zt "dict" (.dict #[ze P "__module__" 203 (.str "gapscribe.errors" 194),ze P "__firstlineno__" 207 (.int 5 206),ze P "__static_attributes__" 208 (.ref 29),ze P "__weakref__" 210 (.ref 32),ze P "__doc__" 211 .none] 3)
noncomputable def zq2 (x0:List Value):Obj:=Obj.mk (.type "type") none (.cls (ClassData.mk "GapError" [.type "ValueError"] [.ref 31,.type "ValueError",.type "Exception",.type "BaseException",.type "object"] 30 "GapError" true [] x0 false none false)) #[some (.ref 22),none,some (.str "GapError" 196),some (.str "GapError" 204),some (.builtin "ValueError.__new__"),some (.bool true)]
def z16:=zq2 []
def h1_0 (P:Params)(t:List Obj):=z5::z6::z1::z7::z8::z9::z10::z11::(z12 P)::z1::z5::z13::z14::z1::(z15 P)::z16::t
def z17:=zt "getset_descriptor" (.fields #[.str "__weakref__" 209,.ref 31,.builtin "ExceptionGroup.__weakref__",.none])
def z18:=zt "super" (.fields #[.ref 31,.ref 31,.ref 31])
def D7 (x0:Nat):Obj:=zt "builtin_function_or_method" (.fields #[.builtin "object.__init_subclass__",.ref x0])
def z19:=D7 31
def h2_0 (P:Params)(t:List Obj):=z17::z18::z19::t
def Rtree_70:Params->B:=fun P=>tO (h0_0 P (h1_0 P (h2_0 P [])))
def d1 (P:Params):=d0 P++[ze P "NoForm" 229 (.ref 44)]
def z20 (P:Params):=zt "dict" (.dict ⟨d1 P⟩ 12)
def y1:List (Int×Int×Addr):=y0++[(7,0,40)]
def z21:=zy y1
def Cz (P:Params)(x0 x1:Obj)(t:List Obj):List Obj:=(boot_o_0 P)::(boot_o_1 P)::(boot_o_2 P)::x0::(boot_o_4 P)::(boot_o_5 P)::(boot_o_6 P)::(boot_o_7 P)::(boot_o_8 P)::(boot_o_9 P)::(boot_o_10 P)::z1::x1::z3::z4::z1::t
def h3_0 (P:Params)(t:List Obj):=Cz P (z20 P) z21 t
def z22:=zq2 [.ref 44]
def h4_0 (P:Params)(t:List Obj):=z5::z6::z1::z7::z8::z9::z10::z11::(z12 P)::z1::z5::z13::z14::z1::(z15 P)::z22::t
def z23:=zt "tuple" (.seq #[.ref 31])
def z24 (P:Params):=zq1 P 221 "NoForm" 7 42
def z25:=zk "NoForm" "NoForm" 216 7 0 0 38 false .none 219 220
def z26:=Ds 40 37 "gapscribe.errors" 194
def z27 (P:Params):=zt "dict" (.dict #[ze P "__module__" 221 (.str "gapscribe.errors" 194),ze P "__firstlineno__" 225 (.int 7 224),ze P "__static_attributes__" 226 (.ref 42),ze P "__doc__" 227 .none] 2)
noncomputable def zq4 (x0:Str)(x1:Nat)(x2:Nat)(x3:Nat)(x4:Nat):Obj:=Obj.mk (.type "type") none (.cls (ClassData.mk x0 [.ref 31] [.ref x1,.ref 31,.type "ValueError",.type "Exception",.type "BaseException",.type "object"] x2 x0 true [] [] false none false)) #[some (.ref x3),none,some (.str x0 x4),some (.str x0 (x4+8)),some (.builtin "ValueError.__new__"),some (.bool true)]
def z28:=zq4 "NoForm" 44 43 35 214
def z29:=zt "super" (.fields #[.ref 44,.ref 44,.ref 44])
def z30:=D7 44
def h5_0 (P:Params)(t:List Obj):=z17::z18::z19::z23::z11::(z24 P)::z1::z5::z25::z26::z1::(z27 P)::z28::z29::z30::t
def Rtree_85:Params->B:=fun P=>tO (h3_0 P (h4_0 P (h5_0 P [])))
def d2 (P:Params):=d1 P++[ze P "NoDeed" 245 (.ref 56)]
def z31 (P:Params):=zt "dict" (.dict ⟨d2 P⟩ 13)
def y2:List (Int×Int×Addr):=y1++[(9,0,52)]
def z32:=zy y2
def h6_0 (P:Params)(t:List Obj):=Cz P (z31 P) z32 t
def z33:=zq2 [.ref 44,.ref 56]
def h7_0 (P:Params)(t:List Obj):=z5::z6::z1::z7::z8::z9::z10::z11::(z12 P)::z1::z5::z13::z14::z1::(z15 P)::z33::t
def C3 (P:Params)(t:List Obj):List Obj:=z17::z18::z19::z23::z11::(z24 P)::z1::z5::z25::z26::z1::(z27 P)::z28::z29::z30::z23::t
def z34 (P:Params):=zq1 P 237 "NoDeed" 9 54
def z35:=zk "NoDeed" "NoDeed" 232 9 0 0 50 false .none 235 236
def z36:=Ds 52 49 "gapscribe.errors" 194
def z37 (P:Params):=zt "dict" (.dict #[ze P "__module__" 237 (.str "gapscribe.errors" 194),ze P "__firstlineno__" 241 (.int 9 240),ze P "__static_attributes__" 242 (.ref 54),ze P "__doc__" 243 .none] 2)
def z38:=zq4 "NoDeed" 56 55 47 230
def z39:=zt "super" (.fields #[.ref 56,.ref 56,.ref 56])
def z40:=D7 56
def h9_0 (P:Params)(t:List Obj):=z11::(z34 P)::z1::z5::z35::z36::z1::(z37 P)::z38::z39::z40::t
def Rtree_100:Params->B:=fun P=>tO (h6_0 P (h7_0 P (C3 P (h9_0 P []))))
def d3 (P:Params):=[ze P "__name__" 165 (.str "gapscribe.forms" 271),ze P "__doc__" 166 .none,ze P "__package__" 167 .none,ze P "__loader__" 168 (.builtin "__main__.__loader__#opaque"),ze P "__spec__" 169 .none,ze P "__annotations__" 170 (.ref 6),ze P "__builtins__" 171 (.ref 4),ze P "__file__" 173 (.str "/claim/cut.py" 172),ze P "__cached__" 174 .none,ze P "_wall" 193 (.ref 21),ze P "GapError" 213 (.ref 31),ze P "NoForm" 229 (.ref 44),ze P "NoDeed" 245 (.ref 56),ze P "NoPlace" 270 (.ref 75),ze P "GAP" 274 (.ref 79)]
def z41 (P:Params):=zt "dict" (.dict ⟨d3 P⟩ 15)
def y3:List (Int×Int×Addr):=y2++[(11,0,64)]
def z42:=zy y3
def Zju (P:Params)(t:List Obj):List Obj:=Cz P (z41 P) z42 t
def z43:=zq2 [.ref 44,.ref 56,.ref 75]
def C8 (P:Params)(t:List Obj):List Obj:=z5::z6::z1::z7::z8::z9::z10::z11::(z12 P)::z1::z5::z13::z14::z1::(z15 P)::z43::t
def d4 (P:Params):=[ze P "__module__" 253 (.str "gapscribe.errors" 194),ze P "__qualname__" 255 (.str "NoPlace" 254),ze P "__firstlineno__" 257 (.int 11 256),ze P "__init__" 265 (.ref 72),ze P "__static_attributes__" 267 (.ref 73)]
def z44 (P:Params):=zt "dict" (.dict ⟨d4 P⟩ 5)
noncomputable def y4:List (Int×Int×Addr):=[(13,4,71)]
def z45:=zy y4
def C7 (P:Params)(t:List Obj):List Obj:=z11::(z34 P)::z1::z5::z35::z36::z1::(z37 P)::z38::z39::z40::z23::z11::(z44 P)::z1::z45::t
def z46:=zk "NoPlace" "NoPlace" 248 11 0 0 62 false .none 251 252
def z47:=Ds 64 61 "gapscribe.errors" 194
def z48:=zu [("self",261),("place",262)]
def z49:=zh "__init__" "NoPlace.__init__" Mb
def z50:=zc "__init__" "NoPlace.__init__" 258 13 2 3 66 263 264
def z51:=zf "__init__" "NoPlace.__init__" Mb "gapscribe.errors" 194 71
def z52:=zu [("place",266)]
def z53 (P:Params):=zt "dict" (.dict #[ze P "__module__" 253 (.str "gapscribe.errors" 194),ze P "__firstlineno__" 257 (.int 11 256),ze P "__init__" 265 (.ref 72),ze P "__static_attributes__" 267 (.ref 73),ze P "__doc__" 268 .none] 2)
def z54:=zq4 "NoPlace" 75 74 59 246
def z55:=zt "super" (.fields #[.ref 75,.ref 75,.ref 75])
def z56:=D7 75
def z57:=zt "tuple" (.seq #[.str "gap" 273,.none,.ref 78])
def Dc (P:Params)(t:List Obj):List Obj:=z46::z47::z1::z5::z48::z1::z49::z50::z51::z52::(z53 P)::z54::z55::z56::z1::z57::t
def Rtree_124:Params->B:=fun P=>tO (Zju P (C8 P (C3 P (C7 P (Dc P [])))))
def d5 (P:Params):=d3 P++[ze P "PARTS_OF_WORDS" 314 (.ref 80),ze P "NAME_SIGNS" 316 (.str "abcdefghijklmnopqrstuvwxyz_" 315),ze P "FIGURES" 318 (.str "0123456789" 317),ze P "WORDS_NO_NAMES" 328 (.ref 81),ze P "WORDS_NOT_ODD" 339 (.ref 82),ze P "is_whole" 346 (.ref 89),ze P "is_name" 352 (.ref 94),ze P "is_figures" 358 (.ref 99),ze P "is_odd_sign" 365 (.ref 106),ze P "is_odd" 371 (.ref 111)]
def z58 (P:Params):=zt "dict" (.dict ⟨d5 P⟩ 25)
def y5:List (Int×Int×Addr):=y3++[(22,0,88),(24,0,93),(28,0,98),(32,0,105),(34,0,110)]
def z59:=zy y5
def Zrx (P:Params)(t:List Obj):List Obj:=Cz P (z58 P) z59 t
def d6 (P:Params):=[ze P "gap" 275 (.int 0 276),ze P "odd" 277 (.int 0 278),ze P "num" 279 (.int 0 280),ze P "truth" 281 (.int 0 282),ze P "name" 283 (.int 0 284),ze P "plus" 285 (.int 2 286),ze P "minus" 287 (.int 2 288),ze P "less" 289 (.int 2 290),ze P "call" 291 (.int 2 292),ze P "if" 293 (.int 3 294),ze P "fn" 295 (.int 1 296),ze P "rec" 297 (.int 1 298),ze P "let" 299 (.int 2 300)]
def z60 (P:Params):=zt "dict" (.dict ⟨d6 P⟩ 13)
def z61:=zu [("let",319),("in",320),("if",321),("then",322),("else",323),("fn",324),("rec",325),("yes",326),("no",327)]
def z62:=zu [("let",329),("if",330),("fn",331),("rec",332),("yes",333),("no",334),("?",335),("+",336),("-",337),("<",338)]
def z63:=zu [("thing",343)]
def z64:=zj "is_whole" Kt
def z65:=zb "is_whole" 340 22 1 3 83 344 345
def z66:=zi "is_whole" Kt "gapscribe.forms" 271 88
def z67:=zj "is_name" J5
def z68:=zk "is_name" "is_name" 347 24 1 3 90 true (.ref 92) 350 351
def z69:=zi "is_name" J5 "gapscribe.forms" 271 93
def Dj (P:Params)(t:List Obj):List Obj:=(z60 P)::z61::z62::z1::z5::z63::z1::z64::z65::z66::z1::z5::z67::z68::z69::z1::t
def z70:=zj "is_figures" Kf
def z71:=zk "is_figures" "is_figures" 353 28 1 3 95 true (.ref 97) 356 357
def z72:=zi "is_figures" Kf "gapscribe.forms" 271 98
def z73:=zu [("sign",362)]
def z74:=zj "is_odd_sign" Mn
def z75:=zb "is_odd_sign" 359 32 1 3 100 363 364
def z76:=zi "is_odd_sign" Mn "gapscribe.forms" 271 105
def z77:=zj "is_odd" Ly
def z78:=zk "is_odd" "is_odd" 366 34 1 3 107 true (.ref 109) 369 370
def z79:=zi "is_odd" Ly "gapscribe.forms" 271 110
def Dr (P:Params)(t:List Obj):List Obj:=z5::z70::z71::z72::z1::z5::z73::z1::z74::z75::z76::z1::z5::z77::z78::z79::t
def Rtree_158:Params->B:=fun P=>tO (Zrx P (C8 P (C3 P (C7 P (Dc P (Dj P (Dr P [])))))))
def d7 (P:Params):=[ze P "__name__" 165 (.str "gapscribe.deeds" 476),ze P "__doc__" 166 .none,ze P "__package__" 167 .none,ze P "__loader__" 168 (.builtin "__main__.__loader__#opaque"),ze P "__spec__" 169 .none,ze P "__annotations__" 170 (.ref 6),ze P "__builtins__" 171 (.ref 4),ze P "__file__" 173 (.str "/claim/cut.py" 172),ze P "__cached__" 174 .none,ze P "_wall" 193 (.ref 21),ze P "GapError" 213 (.ref 31),ze P "NoForm" 229 (.ref 44),ze P "NoDeed" 245 (.ref 56),ze P "NoPlace" 270 (.ref 75),ze P "GAP" 274 (.ref 79),ze P "PARTS_OF_WORDS" 314 (.ref 80),ze P "NAME_SIGNS" 316 (.str "abcdefghijklmnopqrstuvwxyz_" 315),ze P "FIGURES" 318 (.str "0123456789" 317),ze P "WORDS_NO_NAMES" 328 (.ref 81),ze P "WORDS_NOT_ODD" 339 (.ref 82),ze P "is_whole" 346 (.ref 89),ze P "is_name" 352 (.ref 94),ze P "is_figures" 358 (.ref 99),ze P "is_odd_sign" 365 (.ref 106),ze P "is_odd" 371 (.ref 111),ze P "is_word" 378 (.ref 118),ze P "is_two_names" 385 (.ref 125),ze P "is_note" 393 (.ref 132),ze P "is_top_of_form" 400 (.ref 139),ze P "is_form" 409 (.ref 146),ze P "many_parts" 416 (.ref 153),ze P "bare" 425 (.ref 160),ze P "has_part" 435 (.ref 167),ze P "forms_down_to" 445 (.ref 174),ze P "form_at" 453 (.ref 181),ze P "with_part" 463 (.ref 188),ze P "with_at" 475 (.ref 195)]
def z80 (P:Params):=zt "dict" (.dict ⟨d7 P⟩ 37)
def y6:List (Int×Int×Addr):=y5++[(40,0,117),(42,0,124),(44,0,131),(56,0,138),(62,0,145),(70,0,152),(74,0,159),(80,0,166),(82,0,173),(89,0,180),(91,0,187),(94,0,194)]
def z81:=zy y6
def Zut (P:Params)(t:List Obj):List Obj:=Cz P (z80 P) z81 t
def z82:=zu [("thing",375)]
def z83:=zj "is_word" Ki
def z84:=zb "is_word" 372 40 1 3 112 376 377
def z85:=zi "is_word" Ki "gapscribe.forms" 271 117
def z86:=zu [("thing",382)]
def z87:=zj "is_two_names" K4
def z88:=zb "is_two_names" 379 42 1 3 119 383 384
def z89:=zi "is_two_names" K4 "gapscribe.forms" 271 124
def Dz (P:Params)(t:List Obj):List Obj:=z1::z5::z82::z1::z83::z84::z85::z1::z5::z86::z1::z87::z88::z89::z1::z5::t
def z90:=zu [("word",389),("note",390)]
def z91:=zj "is_note" Kg
def z92:=zb "is_note" 386 44 2 3 126 391 392
def z93:=zi "is_note" Kg "gapscribe.forms" 271 131
def z94:=zu [("thing",397)]
def z95:=zj "is_top_of_form" Kl
def z96:=zb "is_top_of_form" 394 56 1 3 133 398 399
def z97:=zi "is_top_of_form" Kl "gapscribe.forms" 271 138
def z98:=zu [("thing",404),("waiting",405),("top",406)]
def Dw (P:Params)(t:List Obj):List Obj:=z90::z1::z91::z92::z93::z1::z5::z94::z1::z95::z96::z97::z1::z5::z98::z1::t
def z99:=zj "is_form" Ls
def z100:=zb "is_form" 401 62 1 3 140 407 408
def z101:=zi "is_form" Ls "gapscribe.forms" 271 145
def z102:=zu [("word",413)]
def z103:=zj "many_parts" Jy
def z104:=zb "many_parts" 410 70 1 3 147 414 415
def z105:=zi "many_parts" Jy "gapscribe.forms" 271 152
def z106:=zu [("word",420),("note",421),("many",422)]
def z107:=zj "bare" J6
def z108:=zb "bare" 417 74 2 3 154 423 424
def D9 (P:Params)(t:List Obj):List Obj:=z99::z100::z101::z1::z5::z102::z1::z103::z104::z105::z1::z5::z106::z1::z107::z108::t
def z109:=zi "bare" J6 "gapscribe.forms" 271 159
def z110:=zu [("form",431),("number",432)]
def z111:=zj "has_part" Km
def z112:=zb "has_part" 428 80 2 3 161 433 434
def z113:=zi "has_part" Km "gapscribe.places" 426 166
def z114:=zu [("tree",439),("place",440),("passed",441),("number",442)]
def z115:=zj "forms_down_to" Jc
def z116:=zb "forms_down_to" 436 82 2 3 168 443 444
def z117:=zi "forms_down_to" Jc "gapscribe.places" 426 173
def Dx (P:Params)(t:List Obj):List Obj:=z109::z1::z5::z110::z1::z111::z112::z113::z1::z5::z114::z1::z115::z116::z117::z1::t
def z118:=zu [("tree",449),("place",450)]
def z119:=zj "form_at" Il
def z120:=zb "form_at" 446 89 2 3 175 451 452
def z121:=zi "form_at" Il "gapscribe.places" 426 180
def z122:=zu [("form",457),("number",458),("part",459),("parts",460)]
def z123:=zj "with_part" K9
def z124:=zb "with_part" 454 91 3 3 182 461 462
def z125:=zi "with_part" K9 "gapscribe.places" 426 187
def z126:=zu [("tree",467),("place",468),("form",469),("made",470),("number",471),("above",472)]
def D3 (P:Params)(t:List Obj):List Obj:=z5::z118::z1::z119::z120::z121::z1::z5::z122::z1::z123::z124::z125::z1::z5::z126::t
def z127:=zj "with_at" Jv
def Zbl:Obj:=zb "with_at" 464 94 3 3 189 473 474
def Zcq:Obj:=zi "with_at" Jv "gapscribe.places" 426 194
def Zo8 (P:Params)(t:List Obj):List Obj:=z1::z127::Zbl::Zcq::t
def Rtree_246:Params->B:=fun P=>tO (Zut P (C8 P (C3 P (C7 P (Dc P (Dj P (Dr P (Dz P (Dw P (D9 P (Dx P (D3 P (Zo8 P [])))))))))))))
def d8 (P:Params):=d7 P++[ze P "refuse_no_form" 484 (.ref 202),ze P "refuse_no_gap" 491 (.ref 209),ze P "Deed" 527 (.ref 233)]
def z130 (P:Params):=zt "dict" (.dict ⟨d8 P⟩ 40)
def y7:List (Int×Int×Addr):=y6++[(100,0,201),(103,0,208),(106,0,215)]
def z131:=zy y7
def Zre (P:Params)(t:List Obj):List Obj:=Cz P (z130 P) z131 t
def z132:=zu [("thing",481)]
def z133:=zj "refuse_no_form" J0
def z134:=zb "refuse_no_form" 478 100 1 3 196 482 483
def z135:=zi "refuse_no_form" J0 "gapscribe.deeds" 476 201
def z136:=zu [("form",488)]
def z137:=zj "refuse_no_gap" Li
def Ed (P:Params)(t:List Obj):List Obj:=z1::z127::Zbl::Zcq::z1::z5::z132::z1::z133::z134::z135::z1::z5::z136::z1::z137::t
def z138:=zb "refuse_no_gap" 485 103 1 3 203 489 490
def z139:=zi "refuse_no_gap" Li "gapscribe.deeds" 476 208
def d9 (P:Params):=[ze P "__module__" 499 (.str "gapscribe.deeds" 476),ze P "__qualname__" 501 (.str "Deed" 500),ze P "__firstlineno__" 503 (.int 106 502),ze P "done" 511 (.ref 223),ze P "back" 519 (.ref 230),ze P "__static_attributes__" 520 (.ref 231)]
def z140 (P:Params):=zt "dict" (.dict ⟨d9 P⟩ 6)
noncomputable def y8:List (Int×Int×Addr):=[(108,4,222),(111,4,229)]
def z141:=zy y8
def z142:=zk "Deed" "Deed" 494 106 0 0 213 false .none 497 498
def z143:=Ds 215 212 "gapscribe.deeds" 476
def z144:=zu [("self",507),("form",508)]
def z145:=zh "done" "Deed.done" J4
def z146:=zc "done" "Deed.done" 504 108 2 3 217 509 510
def z147:=zf "done" "Deed.done" J4 "gapscribe.deeds" 476 222
def Ei (P:Params)(t:List Obj):List Obj:=z138::z139::z1::z11::(z140 P)::z1::z141::z142::z143::z1::z5::z144::z1::z145::z146::z147::t
def Gh:Obj:=zu [("self",515),("form",516)]
def Gk:Obj:=zh "back" "Deed.back" (A8 34 1)
def Gp:Obj:=zc "back" "Deed.back" 512 111 2 3 224 517 518
def G8:Obj:=zf "back" "Deed.back" (A8 34 1) "gapscribe.deeds" 476 229
def d10 (P:Params):=[ze P "__module__" 499 (.str "gapscribe.deeds" 476),ze P "__firstlineno__" 503 (.int 106 502),ze P "done" 511 (.ref 223),ze P "back" 519 (.ref 230),ze P "__static_attributes__" 520 (.ref 231),ze P "__dict__" 522 (.ref 234),ze P "__weakref__" 524 (.ref 235),ze P "__doc__" 525 .none]
def Fm (P:Params):Obj:=zt "dict" (.dict ⟨d10 P⟩ 4)
noncomputable def Gi (x0:List Value):Obj:=Obj.mk (.type "type") none (.cls (ClassData.mk "Deed" [.type "object"] [.ref 233,.type "object"] 232 "Deed" true [] x0 false none false)) #[none,none,some (.str "Deed" 492),some (.str "Deed" 500),some (.builtin "object.__new__"),some (.bool true)]
def z153:=Gi []
def Gu:Obj:=zt "getset_descriptor" (.fields #[.str "__dict__" 521,.ref 233,.builtin "function.__dict__",.builtin "function.__dict__#set"])
def Gy:Obj:=zt "getset_descriptor" (.fields #[.str "__weakref__" 523,.ref 233,.builtin "ExceptionGroup.__weakref__",.none])
def Gv:Obj:=zt "super" (.fields #[.ref 233,.ref 233,.ref 233])
def Gn:Obj:=D7 233
def Zoc (P:Params)(t:List Obj):List Obj:=z1::z5::Gh::z1::Gk::Gp::G8::z1::(Fm P)::z153::Gu::Gy::Gv::Gn::t
def Rtree_290:Params->B:=fun P=>tO (Zre P (C8 P (C3 P (C7 P (Dc P (Dj P (Dr P (Dz P (Dw P (D9 P (Dx P (D3 P (Ed P (Ei P (Zoc P [])))))))))))))))
def d11 (P:Params):=d8 P++[ze P "Put" 569 (.ref 269)]
def z158 (P:Params):=zt "dict" (.dict ⟨d11 P⟩ 41)
def y9:List (Int×Int×Addr):=y7++[(113,0,243)]
def z159:=zy y9
def Zn2 (P:Params)(t:List Obj):List Obj:=Cz P (z158 P) z159 t
def z160:=Gi [.ref 269]
def De:Obj:=zt "tuple" (.seq #[.ref 233])
def Ztr (P:Params)(t:List Obj):List Obj:=z1::z5::Gh::z1::Gk::Gp::G8::z1::(Fm P)::z160::Gu::Gy::Gv::Gn::De::z11::t
def d12 (P:Params):=[ze P "__module__" 535 (.str "gapscribe.deeds" 476),ze P "__qualname__" 537 (.str "Put" 536),ze P "__firstlineno__" 539 (.int 113 538),ze P "__init__" 548 (.ref 252),ze P "done" 556 (.ref 259),ze P "back" 564 (.ref 266),ze P "__static_attributes__" 566 (.ref 267)]
def z162 (P:Params):=zt "dict" (.dict ⟨d12 P⟩ 7)
noncomputable def y10:List (Int×Int×Addr):=[(115,4,251),(120,4,258),(124,4,265)]
def z163:=zy y10
def z164:=zk "Put" "Put" 530 113 0 0 241 false .none 533 534
def z165:=Ds 243 240 "gapscribe.deeds" 476
def z166:=zt "tuple" (.seq #[.none])
def z167:=zu [("self",543),("word",544),("note",545)]
def z168:=zh "__init__" "Put.__init__" Cd
def z169:=zc "__init__" "Put.__init__" 540 115 3 3 246 546 547
noncomputable def z170:=Obj.mk (Value.type "function") none (.func ⟨"__init__", "Put.__init__",Bp Cd,.stmts (Bg Cd),Am Cd,3,[],.ref 245,.none,.none,.str "gapscribe.deeds" 476,none,.ref 251,.none,0⟩) #[]
def z171:=zu [("self",552),("form",553)]
def En (P:Params)(t:List Obj):List Obj:=(z162 P)::z1::z163::z164::z165::z166::z1::z5::z167::z1::z168::z169::z170::z1::z5::z171::t
def z172:=zh "done" "Put.done" K1
def z173:=zc "done" "Put.done" 549 120 2 3 253 554 555
def z174:=zf "done" "Put.done" K1 "gapscribe.deeds" 476 258
def z175:=zu [("self",560),("form",561)]
def z176:=zh "back" "Put.back" Zco
def z177:=zc "back" "Put.back" 557 124 2 3 260 562 563
def z178:=zf "back" "Put.back" Zco "gapscribe.deeds" 476 265
def z179:=zu [("form",565)]
def d13 (P:Params):=[ze P "__module__" 535 (.str "gapscribe.deeds" 476),ze P "__firstlineno__" 539 (.int 113 538),ze P "__init__" 548 (.ref 252),ze P "done" 556 (.ref 259),ze P "back" 564 (.ref 266),ze P "__static_attributes__" 566 (.ref 267),ze P "__doc__" 567 .none]
def z180 (P:Params):=zt "dict" (.dict ⟨d13 P⟩ 2)
noncomputable def Hl (x0:Str)(x1:Nat)(x2:Nat)(x3:Nat)(x4:Nat):Obj:=Obj.mk (.type "type") none (.cls (ClassData.mk x0 [.ref 233] [.ref x1,.ref 233,.type "object"] x2 x0 true [] [] false none false)) #[some (.ref x3),none,some (.str x0 x4),some (.str x0 (x4+8)),some (.builtin "object.__new__"),some (.bool true)]
def z181:=Hl "Put" 269 268 238 528
def z182:=zt "super" (.fields #[.ref 269,.ref 269,.ref 269])
def z183:=D7 269
def Ew (P:Params)(t:List Obj):List Obj:=z1::z172::z173::z174::z1::z5::z175::z1::z176::z177::z178::z179::(z180 P)::z181::z182::z183::t
def Rtree_327:Params->B:=fun P=>tO (Zn2 P (C8 P (C3 P (C7 P (Dc P (Dj P (Dr P (Dz P (Dw P (D9 P (Dx P (D3 P (Ed P (Ei P (Ztr P (En P (Ew P [])))))))))))))))))
def d14 (P:Params):=d11 P++[ze P "Fill" 610 (.ref 302)]
def z184 (P:Params):=zt "dict" (.dict ⟨d14 P⟩ 42)
def y11:List (Int×Int×Addr):=y9++[(126,0,277)]
def z185:=zy y11
def Znd (P:Params)(t:List Obj):List Obj:=Cz P (z184 P) z185 t
def z186:=Gi [.ref 269,.ref 302]
def Zn8 (P:Params)(t:List Obj):List Obj:=z1::z5::Gh::z1::Gk::Gp::G8::z1::(Fm P)::z186::Gu::Gy::Gv::Gn::De::z11::t
def d15 (P:Params):=[ze P "__module__" 577 (.str "gapscribe.deeds" 476),ze P "__qualname__" 579 (.str "Fill" 578),ze P "__firstlineno__" 581 (.int 126 580),ze P "__init__" 589 (.ref 285),ze P "done" 597 (.ref 292),ze P "back" 605 (.ref 299),ze P "__static_attributes__" 607 (.ref 300)]
def z187 (P:Params):=zt "dict" (.dict ⟨d15 P⟩ 7)
noncomputable def y12:List (Int×Int×Addr):=[(128,4,284),(134,4,291),(138,4,298)]
def z188:=zy y12
def z189:=zk "Fill" "Fill" 572 126 0 0 275 false .none 575 576
def z190:=Ds 277 274 "gapscribe.deeds" 476
def z191:=zu [("self",585),("form",586)]
def z192:=zh "__init__" "Fill.__init__" Md
def z193:=zc "__init__" "Fill.__init__" 582 128 2 3 279 587 588
def z194:=zf "__init__" "Fill.__init__" Md "gapscribe.deeds" 476 284
def E9 (P:Params)(t:List Obj):List Obj:=De::z11::(z187 P)::z1::z188::z189::z190::z1::z5::z191::z1::z192::z193::z194::z1::z5::t
def z195:=zu [("self",593),("form",594)]
def z196:=zh "done" "Fill.done" Ju
def z197:=zc "done" "Fill.done" 590 134 2 3 286 595 596
def z198:=zf "done" "Fill.done" Ju "gapscribe.deeds" 476 291
def z199:=zu [("self",601),("form",602)]
def z200:=zh "back" "Fill.back" Zai
def z201:=zc "back" "Fill.back" 598 138 2 3 293 603 604
def z202:=zf "back" "Fill.back" Zai "gapscribe.deeds" 476 298
def z203:=zu [("form",606)]
def d16 (P:Params):=[ze P "__module__" 577 (.str "gapscribe.deeds" 476),ze P "__firstlineno__" 581 (.int 126 580),ze P "__init__" 589 (.ref 285),ze P "done" 597 (.ref 292),ze P "back" 605 (.ref 299),ze P "__static_attributes__" 607 (.ref 300),ze P "__doc__" 608 .none]
def z204 (P:Params):=zt "dict" (.dict ⟨d16 P⟩ 2)
def z205:=Hl "Fill" 302 301 272 570
def z206:=zt "super" (.fields #[.ref 302,.ref 302,.ref 302])
def Fh (P:Params)(t:List Obj):List Obj:=z195::z1::z196::z197::z198::z1::z5::z199::z1::z200::z201::z202::z203::(z204 P)::z205::z206::t
def z207:=D7 302
def Zif (P:Params)(t:List Obj):List Obj:=z207::t
def Rtree_363:Params->B:=fun P=>tO (Znd P (C8 P (C3 P (C7 P (Dc P (Dj P (Dr P (Dz P (Dw P (D9 P (Dx P (D3 P (Ed P (Ei P (Zn8 P (En P (Ew P (E9 P (Fh P (Zif P []))))))))))))))))))))
def d17 (P:Params):=d14 P++[ze P "Cut" 642 (.ref 328)]
def z208 (P:Params):=zt "dict" (.dict ⟨d17 P⟩ 43)
def y13:List (Int×Int×Addr):=y11++[(140,0,310)]
def z209:=zy y13
def Zka (P:Params)(t:List Obj):List Obj:=Cz P (z208 P) z209 t
def z210:=Gi [.ref 269,.ref 302,.ref 328]
def Zpd (P:Params)(t:List Obj):List Obj:=z1::z5::Gh::z1::Gk::Gp::G8::z1::(Fm P)::z210::Gu::Gy::Gv::Gn::De::z11::t
def d18 (P:Params):=[ze P "__module__" 618 (.str "gapscribe.deeds" 476),ze P "__qualname__" 620 (.str "Cut" 619),ze P "__firstlineno__" 622 (.int 140 621),ze P "done" 630 (.ref 318),ze P "back" 638 (.ref 325),ze P "__static_attributes__" 639 (.ref 326)]
def z211 (P:Params):=zt "dict" (.dict ⟨d18 P⟩ 6)
noncomputable def y14:List (Int×Int×Addr):=[(142,4,317),(147,4,324)]
def z212:=zy y14
def z213:=zk "Cut" "Cut" 613 140 0 0 308 false .none 616 617
def z214:=Ds 310 307 "gapscribe.deeds" 476
def z215:=zu [("self",626),("form",627)]
def z216:=zh "done" "Cut.done" J2
def z217:=zc "done" "Cut.done" 623 142 2 3 312 628 629
def z218:=zf "done" "Cut.done" J2 "gapscribe.deeds" 476 317
def Gc (P:Params)(t:List Obj):List Obj:=z207::De::z11::(z211 P)::z1::z212::z213::z214::z1::z5::z215::z1::z216::z217::z218::z1::t
def z219:=zu [("self",634),("form",635)]
def z220:=zh "back" "Cut.back" (A8 37 1)
def z221:=zc "back" "Cut.back" 631 147 2 3 319 636 637
def z222:=zf "back" "Cut.back" (A8 37 1) "gapscribe.deeds" 476 324
def d19 (P:Params):=[ze P "__module__" 618 (.str "gapscribe.deeds" 476),ze P "__firstlineno__" 622 (.int 140 621),ze P "done" 630 (.ref 318),ze P "back" 638 (.ref 325),ze P "__static_attributes__" 639 (.ref 326),ze P "__doc__" 640 .none]
def Zbc (P:Params):Obj:=zt "dict" (.dict ⟨d19 P⟩ 2)
def Zce:Obj:=Hl "Cut" 328 327 305 611
def z225:=zt "super" (.fields #[.ref 328,.ref 328,.ref 328])
def z226:=D7 328
def Zt7 (P:Params)(t:List Obj):List Obj:=z5::z219::z1::z220::z221::z222::z1::(Zbc P)::Zce::z225::z226::t
def Rtree_392:Params->B:=fun P=>tO (Zka P (C8 P (C3 P (C7 P (Dc P (Dj P (Dr P (Dz P (Dw P (D9 P (Dx P (D3 P (Ed P (Ei P (Zpd P (En P (Ew P (E9 P (Fh P (Gc P (Zt7 P [])))))))))))))))))))))
def d20 (P:Params):=d17 P++[ze P "Wrap" 687 (.ref 362)]
def z227 (P:Params):=zt "dict" (.dict ⟨d20 P⟩ 44)
def y15:List (Int×Int×Addr):=y13++[(149,0,336)]
def z228:=zy y15
def Zle (P:Params)(t:List Obj):List Obj:=Cz P (z227 P) z228 t
def z229:=Gi [.ref 269,.ref 302,.ref 328,.ref 362]
def Zlb (P:Params)(t:List Obj):List Obj:=z1::z5::Gh::z1::Gk::Gp::G8::z1::(Fm P)::z229::Gu::Gy::Gv::Gn::De::z11::t
def d21 (P:Params):=[ze P "__module__" 650 (.str "gapscribe.deeds" 476),ze P "__qualname__" 652 (.str "Wrap" 651),ze P "__firstlineno__" 654 (.int 149 653),ze P "__init__" 665 (.ref 345),ze P "done" 673 (.ref 352),ze P "back" 681 (.ref 359),ze P "__static_attributes__" 684 (.ref 360)]
def z230 (P:Params):=zt "dict" (.dict ⟨d21 P⟩ 7)
noncomputable def y16:List (Int×Int×Addr):=[(151,4,344),(157,4,351),(160,4,358)]
def z231:=zy y16
def Hg (P:Params)(t:List Obj):List Obj:=z5::z219::z1::z220::z221::z222::z1::(Zbc P)::Zce::z225::z226::De::z11::(z230 P)::z1::z231::t
def z232:=zk "Wrap" "Wrap" 645 149 0 0 334 false .none 648 649
def z233:=Ds 336 333 "gapscribe.deeds" 476
def z234:=zt "tuple" (.seq #[.none,.int 0 655])
def z235:=zu [("self",659),("word",660),("note",661),("at",662)]
def z236:=zh "__init__" "Wrap.__init__" Cj
def z237:=zc "__init__" "Wrap.__init__" 656 151 4 3 339 663 664
noncomputable def z238:=Obj.mk (Value.type "function") none (.func ⟨"__init__", "Wrap.__init__",Bp Cj,.stmts (Bg Cj),Am Cj,3,[],.ref 338,.none,.none,.str "gapscribe.deeds" 476,none,.ref 344,.none,0⟩) #[]
def z239:=zu [("self",669),("form",670)]
def z240:=zh "done" "Wrap.done" Ld
def z241:=zc "done" "Wrap.done" 666 157 2 3 346 671 672
def Ht (P:Params)(t:List Obj):List Obj:=z232::z233::z234::z1::z5::z235::z1::z236::z237::z238::z1::z5::z239::z1::z240::z241::t
def Zan:Obj:=zf "done" "Wrap.done" Ld "gapscribe.deeds" 476 351
def z243:=zu [("self",677),("form",678)]
def z244:=zh "back" "Wrap.back" Zbe
def z245:=zc "back" "Wrap.back" 674 160 2 3 353 679 680
def z246:=zf "back" "Wrap.back" Zbe "gapscribe.deeds" 476 358
def z247:=zu [("at",682),("form",683)]
def d22 (P:Params):=[ze P "__module__" 650 (.str "gapscribe.deeds" 476),ze P "__firstlineno__" 654 (.int 149 653),ze P "__init__" 665 (.ref 345),ze P "done" 673 (.ref 352),ze P "back" 681 (.ref 359),ze P "__static_attributes__" 684 (.ref 360),ze P "__doc__" 685 .none]
def Zdg (P:Params):Obj:=zt "dict" (.dict ⟨d22 P⟩ 2)
def Zby:Obj:=Hl "Wrap" 362 361 331 643
def z250:=zt "super" (.fields #[.ref 362,.ref 362,.ref 362])
def z251:=D7 362
def Zjm (P:Params)(t:List Obj):List Obj:=Zan::z1::z5::z243::z1::z244::z245::z246::z247::(Zdg P)::Zby::z250::z251::t
def Rtree_429:Params->B:=fun P=>tO (Zle P (C8 P (C3 P (C7 P (Dc P (Dj P (Dr P (Dz P (Dw P (D9 P (Dx P (D3 P (Ed P (Ei P (Zlb P (En P (Ew P (E9 P (Fh P (Gc P (Hg P (Ht P (Zjm P [])))))))))))))))))))))))
def d23 (P:Params):=d20 P++[ze P "Keep" 729 (.ref 396)]
def z252 (P:Params):=zt "dict" (.dict ⟨d23 P⟩ 45)
def y17:List (Int×Int×Addr):=y15++[(162,0,370)]
def z253:=zy y17
def Zus (P:Params)(t:List Obj):List Obj:=Cz P (z252 P) z253 t
def z254:=Gi [.ref 269,.ref 302,.ref 328,.ref 362,.ref 396]
def Zst (P:Params)(t:List Obj):List Obj:=z1::z5::Gh::z1::Gk::Gp::G8::z1::(Fm P)::z254::Gu::Gy::Gv::Gn::De::z11::t
def d24 (P:Params):=[ze P "__module__" 695 (.str "gapscribe.deeds" 476),ze P "__qualname__" 697 (.str "Keep" 696),ze P "__firstlineno__" 699 (.int 162 698),ze P "__init__" 708 (.ref 379),ze P "done" 716 (.ref 386),ze P "back" 724 (.ref 393),ze P "__static_attributes__" 726 (.ref 394)]
def z255 (P:Params):=zt "dict" (.dict ⟨d24 P⟩ 7)
def Ir (P:Params)(t:List Obj):List Obj:=Zan::z1::z5::z243::z1::z244::z245::z246::z247::(Zdg P)::Zby::z250::z251::De::z11::(z255 P)::t
noncomputable def y18:List (Int×Int×Addr):=[(164,4,378),(167,4,385),(172,4,392)]
def z256:=zy y18
def z257:=zk "Keep" "Keep" 690 162 0 0 368 false .none 693 694
def z258:=Ds 370 367 "gapscribe.deeds" 476
def z259:=zt "tuple" (.seq #[.int 0 700])
def z260:=zu [("self",704),("at",705)]
def z261:=zh "__init__" "Keep.__init__" Cg
def z262:=zc "__init__" "Keep.__init__" 701 164 2 3 373 706 707
noncomputable def z263:=Obj.mk (Value.type "function") none (.func ⟨"__init__", "Keep.__init__",Bp Cg,.stmts (Bg Cg),Am Cg,3,[],.ref 372,.none,.none,.str "gapscribe.deeds" 476,none,.ref 378,.none,0⟩) #[]
def z264:=zu [("self",712),("form",713)]
def Jk (P:Params)(t:List Obj):List Obj:=z1::z256::z257::z258::z259::z1::z5::z260::z1::z261::z262::z263::z1::z5::z264::z1::t
def z265:=zh "done" "Keep.done" K2
def Zda:Obj:=zc "done" "Keep.done" 709 167 2 3 380 714 715
def Zah:Obj:=zf "done" "Keep.done" K2 "gapscribe.deeds" 476 385
def z268:=zu [("self",720),("form",721)]
def z269:=zh "back" "Keep.back" Zas
def z270:=zc "back" "Keep.back" 717 172 2 3 387 722 723
def z271:=zf "back" "Keep.back" Zas "gapscribe.deeds" 476 392
def z272:=zu [("at",725)]
def d25 (P:Params):=[ze P "__module__" 695 (.str "gapscribe.deeds" 476),ze P "__firstlineno__" 699 (.int 162 698),ze P "__init__" 708 (.ref 379),ze P "done" 716 (.ref 386),ze P "back" 724 (.ref 393),ze P "__static_attributes__" 726 (.ref 394),ze P "__doc__" 727 .none]
def Zcp (P:Params):Obj:=zt "dict" (.dict ⟨d25 P⟩ 2)
def Zaf:Obj:=Hl "Keep" 396 395 365 688
def z275:=zt "super" (.fields #[.ref 396,.ref 396,.ref 396])
def z276:=D7 396
def Zth (P:Params)(t:List Obj):List Obj:=z265::Zda::Zah::z1::z5::z268::z1::z269::z270::z271::z272::(Zcp P)::Zaf::z275::z276::t
def Rtree_466:Params->B:=fun P=>tO (Zus P (C8 P (C3 P (C7 P (Dc P (Dj P (Dr P (Dz P (Dw P (D9 P (Dx P (D3 P (Ed P (Ei P (Zst P (En P (Ew P (E9 P (Fh P (Gc P (Hg P (Ht P (Ir P (Jk P (Zth P [])))))))))))))))))))))))))
def d26 (P:Params):=d23 P++[ze P "Note" 770 (.ref 429)]
def z277 (P:Params):=zt "dict" (.dict ⟨d26 P⟩ 46)
def y19:List (Int×Int×Addr):=y17++[(174,0,404)]
def z278:=zy y19
def Zs4 (P:Params)(t:List Obj):List Obj:=Cz P (z277 P) z278 t
def z279:=Gi [.ref 269,.ref 302,.ref 328,.ref 362,.ref 396,.ref 429]
def Znp (P:Params)(t:List Obj):List Obj:=z1::z5::Gh::z1::Gk::Gp::G8::z1::(Fm P)::z279::Gu::Gy::Gv::Gn::De::z11::t
def Lz (P:Params)(t:List Obj):List Obj:=z265::Zda::Zah::z1::z5::z268::z1::z269::z270::z271::z272::(Zcp P)::Zaf::z275::z276::De::t
def d27 (P:Params):=[ze P "__module__" 737 (.str "gapscribe.deeds" 476),ze P "__qualname__" 739 (.str "Note" 738),ze P "__firstlineno__" 741 (.int 174 740),ze P "__init__" 749 (.ref 412),ze P "done" 757 (.ref 419),ze P "back" 765 (.ref 426),ze P "__static_attributes__" 767 (.ref 427)]
def z280 (P:Params):=zt "dict" (.dict ⟨d27 P⟩ 7)
noncomputable def y20:List (Int×Int×Addr):=[(176,4,411),(179,4,418),(184,4,425)]
def z281:=zy y20
def z282:=zk "Note" "Note" 732 174 0 0 402 false .none 735 736
def z283:=Ds 404 401 "gapscribe.deeds" 476
def z284:=zu [("self",745),("note",746)]
def z285:=zh "__init__" "Note.__init__" Kk
def z286:=zc "__init__" "Note.__init__" 742 176 2 3 406 747 748
def z287:=zf "__init__" "Note.__init__" Kk "gapscribe.deeds" 476 411
def z288:=zu [("self",753),("form",754)]
def Mj (P:Params)(t:List Obj):List Obj:=z11::(z280 P)::z1::z281::z282::z283::z1::z5::z284::z1::z285::z286::z287::z1::z5::z288::t
def z289:=zh "done" "Note.done" J3
def z290:=zc "done" "Note.done" 750 179 2 3 413 755 756
def z291:=zf "done" "Note.done" J3 "gapscribe.deeds" 476 418
def z292:=zu [("self",761),("form",762)]
def z293:=zh "back" "Note.back" Ox
def z294:=zc "back" "Note.back" 758 184 2 3 420 763 764
def z295:=zf "back" "Note.back" Ox "gapscribe.deeds" 476 425
def z296:=zu [("note",766)]
def d28 (P:Params):=[ze P "__module__" 737 (.str "gapscribe.deeds" 476),ze P "__firstlineno__" 741 (.int 174 740),ze P "__init__" 749 (.ref 412),ze P "done" 757 (.ref 419),ze P "back" 765 (.ref 426),ze P "__static_attributes__" 767 (.ref 427),ze P "__doc__" 768 .none]
def z297 (P:Params):=zt "dict" (.dict ⟨d28 P⟩ 2)
def z298:=Hl "Note" 429 428 399 730
def z299:=zt "super" (.fields #[.ref 429,.ref 429,.ref 429])
def z300:=D7 429
def Mi (P:Params)(t:List Obj):List Obj:=z1::z289::z290::z291::z1::z5::z292::z1::z293::z294::z295::z296::(z297 P)::z298::z299::z300::t
def Rtree_502:Params->B:=fun P=>tO (Zs4 P (C8 P (C3 P (C7 P (Dc P (Dj P (Dr P (Dz P (Dw P (D9 P (Dx P (D3 P (Ed P (Ei P (Znp P (En P (Ew P (E9 P (Fh P (Gc P (Hg P (Ht P (Ir P (Jk P (Lz P (Mj P (Mi P [])))))))))))))))))))))))))))
def d29 (P:Params):=[ze P "__name__" 165 (.str "law_gapscribe_k26_behind_rows" 825),ze P "__doc__" 166 .none,ze P "__package__" 167 .none,ze P "__loader__" 168 (.builtin "__main__.__loader__#opaque"),ze P "__spec__" 169 .none,ze P "__annotations__" 170 (.ref 6),ze P "__builtins__" 171 (.ref 4),ze P "__file__" 173 (.str "/claim/cut.py" 172),ze P "__cached__" 174 .none,ze P "_wall" 193 (.ref 21),ze P "GapError" 213 (.ref 31),ze P "NoForm" 229 (.ref 44),ze P "NoDeed" 245 (.ref 56),ze P "NoPlace" 270 (.ref 75),ze P "GAP" 274 (.ref 79),ze P "PARTS_OF_WORDS" 314 (.ref 80),ze P "NAME_SIGNS" 316 (.str "abcdefghijklmnopqrstuvwxyz_" 315),ze P "FIGURES" 318 (.str "0123456789" 317),ze P "WORDS_NO_NAMES" 328 (.ref 81),ze P "WORDS_NOT_ODD" 339 (.ref 82),ze P "is_whole" 346 (.ref 89),ze P "is_name" 352 (.ref 94),ze P "is_figures" 358 (.ref 99),ze P "is_odd_sign" 365 (.ref 106),ze P "is_odd" 371 (.ref 111),ze P "is_word" 378 (.ref 118),ze P "is_two_names" 385 (.ref 125),ze P "is_note" 393 (.ref 132),ze P "is_top_of_form" 400 (.ref 139),ze P "is_form" 409 (.ref 146),ze P "many_parts" 416 (.ref 153),ze P "bare" 425 (.ref 160),ze P "has_part" 435 (.ref 167),ze P "forms_down_to" 445 (.ref 174),ze P "form_at" 453 (.ref 181),ze P "with_part" 463 (.ref 188),ze P "with_at" 475 (.ref 195),ze P "refuse_no_form" 484 (.ref 202),ze P "refuse_no_gap" 491 (.ref 209),ze P "Deed" 527 (.ref 233),ze P "Put" 569 (.ref 269),ze P "Fill" 610 (.ref 302),ze P "Cut" 642 (.ref 328),ze P "Wrap" 687 (.ref 362),ze P "Keep" 729 (.ref 396),ze P "Note" 770 (.ref 429),ze P "Change" 811 (.ref 462),ze P "behind" 824 (.ref 471),ze P "_law_cell" 836 (.ref 478)]
def z301 (P:Params):=zt "dict" (.dict ⟨d29 P⟩ 49)
def y21:List (Int×Int×Addr):=y19++[(186,0,437),(198,0,470),(204,0,477)]
def z302:=zy y21
def Ztq (P:Params)(t:List Obj):List Obj:=Cz P (z301 P) z302 t
def z303:=Gi [.ref 269,.ref 302,.ref 328,.ref 362,.ref 396,.ref 429,.ref 462]
def N0 (P:Params)(t:List Obj):List Obj:=z1::z5::Gh::z1::Gk::Gp::G8::z1::(Fm P)::z303::Gu::Gy::Gv::Gn::De::z11::t
def d30 (P:Params):=[ze P "__module__" 778 (.str "gapscribe.deeds" 476),ze P "__qualname__" 780 (.str "Change" 779),ze P "__firstlineno__" 782 (.int 186 781),ze P "__init__" 790 (.ref 445),ze P "done" 798 (.ref 452),ze P "back" 806 (.ref 459),ze P "__static_attributes__" 808 (.ref 460)]
def z304 (P:Params):=zt "dict" (.dict ⟨d30 P⟩ 7)
noncomputable def y22:List (Int×Int×Addr):=[(188,4,444),(192,4,451),(195,4,458)]
def z305:=zy y22
def z306:=zk "Change" "Change" 773 186 0 0 435 false .none 776 777
def z307:=Ds 437 434 "gapscribe.deeds" 476
def z308:=zu [("self",786),("form",787)]
def z309:=zh "__init__" "Change.__init__" Lk
def z310:=zc "__init__" "Change.__init__" 783 188 2 3 439 788 789
def z311:=zf "__init__" "Change.__init__" Lk "gapscribe.deeds" 476 444
def M7 (P:Params)(t:List Obj):List Obj:=De::z11::(z304 P)::z1::z305::z306::z307::z1::z5::z308::z1::z309::z310::z311::z1::z5::t
def z312:=zu [("self",794),("form",795)]
def z313:=zh "done" "Change.done" K6
def z314:=zc "done" "Change.done" 791 192 2 3 446 796 797
def z315:=zf "done" "Change.done" K6 "gapscribe.deeds" 476 451
def z316:=zu [("self",802),("form",803)]
def z317:=zh "back" "Change.back" Zbh
def z318:=zc "back" "Change.back" 799 195 2 3 453 804 805
def z319:=zf "back" "Change.back" Zbh "gapscribe.deeds" 476 458
def z320:=zu [("form",807)]
def d31 (P:Params):=[ze P "__module__" 778 (.str "gapscribe.deeds" 476),ze P "__firstlineno__" 782 (.int 186 781),ze P "__init__" 790 (.ref 445),ze P "done" 798 (.ref 452),ze P "back" 806 (.ref 459),ze P "__static_attributes__" 808 (.ref 460),ze P "__doc__" 809 .none]
def z321 (P:Params):=zt "dict" (.dict ⟨d31 P⟩ 2)
def z322:=Hl "Change" 462 461 432 771
def z323:=zt "super" (.fields #[.ref 462,.ref 462,.ref 462])
def Nc (P:Params)(t:List Obj):List Obj:=z312::z1::z313::z314::z315::z1::z5::z316::z1::z317::z318::z319::z320::(z321 P)::z322::z323::t
def z324:=D7 462
def z325:=zu [("tree",817),("row",818),("made",819),("place",820),("deed",821)]
def z326:=zj "behind" Ln
def Za0:Obj:=zb "behind" 814 198 2 3 465 822 823
def Zdh:Obj:=zi "behind" Ln "gapscribe.ways" 812 470
def z329:=zu [("_law_script",830),("_law_k",831),("_law_many_here",832),("_law_first",833)]
def z330:=zj "_law_cell" Mo
def Zbf:Obj:=zb "_law_cell" 827 204 2 3 472 834 835
def Zaj:Obj:=zi "_law_cell" Mo "law_gapscribe_k26_behind_rows" 825 477
def Zsm (P:Params)(t:List Obj):List Obj:=z324::z1::z5::z325::z1::z326::Za0::Zdh::z1::z5::z329::z1::z330::Zbf::Zaj::t
def Rtree_552:Params->B:=fun P=>tO (Ztq P (C8 P (C3 P (C7 P (Dc P (Dj P (Dr P (Dz P (Dw P (D9 P (Dx P (D3 P (Ed P (Ei P (N0 P (En P (Ew P (E9 P (Fh P (Gc P (Hg P (Ht P (Ir P (Jk P (Lz P (Mj P (Mi P (M7 P (Nc P (Zsm P []))))))))))))))))))))))))))))))
def d32 (P:Params):=d29 P++[ze P "_law_names" 842 (.ref 483),ze P "_law_odd" 848 (.ref 488),ze P "_law_number" 855 (.ref 495),ze P "_law_head" 866 (.ref 502),ze P "_law_many" 873 (.ref 509),ze P "_law_tree" 889 (.ref 516),ze P "_law_walk" 901 (.ref 523),ze P "_law_form" 911 (.ref 530),ze P "_law_with" 917 (.ref 535),ze P "_law_leaf" 927 (.ref 542),ze P "_law_small" 933 (.ref 547),ze P "_law_sort" 940 (.ref 554),ze P "_law_spec" 953 (.ref 561)]
def z333 (P:Params):=zt "dict" (.dict ⟨d32 P⟩ 62)
def y23:List (Int×Int×Addr):=y21++[(212,0,482),(229,0,487),(238,0,494),(244,0,501),(259,0,508),(265,0,515),(285,0,522),(294,0,529),(299,0,534),(306,0,541),(309,0,546),(313,0,553),(319,0,560)]
def z334:=zy y23
def Ziv (P:Params)(t:List Obj):List Obj:=Cz P (z333 P) z334 t
def Zdk (P:Params)(t:List Obj):List Obj:=z324::z1::z5::z325::z1::z326::Za0::Zdh::z1::z5::z329::z1::z330::Zbf::Zaj::z1::t
def z335:=zj "_law_names" Kh
def z336:=zk "_law_names" "_law_names" 837 212 2 3 479 true (.ref 481) 840 841
def z337:=zi "_law_names" Kh "law_gapscribe_k26_behind_rows" 825 482
def z338:=zj "_law_odd" Lh
def z339:=zk "_law_odd" "_law_odd" 843 229 1 3 484 true (.ref 486) 846 847
def z340:=zi "_law_odd" Lh "law_gapscribe_k26_behind_rows" 825 487
def z341:=zu [("_law_cell_here",852)]
def z342:=zj "_law_number" Jt
def z343:=zb "_law_number" 849 238 1 3 489 853 854
def z344:=zi "_law_number" Jt "law_gapscribe_k26_behind_rows" 825 494
def Zbp (P:Params)(t:List Obj):List Obj:=z5::z335::z336::z337::z1::z5::z338::z339::z340::z1::z5::z341::z1::z342::z343::z344::t
def z345:=zu [("_law_cell_here",859),("_law_names_here",860),("_law_heads",861),("_law_word",862),("_law_more",863)]
def z346:=zj "_law_head" K5
def z347:=zb "_law_head" 856 244 2 3 496 864 865
def z348:=zi "_law_head" K5 "law_gapscribe_k26_behind_rows" 825 501
def z349:=zu [("_law_word",870)]
def z350:=zj "_law_many" Lo
def z351:=zb "_law_many" 867 259 1 3 503 871 872
def z352:=zi "_law_many" Lo "law_gapscribe_k26_behind_rows" 825 508
def Zc0 (P:Params)(t:List Obj):List Obj:=z1::z5::z345::z1::z346::z347::z348::z1::z5::z349::z1::z350::z351::z352::z1::z5::t
def z353:=zu [("_law_cells",877),("_law_names_here",878),("_law_left",879),("_law_cell_here",880),("_law_word",881),("_law_remark",882),("_law_parts",883),("_law_k",884),("_law_tree_here",885),("_law_form_here",886)]
def z354:=zj "_law_tree" L8
def z355:=zb "_law_tree" 874 265 2 3 510 887 888
def z356:=zi "_law_tree" L8 "law_gapscribe_k26_behind_rows" 825 515
def z357:=zu [("_law_tree_here",893),("_law_rows",894),("_law_left",895),("_law_place",896),("_law_form_here",897),("_law_k",898)]
def z358:=zj "_law_walk" Ka
def z359:=zb "_law_walk" 890 285 1 3 517 899 900
def z360:=zi "_law_walk" Ka "law_gapscribe_k26_behind_rows" 825 522
def z361:=zu [("_law_tree_here",905),("_law_place",906),("_law_form_here",907),("_law_k",908)]
def Zap (P:Params)(t:List Obj):List Obj:=z353::z1::z354::z355::z356::z1::z5::z357::z1::z358::z359::z360::z1::z5::z361::z1::t
def z362:=zj "_law_form" Jz
def z363:=zb "_law_form" 902 294 2 3 524 909 910
def z364:=zi "_law_form" Jz "law_gapscribe_k26_behind_rows" 825 529
def z365:=zj "_law_with" Kp
def z366:=zk "_law_with" "_law_with" 912 299 3 3 531 true (.ref 533) 915 916
def z367:=zi "_law_with" Kp "law_gapscribe_k26_behind_rows" 825 534
def z368:=zu [("_law_cell_here",921),("_law_names_here",922),("_law_word",923),("_law_remark",924)]
def z369:=zj "_law_leaf" K0
def z370:=zb "_law_leaf" 918 306 2 3 536 925 926
def z371:=zi "_law_leaf" K0 "law_gapscribe_k26_behind_rows" 825 541
def Zaa (P:Params)(t:List Obj):List Obj:=z362::z363::z364::z1::z5::z365::z366::z367::z1::z5::z368::z1::z369::z370::z371::z1::t
def z372:=zj "_law_small" La
def z373:=zk "_law_small" "_law_small" 928 309 2 3 543 true (.ref 545) 931 932
def z374:=zi "_law_small" La "law_gapscribe_k26_behind_rows" 825 546
def z375:=zu [("_law_word",937)]
def z376:=zj "_law_sort" Me
def z377:=zb "_law_sort" 934 313 1 3 548 938 939
def z378:=zi "_law_sort" Me "law_gapscribe_k26_behind_rows" 825 553
def z379:=zu [("_law_cell_here",944),("_law_form_here",945),("_law_names_here",946),("_law_turn",947),("_law_more",948),("_law_head_here",949),("_law_heads",950)]
def z380:=zj "_law_spec" Kz
def Zbm (P:Params)(t:List Obj):List Obj:=z5::z372::z373::z374::z1::z5::z375::z1::z376::z377::z378::z1::z5::z379::z1::z380::t
def Zbq:Obj:=zb "_law_spec" 941 319 3 3 555 951 952
def Zak:Obj:=zi "_law_spec" Kz "law_gapscribe_k26_behind_rows" 825 560
def Zp1 (P:Params)(t:List Obj):List Obj:=Zbq::Zak::t
def Rtree_637:Params->B:=fun P=>tO (Ziv P (C8 P (C3 P (C7 P (Dc P (Dj P (Dr P (Dz P (Dw P (D9 P (Dx P (D3 P (Ed P (Ei P (N0 P (En P (Ew P (E9 P (Fh P (Gc P (Hg P (Ht P (Ir P (Jk P (Lz P (Mj P (Mi P (M7 P (Nc P (Zdk P (Zbp P (Zc0 P (Zap P (Zaa P (Zbm P (Zp1 P []))))))))))))))))))))))))))))))))))))
def d33 (P:Params):=d32 P++[ze P "_law_after" 959 (.ref 566),ze P "_law_make" 966 (.ref 573),ze P "_law_class" 974 (.ref 580),ze P "_law_place_of" 981 (.ref 587),ze P "_law_told" 991 (.ref 594),ze P "_law_bad" 1000 (.ref 601),ze P "law" 1021 (.ref 608)]
def z383 (P:Params):=zt "dict" (.dict ⟨d33 P⟩ 69)
def y24:List (Int×Int×Addr):=y23++[(344,0,565),(366,0,572),(394,0,579),(403,0,586),(407,0,593),(414,0,600),(418,0,607)]
def z384:=zy y24
def Zer (P:Params)(t:List Obj):List Obj:=Cz P (z383 P) z384 t
def z385:=zj "_law_after" Lc
def z386:=zk "_law_after" "_law_after" 954 344 2 3 562 true (.ref 564) 957 958
def z387:=zi "_law_after" Lc "law_gapscribe_k26_behind_rows" 825 565
def z388:=zu [("_law_spec_here",963)]
def z389:=zj "_law_make" Kd
def z390:=zb "_law_make" 960 366 1 3 567 964 965
def z391:=zi "_law_make" Kd "law_gapscribe_k26_behind_rows" 825 572
def Zf0 (P:Params)(t:List Obj):List Obj:=Zbq::Zak::z1::z5::z385::z386::z387::z1::z5::z388::z1::z389::z390::z391::z1::z5::t
def z392:=zu [("_law_e",970),("_law_found",971)]
def z393:=zj "_law_class" J8
def z394:=zb "_law_class" 967 394 1 3 574 972 973
def z395:=zi "_law_class" J8 "law_gapscribe_k26_behind_rows" 825 579
def z396:=zu [("_law_e",978)]
def z397:=zj "_law_place_of" Ke
def z398:=zb "_law_place_of" 975 403 1 3 581 979 980
def z399:=zi "_law_place_of" Ke "law_gapscribe_k26_behind_rows" 825 586
def z400:=zu [("_law_tree_here",985),("_law_row",986),("_law_told_here",987),("_law_e",988)]
def Zfb (P:Params)(t:List Obj):List Obj:=z392::z1::z393::z394::z395::z1::z5::z396::z1::z397::z398::z399::z1::z5::z400::z1::t
def z401:=zj "_law_told" Kv
def z402:=zb "_law_told" 982 407 2 3 588 989 990
def z403:=zi "_law_told" Kv "law_gapscribe_k26_behind_rows" 825 593
def z404:=zu [("_law_place",995),("_law_form_here",996),("_law_cell_here",997)]
def z405:=zj "_law_bad" Ll
def z406:=zb "_law_bad" 992 414 3 3 595 998 999
def z407:=zi "_law_bad" Ll "law_gapscribe_k26_behind_rows" 825 600
def z408:=zu [("_law_script",1004),("_law_names_here",1005),("_law_tree_here",1006),("_law_here",1007),("_law_row",1008),("_law_k",1009),("_law_due",1010),("_law_cell_here",1011),("_law_rows",1012),("_law_place",1013),("_law_form_here",1014),("_law_spec_here",1015),("_law_after_here",1016),("_law_raw",1017),("_law_handed",1018)]
def z409:=zj "law" Lm
def z410:=zb "law" 1001 418 1 3 602 1019 1020
def Zfo (P:Params)(t:List Obj):List Obj:=z401::z402::z403::z1::z5::z404::z1::z405::z406::z407::z1::z5::z408::z1::z409::z410::t
def z411:=zi "law" Lm "law_gapscribe_k26_behind_rows" 825 607
def Zdw (P:Params)(t:List Obj):List Obj:=z411::t
def Rtree_686:Params->B:=fun P=>tO (Zer P (C8 P (C3 P (C7 P (Dc P (Dj P (Dr P (Dz P (Dw P (D9 P (Dx P (D3 P (Ed P (Ei P (N0 P (En P (Ew P (E9 P (Fh P (Gc P (Hg P (Ht P (Ir P (Jk P (Lz P (Mj P (Mi P (M7 P (Nc P (Zdk P (Zbp P (Zc0 P (Zap P (Zaa P (Zbm P (Zf0 P (Zfb P (Zfo P (Zdw P [])))))))))))))))))))))))))))))))))))))))
def Rheap_687:Params->Heap:=fun P=>⟨⟨Zer P (C8 P (C3 P (C7 P (Dc P (Dj P (Dr P (Dz P (Dw P (D9 P (Dx P (D3 P (Ed P (Ei P (N0 P (En P (Ew P (E9 P (Fh P (Gc P (Hg P (Ht P (Ir P (Jk P (Lz P (Mj P (Mi P (M7 P (Nc P (Zdk P (Zbp P (Zc0 P (Zap P (Zaa P (Zbm P (Zf0 P (Zfb P (Zfo P (Zdw P []))))))))))))))))))))))))))))))))))))))⟩,Life.mk [] [] [] 0 [] [] false #[] [] 0 false false false 0 [2000,10,10] false 0 true [] [] 0 false⟩
end
noncomputable def KK:Params->O0:=fun P=>(nat_lit 2,boot_o_2 P)::(nat_lit 3,z383 P)::(nat_lit 30,z15 P)::(nat_lit 31,z43)::(nat_lit 43,z27 P)::(nat_lit 44,z28)::(nat_lit 55,z37 P)::(nat_lit 56,z38)::(nat_lit 71,z50)::(nat_lit 72,z51)::(nat_lit 74,z53 P)::(nat_lit 75,z54)::(nat_lit 78,z1)::(nat_lit 79,z57)::(nat_lit 80,z60 P)::(nat_lit 81,z61)::(nat_lit 82,z62)::(nat_lit 88,z65)::(nat_lit 89,z66)::(nat_lit 93,z68)::(nat_lit 94,z69)::(nat_lit 98,z71)::(nat_lit 99,z72)::(nat_lit 105,z75)::(nat_lit 106,z76)::(nat_lit 110,z78)::(nat_lit 111,z79)::(nat_lit 117,z84)::(nat_lit 118,z85)::(nat_lit 124,z88)::(nat_lit 125,z89)::(nat_lit 131,z92)::(nat_lit 132,z93)::(nat_lit 138,z96)::(nat_lit 139,z97)::(nat_lit 145,z100)::(nat_lit 146,z101)::(nat_lit 152,z104)::(nat_lit 153,z105)::(nat_lit 159,z108)::(nat_lit 160,z109)::(nat_lit 166,z112)::(nat_lit 167,z113)::(nat_lit 173,z116)::(nat_lit 174,z117)::(nat_lit 180,z120)::(nat_lit 181,z121)::(nat_lit 187,z124)::(nat_lit 188,z125)::(nat_lit 194,Zbl)::(nat_lit 195,Zcq)::(nat_lit 201,z134)::(nat_lit 202,z135)::(nat_lit 208,z138)::(nat_lit 209,z139)::(nat_lit 222,z146)::(nat_lit 223,z147)::(nat_lit 232,Fm P)::(nat_lit 233,z303)::(nat_lit 245,z166)::(nat_lit 251,z169)::(nat_lit 252,z170)::(nat_lit 258,z173)::(nat_lit 259,z174)::(nat_lit 268,z180 P)::(nat_lit 269,z181)::(nat_lit 284,z193)::(nat_lit 285,z194)::(nat_lit 291,z197)::(nat_lit 292,z198)::(nat_lit 301,z204 P)::(nat_lit 302,z205)::(nat_lit 317,z217)::(nat_lit 318,z218)::(nat_lit 327,Zbc P)::(nat_lit 328,Zce)::(nat_lit 338,z234)::(nat_lit 344,z237)::(nat_lit 345,z238)::(nat_lit 351,z241)::(nat_lit 352,Zan)::(nat_lit 361,Zdg P)::(nat_lit 362,Zby)::(nat_lit 372,z259)::(nat_lit 378,z262)::(nat_lit 379,z263)::(nat_lit 385,Zda)::(nat_lit 386,Zah)::(nat_lit 395,Zcp P)::(nat_lit 396,Zaf)::(nat_lit 411,z286)::(nat_lit 412,z287)::(nat_lit 418,z290)::(nat_lit 419,z291)::(nat_lit 428,z297 P)::(nat_lit 429,z298)::(nat_lit 444,z310)::(nat_lit 445,z311)::(nat_lit 451,z314)::(nat_lit 452,z315)::(nat_lit 461,z321 P)::(nat_lit 462,z322)::(nat_lit 470,Za0)::(nat_lit 471,Zdh)::(nat_lit 477,Zbf)::(nat_lit 478,Zaj)::(nat_lit 482,z336)::(nat_lit 483,z337)::(nat_lit 487,z339)::(nat_lit 488,z340)::(nat_lit 494,z343)::(nat_lit 495,z344)::(nat_lit 501,z347)::(nat_lit 502,z348)::(nat_lit 508,z351)::(nat_lit 509,z352)::(nat_lit 515,z355)::(nat_lit 516,z356)::(nat_lit 522,z359)::(nat_lit 523,z360)::(nat_lit 529,z363)::(nat_lit 530,z364)::(nat_lit 534,z366)::(nat_lit 535,z367)::(nat_lit 541,z370)::(nat_lit 542,z371)::(nat_lit 546,z373)::(nat_lit 547,z374)::(nat_lit 553,z377)::(nat_lit 554,z378)::(nat_lit 560,Zbq)::(nat_lit 561,Zak)::(nat_lit 565,z386)::(nat_lit 566,z387)::(nat_lit 572,z390)::(nat_lit 573,z391)::(nat_lit 579,z394)::(nat_lit 580,z395)::(nat_lit 586,z398)::(nat_lit 587,z399)::(nat_lit 593,z402)::(nat_lit 594,z403)::(nat_lit 600,z406)::(nat_lit 601,z407)::(nat_lit 607,z410)::(nat_lit 608,z411)::[]
noncomputable def KA:List Addr:=[2,3,30,31,43,44,55,56,71,72,74,75,78,79,80,81,82,88,89,93,94,98,99,105,106,110,111,117,118,124,125,131,132,138,139,145,146,152,153,159,160,166,167,173,174,180,181,187,188,194,195,201,202,208,209,222,223,232,233,245,251,252,258,259,268,269,284,285,291,292,301,302,317,318,327,328,338,344,345,351,352,361,362,372,378,379,385,386,395,396,411,412,418,419,428,429,444,445,451,452,461,462,470,471,477,478,482,483,487,488,494,495,501,502,508,509,515,516,522,523,529,530,534,535,541,542,546,547,553,554,560,561,565,566,572,573,579,580,586,587,593,594,600,601,607,608]
noncomputable def RB (P:Params):List P6×List Heap:=([Rtree_70 P,Rtree_85 P,Rtree_100 P,Rtree_124 P,Rtree_158 P,Rtree_246 P,Rtree_290 P,Rtree_327 P,Rtree_363 P,Rtree_392 P,Rtree_429 P,Rtree_466 P,Rtree_502 P,Rtree_552 P,Rtree_637 P,Rtree_686 P],[Rheap_687 P])
theorem e_RB:RB=RB:=rfl
name_quick x_RB for K26.RB by K26.e_RB
end K26
namespace PySem.W.Fast
noncomputable def tw2584111536382524794:P7->P6:=tw654680112102328370
theorem te2584111536382524794:K26.Rtree_70=tw2584111536382524794:=te654680112102328370
noncomputable def tw1903425881569863919:P7->P6:=tw59779254883459095
theorem te1903425881569863919:K26.Rtree_85=tw1903425881569863919:=te59779254883459095
noncomputable def tw5329425998124690484:P7->P6:=tw6366101026968083967
theorem te5329425998124690484:K26.Rtree_100=tw5329425998124690484:=te6366101026968083967
noncomputable def tw15111590878687665241:P7->P6:=tw15607693763672143066
theorem te15111590878687665241:K26.Rtree_124=tw15111590878687665241:=te15607693763672143066
noncomputable def tw3911178635925949538:P7->P6:=tw11541177599690724467
theorem te3911178635925949538:K26.Rtree_158=tw3911178635925949538:=te11541177599690724467
noncomputable def tw15842815601453538830:P7->P6:=tw10562651191628803593
theorem te15842815601453538830:K26.Rtree_246=tw15842815601453538830:=te10562651191628803593
noncomputable def tw8041485638900312744:P7->P6:=tw3785479096467209243
theorem te8041485638900312744:K26.Rtree_290=tw8041485638900312744:=te3785479096467209243
noncomputable def tw9740434176050508630:P7->P6:=tw8294112200486848184
theorem te9740434176050508630:K26.Rtree_327=tw9740434176050508630:=te8294112200486848184
noncomputable def tw14111931339418973354:P7->P6:=tw8722148077927832537
theorem te14111931339418973354:K26.Rtree_363=tw14111931339418973354:=te8722148077927832537
noncomputable def tw357685405284905891:P7->P6:=tw17509676688198131833
theorem te357685405284905891:K26.Rtree_392=tw357685405284905891:=te17509676688198131833
noncomputable def tw4026681487737967957:P7->P6:=tw18179961141263972727
theorem te4026681487737967957:K26.Rtree_429=tw4026681487737967957:=te18179961141263972727
noncomputable def tw11233198845869709738:P7->P6:=tw130255669687823021
theorem te11233198845869709738:K26.Rtree_466=tw11233198845869709738:=te130255669687823021
noncomputable def tw271651433684135972:P7->P6:=tw15772647456198146550
theorem te271651433684135972:K26.Rtree_502=tw271651433684135972:=te15772647456198146550
noncomputable def tw9031179627891835485:P7->P6:=tw17691763729102918927
theorem te9031179627891835485:K26.Rtree_552=tw9031179627891835485:=te17691763729102918927
noncomputable def tw4952109288206068433:P7->P6:=tw3837918000228357521
theorem te4952109288206068433:K26.Rtree_637=tw4952109288206068433:=te3837918000228357521
noncomputable def tw7561983254279437150:P7->P6:=tw16346702941754792300
theorem te7561983254279437150:K26.Rtree_686=tw7561983254279437150:=te16346702941754792300
noncomputable def tw8680016078329007650:P7->PySem.Heap:=tw259997806012153576
theorem te8680016078329007650:K26.Rheap_687=tw8680016078329007650:=te259997806012153576
end PySem.W.Fast
local macro_rules | `(tactic| walk_at "gd")=>`(tactic| (refine' ⟨?ka,_,L2.fun_mk ?kl ?kc ?kk⟩; (case ka=>k_is); (case kl=>k_is); (case kc=>k_is); (case kk=>k_is)))
local macro_rules | `(tactic| walk_at "gm")=>`(tactic| (refine' ⟨?ka,?ki,_,L2.fun_mk ?kl ?kc ?kk⟩; (case ka=>k_is); (case ki=>k_is); (case kl=>k_is); (case kc=>k_is); (case kk=>k_is)))
namespace K26
open PySem L2 K10 K19
noncomputable abbrev Zam:=Zhu
theorem all1 {α:Type}{P:List α->Prop}(h:∀ a,P [a]):∀ us:List α,us.length=1->P us
 | [a],_=>h a
theorem all2 {α:Type}{P:List α->Prop}(h:∀ a b,P [a,b]):∀ us:List α,us.length=2->P us
 | [a,b],_=>h a b
theorem all3 {α:Type}{P:List α->Prop}(h:∀ a b c,P [a,b,c]):∀ us:List α,us.length=3->P us
 | [a,b,c],_=>h a b c
local macro_rules | `(tactic| walk_at "bi")=>`(tactic| first | exact fun _ _ _ _ _ _=>K26.all1 fun _=>rfl | exact fun _ _ _ _ _ _=>K26.all2 fun _ _=>rfl | exact fun _ _ _ _ _ _=>K26.all3 fun _ _ _=>rfl | exact fun _ _ _ _ _ _=>K26.all4 fun _ _ _ _=>rfl)
theorem Zss {K:O0}{GE:Addr}{ddG:Option Addr}{cdG:ClassData}{slG:Array (Option Value)}{cG:Value}(ho:K.lookup GE=some ⟨cG,ddG,.cls cdG,slG⟩)(hok:Sv K cdG.ns=true)(hni:Pc K cdG.ns "__init__" = some none):R3 K VE (.ref GE::VE)=true/\(Rq K GE).isSome=true:=by
 have e:R3 K VE VE=true:=by unfold R3;rfl
 refine ⟨?_,by unfold Rq;rw [ho];rfl⟩
 unfold R3
 dsimp only
 rw [ho]
 dsimp only
 rw [hok,hni,e]
 simp
theorem Zhg {K:O0}{C GE:Addr}{ddC:Option Addr}{cdC:ClassData}{slC:Array (Option Value)}{k0 k1 k2 k3 k5:Option Value}(hC:K.lookup C=some ⟨.type "type",ddC,.cls cdC,slC⟩)(hm:cdC.mro=.ref C::.ref GE::VE)(hs:slC.toList=[k0,k1,k2,k3,some (.builtin "ValueError.__new__"),k5])(hd:cdC.hasDel=false)(h:R3 K VE (.ref GE::VE)=true):Ov K C/\((Rq K C).any fun cd=>Hk cd.mro)=true:=by
 refine ⟨?_,?_⟩
 ·obtain ⟨nm,bs,mro,ns,qn,hd',sn,sub,ab,col,del⟩:=cdC
  obtain ⟨l⟩:=slC
  dsimp only at hm hd hs
  subst hm hd hs
  exact ⟨_,_,_,_,_,_,_,_,_,_,_,_,_,_,_,_,hC,h⟩
 ·unfold Rq
  rw [hC]
  dsimp only
  show Hk cdC.mro=true
  rw [hm]
  show Hk VE=true
  decide
theorem Oj {K:O0}{C X:Addr}{b:Bool}{c:Value}{dd:Option Addr}{cd:ClassData}{sl:Array (Option Value)}(hX:K.lookup X=some ⟨c,dd,.cls cd,sl⟩)(ht:Qw K (.ref X)=some (.type "type"))(hs:Pw K (.ref C) (.ref X)=some b)(hn:b=false->(C == X)=false):Po K (.ref C) (.ref X)=some b:=by
 unfold Po
 by_cases h:((Value.ref C) == (Value.ref X))=true
 ·rw [if_pos h]
  have e:=beq_iff_eq.mp h
  injection e with e
  subst e
  cases b with
  | true=>rfl
  | false=>have:=hn rfl;simp at this
 ·rw [if_neg h]
  unfold PySem.W.kitCls
  dsimp only
  rw [if_pos]
  ·exact hs
  ·rw [ht]
   unfold Rq
   rw [hX]
   simp
theorem Zdp {K:O0}{C:Addr}(hs:Pw K (.ref C) (.type "ValueError")=some true):Po K (.ref C) (.type "ValueError")=some true:=by
 unfold Po
 rw [if_neg (by intro h;have:=beq_iff_eq.mp h;cases this)]
 unfold PySem.W.kitCls
 dsimp only
 rw [if_pos (by rfl)]
 exact hs
theorem Zq4 {K:O0}{C GE:Addr}{ddC:Option Addr}{cdC:ClassData}{slC:Array (Option Value)}{k0 k1 k2 k3 k5:Option Value}(hC:K.lookup C=some ⟨.type "type",ddC,.cls cdC,slC⟩)(hm:cdC.mro=.ref C::.ref GE::VE)(hs:slC.toList=[k0,k1,k2,k3,some (.builtin "ValueError.__new__"),k5])(hd:cdC.hasDel=false)(h:R3 K VE (.ref GE::VE)=true)(hok:Sv K cdC.ns=true)(hni:Pc K cdC.ns "__init__" = some none):Hz K C:=by
 obtain ⟨nm,bs,mro,ns,qn,hd',sn,sub,ab,col,del⟩:=cdC
 obtain ⟨l⟩:=slC
 dsimp only at hm hd hok hni hs
 subst hm hd hs
 exact ⟨_,_,_,_,_,_,_,_,_,_,_,_,_,_,_,_,hC,h,hok,hni⟩
theorem Zrj {K:O0}{a e:Addr}{od:Option Addr}{its:Array Value}{n:Nat}{sl:Array (Option Value)}{tk:Tok}(l:K.lookup a=some ⟨.type "tuple",od,.seq its n,sl⟩)(h:its.toList=[.str "gap" tk,.none,.ref e]):∀ H,SqT K H a [.str "gap",.non,.ref e]:=fun H=>by
 have v:Vals [.str "gap",.non,.ref e] its.toList:=by rw [h];exact .cons ⟨tk,rfl⟩ (.cons rfl (.cons rfl .nil))
 refine .inr ⟨_,its,n,l,rfl,rfl,?_,v⟩
 have b:1000<=sizeLine:=by decide
 have e2:its.toList.length=its.size:=Th
 have e3:its.toList.length=3:=by rw [h];rfl
 omega
theorem calm {P:Program}{w:World}{K:O0}{mg:Str->Option Value}{base:Heap}{k:Nat}{f:Addr}{fd:FuncData}{ps:List Str}{sp:Sp}(F:Ao P w K mg base (Be P w) k f fd ps sp):Ao P w K mg base Aq k f fd ps (fun vs H Q _=>sp vs H Q E0):=by
 refine ⟨fun vs H Q E h=>F.len vs H Q E0 h,fun A outer s H args us vs Q E hr he hb hv h=>Rg (F.run A outer s H args us vs Q E0 hr he hb hv h) fun r s' hq=>?_⟩
 cases r with
 | error e =>
  obtain ⟨_,_,_,_,_,_,_,_,_,_,_,_,_,_,_,x⟩:=hq
  exact x.elim
 | ok fl =>
  cases fl with
  | ret u=>exact hq
  | _=>exact hq.elim
noncomputable def Zsl:List Value->List Value->List Value
 | [a,b],[c]=>[a,b,.none,c]
 | _,_=>[]
section
variable {K:O0}{TD:Addr}{o1:Option Addr}{n1:Nat}{s1:Array (Option Value)}{tk:Tok}{kV doc pm cdv ct:Value}{an:Option Addr}
theorem kbK1 (ho:K.lookup TD=some ⟨.type "tuple",o1,.seq #[.int 0 tk] n1,s1⟩):Em K (Pk "__init__" "Keep.__init__" (Bp Cg) (Bg Cg) (Am Cg) (.ref TD) kV doc pm an cdv ct) ["self", "at"] [] (fun us _=>us) (fun vs _=>vs) :=
 ⟨fun s us ws X hl=>by
  match us,(show us.length=2 by simpa using hl) with
  | [a,b],_=>exact Ro X rfl ho rfl rfl rfl,fun h _=>h⟩
theorem kbK0 (ho:K.lookup TD=some ⟨.type "tuple",o1,.seq #[.int 0 tk] n1,s1⟩):Em K (Pk "__init__" "Keep.__init__" (Bp Cg) (Bg Cg) (Am Cg) (.ref TD) kV doc pm an cdv ct) ["self", "at"] [] (fun us _=>us++[.int 0 tk]) (fun vs _=>vs++[.int 0]) :=
 ⟨fun s us ws X hl=>by
  match us,(show us.length=1 by simpa using hl) with
  | [a],_=>exact Ro X rfl ho rfl rfl rfl,fun h _=>h.append (.cons ⟨_,rfl⟩ .nil)⟩
theorem kbKa (ho:K.lookup TD=some ⟨.type "tuple",o1,.seq #[.int 0 tk] n1,s1⟩):Em K (Pk "__init__" "Keep.__init__" (Bp Cg) (Bg Cg) (Am Cg) (.ref TD) kV doc pm an cdv ct) ["self", "at"] ["at"] Nk Nk :=
 ⟨fun s us ws X hl=>by
  match us,ws,hl with
  | [a],[b],_=>exact Ro X rfl ho rfl rfl rfl,fun h1 h2=>by
  cases h1 with
  | nil=>exact .nil
  | cons r0 t0 =>
   cases t0 with
   | cons _ _=>exact .nil
   | nil =>
    cases h2 with
    | nil=>exact .nil
    | cons w0 u0 =>
     cases u0 with
     | cons _ _=>exact .nil
     | nil=>exact .cons r0 (.cons w0 .nil)⟩
theorem kbP1 (ho:K.lookup TD=some ⟨.type "tuple",o1,.seq #[.none] n1,s1⟩):Em K (Pk "__init__" "Put.__init__" (Bp Cd) (Bg Cd) (Am Cd) (.ref TD) kV doc pm an cdv ct) ["self", "word", "note"] [] (fun us _=>us++[.none]) (fun vs _=>vs++[.non]) :=
 ⟨fun s us ws X hl=>by
  match us,(show us.length=2 by simpa using hl) with
  | [a,b],_=>exact Ro X rfl ho rfl rfl rfl,fun h _=>h.append (.cons rfl .nil)⟩
theorem kbPn (ho:K.lookup TD=some ⟨.type "tuple",o1,.seq #[.none] n1,s1⟩):Em K (Pk "__init__" "Put.__init__" (Bp Cd) (Bg Cd) (Am Cd) (.ref TD) kV doc pm an cdv ct) ["self", "word", "note"] ["note"] Mt Mt :=
 ⟨fun s us ws X hl=>by
  match us,ws,hl with
  | [a,b],[c],_=>exact Ro X rfl ho rfl rfl rfl,fun h1 h2=>by
  cases h1 with
  | nil=>exact .nil
  | cons r0 t0 =>
   cases t0 with
   | nil=>exact .nil
   | cons r1 t1 =>
    cases t1 with
    | cons _ _=>exact .nil
    | nil =>
     cases h2 with
     | nil=>exact .nil
     | cons w0 u0 =>
      cases u0 with
      | cons _ _=>exact .nil
      | nil=>exact .cons r0 (.cons r1 (.cons w0 .nil))⟩
theorem kbW3 (ho:K.lookup TD=some ⟨.type "tuple",o1,.seq #[.none,.int 0 tk] n1,s1⟩):Em K (Pk "__init__" "Wrap.__init__" (Bp Cj) (Bg Cj) (Am Cj) (.ref TD) kV doc pm an cdv ct) ["self", "word", "note", "at"] [] (fun us _=>us) (fun vs _=>vs) :=
 ⟨fun s us ws X hl=>by
  match us,(show us.length=4 by simpa using hl) with
  | [a,b,c,d],_=>exact Ro X rfl ho rfl rfl rfl,fun h _=>h⟩
theorem kbW2 (ho:K.lookup TD=some ⟨.type "tuple",o1,.seq #[.none,.int 0 tk] n1,s1⟩):Em K (Pk "__init__" "Wrap.__init__" (Bp Cj) (Bg Cj) (Am Cj) (.ref TD) kV doc pm an cdv ct) ["self", "word", "note", "at"] [] (fun us _=>us++[.int 0 tk]) (fun vs _=>vs++[.int 0]) :=
 ⟨fun s us ws X hl=>by
  match us,(show us.length=3 by simpa using hl) with
  | [a,b,c],_=>exact Ro X rfl ho rfl rfl rfl,fun h _=>h.append (.cons ⟨_,rfl⟩ .nil)⟩
theorem kbWa (ho:K.lookup TD=some ⟨.type "tuple",o1,.seq #[.none,.int 0 tk] n1,s1⟩):Em K (Pk "__init__" "Wrap.__init__" (Bp Cj) (Bg Cj) (Am Cj) (.ref TD) kV doc pm an cdv ct) ["self", "word", "note", "at"] ["at"] Zsl Zau :=
 ⟨fun s us ws X hl=>by
  match us,ws,hl with
  | [a,b],[c],_=>exact Ro X rfl ho rfl rfl rfl,fun h1 h2=>by
  cases h1 with
  | nil=>exact .nil
  | cons r0 t0 =>
   cases t0 with
   | nil=>exact .nil
   | cons r1 t1 =>
    cases t1 with
    | cons _ _=>exact .nil
    | nil =>
     cases h2 with
     | nil=>exact .nil
     | cons w0 u0 =>
      cases u0 with
      | cons _ _=>exact .nil
      | nil=>exact .cons r0 (.cons r1 (.cons rfl (.cons w0 .nil)))⟩
theorem kbP2 (ho:K.lookup TD=some ⟨.type "tuple",o1,.seq #[.none] n1,s1⟩):Em K (Pk "__init__" "Put.__init__" (Bp Cd) (Bg Cd) (Am Cd) (.ref TD) kV doc pm an cdv ct) ["self", "word", "note"] [] (fun us _=>us) (fun vs _=>vs) :=
 ⟨fun s us ws X hl=>by
  match us,(show us.length=3 by simpa using hl) with
  | [a,b,c],_=>exact Ro X rfl ho rfl rfl rfl,fun h _=>h⟩
end
theorem Zmr {CX:Bs}{k:Nat}{f:Addr}{fd:FuncData}{ps:List Str}{sp:Sp}(F:Ao P w K mg base Aq k f fd ps sp):Ao P w K mg base CX k f fd ps sp:=⟨F.len,fun A outer s H args us vs Q E hr he hb hv hs=>Rg (F.run A outer s H args us vs Q E hr he hb hv hs) fun r s' h=>by
 cases r with
 | ok f=>cases f <;> exact h
 | error e=>exact Pd h⟩
theorem Zlt {CX:Bs}{k:Nat}{f:Addr}{fd:FuncData}{ps:List Str}{sp1 sp2:Sp}(F1:Ao P w K mg base CX k f fd ps sp1)(F2:Ao P w K mg base CX k f fd ps sp2):Ao P w K mg base CX k f fd ps (fun vs H Q E=>sp1 vs H Q E\/sp2 vs H Q E) :=
 ⟨fun vs H Q E h=>h.elim (F1.len vs H Q E) (F2.len vs H Q E),fun A outer s H args us vs Q E hr he hb hv hs=>hs.elim (F1.run A outer s H args us vs Q E hr he hb hv) (F2.run A outer s H args us vs Q E hr he hb hv)⟩
noncomputable abbrev Gd (K:O0)(n:Str)(st:Stmt)(f:Addr):Prop:=Pc K mainGlobals n=some (some (.ref f))/\∃ fd,Fun K n n st f fd
noncomputable abbrev Gm (K:O0)(C:Addr)(n q:Str)(st:Stmt)(f:Addr):Prop:=O4 K (.ref C) n=some (some (.ref f))/\R5 K (.ref f)=true/\∃ fd,Fun K n q st f fd
noncomputable abbrev Bi (n q:Str)(st:Stmt)(ps:List Str):Prop:=∀(kV doc pm:Value)(an:Option Addr)(cdv ct:Value)(us:List Value),us.length=ps.length->bindArgs (Pk n q (Bp st) (Bg st) (Am st) .none kV doc pm an cdv ct) ⟨us,[]⟩=pure (ps.zip us)
section
variable {P:Program}{w:World}{K:O0}{mg:Str->Option Value}{base h:Heap}(X:K.In h)(G:h.Ns mainGlobals mg){n q:Str}{st:Stmt}{f C:Addr}{k:Nat}{ps:List Str}{sp:Sp}
include X G
theorem cal (g:Gd K n st f)(ok:∀ fd,Fun K n n st f fd->Ao P w K mg base Aq k f fd ps sp)(b:Bi n n st ps:=by walk_at "bi"):A4 P w K mg base k n ps sp:=by
 obtain ⟨a,fd,F⟩:=g
 exact Zsv (ok fd F) (Tv X G a) F.kp (F.binds b)
theorem calx (g:Gd K n st f)(ok:∀ fd,Fun K n n st f fd->Ao P w K mg base (Be P w) k f fd ps sp)(b:Bi n n st ps:=by walk_at "bi"):E8 P w K mg base k n ps sp:=by
 obtain ⟨a,fd,F⟩:=g
 exact Zp7 (ok fd F) (Tv X G a) F.kp (F.binds b)
theorem caln (g:Gd K n st f)(ok:∀ fd,Fun K n n st f fd->Hv P w K mg base k f fd ps sp)(b:Bi n n st ps:=by walk_at "bi"):Ma P w K mg base k n ps sp:=by
 obtain ⟨a,fd,F⟩:=g
 exact Zql (ok fd F) (Tv X G a) F.kp (F.binds b)
omit X G
theorem Gj {CX:Bs}(cl:Cls K C)(g:Gm K C n q st f)(ok:∀ fd,Fun K n q st f fd->Ao P w K mg base CX k f fd ps sp)(b:Bi n q st ps:=by walk_at "bi"):Oe CX P w K mg base k C n ps sp:=by
 obtain ⟨a,i,fd,F⟩:=g
 exact ⟨f,fd,ok fd F,cl,⟨a,i,F.kp⟩,F.binds b⟩
theorem mkM {CX:Bs}(x:Str)(mk:Qp K C=true)(kp:Ph K (.ref C)=true)(at_:mg x=some (.ref C))(g:Gm K C "__init__" q st f)(ok:∀ fd,Fun K "__init__" q st f fd->Ao P w K mg base CX k f fd ps sp)(b:Bi "__init__" q st ps:=by walk_at "bi"):Ha CX P w K mg base k x C ps sp:=by
 obtain ⟨a,i,fd,F⟩:=g
 exact ⟨f,fd,ok fd F,⟨mk,a,i,kp⟩,at_,F.binds b⟩
end
theorem all_mk {l:V2}{w:World}{K:O0}{h:Heap}{mg:Str->Option Value}{fa f1 f2 f3 f4 f5 f6 f7 f8 f9 f10 f11 f12 f13 f14 f15 f16 f17 f18 f19 f20 f21 f22 f23 f24 f25 f26 f27 f28 f29 f30 f31 f32 f33 f34 f35 f36 f37 f38 f39 f40 f41:Addr}(X:K.In h)(G:h.Ns mainGlobals mg)(hfa:mg "law" = some (.ref fa))
  (a1:Gd K "is_whole" Kt f1) (a2:Gd K "is_name" J5 f2) (a3:Gd K "is_figures" Kf f3) (a4:Gd K "is_odd_sign" Mn f4) (a5:Gd K "is_odd" Ly f5) (a6:Gd K "is_word" Ki f6) (a7:Gd K "is_two_names" K4 f7) (a8:Gd K "is_note" Kg f8) (a9:Gd K "is_top_of_form" Kl f9) (a10:Gd K "is_form" Ls f10) (a11:Gd K "many_parts" Jy f11) (a12:Gd K "bare" J6 f12) (a13:Gd K "has_part" Km f13) (a14:Gd K "forms_down_to" Jc f14) (a15:Gd K "form_at" Il f15) (a16:Gd K "with_part" K9 f16)
  (a17:Gd K "with_at" Jv f17) (a18:Gd K "refuse_no_form" J0 f18) (a19:Gd K "refuse_no_gap" Li f19) (a20:Gd K "behind" Ln f20) (a21:Gd K "_law_cell" Mo f21) (a22:Gd K "_law_names" Kh f22) (a23:Gd K "_law_odd" Lh f23) (a24:Gd K "_law_number" Jt f24) (a25:Gd K "_law_head" K5 f25) (a26:Gd K "_law_many" Lo f26) (a27:Gd K "_law_tree" L8 f27) (a28:Gd K "_law_walk" Ka f28) (a29:Gd K "_law_form" Jz f29) (a30:Gd K "_law_with" Kp f30) (a31:Gd K "_law_leaf" K0 f31)
  (a32:Gd K "_law_small" La f32) (a33:Gd K "_law_sort" Me f33) (a34:Gd K "_law_spec" Kz f34) (a35:Gd K "_law_after" Lc f35) (a36:Gd K "_law_make" Kd f36) (a37:Gd K "_law_class" J8 f37) (a38:Gd K "_law_place_of" Ke f38) (a39:Gd K "_law_told" Kv f39) (a40:Gd K "_law_bad" Ll f40) (a41:Gd K "law" Lm f41) (z1:Pc K mainGlobals "isinstance" = some none) (z2:Pc K mainGlobals "int" = some none) (z3:Pc K mainGlobals "bool" = some none) (z4:Pc K mainGlobals "str" = some none)
  (z5:Pc K mainGlobals "len" = some none) (z6:Pc K mainGlobals "all" = some none) (z7:Pc K mainGlobals "tuple" = some none) (z8:Pc K mainGlobals "reversed" = some none) (z9:Pc K mainGlobals "list" = some none) (z10:Pc K mainGlobals "zip" = some none) (z11:Pc K mainGlobals "range" = some none) (z12:Pc K mainGlobals "enumerate" = some none) (z13:Pc K mainGlobals "ValueError" = some none) {u1 u2 gt:Tok} (b1:Pc K mainGlobals "NAME_SIGNS" = some (some (.str LET u1))) (b2:Pc K mainGlobals "FIGURES" = some (some (.str DIG u2)))
  {wa wb pa ga ge:Addr} {wo wp go ho:Option Addr} {wi wj gi hi:Array Value} {wn wm pn gn hn:Nat} {ws wt gs hs:Array (Option Value)} {pi:Array DictEntry} (b3:Pc K mainGlobals "WORDS_NO_NAMES" = some (some (.ref wa))) (b4:K.lookup wa=some ⟨.type "tuple",wo,.seq wi wn,ws⟩) (b5:Hu wi.toList=some (W9.map V.str)) (b6:Pc K mainGlobals "WORDS_NOT_ODD" = some (some (.ref wb))) (b7:K.lookup wb=some ⟨.type "tuple",wp,.seq wj wm,wt⟩) (b8:Hu wj.toList=some (W10.map V.str)) (c1:Pc K mainGlobals "PARTS_OF_WORDS" = some (some (.ref pa)))
  (c2:K.lookup pa=some ⟨.type "dict",none,.dict pi pn,#[]⟩) (c3:(pa == sysModules)=false) (c4:Ents w.params pi.toList Jb) (v1:Pc K mainGlobals "GAP" = some (some (.ref ga))) (v2:K.lookup ga=some ⟨.type "tuple",go,.seq gi gn,gs⟩) (v3:gi.toList=[.str "gap" gt,.none,.ref ge]) (v4:K.lookup ge=some ⟨.type "tuple",ho,.seq hi hn,hs⟩) (v5:Hu hi.toList=some []) {GE NF NP ND gI:Addr} {cG cN cQ cF:Value} {dG dN dP dD dQ dF:Option Addr} {kG kP kD kF:ClassData} {lG lN lP lD lQ lF:Array (Option Value)} {eN eQ:Array DictEntry} {nN nQ:Nat}
  {e0 e1 e2 e3 e5 q0 q1 q2 q3 q5:Option Value} (x1:Pc K mainGlobals "GapError" = some (some (.ref GE))) (x2:K.lookup GE=some ⟨cG,dG,.cls kG,lG⟩) (x3:K.lookup kG.ns=some ⟨cN,dN,.dict eN nN,lN⟩) (x4:(eN.toList.all fun e=>match e.key with | .str _ _=>true | _=>false)=true) (x5:Pc K kG.ns "__init__" = some none) (x6:Qw K (.ref GE)=some (.type "type")) (x7:Pw K (.ref GE) (.type "BaseException")=some true) (x8:Vn K (.builtin "object.__class__") "__get__" = some (some (.builtin "getset_descriptor.__get__")))
  (x9:V1 K (.builtin "object.__class__")=some true) (n1:Pc K mainGlobals "NoForm" = some (some (.ref NF))) (n2:K.lookup NF=some ⟨cF,dF,.cls kF,lF⟩) (n3:Qw K (.ref NF)=some (.type "type")) (p1:Pc K mainGlobals "NoPlace" = some (some (.ref NP))) (d1:Pc K mainGlobals "NoDeed" = some (some (.ref ND))) (p2:K.lookup NP=some ⟨.type "type",dP,.cls kP,lP⟩) (p3:kP.mro=.ref NP::.ref GE::VE) (p4:lP.toList=[e0,e1,e2,e3,some (.builtin "ValueError.__new__"),e5]) (p5:kP.hasDel=false) (p9:Qw K (.ref NP)=some (.type "type"))
  (pa':Qi K NP=true) (pb:O4 K (.ref NP) "__getattribute__" = some (some (.builtin "BaseException.__getattribute__"))) (pc:O4 K (.ref NP) "__getattr__" = some none) (pd:O4 K (.ref NP) "__setattr__" = some (some (.builtin "object.__setattr__"))) (pe:O4 K (.ref NP) "__class__" = some (some (.builtin "object.__class__"))) (pf:Pw K (.ref NP) (.type "BaseException")=some true) (pg:Pw K (.ref NP) (.type "ValueError")=some true) (ph:Pw K (.ref NP) (.ref GE)=some true) (pj':Pw K (.ref NP) (.ref ND)=some false)
  (pk:Pw K (.ref NP) (.ref NF)=some false) (pl':(NP == NF)=false) (d2:K.lookup ND=some ⟨.type "type",dD,.cls kD,lD⟩) (d3:kD.mro=.ref ND::.ref GE::VE) (d4:lD.toList=[q0,q1,q2,q3,some (.builtin "ValueError.__new__"),q5]) (d5:kD.hasDel=false) (d9:Qw K (.ref ND)=some (.type "type")) (da':Qi K ND=true) (db:O4 K (.ref ND) "__getattribute__" = some (some (.builtin "BaseException.__getattribute__"))) (dc:O4 K (.ref ND) "__getattr__" = some none) (dd:O4 K (.ref ND) "__setattr__" = some (some (.builtin "object.__setattr__")))
  (de:O4 K (.ref ND) "__class__" = some (some (.builtin "object.__class__"))) (df:Pw K (.ref ND) (.type "BaseException")=some true) (dg:Pw K (.ref ND) (.type "ValueError")=some true) (dh:Pw K (.ref ND) (.ref GE)=some true) (dj':Pw K (.ref ND) (.ref NP)=some false) (dk:Pw K (.ref ND) (.ref NF)=some false) (dl':(ND == NF)=false) (pmm:(NP == ND)=false) (dmm:(ND == NP)=false) (d6:K.lookup kD.ns=some ⟨cQ,dQ,.dict eQ nQ,lQ⟩) (d7:(eQ.toList.all fun e=>match e.key with | .str _ _=>true | _=>false)=true)
  (d8:Pc K kD.ns "__init__" = some none) (pz:Ph K (.ref NP)=true) (po:O4 K (.ref NP) "place" = some none) (pq:Gm K NP "__init__" "NoPlace.__init__" Mb gI) {tkW tkK:Tok} {AD rD:Addr} (yD1:Pc K mainGlobals "Deed" = some (some (.ref AD))) (yD2:Qt K AD Py=true) (yD3:Qi K AD=true) (yD4:Rb K AD=true) (yD5:O4 K (.ref AD) "__setattr__" = some (some (.builtin "object.__setattr__"))) (yD6:Qp K AD=true) (yD7:Ph K (.ref AD)=true) (yD8:O4 K (.ref AD) "form" = some none)
  (yD9:O4 K (.ref AD) "at" = some none) (yD0:O4 K (.ref AD) "note" = some none) (mD:Gm K AD "done" "Deed.done" J4 rD) (iD:O4 K (.ref AD) "__init__" = some (some (.builtin "object.__init__"))) {AP rP:Addr} (yP1:Pc K mainGlobals "Put" = some (some (.ref AP))) (yP2:Qt K AP Py=true) (yP3:Qi K AP=true) (yP4:Rb K AP=true) (yP5:O4 K (.ref AP) "__setattr__" = some (some (.builtin "object.__setattr__"))) (yP6:Qp K AP=true) (yP7:Ph K (.ref AP)=true)
  (yP8:O4 K (.ref AP) "form" = some none) (yP9:O4 K (.ref AP) "at" = some none) (yP0:O4 K (.ref AP) "note" = some none) (mP:Gm K AP "done" "Put.done" K1 rP) {tP TP:Addr} {cTP cUP cVP cWP cXP cYP:Value} {oTP ouP anP:Option Addr} {sTP suP:Array (Option Value)} {nTP:Nat} (iP1:O4 K (.ref AP) "__init__" = some (some (.ref tP))) (iP2:R5 K (.ref tP)=true) (iP3:K.lookup tP=some ⟨cTP,ouP,.func (Pk "__init__" "Put.__init__" (Bp Cd) (Bg Cd) (Am Cd) (.ref TP) cUP cVP cWP anP cXP cYP),suP⟩)
  (iP4:Rp K cXP "Put.__init__" = true) (iP5:Ph K (.ref tP)=true) (iP6:K.lookup TP=some ⟨.type "tuple",oTP,.seq #[.none] nTP,sTP⟩) {AF rF:Addr} (yF1:Pc K mainGlobals "Fill" = some (some (.ref AF))) (yF2:Qt K AF Py=true) (yF3:Qi K AF=true) (yF4:Rb K AF=true) (yF5:O4 K (.ref AF) "__setattr__" = some (some (.builtin "object.__setattr__"))) (yF6:Qp K AF=true) (yF7:Ph K (.ref AF)=true) (yF8:O4 K (.ref AF) "form" = some none) (yF9:O4 K (.ref AF) "at" = some none)
  (yF0:O4 K (.ref AF) "note" = some none) (mF:Gm K AF "done" "Fill.done" Ju rF) {tF:Addr} (iF:Gm K AF "__init__" "Fill.__init__" Md tF) {AC rC:Addr} (yC1:Pc K mainGlobals "Cut" = some (some (.ref AC))) (yC2:Qt K AC Py=true) (yC3:Qi K AC=true) (yC4:Rb K AC=true) (yC5:O4 K (.ref AC) "__setattr__" = some (some (.builtin "object.__setattr__"))) (yC6:Qp K AC=true) (yC7:Ph K (.ref AC)=true) (yC8:O4 K (.ref AC) "form" = some none)
  (yC9:O4 K (.ref AC) "at" = some none) (yC0:O4 K (.ref AC) "note" = some none) (mC:Gm K AC "done" "Cut.done" J2 rC) (iC:O4 K (.ref AC) "__init__" = some (some (.builtin "object.__init__"))) {AW rW:Addr} (yW1:Pc K mainGlobals "Wrap" = some (some (.ref AW))) (yW2:Qt K AW Py=true) (yW3:Qi K AW=true) (yW4:Rb K AW=true) (yW5:O4 K (.ref AW) "__setattr__" = some (some (.builtin "object.__setattr__"))) (yW6:Qp K AW=true) (yW7:Ph K (.ref AW)=true)
  (yW8:O4 K (.ref AW) "form" = some none) (yW9:O4 K (.ref AW) "at" = some none) (yW0:O4 K (.ref AW) "note" = some none) (mW:Gm K AW "done" "Wrap.done" Ld rW) {tW TW:Addr} {cTW cUW cVW cWW cXW cYW:Value} {oTW ouW anW:Option Addr} {sTW suW:Array (Option Value)} {nTW:Nat} (iW1:O4 K (.ref AW) "__init__" = some (some (.ref tW))) (iW2:R5 K (.ref tW)=true) (iW3:K.lookup tW=some ⟨cTW,ouW,.func (Pk "__init__" "Wrap.__init__" (Bp Cj) (Bg Cj) (Am Cj) (.ref TW) cUW cVW cWW anW cXW cYW),suW⟩)
  (iW4:Rp K cXW "Wrap.__init__" = true) (iW5:Ph K (.ref tW)=true) (iW6:K.lookup TW=some ⟨.type "tuple",oTW,.seq #[.none,.int 0 tkW] nTW,sTW⟩) {AK rK:Addr} (yK1:Pc K mainGlobals "Keep" = some (some (.ref AK))) (yK2:Qt K AK Py=true) (yK3:Qi K AK=true) (yK4:Rb K AK=true) (yK5:O4 K (.ref AK) "__setattr__" = some (some (.builtin "object.__setattr__"))) (yK6:Qp K AK=true) (yK7:Ph K (.ref AK)=true) (yK8:O4 K (.ref AK) "form" = some none)
  (yK9:O4 K (.ref AK) "at" = some none) (yK0:O4 K (.ref AK) "note" = some none) (mK:Gm K AK "done" "Keep.done" K2 rK) {tK TK:Addr} {cTK cUK cVK cWK cXK cYK:Value} {oTK ouK anK:Option Addr} {sTK suK:Array (Option Value)} {nTK:Nat} (iK1:O4 K (.ref AK) "__init__" = some (some (.ref tK))) (iK2:R5 K (.ref tK)=true) (iK3:K.lookup tK=some ⟨cTK,ouK,.func (Pk "__init__" "Keep.__init__" (Bp Cg) (Bg Cg) (Am Cg) (.ref TK) cUK cVK cWK anK cXK cYK),suK⟩) (iK4:Rp K cXK "Keep.__init__" = true)
  (iK5:Ph K (.ref tK)=true) (iK6:K.lookup TK=some ⟨.type "tuple",oTK,.seq #[.int 0 tkK] nTK,sTK⟩) {AN rN:Addr} (yN1:Pc K mainGlobals "Note" = some (some (.ref AN))) (yN2:Qt K AN Py=true) (yN3:Qi K AN=true) (yN4:Rb K AN=true) (yN5:O4 K (.ref AN) "__setattr__" = some (some (.builtin "object.__setattr__"))) (yN6:Qp K AN=true) (yN7:Ph K (.ref AN)=true) (yN8:O4 K (.ref AN) "form" = some none) (yN9:O4 K (.ref AN) "at" = some none)
  (yN0:O4 K (.ref AN) "note" = some none) (mN:Gm K AN "done" "Note.done" J3 rN) {tN:Addr} (iN:Gm K AN "__init__" "Note.__init__" Kk tN) {AG rG:Addr} (yG1:Pc K mainGlobals "Change" = some (some (.ref AG))) (yG2:Qt K AG Py=true) (yG3:Qi K AG=true) (yG4:Rb K AG=true) (yG5:O4 K (.ref AG) "__setattr__" = some (some (.builtin "object.__setattr__"))) (yG6:Qp K AG=true) (yG7:Ph K (.ref AG)=true) (yG8:O4 K (.ref AG) "form" = some none)
  (yG9:O4 K (.ref AG) "at" = some none) (yG0:O4 K (.ref AG) "note" = some none) (mG:Gm K AG "done" "Change.done" K6 rG) {tG:Addr} (iG:Gm K AG "__init__" "Change.__init__" Lk tG) (ap:[AD,AP,AF,AC,AW,AK,AN,AG].Nodup) :
  ∃ fd:FuncData,(∀(s:Shared)(v:Value),BindsTo s fd ⟨[v],[]⟩ [("_law_script",v)])/\∀ base:Heap,K.In base->base.Ns mainGlobals mg->Ao l.prog w K mg base Aq 10 fa fd ["_law_script"] (Zam K):=by
 obtain ⟨aL,fd,FL⟩:=a41
 have e:=hfa.symm.trans (Tv X G aL)
 cases e
 have FX:=FL
 obtain ⟨_,_,kV,doc,pm,an,cdv,ct,_,ef,_,_⟩:=FL.ex
 refine ⟨fd,fun s v=>by rw [ef];exact .of_eq rfl,fun base _ _=>?_⟩
 have gl:=fun {n v}=>@Tv K h mg n v X G
 have no:=fun {n}=>@PySem.W.mg_none_of K h mg n X G
 have T:Txt K mg:=⟨no z1,no z2,no z3,no z4,no z5,no z6,no z7,no z8,no z9,no z10,no z11,no z12,no z13⟩
 have G_GAP:Eo mg "GAP" (.ref ga):=⟨_,gl v1,rfl⟩
 have gA:=Zrj (K:=K) v2 v3
 have gB:=Zb7 (K:=K) v4 v5 (by decide)
 have GA:Jg K ga:=⟨fun H=>TrAt.gap (gA H) (gB H)⟩
 have GS:Gs l.prog w K mg:=⟨⟨_,gl b1,⟨_,rfl⟩⟩,⟨_,gl b2,⟨_,rfl⟩⟩,⟨wa,⟨_,gl b3,rfl⟩,Zb7 b4 b5 (by decide)⟩,⟨wb,⟨_,gl b6,rfl⟩,Zb7 b7 b8 (by decide)⟩,⟨pa,⟨_,gl c1,rfl⟩,Ztt c2 c3 c4 (by decide +kernel)⟩,⟨ga,ge,G_GAP,gA,gB⟩⟩
 obtain ⟨tG',iG'⟩:=Zss x2 (by unfold Sv;rw [x3];show (eN.all fun e=>match e.key with | .str _ _=>true | _=>false)=true;rw [<- Array.all_toList];exact x4) x5
 have gG:=gl x1
 have gNP:=gl p1
 have gND:=gl d1
 have XG:Nn K GE:=⟨x6,iG',x7⟩
 have eP:=Zhg p2 p3 p4 p5 tG'
 have xC:ExC K NP:=⟨eP.2,pa',pb,pc,pd,p9⟩
 have xD:ExC K ND:=⟨(Zhg d2 d3 d4 d5 tG').2,da',db,dc,dd,d9⟩
 have nA:NoAttr K NP "place" := po
 have rND:=Zq4 d2 d3 d4 d5 tG' (by unfold Sv;rw [d6];show (eQ.all fun e=>match e.key with | .str _ _=>true | _=>false)=true;rw [<- Array.all_toList];exact d7) d8
 have KD:KdC K mg NF ND NP:={ nD:={ toExC:=xD,ca:=de,cg:=x8,ct:=x9 },nP:={ toExC:=xC,ca:=pe,cg:=x8,ct:=x9 },gF:=gl n1,gD:=gND,gP:=gNP,vD:=Zdp dg,vP:=Zdp pg,dF:=Oj n2 n3 dk fun _=>dl',dP:=Oj p2 p9 dj' fun _=>dmm,pF:=Oj n2 n3 pk fun _=>pl',pD:=Oj d2 d9 pj' fun _=>pmm }
 obtain ⟨pqa,pqi,fdi,Fi⟩:=pq
 have RZ:Rz K NP gI:=⟨eP.1,pqa,pqi,pz,pf,p9⟩
 have oD:B0 K mg "Deed" AD:=⟨⟨yD2,yD3,yD4,yD5⟩,gl yD1,yD8,yD9,yD0⟩
 have oP:B0 K mg "Put" AP:=⟨⟨yP2,yP3,yP4,yP5⟩,gl yP1,yP8,yP9,yP0⟩
 have oF:B0 K mg "Fill" AF:=⟨⟨yF2,yF3,yF4,yF5⟩,gl yF1,yF8,yF9,yF0⟩
 have oC:B0 K mg "Cut" AC:=⟨⟨yC2,yC3,yC4,yC5⟩,gl yC1,yC8,yC9,yC0⟩
 have oW:B0 K mg "Wrap" AW:=⟨⟨yW2,yW3,yW4,yW5⟩,gl yW1,yW8,yW9,yW0⟩
 have oK:B0 K mg "Keep" AK:=⟨⟨yK2,yK3,yK4,yK5⟩,gl yK1,yK8,yK9,yK0⟩
 have oN:B0 K mg "Note" AN:=⟨⟨yN2,yN3,yN4,yN5⟩,gl yN1,yN8,yN9,yN0⟩
 have oG:B0 K mg "Change" AG:=⟨⟨yG2,yG3,yG4,yG5⟩,gl yG1,yG8,yG9,yG0⟩
 obtain ⟨c,ec⟩:∃ c:Cs,c=⟨AD,AP,AF,AC,AW,AK,AN,AG⟩:=⟨_,rfl⟩
 have Ap:c.Apart:=by rw [ec];exact ap
 have eD:c.d=AD:=by rw [ec]
 rw [<- eD] at oD mD yD6 yD7 iD
 have eP:c.p=AP:=by rw [ec]
 rw [<- eP] at oP mP yP6 yP7 iP1
 have eF:c.f=AF:=by rw [ec]
 rw [<- eF] at oF mF yF6 yF7 iF
 have eC:c.c=AC:=by rw [ec]
 rw [<- eC] at oC mC yC6 yC7 iC
 have eW:c.w=AW:=by rw [ec]
 rw [<- eW] at oW mW yW6 yW7 iW1
 have eK:c.k=AK:=by rw [ec]
 rw [<- eK] at oK mK yK6 yK7 iK1
 have eN:c.n=AN:=by rw [ec]
 rw [<- eN] at oN mN yN6 yN7 iN
 have eG:c.g=AG:=by rw [ec]
 rw [<- eG] at oG mG yG6 yG7 iG
 have MkC:Jx K mg "Cut" c.c:=⟨yC6,iC,yC7,oC.at_⟩
 have MkD:Jx K mg "Deed" c.d:=⟨yD6,iD,yD7,oD.at_⟩
 have ca:=fun {k n st f ps sp}=>@cal l.prog w K mg base h X G n st f k ps sp
 have cx:=fun {k n st f ps sp}=>@calx l.prog w K mg base h X G n st f k ps sp
 have cn:=fun {k n st f ps sp}=>@caln l.prog w K mg base h X G n st f k ps sp
 have C_is_whole:=ca a1 fun _ F=>Zk4 F T
 have C_is_name:=ca a2 fun _ F=>Zrm F T GS
 have C_is_figures:=ca a3 fun _ F=>Zkd F T GS
 have C_is_odd_sign:=ca a4 fun _ F=>Znl F T
 have C_is_odd:=ca a5 fun _ F=>Zil F T GS C_is_odd_sign C_is_name C_is_figures
 have C_is_word:=ca a6 fun _ F=>Zue F T GS
 have C_is_two_names:=ca a7 fun _ F=>Zjw F T C_is_name
 have C_is_note:=ca a8 fun _ F=>Zjg F T C_is_whole C_is_name C_is_odd C_is_two_names
 have C_is_top_of_form:=ca a9 fun _ F=>Zj8 F T GS C_is_word C_is_note
 have C_is_form:=ca a10 fun _ F=>Zky F T C_is_top_of_form
 have C_many_parts:=ca a11 fun _ F=>Zqx F T GS C_is_word
 have C_bare:=ca a12 fun _ F=>Zrs F T G_GAP C_many_parts C_is_note
 have C_has_part:=ca a13 fun _ F=>Zrn F T C_is_whole
 have C_forms_down_to:=ca a14 fun _ F=>Zo2 F T C_has_part
 have CX_forms_down_to:=cx a14 fun _ F=>Zon F T C_has_part RZ (Zou Fi) (Fi.binds (by walk_at "bi")) gNP xC nA
 have C_form_at:=cx a15 fun _ F=>Zlt (Zmr (Zmo F T C_forms_down_to)) (Zns F T CX_forms_down_to)
 have C_with_part:=ca a16 fun _ F=>Zm5 F T
 have C_with_at:=ca a17 fun _ F=>Zmx F T C_forms_down_to C_with_part
 have C_refuse_no_form:=ca a18 fun _ F=>Zmp F T C_is_form
 have C_refuse_no_gap:=cx a19 fun _ F=>Zup F T rND gND
 have okP:=calm (Zp5 (base:=base) (P:=l.prog) (w:=w) (Oz (st:=Cd) iP3 iP4 iP5) T oP C_bare)
 have okW:=calm (Zt6 (base:=base) (P:=l.prog) (w:=w) (Oz (st:=Cj) iW3 iW4 iW5) T oW GA C_bare C_has_part)
 have okK:=calm (Zm6 (base:=base) (P:=l.prog) (w:=w) (Oz (st:=Cg) iK3 iK4 iK5) T oK)
 have mkP:Mk K c.p tP:=⟨yP6,iP1,iP2,yP7⟩
 have mkW:Mk K c.w tW:=⟨yW6,iW1,iW2,yW7⟩
 have mkK:Mk K c.k tK:=⟨yK6,iK1,iK2,yK7⟩
 have MkP1:B1 Aq l.prog w K mg base 5 "Put" c.p ["self", "word", "note"] [] (fun vs _=>vs++[.non]) (F4 K c ga):=⟨tP,_,_,okP,mkP,oP.at_,kbP1 iP6⟩
 have MkPn:B1 Aq l.prog w K mg base 5 "Put" c.p ["self", "word", "note"] ["note"] Mt (F4 K c ga):=⟨tP,_,_,okP,mkP,oP.at_,kbPn iP6⟩
 have MkP2:B1 Aq l.prog w K mg base 5 "Put" c.p ["self", "word", "note"] [] (fun vs _=>vs) (F4 K c ga):=⟨tP,_,_,okP,mkP,oP.at_,kbP2 iP6⟩
 have MkW3:B1 Aq l.prog w K mg base 5 "Wrap" c.w ["self", "word", "note", "at"] [] (fun vs _=>vs) (Fz K c ga):=⟨tW,_,_,okW,mkW,oW.at_,kbW3 iW6⟩
 have MkW2:B1 Aq l.prog w K mg base 5 "Wrap" c.w ["self", "word", "note", "at"] [] (fun vs _=>vs++[.int 0]) (Fz K c ga):=⟨tW,_,_,okW,mkW,oW.at_,kbW2 iW6⟩
 have MkWa:B1 Aq l.prog w K mg base 5 "Wrap" c.w ["self", "word", "note", "at"] ["at"] Zau (Fz K c ga):=⟨tW,_,_,okW,mkW,oW.at_,kbWa iW6⟩
 have MkK1:B1 Aq l.prog w K mg base 1 "Keep" c.k ["self", "at"] [] (fun vs _=>vs) (Fu K c):=⟨tK,_,_,okK,mkK,oK.at_,kbK1 iK6⟩
 have MkK0:B1 Aq l.prog w K mg base 1 "Keep" c.k ["self", "at"] [] (fun vs _=>vs++[.int 0]) (Fu K c):=⟨tK,_,_,okK,mkK,oK.at_,kbK0 iK6⟩
 have MkKa:B1 Aq l.prog w K mg base 1 "Keep" c.k ["self", "at"] ["at"] Nk (Fu K c):=⟨tK,_,_,okK,mkK,oK.at_,kbKa iK6⟩
 have MkF:Ha Aq l.prog w K mg base 7 "Fill" c.f ["self", "form"] (Zbu K c):=mkM "Fill" yF6 yF7 oF.at_ iF fun _ F=>Zjs F T oF C_refuse_no_form
 have MkG:Ha Aq l.prog w K mg base 7 "Change" c.g ["self", "form"] (Zcg K c):=mkM "Change" yG6 yG7 oG.at_ iG fun _ F=>Zsp F T oG C_refuse_no_form
 have MkN:Ha Aq l.prog w K mg base 1 "Note" c.n ["self", "note"] (Zac K c):=mkM "Note" yN6 yN7 oN.at_ iN fun _ F=>Ziq F T oN
 have MD:∀ d:Dd,Oe (Be l.prog w) l.prog w K mg base 7 (d.cls c) "done" ["self", "form"] (Et K c ND (d.cls c)):=fun d=>by
  cases d with
  | deed=>exact Gj oD.cl mD fun _ F=>Zrp Ap F T oD
  | put t=>exact Gj oP.cl mP fun _ F=>Zs0 Ap F T oP C_refuse_no_gap
  | fill t=>exact Gj oF.cl mF fun _ F=>Zly Ap F T oF C_refuse_no_gap
  | cut=>exact Gj oC.cl mC fun _ F=>Zq2 Ap F T oC G_GAP GA rND gND
  | wrap t i=>exact Gj oW.cl mW fun _ F=>Zkp Ap F T oW C_with_part
  | keep i=>exact Gj oK.cl mK fun _ F=>Zlj Ap F T oK C_has_part rND gND
  | note n nt=>exact Gj oN.cl mN fun _ F=>Zqe Ap F T oN C_is_note rND gND
  | chg t=>exact Gj oG.cl mG fun _ F=>Zk2 Ap F T oG
 have C_behind:=cx a20 fun _ F=>Zm9 (c:=c) F T C_form_at C_with_at MD
 have C__law_cell:=ca a21 fun _ F=>Zsb F T
 have C__law_names:=ca a22 fun _ F=>Zpo F T
 have C__law_odd:=ca a23 fun _ F=>Zrw F T
 have C__law_number:=ca a24 fun _ F=>Zmb F T
 have C__law_head:=ca a25 fun _ F=>Zr2 F T C__law_odd C__law_number
 have C__law_many:=ca a26 fun _ F=>Zl4 F T
 have C__law_tree:=ca a27 fun _ F=>Zt9 F T C__law_head C__law_many
 have C__law_walk:=ca a28 fun _ F=>Zpz F T
 have C__law_form:=ca a29 fun _ F=>Zts F T
 have C__law_with:=ca a30 fun _ F=>Zo6 F T C__law_form
 have C__law_leaf:=ca a31 fun _ F=>Zh8 F T C__law_head
 have C__law_small:=ca a32 fun _ F=>Zjd F T C__law_head C__law_many C__law_leaf
 have C__law_sort:=ca a33 fun _ F=>Zm2 F T
 have C__law_spec:=ca a34 fun _ F=>Zn7 F T C__law_head C__law_many C__law_small
 have C__law_after:=ca a35 fun _ F=>Zq5 F T C__law_many C__law_sort
 have C__law_make:=ca a36 fun _ F=>Zlv F T GA MkP1 MkPn MkP2 MkF MkC MkWa MkW2 MkW3 MkK0 MkKa MkK1 MkN MkG MkD
 have C__law_class:=cn a37 fun _ F=>Zj4 F T KD
 have C__law_place_of:=cn a38 fun _ F=>Zme F T KD xC nA
 have C__law_told:=ca a39 fun _ F=>Zr3 F T C_behind C__law_class C__law_place_of XG gG dh ph
 have C__law_bad:=ca a40 fun _ F=>Zmg F T
 exact Zkz FX T GA C__law_cell C__law_names C__law_tree MkW2 MkK0 C__law_walk C__law_spec C__law_after C__law_bad C__law_with C__law_make C__law_told
theorem walk {l:V2}{q:Program}{loose:List Str}{XP:(Str->Option Value)->Heap->Prop}{YP:World->Heap->Prop}{d:DefRec}{K:Params->O0}(hn:l.most=some 63)(hdf:d.params.defaults=[])
  (hY:∀(w:World)(h:Heap),YP w h->(K w.params).In h)
  (F:∀(w:World)(mg:Str->Option Value)(fa:Addr)(h:Heap),(K w.params).In h->h.Ns mainGlobals mg->mg d.name=some (.ref fa) ->
   ∃ fd:FuncData,(∀(s:Shared)(u:Value),BindsTo s fd ⟨[u],[]⟩ [("_law_script",u)])/\∀ base:Heap,(K w.params).In base->base.Ns mainGlobals mg->Ao l.prog w (K w.params) mg base Aq 10 fa fd ["_law_script"] (Zam (K w.params))) :
  PySem.W.WalkO q loose XP YP l.row.toRowW d [] (fun f vs=>PySem.call f vs) :=
 L2.walk_of (n:=63) (k:=10) (x := "_law_script") (CX:=fun _=>Aq) (sp:=fun w=>Zam (K w.params)) hn (by decide) hdf ⟨rfl,by decide,by decide⟩ hY F (fun _ _ a ns hl _ hS=>⟨a,ns,rfl,hS,hl,fun _=>rfl⟩) fun _ _ _ _ _ z=>z
end K26
open PySem PySem.W PyProof.Rows
set_option maxRecDepth 100000 in
set_option maxHeartbeats 0 in
theorem PySem.Challenge.cw_gapscribe_k26_behind_rows_holds : PySem.Challenge.rw_gapscribe_k26_behind_rows.Holds := by
 w_on; o_law; o_head (PySem.W.kHook K26.KK K26.KA (fun _=>by kernel_rfl)); (case hw=>w_witness2)
 k_fill
 refine K26.walk (l:=PySem.Challenge.rw_gapscribe_k26_behind_rows) rfl rfl (fun w h Y=>PySem.W.kIn_of Y) ?F
 case F =>
  intro w mg fa h KX G hmg
  refine' K26.all_mk KX G hmg ?a1 ?a2 ?a3 ?a4 ?a5 ?a6 ?a7 ?a8 ?a9 ?a10 ?a11 ?a12 ?a13 ?a14 ?a15 ?a16 ?a17 ?a18 ?a19 ?a20 ?a21 ?a22 ?a23 ?a24 ?a25 ?a26 ?a27 ?a28 ?a29 ?a30 ?a31 ?a32 ?a33 ?a34 ?a35 ?a36 ?a37 ?a38 ?a39 ?a40 ?a41 ?z1 ?z2 ?z3 ?z4 ?z5 ?z6 ?z7 ?z8 ?z9 ?z10 ?z11 ?z12 ?z13 ?b1 ?b2 ?b3 ?b4 ?b5 ?b6 ?b7 ?b8 ?c1 ?c2 ?c3 ?c4 ?v1 ?v2 ?v3 ?v4 ?v5 ?x1 ?x2 ?x3 ?x4 ?x5 ?x6 ?x7 ?x8 ?x9 ?n1 ?n2 ?n3 ?p1 ?d1 ?p2 ?p3 ?p4 ?p5 ?p9 ?pa' ?pb ?pc ?pd ?pe ?pf ?pg ?ph ?pj' ?pk ?pl' ?d2 ?d3 ?d4 ?d5 ?d9 ?da' ?db ?dc ?dd ?de ?df ?dg ?dh ?dj' ?dk ?dl' ?pmm ?dmm ?d6 ?d7 ?d8 ?pz ?po ?pq ?yD1 ?yD2 ?yD3 ?yD4 ?yD5 ?yD6 ?yD7 ?yD8 ?yD9 ?yD0 ?mD ?iD ?yP1 ?yP2 ?yP3 ?yP4 ?yP5 ?yP6 ?yP7 ?yP8 ?yP9 ?yP0 ?mP ?iP1 ?iP2 ?iP3 ?iP4 ?iP5 ?iP6 ?yF1 ?yF2 ?yF3 ?yF4 ?yF5 ?yF6 ?yF7 ?yF8 ?yF9 ?yF0 ?mF ?iF ?yC1 ?yC2 ?yC3 ?yC4 ?yC5 ?yC6 ?yC7 ?yC8 ?yC9 ?yC0 ?mC ?iC ?yW1 ?yW2 ?yW3 ?yW4 ?yW5 ?yW6 ?yW7 ?yW8 ?yW9 ?yW0 ?mW ?iW1 ?iW2 ?iW3 ?iW4 ?iW5 ?iW6 ?yK1 ?yK2 ?yK3 ?yK4 ?yK5 ?yK6 ?yK7 ?yK8 ?yK9 ?yK0 ?mK ?iK1 ?iK2 ?iK3 ?iK4 ?iK5 ?iK6 ?yN1 ?yN2 ?yN3 ?yN4 ?yN5 ?yN6 ?yN7 ?yN8 ?yN9 ?yN0 ?mN ?iN ?yG1 ?yG2 ?yG3 ?yG4 ?yG5 ?yG6 ?yG7 ?yG8 ?yG9 ?yG0 ?mG ?iG ?ap
  (case a1=>walk_at "gd")
  (case a2=>walk_at "gd")
  (case a3=>walk_at "gd")
  (case a4=>walk_at "gd")
  (case a5=>walk_at "gd")
  (case a6=>walk_at "gd")
  (case a7=>walk_at "gd")
  (case a8=>walk_at "gd")
  (case a9=>walk_at "gd")
  (case a10=>walk_at "gd")
  (case a11=>walk_at "gd")
  (case a12=>walk_at "gd")
  (case a13=>walk_at "gd")
  (case a14=>walk_at "gd")
  (case a15=>walk_at "gd")
  (case a16=>walk_at "gd")
  (case a17=>walk_at "gd")
  (case a18=>walk_at "gd")
  (case a19=>walk_at "gd")
  (case a20=>walk_at "gd")
  (case a21=>walk_at "gd")
  (case a22=>walk_at "gd")
  (case a23=>walk_at "gd")
  (case a24=>walk_at "gd")
  (case a25=>walk_at "gd")
  (case a26=>walk_at "gd")
  (case a27=>walk_at "gd")
  (case a28=>walk_at "gd")
  (case a29=>walk_at "gd")
  (case a30=>walk_at "gd")
  (case a31=>walk_at "gd")
  (case a32=>walk_at "gd")
  (case a33=>walk_at "gd")
  (case a34=>walk_at "gd")
  (case a35=>walk_at "gd")
  (case a36=>walk_at "gd")
  (case a37=>walk_at "gd")
  (case a38=>walk_at "gd")
  (case a39=>walk_at "gd")
  (case a40=>walk_at "gd")
  (case a41=>walk_at "gd")
  (case z1=>k_is)
  (case z2=>k_is)
  (case z3=>k_is)
  (case z4=>k_is)
  (case z5=>k_is)
  (case z6=>k_is)
  (case z7=>k_is)
  (case z8=>k_is)
  (case z9=>k_is)
  (case z10=>k_is)
  (case z11=>k_is)
  (case z12=>k_is)
  (case z13=>k_is)
  (case b1=>k_is)
  (case b2=>k_is)
  (case b3=>k_is)
  (case b4=>k_is)
  (case b5=>rfl)
  (case b6=>k_is)
  (case b7=>k_is)
  (case b8=>rfl)
  (case c1=>k_is)
  (case c2=>k_is)
  (case c3=>rfl)
  (case c4=>(repeat (first | exact .nil | refine .cons ⟨_,rfl⟩ ?_)))
  (case v1=>k_is)
  (case v2=>k_is)
  (case v3=>rfl)
  (case v4=>k_is)
  (case v5=>rfl)
  (case x1=>k_is)
  (case x2=>k_is)
  (case x3=>k_is)
  (case x4=>rfl)
  (case x5=>k_is)
  (case x6=>k_is)
  (case x7=>k_is)
  (case x8=>k_is)
  (case x9=>k_is)
  (case n1=>k_is)
  (case n2=>k_is)
  (case n3=>k_is)
  (case p1=>k_is)
  (case d1=>k_is)
  (case p2=>k_is)
  (case p3=>rfl)
  (case p4=>rfl)
  (case p5=>rfl)
  (case p9=>k_is)
  (case pa'=>k_is)
  (case pb=>k_is)
  (case pc=>k_is)
  (case pd=>k_is)
  (case pe=>k_is)
  (case pf=>k_is)
  (case pg=>k_is)
  (case ph=>k_is)
  (case pj'=>k_is)
  (case pk=>k_is)
  (case pl'=>rfl)
  (case d2=>k_is)
  (case d3=>rfl)
  (case d4=>rfl)
  (case d5=>rfl)
  (case d9=>k_is)
  (case da'=>k_is)
  (case db=>k_is)
  (case dc=>k_is)
  (case dd=>k_is)
  (case de=>k_is)
  (case df=>k_is)
  (case dg=>k_is)
  (case dh=>k_is)
  (case dj'=>k_is)
  (case dk=>k_is)
  (case dl'=>rfl)
  (case pmm=>rfl)
  (case dmm=>rfl)
  (case d6=>k_is)
  (case d7=>rfl)
  (case d8=>k_is)
  (case pz=>k_is)
  (case po=>k_is)
  (case pq=>walk_at "gm")
  (case yD1=>k_is)
  (case yD2=>k_is)
  (case yD3=>k_is)
  (case yD4=>k_is)
  (case yD5=>k_is)
  (case yD6=>k_is)
  (case yD7=>k_is)
  (case yD8=>k_is)
  (case yD9=>k_is)
  (case yD0=>k_is)
  (case mD=>walk_at "gm")
  (case iD=>k_is)
  (case yP1=>k_is)
  (case yP2=>k_is)
  (case yP3=>k_is)
  (case yP4=>k_is)
  (case yP5=>k_is)
  (case yP6=>k_is)
  (case yP7=>k_is)
  (case yP8=>k_is)
  (case yP9=>k_is)
  (case yP0=>k_is)
  (case mP=>walk_at "gm")
  (case iP1=>k_is)
  (case iP2=>k_is)
  (case iP3=>k_is)
  (case iP4=>k_is)
  (case iP5=>k_is)
  (case iP6=>k_is)
  (case yF1=>k_is)
  (case yF2=>k_is)
  (case yF3=>k_is)
  (case yF4=>k_is)
  (case yF5=>k_is)
  (case yF6=>k_is)
  (case yF7=>k_is)
  (case yF8=>k_is)
  (case yF9=>k_is)
  (case yF0=>k_is)
  (case mF=>walk_at "gm")
  (case iF=>walk_at "gm")
  (case yC1=>k_is)
  (case yC2=>k_is)
  (case yC3=>k_is)
  (case yC4=>k_is)
  (case yC5=>k_is)
  (case yC6=>k_is)
  (case yC7=>k_is)
  (case yC8=>k_is)
  (case yC9=>k_is)
  (case yC0=>k_is)
  (case mC=>walk_at "gm")
  (case iC=>k_is)
  (case yW1=>k_is)
  (case yW2=>k_is)
  (case yW3=>k_is)
  (case yW4=>k_is)
  (case yW5=>k_is)
  (case yW6=>k_is)
  (case yW7=>k_is)
  (case yW8=>k_is)
  (case yW9=>k_is)
  (case yW0=>k_is)
  (case mW=>walk_at "gm")
  (case iW1=>k_is)
  (case iW2=>k_is)
  (case iW3=>k_is)
  (case iW4=>k_is)
  (case iW5=>k_is)
  (case iW6=>k_is)
  (case yK1=>k_is)
  (case yK2=>k_is)
  (case yK3=>k_is)
  (case yK4=>k_is)
  (case yK5=>k_is)
  (case yK6=>k_is)
  (case yK7=>k_is)
  (case yK8=>k_is)
  (case yK9=>k_is)
  (case yK0=>k_is)
  (case mK=>walk_at "gm")
  (case iK1=>k_is)
  (case iK2=>k_is)
  (case iK3=>k_is)
  (case iK4=>k_is)
  (case iK5=>k_is)
  (case iK6=>k_is)
  (case yN1=>k_is)
  (case yN2=>k_is)
  (case yN3=>k_is)
  (case yN4=>k_is)
  (case yN5=>k_is)
  (case yN6=>k_is)
  (case yN7=>k_is)
  (case yN8=>k_is)
  (case yN9=>k_is)
  (case yN0=>k_is)
  (case mN=>walk_at "gm")
  (case iN=>walk_at "gm")
  (case yG1=>k_is)
  (case yG2=>k_is)
  (case yG3=>k_is)
  (case yG4=>k_is)
  (case yG5=>k_is)
  (case yG6=>k_is)
  (case yG7=>k_is)
  (case yG8=>k_is)
  (case yG9=>k_is)
  (case yG0=>k_is)
  (case mG=>walk_at "gm")
  (case iG=>walk_at "gm")
  (case ap=>decide +kernel)
#print axioms PySem.Challenge.cw_gapscribe_k26_behind_rows_holds
