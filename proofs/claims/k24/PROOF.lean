import PyProof.Rows.All
import Wide.All
import OpenK.AllK
import Wide.FinOn
import Lean
import PyProof.EqAt
import PyProof.EqKinds
import PyProof.TupleCall
import PyProof.StrBlock2
import KE.KDictOf
import PyProof.AttrMissHeap
import KE.KRevSl
import KE.KDictSum
import PyProof.Rows.SortStr
import KE.KRevIter
import PyProof.RangeIter
import PySem.Challenge.RW_gapscribe_k24_whole_taken_back
set_option compiler.extract_closed false
set_option bootstrap.genMatcherCode false
set_option genSizeOfSpec false
set_option Elab.async false
set_option linter.all false
set_option maxRecDepth 100000
open Array renaming length_toList->R7,getElem?_eq_some_iff->Tx
open Bool renaming false_ne_true->Ov,false_and->Pm,and_eq_true->Pt,true_and->Pz,eq_iff_iff->Rm,false_eq_true->Sw,not_eq_true'->Ta,or_eq_true->Ue,and_false->Uj
open False renaming elim->O8
open Int renaming emod_lt_of_pos->Q1,emod_nonneg->Q2,toNat_natCast->Sx
open List renaming getElem?_eq_getElem->Ow,size_toArray->Ou,getElem?_eq_some_iff->Pa,replicate->Oy,length_append->Pb,mem_of_getElem?->Pd,mem_cons->O1,length_cons->Ph,all_eq_true->Pj,not_mem_nil->Pk,length_replicate->P4,length_map->Pl,drop_eq_getElem_cons->Qq,getElem?_append_left->Qv,length_singleton->Qj,mem_singleton->P5,mem_append->Pu,getElem?_append_right->Re,mem_append_right->Qr,getElem?_set_self->Qy,range->Pc,length_set->P0,eq_of_mem_replicate->Rf,length_take->Qe,eq_nil_of_length_eq_zero->R3,mem_cons_of_mem->Qz,replicate_succ->Q0,lookup_cons->Ql,take_of_length_le->Rt,append_nil->Qt,drop_of_length_le->R4,mem_append_left->R5,getElem?_set_ne->R6,getElem?_cons_succ->Sl,length_reverse->R8,map_append->Rn,map_cons->Q6,getElem?_map->R9,reverse_append->Ss,mem_cons_self->Su,lookup->Ra,all_cons->Ry,reverse_cons->Sy,flatten_cons->Sz,mem_or_eq_of_mem_set->Uy,length_drop->Tc,filterMap_cons->T5,nodup_cons->Tf,forIn_cons->Tg,append_assoc->Ua,dropLast_concat_getLast->V1,of_mem_zip->Ub,nil_append->Uc,flatMap_append->Vb,length_pos_iff->Vc,mem_filterMap->Vd,set_cons_zero->Vf,set_cons_succ->Vg,forIn_nil->Uk,take_add_one->Vk,cons_append->Vo,find?_cons->Vv,length_nil->Vx,foldl->Tu
open Nat renaming le_refl->Oq,lt_of_lt_of_le->O3,ne_of_lt->O5,le_trans->Pp,zero_le->P3,lt_irrefl->Qn,ne_of_gt->Q9,lt_succ_self->Tb,le_add_right->Td,sub_self->To,sub_zero->Tp,le_succ->Us
open Ne renaming symm->Qb
open Option renaming isSome_iff_exists->Rs,bind_some->Te
open Option.some renaming inj->Pi
open PyProof.Rows renaming callWith_type1->Qp,slot_tuple_getitem->R1
open PySem renaming wpAny_bind->Oo,wpAny_pure->Op,wpAny_field->O9,wpAny_callSpecial?_slot->Rg,wpAny_truthy_bool->Qk,Params->Pq,wpAny_holding->Qa,wpAny_seqItems->Qm,wpAny_Call_Name_kw->Rj,Stmt->Pr,mem_of_lookup->Ru,wpAny_newObj_type->Rk,wpAny_setField_rec->Rv,wpAny_call_entry->Rl,wpAny_passesOwn->Rx,wpAny_getItem_str_slice->T1,call_meets->Qo,wpAny_execs_nil->Sa,codeAny_mono->Rp,builtinLookup_eq_fast->T4,wpAny_specialOf->Th,codeAny_builtin->Ti,wpAny_updateSeq->Tj,plainId_quiet->Sd,wpAny_attempt->Se,wpAny_pyIter_rangeiter->U3,wpAny_mono->Rq,wpAny_call->Rr,wpAny_setField->Tk,wpAny_pyIter_revIter->U8,wpAny_updateSeq_pair->U9,post_val_or_str->Ud,wpAny_of_eq->Sg,typeLookup_type->Uf,wpAny_ite_false->Ug,wpAny_pyIter_list->Vj,wpAny_rule->Sh,wpAny_standAt->Ul,sizeLine_eq->Tq,wpAny_onRaise->Um,wpAny_execs_cons->Vl,noFill_tuple_add->Vn,wpAny_isInstance->Vp,Within->Uo,wpAny_typeOf->Up,revObj->Ur,typeIs_int->Tt,seqIndex_of->Ut,wpAny_letGo->Uu
open PySem.Around renaming under_plainId->Sr
open PySem.Builtin.List renaming listLengthHint->Si,listTooLong->Sk,listExtendWith->Uv
open PySem.Builtin.Range renaming rangeFitsLong->Pg,rangeSize->Qh
open PySem.Builtin.Slice renaming slicePlaces->Tz,sliceAdjust->Ux
open PySem.Builtin.SmallTypes renaming nextOf->Qc,ownedTupleIsFree->Rc,ownedTupleHandOut->Vy
open PySem.Builtin.Str renaming strSliceIndices->Tw
open PySem.Builtin.Tuple renaming tupleExact->T0
open PySem.Calls renaming spliced_cons->T6,spliced_nil->T9
open PySem.Challenge renaming pw_gapscribe_k24_whole_taken_back->R0
open PySem.F renaming plainAttrs_list->Ps,slot_list_append->Qw,type_list_append->Qx,slot_zip_next->Ri,slot_tuple_iterator_next->Tv,plain_extend_loop->Sj,slot_tuple_mul->Sm,slot_list_pop->Sn,type_list_pop->So,args_zip_next_1->T2,entry_zip_next->T3,excBase_ValueError->Uw,args_tuple_add_2->Uz,args_tuple_mul_2->U0,args_tuple_iterator_next_1->Vz,entry_tuple_add->U1,entry_tuple_iterator_next->V0,entry_tuple_mul->U2,slot_tuple_add->U5,slot_range_reversed->U7
open PySem.Heap renaming get?_push_of_some->Ot,get?_push_size->O2,lt_size->Ox,get?_update_other->Qi,SameBut->Pf,get?_update_self->Rh,size_push->P9,get?_none_of_le->Sq,ExtBut->Ts,dictOf_iff->Vw
open PySem.Obj renaming mapSeq->Py,data_mapFields->T7,mapFields->Sf,isFreed_of_fields->U6
open PySem.PassesOwn renaming never->Pw
open PySem.SeqAt renaming EqAt->O7
open PySem.SeqAt.EqAt renaming same->Vs
open PySem.Str renaming ofString->Px,empty->Rb
open PySem.Txt renaming slice->Qg,slice_le->Uq
open PySem.W renaming Frag->On,findIn->Os,kitOne->O0,nsIn->Oz,keepIn->O4,fnOf->O6,subIn->Pe,kia_one->Po,hasDictIn->P6,emptyDict->P7,plainGet->Qd,makesIn->P8,instObj->Qf,plainOver->Qs,BT->Pn,binds_K->Q3,Looks->Qu,typeIn->Q4,codeIn->Q5,mroIn->Q7,clsIn->Q8,tailIn->Ro,callWith_K->Sv,nsOkIn->Sb,isFn->Rz,cellsFrom_some->U4,kitx_list->T8,mg_of->Tl,plainGet_of->Va,kitx_tuple->Ve,lookIn->Uh,InstAt->Ui,methodObj->Vh,specialIn->Vi,makes_of->Vm,takerIn->Vq,takesIn->Vr,OpenLaw->Vt,kitMeta->Vu
namespace L2
open PySem PySem.Spec PyProof.Rows
noncomputable abbrev Bx:=Sum Int Str
noncomputable def Zfi:Bx->Value->Bool
 | .inl k,v=>Value.isInt k v
 | .inr x,v=>Value.isStrOf x v
noncomputable def keyH (w:World):Bx->Int
 | .inl k=>hashInt k
 | .inr x=>hashStr w x
theorem Fv:∀{k:Bx}{v:Value},Zfi k v=true->(∃ i t,k=Sum.inl i/\v=Value.int i t)\/(∃ x t,k=Sum.inr x/\v=Value.str x t)
 | .inl i,v,h=>by
  obtain ⟨t,e⟩:=Value.isInt_shape (k:=i) (v:=v) h
  exact .inl ⟨i,t,rfl,e⟩
 | .inr x,v,h=>by
  obtain ⟨t,e⟩:=Value.isStrOf_shape (x:=x) (v:=v) h
  exact .inr ⟨x,t,rfl,e⟩
theorem Zq7 (a b:Int):decide ((Sum.inl a:Bx)=Sum.inl b)=(a == b):=by
 by_cases e:a=b
 ·subst e;simp
 ·have h:¬ (Sum.inl a:Bx)=Sum.inl b:=fun q=>e (Sum.inl.inj q)
  rw [decide_eq_false h]
  exact (beq_eq_false_iff_ne.mpr e).symm
theorem Zt8 (a b:Str):decide ((Sum.inr a:Bx)=Sum.inr b)=decide (a=b):=by
 by_cases e:a=b
 ·subst e;simp
 ·have h:¬ (Sum.inr a:Bx)=Sum.inr b:=fun q=>e (Sum.inr.inj q)
  rw [decide_eq_false h,decide_eq_false e]
theorem Zkn (a:Int)(b:Str):decide ((Sum.inl a:Bx)=Sum.inr b)=false:=decide_eq_false (fun q=>nomatch q)
theorem Zke (a:Str)(b:Int):decide ((Sum.inr a:Bx)=Sum.inl b)=false:=decide_eq_false (fun q=>nomatch q)
noncomputable def Zb6 (prog:Program)(w:World):PySem.KeyKind prog w Bx where
 is:=Zfi
 hash:=keyH w
 inj:=fun v a b ha hb=>by
  rcases Fv ha with ⟨i,t,rfl,rfl⟩ | ⟨x,t,rfl,rfl⟩
  ·rcases Fv hb with ⟨j,u,rfl,e⟩ | ⟨y,u,rfl,e⟩
   ·injection e with e1 _;rw [e1]
   ·exact nomatch e
  ·rcases Fv hb with ⟨j,u,rfl,e⟩ | ⟨y,u,rfl,e⟩
   ·exact nomatch e
   ·injection e with e1 _;rw [e1]
 byValue:=fun k v h=>by
  rcases Fv h with ⟨i,t,rfl,rfl⟩ | ⟨x,t,rfl,rfl⟩ <;> rfl
 pyHash:=fun hv h=>by
  rcases Fv hv with ⟨i,t,rfl,rfl⟩ | ⟨x,t,rfl,rfl⟩
  ·exact wpAny_pyHash_int h
  ·exact wpAny_pyHash_str h
 eqBool:=fun hu hv h=>by
  rcases Fv hu with ⟨i,t,rfl,rfl⟩ | ⟨x,t,rfl,rfl⟩
  ·rcases Fv hv with ⟨j,u,rfl,rfl⟩ | ⟨y,u,rfl,rfl⟩
   ·rw [Zq7] at h;exact wpAny_eqBool_int h
   ·rw [Zkn] at h;exact O7.int_str i t y u _ _ _ _ h
  ·rcases Fv hv with ⟨j,u,rfl,rfl⟩ | ⟨y,u,rfl,rfl⟩
   ·rw [Zke] at h;exact O7.str_int x t j u _ _ _ _ h
   ·rw [Zt8] at h;exact wpAny_eqBool_str h
 «strs»:=fun k x t v h=>by
  rcases Fv h with ⟨i,u,rfl,e⟩ | ⟨y,u,rfl,e⟩
  ·exact nomatch e
  ·injection e with e1 _
   subst e1
   cases v <;> rfl
inductive V where
 | non | bl (b:Bool) | int (i:Int) | str (x:Str) | byt (b:Array UInt8) | flt (b:UInt64) | ref (a:Addr) | ty (n:String)
 deriving DecidableEq
noncomputable def RelV:V->Value->Prop
 | .non,u=>u=Value.none
 | .bl b,u=>u=Value.bool b
 | .int i,u=>∃ t,u=Value.int i t
 | .str x,u=>∃ t,u=Value.str x t
 | .byt b,u=>∃ t,u=Value.bytes b t
 | .flt b,u=>∃ t,u=Value.float b t
 | .ref a,u=>u=Value.ref a
 | .ty n,u=>u=Value.type n
noncomputable abbrev Vals:List V->List Value->Prop:=Paired RelV
theorem Vals.length {xs:List V}{us:List Value}(r:Vals xs us):xs.length=us.length:=Paired.length r
theorem Vals.get:∀{xs:List V}{us:List Value}{i:Nat}{x:V},Vals xs us->xs[i]?=some x->∃ u,us[i]?=some u/\RelV x u
 | _,_,_,_,.nil,e=>by simp at e
 | _,_,0,_,.cons r _,e=>by simp at e;subst e;exact ⟨_,rfl,r⟩
 | _,_,i+1,x,.cons _ t,e=>by
  obtain ⟨u,h1,h2⟩:=Vals.get (i:=i) (x:=x) t (by simpa using e)
  exact ⟨u,by simpa using h1,h2⟩
theorem Vals.set {x:V}{u:Value}(r:RelV x u):∀{xs:List V}{us:List Value}(i:Nat),Vals xs us->Vals (xs.set i x) (us.set i u)
 | _,_,_,.nil=>.nil
 | _,_,0,.cons _ t=>.cons r t
 | _,_,i+1,.cons q t=>.cons q (Vals.set r i t)
theorem Vals.append:∀{xs ys:List V}{us ws:List Value},Vals xs us->Vals ys ws->Vals (xs++ys) (us++ws)
 | _,_,_,_,.nil,s=>s
 | _,_,_,_,.cons r t,s=>.cons r (Vals.append t s)
theorem Vals.take:∀{xs:List V}{us:List Value}(n:Nat),Vals xs us->Vals (xs.take n) (us.take n)
 | _,_,0,_=>.nil
 | _,_,_+1,.nil=>.nil
 | _,_,n+1,.cons r t=>.cons r (Vals.take n t)
theorem Vals.drop:∀{xs:List V}{us:List Value}(n:Nat),Vals xs us->Vals (xs.drop n) (us.drop n)
 | _,_,0,r=>r
 | _,_,_+1,.nil=>.nil
 | _,_,n+1,.cons _ t=>Vals.drop n t
noncomputable def RelO:Option V->Option Value->Prop
 | some v,some u=>RelV v u
 | none,none=>True
 | _,_=>False
noncomputable def KV {κ:Type}:List (κ×V)->List (κ×Value)->Prop:=Paired fun (p:κ×V) (q:κ×Value)=>p.1=q.1/\RelV p.2 q.2
noncomputable def kV:Bx->V
 | .inl i=>.int i
 | .inr x=>.str x
inductive HO where
  | lst (xs:List V)
  | tup (xs:List V)
  | dK (kvs:List (Bx×V)) | dT (kvs:List (List Bx×V))
  | set (S:Int->Bool) (n:Nat)
  | ins (C dx:Addr) (fs:List (Str×V))
  | own (x:Addr)
  | xd (fs:List (Str×V))
  | met (f x:Addr)
  | rng (lo hi:Int)
  | frz (o:Obj) (u:HO)
  | tbl (ps:Array Value)
  | ext (φ:Heap->Prop)
noncomputable abbrev Hp:=Addr->Option HO
noncomputable def upd (H:Hp)(a:Addr)(o:HO):Hp:=fun b=>if b=a then some o else H b
theorem Ag {H:Hp}{a:Addr}{o:HO}:upd H a o a=some o:=by unfold upd;rw [if_pos rfl]
theorem Ay {H:Hp}{a b:Addr}{o:HO}(h:b≠a):upd H a o b=H b:=by unfold upd;rw [if_neg h]
theorem Za5 {H:Hp}{a:Addr}{o u:HO}:upd (upd H a o) a u=upd H a u:=by
 funext b;unfold upd;split <;> rfl
theorem Zdk {H:Hp}{a b:Addr}{o u:HO}(h:H a=some o)(h':H b=some u)(d:o≠u):a≠b:=by
 intro e;subst e;rw [h] at h';exact d (Pi h')
theorem Cq {H:Hp}{a b:Addr}{o:HO}(h:H a=some o)(h':H b=none):a≠b:=by
 intro e;subst e;rw [h] at h';cases h'
section
variable (P:Program)(w:World)
noncomputable def ObjOk (H:Hp)(h:Heap)(a:Addr):HO->Prop
 | .lst xs=>xs.length<=sizeLine/\∃(its:List Value)(n:Nat),Vals xs its/\h.get? a=some { cls:=.type "list",data:=.seq its.toArray n }
 | .tup xs=>xs.length<=sizeLine/\∃ its:List Value,Vals xs its/\IsTup h a its.toArray
 | .dK kvs=>kvs.length<=sizeLine/\(a == sysModules)=false/\∃ vs,KV kvs vs/\h.DictOf (Zb6 P w) a vs
 | .dT kvs=>kvs.length<=sizeLine/\(a == sysModules)=false/\∃ xs:List (List Bx×Addr×Value),
   Paired (fun (p:List Bx×V) (q:List Bx×Addr×Value)=>p.1=q.1/\H q.2.1=some (.tup (p.1.map kV))/\RelV p.2 q.2.2) kvs xs /\
   ∃ o es ep,h.get? a=some o/\o.ExactDict/\o.data=.dict es ep/\es.toList=xs.map (entryOfKey (tupleKind (Zb6 P w)))/\(xs.map (·.1)).Nodup
 | .set S n=>h.SetOf (intKind P w) a S n
 | .ins C dx fs=>H dx=some (.own a)/\fs.length<=1000/\dx≠a/\h.get? a=some (Qf C dx) /\
   ∃ mA,h.Ns1 dx mA/\(∀ f,RelO (fs.lookup f) (mA f))/\Uo mA (fs.map (·.1))
 | .own _=>∃ o,h.get? a=some o
 | .xd fs=>∃ mA,h.Ns1 a mA/\∀ f,RelO (fs.lookup f) (mA f)
 | .rng lo hi=>∃ t u v,h.get? a=some { cls:=.type "range",data:=.fields #[.int lo t,.int hi u,.int 1 v] }
 | .frz o u=>h.get? a=some o/\ObjOk H h a u
 | .tbl ps=>h.get? a=some { cls:=.none,data:=.fields ps }
 | .met f x=>h.get? a=some (Vh (.ref f) (.ref x))
 | .ext φ=>φ h/\(∃ o,h.get? a=some o)/\∀ h1 h2:Heap,φ h1->(∀ o,h1.get? a=some o->h2.get? a=some o)->φ h2
noncomputable def HOk (H:Hp)(h:Heap):Prop:=∀ a o,H a=some o->ObjOk P w H h a o
end
section
variable {P:Program}{w:World}{H H':Hp}{h h':Heap}{a:Addr}{o:HO}
theorem ObjOk.lt (x:ObjOk P w H h a o):a < h.objs.size:=by
 cases o with
 | lst xs=>obtain ⟨_,_,_,_,e⟩:=x;exact Ox e
 | tup xs=>obtain ⟨_,_,_,p⟩:=x;exact p.lt
 | dK kvs=>obtain ⟨_,_,_,_,o,_,_,e,_⟩:=x;exact Ox e
 | dT kvs=>obtain ⟨_,_,_,_,o,_,_,e,_⟩:=x;exact Ox e
 | set S n=>obtain ⟨o,_,_,_,e,_⟩:=x;exact Ox e
 | ins C dx fs=>obtain ⟨_,_,_,e,_⟩:=x;exact Ox e
 | own y=>obtain ⟨_,e⟩:=x;exact Ox e
 | xd fs=>obtain ⟨_,⟨_,_,_,e,_⟩,_⟩:=x;exact Ox e
 | rng lo hi=>obtain ⟨_,_,_,e⟩:=x;exact Ox e
 | frz ob u=>obtain ⟨e,_⟩:=x;exact Ox e
 | tbl ps=>exact Ox (show h.get? a=some _ from x)
 | met f y=>exact Ox (show h.get? a=some _ from x)
 | ext φ=>obtain ⟨_,⟨_,e⟩,_⟩:=x;exact Ox e
theorem Paired.mapP {α β:Type}{F G:α->β->Prop}:∀{l₁:List α}{l₂:List β},Paired F l₁ l₂->(∀ a b,F a b->G a b)->Paired G l₁ l₂
 | _,_,.nil,_=>.nil
 | _,_,.cons r t,f=>.cons (f _ _ r) (Paired.mapP t f)
theorem ObjOk.stay (x:ObjOk P w H h a o)(k:∀ b u,(b=a\/H b=some (.own a))->h.get? b=some u->h'.get? b=some u)
  (ho:∀ b,H b=some (.own a)->H' b=some (.own a)) (ht:∀ b xs,H b=some (.tup xs)->H' b=some (.tup xs)):ObjOk P w H' h' a o:=by
 induction o with
 | lst xs=>obtain ⟨z,its,n,r,e⟩:=x;exact ⟨z,its,n,r,k _ _ (.inl rfl) e⟩
 | tup xs=>obtain ⟨z,its,r,ob,e,c⟩:=x;exact ⟨z,its,r,ob,k _ _ (.inl rfl) e,c⟩
 | dK kvs=>obtain ⟨z,y,vs,r,ob,es,ep,e,c⟩:=x;exact ⟨z,y,vs,r,ob,es,ep,k _ _ (.inl rfl) e,c⟩
 | dT kvs =>
  obtain ⟨z,y,xs,r,ob,es,ep,e,c⟩:=x
  exact ⟨z,y,xs,Paired.mapP r fun p q z=>⟨z.1,ht _ _ z.2.1,z.2.2⟩,ob,es,ep,k _ _ (.inl rfl) e,c⟩
 | set S n=>obtain ⟨ob,es,ep,t,e,c⟩:=x;exact ⟨ob,es,ep,t,k _ _ (.inl rfl) e,c⟩
 | ins C dx fs =>
  obtain ⟨d,z,ne,e,mA,⟨od,es,ep,e2,c⟩,r⟩:=x
  exact ⟨ho _ d,z,ne,k _ _ (.inl rfl) e,mA,⟨od,es,ep,k _ _ (.inr d) e2,c⟩,r⟩
 | own y=>obtain ⟨ob,e⟩:=x;exact ⟨ob,k _ _ (.inl rfl) e⟩
 | xd fs=>obtain ⟨mA,⟨od,es,ep,e,c⟩,r⟩:=x;exact ⟨mA,⟨od,es,ep,k _ _ (.inl rfl) e,c⟩,r⟩
 | rng lo hi=>obtain ⟨t,u,v,e⟩:=x;exact ⟨t,u,v,k _ _ (.inl rfl) e⟩
 | frz ob u ih=>obtain ⟨e,q⟩:=x;exact ⟨k _ _ (.inl rfl) e,ih q⟩
 | tbl ps =>
  have e:h.get? a=some { cls:=.none,data:=.fields ps }:=x
  show h'.get? a=some { cls:=.none,data:=.fields ps }
  exact k a _ (.inl rfl) e
 | met f y =>
  have e:h.get? a=some (Vh (.ref f) (.ref y)):=x
  show h'.get? a=some (Vh (.ref f) (.ref y))
  exact k a _ (.inl rfl) e
 | ext φ=>obtain ⟨p,⟨o,e⟩,st⟩:=x;exact ⟨st _ _ p fun o q=>k _ _ (.inl rfl) q,⟨o,k _ _ (.inl rfl) e⟩,st⟩
theorem HOk.lt (x:HOk P w H h)(e:H a=some o):a < h.objs.size:=(x a o e).lt
theorem HOk.fresh (x:HOk P w H h)(e:h.objs.size<=a):H a=none:=by
 cases q:H a with
 | none=>rfl
 | some u=>exact absurd (O3 (x.lt q) e) (Qn _)
theorem HOk.kept (x:HOk P w H h)(k:∀ b u,h.get? b=some u->h'.get? b=some u):HOk P w H h':=fun a o e =>
 (x a o e).stay (fun b u _ q=>k b u q) (fun _ q=>q) fun _ _ q=>q
theorem HOk.laid (x:HOk P w H h)(k:∀ b u,h.get? b=some u->h'.get? b=some u)(hp:h.objs.size<=a)(new:ObjOk P w (upd H a o) h' a o):HOk P w (upd H a o) h':=fun b u e=>by
 have hn:=x.fresh hp
 by_cases hb:b=a
 ·subst hb;rw [Ag] at e;cases e;exact new
 ·rw [Ay hb] at e
  exact (x b u e).stay (fun c v _ q=>k c v q) (fun c q=>by rw [Ay (Cq q hn)];exact q) fun c xs q=>by rw [Ay (Cq q hn)];exact q
end
noncomputable def Rd (H:Hp)(a:Addr)(u:HO):Prop:=H a=some u\/∃ o,H a=some (.frz o u)
theorem Rd.ok {P:Program}{w:World}{H:Hp}{h:Heap}{a:Addr}{u:HO}(r:Rd H a u)(x:HOk P w H h):ObjOk P w H h a u:=by
 rcases r with r | ⟨o,r⟩
 ·exact x a u r
 ·obtain ⟨_,q⟩:=x a _ r
  exact q
noncomputable def Mut:Option HO->Prop
 | some (.lst _)=>True
 | some (.dK _)=>True
 | some (.dT _)=>True
 | some (.set _ _)=>True
 | some (.ins _ _ _)=>True
 | some (.ext _)=>True
 | _=>False
section
variable {P:Program}{w:World}{H:Hp}{h h':Heap}{x e:Addr}{o':HO}
theorem HOk.write (ok:HOk P w H h)(mu:Mut (H x))(he:e=x\/H e=some (.own x))(k:∀ b u,b≠e->h.get? b=some u->h'.get? b=some u)(heo:∃ u,h'.get? e=some u)
  (new:ObjOk P w (upd H x o') h' x o'):HOk P w (upd H x o') h':=fun b u q=>by
 have nown:∀ c y,H c=some (.own y)->c≠x:=fun c y r z=>by subst z;rw [r] at mu;exact mu
 have ntup:∀ c xs,H c=some (.tup xs)->c≠x:=fun c xs r z=>by subst z;rw [r] at mu;exact mu
 by_cases hb:b=x
 ·subst hb;rw [Ag] at q;cases q;exact new
 ·rw [Ay hb] at q
  by_cases hbe:b=e
  ·have q':H b=some (.own x):=by
    rcases he with z | z
    ·exact absurd (hbe.trans z) hb
    ·rw [hbe];exact z
   rw [q] at q';cases q'
   obtain ⟨v,hv⟩:=heo
   exact ⟨v,by rw [hbe];exact hv⟩
  ·refine (ok b u q).stay (fun c v hc r=>k c v ?_ r) (fun c r=>by rw [Ay (nown c b r)];exact r) fun c xs r=>by rw [Ay (ntup c xs r)];exact r
   rcases hc with rfl | hc
   ·exact hbe
   ·rintro rfl
    rcases he with z | z
    ·exact nown c b hc z
    ·rw [hc] at z;cases z;exact hb rfl
end
structure Un (fs ex:List Addr)(H H':Hp)(h h':Heap):Prop where
 keep:∀ b o,h.get? b=some o->H b=none->b ∉ fs->b ∉ ex->h'.get? b=some o
 slot:∀ b o,h.get? b=some o->H b=none->b∈fs->b ∉ ex->∃ sl,h'.get? b=some { o with slots:=sl }
 free:∀ b o,h.get? b=some o->H b=none->b ∉ ex->H' b=none
 there:∀ b o,h.get? b=some o->b ∉ ex->∃ o',h'.get? b=some o'
 tups:∀ b xs,H b=some (.tup xs)->H' b=some (.tup xs)
 frzs:∀ b o u,H b=some (.frz o u)->H' b=some (.frz o u)
 tbls:∀ b ps,H b=some (.tbl ps)->∃ more,H' b=some (.tbl (ps++more))
section
variable {fs fs' ex ex':List Addr}{H H1 H2:Hp}{h h1 h2 h':Heap}{a x e:Addr}{o:HO}
theorem Un.any (u:Un fs ex H H1 h h1){b:Addr}{ob:Obj}(q:h.get? b=some ob)(n:H b=none)(hx:b ∉ ex):∃ sl,h1.get? b=some { ob with slots:=sl }:=by
 by_cases hb:b∈fs
 ·exact u.slot b ob q n hb hx
 ·exact ⟨ob.slots,u.keep b ob q n hb hx⟩
theorem Un.kept (k:∀ b u,h.get? b=some u->h'.get? b=some u):Un fs ex H H h h' :=
 ⟨fun b ob q _ _ _=>k b ob q,fun b ob q _ _ _=>⟨ob.slots,k b ob q⟩,fun _ _ _ n _=>n,fun b ob q _=>⟨ob,k b ob q⟩,fun _ _ q=>q,fun _ _ _ q=>q,fun _ ps q=>⟨#[],by rw [q];simp⟩⟩
theorem Un.refl:Un fs ex H H h h:=Un.kept fun _ _ q=>q
theorem Un.laid (k:∀ b u,h.get? b=some u->h'.get? b=some u)(hp:h.objs.size<=a)(hn:H a=none):Un fs ex H (upd H a o) h h' where
 keep:=fun b u q _ _ _=>k b u q
 slot:=fun b u q _ _ _=>⟨u.slots,k b u q⟩
 free:=fun b u q n _=>by rw [Ay (O5 (O3 (Ox q) hp))];exact n
 there:=fun b u q _=>⟨u,k b u q⟩
 tups:=fun b xs q=>by rw [Ay (Cq q hn)];exact q
 frzs:=fun b u xs q=>by rw [Ay (Cq q hn)];exact q
 tbls:=fun b ps q=>⟨#[],by rw [Ay (Cq q hn),q];simp⟩
theorem Un.write (mu:Mut (H x))(he:e=x\/H e=some (.own x))(k:∀ b u,b≠e->h.get? b=some u->h'.get? b=some u)(heo:∃ u,h'.get? e=some u):Un fs ex H (upd H x o) h h':=by
 have hx:∀ b,H b=none->b≠x:=fun b n z=>by subst z;rw [n] at mu;exact mu
 have hb:∀ b,H b=none->b≠e:=fun b n z=>by
  subst z
  rcases he with r | r
  ·exact hx b n r
  ·rw [n] at r;cases r
 have hm:∀ b u,H b=some u->¬ Mut (some u)->b≠x:=fun b u q nm z=>by subst z;rw [q] at mu;exact nm mu
 refine ⟨fun b u q n _ _=>k b u (hb b n) q,fun b u q n _ _=>⟨u.slots,k b u (hb b n) q⟩,fun b u q n _=>by rw [Ay (hx b n)];exact n,fun b u q _=>?_,
  fun b xs q=>by rw [Ay (hm b _ q fun z=>z)];exact q,fun b u xs q=>by rw [Ay (hm b _ q fun z=>z)];exact q,fun b ps q=>⟨#[],by rw [Ay (hm b _ q fun z=>z),q];simp⟩⟩
 by_cases hbe:b=e
 ·subst hbe;exact heo
 ·exact ⟨u,k b u hbe q⟩
end
noncomputable def trk (h:Heap)(H:Hp):List Addr:=(Pc h.objs.size).filter fun a=>(H a).isSome
noncomputable def Fm (h:Heap)(H:Hp):Heap:=PySem.W.hideAll h (trk h H)
theorem Zpi (h:Heap)(H:Hp):(Fm h H).objs.size=h.objs.size:=PySem.W.hideAll_size _ _
theorem Zlb {h:Heap}{H:Hp}{b:Addr}{o:Obj}(e:h.get? b=some o)(n:H b=none):(Fm h H).get? b=some o :=
 PySem.W.hideAll_get _ e fun hm=>by
  have q:(H b).isSome=true:=(List.mem_filter.mp hm).2
  rw [n] at q;simp at q
theorem Zo0 {h:Heap}{H:Hp}{b:Addr}{o:Obj}(e:(Fm h H).get? b=some o):h.get? b=some o/\H b=none:=by
 have e':h.get? b=some o:=PySem.W.of_hideAll (trk h H) e
 refine ⟨e',?_⟩
 cases q:H b with
 | none=>rfl
 | some x =>
  have hm:b∈trk h H:=List.mem_filter.mpr ⟨List.mem_range.mpr (Ox e'),by simp [q]⟩
  have z:(Fm h H).get? b=none:=PySem.W.hideAll_none (trk h H) hm
  rw [z] at e;cases e
structure Mod (K:On)(mg:Str->Option Value)(base:Heap):Prop where
 kin:K.In base
 glob:base.Ns mainGlobals mg
 blt:∃ mb,base.Ns builtinsNs mb/\∀ x:Str,x ≠ "__name__" -> mb x=bootBuiltins x
 nolimit:base.NoLimit
structure Cx where
 prog:Program
 w:World
 K:On
 mg:Str->Option Value
 base:Heap
 A:Around
 N:List Str
 s₀:Shared
 H₀:Hp
 env:Env
 outer:List Env
 stack:List Env
 ex:List Addr
 fn:Str->Bool
 calm:Bool
 pn:List (Addr×Obj)
 xe:Value->Shared->Prop
noncomputable def Bd (l:List Env):List Addr:=l.filterMap (·.frame)
noncomputable abbrev Cx.fs (X:Cx):List Addr:=Bd X.outer
noncomputable def Vis (sc:Scope)(x:Str):Prop:=sc.names.lookup x=some .local\/sc.names.lookup x=some .cell\/sc.names.lookup x=some .free
noncomputable def E6 (sc:Scope)(x:Str):Prop:=sc.names.lookup x=some .local\/sc.names.lookup x=some .cell
noncomputable def Look (env:Env)(h:Heap)(m:Str->Option Value)(x:Str)(u:Value):Prop :=
 (env.kindOf x=some .local/\m x=some u)\/((env.kindOf x=some .cell\/env.kindOf x=some .free)/\∃ c,env.cells.lookup x=some c/\h.IsCell c (some u))
structure Cx.Ok (X:Cx):Prop where
 mod:Mod X.K X.mg X.base
 kind:X.env.scope.kind=.function
 glob:X.env.globals=mainGlobals
 blt:X.env.builtins=builtinsNs
 above:X.s₀.heap.objs.size<=X.env.locals
 inj:∀ x y c,X.env.cells.lookup x=some c->X.env.cells.lookup y=some c->x=y
 has:∀ x,(X.env.kindOf x=some .cell\/X.env.kindOf x=some .free)->∃ c,X.env.cells.lookup x=some c
 cab:∀ x c,X.fn x=true->X.env.cells.lookup x=some c->X.s₀.heap.objs.size<=c
 hd:X.calm=true->X.A.handled=none
 frames:X.A.frames=some X.stack
 stk:X.stack=X.outer\/(X.stack=X.env::X.outer/\X.env.frame=some X.env.locals)
 exf:∀ b∈X.ex,b≠X.env.locals/\∀ x c,X.env.cells.lookup x=some c->c≠b
 bs:∀ b o,X.base.get? b=some o->X.s₀.heap.get? b=some o/\X.H₀ b=none
 bsz:X.base.objs.size<=X.s₀.heap.objs.size
 noex:∀ b o,X.base.get? b=some o->b ∉ X.ex
 exfs:∀ b∈X.ex,b ∉ X.fs
 funs:X.s₀.heap.FunFrames X.base X.outer
 frf:∀ b∈X.fs,X.H₀ b=none
structure Inv (X:Cx)(pins:List (Addr×Obj))(σ:List (Option V))(H:Hp)(s:Shared):Prop where
 ok:X.Ok
 os:s.os=X.s₀.os
 bare:AllBare s.gens
 base:Un X.fs X.ex X.H₀ H X.s₀.heap s.heap
 loc:∃ m,s.heap.Ns X.env.locals m/\∀(i:Nat)(x:Str)(v:V),X.N[i]?=some x->σ[i]?=some (some v)->Vis X.env.scope x->∃ u,RelV v u/\Look X.env s.heap m x u
 cell:∀ x c,X.env.cells.lookup x=some c->∃ v,s.heap.IsCell c v
 free:H X.env.locals=none
 freeC:∀ x c,X.env.cells.lookup x=some c->H c=none
 pin:∀ p∈X.pn++pins,s.heap.get? p.1=some p.2/\H p.1=none/\p.1≠X.env.locals/\p.1 ∉ X.fs/\∀ v,p.2.data≠.cell v
 hok:HOk X.prog X.w H s.heap
 len:σ.length=X.N.length
section
variable {X:Cx}{pins:List (Addr×Obj)}{σ:List (Option V)}{H H':Hp}{s:Shared}{h':Heap}
theorem Cx.Ok.nofr (ok:X.Ok){b:Addr}{o:Obj}(e:X.base.get? b=some o):b ∉ X.fs:=fun hb=>by
 have:=(ok.funs.mem hb).1
 rw [e] at this;cases this
theorem Inv.bs (I:Inv X pins σ H s):∀ b o,X.base.get? b=some o->s.heap.get? b=some o/\H b=none:=fun b o e =>
 ⟨I.base.keep b o (I.ok.bs b o e).1 (I.ok.bs b o e).2 (I.ok.nofr e) (I.ok.noex b o e),I.base.free b o (I.ok.bs b o e).1 (I.ok.bs b o e).2 (I.ok.noex b o e)⟩
theorem Inv.bk (I:Inv X pins σ H s):∀ b o,X.base.get? b=some o->s.heap.get? b=some o:=fun b o e=>(I.bs b o e).1
theorem Inv.mod (I:Inv X pins σ H s):Mod X.K X.mg X.base:=I.ok.mod
theorem Inv.kIn (I:Inv X pins σ H s):X.K.In s.heap:=I.ok.mod.kin.keeps I.bk
theorem Inv.lt (I:Inv X pins σ H s):X.env.locals < s.heap.objs.size:=let ⟨_,hn,_⟩:=I.loc;hn.lt
theorem Inv.sz (I:Inv X pins σ H s):X.s₀.heap.objs.size<=s.heap.objs.size:=Pp I.ok.above (Nat.le_of_lt I.lt)
theorem Inv.nofs (I:Inv X pins σ H s){a:Addr}(h:s.heap.objs.size<=a):a ∉ X.fs:=fun hb=>by
 obtain ⟨_,o,ho,_⟩:=I.ok.funs.mem hb
 exact absurd (O3 (Ox ho) (Pp I.sz h)) (Qn _)
theorem Inv.cne (I:Inv X pins σ H s):∀ x c,X.env.cells.lookup x=some c->c≠X.env.locals:=fun x c e z=>by
 obtain ⟨v,o,ho,hd⟩:=I.cell x c e
 obtain ⟨m,⟨o',es,ep,ho',hd',_⟩,_⟩:=I.loc
 rw [z,ho'] at ho;cases ho;rw [hd'] at hd;cases hd
theorem Inv.funs (I:Inv X pins σ H s):s.heap.FunFrames X.base X.outer:=by
 have all:∀(l:List Env),(∀ b∈Bd l,b∈X.fs)->X.s₀.heap.FunFrames X.base l->s.heap.FunFrames X.base l:=by
  intro l
  induction l with
  | nil=>intro _ _;trivial
  | cons env r ih =>
   intro hs hl
   obtain ⟨hk,⟨L,o,hf,hn,ho,hd⟩,hr⟩:=hl
   have hL:L∈X.fs:=hs L (by unfold Bd;rw [T5,hf];exact Su)
   obtain ⟨sl,e⟩:=I.base.slot L o ho (I.ok.frf L hL) hL fun z=>I.ok.exfs L z hL
   exact ⟨hk,⟨L,_,hf,hn,e,hd⟩,ih (fun b hb=>hs b (by unfold Bd;rw [T5,hf];exact Qz _ hb)) hr⟩
 exact all X.outer (fun _ hb=>hb) I.ok.funs
theorem Inv.stack (I:Inv X pins σ H s):s.heap.FunFrames X.base X.stack:=by
 rcases I.ok.stk with e | ⟨e,hf⟩
 ·rw [e];exact I.funs
 ·rw [e]
  obtain ⟨m,hn,_⟩:=I.loc
  refine .cons (by rw [I.ok.kind];decide) hf hn ?_ I.funs
  exact Sq (Pp I.ok.bsz I.ok.above)
theorem Inv.stkSub (I:Inv X pins σ H s):∀ b∈Bd X.stack,b∈X.env.locals::X.fs:=fun b hb=>by
 rcases I.ok.stk with e | ⟨e,hf⟩
 ·rw [e] at hb;exact Qz _ hb
 ·rw [e] at hb
  unfold Bd at hb
  rw [T5,hf] at hb
  exact hb
theorem Inv.stkFree (I:Inv X pins σ H s):∀ b∈Bd X.stack,H b=none:=fun b hb=>by
 rcases O1.mp (I.stkSub b hb) with e | hb
 ·rw [e];exact I.free
 ·obtain ⟨_,o,ho,_⟩:=I.ok.funs.mem hb
  exact I.base.free b o ho (I.ok.frf b hb) fun z=>I.ok.exfs b z hb
theorem Inv.step {g':Array GenState}{t':Nat}{d':Drawn}{ch:List Addr}(I:Inv X pins σ H s)
  (hch:∀ b∈ch,(b∈X.ex\/X.s₀.heap.objs.size<=b)/\b≠X.env.locals/\(∀ x c,X.env.cells.lookup x=some c->c≠b)/\∀ p∈X.pn++pins,p.1≠b)
  (keep:∀ b o,b≠X.env.locals->b ∉ X.fs->b ∉ ch->s.heap.get? b=some o->H b=none->h'.get? b=some o)
  (slot:∀ b o,b≠X.env.locals->b∈X.fs->b ∉ ch->s.heap.get? b=some o->H b=none->∃ sl,h'.get? b=some { o with slots:=sl }) (free:∀ b o,b ∉ ch->s.heap.get? b=some o->H b=none->H' b=none)
  (there:∀ b o,b ∉ ch->s.heap.get? b=some o->∃ o',h'.get? b=some o')
  (tups:∀ b xs,H b=some (.tup xs)->H' b=some (.tup xs)) (frzs:∀ b o u,H b=some (.frz o u)->H' b=some (.frz o u)) (tbls:∀ b ps,H b=some (.tbl ps)->∃ more,H' b=some (.tbl (ps++more)))
  (ns:∀ m,s.heap.Ns X.env.locals m->h'.Ns X.env.locals m) (hok:HOk X.prog X.w H' h') (hg:AllBare g') :
  Inv X pins σ H' { s with heap:=h',gens:=g',drawn:=d',toks:=t' }:=by
 have neL:∀ b o,X.s₀.heap.get? b=some o->b≠X.env.locals:=fun b o e=>O5 (O3 (Ox e) I.ok.above)
 have neC:∀ b o,X.s₀.heap.get? b=some o->b ∉ X.ex->b ∉ ch:=fun b o e hx hb=>by
  rcases (hch b hb).1 with z | z
  ·exact hx z
  ·exact absurd (O3 (Ox e) z) (Qn _)
 have cellK:∀ x c,X.env.cells.lookup x=some c->∀ v,s.heap.IsCell c v->h'.IsCell c v:=fun x c e v ⟨o,ho,hd⟩=>by
  have nch:c ∉ ch:=fun z=>(hch c z).2.2.1 x c e rfl
  by_cases hc:c∈X.fs
  ·obtain ⟨sl,q⟩:=slot c o (I.cne x c e) hc nch ho (I.freeC x c e)
   exact ⟨_,q,hd⟩
  ·exact ⟨o,keep c o (I.cne x c e) hc nch ho (I.freeC x c e),hd⟩
 refine ⟨I.ok,I.os,hg,⟨fun b o e n hb hx=>?_,fun b o e n hb hx=>?_,fun b o e n hx=>?_,fun b o e hx=>?_,fun b xs e=>tups b xs (I.base.tups b xs e),fun b o xs e=>frzs b o xs (I.base.frzs b o xs e),fun b ps e=>?_⟩,?_,fun x c e=>?_,?_,fun x c e=>?_,fun p hp=>?_,hok,I.len⟩
 ·exact keep b o (neL b o e) hb (neC b o e hx) (I.base.keep b o e n hb hx) (I.base.free b o e n hx)
 ·obtain ⟨sl,e1⟩:=I.base.slot b o e n hb hx
  obtain ⟨sl',e2⟩:=slot b _ (neL b o e) hb (neC b o e hx) e1 (I.base.free b o e n hx)
  exact ⟨sl',e2⟩
 ·obtain ⟨o',e1⟩:=I.base.there b o e hx
  exact free b o' (neC b o e hx) e1 (I.base.free b o e n hx)
 ·obtain ⟨o',e1⟩:=I.base.there b o e hx
  exact there b o' (neC b o e hx) e1
 ·obtain ⟨m1,e1⟩:=I.base.tbls b ps e
  obtain ⟨m2,e2⟩:=tbls b _ e1
  exact ⟨m1++m2,by rw [e2,Array.append_assoc]⟩
 ·obtain ⟨m,hn,hl⟩:=I.loc
  refine ⟨m,ns m hn,fun i x v e1 e2 e3=>?_⟩
  obtain ⟨u,r,l⟩:=hl i x v e1 e2 e3
  refine ⟨u,r,?_⟩
  rcases l with l | ⟨k,c,e,z⟩
  ·exact .inl l
  ·exact .inr ⟨k,c,e,cellK x c e _ z⟩
 ·obtain ⟨v,z⟩:=I.cell x c e
  exact ⟨v,cellK x c e v z⟩
 ·obtain ⟨m,⟨o,_,_,ho,_⟩,_⟩:=I.loc
  exact free _ o (fun z=>(hch _ z).2.1 rfl) ho I.free
 ·obtain ⟨v,o,ho,hd⟩:=I.cell x c e
  exact free c o (fun z=>(hch c z).2.2.1 x c e rfl) ho (I.freeC x c e)
 ·obtain ⟨e,n,ne,nf,d⟩:=I.pin p hp
  have nch:p.1 ∉ ch:=fun z=>(hch p.1 z).2.2.2 p hp rfl
  exact ⟨keep p.1 p.2 ne nf nch e n,free p.1 p.2 nch e n,ne,nf,d⟩
theorem Inv.un {t':Nat}(I:Inv X pins σ H s)(u:Un X.fs [] H H' s.heap h')(hok:HOk X.prog X.w H' h'):Inv X pins σ H' { s with heap:=h',toks:=t' }:=by
 obtain ⟨m,⟨o,es,ep,ho,r⟩,_⟩:=id I.loc
 obtain ⟨sl,hL⟩:=u.any ho I.free (by simp)
 exact I.step (g':=s.gens) (d':=s.drawn) (ch:=[]) (fun _ z=>nomatch z) (fun b o _ hb _ e n=>u.keep b o e n hb (by simp)) (fun b o _ hb _ e n=>u.slot b o e n hb (by simp)) (fun b o _ e n=>u.free b o e n (by simp)) (fun b o _ e=>u.there b o e (by simp)) u.tups u.frzs u.tbls (fun m' hm=>by
  obtain ⟨o',es',ep',ho',r'⟩:=hm
  rw [ho] at ho';cases ho'
  exact ⟨_,es',ep',hL,r'⟩) hok I.bare
theorem Inv.call {g':Array GenState}{t':Nat}{d':Drawn}{ch:List Addr}(I:Inv X pins σ H s)(u:Un (Bd X.stack) ch H H' s.heap h')(hok:HOk X.prog X.w H' h')(hg:AllBare g')
  (hch:∀ b∈ch,(b∈X.ex\/X.s₀.heap.objs.size<=b)/\b≠X.env.locals/\(∀ x c,X.env.cells.lookup x=some c->c≠b)/\∀ p∈X.pn++pins,p.1≠b) :
  Inv X pins σ H' { s with heap:=h',gens:=g',drawn:=d',toks:=t' }:=by
 obtain ⟨m,⟨o,es,ep,ho,r⟩,_⟩:=id I.loc
 obtain ⟨sl,hL⟩:=u.any ho I.free fun z=>(hch _ z).2.1 rfl
 exact I.step (ch:=ch) hch (fun b o hL hb hc e n=>u.keep b o e n (fun z=>(O1.mp (I.stkSub b z)).elim hL hb) hc) (fun b o _ _ hc e n=>u.any e n hc) (fun b o hc e n=>u.free b o e n hc) (fun b o hc e=>u.there b o e hc) u.tups u.frzs u.tbls (fun m' hm=>by
  obtain ⟨o',es',ep',ho',r'⟩:=hm
  rw [ho] at ho';cases ho'
  exact ⟨_,es',ep',hL,r'⟩) hok hg
theorem Inv.turned {t':Nat}{it:Addr}(I:Inv X pins σ H s)(k:∀ b o,b≠it->s.heap.get? b=some o->h'.get? b=some o)(hn:H it=none)(hL:it≠X.env.locals)
  (h1:it∈X.ex\/X.s₀.heap.objs.size<=it) (h2:∀ x c,X.env.cells.lookup x=some c->c≠it) (h3:∀ p∈X.pn++pins,p.1≠it):Inv X pins σ H { s with heap:=h',toks:=t' }:=by
 have nit:∀ b u,H b=some u->b≠it:=fun b u e z=>by rw [z,hn] at e;cases e
 refine I.step (g':=s.gens) (d':=s.drawn) (ch:=[it]) (fun b hb=>?_) (fun b o _ _ hc e _=>k b o (fun z=>hc (by simp [z])) e) (fun b o _ _ hc e _=>⟨o.slots,k b o (fun z=>hc (by simp [z])) e⟩) (fun _ _ _ _ n=>n)
  (fun b o hc e=>⟨o,k b o (fun z=>hc (by simp [z])) e⟩) (fun _ _ e=>e) (fun _ _ _ e=>e) (fun b ps e=>⟨#[],by rw [e];simp⟩) (fun m hm=>?_) (fun b u e=>?_) I.bare
 ·have e:b=it:=by simpa using hb
  subst e
  exact ⟨h1,hL,h2,h3⟩
 ·obtain ⟨o,es,ep,ho,r⟩:=hm
  exact ⟨o,es,ep,k _ o (Qb hL) ho,r⟩
 ·refine (I.hok b u e).stay (fun c v hc q=>k c v ?_ q) (fun _ q=>q) fun _ _ q=>q
  rcases hc with z | z
  ·rw [z];exact nit b u e
  ·exact nit c _ z
theorem Inv.tok (I:Inv X pins σ H s)(t:Nat):Inv X pins σ H { s with toks:=t }:=I.un (h':=s.heap) (t':=t) Un.refl I.hok
theorem Inv.kept {t':Nat}(I:Inv X pins σ H s)(k:∀ b u,s.heap.get? b=some u->h'.get? b=some u):Inv X pins σ H { s with heap:=h',toks:=t' }:=I.un (Un.kept k) (I.hok.kept k)
theorem Inv.laid {a:Addr}{o:HO}{t':Nat}(I:Inv X pins σ H s)(k:∀ b u,s.heap.get? b=some u->h'.get? b=some u)(hp:s.heap.objs.size<=a)(new:ObjOk X.prog X.w (upd H a o) h' a o) :
  Inv X pins σ (upd H a o) { s with heap:=h',toks:=t' }:=I.un (Un.laid k hp (I.hok.fresh hp)) (I.hok.laid k hp new)
theorem Inv.write {x e:Addr}{o:HO}{t':Nat}(I:Inv X pins σ H s)(mu:Mut (H x))(he:e=x\/H e=some (.own x))(k:∀ b u,b≠e->s.heap.get? b=some u->h'.get? b=some u)(heo:∃ u,h'.get? e=some u)
  (new:ObjOk X.prog X.w (upd H x o) h' x o):Inv X pins σ (upd H x o) { s with heap:=h',toks:=t' }:=I.un (Un.write mu he k heo) (I.hok.write mu he k heo new)
theorem Inv.pins_of {pins':List (Addr×Obj)}(I:Inv X pins σ H s)(h:∀ p∈pins',s.heap.get? p.1=some p.2/\H p.1=none/\p.1≠X.env.locals/\p.1 ∉ X.fs/\∀ v,p.2.data≠.cell v):Inv X pins' σ H s :=
 ⟨I.ok,I.os,I.bare,I.base,I.loc,I.cell,I.free,I.freeC,fun p hp=>(Pu.mp hp).elim (fun z=>I.pin p (R5 _ z)) (h p),I.hok,I.len⟩
theorem Zcg {N:List Str}(hN:N.Nodup){i j:Nat}{x:Str}(a:N[i]?=some x)(b:N[j]?=some x):i=j:=by
 obtain ⟨h1,e1⟩:=Pa.mp a
 obtain ⟨h2,e2⟩:=Pa.mp b
 exact (List.getElem_inj hN).mp (e1.trans e2.symm)
theorem Zie {M:Model}{A:Around}{E:Value->Shared->Prop}{i:Nat}{x:Str}{v:V}{u:Value}{Q:Unit->Shared->Prop}(I:Inv X pins σ H s)(hN:X.N.Nodup)(hi:X.N[i]?=some x)(hx:E6 X.env.scope x)(r:RelV v u)
  (h:∀ s',Inv X pins (σ.set i (some v)) H s'->(∃ a,Pf a s.heap s'.heap/\(a=X.env.locals\/X.env.cells.lookup x=some a))->Q () s') (hf:X.fn x=true\/X.env.scope.names.lookup x=some .local:=by first | exact .inl rfl | exact .inr rfl | assumption):wpAny M A (storeName X.env x u) Q E s:=by
 obtain ⟨m,hn,hl⟩:=id I.loc
 have hcls:(X.env.scope.kind == .class || (X.env.scope.kind == .module && X.env.locals != X.env.globals))=false:=by rw [I.ok.kind];rfl
 have hiσ:i < σ.length:=by rw [I.len];exact (Pa.mp hi).1
 have cne:=I.cne
 have tracked:∀{a:Addr}{h':Heap},(∃ o,s.heap.get? a=some o/\H a=none)->Pf a s.heap h'->HOk X.prog X.w H h':=fun {a h'} ha hs b ob e=>by
  obtain ⟨_,_,hfree⟩:=ha
  refine (I.hok b ob e).stay (fun c w' hc q=>(hs.2 c ?_).trans q) (fun _ q=>q) fun _ _ q=>q
  rintro rfl
  rcases hc with rfl | hc
  ·rw [hfree] at e;cases e
  ·rw [hfree] at hc;cases hc
 rcases hx with hk | hk
 ·refine wpAny_storeName_local hk hn (fun h' hn' hs=>?_) hcls
  obtain ⟨oL,_,_,hoL,_⟩:=id hn
  refine h _ ⟨I.ok,I.os,I.bare,⟨fun b o e n hb hx=>?_,fun b o e n hb hx=>?_,I.base.free,fun b o e hx=>?_,I.base.tups,I.base.frzs,I.base.tbls⟩,⟨_,hn',fun j y v' e1 e2 e3=>?_⟩,fun y c e=>?_,I.free,I.freeC,fun p hp=>?_,tracked ⟨oL,hoL,I.free⟩ hs,by simpa using I.len⟩ ⟨_,hs,.inl rfl⟩
  ·exact (hs.2 b (O5 (O3 (Ox e) I.ok.above))).trans (I.base.keep b o e n hb hx)
  ·obtain ⟨sl,e1⟩:=I.base.slot b o e n hb hx
   exact ⟨sl,(hs.2 b (O5 (O3 (Ox e) I.ok.above))).trans e1⟩
  ·obtain ⟨o',e1⟩:=I.base.there b o e hx
   exact ⟨o',(hs.2 b (O5 (O3 (Ox e) I.ok.above))).trans e1⟩
  ·by_cases hj:j=i
   ·subst hj
    rw [hi] at e1;cases e1
    rw [Qy hiσ] at e2
    cases e2
    exact ⟨u,r,.inl ⟨hk,by simp⟩⟩
   ·rw [R6 (Qb hj)] at e2
    obtain ⟨u',r',q⟩:=hl j y v' e1 e2 e3
    refine ⟨u',r',?_⟩
    rcases q with ⟨k,e⟩ | ⟨k,c,e,z⟩
    ·refine .inl ⟨k,?_⟩
     have:y≠x:=fun e=>hj (Zcg hN e1 (e ▸ hi))
     simp [this,e]
    ·exact .inr ⟨k,c,e,z.sameBut hs (cne y c e)⟩
  ·obtain ⟨w',z⟩:=I.cell y c e
   exact ⟨w',z.sameBut hs (cne y c e)⟩
  ·obtain ⟨e,n,ne,nf,d⟩:=I.pin p hp
   exact ⟨(hs.2 p.1 ne).trans e,n,ne,nf,d⟩
 ·have hfn:X.fn x=true:=by
   rcases hf with z | z
   ·exact z
   ·rw [z] at hk;cases hk
  obtain ⟨c,hc⟩:=I.ok.has x (.inl hk)
  obtain ⟨w',z⟩:=I.cell x c hc
  refine wpAny_storeName_cell I.ok.kind hk hc z (fun h' hc' hs=>?_)
  obtain ⟨oc,hoc,hocd⟩:=id z
  refine h { s with heap:=h' } ⟨I.ok,I.os,I.bare,⟨fun b o e n hb hx=>?_,fun b o e n hb hx=>?_,I.base.free,fun b o e hx=>?_,I.base.tups,I.base.frzs,I.base.tbls⟩,⟨m,hn.sameBut hs (Qb (cne x c hc)),fun j y v' e1 e2 e3=>?_⟩,fun y c' e=>?_,I.free,I.freeC,fun p hp=>?_,tracked ⟨oc,hoc,I.freeC x c hc⟩ hs,by simpa using I.len⟩ ⟨c,hs,.inr hc⟩
  ·exact (hs.2 b (O5 (O3 (Ox e) (I.ok.cab x c hfn hc)))).trans (I.base.keep b o e n hb hx)
  ·obtain ⟨sl,e1⟩:=I.base.slot b o e n hb hx
   exact ⟨sl,(hs.2 b (O5 (O3 (Ox e) (I.ok.cab x c hfn hc)))).trans e1⟩
  ·obtain ⟨o',e1⟩:=I.base.there b o e hx
   exact ⟨o',(hs.2 b (O5 (O3 (Ox e) (I.ok.cab x c hfn hc)))).trans e1⟩
  ·by_cases hj:j=i
   ·subst hj
    rw [hi] at e1;cases e1
    rw [Qy hiσ] at e2
    cases e2
    exact ⟨u,r,.inr ⟨.inl hk,c,hc,hc'⟩⟩
   ·rw [R6 (Qb hj)] at e2
    obtain ⟨u',r',q⟩:=hl j y v' e1 e2 e3
    refine ⟨u',r',?_⟩
    rcases q with q | ⟨k,c',e,z'⟩
    ·exact .inl q
    ·refine .inr ⟨k,c',e,z'.sameBut hs ?_⟩
     rintro rfl
     exact hj (Zcg hN e1 (I.ok.inj _ _ _ e hc ▸ hi))
  ·by_cases hcc:c'=c
   ·subst hcc;exact ⟨_,hc'⟩
   ·obtain ⟨w2,z2⟩:=I.cell y c' e
    exact ⟨w2,z2.sameBut hs hcc⟩
  ·obtain ⟨e,n,ne,nf,d⟩:=I.pin p hp
   refine ⟨(hs.2 p.1 ?_).trans e,n,ne,nf,d⟩
   intro q
   rw [q,hoc] at e
   have q':oc=p.2:=Pi e
   exact d w' (by rw [<- q'];exact hocd)
theorem Nk {M:Model}{A:Around}{E:Value->Shared->Prop}{i:Nat}{x:Str}{v:V}{u:Value}{Q:Unit->Shared->Prop}(I:Inv X pins σ H s)(hN:X.N.Nodup)(hi:X.N[i]?=some x)(hx:E6 X.env.scope x)(r:RelV v u)
  (h:∀ s',Inv X pins (σ.set i (some v)) H s'->Q () s') (hf:X.fn x=true\/X.env.scope.names.lookup x=some .local:=by first | exact .inl rfl | exact .inr rfl | assumption):wpAny M A (storeName X.env x u) Q E s :=
 Zie I hN hi hx r (fun s' I' _=>h s' I') hf
theorem Inv.call' {s':Shared}{ch:List Addr}(I:Inv X pins σ H s)(ho:s'.os=s.os)(u:Un (Bd X.stack) ch H H' s.heap s'.heap)(hok:HOk X.prog X.w H' s'.heap)(hg:AllBare s'.gens)
  (hch:∀ b∈ch,(b∈X.ex\/X.s₀.heap.objs.size<=b)/\b≠X.env.locals/\(∀ x c,X.env.cells.lookup x=some c->c≠b)/\∀ p∈X.pn++pins,p.1≠b):Inv X pins σ H' s':=by
 obtain ⟨h',g',d',t',o'⟩:=s'
 have e:o'=s.os:=ho
 subst e
 exact I.call (g':=g') (t':=t') (d':=d') u hok hg hch
end
noncomputable abbrev XK:=Value->Option Addr->Hp->Prop
noncomputable abbrev St:=List (Option V)
noncomputable abbrev VK:=V->Hp->Prop
noncomputable abbrev TE:=St->Hp->VK->Prop
noncomputable abbrev TT:=St->Hp->(Bool->Hp->Prop)->Prop
noncomputable abbrev TA:=St->Hp->(List V->Hp->Prop)->Prop
structure Ends where
 nx:St->Hp->Prop
 rt:VK
 bk:St->Hp->Prop:=fun _ _=>False
 ct:St->Hp->Prop:=fun _ _=>False
noncomputable abbrev TS:=Ends->St->Hp->Prop
noncomputable def EP (X:Cx)(pins:List (Addr×Obj))(σ:St)(Q:VK)(u:Value)(s':Shared):Prop:=∃ v H',Inv X pins σ H' s'/\RelV v u/\Q v H'
noncomputable def TP (X:Cx)(pins:List (Addr×Obj))(σ:St)(Q:Bool->Hp->Prop)(b:Bool)(s':Shared):Prop:=∃ H',Inv X pins σ H' s'/\Q b H'
noncomputable def AP (X:Cx)(pins:List (Addr×Obj))(σ:St)(Q:List V->Hp->Prop)(us:List Value)(s':Shared):Prop:=∃ vs H',Inv X pins σ H' s'/\Vals vs us/\Q vs H'
noncomputable def SP (X:Cx)(pins:List (Addr×Obj))(D:Ends)(f:Flow)(s':Shared):Prop :=
 match f with
 | .next=>∃ σ' H',Inv X pins σ' H' s'/\D.nx σ' H'
 | .brk=>∃ σ' H',Inv X pins σ' H' s'/\D.bk σ' H'
 | .cont=>∃ σ' H',Inv X pins σ' H' s'/\D.ct σ' H'
 | .ret u=>∃ v σ' H',Inv X pins σ' H' s'/\RelV v u/\D.rt v H'
noncomputable def PE (X:Cx)(e:Expr)(t:TE):Prop :=
 ∀(pins:List (Addr×Obj))(s:Shared)(σ:St)(H:Hp)(Q:VK),Inv X pins σ H s->t σ H Q->wpAny (model X.prog X.w) X.A (eval e X.env) (EP X pins σ Q) X.xe s
noncomputable def PT (X:Cx)(e:Expr)(t:TT):Prop :=
 ∀(pins:List (Addr×Obj))(s:Shared)(σ:St)(H:Hp)(Q:Bool->Hp->Prop),Inv X pins σ H s->t σ H Q->wpAny (model X.prog X.w) X.A (isTrue e X.env (eval e X.env)) (TP X pins σ Q) X.xe s
noncomputable def PW (X:Cx)(e:Expr)(t:TT):Prop :=
 ∀(whole:Sem Value)(pins:List (Addr×Obj))(s:Shared)(σ:St)(H:Hp)(Q:Bool->Hp->Prop),Inv X pins σ H s->t σ H Q->wpAny (model X.prog X.w) X.A (isTrue e X.env whole) (TP X pins σ Q) X.xe s
theorem PW.pt {X:Cx}{e:Expr}{t:TT}(h:PW X e t):PT X e t:=h _
noncomputable def PA (X:Cx)(es:List Expr)(t:TA):Prop :=
 ∀(pos:Pos)(pins:List (Addr×Obj))(s:Shared)(σ:St)(H:Hp)(Q:List V->Hp->Prop),Inv X pins σ H s->t σ H Q->wpAny (model X.prog X.w) X.A (spliced (backTo pos (starEach es X.env))) (AP X pins σ Q) X.xe s
noncomputable def PS (X:Cx)(st:Stmt)(t:TS):Prop :=
 ∀(pins:List (Addr×Obj))(s:Shared)(σ:St)(H:Hp)(D:Ends),Inv X pins σ H s->t D σ H->wpAny (model X.prog X.w) X.A (exec st X.env) (SP X pins D) X.xe s
noncomputable def PSs (X:Cx)(st:List Stmt)(t:TS):Prop :=
 ∀(pins:List (Addr×Obj))(s:Shared)(σ:St)(H:Hp)(D:Ends),Inv X pins σ H s->t D σ H->wpAny (model X.prog X.w) X.A (execs st X.env) (SP X pins D) X.xe s
theorem Ak {α:Type}{t:Sem α}{Q Q':α->Shared->Prop}{M:Model}{A:Around}{E:Value->Shared->Prop}{s:Shared}(h:wpAny M A t Q E s)(hQ:∀ a s,Q a s->Q' a s):wpAny M A t Q' E s:=Rq h hQ fun _ _ x=>x
section
variable {X:Cx}
noncomputable def Bz (i:Nat):TE:=fun σ H Q=>∃ v,σ[i]?=some (some v)/\Q v H
noncomputable def tC (v:V):TE:=fun _ H Q=>Q v H
theorem Zsu {i:Nat}{x:Str}{pos:Pos}(hN:X.N[i]?=some x)(hv:Vis X.env.scope x)(hd:(x == ("__debug__" : Str))=false:=by decide)(hcd:(x == ("__classdict__" : Str))=false:=by decide):PE X (.Name x pos) (Bz i):=by
 intro pins s σ H Q I h
 obtain ⟨v,e,h⟩:=h
 obtain ⟨m,hn,hl⟩:=I.loc
 obtain ⟨u,r,l⟩:=hl i x v hN e hv
 have fin:EP X pins σ Q u s:=⟨v,H,I,r,h⟩
 rcases l with ⟨hk,hm⟩ | ⟨hk,c,hc,hcell⟩
 ·exact wpAny_Name (wpAny_loadName_local I.ok.kind hk hn hm fin) hd
 ·rcases hk with hk | hk
  ·exact wpAny_Name (wpAny_loadName_cell I.ok.kind hk hc hcell fin) hd
  ·exact wpAny_Name (wpAny_loadName_free I.ok.kind hk hc hcell fin hcd) hd
theorem Zhn {i j pos}:PE X (.Constant (.int i) j pos) (tC (.int i)):=fun _ _ _ H _ I h=>wpAny_Constant_int ⟨.int i,H,I.tok _,⟨_,rfl⟩,h⟩
theorem Zfm {b j pos}:PE X (.Constant (.bool b) j pos) (tC (.bl b)):=fun _ _ _ H _ I h=>Constant_bool ⟨.bl b,H,I,rfl,h⟩
theorem Zet {j pos}:PE X (.Constant .none j pos) (tC .non):=fun _ _ _ H _ I h=>Constant_none ⟨.non,H,I,rfl,h⟩
theorem Zgi {x j pos}:PE X (.Constant (.str x) j pos) (tC (.str x)):=fun _ _ _ H _ I h=>Calls.Constant_str ⟨.str x,H,I.tok _,⟨_,rfl⟩,h⟩
noncomputable def Gl (X:Cx)(x:Str):Prop:=X.env.kindOf x=some .globalImplicit
theorem Fp {E:Value->Shared->Prop}{pins:List (Addr×Obj)}{s:Shared}{σ:St}{H:Hp}{x:Str}{u:Value}{pos:Pos}{Q:Value->Shared->Prop}(I:Inv X pins σ H s)(hg:Gl X x)(hm:X.mg x=some u)(h:Q u s)
  (hd:(x == ("__debug__" : Str))=false:=by decide):wpAny (model X.prog X.w) X.A (eval (.Name x pos) X.env) Q E s :=
 Calls.Name_function_global I.ok.kind hg (Calls.loadGlobal_global (by rw [I.ok.glob];exact I.mod.glob.keeps I.bk) hm h) hd
theorem Ed {E:Value->Shared->Prop}{pins:List (Addr×Obj)}{s:Shared}{σ:St}{H:Hp}{x:Str}{u:Value}{pos:Pos}{Q:Value->Shared->Prop}(I:Inv X pins σ H s)(hg:Gl X x)(hm:X.mg x=none)(hv:bootBuiltins x=some u)(h:Q u s)
  (hn:x ≠ "__name__" := by decide) (hd:(x == ("__debug__" : Str))=false:=by decide):wpAny (model X.prog X.w) X.A (eval (.Name x pos) X.env) Q E s:=by
 obtain ⟨mb,h1,h2⟩:=I.mod.blt
 exact Calls.Name_function_global I.ok.kind hg (Calls.loadGlobal_builtin (by rw [I.ok.glob];exact I.mod.glob.keeps I.bk) hm (by rw [I.ok.blt];exact h1.keeps I.bk) ((h2 x hn).trans hv) h) hd
theorem Zhy {x:Str}{v:V}{u:Value}{pos:Pos}(hg:Gl X x)(hm:X.mg x=some u)(r:RelV v u)(hd:(x == ("__debug__" : Str))=false:=by decide):PE X (.Name x pos) (tC v) :=
 fun _ _ _ H _ I h=>Fp I hg hm ⟨v,H,I,r,h⟩ hd
theorem Zjk {x:Str}{v:V}{u:Value}{pos:Pos}(hg:Gl X x)(hm:X.mg x=none)(hv:bootBuiltins x=some u)(r:RelV v u)(hn:x ≠ "__name__" := by decide)(hd:(x == ("__debug__" : Str))=false:=by decide):PE X (.Name x pos) (tC v) :=
 fun _ _ _ H _ I h=>Ed I hg hm hv ⟨v,H,I,r,h⟩ hn hd
variable {a b:Expr}{ta tb:TE}{pos:Pos}
noncomputable def PC (X:Cx)(op:CmpOp)(a b:Expr)(t:TE):Prop :=
 ∀(pins:List (Addr×Obj))(s:Shared)(σ:St)(H:Hp)(Q:VK),Inv X pins σ H s->t σ H Q ->
  wpAny (model X.prog X.w) X.A (eval a X.env) (fun v s₁=>wpAny (model X.prog X.w) X.A (eval b X.env) (fun u s₂=>wpAny (model X.prog X.w) X.A (compareOp op v u) (EP X pins σ Q) X.xe s₂) X.xe s₁) X.xe s
theorem N4 (b:Expr){op:CmpOp}(h:op≠.In)(h2:op≠.NotIn):behindInMarks op b=false:=by
 have e1:(op == CmpOp.In)=false:=by cases op <;> first | rfl | exact absurd rfl h
 have e2:(op == CmpOp.NotIn)=false:=by cases op <;> first | rfl | exact absurd rfl h2
 cases b <;> simp [behindInMarks,e1,e2]
noncomputable def Zar (ta:TE):TE:=fun σ H Q=>ta σ H fun x H1=>Q (.bl (decide (x=.non))) H1
noncomputable def Zcf (ta:TE):TE:=fun σ H Q=>ta σ H fun x H1=>Q (.bl (!decide (x=.non))) H1
theorem RelV.none_iff {x:V}{v:Value}(r:RelV x v):(v == Value.none)=decide (x=.non):=by
 cases x with
 | non=>cases r;rfl
 | bl _=>cases r;rfl
 | int _=>obtain ⟨t,rfl⟩:=r;rfl
 | str _=>obtain ⟨t,rfl⟩:=r;rfl
 | byt _=>obtain ⟨t,rfl⟩:=r;rfl
 | flt _=>obtain ⟨t,rfl⟩:=r;rfl
 | ref _=>cases r;rfl
 | ty _=>cases r;rfl
theorem Zkq {j pos'}(ha:PE X a ta):PC X .Is a (.Constant .none j pos') (Zar ta):=by
 intro pins s σ H Q I h
 refine Ak (ha pins s σ H _ I h) fun v s1 zq=>?_
 obtain ⟨x,H1,I1,r1,q1⟩:=zq
 exact Constant_none (is_none_gen ⟨.bl _,H1,I1,by rw [r1.none_iff];rfl,q1⟩)
theorem Zuj {j pos'}(ha:PE X a ta):PC X .IsNot a (.Constant .none j pos') (Zcf ta):=by
 intro pins s σ H Q I h
 refine Ak (ha pins s σ H _ I h) fun v s1 zq=>?_
 obtain ⟨x,H1,I1,r1,q1⟩:=zq
 exact Constant_none (isnot_none_gen ⟨.bl _,H1,I1,by rw [r1.none_iff];rfl,q1⟩)
noncomputable def tB (t:TE):TT:=fun σ H Q=>t σ H fun x H1=>∃ c,x=.bl c/\Q c H1
theorem Zjj {op:CmpOp}{t:TE}(h:PC X op a b t)(h1:behindInMarks op b=false:=by first | exact N4 _ (by decide) (by decide) | rfl):PE X (.Compare a [op] [b] pos) t:=fun pins s σ H Q I hw=>wpAny_Compare1 (h pins s σ H Q I hw) h1
theorem Zrd {op:CmpOp}{t:TE}(h:PC X op a b t)(h1:behindInMarks op b=false:=by first | exact N4 _ (by decide) (by decide) | rfl):PT X (.Compare a [op] [b] pos) (tB t):=by
 intro pins s σ H Q I hw
 refine wpAny_isTrue_Compare1 (Ak (h pins s σ H _ I hw) fun v s1 h1=>Ak h1 fun u s2 h2=>Ak h2 fun c s3 zq=>?_) h1
 obtain ⟨x,H1,I1,r1,q1⟩:=zq
 obtain ⟨d,rfl,q⟩:=q1
 cases r1
 exact Qk ⟨H1,I1,q⟩
theorem Zt3 {e:Expr}{t:TE}(h:PE X e t)(he:∀ whole,isTrue e X.env whole=(do let v <- whole;standAt e.pos;holding [v] (truthy v)):=by intro _;rfl):PT X e (tB t):=by
 intro pins s σ H Q I hw
 refine isTrue_plain (Ak (h pins s σ H _ I hw) fun v s1 zq=>?_) (he _)
 obtain ⟨x,H1,I1,r1,q1⟩:=zq
 obtain ⟨d,rfl,q⟩:=q1
 cases r1
 exact Qk ⟨H1,I1,q⟩
variable {tA tB':TT}{rest:List Expr}
noncomputable def Jg (t u:TT):TT:=fun σ H Q=>t σ H fun c H1=>if c=true then u σ H1 Q else Q false H1
noncomputable def tOr (t u:TT):TT:=fun σ H Q=>t σ H fun c H1=>if c=true then Q true H1 else u σ H1 Q
noncomputable def Zag (t:TT):TT:=fun σ H Q=>t σ H fun c H1=>Q (!c) H1
theorem pw_and1 (ha:PT X a tA):PW X (.BoolOp .And [a] pos) tA:=by
 intro wh pins s σ H Q I h
 refine isTrue_and (Ak (ha pins s σ H Q I h) fun c s1 e=>?_)
 cases c with
 | true=>exact isTrue_and_nil e
 | false=>exact e
theorem pw_or1 (ha:PT X a tA):PW X (.BoolOp .Or [a] pos) tA:=by
 intro wh pins s σ H Q I h
 refine isTrue_or (Ak (ha pins s σ H Q I h) fun c s1 e=>?_)
 cases c with
 | false=>exact isTrue_or_nil e
 | true=>exact e
theorem pw_and (ha:PT X a tA)(hb:PW X (.BoolOp .And (b::rest) pos) tB'):PW X (.BoolOp .And (a::b::rest) pos) (Jg tA tB'):=by
 intro wh pins s σ H Q I h
 refine isTrue_and (Ak (ha pins s σ H _ I h) fun c s1 zq=>?_)
 obtain ⟨H1,I1,q1⟩:=zq
 cases c with
 | true=>exact hb wh pins s1 σ H1 Q I1 q1
 | false=>exact ⟨H1,I1,q1⟩
theorem pw_or (ha:PT X a tA)(hb:PW X (.BoolOp .Or (b::rest) pos) tB'):PW X (.BoolOp .Or (a::b::rest) pos) (tOr tA tB'):=by
 intro wh pins s σ H Q I h
 refine isTrue_or (Ak (ha pins s σ H _ I h) fun c s1 zq=>?_)
 obtain ⟨H1,I1,q1⟩:=zq
 cases c with
 | true=>exact ⟨H1,I1,q1⟩
 | false=>exact hb wh pins s1 σ H1 Q I1 q1
theorem Zn6 (ha:PT X a tA):PT X (.UnaryOp .Not a pos) (Zag tA):=by
 intro pins s σ H Q I h
 exact isTrue_not (ha pins s σ H (fun c H1=>Q (!c) H1) I h)
noncomputable def Kh (ta tb:TE):TE:=fun σ H Q=>ta σ H fun x H1=>∃ c,x=.bl c/\if c=true then tb σ H1 Q else Q (.bl false) H1
noncomputable def Zbx (ta tb:TE):TE:=fun σ H Q=>ta σ H fun x H1=>∃ c,x=.bl c/\if c=true then Q (.bl true) H1 else tb σ H1 Q
noncomputable def Zaf (ta:TE):TE:=fun σ H Q=>ta σ H fun x H1=>∃ c,x=.bl c/\Q (.bl (!c)) H1
theorem Zqe {op}{t:TE}(h:PE X a t):PE X (.BoolOp op [a] pos) t:=fun pins s σ H Q I hw=>BoolOp_one (h pins s σ H Q I hw)
theorem Zt5 (ha:PE X a ta)(hb:PE X (.BoolOp .And (b::rest) pos) tb):PE X (.BoolOp .And (a::b::rest) pos) (Kh ta tb):=by
 intro pins s σ H Q I h
 refine BoolOp_and (Ak (ha pins s σ H _ I h) fun v s1 zq=>?_)
 obtain ⟨x,H1,I1,r1,q1⟩:=zq
 obtain ⟨c,rfl,q1⟩:=q1
 cases r1
 refine Qk ?_
 cases c with
 | true=>exact hb pins s1 σ H1 Q I1 q1
 | false=>exact ⟨.bl false,H1,I1,rfl,q1⟩
theorem Zmp (ha:PE X a ta)(hb:PE X (.BoolOp .Or (b::rest) pos) tb):PE X (.BoolOp .Or (a::b::rest) pos) (Zbx ta tb):=by
 intro pins s σ H Q I h
 refine BoolOp_or (Ak (ha pins s σ H _ I h) fun v s1 zq=>?_)
 obtain ⟨x,H1,I1,r1,q1⟩:=zq
 obtain ⟨c,rfl,q1⟩:=q1
 cases r1
 refine Qk ?_
 cases c with
 | false=>exact hb pins s1 σ H1 Q I1 q1
 | true=>exact ⟨.bl true,H1,I1,rfl,q1⟩
theorem Zqs (ha:PE X a ta):PE X (.UnaryOp .Not a pos) (Zaf ta):=by
 intro pins s σ H Q I h
 refine UnaryOp_ (Ak (ha pins s σ H _ I h) fun v s1 zq=>?_)
 obtain ⟨x,H1,I1,r1,q1⟩:=zq
 obtain ⟨c,rfl,q1⟩:=q1
 cases r1
 exact not_of (Qk ⟨.bl (!c),H1,I1,rfl,q1⟩)
end
noncomputable def SqL (K:On)(H:Hp)(a:Addr)(xs:List V):Prop :=
 Rd H a (.lst xs) \/
  ∃(o:Obj)(its:Array Value)(n:Nat),K.lookup a=some o/\o.cls=.type "list" /\ o.dict=none/\o.data=.seq its n/\its.size<=sizeLine/\Vals xs its.toList
noncomputable def SqT (K:On)(H:Hp)(a:Addr)(xs:List V):Prop :=
 Rd H a (.tup xs) \/
  ∃(o:Obj)(its:Array Value)(n:Nat),K.lookup a=some o/\o.cls=.type "tuple" /\ o.data=.seq its n/\its.size<=sizeLine/\Vals xs its.toList
noncomputable def N9:Value->Option V
 | .none=>some .non
 | .bool b=>some (.bl b)
 | .int i _=>some (.int i)
 | .str x _=>some (.str x)
 | .bytes b _=>some (.byt b)
 | .float b _=>some (.flt b)
 | .ref a=>some (.ref a)
 | .type n=>some (.ty n)
 | _=>none
theorem RelV.abs {x:V}{u:Value}(r:RelV x u):N9 u=some x:=by
 cases x with
 | non=>cases r;rfl
 | bl _=>cases r;rfl
 | int _=>obtain ⟨t,rfl⟩:=r;rfl
 | str _=>obtain ⟨t,rfl⟩:=r;rfl
 | byt _=>obtain ⟨t,rfl⟩:=r;rfl
 | flt _=>obtain ⟨t,rfl⟩:=r;rfl
 | ref _=>cases r;rfl
 | ty _=>cases r;rfl
theorem RelV.inj {x y:V}{u:Value}(r:RelV x u)(q:RelV y u):x=y:=Pi (r.abs.symm.trans q.abs)
theorem Vals.inj:∀{xs ys:List V}{us:List Value},Vals xs us->Vals ys us->xs=ys
 | _,_,_,.nil,.nil=>rfl
 | _,_,_,.cons r t,.cons r' t'=>by rw [r.inj r',Vals.inj t t']
section
variable {X:Cx}{pins:List (Addr×Obj)}{σ:St}{H:Hp}{s:Shared}{a:Addr}{xs ys:List V}
theorem SqL.of {K:On}(h:H a=some (.lst xs)):SqL K H a xs:=.inl (.inl h)
theorem SqT.of {K:On}(h:H a=some (.tup xs)):SqT K H a xs:=.inl (.inl h)
theorem Inv.list (I:Inv X pins σ H s)(h:SqL X.K H a xs):∃ its:List Value,Vals xs its/\PlainL s.heap a its.toArray/\xs.length<=sizeLine:=by
 rcases h with h | ⟨o,its,n,hk,hc,hd,hs,hz,r⟩
 ·obtain ⟨z,its,n,r,e⟩:=h.ok I.hok
  exact ⟨its,r,⟨_,n,e,rfl,rfl,rfl⟩,z⟩
 ·refine ⟨its.toList,r,⟨o,n,I.kIn a o hk,hc,hd,by simpa using hs⟩,?_⟩
  have e:=r.length
  simp only [R7] at e
  omega
theorem Inv.tuple (I:Inv X pins σ H s)(h:SqT X.K H a xs):∃ its:List Value,Vals xs its/\IsTup s.heap a its.toArray/\xs.length<=sizeLine:=by
 rcases h with h | ⟨o,its,n,hk,hc,hs,hz,r⟩
 ·obtain ⟨z,its,r,p⟩:=h.ok I.hok
  exact ⟨its,r,p,z⟩
 ·refine ⟨its.toList,r,⟨o,I.kIn a o hk,hc,n,by simpa using hs⟩,?_⟩
  have e:=r.length
  simp only [R7] at e
  omega
theorem Inv.list_inj (I:Inv X pins σ H s)(h:SqL X.K H a xs)(h':SqL X.K H a ys):xs=ys:=by
 obtain ⟨its,r,⟨o,n,e,_,_,d⟩,_⟩:=I.list h
 obtain ⟨its',r',⟨o',n',e',_,_,d'⟩,_⟩:=I.list h'
 rw [e] at e';cases e'
 rw [d] at d'
 injection d' with d1 _
 have:its=its':=by simpa using congrArg Array.toList d1
 subst this
 exact r.inj r'
theorem Inv.tuple_inj (I:Inv X pins σ H s)(h:SqT X.K H a xs)(h':SqT X.K H a ys):xs=ys:=by
 obtain ⟨its,r,⟨o,e,_,n,d⟩,_⟩:=I.tuple h
 obtain ⟨its',r',⟨o',e',_,n',d'⟩,_⟩:=I.tuple h'
 rw [e] at e';cases e'
 rw [d] at d'
 injection d' with d1 _
 have:its=its':=by simpa using congrArg Array.toList d1
 subst this
 exact r.inj r'
end
noncomputable abbrev Cx.wish (X:Cx)(E:Value->Shared->Prop):Cx:={ X with xe:=E }
noncomputable abbrev Cx.nox (X:Cx):Cx:=X.wish fun _ _=>False
theorem Cx.Ok.wish {X:Cx}(ok:X.Ok)(E:Value->Shared->Prop):(X.wish E).Ok :=
 ⟨ok.mod,ok.kind,ok.glob,ok.blt,ok.above,ok.inj,ok.has,ok.cab,ok.hd,ok.frames,ok.stk,ok.exf,ok.bs,ok.bsz,ok.noex,ok.exfs,ok.funs,ok.frf⟩
theorem Cx.Ok.unwish {X:Cx}{E:Value->Shared->Prop}(ok:(X.wish E).Ok):X.Ok :=
 ⟨ok.mod,ok.kind,ok.glob,ok.blt,ok.above,ok.inj,ok.has,ok.cab,ok.hd,ok.frames,ok.stk,ok.exf,ok.bs,ok.bsz,ok.noex,ok.exfs,ok.funs,ok.frf⟩
section
variable {X:Cx}{pins:List (Addr×Obj)}{σ:St}{H:Hp}{s:Shared}{E:Value->Shared->Prop}
theorem Inv.wish (I:Inv X pins σ H s)(E:Value->Shared->Prop):Inv (X.wish E) pins σ H s:=⟨I.ok.wish E,I.os,I.bare,I.base,I.loc,I.cell,I.free,I.freeC,I.pin,I.hok,I.len⟩
theorem Inv.unwish (I:Inv (X.wish E) pins σ H s):Inv X pins σ H s:=⟨I.ok.unwish,I.os,I.bare,I.base,I.loc,I.cell,I.free,I.freeC,I.pin,I.hok,I.len⟩
theorem SP.unwish {D:Ends}{f:Flow}{s':Shared}(h:SP (X.wish E) pins D f s'):SP X pins D f s':=by
 cases f with
 | next=>obtain ⟨σ',H',I,q⟩:=h;exact ⟨σ',H',I.unwish,q⟩
 | brk=>obtain ⟨σ',H',I,q⟩:=h;exact ⟨σ',H',I.unwish,q⟩
 | cont=>obtain ⟨σ',H',I,q⟩:=h;exact ⟨σ',H',I.unwish,q⟩
 | ret u=>obtain ⟨v,σ',H',I,r,q⟩:=h;exact ⟨v,σ',H',I.unwish,r,q⟩
theorem PSs.nox {st:List Stmt}{t:TS}(h:PSs X.nox st t):PSs X st t:=fun pins s σ H D I hw =>
 Rq (h pins s σ H D (I.wish _) hw) (fun _ _ q=>q.unwish) fun _ _ z=>O8 z
end
section
variable {X:Cx}{st:Stmt}{rest:List Stmt}{t u:TS}{e:Expr}{te:TE}{pos:Pos}
noncomputable def Ip:TS:=fun D σ H=>D.nx σ H
noncomputable def Hg (t u:TS):TS:=fun D σ H=>t { D with nx:=u D } σ H
theorem Zjp:PSs X [] Ip:=fun _ _ σ H _ I h=>Sa ⟨σ,H,I,h⟩
theorem Zlp (h1:PS X st t)(h2:PSs X rest u):PSs X (st::rest) (Hg t u):=by
 intro pins s σ H D I h
 refine Vl (Ak (h1 pins s σ H { D with nx:=u D } I h) fun f s1 q=>?_)
 cases f with
 | next =>
  obtain ⟨σ',H',I',q⟩:=q
  exact h2 pins s1 σ' H' D I' q
 | ret v=>exact q
 | brk=>exact q
 | cont=>exact q
theorem Zl6 (h1:PS X st t):PSs X [st] t:=by
 intro pins s σ H D I h
 refine Vl (Ak (h1 pins s σ H D I h) fun f s1 q=>?_)
 cases f with
 | next=>exact Sa q
 | ret v=>exact q
 | brk=>exact q
 | cont=>exact q
theorem Inv.quiet {pins:List (Addr×Obj)}{σ:St}{H:Hp}{s:Shared}(I:Inv X pins σ H s):interactive X.env=false:=by simp [interactive,I.ok.kind]
noncomputable def Zcm (te:TE):TS:=fun D σ H=>te σ H fun _ H1=>D.nx σ H1
theorem Zru (he:PE X e te)(hs:swapsWith e none pos.line X.env=pure false:=by rfl):PS X (.Expr e pos) (Zcm te):=by
 intro pins s σ H D I h
 exact wpAny_Expr_any (Ak (he pins s σ H _ I h) fun v s1 ⟨x,H1,I1,r1,q1⟩=>⟨σ,H1,I1,q1⟩) I.quiet hs
noncomputable def E4 (te:TE):TS:=fun D σ H=>te σ H D.rt
theorem Zn0 (he:PE X e te):PS X (.Return (some e) pos) (E4 te):=by
 intro pins s σ H D I h
 exact wpAny_Return_some (Ak (he pins s σ H _ I h) fun v s1 ⟨x,H1,I1,r1,q1⟩=>⟨x,σ,H1,I1,r1,q1⟩)
noncomputable def Gr (c:TT)(t u:TS):TS:=fun D σ H=>c σ H fun b H1=>if b=true then t D σ H1 else u D σ H1
theorem Zve {c:Expr}{a b:List Stmt}{tc:TT}(hc:PT X c tc)(ha:PSs X a t)(hb:PSs X b u):PS X (.If c a b pos) (Gr tc t u):=by
 intro pins s σ H D I h
 refine wpAny_If (Ak (hc pins s σ H _ I h) fun d s1 zq=>?_)
 obtain ⟨H1,I1,q1⟩:=zq
 cases d with
 | true=>exact ha pins s1 σ H1 D I1 q1
 | false=>exact hb pins s1 σ H1 D I1 q1
end
noncomputable abbrev TG:=V->St->Hp->(St->Hp->Prop)->Prop
noncomputable abbrev Eh:=List V->St->Hp->(St->Hp->Prop)->Prop
noncomputable def PG (X:Cx)(target:Expr)(t:TG):Prop :=
 ∀(pins:List (Addr×Obj))(s:Shared)(σ:St)(H:Hp)(v:V)(u:Value)(Q:St->Hp->Prop),Inv X pins σ H s->RelV v u->t v σ H Q ->
  wpAny (model X.prog X.w) X.A (assign target X.env u) (fun _ s'=>∃ σ' H',Inv X pins σ' H' s'/\Q σ' H') X.xe s
noncomputable def PGs (X:Cx)(ts:List Expr)(t:Eh):Prop :=
 ∀(pins:List (Addr×Obj))(s:Shared)(σ:St)(H:Hp)(vs:List V)(us:List Value)(Q:St->Hp->Prop),Inv X pins σ H s->Vals vs us->t vs σ H Q ->
  wpAny (model X.prog X.w) X.A (assignInOrder ((assignEach ts X.env).map (·.2)) us) (fun _ s'=>∃ σ' H',Inv X pins σ' H' s'/\Q σ' H') X.xe s
noncomputable abbrev Lk:=V->V->V->Hp->(Hp->Prop)->Prop
noncomputable def Zal (X:Cx)(t:Lk):Prop :=
 ∀(pins:List (Addr×Obj))(s:Shared)(σ:St)(H:Hp)(o i v:V)(ov iv u:Value)(Q:Hp->Prop),Inv X pins σ H s->RelV o ov->RelV i iv->RelV v u->t o i v H Q ->
  wpAny (model X.prog X.w) X.A (setItem ov iv u) (fun _ s'=>∃ H',Inv X pins σ H' s'/\Q H') X.xe s
section
variable {X:Cx}{pos:Pos}
noncomputable def Ft (i:Nat):TG:=fun v σ H Q=>Q (σ.set i (some v)) H
theorem Zp5 {i:Nat}{x:Str}(hN:X.N.Nodup)(hi:X.N[i]?=some x)(hx:E6 X.env.scope x)(hf:X.fn x=true\/X.env.scope.names.lookup x=some .local:=by first | exact .inl rfl | exact .inr rfl | assumption):PG X (.Name x pos) (Ft i):=by
 intro pins s σ H v u Q I r h
 exact wpAny_assign_Name (Nk I hN hi hx r (fun s' I'=>⟨_,H,I',h⟩) hf)
noncomputable def Za3:Eh:=fun vs σ H Q=>vs=[]/\Q σ H
noncomputable def Zbt (t:TG)(u:Eh):Eh:=fun vs σ H Q=>∃ v r,vs=v::r/\t v σ H fun σ' H'=>u r σ' H' Q
theorem Zpo:PGs X [] Za3:=by
 intro pins s σ H vs us Q I r h
 obtain ⟨e,h⟩:=h
 subst e
 cases r
 exact assignInOrder_nil ⟨σ,H,I,h⟩
theorem Znz {e:Expr}{es:List Expr}{t:TG}{u:Eh}(h1:PG X e t)(h2:PGs X es u)
  (hs:(assignEach (e::es) X.env).map (·.2)=assign e X.env::(assignEach es X.env).map (·.2):=by rfl):PGs X (e::es) (Zbt t u):=by
 intro pins s σ H vs us Q I r h
 obtain ⟨v,vr,e1,h⟩:=h
 subst e1
 cases r with
 | cons r rr =>
  rw [hs]
  refine assignInOrder_cons (Ak (h1 pins s σ H _ _ _ I r h) fun _ s1 zq=>?_)
  obtain ⟨σ1,H1,I1,q1⟩:=zq
  exact h2 pins s1 σ1 H1 _ _ Q I1 rr q1
noncomputable def Mv (K:On)(n:Nat)(t:Eh):TG:=fun v σ H Q=>∃ a xs,v=.ref a/\SqT K H a xs/\xs.length=n/\t xs σ H Q
theorem Zla {es:List Expr}{k:Nat}{t:Eh}{n:Nat}(hc:X.calm=true)(h:PGs X es t)
  (hn:(assignEach es X.env).length=n:=by rfl) (hst:(assignEach es X.env).findIdx? (·.1)=none:=by rfl):PG X (.Tuple es k pos) (Mv X.K n t):=by
 intro pins s σ H v u Q I r hw
 obtain ⟨a,xs,e1,hq,hl,hw⟩:=hw
 subst e1
 cases r
 obtain ⟨its,rv,ht,hz⟩:=I.tuple hq
 refine assign_Tuple_tuple (I.ok.hd hc) ht (by simp [hn,<- hl,rv.length]) hst fun h' hx=>?_
 have I1:Inv X pins σ H { s with heap:=h' }:=I.kept (t':=s.toks) fun b o e=>hx b o (O5 (Ox e)) e
 exact h pins _ σ H xs _ Q I1 (by simpa using rv) hw
noncomputable def Zba (to ti:TE)(t:Lk):TG:=fun v σ H Q=>to σ H fun o H1=>ti σ H1 fun i H2=>t o i v H2 fun H3=>Q σ H3
theorem Zm1 {o i:Expr}{to ti:TE}{t:Lk}(ho:PE X o to)(hi:PE X i ti)(hs:Zal X t)
  (ha:∀ v,assign (.Subscript o i pos) X.env v=(do
   let ov <- holding [v] (eval o X.env)
   let iv <- holding [v,ov] (eval i X.env)
   standAt pos
   holding [v,ov,iv] (setItem ov iv v)
   release [v,ov,iv] []):=by intro _;rfl):PG X (.Subscript o i pos) (Zba to ti t):=by
 intro pins s σ H v u Q I r h
 rw [ha]
 refine Oo (Qa (Ak (ho pins s σ H _ I h) fun ov s1 zq=>?_))
 obtain ⟨x,H1,I1,r1,q1⟩:=zq
 refine Oo (Qa (Ak (hi pins s1 σ H1 _ I1 q1) fun iv s2 zq=>?_))
 obtain ⟨y,H2,I2,r2,q2⟩:=zq
 refine Oo (Ul (Oo (Qa (Ak (hs pins s2 σ H2 x y v ov iv u _ I2 r1 r2 r q2) fun _ s3 zq=>?_))))
 obtain ⟨H3,I3,q3⟩:=zq
 exact wpAny_release ⟨σ,H3,I3,q3⟩
noncomputable def Fl (te:TE)(g:TG):TS:=fun D σ H=>te σ H fun x H1=>g x σ H1 D.nx
theorem Zuq {tg e:Expr}{te:TE}{g:TG}(he:PE X e te)(hg:PG X tg g)(hs:swapsWithSole [tg] e pos.line X.env=pure false:=by rfl)(hw:swappedStores [tg] e X.env=pure none:=by rfl)
  (h1:(assignEach [tg] X.env).map (·.2)=[assign tg X.env]:=by rfl):PS X (.Assign [tg] e pos) (Fl te g):=by
 intro pins s σ H D I h
 refine wpAny_Assign_stores (Ak (he pins s σ H _ I h) fun v s1 zq=>?_) hs hw
 obtain ⟨x,H1,I1,r1,q1⟩:=zq
 rw [h1]
 exact Ak (hg pins s1 σ H1 x v _ I1 r1 q1) fun _ s2 q=>q
theorem Zo2 {i:Nat}{x:Str}{e:Expr}{te:TE}{pos':Pos}(hN:X.N.Nodup)(hi:X.N[i]?=some x)(hx:E6 X.env.scope x)(he:PE X e te)(hs:swapsWith e (some (.Name x pos')) pos.line X.env=pure false:=by rfl)(hf:X.fn x=true\/X.env.scope.names.lookup x=some .local:=by first | exact .inl rfl | exact .inr rfl | assumption) :
  PS X (.Assign [.Name x pos'] e pos) (Fl te (Ft i)):=by
 intro pins s σ H D I h
 refine wpAny_Assign_Name (Ak (he pins s σ H _ I h) fun v s1 zq=>?_) hs
 obtain ⟨y,H1,I1,r1,q1⟩:=zq
 exact Nk I1 hN hi hx r1 (fun s2 I2=>⟨_,H1,I2,q1⟩) hf
end
section
variable {X:Cx}{pos:Pos}
noncomputable def Zei (c:TT)(tb:TS):TS:=fun D σ H=>∃ W:Nat->St->Hp->Prop,(∃ m,W m σ H)/\∀ m σ H,W m σ H ->
 c σ H fun b H1=>if b=true then ∃ N:St->Hp->Prop,(∀ σ' H',N σ' H'->∃ m',m' < m/\W m' σ' H')/\tb { D with nx:=N,ct:=N,bk:=D.nx } σ H1 else D.nx σ H1
theorem Zn1 {c:Expr}{body:List Stmt}{tc:TT}{tb:TS}(hp:PassesOwn (model X.prog X.w) X.A X.env X.xe)(hc:PT X c tc)(hb:PSs X body tb):PS X (.While c body [] pos) (Zei tc tb):=by
 intro pins s σ H D I h
 obtain ⟨W,⟨m0,w0⟩,turn⟩:=h
 refine wpAny_While (codeAny_whileLoop (fun n s'=>∃ σ' H',Inv X pins σ' H' s'/\W n σ' H') ?_ m0 ⟨σ,H,I,w0⟩)
 rintro n s1 ⟨σ1,H1,I1,w1⟩
 refine Rx hp (Ak (hc pins s1 σ1 H1 _ I1 (turn n σ1 H1 w1)) fun b s2 zq=>?_)
 obtain ⟨H2,I2,q2⟩:=zq
 cases b with
 | true =>
  obtain ⟨N,hN,q2⟩:=q2
  rw [if_pos rfl]
  refine Rx hp (Ak (hb pins s2 σ1 H2 _ I2 q2) fun f s3 q3=>?_)
  cases f with
  | next =>
   obtain ⟨σ3,H3,I3,n3⟩:=q3
   obtain ⟨m',hm,w3⟩:=hN σ3 H3 n3
   exact ⟨m',hm,σ3,H3,I3,w3⟩
  | cont =>
   obtain ⟨σ3,H3,I3,n3⟩:=q3
   obtain ⟨m',hm,w3⟩:=hN σ3 H3 n3
   exact ⟨m',hm,σ3,H3,I3,w3⟩
  | brk=>exact q3
  | ret v=>exact q3
 | false =>
  rw [if_neg Ov]
  exact Sa ⟨σ1,H2,I2,q2⟩
end
structure It where
 go:Nat->Hp->Prop
 yld:Nat->Hp->V->Hp->Prop
 stop:Nat->Hp->Prop
noncomputable def FpOk (X:Cx)(pins:List (Addr×Obj))(H:Hp)(b:Addr):Prop :=
 H b=none/\b≠X.env.locals/\b ∉ X.fs/\(b∈X.ex\/X.s₀.heap.objs.size<=b)/\(∀ x c,X.env.cells.lookup x=some c->c≠b)/\∀ p∈X.pn++pins,p.1≠b
theorem Inv.fpOk {X:Cx}{pins:List (Addr×Obj)}{σ:St}{H H':Hp}{s:Shared}{b:Addr}(I:Inv X pins σ H s)(hb:s.heap.objs.size<=b)(hn:H' b=none):FpOk X pins H' b:=by
 refine ⟨hn,Q9 (O3 I.lt hb),I.nofs hb,.inr (Pp I.sz hb),fun x c e z=>?_,fun p hp z=>?_⟩
 ·obtain ⟨v,q⟩:=I.cell x c e
  exact absurd (O3 q.lt (by rw [z];exact hb)) (Qn _)
 ·exact absurd (O3 (Ox (I.pin p hp).1) (by rw [z];exact hb)) (Qn _)
structure Gu (P:Program)(w:World)(K:On)(tg:Expr)(J:It)(fp:List Addr)(it:Addr)(tn:Nat->Heap->Prop):Prop where
 mem:it∈fp
 obj:∀ i h,tn i h->∀ b∈fp,∃ o,h.get? b=some o/\∀ v,o.data≠.cell v
 keep:∀ i h h',tn i h->(∀ b∈fp,∀ o,h.get? b=some o->h'.get? b=some o)->tn i h'
 item:∀(X:Cx),X.prog=P->X.w=w->X.K=K->X.calm=true->∀(i:Nat)(pins:List (Addr×Obj))(s:Shared)(σ:St)(H:Hp)(E:Value->Shared->Prop),Inv X pins σ H s->(∀ b∈fp,FpOk X pins H b)->tn i s.heap->J.go i H ->
  wpAny (model P w) X.A (pyNext (.ref it)) (fun r s1=>∃ u,r=some u /\
   wpAny (model P w) X.A (letOwnedTupleGo tg (.ref it) u) (fun _ s2=>∃ x H',Inv X pins σ H' s2/\RelV x u/\J.yld i H x H'/\tn (i+1) s2.heap/\∀ b∈fp,H' b=none) E s1) E s
 done:∀(X:Cx),X.prog=P->X.w=w->X.K=K->X.calm=true->∀(i:Nat)(pins:List (Addr×Obj))(s:Shared)(σ:St)(H:Hp)(E:Value->Shared->Prop),Inv X pins σ H s->(∀ b∈fp,FpOk X pins H b)->tn i s.heap->J.stop i H ->
  wpAny (model P w) X.A (pyNext (.ref it)) (fun r s1=>r=none/\Inv X pins σ H s1) E s
 self:∀(A:Around)(i:Nat)(s:Shared)(Q:Value->Shared->Prop)(E:Value->Shared->Prop),tn i s.heap->Q (.ref it) s->wpAny (model P w) A (pyIter (.ref it)) Q E s
noncomputable abbrev TI:=St->Hp->(It->Hp->Prop)->Prop
noncomputable def PIE (X:Cx)(pins:List (Addr×Obj))(σ:St)(tg:Expr)(R:It->Hp->Prop)(itv:Value)(s2:Shared):Prop :=
 ∃(it:Addr)(fp:List Addr)(tn:Nat->Heap->Prop)(J:It)(H':Hp),itv=.ref it/\Inv X pins σ H' s2/\Gu X.prog X.w X.K tg J fp it tn/\tn 0 s2.heap/\(∀ b∈fp,FpOk X pins H' b)/\R J H'
noncomputable def PI (X:Cx)(tg iter:Expr)(wi:TI):Prop :=
 ∀(pins:List (Addr×Obj))(s:Shared)(σ:St)(H:Hp)(R:It->Hp->Prop),Inv X pins σ H s->wi σ H R ->
  wpAny (model X.prog X.w) X.A (eval iter X.env) (fun v s1=>wpAny (model X.prog X.w) X.A (pyIter v) (PIE X pins σ tg R) X.xe s1) X.xe s
theorem Iw {M:Model}{A:Around}{E:Value->Shared->Prop}{s:Shared}{tg:Expr}{it:Addr}{u:Value}{o:Obj}{n:String}{vs:Array Value}{Q:Unit->Shared->Prop}(ho:s.heap.get? it=some o)(hc:o.cls=.type n)(hd:o.data=.fields vs)
  (hn:["enumerate", "zip", "dict_itemiterator", "dict_reverseitemiterator", "odict_iterator", "itertools.zip_longest", "itertools.pairwise"].contains n=false) (hQ:Q () s):wpAny M A (letOwnedTupleGo tg (.ref it) u) Q E s:=by
 unfold letOwnedTupleGo
 cases tg <;> first
  | exact Op hQ
  | (cases u <;> first
    | exact Op hQ
    | (refine Oo (wpAny_load ho ?_)
       rw [hc,hd]
       show wpAny M A (if (["enumerate", "zip", "dict_itemiterator", "dict_reverseitemiterator", "odict_iterator", "itertools.zip_longest", "itertools.pairwise"].contains n && vs[0]? == some (rawInt _))=true then _ else _) Q E s
       rw [if_neg (by intro h;rw [hn,Pm] at h;cases h)]
       exact Op hQ))
noncomputable def Ja (K:On)(a:Addr):It :=
 ⟨fun i H=>∃ xs x,SqL K H a xs/\xs[i]?=some x,fun i H x H'=>H'=H/\∀ xs,SqL K H a xs->xs[i]?=some x,fun i H=>∃ xs,SqL K H a xs/\xs.length<=i⟩
noncomputable def Hx (K:On)(a:Addr):It :=
 ⟨fun i H=>∃ xs x,SqT K H a xs/\xs[i]?=some x,fun i H x H'=>H'=H/\∀ xs,SqT K H a xs->xs[i]?=some x,fun i H=>∃ xs,SqT K H a xs/\xs.length<=i⟩
noncomputable def Gb (lo:Int)(n:Nat):It:=⟨fun i _=>i < n,fun i H x H'=>H'=H/\x=.int (lo+i),fun i _=>n<=i⟩
theorem Zs4 {P:Program}{w:World}{K:On}{tg:Expr}(a it:Addr):Gu P w K tg (Ja K a) [it] it (fun i h=>h.IsListIter it a i) where
 mem:=by simp
 obj:=fun i h st b hb=>by
  have e:b=it:=by simpa using hb
  subst e
  obtain ⟨o,e,c,d⟩:=st
  exact ⟨o,e,fun v z=>by rw [d] at z;cases z⟩
 keep:=fun i h h' st k=>st.at fun o e=>k it (by simp) o e
 item:=by
  intro X hP hw hK hc i pins s σ H E I hf st hg
  subst hP hw hK
  obtain ⟨xs,x,hq,hx⟩:=hg
  obtain ⟨its,rv,p,hz⟩:=I.list hq
  obtain ⟨u,hu,ru⟩:=rv.get hx
  obtain ⟨f0,f1,f2,f3,f4,f5⟩:=hf it (by simp)
  refine wpAny_pyNext_list_item st p.isList (x:=u) (by simpa using hu) fun h' st' sb=>?_
  have I1:Inv X pins σ H { s with heap:=h' }:=I.turned (t':=s.toks) (fun b o hb e=>(sb.2 b hb).trans e) f0 f1 f3 f4 f5
  obtain ⟨o,e,c,d⟩:=id st'
  exact ⟨u,rfl,Iw (s:={ s with heap:=h' }) e c d (by decide) ⟨x,H,I1,ru,⟨rfl,fun ys hy=>by rw [I.list_inj hy hq];exact hx⟩,st',fun b hb=>(hf b hb).1⟩⟩
 done:=by
  intro X hP hw hK hc i pins s σ H E I hf st hg
  subst hP hw hK
  obtain ⟨xs,hq,hx⟩:=hg
  obtain ⟨its,rv,p,hz⟩:=I.list hq
  obtain ⟨f0,f1,f2,f3,f4,f5⟩:=hf it (by simp)
  have hl:=rv.length
  exact wpAny_pyNext_list_end (I.ok.hd hc) st p.isList (by simp;omega) fun h' eb=>⟨rfl,I.turned (t':=s.toks) (fun b o hb e=>eb b o hb e) f0 f1 f3 f4 f5⟩
 self:=fun _ _ _ _ _ st h=>wpAny_pyIter_listiter st h
theorem Znr {P:Program}{w:World}{K:On}{tg:Expr}(a it:Addr):Gu P w K tg (Hx K a) [it] it (fun i h=>h.IsTupleIter it a i) where
 mem:=by simp
 obj:=fun i h st b hb=>by
  have e:b=it:=by simpa using hb
  subst e
  obtain ⟨o,e,c,d⟩:=st
  exact ⟨o,e,fun v z=>by rw [d] at z;cases z⟩
 keep:=fun i h h' st k=>st.at fun o e=>k it (by simp) o e
 item:=by
  intro X hP hw hK hc i pins s σ H E I hf st hg
  subst hP hw hK
  obtain ⟨xs,x,hq,hx⟩:=hg
  obtain ⟨its,rv,p,hz⟩:=I.tuple hq
  obtain ⟨u,hu,ru⟩:=rv.get hx
  obtain ⟨f0,f1,f2,f3,f4,f5⟩:=hf it (by simp)
  refine wpAny_pyNext_tuple_item st (show s.heap.IsTuple a its.toArray from p) (x:=u) (by simpa using hu) fun h' st' sb=>?_
  have I1:Inv X pins σ H { s with heap:=h' }:=I.turned (t':=s.toks) (fun b o hb e=>(sb.2 b hb).trans e) f0 f1 f3 f4 f5
  obtain ⟨o,e,c,d⟩:=id st'
  exact ⟨u,rfl,Iw (s:={ s with heap:=h' }) e c d (by decide) ⟨x,H,I1,ru,⟨rfl,fun ys hy=>by rw [I.tuple_inj hy hq];exact hx⟩,st',fun b hb=>(hf b hb).1⟩⟩
 done:=by
  intro X hP hw hK hc i pins s σ H E I hf st hg
  subst hP hw hK
  obtain ⟨xs,hq,hx⟩:=hg
  obtain ⟨its,rv,p,hz⟩:=I.tuple hq
  obtain ⟨f0,f1,f2,f3,f4,f5⟩:=hf it (by simp)
  have hl:=rv.length
  exact wpAny_pyNext_tuple_end (I.ok.hd hc) st (show s.heap.IsTuple a its.toArray from p) (by simp;omega) fun h' eb=>⟨rfl,I.turned (t':=s.toks) (fun b o hb e=>eb b o hb e) f0 f1 f3 f4 f5⟩
 self:=fun _ _ _ _ _ st h=>wpAny_pyIter_tupleiter st h
theorem Zox {P:Program}{w:World}{K:On}{tg:Expr}(it:Addr)(lo:Int)(n:Nat):Gu P w K tg (Gb lo n) [it] it (fun i h=>IsRangeIter h it (lo+(i:Nat) * 1) ((n:Int) - (i:Nat)) 1) where
 mem:=by simp
 obj:=fun i h st b hb=>by
  have e:b=it:=by simpa using hb
  subst e
  exact ⟨_,st,fun v z=>by
   have z':Data.fields _=Data.cell v:=z
   cases z'⟩
 keep:=fun i h h' st k=>k it (by simp) _ st
 item:=by
  intro X hP hw hK hc i pins s σ H E I hf st hg
  subst hP hw hK
  obtain ⟨f0,f1,f2,f3,f4,f5⟩:=hf it (by simp)
  have W:=Walks.range (prog:=X.prog) (w:=X.w) (I.ok.hd hc) it lo 1 n
  refine W.item i s _ _ hg st fun v h' tk hv st' kk=>?_
  obtain ⟨t,rfl⟩:=hv
  have I1:Inv X pins σ H { s with heap:=h',toks:=tk }:=I.turned (fun b o hb e=>kk b o (by simpa using hb) e) f0 f1 f3 f4 f5
  refine ⟨_,rfl,Iw (s:={ s with heap:=h',toks:=tk }) (n := "range_iterator") st' rfl rfl (by decide) ⟨.int (lo+i),H,I1,⟨t,?_⟩,⟨rfl,rfl⟩,st',fun b hb=>(hf b hb).1⟩⟩
  rw [Int.mul_one]
 done:=by
  intro X hP hw hK hc i pins s σ H E I hf st hg
  subst hP hw hK
  obtain ⟨f0,f1,f2,f3,f4,f5⟩:=hf it (by simp)
  exact wpAny_pyNext_range_end (I.ok.hd hc) st (by have:n<=i:=hg;omega) fun h' eb=>⟨rfl,I.turned (t':=s.toks) (fun b o hb e=>eb b o hb e) f0 f1 f3 f4 f5⟩
 self:=fun _ _ _ _ _ st h=>U3 st h
section
variable {X:Cx}{tg:Expr}
theorem Zsi {pins:List (Addr×Obj)}{σ:St}{H:Hp}{s:Shared}{R:It->Hp->Prop}{E:Value->Shared->Prop}{lo hi:Int}{t u v:Tok}{tk:Nat}(I:Inv X pins σ H s)(h1:-(2 ^ 62)<=lo)(h2:lo < 2 ^ 62)(h3:-(2 ^ 62)<=hi)(h4:hi < 2 ^ 62)
  (q:R (Gb lo (hi - lo).toNat) H):wpAny (model X.prog X.w) X.A (pyIter (.ref s.heap.objs.size)) (PIE X pins σ tg R) E { s with heap:=s.heap.push { cls:=.type "range",data:=.fields #[.int lo t,.int hi u,.int 1 v] },toks:=tk }:=by
 refine wpAny_pyIter_range (IsRange.new ..) (small_one h1 h2 h3 h4) ?_
 have I1:Inv X pins σ H { s with heap:=s.heap.push { cls:=.type "range",data:=.fields #[.int lo t,.int hi u,.int 1 v] },toks:=tk }:=I.kept fun b o e=>Ot _ e
 refine ⟨(s.heap.push { cls:=.type "range",data:=.fields #[.int lo t,.int hi u,.int 1 v] }).objs.size,[(s.heap.push { cls:=.type "range",data:=.fields #[.int lo t,.int hi u,.int 1 v] }).objs.size],_,_,H,rfl,
  I1.kept (t':=tk) fun b o e=>Ot _ e,Zox _ lo (hi - lo).toNat,?_,fun b hb=>?_,q⟩
 ·have e1:lo+((0:Nat):Int) * 1=lo:=by simp
  have e2:(((hi - lo).toNat:Nat):Int) - ((0:Nat):Int)=Qh lo hi 1:=by rw [rangeSize_one];split <;> omega
  show IsRangeIter _ _ (lo+((0:Nat):Int) * 1) ((((hi - lo).toNat:Nat):Int) - ((0:Nat):Int)) 1
  rw [e1,e2]
  exact O2 _ rfl
 ·have e:b=(s.heap.push { cls:=.type "range",data:=.fields #[.int lo t,.int hi u,.int 1 v] }).objs.size:=by simpa using hb
  subst e
  exact I1.fpOk (Oq _) (I1.hok.fresh (Oq _))
noncomputable def Zah (ta:TA):TI:=fun σ H R=>ta σ H fun vs H1=>∃ j:Int,vs=[.int j]/\-(2 ^ 62)<=j/\j < 2 ^ 62/\R (Gb 0 j.toNat) H1
theorem Zr4 {a:Expr}{ta:TA}{p pos:Pos}(hg:Gl X "range")(hm:X.mg "range" = none)(ha:PA X [a] ta)(hs:starEach [a] X.env=[(false,eval a X.env)]:=by rfl):PI X tg (.Call (.Name "range" p) [a] [] pos) (Zah ta):=by
 intro pins s σ H R I h
 refine Call_ (Ed I hg hm boot_range (Qp (Ak (ha pos pins s σ H _ I h) fun us s1 zq=>?_) hs rfl))
 obtain ⟨vs,H1,I1,r1,q1⟩:=zq
 obtain ⟨j,e,q1,q2,q⟩:=q1
 subst e
 cases r1 with
 | cons r rr =>
  cases rr
  obtain ⟨t,rfl⟩:=r
  exact call_range_1 (Zsi I1 (by omega) (by omega) q1 q2 (by simpa using q))
noncomputable def Zds (wi:TI)(g:TG)(tb:TS):TS:=fun D σ H=>wi σ H fun J H1=>∃ W:Nat->Nat->St->Hp->Prop,(∃ m,W 0 m σ H1)/\∀ i m σ H,W i m σ H ->
 (J.stop i H/\D.nx σ H)\/(J.go i H/\∃ N:St->Hp->Prop,(∀ σ' H',N σ' H'->∃ m',m' < m/\W (i+1) m' σ' H')/\∀ x H',J.yld i H x H'->g x σ H' fun σ2 H2=>tb { D with nx:=N,ct:=N,bk:=D.nx } σ2 H2)
noncomputable def K2 (fp:List Addr)(h:Heap):List (Addr×Obj):=fp.filterMap fun b=>(h.get? b).map fun o=>(b,o)
theorem Nj {fp:List Addr}{h:Heap}{b:Addr}{o:Obj}(hb:b∈fp)(e:h.get? b=some o):(b,o)∈K2 fp h:=Vd.mpr ⟨b,hb,by rw [e];rfl⟩
theorem Zrh {fp:List Addr}{h:Heap}{p:Addr×Obj}(hp:p∈K2 fp h):p.1∈fp/\h.get? p.1=some p.2:=by
 obtain ⟨b,hb,e⟩:=Vd.mp hp
 cases q:h.get? b with
 | none=>rw [q] at e;cases e
 | some o =>
  rw [q] at e
  have e':(b,o)=p:=Pi e
  subst e'
  exact ⟨hb,q⟩
theorem Inv.pinned {pins:List (Addr×Obj)}{σ:St}{H:Hp}{s:Shared}{fp:List Addr}(I:Inv X pins σ H s)(hf:∀ b∈fp,FpOk X pins H b)(ho:∀ b∈fp,∃ o,s.heap.get? b=some o/\∀ v,o.data≠.cell v):Inv X (pins++K2 fp s.heap) σ H s :=
 I.pins_of fun p hp=>(Pu.mp hp).elim (fun z=>I.pin p (Qr _ z)) fun z=>by
  obtain ⟨hb,e⟩:=Zrh z
  obtain ⟨f0,f1,f2,_⟩:=hf p.1 hb
  obtain ⟨o,e',d⟩:=ho p.1 hb
  rw [e] at e';cases e'
  exact ⟨e,f0,f1,f2,d⟩
theorem Inv.unpinned {pins pl:List (Addr×Obj)}{σ:St}{H:Hp}{s:Shared}(I:Inv X (pins++pl) σ H s):Inv X pins σ H s:=I.pins_of fun p hp=>I.pin p (Qr _ (R5 _ hp))
theorem Zux {iter:Expr}{body:List Stmt}{wi:TI}{g:TG}{tb:TS}{pos:Pos}(hp:PassesOwn (model X.prog X.w) X.A X.env X.xe)(hc:X.calm=true)(hi:PI X tg iter wi)(hg:PG X tg g)(hb:PSs X body tb)
  (hs:∀ x,foldedSetIterable iter X.env x=pure x:=by intro _;rfl):PS X (.For tg iter body [] pos) (Zds wi g tb):=by
 intro pins s σ H D I h
 refine wpAny_For (Ak (hi pins s σ H _ I h) fun v s1 h1=>Ak h1 fun itv s2 h2=>?_) hs
 obtain ⟨it,fp,tn,J,H2,e,I2,T,st2,f2,W,⟨m0,w0⟩,turn⟩:=h2
 subst e
 have stat:∀{H':Hp},(∀ b∈fp,H' b=none)->∀ b∈fp,FpOk X pins H' b:=fun hn b hb=>⟨hn b hb,(f2 b hb).2⟩
 refine codeAny_forLoop_any (fun n s'=>∃ i σ' H',Inv X pins σ' H' s'/\tn i s'.heap/\(∀ b∈fp,H' b=none)/\W i n σ' H') ?_ m0 ⟨0,σ,H2,I2,st2,fun b hb=>(f2 b hb).1,w0⟩
 rintro n s3 ⟨i,σ3,H3,I3,st3,fr3,w3⟩
 rcases turn i n σ3 H3 w3 with ⟨stop,qn⟩ | ⟨go,N,hN,step⟩
 ·refine Rx hp (Ak (T.done X rfl rfl rfl hc i pins s3 σ3 H3 X.xe I3 (stat fr3) st3 stop) fun r s4 zq=>?_)
  obtain ⟨hr,I4⟩:=zq
  subst hr
  exact Sa ⟨σ3,H3,I4,qn⟩
 ·refine Rx hp (Ak (T.item X rfl rfl rfl hc i pins s3 σ3 H3 X.xe I3 (stat fr3) st3 go) fun r s4 zq=>?_)
  obtain ⟨u,hr,h4⟩:=zq
  subst hr
  refine Rx hp (Ak h4 fun _ s5 zq=>?_)
  obtain ⟨x,H5,I5,r5,y5,st5,fr5⟩:=zq
  have I5':=I5.pinned (stat fr5) (T.obj _ _ st5)
  refine Rx hp (Ak (hg _ s5 σ3 H5 x u _ I5' r5 (step x H5 y5)) fun _ s6 zq=>?_)
  obtain ⟨σ6,H6,I6,q6⟩:=zq
  refine Rx hp (Ak (hb _ s6 σ6 H6 _ I6 q6) fun f s7 q7=>?_)
  have again:∀{σ7:St}{H7:Hp},Inv X (pins++K2 fp s5.heap) σ7 H7 s7->N σ7 H7->∃ m,m < n/\∃ i σ' H',Inv X pins σ' H' s7/\tn i s7.heap/\(∀ b∈fp,H' b=none)/\W i m σ' H':=fun {σ7 H7} I7 n7=>by
   obtain ⟨m',hm,w7⟩:=hN σ7 H7 n7
   refine ⟨m',hm,i+1,σ7,H7,I7.unpinned,T.keep _ _ _ st5 fun b hb o e=>(I7.pin (b,o) (Qr _ (Qr _ (Nj hb e)))).1,fun b hb=>?_,w7⟩
   obtain ⟨o,e,d⟩:=T.obj _ _ st5 b hb
   exact (I7.pin (b,o) (Qr _ (Qr _ (Nj hb e)))).2.1
  cases f with
  | next=>obtain ⟨σ7,H7,I7,n7⟩:=q7;exact again I7 n7
  | cont=>obtain ⟨σ7,H7,I7,n7⟩:=q7;exact again I7 n7
  | brk=>obtain ⟨σ7,H7,I7,q7⟩:=q7;exact ⟨σ7,H7,I7.unpinned,q7⟩
  | ret v=>obtain ⟨x7,σ7,H7,I7,r7,q7⟩:=q7;exact ⟨x7,σ7,H7,I7.unpinned,r7,q7⟩
end
theorem Zdh {K:On}{a:Addr}{xs:List V}{g:TG}{tb:TS}{D:Ends}{σ:St}{H:Hp}(Pv:Nat->St->Hp->Prop)(h0:Pv 0 σ H)(hl:∀ i σ H,i<=xs.length->Pv i σ H->SqL K H a xs)
  (hs:∀ i x σ H,xs[i]?=some x->Pv i σ H->g x σ H fun σ2 H2=>tb { D with nx:=Pv (i+1),ct:=Pv (i+1),bk:=D.nx } σ2 H2) (hd:∀ σ H,Pv xs.length σ H->D.nx σ H) :
  ∃ W:Nat->Nat->St->Hp->Prop,(∃ m,W 0 m σ H)/\∀ i m σ H,W i m σ H ->
   ((Ja K a).stop i H/\D.nx σ H)\/((Ja K a).go i H/\∃ N:St->Hp->Prop,(∀ σ' H',N σ' H'->∃ m',m' < m/\W (i+1) m' σ' H')/\∀ x H',(Ja K a).yld i H x H'->g x σ H' fun σ2 H2=>tb { D with nx:=N,ct:=N,bk:=D.nx } σ2 H2):=by
 refine ⟨fun i m σ H=>m=xs.length - i/\i<=xs.length/\Pv i σ H,⟨xs.length,by simp,P3 _,h0⟩,?_⟩
 rintro i m σ H ⟨rfl,hi,p⟩
 have q:=hl i σ H hi p
 by_cases hlt:i < xs.length
 ·refine .inr ⟨⟨xs,xs[i],q,by simp [hlt]⟩,Pv (i+1),fun σ' H' p'=>⟨xs.length - (i+1),by omega,rfl,hlt,p'⟩,fun x H' y=>?_⟩
  obtain ⟨e,y⟩:=y
  subst e
  exact hs i x σ _ (y xs q) p
 ·have e:i=xs.length:=by omega
  subst e
  exact .inl ⟨⟨xs,q,Oq _⟩,hd σ H p⟩
theorem Zfy {K:On}{a:Addr}{xs:List V}{g:TG}{tb:TS}{D:Ends}{σ:St}{H:Hp}(Pv:Nat->St->Hp->Prop)(h0:Pv 0 σ H)(hl:∀ i σ H,i<=xs.length->Pv i σ H->SqT K H a xs)
  (hs:∀ i x σ H,xs[i]?=some x->Pv i σ H->g x σ H fun σ2 H2=>tb { D with nx:=Pv (i+1),ct:=Pv (i+1),bk:=D.nx } σ2 H2) (hd:∀ σ H,Pv xs.length σ H->D.nx σ H) :
  ∃ W:Nat->Nat->St->Hp->Prop,(∃ m,W 0 m σ H)/\∀ i m σ H,W i m σ H ->
   ((Hx K a).stop i H/\D.nx σ H)\/((Hx K a).go i H/\∃ N:St->Hp->Prop,(∀ σ' H',N σ' H'->∃ m',m' < m/\W (i+1) m' σ' H')/\∀ x H',(Hx K a).yld i H x H'->g x σ H' fun σ2 H2=>tb { D with nx:=N,ct:=N,bk:=D.nx } σ2 H2):=by
 refine ⟨fun i m σ H=>m=xs.length - i/\i<=xs.length/\Pv i σ H,⟨xs.length,by simp,P3 _,h0⟩,?_⟩
 rintro i m σ H ⟨rfl,hi,p⟩
 have q:=hl i σ H hi p
 by_cases hlt:i < xs.length
 ·refine .inr ⟨⟨xs,xs[i],q,by simp [hlt]⟩,Pv (i+1),fun σ' H' p'=>⟨xs.length - (i+1),by omega,rfl,hlt,p'⟩,fun x H' y=>?_⟩
  obtain ⟨e,y⟩:=y
  subst e
  exact hs i x σ _ (y xs q) p
 ·have e:i=xs.length:=by omega
  subst e
  exact .inl ⟨⟨xs,q,Oq _⟩,hd σ H p⟩
theorem Zbq {lo:Int}{n:Nat}{g:TG}{tb:TS}{D:Ends}{σ:St}{H:Hp}(Pv:Nat->St->Hp->Prop)(h0:Pv 0 σ H)
  (hs:∀ i σ H,i < n->Pv i σ H->g (.int (lo+i)) σ H fun σ2 H2=>tb { D with nx:=Pv (i+1),ct:=Pv (i+1),bk:=D.nx } σ2 H2) (hd:∀ σ H,Pv n σ H->D.nx σ H) :
  ∃ W:Nat->Nat->St->Hp->Prop,(∃ m,W 0 m σ H)/\∀ i m σ H,W i m σ H ->
   ((Gb lo n).stop i H/\D.nx σ H)\/((Gb lo n).go i H/\∃ N:St->Hp->Prop,(∀ σ' H',N σ' H'->∃ m',m' < m/\W (i+1) m' σ' H')/\∀ x H',(Gb lo n).yld i H x H'->g x σ H' fun σ2 H2=>tb { D with nx:=N,ct:=N,bk:=D.nx } σ2 H2):=by
 refine ⟨fun i m σ H=>m=n - i/\i<=n/\Pv i σ H,⟨n,by simp,P3 _,h0⟩,?_⟩
 rintro i m σ H ⟨rfl,hi,p⟩
 by_cases hlt:i < n
 ·refine .inr ⟨hlt,Pv (i+1),fun σ' H' p'=>⟨n - (i+1),by omega,rfl,hlt,p'⟩,fun x H' y=>?_⟩
  obtain ⟨e,y⟩:=y
  subst e y
  exact hs i σ _ hlt p
 ·have e:i=n:=by omega
  subst e
  exact .inl ⟨Oq _,hd σ H p⟩
noncomputable abbrev R2:=V->V->Hp->VK->Prop
noncomputable def OpR (X:Cx)(f:Value->Value->Sem Value)(r:R2):Prop :=
 ∀(pins:List (Addr×Obj))(s:Shared)(σ:St)(H:Hp)(x y:V)(v u:Value)(Q:VK),Inv X pins σ H s->RelV x v->RelV y u->r x y H Q ->
  wpAny (model X.prog X.w) X.A (f v u) (EP X pins σ Q) X.xe s
noncomputable def UnR (X:Cx)(f:Value->Sem Value)(r:V->Hp->VK->Prop):Prop :=
 ∀(pins:List (Addr×Obj))(s:Shared)(σ:St)(H:Hp)(x:V)(v:Value)(Q:VK),Inv X pins σ H s->RelV x v->r x H Q ->
  wpAny (model X.prog X.w) X.A (f v) (EP X pins σ Q) X.xe s
noncomputable def B4 (X:Cx)(f:Value)(r:List V->Hp->VK->Prop):Prop :=
 ∀(pins:List (Addr×Obj))(s:Shared)(σ:St)(H:Hp)(xs:List V)(us:List Value)(Q:VK),Inv X pins σ H s->Vals xs us->r xs H Q ->
  wpAny (model X.prog X.w) X.A (call f us) (EP X pins σ Q) X.xe s
noncomputable def TruR (X:Cx)(r:V->Hp->(Bool->Hp->Prop)->Prop):Prop :=
 ∀(pins:List (Addr×Obj))(s:Shared)(σ:St)(H:Hp)(x:V)(v:Value)(Q:Bool->Hp->Prop),Inv X pins σ H s->RelV x v->r x H Q ->
  wpAny (model X.prog X.w) X.A (truthy v) (TP X pins σ Q) X.xe s
noncomputable def Bv (r:R2)(ta tb:TE):TE:=fun σ H Q=>ta σ H fun x H1=>tb σ H1 fun y H2=>r x y H2 Q
noncomputable def tUn (r:V->Hp->VK->Prop)(ta:TE):TE:=fun σ H Q=>ta σ H fun x H1=>r x H1 Q
noncomputable def rI (C:Int->Int->Prop)(g:Int->Int->V):R2:=fun x y H Q=>∃ i j,x=.int i/\y=.int j/\C i j/\Q (g i j) H
noncomputable def Ds (g:Int->Int->V):R2:=fun x y H Q=>∃ i j,x=.int i/\y=.int j/\Q (g i j) H
noncomputable def rU (g:Int->V):V->Hp->VK->Prop:=fun x H Q=>∃ i,x=.int i/\Q (g i) H
section
variable {X:Cx}{a b c:Expr}{ta tb tc:TE}{pos:Pos}
theorem Zan (ha:PE X a ta)(hb:PE X b tb){pins:List (Addr×Obj)}{s:Shared}{σ:St}{H:Hp}{R:V->V->Hp->Prop}(I:Inv X pins σ H s)
  (h:ta σ H fun x H1=>tb σ H1 fun y H2=>R x y H2) {Q:Value->Shared->Prop} {f:Value->Value->Sem Value}
  (hf:∀ v u s2 x y H2,Inv X pins σ H2 s2->RelV x v->RelV y u->R x y H2->wpAny (model X.prog X.w) X.A (f v u) Q X.xe s2) :
  wpAny (model X.prog X.w) X.A (eval a X.env) (fun v s₁=>wpAny (model X.prog X.w) X.A (eval b X.env) (fun u s₂=>wpAny (model X.prog X.w) X.A (f v u) Q X.xe s₂) X.xe s₁) X.xe s:=by
 refine Ak (ha pins s σ H _ I h) fun v s1 zq=>?_
 obtain ⟨x,H1,I1,r1,q1⟩:=zq
 refine Ak (hb pins s1 σ H1 _ I1 q1) fun u s2 zq=>?_
 obtain ⟨y,H2,I2,r2,q2⟩:=zq
 exact hf v u s2 x y H2 I2 r1 r2 q2
theorem Zon {op:Operator}{r:R2}(ho:OpR X (binaryOp op) r)(ha:PE X a ta)(hb:PE X b tb):PE X (.BinOp a op b pos) (Bv r ta tb):=by
 intro pins s σ H Q I h
 exact wpAny_BinOp (Zan ha hb I h fun v u s2 x y H2 I2 rx ry q=>ho pins s2 σ H2 x y v u Q I2 rx ry q)
theorem Zo3 {op:UnaryOp}{r:V->Hp->VK->Prop}(ho:UnR X (unaryOp op) r)(ha:PE X a ta):PE X (.UnaryOp op a pos) (tUn r ta):=by
 intro pins s σ H Q I h
 exact UnaryOp_ (Ak (ha pins s σ H _ I h) fun v s1 ⟨x,H1,I1,r1,q1⟩=>ho pins s1 σ H1 x v Q I1 r1 q1)
theorem opI {f:Value->Value->Sem Value}{C:Int->Int->Prop}{g:Int->Int->Int}
  (rule:∀(i j:Int)(t u:Tok)(s:Shared)(Q:Value->Shared->Prop)(E:Value->Shared->Prop),C i j->Q (.int (g i j) s.toks) { s with toks:=s.toks+1 }->wpAny (model X.prog X.w) X.A (f (.int i t) (.int j u)) Q E s) :
  OpR X f (rI C fun i j=>.int (g i j)):=by
 intro pins s σ H x y v u Q I rx ry h
 obtain ⟨i,j,rfl,rfl,hc,q⟩:=h
 obtain ⟨t,rfl⟩:=rx
 obtain ⟨t',rfl⟩:=ry
 exact rule i j t t' s _ _ hc ⟨.int (g i j),H,I.tok _,⟨_,rfl⟩,q⟩
theorem opI0 {f:Value->Value->Sem Value}{g:Int->Int->Int}
  (rule:∀(i j:Int)(t u:Tok)(s:Shared)(Q:Value->Shared->Prop)(E:Value->Shared->Prop),Q (.int (g i j) s.toks) { s with toks:=s.toks+1 }->wpAny (model X.prog X.w) X.A (f (.int i t) (.int j u)) Q E s) :
  OpR X f (Ds fun i j=>.int (g i j)):=by
 intro pins s σ H x y v u Q I rx ry h
 obtain ⟨i,j,rfl,rfl,q⟩:=h
 obtain ⟨t,rfl⟩:=rx
 obtain ⟨t',rfl⟩:=ry
 exact rule i j t t' s _ _ ⟨.int (g i j),H,I.tok _,⟨_,rfl⟩,q⟩
theorem M0 {f:Value->Value->Sem Value}{g:Int->Int->Bool}
  (rule:∀(i j:Int)(t u:Tok)(s:Shared)(Q:Value->Shared->Prop)(E:Value->Shared->Prop),Q (.bool (g i j)) s->wpAny (model X.prog X.w) X.A (f (.int i t) (.int j u)) Q E s) :
  OpR X f (Ds fun i j=>.bl (g i j)):=by
 intro pins s σ H x y v u Q I rx ry h
 obtain ⟨i,j,rfl,rfl,q⟩:=h
 obtain ⟨t,rfl⟩:=rx
 obtain ⟨t',rfl⟩:=ry
 exact rule i j t t' s _ _ ⟨.bl (g i j),H,I,rfl,q⟩
noncomputable def CDiv (i j:Int):Prop:=0 < j/\j < 1073741824
noncomputable def CPow (i j:Int):Prop:=0<=j/\j<=1000000/\i.natAbs < 2 ^ 64
noncomputable def CMul (i j:Int):Prop:=(-(2 ^ 64) < i/\i < 2 ^ 64)\/(-(2 ^ 64) < j/\j < 2 ^ 64)
theorem CMul.ok {i j:Int}(h:CMul i j):IntMulOk i j:=by
 rcases h with ⟨h1,h2⟩ | ⟨h1,h2⟩
 ·exact .of_left (intBits_le_64 h1 h2)
 ·exact .of_right (intBits_le_64 h1 h2)
theorem op_add:OpR X (binaryOp .Add) (Ds fun i j=>.int (i+j)):=opI0 fun _ _ _ _ _ _ _ q=>add_int q
theorem Zbv:OpR X (binaryOp .Sub) (Ds fun i j=>.int (i - j)):=opI0 fun _ _ _ _ _ _ _ q=>sub_int q
theorem op_mul:OpR X (binaryOp .Mult) (rI CMul fun i j=>.int (i * j)):=opI fun _ _ _ _ _ _ _ hc q=>mul_int q hc.ok
theorem Zk9:OpR X (binaryOp .FloorDiv) (rI CDiv fun i j=>.int (i / j)):=opI fun i j _ _ _ _ _ hc q=>by
 have h1:(0:Int) < j:=hc.1
 have h2:j < 1073741824:=hc.2
 exact floordiv_int (by omega) (by rw [Int.fdiv_eq_ediv_of_nonneg i (by omega)];exact q) (.inl (PyProof.noPylong_small (by omega)))
theorem Ei:OpR X (binaryOp .Mod) (rI (fun _ j=>0 < j) fun i j=>.int (i % j)):=opI fun i j _ _ _ _ _ hc q=>by
 have h1:(0:Int) < j:=hc
 exact mod_int' (by omega) (by rw [Int.fmod_eq_emod_of_nonneg i (by omega)];exact q)
theorem Zad:OpR X (binaryOp .Pow) (rI CPow fun i j=>.int (i ^ j.toNat)):=opI fun _ _ _ _ _ _ _ hc q=>pow_int_small hc.1 hc.2.1 hc.2.2 q
theorem unI {f:Value->Sem Value}{g:Int->Int}
  (rule:∀(i:Int)(t:Tok)(s:Shared)(Q:Value->Shared->Prop)(E:Value->Shared->Prop),Q (.int (g i) s.toks) { s with toks:=s.toks+1 }->wpAny (model X.prog X.w) X.A (f (.int i t)) Q E s) :
  UnR X f (rU fun i=>.int (g i)):=by
 intro pins s σ H x v Q I rx h
 obtain ⟨i,rfl,q⟩:=h
 obtain ⟨t,rfl⟩:=rx
 exact rule i t s _ _ ⟨.int (g i),H,I.tok _,⟨_,rfl⟩,q⟩
theorem Ix:UnR X (unaryOp .USub) (rU fun i=>.int (-i)):=unI fun _ _ _ _ _ q=>neg_int q
end
noncomputable def N2:V->V->Bool
 | .non,.non=>true | .non,.int _=>true | .int _,.non=>true | .non,.bl _=>true | .bl _,.non=>true | .non,.str _=>true | .str _,.non=>true
 | .int _,.int _=>true | .bl _,.bl _=>true | .str _,.str _=>true | .byt _,.byt _=>true
 | .int _,.str _=>true | .str _,.int _=>true | .bl _,.str _=>true | .str _,.bl _=>true
 | _,_=>false
noncomputable def rEq:R2:=fun x y H Q=>N2 x y=true/\Q (.bl (decide (x=y))) H
noncomputable def rNe:R2:=fun x y H Q=>N2 x y=true/\Q (.bl (!decide (x=y))) H
theorem Zih {i j:Int}:decide (V.int i=V.int j)=(i == j):=by
 rw [Rm]
 simp
theorem Zfz {i j:Bool}:decide (V.bl i=V.bl j)=(i == j):=by
 rw [Rm]
 simp
theorem Cv {i j:Str}:decide (V.str i=V.str j)=(i == j):=by
 rw [Rm]
 simp
theorem Zhv {i j:Array UInt8}:decide (V.byt i=V.byt j)=(i.toList == j.toList):=by
 rw [Rm]
 cases i
 cases j
 simp
section
variable {X:Cx}{a b c:Expr}{ta tb tc:TE}{pos:Pos}
theorem Ba {pins:List (Addr×Obj)}{σ:St}{H:Hp}{s:Shared}{Q:VK}{k k':Bool}(I:Inv X pins σ H s)(q:Q (.bl k) H)(e:k=k'):EP X pins σ Q (.bool k') s:=by
 subst e
 exact ⟨.bl k,H,I,rfl,q⟩
theorem op_eq:OpR X (compareOp .Eq) rEq:=by
 intro pins s σ H x y v u Q I rx ry h
 obtain ⟨hs,q⟩:=h
 cases x with
 | non =>
  cases rx
  cases y with
  | non=>cases ry;exact PySem.EqNone.eq_none_none (Ba I q (by simp))
  | bl j=>cases ry;exact PySem.EqNone.eq_none_bool (Ba I q (by simp))
  | int j=>obtain ⟨t',rfl⟩:=ry;exact PySem.EqNone.eq_none_int (Ba I q (by simp))
  | str j=>obtain ⟨t',rfl⟩:=ry;exact PySem.EqNone.eq_none_str (Ba I q (by simp))
  | _=>exact absurd (show false=true from hs) Ov
 | bl i =>
  cases rx
  cases y with
  | non=>cases ry;exact PySem.EqNone.eq_bool_none (Ba I q (by simp))
  | bl j=>cases ry;exact eq_bool (Ba I q Zfz)
  | str j=>obtain ⟨t',rfl⟩:=ry;exact PySem.EqMixed.eq_bool_str (Ba I q (by simp))
  | _=>exact absurd (show false=true from hs) Ov
 | int i =>
  obtain ⟨t,rfl⟩:=rx
  cases y with
  | non=>cases ry;exact PySem.EqNone.eq_int_none (Ba I q (by simp))
  | int j=>obtain ⟨t',rfl⟩:=ry;exact eq_int (Ba I q Zih)
  | str j=>obtain ⟨t',rfl⟩:=ry;exact PySem.EqMixed.eq_int_str (Ba I q (by simp))
  | _=>exact absurd (show false=true from hs) Ov
 | str i =>
  obtain ⟨t,rfl⟩:=rx
  cases y with
  | non=>cases ry;exact PySem.EqNone.eq_str_none (Ba I q (by simp))
  | bl j=>cases ry;exact PySem.EqMixed.eq_str_bool (Ba I q (by simp))
  | int j=>obtain ⟨t',rfl⟩:=ry;exact PySem.EqMixed.eq_str_int (Ba I q (by simp))
  | str j=>obtain ⟨t',rfl⟩:=ry;exact eq_str (Ba I q Cv)
  | _=>exact absurd (show false=true from hs) Ov
 | byt i =>
  obtain ⟨t,rfl⟩:=rx
  cases y with
  | byt j=>obtain ⟨t',rfl⟩:=ry;exact PySem.W.eq_bytes (Ba I q Zhv)
  | _=>exact absurd (show false=true from hs) Ov
 | _=>cases y <;> exact absurd (show false=true from hs) Ov
theorem op_ne:OpR X (compareOp .NotEq) rNe:=by
 intro pins s σ H x y v u Q I rx ry h
 obtain ⟨hs,q⟩:=h
 cases x with
 | non =>
  cases rx
  cases y with
  | non=>cases ry;exact PySem.EqNone.ne_none_none (Ba I q (by simp))
  | bl j=>cases ry;exact PySem.EqNone.ne_none_bool (Ba I q (by simp))
  | int j=>obtain ⟨t',rfl⟩:=ry;exact PySem.EqNone.ne_none_int (Ba I q (by simp))
  | str j=>obtain ⟨t',rfl⟩:=ry;exact PySem.EqNone.ne_none_str (Ba I q (by simp))
  | _=>exact absurd (show false=true from hs) Ov
 | bl i =>
  cases rx
  cases y with
  | non=>cases ry;exact PySem.EqNone.ne_bool_none (Ba I q (by simp))
  | bl j=>cases ry;exact ne_bool (Ba I q (congrArg not Zfz))
  | str j=>obtain ⟨t',rfl⟩:=ry;exact PySem.EqMixed.ne_bool_str (Ba I q (by simp))
  | _=>exact absurd (show false=true from hs) Ov
 | int i =>
  obtain ⟨t,rfl⟩:=rx
  cases y with
  | non=>cases ry;exact PySem.EqNone.ne_int_none (Ba I q (by simp))
  | int j=>obtain ⟨t',rfl⟩:=ry;exact ne_int (Ba I q (congrArg not Zih))
  | str j=>obtain ⟨t',rfl⟩:=ry;exact PySem.EqMixed.ne_int_str (Ba I q (by simp))
  | _=>exact absurd (show false=true from hs) Ov
 | str i =>
  obtain ⟨t,rfl⟩:=rx
  cases y with
  | non=>cases ry;exact PySem.EqNone.ne_str_none (Ba I q (by simp))
  | bl j=>cases ry;exact PySem.EqMixed.ne_str_bool (Ba I q (by simp))
  | int j=>obtain ⟨t',rfl⟩:=ry;exact PySem.EqMixed.ne_str_int (Ba I q (by simp))
  | str j=>obtain ⟨t',rfl⟩:=ry;exact ne_str (Ba I q (congrArg not Cv))
  | _=>exact absurd (show false=true from hs) Ov
 | byt i =>
  obtain ⟨t,rfl⟩:=rx
  cases y with
  | byt j=>obtain ⟨t',rfl⟩:=ry;exact PySem.W.ne_bytes (Ba I q (congrArg not Zhv))
  | _=>exact absurd (show false=true from hs) Ov
 | _=>cases y <;> exact absurd (show false=true from hs) Ov
theorem op_lt:OpR X (compareOp .Lt) (Ds fun i j=>.bl (decide (i < j))):=M0 fun _ _ _ _ _ _ _ q=>lt_int q
theorem op_le:OpR X (compareOp .LtE) (Ds fun i j=>.bl (decide (i<=j))):=M0 fun _ _ _ _ _ _ _ q=>le_int q
theorem Fx:OpR X (compareOp .Gt) (Ds fun i j=>.bl (decide (j < i))):=M0 fun _ _ _ _ _ _ _ q=>gt_int q
theorem Zp3:OpR X (compareOp .GtE) (Ds fun i j=>.bl (decide (j<=i))):=M0 fun _ _ _ _ _ _ _ q=>ge_int q
theorem Zvz:OpR X (compareOp .Lt) (fun x y H Q=>∃ i j,x=.str i/\y=.str j/\Q (.bl (decide (i.cps.toList < j.cps.toList))) H):=by
 intro pins s σ H x y v u Q I rx ry h
 obtain ⟨i,j,rfl,rfl,q⟩:=h
 obtain ⟨t,rfl⟩:=rx
 obtain ⟨t',rfl⟩:=ry
 exact lt_str (Ba I q rfl)
theorem Zvh:OpR X (compareOp .In) (fun x y H Q=>∃ i j,x=.str i/\y=.str j/\Q (.bl (!(Builtin.Str.occurrences j i 0 j.length 1).isEmpty)) H):=by
 intro pins s σ H x y v u Q I rx ry h
 obtain ⟨i,j,rfl,rfl,q⟩:=h
 obtain ⟨t,rfl⟩:=rx
 obtain ⟨t',rfl⟩:=ry
 exact in_str (Ba I q rfl)
theorem Zp1:OpR X (compareOp .NotIn) (fun x y H Q=>∃ i j,x=.str i/\y=.str j/\Q (.bl (!(!(Builtin.Str.occurrences j i 0 j.length 1).isEmpty))) H):=by
 intro pins s σ H x y v u Q I rx ry h
 obtain ⟨i,j,rfl,rfl,q⟩:=h
 obtain ⟨t,rfl⟩:=rx
 obtain ⟨t',rfl⟩:=ry
 exact notIn_str (Ba I q rfl)
theorem OpR.or {f:Value->Value->Sem Value}{r r':R2}(h:OpR X f r)(h':OpR X f r'):OpR X f (fun x y H Q=>r x y H Q\/r' x y H Q):=by
 intro pins s σ H x y v u Q I rx ry q
 rcases q with q | q
 ·exact h pins s σ H x y v u Q I rx ry q
 ·exact h' pins s σ H x y v u Q I rx ry q
theorem Av (b:Expr){op:CmpOp}(h:op≠.In:=by decide)(h2:op≠.NotIn:=by decide):behindInMarks op b=false:=by
 have e1:(op == CmpOp.In)=false:=by cases op <;> first | rfl | exact absurd rfl h
 have e2:(op == CmpOp.NotIn)=false:=by cases op <;> first | rfl | exact absurd rfl h2
 cases b <;> simp [behindInMarks,e1,e2]
theorem Zs9 {op:CmpOp}{r:R2}(ho:OpR X (compareOp op) r)(ha:PE X a ta)(hb:PE X b tb)(hm:behindInMarks op b=false):PE X (.Compare a [op] [b] pos) (Bv r ta tb):=by
 intro pins s σ H Q I h
 exact wpAny_Compare1 (Zan ha hb I h fun v u s2 x y H2 I2 rx ry q=>ho pins s2 σ H2 x y v u Q I2 rx ry q) hm
noncomputable def Er (t:TE):TT:=fun σ H Q=>t σ H fun x H'=>∃ k,x=.bl k/\Q k H'
theorem Zn4 {op:CmpOp}{r:R2}(ho:OpR X (compareOp op) r)(ha:PE X a ta)(hb:PE X b tb)(hm:behindInMarks op b=false):PT X (.Compare a [op] [b] pos) (Er (Bv r ta tb)):=by
 intro pins s σ H Q I h
 refine wpAny_isTrue_Compare1 (Ak (ha pins s σ H _ I h) fun v s1 ⟨x,H1,I1,r1,q1⟩=>Ak (hb pins s1 σ H1 _ I1 q1) fun u s2 ⟨y,H2,I2,r2,q2⟩ =>
  Ak (ho pins s2 σ H2 x y v u _ I2 r1 r2 q2) fun c s3 ⟨z,H3,I3,r3,k,e,q3⟩=>?_) hm
 subst e
 cases r3
 exact Qk ⟨H3,I3,q3⟩
noncomputable def J5 (r r':R2)(ta tb tc:TE):TE:=fun σ H Q=>ta σ H fun x H1=>tb σ H1 fun y H2=>r x y H2 fun z H3=>∃ k,z=.bl k /\
 (if k=true then tc σ H3 fun w' H4=>r' y w' H4 Q else Q (.bl false) H3)
theorem Zqf {op op':CmpOp}{r r':R2}(ho:OpR X (compareOp op) r)(ho':OpR X (compareOp op') r')(ha:PE X a ta)(hb:PE X b tb)(hc:PE X c tc)
  (hm:lastMarks [op,op'] [b,c]=false:=by with_unfolding_all rfl):PE X (.Compare a [op,op'] [b,c] pos) (J5 r r' ta tb tc):=by
 intro pins s σ H Q I h
 refine Compare_chain (Ak (ha pins s σ H _ I h) fun v s1 ⟨x,H1,I1,r1,q1⟩=>chain_link (Ak (hb pins s1 σ H1 _ I1 q1) fun u s2 ⟨y,H2,I2,r2,q2⟩ =>
  Ak (ho pins s2 σ H2 x y v u _ I2 r1 r2 q2) fun d s3 ⟨z,H3,I3,r3,k,e,q3⟩=>?_)) hm
 subst e
 cases r3
 refine Qk ?_
 cases k with
 | false=>exact ite_ff ⟨.bl false,H3,I3,rfl,q3⟩
 | true=>exact ite_tt (chain_last (Ak (hc pins s3 σ H3 _ I3 q3) fun w' s4 ⟨z',H4,I4,r4,q4⟩=>ho' pins s4 σ H4 y z' u w' Q I4 r2 r4 q4))
theorem Zmg {op op':CmpOp}{r r':R2}(ho:OpR X (compareOp op) r)(ho':OpR X (compareOp op') r')(ha:PE X a ta)(hb:PE X b tb)(hc:PE X c tc)
  (hm:lastMarks [op,op'] [b,c]=false:=by with_unfolding_all rfl):PT X (.Compare a [op,op'] [b,c] pos) (Er (J5 r r' ta tb tc)):=by
 intro pins s σ H Q I h
 refine isTrue_chain (Ak (ha pins s σ H _ I h) fun v s1 ⟨x,H1,I1,r1,q1⟩=>test_link (Ak (hb pins s1 σ H1 _ I1 q1) fun u s2 ⟨y,H2,I2,r2,q2⟩ =>
  Ak (ho pins s2 σ H2 x y v u _ I2 r1 r2 q2) fun d s3 ⟨z,H3,I3,r3,k,e,q3⟩=>?_)) hm
 subst e
 cases r3
 refine Qk ?_
 cases k with
 | false =>
  obtain ⟨k',e',q'⟩:=q3
  cases e'
  exact ite_ff ⟨H3,I3,q'⟩
 | true =>
  refine ite_tt (test_last (Ak (hc pins s3 σ H3 _ I3 q3) fun w' s4 zq=>?_))
  obtain ⟨z',H4,I4,r4,q4⟩:=zq
  refine Ak (ho' pins s4 σ H4 y z' u w' _ I4 r2 r4 q4) fun d' s5 zq=>?_
  obtain ⟨z2,H5,I5,r5,k2,e2,q5⟩:=zq
  subst e2
  cases r5
  exact Qk ⟨H5,I5,q5⟩
noncomputable def Ku (K:On)(x:V)(H:Hp)(k:Bool):Prop :=
 match x with
 | .non=>k=false
 | .bl b=>k=b
 | .int i=>k=(i != 0)
 | .str y=>y.length<=sizeLine/\k=((y.length:Int) != 0)
 | .byt y=>y.size<=sizeLine/\k=((y.size:Int) != 0)
 | .ref p=>(∃ xs,SqL K H p xs/\k=!xs.isEmpty)\/(∃ xs,SqT K H p xs/\k=!xs.isEmpty)\/∃ kvs,H p=some (.dK kvs)/\k=!kvs.isEmpty
 | _=>False
theorem Zta {κ:Type}{kvs:List (κ×V)}{vs:List (κ×Value)}(r:KV kvs vs):(!vs.isEmpty)=!kvs.isEmpty:=by
 cases r <;> rfl
theorem Zfr {xs:List V}{its:List Value}(r:Vals xs its):(!its.toArray.isEmpty)=!xs.isEmpty:=by
 cases r <;> simp
theorem Jb:(sizeLine:Nat) < 2 ^ 63:=by rw [Tq];decide
theorem Zun:TruR X (fun x H Q=>∃ k,Ku X.K x H k/\Q k H):=by
 intro pins s σ H x v Q I rx h
 obtain ⟨k,e,q⟩:=h
 have hl:=Jb
 have hs:sizeLine=16777216:=Tq
 cases x with
 | non =>
  cases rx
  have e':k=false:=e
  subst e'
  exact truthy_none ⟨H,I,q⟩
 | bl b =>
  cases rx
  have e':k=b:=e
  subst e'
  exact Qk ⟨H,I,q⟩
 | int i =>
  obtain ⟨t,rfl⟩:=rx
  have e':k=(i != 0):=e
  subst e'
  exact PySem.P.truthy_int ⟨H,I,q⟩
 | str y =>
  obtain ⟨t,rfl⟩:=rx
  obtain ⟨hy,e'⟩:y.length<=sizeLine/\k=((y.length:Int) != 0):=e
  subst e'
  exact PySem.P.truthy_str (by omega) ⟨H,I.tok _,q⟩
 | byt y =>
  obtain ⟨t,rfl⟩:=rx
  obtain ⟨hy,e'⟩:y.size<=sizeLine/\k=((y.size:Int) != 0):=e
  subst e'
  exact PySem.W.truthy_bytes (by omega) ⟨H,I.tok _,q⟩
 | ref p =>
  cases rx
  have e':(∃ xs,SqL X.K H p xs/\k=!xs.isEmpty)\/(∃ xs,SqT X.K H p xs/\k=!xs.isEmpty)\/∃ kvs,H p=some (.dK kvs)/\k=!kvs.isEmpty:=e
  rcases e' with ⟨xs,hx,e'⟩ | ⟨xs,hx,e'⟩ | ⟨kvs,hx,e'⟩
  ·subst e'
   obtain ⟨its,r,pl,hz⟩:=I.list hx
   have hlen:=r.length
   exact wpAny_truthy_list pl.isList (by simp only [Ou];omega) ⟨H,I.tok _,by rw [Zfr r];exact q⟩
  ·subst e'
   obtain ⟨its,r,pl,hz⟩:=I.tuple hx
   have hlen:=r.length
   exact truthy_tuple pl (by simp only [Ou];omega) ⟨H,I.tok _,by rw [Zfr r];exact q⟩
  ·subst e'
   obtain ⟨hz,hS,vs,r,m⟩:kvs.length<=sizeLine/\(p == sysModules)=false/\∃ vs,KV kvs vs/\s.heap.DictOf (Zb6 X.prog X.w) p vs:=I.hok p _ hx
   have hlen:kvs.length=vs.length:=Paired.length r
   exact wpAny_truthy_dict hS m (by omega) ⟨H,I.tok _,by rw [Zta r];exact q⟩
 | _=>exact (show False from e).elim
theorem Zko (ha:PE X a ta)(he:∀ whole,isTrue a X.env whole=(do let v <- whole;standAt a.pos;holding [v] (truthy v))) :
  PT X a (fun σ H Q=>ta σ H fun x H'=>∃ k,Ku X.K x H' k/\Q k H'):=by
 intro pins s σ H Q I h
 exact isTrue_plain (Ak (ha pins s σ H _ I h) fun v s1 ⟨x,H1,I1,r1,q1⟩=>Zun pins s1 σ H1 x v Q I1 r1 q1) (he _)
theorem op_add_str:OpR X (binaryOp .Add) (fun x y H Q=>∃ i j,x=.str i/\y=.str j/\i.length+j.length<=sizeLine/\Q (.str (i++j)) H):=by
 intro pins s σ H x y v u Q I rx ry h
 obtain ⟨i,j,rfl,rfl,hz,q⟩:=h
 obtain ⟨t,rfl⟩:=rx
 obtain ⟨t',rfl⟩:=ry
 exact add_str (fun t' tk=>⟨.str (i++j),H,I.tok _,⟨_,rfl⟩,q⟩) hz
theorem J2 {x:V}{us:List Value}(r:Vals [x] us):∃ u,us=[u]/\RelV x u:=by
 cases r with
 | cons r1 r2=>cases r2;exact ⟨_,rfl,r1⟩
theorem Zi1 {x y:V}{us:List Value}(r:Vals [x,y] us):∃ u w',us=[u,w']/\RelV x u/\RelV y w':=by
 cases r with
 | cons r1 r2 =>
  cases r2 with
  | cons r3 r4=>cases r4;exact ⟨_,_,rfl,r1,r3⟩
theorem Zuo (hc:X.calm=true):B4 X (.builtin "min") (fun xs H Q=>∃ i j,xs=[.int i,.int j]/\Q (.int (if j < i then j else i)) H):=by
 intro pins s σ H xs us Q I r h
 obtain ⟨i,j,rfl,q⟩:=h
 obtain ⟨u,w',rfl,⟨t,rfl⟩,⟨t',rfl⟩⟩:=Zi1 r
 refine min_two_ints (I.ok.hd hc) fun h' tk k=>⟨_,H,I.kept k,?_,q⟩
 by_cases hj:j < i
 ·rw [if_pos hj,if_pos hj];exact ⟨_,rfl⟩
 ·rw [if_neg hj,if_neg hj];exact ⟨_,rfl⟩
theorem Zlc:B4 X (.type "int") (fun xs H Q=>(∃ i,xs=[.int i]/\Q (.int i) H)\/∃ k,xs=[.bl k]/\Q (.int (if k then 1 else 0)) H):=by
 intro pins s σ H xs us Q I r h
 rcases h with ⟨i,rfl,q⟩ | ⟨k,rfl,q⟩
 ·obtain ⟨u,rfl,t,rfl⟩:=J2 r
  exact call_int_int ⟨.int i,H,I,⟨_,rfl⟩,q⟩
 ·obtain ⟨u,rfl,r1⟩:=J2 r
  cases r1
  exact call_int_bool ⟨.int (if k then 1 else 0),H,I.tok _,⟨_,rfl⟩,q⟩
noncomputable def LenV (K:On)(x:V)(H:Hp)(n:Nat):Prop :=
 match x with
 | .str y=>y.length<=sizeLine/\n=y.length
 | .byt y=>y.size<=sizeLine/\n=y.size
 | .ref p=>(∃ xs,SqL K H p xs/\n=xs.length)\/∃ xs,SqT K H p xs/\n=xs.length
 | _=>False
theorem Zti:B4 X (.builtin "len") (fun xs H Q=>∃ x n,xs=[x]/\LenV X.K x H n/\Q (.int n) H):=by
 intro pins s σ H xs us Q I r h
 obtain ⟨x,n,rfl,e,q⟩:=h
 obtain ⟨u,rfl,rx⟩:=J2 r
 have hl:=Jb
 have hs:sizeLine=16777216:=Tq
 cases x with
 | str y =>
  obtain ⟨t,rfl⟩:=rx
  obtain ⟨hy,e'⟩:y.length<=sizeLine/\n=y.length:=e
  subst e'
  exact len_str (by omega) ⟨.int _,H,I.tok _,⟨_,rfl⟩,q⟩
 | byt y =>
  obtain ⟨t,rfl⟩:=rx
  obtain ⟨hy,e'⟩:y.size<=sizeLine/\n=y.size:=e
  subst e'
  exact PySem.W.len_bytes (by omega) ⟨.int _,H,I.tok _,⟨_,rfl⟩,q⟩
 | ref p =>
  cases rx
  have e':(∃ xs,SqL X.K H p xs/\n=xs.length)\/∃ xs,SqT X.K H p xs/\n=xs.length:=e
  rcases e' with ⟨xs,hx,e'⟩ | ⟨xs,hx,e'⟩
  ·subst e'
   obtain ⟨its,r',pl,hz⟩:=I.list hx
   have hlen:=r'.length
   exact Calls.call_len_list pl.isList (by simp only [Ou];omega) ⟨.int xs.length,H,I.tok _,⟨_,by simp only [Ou];rw [hlen]⟩,q⟩
  ·subst e'
   obtain ⟨its,r',pl,hz⟩:=I.tuple hx
   have hlen:=r'.length
   exact len_tuple pl (by simp only [Ou];omega) ⟨.int xs.length,H,I.tok _,⟨_,by simp only [Ou];rw [hlen]⟩,q⟩
 | _=>exact (show False from e).elim
end
structure ObjM (h:Heap)(x dx C:Addr)(mA:Str->Option Value):Prop where
 obj:h.get? x=some (Qf C dx)
 ns:h.Ns1 dx mA
 ne:dx≠x
theorem Zfo {h:Heap}{dx:Addr}{mA:Str->Option Value}(n:h.Ns1 dx mA):∃ od,h.get? dx=some od/\∀ name,Uh name od=some (mA name):=by
 obtain ⟨o,es,ep,ho,hd,hk,_,hm⟩:=n
 refine ⟨o,ho,fun name=>?_⟩
 have e:=hm name
 unfold nsFind findBy at e
 rw [<- Array.find?_toList] at e
 unfold Uh
 rw [hd]
 dsimp only
 split
 ·rename_i y q
  rw [q] at e
  exact congrArg some e
 ·rename_i q
  rw [q] at e
  have a:es.toList.any (·.refKey)=false:=by
   rw [List.any_eq_false]
   intro y hy
   obtain ⟨z,t,hkey⟩:=hk y (Array.mem_toList_iff.mp hy)
   simp [DictEntry.refKey,hkey]
  have a':¬ es.toList.any (·.refKey)=true:=by rw [a];exact Ov
  rw [if_neg a']
  exact congrArg some e
theorem ObjM.look {h:Heap}{x dx C:Addr}{mA:Str->Option Value}(I:ObjM h x dx C mA):∃ od,Ui h x (Qf C dx) C (some od)/\∀ name,Uh name od=some (mA name) :=
 let ⟨od,ho,hl⟩:=Zfo I.ns
 ⟨od,⟨I.obj,rfl,rfl,ho⟩,hl⟩
section
variable {prog:Program}{w:World}{A:Around}{E:Value->Shared->Prop}{s:Shared}{K:On}{x dx C f:Addr}{mA:Str->Option Value}{name:Str}{v:Value}
theorem Zu4 {expr:Bool}{Q:Value->Shared->Prop}(X:K.In s.heap)(I:ObjM s.heap x dx C mA)(hg:Qd K C name=true)(hh:P6 K C=true)
  (ha:Os K (.ref C) name=some none) (hv:mA name=some v) (hv':PySem.W.handedIn v=true) (h:Q v { s with toks:=s.toks+1 }) :
  wpAny (model prog w) A (getAttr (.ref x) name expr) Q E s:=by
 obtain ⟨od,J,hl⟩:=I.look
 exact PySem.W.get_value X J (Va hg).1 (PySem.W.findObj_own hh ha rfl (by rw [hl,hv])) hv' h
theorem Zjo {pl:Sem Bool}{Q:Value×List Value->Shared->Prop}(X:K.In s.heap)(I:ObjM s.heap x dx C mA)(hg:Qd K C name=true)
  (hf:Os K (.ref C) name=some (some (.ref f))) (ht:Rz K (.ref f)=true) (hv:mA name=none) (h:Q (.ref f,[.ref x]) s) :
  wpAny (model prog w) A (getMethod (.ref x) name pl) Q E s:=by
 obtain ⟨od,J,hl⟩:=I.look
 exact PySem.W.method_fn X J (Va hg).1 (Va hg).2 hf (beq_iff_eq.mp ht) (by show (Uh name od).map (·.isSome)=some false;rw [hl,hv];rfl) h
theorem Ztb {ns:List Str}{Q:Unit->Shared->Prop}(X:K.In s.heap)(I:ObjM s.heap x dx C mA)
  (hs:Os K (.ref C) "__setattr__" = some (some (.builtin "object.__setattr__"))) (hp:Qs K C=true) (ht:Vq K C name=some none) (hh:P6 K C=true)
  (hw:Uo mA ns) (hsz:ns.length<=sizeLine)
  (h:∀ h',ObjM h' x dx C (fun y=>if y=name then some v else mA y)->Pf dx s.heap h'->Q () { s with heap:=h',toks:=s.toks+2 }) :
  wpAny (model prog w) A (setAttr (.ref x) name v) Q E s:=by
 obtain ⟨od,J,hl⟩:=I.look
 refine PySem.W.set_plain X J hs (PySem.W.osa_open (s:={ s with toks:=s.toks+1 }) (r:=none) X J hp ht fun b=>?_)
 obtain ⟨cd,hc,hd'⟩:=PySem.W.any_some hh
 have hx:s.heap.get? x=some ⟨.ref C,some dx,.plain,#[]⟩:=I.obj
 refine Oo (Op (Oo (Oo (wpAny_loadPart hx (Oo (Qu.here (s:={ s with toks:=s.toks+1 }) (PySem.W.looks_clsIn X hc) ?_))))))
 rw [hd']
 refine Op (a:=some dx) (Oo (Op (Oo ?_)))
 refine wpAny_nsSet1 (s:={ s with toks:=s.toks+1 }) I.ns fun h' hn2 hs2=>?_
 obtain ⟨oD,esD,epD,hoD,hdD,hcD⟩:=hn2.count (Uo.cons name v hw)
 refine Oo (wpAny_lookBehind hoD (by rw [hdD];exact pastItsLine_dict (Pp hcD (by rw [Ph];omega))) ?_)
 exact Op (h _ ⟨(hs2.2 _ (Qb I.ne)).trans I.obj,hn2,I.ne⟩ hs2)
theorem Zex {R:Result->Shared->Prop}{vs:List Value}{kw:List (Str×Value)}(X:K.In s.heap)(hm:P8 K C=true)
  (hi:Os K (.ref C) "__init__" = some (some (.ref f))) (hf:Q4 K (.ref f)=some (.type "function"))
  (h:codeAny (model prog w) (A.under (.builtin "type.__call__" ⟨.ref C::vs,kw⟩)) (.call (.ref f) ⟨.ref (s.heap.objs.size+1)::vs,kw⟩) (PySem.W.InitBack (s.heap.objs.size+1) R)
   { s with heap:=(s.heap.push P7).push (Qf C s.heap.objs.size) }) :
  codeAny (model prog w) A (.call (.ref C) ⟨vs,kw⟩) R s:=by
 obtain ⟨hh,g,d,t,os⟩:=s
 exact PySem.W.make_core (Vm X hm) (PySem.W.looks_findIn X hi) (fun self=>PySem.W.bind_fn X self hf) (.inl rfl) h
theorem Znc {R:Result->Shared->Prop}(X:K.In s.heap)(hm:P8 K C=true)
  (hi:Os K (.ref C) "__init__" = some (some (.builtin "object.__init__")))
  (hb:∀ self,Qu (model prog w) s.heap (bindSpecial (.builtin "object.__init__") self) (.builtin "object.__init__",[self]))
  (h:codeAny (model prog w) (A.under (.builtin "type.__call__" ⟨[.ref C],[]⟩)) (.call (.builtin "object.__init__") ⟨[.ref (s.heap.objs.size+1)],[]⟩) (PySem.W.InitBack (s.heap.objs.size+1) R)
   { s with heap:=(s.heap.push P7).push (Qf C s.heap.objs.size) }) :
  codeAny (model prog w) A (.call (.ref C) ⟨[],[]⟩) R s:=by
 obtain ⟨hh,g,d,t,os⟩:=s
 exact PySem.W.make_core (Vm X hm) (PySem.W.looks_findIn X hi) hb (.inr ⟨rfl,rfl⟩) h
end
noncomputable def Br (f:Str)(v:V):List (Str×V)->List (Str×V)
 | []=>[(f,v)]
 | (g,x)::r=>if g=f then (g,v)::r else (g,x)::Br f v r
theorem Zhg (f g:Str)(v:V):∀ fs:List (Str×V),(Br f v fs).lookup g=if g=f then some v else fs.lookup g
 | []=>by
  show Ra g [(f,v)]=_
  by_cases h:g=f
  ·have hb:(g == f)=true:=beq_iff_eq.mpr h
   simp only [Ra,hb,if_pos h]
  ·have hb:(g == f)=false:=beq_eq_false_iff_ne.mpr h
   simp only [Ra,hb,if_neg h]
 | (k,x)::r=>by
  have ih:=Zhg f g v r
  rw [show Br f v ((k,x)::r)=(if k=f then (k,v)::r else (k,x)::Br f v r) from rfl]
  by_cases hk:k=f
  ·rw [if_pos hk]
   by_cases h:g=k
   ·have hb:(g == k)=true:=beq_iff_eq.mpr h
    simp only [Ra,hb,if_pos (h.trans hk)]
   ·have hb:(g == k)=false:=beq_eq_false_iff_ne.mpr h
    simp only [Ra,hb,if_neg (fun e:g=f=>h (e.trans hk.symm))]
  ·rw [if_neg hk]
   by_cases h:g=k
   ·have hb:(g == k)=true:=beq_iff_eq.mpr h
    simp only [Ra,hb,if_neg (fun e:g=f=>hk (h.symm.trans e))]
   ·have hb:(g == k)=false:=beq_eq_false_iff_ne.mpr h
    simp only [Ra,hb]
    exact ih
theorem Zcw (f:Str)(v:V):∀ fs:List (Str×V),f∈(Br f v fs).map (·.1)/\∀ g,g∈fs.map (·.1)->g∈(Br f v fs).map (·.1)
 | []=>⟨by simp [Br],fun g h=>by simp at h⟩
 | (k,x)::r=>by
  obtain ⟨i1,i2⟩:=Zcw f v r
  rw [show Br f v ((k,x)::r)=(if k=f then (k,v)::r else (k,x)::Br f v r) from rfl]
  by_cases hk:k=f
  ·rw [if_pos hk]
   subst hk
   exact ⟨by simp,fun g h=>by simpa using h⟩
  ·rw [if_neg hk]
   refine ⟨?_,fun g h=>?_⟩
   ·rw [Q6]
    exact Qz _ i1
   ·rw [Q6] at h ⊢
    rcases O1.mp h with e | e
    ·exact O1.mpr (.inl e)
    ·exact Qz _ (i2 g e)
theorem Zew (f:Str)(v:V):∀ fs:List (Str×V),(Br f v fs).length<=fs.length+1
 | []=>by simp [Br]
 | (k,x)::r=>by
  have ih:=Zew f v r
  rw [show Br f v ((k,x)::r)=(if k=f then (k,v)::r else (k,x)::Br f v r) from rfl]
  by_cases hk:k=f
  ·rw [if_pos hk,Ph,Ph];omega
  ·rw [if_neg hk,Ph,Ph];omega
theorem RelO.some_of {v:V}{o:Option Value}(r:RelO (some v) o):∃ u,o=some u/\RelV v u:=by
 cases o with
 | none=>exact (show False from r).elim
 | some u=>exact ⟨u,rfl,r⟩
theorem RelO.none_of {o:Option Value}(r:RelO none o):o=none:=by
 cases o with
 | none=>rfl
 | some u=>exact (show False from r).elim
theorem Zpp {v:V}{u:Value}(r:RelV v u):PySem.W.handedIn u=true:=by
 cases v with
 | non=>cases (show u=Value.none from r);rfl
 | bl b=>cases (show u=Value.bool b from r);rfl
 | int i=>obtain ⟨t,e⟩:=(show ∃ t,u=Value.int i t from r);cases e;rfl
 | str x=>obtain ⟨t,e⟩:=(show ∃ t,u=Value.str x t from r);cases e;rfl
 | byt b=>obtain ⟨t,e⟩:=(show ∃ t,u=Value.bytes b t from r);cases e;rfl
 | flt b=>obtain ⟨t,e⟩:=(show ∃ t,u=Value.float b t from r);cases e;rfl
 | ref a=>cases (show u=Value.ref a from r);rfl
 | ty n=>cases (show u=Value.type n from r);rfl
section
variable {P:Program}{w:World}{H H':Hp}{h h':Heap}{a C dx:Addr}{fs fs':List (Str×V)}
theorem Nl (hok:HOk P w H h)(e:H a=some (.ins C dx fs)):∃ mA,ObjM h a dx C mA/\(∀ f,RelO (fs.lookup f) (mA f))/\Uo mA (fs.map (·.1))/\fs.length<=1000/\H dx=some (.own a):=by
 obtain ⟨d,z,ne,ob,mA,n,r,q⟩:=(show ObjOk P w H h a (.ins C dx fs) from hok a _ e)
 exact ⟨mA,⟨ob,n,ne⟩,r,q,z,d⟩
end
structure Cls (K:On)(C:Addr):Prop where
 pg:Qd K C Rb=true
 hd:P6 K C=true
 po:Qs K C=true
 sa:Os K (.ref C) "__setattr__" = some (some (.builtin "object.__setattr__"))
theorem Cls.get {K:On}{C:Addr}(c:Cls K C)(f:Str):Qd K C f=true:=c.pg
noncomputable def NoAttr (K:On)(C:Addr)(f:Str):Prop:=Os K (.ref C) f=some none
theorem NoAttr.taker {K:On}{C:Addr}{f:Str}(n:NoAttr K C f):Vq K C f=some none:=by
 unfold Vq
 rw [show Os K (.ref C) f=some none from n]
 rfl
structure Meth (K:On)(C:Addr)(m:Str)(f:Addr):Prop where
 at_:Os K (.ref C) m=some (some (.ref f))
 fn:Rz K (.ref f)=true
 kp:O4 K (.ref f)=true
section
variable {X:Cx}{pins:List (Addr×Obj)}{σ:St}{H:Hp}{s:Shared}{a C dx:Addr}{fs:List (Str×V)}{f:Str}{v:V}{A:Around}{E:Value->Shared->Prop}
theorem Zpr {b:Bool}{Q:Value->Shared->Prop}(I:Inv X pins σ H s)(e:H a=some (.ins C dx fs))(c:Cls X.K C)(n:NoAttr X.K C f)(l:fs.lookup f=some v)
  (h:∀ u s',Inv X pins σ H s'->RelV v u->Q u s'):wpAny (model X.prog X.w) A (getAttr (.ref a) f b) Q E s:=by
 obtain ⟨mA,O,r,_,_,_⟩:=Nl I.hok e
 obtain ⟨u,hu,ru⟩:=RelO.some_of (v:=v) (o:=mA f) (by rw [<- l];exact r f)
 exact Zu4 I.kIn O (c.get f) c.hd n hu (Zpp ru) (h u _ (I.tok _) ru)
theorem Zig {m:Str}{g:Addr}{pl:Sem Bool}{Q:Value×List Value->Shared->Prop}(I:Inv X pins σ H s)(e:H a=some (.ins C dx fs))(c:Cls X.K C)(k:Meth X.K C m g)(l:fs.lookup m=none)
  (h:Q (.ref g,[.ref a]) s):wpAny (model X.prog X.w) A (getMethod (.ref a) m pl) Q E s:=by
 obtain ⟨mA,O,r,_,_,_⟩:=Nl I.hok e
 have hn:mA m=none:=RelO.none_of (by rw [<- l];exact r m)
 exact Zjo I.kIn O (c.get m) k.at_ k.fn hn h
theorem Zqr {y:V}{u:Value}{Q:Unit->Shared->Prop}(I:Inv X pins σ H s)(e:H a=some (.ins C dx fs))(c:Cls X.K C)(n:NoAttr X.K C f)(hl:fs.length < 1000)(ry:RelV y u)
  (h:∀ s',Inv X pins σ (upd H a (.ins C dx (Br f y fs))) s'->Q () s'):wpAny (model X.prog X.w) A (setAttr (.ref a) f u) Q E s:=by
 obtain ⟨mA,O,r,wi,_,ho⟩:=Nl I.hok e
 have hz:(fs.map (·.1)).length<=sizeLine:=by rw [Pl,Tq];omega
 refine Ztb I.kIn O c.sa c.po n.taker c.hd wi hz fun h' O' sb=>h _ ?_
 have hd:∃ o,h'.get? dx=some o:=let ⟨o,_,_,e',_⟩:=O'.ns;⟨o,e'⟩
 refine I.write (x:=a) (e:=dx) (by rw [e];exact True.intro) (.inr ho) (fun b q hb z=>(sb.2 b hb).trans z) hd ?_
 refine ⟨by rw [Ay O.ne];exact ho,?_,O.ne,O'.obj,_,O'.ns,fun g=>?_,fun g hg=>?_⟩
 ·have:=Zew f y fs;omega
 ·show RelO ((Br f y fs).lookup g) (if g=f then some u else mA g)
  rw [Zhg]
  by_cases q:g=f
  ·rw [if_pos q,if_pos q];exact ry
  ·rw [if_neg q,if_neg q];exact r g
 ·by_cases q:g=f
  ·rw [q];exact (Zcw f y fs).1
  ·refine (Zcw f y fs).2 g (wi g fun z=>hg ?_)
   show (if g=f then some u else mA g)=none
   rw [if_neg q];exact z
theorem Inv.made (I:Inv X pins σ H s):Inv X pins σ (upd (upd H s.heap.objs.size (.own (s.heap.objs.size+1))) (s.heap.objs.size+1) (.ins C s.heap.objs.size []))
  { s with heap:=(s.heap.push P7).push (Qf C s.heap.objs.size) }:=by
 have e1:(s.heap.push P7).get? s.heap.objs.size=some P7:=O2 s.heap rfl
 have e2:((s.heap.push P7).push (Qf C s.heap.objs.size)).get? (s.heap.objs.size+1)=some (Qf C s.heap.objs.size):=by
  have:=O2 (s.heap.push P7) (o:=Qf C s.heap.objs.size) rfl
  rwa [P9] at this
 have e3:(s.heap.push P7).Ns s.heap.objs.size (fun _=>none):=⟨P7,#[],_,e1,rfl,(fun e he=>absurd he (by simp)),fun _=>rfl⟩
 have I1:=I.laid (a:=s.heap.objs.size) (o:=.own (s.heap.objs.size+1)) (h':=s.heap.push P7) (t':=s.toks) (fun b u q=>Ot _ q) (Oq _) ⟨_,e1⟩
 refine I1.laid (a:=s.heap.objs.size+1) (o:=.ins C s.heap.objs.size []) (t':=s.toks) (fun b u q=>Ot _ q) (Nat.le_of_eq (P9 _ _)) ?_
 have ne:s.heap.objs.size≠s.heap.objs.size+1:=O5 (Tb _)
 refine ⟨by rw [Ay ne,Ag],P3 _,ne,e2,fun _=>none,(Heap.Ns1.of_empty e3).at fun o q=>Ot _ q,fun _=>True.intro,fun y hy=>absurd rfl hy⟩
theorem Zvd {prog:Program}{w:World}{env:Env}{e:Expr}{f:Str}{pos:Pos}{s:Shared}{Q:Value->Shared->Prop}(hb:attributeBase e f env (eval e env)=eval e env)
  (h:wpAny (model prog w) A (eval e env) (fun o s₁=>wpAny (model prog w) A (getAttr o f true) Q E s₁) E s):wpAny (model prog w) A (eval (.Attribute e f pos) env) Q E s :=
 Attribute_any_ h (by rw [arm_eval_Attribute,hb])
end
noncomputable def Zb1 (K:On)(ta:TE)(f:Str):TE:=fun σ H Q=>ta σ H fun x H1=>∃ a C dx fs v,x=.ref a/\H1 a=some (.ins C dx fs)/\Cls K C/\NoAttr K C f/\fs.lookup f=some v/\Q v H1
noncomputable def Zbc (K:On)(ta tv:TE)(f:Str):TS:=fun D σ H=>tv σ H fun y H1=>ta σ H1 fun x H2=>∃ a C dx fs,x=.ref a/\H2 a=some (.ins C dx fs)/\Cls K C/\NoAttr K C f/\fs.length < 1000 /\
 D.nx σ (upd H2 a (.ins C dx (Br f y fs)))
section
variable {X:Cx}{o e value:Expr}{f:Str}{pos pos' tpos:Pos}{ta tv:TE}
theorem Zvu (he:PE X e ta)(hb:attributeBase e f X.env (eval e X.env)=eval e X.env):PE X (.Attribute e f pos) (Zb1 X.K ta f):=by
 intro pins s σ H Q I h
 refine Zvd hb (Ak (he pins s σ H _ I h) fun u s1 zq=>?_)
 obtain ⟨x,H1,I1,rx,a,C,dx,fs,v,ex,ea,c,n,l,q⟩:=zq
 subst ex
 obtain rfl:u=Value.ref a:=rx
 exact Zpr I1 ea c n l fun u' s2 I2 ru=>⟨v,H1,I2,ru,q⟩
theorem Zms (ha:PE X o ta)(hv:PE X value tv)(hs:swapsWith value (some (.Attribute o f pos')) pos.line X.env=pure false):PS X (.Assign [.Attribute o f pos'] value pos) (Zbc X.K ta tv f):=by
 intro pins s σ H D I h
 refine plainObj_wpAny_Assign_Attribute (Ak (hv pins s σ H _ I h) fun u s1 zq=>?_) hs
 obtain ⟨y,H1,I1,ry,q⟩:=zq
 refine Ak (ha pins s1 σ H1 _ I1 q) fun ov s2 zq=>?_
 obtain ⟨x,H2,I2,rx,a,C,dx,fs,ex,ea,c,n,l,q2⟩:=zq
 subst ex
 obtain rfl:ov=Value.ref a:=rx
 exact Zqr I2 ea c n l ry fun s3 I3=>⟨σ,_,I3,q2⟩
end
section
variable {X:Cx}{pins:List (Addr×Obj)}{σ:St}{H:Hp}{s:Shared}{A:Around}{E:Value->Shared->Prop}{Q:Value->Shared->Prop}{c:Value}{b:Bool}
inductive D0 (K:On)(H:Hp):V->Value->Prop where
 | non:D0 K H .non (.type "NoneType")
 | bl (x:Bool):D0 K H (.bl x) (.type "bool")
 | int (i:Int):D0 K H (.int i) (.type "int")
 | str (x:Str):D0 K H (.str x) (.type "str")
 | flt (x:UInt64):D0 K H (.flt x) (.type "float")
 | lst {a:Addr} {xs:List V} (e:H a=some (.lst xs)):D0 K H (.ref a) (.type "list")
 | frz {a:Addr} {o:Obj} {xs:List V} (e:H a=some (.frz o (.lst xs))):D0 K H (.ref a) (.type "list")
 | tup {a:Addr} {xs:List V} (e:H a=some (.tup xs)):D0 K H (.ref a) (.type "tuple")
 | dK {a:Addr} {kvs:List (Bx×V)} (e:H a=some (.dK kvs)):D0 K H (.ref a) (.type "dict")
 | dT {a:Addr} {kvs:List (List Bx×V)} (e:H a=some (.dT kvs)):D0 K H (.ref a) (.type "dict")
 | ins {a C dx:Addr} {fs:List (Str×V)} (e:H a=some (.ins C dx fs)) (cl:Cls K C) (ha:Os K (.ref C) "__class__" = some (some (.builtin "object.__class__")))
   (hn:Vi K (.builtin "object.__class__") "__get__" = some (some (.builtin "getset_descriptor.__get__"))) (htk:Vr K (.builtin "object.__class__")=some true)
   (hm:Q7 K C (.type "object")=some true):D0 K H (.ref a) (.ref C)
theorem Zfg {x:V}{u t:Value}(I:Inv X pins σ H s)(rx:RelV x u)(ty:D0 X.K H x t)(e:O0 X.K t c=some b)(h:∀ tk,Q (.bool b) { s with toks:=tk }) :
  wpAny (model X.prog X.w) A (call (.builtin "isinstance") [u,c]) Q E s:=by
 cases ty with
 | non=>cases (show u=Value.none from rx);exact Po PySem.W.kitx_none I.kIn True.intro e (fun z=>nomatch z) h
 | bl y=>cases (show u=Value.bool y from rx);exact Po PySem.W.kitx_bool I.kIn True.intro e (fun z=>nomatch z) h
 | int i=>obtain ⟨t,q⟩:=(show ∃ t,u=Value.int i t from rx);cases q;exact Po PySem.W.kitx_int I.kIn True.intro e (fun z=>nomatch z) h
 | str y=>obtain ⟨t,q⟩:=(show ∃ t,u=Value.str y t from rx);cases q;exact Po PySem.W.kitx_str I.kIn True.intro e (fun z=>nomatch z) h
 | flt y=>obtain ⟨t,q⟩:=(show ∃ t,u=Value.float y t from rx);cases q;exact Po PySem.W.kitx_float I.kIn True.intro e (fun z=>nomatch z) h
 | @lst a xs ea =>
  cases (show u=Value.ref a from rx)
  obtain ⟨_,_,n,_,h1⟩:=(show ObjOk X.prog X.w H s.heap a (.lst xs) from I.hok a _ ea)
  exact Po T8 I.kIn ⟨_,h1,rfl⟩ e (fun z=>nomatch z) h
 | @frz a ob xs ea =>
  cases (show u=Value.ref a from rx)
  obtain ⟨_,_,_,n,_,h1⟩:=(show ObjOk X.prog X.w H s.heap a (.frz ob (.lst xs)) from I.hok a _ ea)
  exact Po T8 I.kIn ⟨_,h1,rfl⟩ e (fun z=>nomatch z) h
 | @tup a xs ea =>
  cases (show u=Value.ref a from rx)
  obtain ⟨_,_,_,p⟩:=(show ObjOk X.prog X.w H s.heap a (.tup xs) from I.hok a _ ea)
  obtain ⟨o,h1,h2,_⟩:=p
  exact Po Ve I.kIn ⟨o,h1,h2⟩ e (fun z=>nomatch z) h
 | @dK a kvs ea =>
  cases (show u=Value.ref a from rx)
  obtain ⟨_,_,vs,_,p⟩:=(show ObjOk X.prog X.w H s.heap a (.dK kvs) from I.hok a _ ea)
  obtain ⟨o,es,ep,h1,h2,_⟩:=p
  exact Po PySem.W.kitx_dict I.kIn ⟨o,h1,h2.1⟩ e (fun z=>nomatch z) h
 | @dT a kvs ea =>
  cases (show u=Value.ref a from rx)
  obtain ⟨_,_,xs,_,o,es,ep,h1,h2,_⟩:=(show ObjOk X.prog X.w H s.heap a (.dT kvs) from I.hok a _ ea)
  exact Po PySem.W.kitx_dict I.kIn ⟨o,h1,h2.1⟩ e (fun z=>nomatch z) h
 | @ins a C dx fs ea cl ha hn htk hm =>
  cases (show u=Value.ref a from rx)
  obtain ⟨mA,O,_⟩:=Nl I.hok ea
  obtain ⟨od,J,_⟩:=O.look
  exact Po (PySem.W.kitx_own (cl.get _) cl.hd ha hn htk hm) I.kIn J e (fun z=>nomatch z) h
end
structure Room (k:Nat)(A:Around):Prop where
 hd:A.handled=none
 dp:A.depth+3 * k+5 < recursionLimit
 un:A.units+16 * k+200 < cLine
theorem Room.mono {j k:Nat}{A:Around}(r:Room k A)(h:j<=k):Room j A:=⟨r.hd,by have:=r.dp;omega,by have:=r.un;omega⟩
theorem Room.deeper {k:Nat}{A:Around}(r:Room (k+1) A)(env:Env):Room k (A.deeper env) :=
 ⟨r.hd,by have:=r.dp;show A.depth+1+3 * k+5 < _;omega,by have:=r.un;show A.units+3+16 * k+200 < _;omega⟩
theorem Zu0 {A:Around}{C:Addr}{us:List Value}{kw:List (Str×Value)}:(A.under (.builtin "type.__call__" ⟨.ref C::us,kw⟩)).depth=A.depth+1:=by
 first | rfl | simp [Around.under,Code.weight,Code.isCreation,Code.isGuard,Code.isCaller,Code.frames,Code.isFrame,guardIds]
theorem Zv1 {A:Around}{C:Addr}{us:List Value}{kw:List (Str×Value)}:(A.under (.builtin "type.__call__" ⟨.ref C::us,kw⟩)).units=A.units+1:=by
 first | rfl | simp [Around.under,Code.cUnits,Code.frames,Code.isFrame]
theorem Room.make {k:Nat}{A:Around}(r:Room (k+1) A)(C:Addr)(us:List Value)(kw:List (Str×Value)):Room k (A.under (.builtin "type.__call__" ⟨.ref C::us,kw⟩)) :=
 ⟨r.hd,by have:=r.dp;rw [Zu0];omega,by have:=r.un;rw [Zv1];omega⟩
theorem Room.depth {k:Nat}{A:Around}(r:Room k A):A.depth < recursionLimit:=by have:=r.dp;omega
noncomputable def C2:TA:=fun _ H Q=>Q [] H
noncomputable def B9 (ta:TE)(tr:TA):TA:=fun σ H Q=>ta σ H fun x H1=>tr σ H1 fun xs H2=>Q (x::xs) H2
section
variable {X:Cx}{e:Expr}{es:List Expr}{te:TE}{t:TA}{pos:Pos}
theorem Zgf:PA X [] C2:=fun _ _ _ _ H Q I h=>T9 ⟨[],H,I,.nil,h⟩
theorem Zes (ha:PE X e te)(hr:PA X es t)(hs:starEach (e::es) X.env=(false,eval e X.env)::starEach es X.env:=by rfl):PA X (e::es) (B9 te t):=by
 intro pos pins s σ H Q I h
 rw [hs]
 show wpAny _ _ (spliced ((false,eval e X.env)::backTo pos (starEach es X.env))) _ _ s
 refine T6 (Ak (ha pins s σ H _ I h) fun u s1 zq=>?_)
 obtain ⟨x,H1,I1,r1,q1⟩:=zq
 exact Ak (hr pos pins s1 σ H1 _ I1 q1) fun us s2 ⟨xs,H2,I2,r2,q2⟩=>⟨x::xs,H2,I2,.cons r1 r2,q2⟩
noncomputable def Gf (t:TA):TE:=fun σ H Q=>t σ H fun xs H1=>xs.length<=sizeLine/\∀ p,H1 p=none->Q (.ref p) (upd H1 p (.tup xs))
noncomputable def Zay (t:TA):TE:=fun σ H Q=>t σ H fun xs H1=>xs.length<=sizeLine/\∀ p,H1 p=none->Q (.ref p) (upd H1 p (.lst xs))
theorem Zuw {x1}(h:PA X es t):PE X (.Tuple es x1 pos) (Gf t):=by
 intro pins s σ H Q I hq
 refine wpAny_Tuple_spliced (Ak (h pos pins s σ H _ I hq) fun us s1 ⟨xs,H1,I1,r,z,q⟩=>⟨by rw [<- r.length];exact z,?_⟩)
 have hf:H1 s1.heap.objs.size=none:=I1.hok.fresh (Oq _)
 refine ⟨.ref s1.heap.objs.size,upd H1 s1.heap.objs.size (.tup xs),I1.laid (t':=s1.toks) (fun b u e=>Ot _ e) (Oq _) ?_,rfl,q _ hf⟩
 exact ⟨z,us,r,⟨_,O2 _ rfl,rfl,_,rfl⟩⟩
theorem Zu8 (h:PA X es t):PE X (.List es pos) (Zay t):=by
 intro pins s σ H Q I hq
 refine wpAny_List_spliced (Ak (h pos pins s σ H _ I hq) fun us s1 ⟨xs,H1,I1,r,z,q⟩=>⟨by rw [<- r.length];exact z,?_⟩)
 have hf:H1 s1.heap.objs.size=none:=I1.hok.fresh (Oq _)
 refine ⟨.ref s1.heap.objs.size,upd H1 s1.heap.objs.size (.lst xs),I1.laid (t':=s1.toks) (fun b u e=>Ot _ e) (Oq _) ?_,rfl,q _ hf⟩
 exact ⟨z,us,0,r,O2 _ rfl⟩
end
noncomputable abbrev Sp:=List V->Hp->VK->XK->Prop
noncomputable abbrev B2:=List Env->Hp->Shared->XK->Value->Shared->Prop
structure Env0 (P:Program)(w:World)(K:On)(mg:Str->Option Value)(base:Heap)(A:Around)(outer:List Env)(s:Shared)(H:Hp):Prop where
 frames:A.frames=some outer
 mod:Mod K mg base
 bs:∀ b o,base.get? b=some o->s.heap.get? b=some o/\H b=none
 bsz:base.objs.size<=s.heap.objs.size
 funs:s.heap.FunFrames base outer
 frf:∀ b∈Bd outer,H b=none
 hok:HOk P w H s.heap
 bare:AllBare s.gens
noncomputable def CE (outer:List Env)(P:Program)(w:World)(H:Hp)(s:Shared)(Q:VK)(u:Value)(s':Shared):Prop :=
 ∃ v H',s'.os=s.os/\AllBare s'.gens/\Un (Bd outer) [] H H' s.heap s'.heap/\HOk P w H' s'.heap/\RelV v u/\Q v H'
noncomputable def CR (CX:B2)(outer:List Env)(P:Program)(w:World)(H:Hp)(s:Shared)(Q:VK)(E:XK)(r:Result)(s':Shared):Prop :=
 match r with
 | .ok (.ret u)=>CE outer P w H s Q u s'
 | .ok _=>False
 | .error e=>CX outer H s E e s'
structure FnOk (P:Program)(w:World)(K:On)(mg:Str->Option Value)(base:Heap)(CX:B2)(k:Nat)(f:Addr)(fd:FuncData)(ps:List Str)(sp:Sp):Prop where
 len:∀ vs H Q E,sp vs H Q E->vs.length=ps.length
 run:∀(A:Around)(outer:List Env)(s:Shared)(H:Hp)(args:Args)(us:List Value)(vs:List V)(Q:VK)(E:XK),Room k A->Env0 P w K mg base A outer s H->BindsTo s fd args (ps.zip us)->Vals vs us->sp vs H Q E ->
  codeAny (model P w) A (.call (.ref f) args) (CR CX outer P w H s Q E) s
theorem FnOk.imp {P:Program}{w:World}{K:On}{mg:Str->Option Value}{base:Heap}{CX:B2}{k:Nat}{f:Addr}{fd:FuncData}{ps:List Str}{sp sp':Sp}(F:FnOk P w K mg base CX k f fd ps sp)
  (h:∀ vs H Q E,sp' vs H Q E->sp vs H Q E):FnOk P w K mg base CX k f fd ps sp' :=
 ⟨fun vs H Q E q=>F.len vs H Q E (h _ _ _ _ q),fun A outer s H args us vs Q E hr he hb hv hs=>F.run A outer s H args us vs Q E hr he hb hv (h _ _ _ _ hs)⟩
theorem Env0.make {P:Program}{w:World}{K:On}{mg:Str->Option Value}{base:Heap}{A:Around}{outer:List Env}{s:Shared}{H:Hp}(e:Env0 P w K mg base A outer s H)(C:Addr)(us:List Value)(kw:List (Str×Value)) :
  Env0 P w K mg base (A.under (.builtin "type.__call__" ⟨.ref C::us,kw⟩)) outer s H:=⟨by first | exact e.frames | (simpa [Around.under,Code.envs,Code.isFrame,pushEnvs] using e.frames),e.mod,e.bs,e.bsz,e.funs,e.frf,e.hok,e.bare⟩
section
variable {X:Cx}{pins:List (Addr×Obj)}{σ:St}{H:Hp}{s s':Shared}
theorem Inv.env0 (I:Inv X pins σ H s):Env0 X.prog X.w X.K X.mg X.base X.A X.stack s H :=
 ⟨I.ok.frames,I.ok.mod,I.bs,Pp I.ok.bsz I.sz,I.stack,I.stkFree,I.hok,I.bare⟩
theorem Inv.after {Q:VK}{u:Value}(I:Inv X pins σ H s)(h:CE X.stack X.prog X.w H s Q u s'):EP X pins σ Q u s':=by
 obtain ⟨v,H',os,bare,un,hok,r,q⟩:=h
 obtain ⟨hh,g,d,t,os'⟩:=s'
 obtain rfl:os'=s.os:=os
 exact ⟨v,H',I.call (h':=hh) (g':=g) (d':=d) (t':=t) (ch:=[]) un hok bare (fun b z=>absurd z (by simp)),r,q⟩
end
noncomputable def Ex (sp:Sp)(dvs:List V)(E:XK)(t:TA):TE:=fun σ H Q=>t σ H fun vs H1=>sp (vs++dvs) H1 Q E
noncomputable def Binds (K:On)(fd:FuncData)(ps:List Str)(ds:List Value):Prop :=
 ∀(s:Shared)(us:List Value),K.In s.heap->(us++ds).length=ps.length->BindsTo s fd ⟨us,[]⟩ (ps.zip (us++ds))
theorem Binds.all {K:On}{fd:FuncData}{ps:List Str}(h:∀ us:List Value,us.length=ps.length->bindArgs fd ⟨us,[]⟩=pure (ps.zip us)):Binds K fd ps []:=fun s us _ hl=>by
 rw [Qt] at hl ⊢
 exact .of_eq (h us hl)
noncomputable def E7 (CX:B2)(X:Cx)(E:XK):Prop:=∀(pins:List (Addr×Obj))(σ:St)(H:Hp)(s:Shared)(e:Value)(s':Shared),Inv X pins σ H s->CX X.stack H s E e s'->X.xe e s'
section
variable {X:Cx}{CX:B2}{k:Nat}{f C:Addr}{fd:FuncData}{ps:List Str}{sp:Sp}{dvs:List V}{ds:List Value}{E:XK}{x m:Str}{p pos apos:Pos}{e o:Expr}{es:List Expr}{ta:TE}{t:TA}
theorem Zhb {pins:List (Addr×Obj)}{σ:St}{H:Hp}{s:Shared}{Q:VK}{us:List Value}{vs:List V}(F:FnOk X.prog X.w X.K X.mg X.base CX k f fd ps sp)(hr:Room k X.A)(hb:Binds X.K fd ps ds)(hd:Vals dvs ds)(hx:E7 CX X E)
  (I:Inv X pins σ H s) (r:Vals vs us) (h:sp (vs++dvs) H Q E):wpAny (model X.prog X.w) X.A (call (.ref f) us) (EP X pins σ Q) X.xe s:=by
 have r2:Vals (vs++dvs) (us++ds):=r.append hd
 have hl:(us++ds).length=ps.length:=by rw [<- r2.length];exact F.len _ _ _ _ h
 refine Rr (Rp (F.run X.A X.stack s H ⟨us,[]⟩ (us++ds) (vs++dvs) Q E hr I.env0 (hb s us I.kIn hl) r2 h) fun r s' hq=>?_)
 cases r with
 | error e=>exact hx pins σ H s e s' I hq
 | ok fl =>
  cases fl with
  | ret u=>exact I.after hq
  | next=>exact O8 hq
  | brk=>exact O8 hq
  | cont=>exact O8 hq
theorem Zhw (F:FnOk X.prog X.w X.K X.mg X.base CX k f fd ps sp)(hr:Room k X.A)(hg:Gl X x)(hm:X.mg x=some (.ref f))(hk:O4 X.K (.ref f)=true)(hb:Binds X.K fd ps ds)(hd:Vals dvs ds)(hx:E7 CX X E)
  (ha:PA X (e::es) t) (hdb:(x == ("__debug__" : Str))=false:=by decide) (he:starEach (e::es) X.env=(false,eval e X.env)::starEach es X.env:=by rfl) (hpl:(backTo pos (starEach es X.env)).any (·.1)=false:=by rfl) :
  PE X (.Call (.Name x p) (e::es) [] pos) (Ex sp dvs E t):=by
 intro pins s σ H Q I h
 refine Rj (Fp I hg hm ?_ hdb)
 refine Sv (h₀:=X.base) I.ok.mod.kin hk (Ak (ha pos pins s σ H _ I h) fun us s1 zq=>?_) he hpl
 obtain ⟨vs,H1,I1,r,q⟩:=zq
 refine ⟨I1.kIn,?_⟩
 exact Zhb F hr hb hd hx I1 r q
structure Mk (K:On)(C f:Addr):Prop where
 makes:P8 K C=true
 init:Os K (.ref C) "__init__" = some (some (.ref f))
 fn:Rz K (.ref f)=true
 kp:O4 K (.ref C)=true
theorem Zkx {pins:List (Addr×Obj)}{σ:St}{H:Hp}{s:Shared}{Q:VK}{us:List Value}{vs:List V}(M:Mk X.K C f)(F:FnOk X.prog X.w X.K X.mg X.base CX k f fd ps sp)(hr:Room (k+1) X.A)(hb:Binds X.K fd ps ds)(hd:Vals dvs ds)
  (hx:E7 CX X E) (I:Inv X pins σ H s) (r:Vals vs us)
  (h:∀ x dx,H x=none->H dx=none->dx≠x->sp (.ref x::(vs++dvs)) (upd (upd H dx (.own x)) x (.ins C dx [])) (fun v H2=>v=.non/\Q (.ref x) H2) E) :
  wpAny (model X.prog X.w) X.A (call (.ref C) us) (EP X pins σ Q) X.xe s:=by
 have hq:=h (s.heap.objs.size+1) s.heap.objs.size (I.hok.fresh (Us _)) (I.hok.fresh (Oq _)) (O5 (Tb _))
 have I2:=Inv.made (C:=C) I
 have r2:Vals (V.ref (s.heap.objs.size+1)::(vs++dvs)) (Value.ref (s.heap.objs.size+1)::(us++ds)):=.cons rfl (r.append hd)
 have hl:(Value.ref (s.heap.objs.size+1)::us++ds).length=ps.length:=by
  have e:=r2.length
  rw [F.len _ _ _ _ hq] at e
  exact e.symm
 refine Rr (Zex (f:=f) I.kIn M.makes M.init (beq_iff_eq.mp M.fn) (Rp (F.run _ X.stack _ _ ⟨Value.ref (s.heap.objs.size+1)::us,[]⟩ (Value.ref (s.heap.objs.size+1)::(us++ds)) _ _ E (hr.make C us [])
  (I2.env0.make C us []) (hb _ (Value.ref (s.heap.objs.size+1)::us) I2.kIn hl) r2 hq) fun r s' hq'=>?_))
 cases r with
 | error e=>exact hx pins σ _ _ e s' I2 hq'
 | ok fl =>
  cases fl with
  | ret u =>
   obtain ⟨v,H',I3,rv,ev,q3⟩:=I2.after hq'
   subst ev
   exact ⟨rv,⟨V.ref (s.heap.objs.size+1),H',I3,rfl,q3⟩⟩
  | next=>exact O8 hq'
  | brk=>exact O8 hq'
  | cont=>exact O8 hq'
end
noncomputable def PK (X:Cx)(kws:List Keyword)(t:TA):Prop :=
 ∀(pos:Pos)(pins:List (Addr×Obj))(s:Shared)(σ:St)(H:Hp)(Q:List V->Hp->Prop),Inv X pins σ H s->t σ H Q->wpAny (model X.prog X.w) X.A (evalAll ((backToKw pos (keywordEach kws X.env)).map (·.2))) (AP X pins σ Q) X.xe s
section
variable {X:Cx}{CX:B2}{k:Nat}{f C:Addr}{fd:FuncData}{ps ks:List Str}{sp:Sp}{E:XK}{x m:Str}{p pos apos kpos:Pos}{e o:Expr}{es:List Expr}{kws:List Keyword}{te ta:TE}{t tk:TA}{nm:Option Str}
theorem Zvj:PK X [] C2:=fun _ _ _ _ H Q I h=>wpAny_evalAll_nil ⟨[],H,I,.nil,h⟩
theorem Zra (ha:PE X e te)(hr:PK X kws t):PK X (⟨nm,e,kpos⟩::kws) (B9 te t):=by
 intro pos pins s σ H Q I h
 show wpAny _ _ (evalAll ((do let v <- eval e X.env;standAt pos;pure v)::(backToKw pos (keywordEach kws X.env)).map (·.2))) _ _ s
 refine wpAny_evalAll_cons (Oo (Ak (ha pins s σ H _ I h) fun u s1 zq=>?_))
 obtain ⟨x,H1,I1,r1,q1⟩:=zq
 refine Oo (Ul (Op ?_))
 exact Ak (hr pos pins s1 σ H1 _ I1 q1) fun us s2 ⟨xs,H2,I2,r2,q2⟩=>⟨x::xs,H2,I2,.cons r1 r2,q2⟩
structure El (K:On)(fd:FuncData)(ps ks:List Str)(g:List Value->List Value->List Value)(gV:List V->List V->List V):Prop where
 to:∀(s:Shared)(us ws:List Value),K.In s.heap->(g us ws).length=ps.length->BindsTo s fd ⟨us,ks.zip ws⟩ (ps.zip (g us ws))
 rel:∀{vs:List V}{us:List Value}{zs:List V}{ws:List Value},Vals vs us->Vals zs ws->Vals (gV vs zs) (g us ws)
variable {g:List Value->List Value->List Value}{gV:List V->List V->List V}
end
structure Aw (N P:List Str)(sc:Scope):Prop where
 kind:sc.kind=.function
 co:sc.isCoroutine=false
 gen:sc.isGenerator=false
 nd:N.Nodup
 pre:N.take P.length=P
 par:∀ x∈P,sc.names.lookup x=some .local\/sc.names.lookup x=some .cell
 nofree:∀ y∈sc.names,y.2≠.free
theorem Zh9 {kindOf:Str->Option NameKind}{x:Str}:∀{binds:List (Str×Value)}{m:Str->Option Value},(∀ v,(x,v) ∉ binds)->bindL kindOf binds m x=m x
 | [],_,_=>rfl
 | (n,v)::r,m,h=>by
  unfold bindL
  rw [Zh9 fun w hw=>h w (Qz _ hw)]
  split
  ·have:x≠n:=by rintro rfl;exact h v Su
   simp [this]
  ·rfl
theorem Zf0 {kindOf:Str->Option NameKind}{x:Str}:∀{binds:List (Str×Value)}{m:Str->Option Value},(∀ v,(x,v) ∉ binds)->bindC kindOf binds m x=m x
 | [],_,_=>rfl
 | (n,v)::r,m,h=>by
  unfold bindC
  rw [Zf0 fun w hw=>h w (Qz _ hw)]
  split
  ·rfl
  ·have:x≠n:=by rintro rfl;exact h v Su
   simp [this]
theorem Ze3 {kindOf:Str->Option NameKind}{x:Str}{v:Value}:∀{P:List Str}{vs:List Value}{i:Nat}{m:Str->Option Value},P.Nodup->P[i]?=some x->vs[i]?=some v->kindOf x=some .local ->
  bindL kindOf (P.zip vs) m x=some v
 | [],_,_,_,_,h,_,_=>by simp at h
 | _::_,[],_,_,_,_,h,_=>by simp at h
 | p::P,w::vs,0,m,nd,h1,h2,hk=>by
  simp at h1 h2;subst h1;subst h2
  show bindL kindOf ((p,w)::P.zip vs) m p=_
  unfold bindL
  rw [Zh9 fun v hv=>(Tf.mp nd).1 (Ub hv).1,if_pos hk]
  simp
 | p::P,w::vs,i+1,m,nd,h1,h2,hk=>by
  show bindL kindOf ((p,w)::P.zip vs) m x=_
  unfold bindL
  exact Ze3 (i:=i) (Tf.mp nd).2 (by simpa using h1) (by simpa using h2) hk
theorem Zik {kindOf:Str->Option NameKind}{x:Str}{v:Value}:∀{P:List Str}{vs:List Value}{i:Nat}{m:Str->Option Value},P.Nodup->P[i]?=some x->vs[i]?=some v->kindOf x≠some .local ->
  bindC kindOf (P.zip vs) m x=some v
 | [],_,_,_,_,h,_,_=>by simp at h
 | _::_,[],_,_,_,_,h,_=>by simp at h
 | p::P,w::vs,0,m,nd,h1,h2,hk=>by
  simp at h1 h2;subst h1;subst h2
  show bindC kindOf ((p,w)::P.zip vs) m p=_
  unfold bindC
  rw [Zf0 fun v hv=>(Tf.mp nd).1 (Ub hv).1,if_neg hk]
  simp
 | p::P,w::vs,i+1,m,nd,h1,h2,hk=>by
  show bindC kindOf ((p,w)::P.zip vs) m x=_
  unfold bindC
  exact Zik (i:=i) (Tf.mp nd).2 (by simpa using h1) (by simpa using h2) hk
noncomputable def start (N:List Str)(vs:List V):St:=vs.map some++Oy (N.length - vs.length) none
noncomputable def Cp (CX:B2)(P:Program)(w:World)(K:On)(mg:Str->Option Value)(base:Heap)(N:List Str)(qual:Str)(scope:Scope)(f:Addr)(cd:Value)(A:Around)(outer:List Env)(s:Shared)(H:Hp)(E:XK):Cx where
 prog:=P
 w:=w
 K:=K
 mg:=mg
 base:=base
 A:=A.deeper (envOfC qual scope s.heap.objs.size f cd)
 N:=N
 s₀:=s
 H₀:=H
 env:=envOfC qual scope s.heap.objs.size f cd
 outer:=outer
 stack:=envOfC qual scope s.heap.objs.size f cd::outer
 ex:=[]
 calm:=true
 fn:=fun _=>true
 pn:=[]
 xe:=fun e s'=>wpAny (model P w) (A.deeper (envOfC qual scope s.heap.objs.size f cd)) (leaving (envOfC qual scope s.heap.objs.size f cd) e) (fun _ s''=>CX outer H s E e s'') (fun e' s''=>CX outer H s E e' s'') s'
theorem Za9 {sc:Scope}{n:Nat}{x:Str}(h:sc.names.lookup x=some .cell):∃ c,(cellsFrom n sc.names []).lookup x=some c:=by
 have q:=U4 sc.names n [] (.inl h)
 exact Rs.mp q
theorem Zfa {CX:B2}{P:Program}{w:World}{K:On}{mg:Str->Option Value}{base:Heap}{N ps:List Str}{qual:Str}{scope:Scope}{f:Addr}{cd:Value}{A:Around}{outer:List Env}{s s1:Shared}{H:Hp}{E:XK}{us:List Value}{vs:List V}
  (S:Aw N ps scope) (hd:A.handled=none) (e0:Env0 P w K mg base A outer s H) (hl:vs.length=ps.length) (r:Vals vs us)
  (x:InCallC s s.heap.objs.size (bindL (envOfC qual scope s.heap.objs.size f cd).kindOf (ps.zip us) fun _=>none) (cellsFrom (s.heap.objs.size+1) scope.names []) (bindC (envOfC qual scope s.heap.objs.size f cd).kindOf (ps.zip us) fun _=>none) s1) :
  Inv (Cp CX P w K mg base N qual scope f cd A outer s H E) [] (start N vs) H s1:=by
 have hpl:ps.length<=N.length:=by have:=congrArg List.length S.pre;rw [Qe] at this;omega
 obtain ⟨h1,tk,rfl,hk⟩:=x.done
 have noA:∀ b:Addr,b ∉ (Cp CX P w K mg base N qual scope f cd A outer s H E).ex:=fun b z=>absurd (show b∈([]:List Addr) from z) (by simp)
 refine ⟨⟨e0.mod,S.kind,rfl,rfl,Oq _,fun y z c h1 h2=>?_,fun y hy=>?_,fun y c _ h=>?_,fun _=>hd,Around.frames_deeper e0.frames,.inr ⟨rfl,rfl⟩,fun b z=>absurd z (noA b),e0.bs,e0.bsz,fun b _ _=>noA b,fun b z=>absurd z (noA b),e0.funs,e0.frf⟩,
  rfl,e0.bare,Un.kept hk,⟨_,x.toInCall.ns,fun i y v h1 h2 h3=>?_⟩,fun y c h=>⟨_,x.cell y c h⟩,e0.hok.fresh (Oq _),fun y c h=>?_,fun p hp=>absurd (show p∈([]:List (Addr×Obj)) from hp) (by simp),e0.hok.kept hk,?_⟩
 ·exact name_of_addr x.apart (Ru h1) (Ru h2)
 ·have hy:scope.names.lookup y=some .cell\/scope.names.lookup y=some .free:=hy
  rcases hy with hy | hy
  ·exact Za9 hy
  ·exact absurd rfl (S.nofree _ (Ru hy))
 ·exact Nat.le_of_lt (x.above y c (Ru h))
 ·have hi:i < vs.length:=by
   unfold start at h2
   by_cases hi:i < vs.length
   ·exact hi
   ·rw [Re (by simpa using hi)] at h2
    rw [List.getElem?_replicate] at h2
    split at h2 <;> cases h2
  have ha:vs[i]?=some v:=by
   unfold start at h2
   rw [Qv (by simpa using hi),R9] at h2
   cases e:vs[i]? with
   | none=>rw [e] at h2;cases h2
   | some a=>rw [e] at h2;cases h2;rfl
  obtain ⟨u,hu,rv⟩:=r.get ha
  have hp:ps[i]?=some y:=by
   rw [<- S.pre,List.getElem?_take_of_lt (by omega)];exact h1
  have ndP:ps.Nodup:=by rw [<- S.pre];exact S.nd.sublist (List.take_sublist _ _)
  refine ⟨u,rv,?_⟩
  rcases S.par y (Pd hp) with k | k
  ·exact .inl ⟨k,Ze3 ndP hp hu k⟩
  ·obtain ⟨c,e⟩:=Za9 (n:=s.heap.objs.size+1) k
   refine .inr ⟨.inl k,c,e,?_⟩
   have q:=x.cell y c e
   rw [Zik ndP hp hu (by show scope.names.lookup y≠_;rw [k];decide)] at q
   exact q
 ·exact e0.hok.fresh (Nat.le_of_lt (x.above y c (Ru h)))
 ·unfold start
  show _=N.length
  rw [Pb,Pl,P4]
  omega
theorem Zbh {CX:B2}{P:Program}{w:World}{K:On}{mg:Str->Option Value}{base:Heap}{k:Nat}{f:Addr}{name qual:Str}{params:Arguments}{body:List Stmt}{scope:Scope}{dV kV doc pm cdv ct oc:Value}{an od:Option Addr}
  {osl:Array (Option Value)} {N ps:List Str} {sp:Sp} (lk:K.lookup f=some ⟨oc,od,.func (O6 name qual params body scope dV kV doc pm an cdv ct),osl⟩) (hcd:Q5 K cdv qual=true) (S:Aw N ps scope)
  (len:∀ vs H Q E,sp vs H Q E->vs.length=ps.length)
  (hbody:∀(A:Around)(outer:List Env)(s:Shared)(H:Hp)(vs:List V)(Q:VK)(E:XK),Room k (A.deeper (envOfC qual scope s.heap.objs.size f cdv))->sp vs H Q E ->
   ∃ t,PSs (Cp CX P w K mg base N qual scope f cdv A outer s H E) body t/\t { nx:=fun _ H'=>Q .non H',rt:=Q } (start N vs) H) :
  FnOk P w K mg base CX (k+1) f (O6 name qual params body scope dV kV doc pm an cdv ct) ps sp:=by
 refine ⟨len,fun A outer s H args us vs Q E hr e0 hb r hsp=>?_⟩
 have hl:=len _ _ _ _ hsp
 have KX:K.In s.heap:=e0.mod.kin.keeps fun b o e=>(e0.bs b o e).1
 have lim:s.heap.NoLimit:=e0.mod.nolimit.keeps fun b o e=>(e0.bs b o e).1
 have hkind:∀ y∈ps.zip us,scope.names.lookup y.1=some .local\/(scope.names.lookup y.1=some .cell/\((cellsFrom (s.heap.objs.size+1) scope.names []).lookup y.1).isSome=true):=fun ⟨n,v⟩ hy=>by
  rcases S.par n (Ub hy).1 with q | q
  ·exact .inl q
  ·exact .inr ⟨q,U4 _ _ _ (.inl q)⟩
 refine codeAny_call_function hr.depth (KX _ _ lk) rfl S.co S.gen rfl (PySem.W.codeRec_of KX hcd) (hb _ _ _ _ ?_)
 refine wpAny_newFunctionEnv_cells S.kind hkind fun env he s1 x=>?_
 subst he
 refine ⟨lim.keeps x.toInCall.keep,codeAny_func ?_⟩
 obtain ⟨t,ht,hq⟩:=hbody A outer s H vs Q E (hr.deeper _) hsp
 have I:Inv (Cp CX P w K mg base N qual scope f cdv A outer s H E) [] (start N vs) H s1:=Zfa S hr.hd e0 hl r x
 refine Rq (ht [] s1 (start N vs) H _ I hq) (fun fl s' hs=>?_) fun e s' hs=>hs
 have fin:∀{σ':St}{H':Hp}{v:V}{u:Value},Inv (Cp CX P w K mg base N qual scope f cdv A outer s H E) [] σ' H' s'->RelV v u->Q v H'->CE outer P w H s Q u s' :=
  fun {σ' H' v u} J rv q=>⟨v,H',J.os,J.bare,J.base,J.hok,rv,q⟩
 cases fl with
 | ret u =>
  obtain ⟨v,σ',H',J,rv,q⟩:=hs
  exact fin J rv q
 | next =>
  obtain ⟨σ',H',J,q⟩:=hs
  exact fin (v:=V.non) (u:=Value.none) J rfl q
 | brk =>
  obtain ⟨_,_,_,q⟩:=hs
  exact O8 q
 | cont =>
  obtain ⟨_,_,_,q⟩:=hs
  exact O8 q
section
variable {X:Cx}{x:Str}{p pos:Pos}{e:Expr}{es:List Expr}{t:TA}{id T:String}{r:List V->Hp->VK->Prop}
noncomputable def Gc (r:List V->Hp->VK->Prop)(t:TA):TE:=fun σ H Q=>t σ H fun vs H1=>r vs H1 Q
theorem Ztd (hc:B4 X (.builtin id) r)(hg:Gl X x)(hm:X.mg x=none)(hv:bootBuiltins x=some (.builtin id))(ha:PA X (e::es) t)(hn:x ≠ "__name__" := by decide)(hdb:(x == ("__debug__" : Str))=false:=by decide)
  (he:starEach (e::es) X.env=(false,eval e X.env)::starEach es X.env:=by rfl) (hpl:(backTo pos (starEach es X.env)).any (·.1)=false:=by rfl):PE X (.Call (.Name x p) (e::es) [] pos) (Gc r t):=by
 intro pins s σ H Q I h
 refine Rj (Ed I hg hm hv ?_ hn hdb)
 exact PyProof.Rows.callWith_builtin1 (Ak (ha pos pins s σ H _ I h) fun us s1 ⟨vs,H1,I1,r1,q1⟩=>hc pins s1 σ H1 vs us Q I1 r1 q1) he hpl
theorem Zsl (hc:B4 X (.type T) r)(hg:Gl X x)(hm:X.mg x=none)(hv:bootBuiltins x=some (.type T))(ha:PA X (e::es) t)(hn:x ≠ "__name__" := by decide)(hdb:(x == ("__debug__" : Str))=false:=by decide)
  (he:starEach (e::es) X.env=(false,eval e X.env)::starEach es X.env:=by rfl) (hpl:(backTo pos (starEach es X.env)).any (·.1)=false:=by rfl):PE X (.Call (.Name x p) (e::es) [] pos) (Gc r t):=by
 intro pins s σ H Q I h
 refine Rj (Ed I hg hm hv ?_ hn hdb)
 exact Qp (Ak (ha pos pins s σ H _ I h) fun us s1 ⟨vs,H1,I1,r1,q1⟩=>hc pins s1 σ H1 vs us Q I1 r1 q1) he hpl
end
end L2
namespace HT
open PySem PyProof.Rows
section
open PySem.SeqAt
open PySem.AutoSeq1 (wpAny_loadPart')
open PySem.MeetsSeq PySem.MeetsSeq2 PySem.MeetsSeq3
end
section
variable {prog:Program}{w:World}{A:Around}{E:Value->Shared->Prop}{s:Shared}
theorem cat_tup {t b:Addr}{vs ws:List Value}{Q:Value->Shared->Prop}(ht:IsTup s.heap t vs.toArray)(hb:IsTup s.heap b ws.toArray)(hv:vs≠[])
  (h1:ws=[]->Q (.ref t) s) (h2:ws≠[]->Q (.ref s.heap.objs.size) { s with heap:=s.heap.push { cls:=.type "tuple",data:=.seq (vs++ws).toArray } })
  (hsz:vs.length+ws.length<=sizeLine):wpAny (model prog w) A (binaryOp .Add (.ref t) (.ref b)) Q E s:=by
 obtain ⟨⟨cls,dd,data,sl⟩,ho,hc,n,hd⟩:=id ht
 obtain ⟨⟨cls2,dd2,data2,sl2⟩,ho2,hc2,n2,hd2⟩:=id hb
 simp only at hc hd hc2 hd2
 subst hc hd hc2 hd2
 have e:vs.toArray++ws.toArray=(vs++ws).toArray:=by simp
 by_cases hw:ws=[]
 ·exact concat_meets ⟨_,ho,rfl⟩ ⟨_,ho2,rfl⟩ Vn seq_tuple_add U5 U1 (Uz _ _)
   (tuple_addW1 t b vs.toArray ws.toArray n n2 dd dd2 sl sl2 (by simpa using hv) (by simp [hw])) ⟨ho,ho2,h1 hw⟩
 ·refine concat_meets ⟨_,ho,rfl⟩ ⟨_,ho2,rfl⟩ Vn seq_tuple_add U5 U1 (Uz _ _)
   (tuple_addW2 t b vs.toArray ws.toArray n n2 dd dd2 sl sl2 (by simpa using hv) (by simpa using hw) (by rw [Ou,Ou];exact hsz)) ⟨ho,ho2,?_⟩
  rw [e]
  exact h2 hw
noncomputable def sIx (n d:Nat):Option Int->Nat
 | none=>d
 | some v=>if v < 0 then (v+(n:Int)).toNat else min v.toNat n
theorem sIx_none (n d:Nat):sIx n d none=d:=rfl
theorem sIx_nat (n d k:Nat):sIx n d (some (k:Int))=min k n:=by
 show (if (k:Int) < 0 then ((k:Int)+(n:Int)).toNat else min (k:Int).toNat n)=min k n
 rw [if_neg (by omega),Sx]
theorem Zsa (n d:Nat)(hd:d<=n)(o:Option Int):sIx n d o<=n:=by
 cases o with
 | none=>exact hd
 | some v =>
  show (if v < 0 then (v+(n:Int)).toNat else min v.toNat n)<=n
  by_cases hv:v < 0
  ·rw [if_pos hv];omega
  ·rw [if_neg hv];exact Nat.min_le_right _ _
theorem Zf4 (v:Int)(n d:Nat):(if v < 0 then max (v+(n:Int)) 0 else min v (n:Int))=((sIx n d (some v):Nat):Int):=by
 show (if v < 0 then max (v+(n:Int)) 0 else min v (n:Int))=(((if v < 0 then (v+(n:Int)).toNat else min v.toNat n):Nat):Int)
 by_cases hv:v < 0
 ·simp only [if_pos hv];omega
 ·simp only [if_neg hv];omega
theorem Zmv (lo hi:Option Int)(n:Nat):Ux lo hi 1 (n:Int)=(((sIx n 0 lo:Nat):Int),((sIx n n hi:Nat):Int)):=by
 have h1:¬ ((1:Int) < 0):=by omega
 unfold Ux
 simp only [h1,if_false]
 refine Prod.ext ?_ ?_
 ·cases lo with
  | none=>rfl
  | some v=>exact Zf4 v n 0
 ·cases hi with
  | none=>rfl
  | some v=>exact Zf4 v n n
theorem Zoe (i j:Nat):Tz (i:Int) (j:Int) 1=j - i:=by
 unfold Tz
 have h1:(1:Int) > 0:=by omega
 simp only [h1,if_true,Int.ediv_one]
 split <;> omega
theorem Zje {v:Value}{o:Option Int}{Q:Option Int->Shared->Prop}(p:IsPart v o)(h:Q o s):wpAny (model prog w) A (Builtin.Slice.slicePartIndex v) Q E s:=by
 cases p with
 | none=>exact slicePart_none h
 | int i t=>exact slicePart_int h
theorem sliceApplied_gen {sl:Addr}{vl vu:Value}{lo hi:Option Int}{n:Nat}{Q:Int×Int×Nat->Shared->Prop}(hs:s.heap.IsSliceOf sl vl vu .none)(pl:IsPart vl lo)(pu:IsPart vu hi)
  (h:Q (((sIx n 0 lo:Nat):Int),1,sIx n n hi - sIx n 0 lo) s):wpAny (model prog w) A (Builtin.Slice.sliceApplied (.ref sl) (pure (n:Int))) Q E s:=by
 obtain ⟨os,hos,hcs,hds⟩:=id hs
 unfold Builtin.Slice.sliceApplied Builtin.Slice.sliceFields
 refine Oo (Oo (O9 hos hds (x:=vl) rfl (Oo (O9 hos hds (x:=vu) rfl (Oo (O9 hos hds (x:=.none) rfl (Op ?_)))))))
 refine Oo (slicePart_none ?_)
 show wpAny _ _ (if ((1:Int) == 0)=true then _ else _) _ _ s
 rw [if_neg (by decide)]
 refine Oo (Zje pl (Oo (Zje pu (Oo (Op ?_)))))
 show wpAny _ _ (match Ux lo hi 1 (n:Int) with | (lo,hi)=>pure (lo,(1:Int),Tz lo hi 1)) _ _ s
 rw [Zmv lo hi n]
 show wpAny _ _ (pure (((sIx n 0 lo:Nat):Int),(1:Int),Tz ((sIx n 0 lo:Nat):Int) ((sIx n n hi:Nat):Int) 1)) _ _ s
 rw [Zoe]
 exact Op h
theorem Zps (xs:Array Value)(i k:Nat):((Pc k).filterMap fun (m:Nat)=>xs[((i:Int)+(m:Int) * 1).toNat]?).toArray=((xs.toList.drop i).take k).toArray:=by
 have e:(fun (m:Nat)=>xs[((i:Int)+(m:Int) * 1).toNat]?)=fun m=>xs[i+m]?:=by
  funext m
  have:((i:Int)+(m:Int) * 1).toNat=i+m:=by omega
  rw [this]
 rw [e]
 have:=pick_run xs i k
 rw [List.filterMap_map] at this
 have e2:((fun x=>xs[x]?) ∘ fun x=>i+x)=fun m=>xs[i+m]?:=rfl
 rw [e2] at this
 rw [this]
theorem getItem_tuple_cut {t sl:Addr}{items:Array Value}{vl vu:Value}{lo hi:Option Int}{Q:Value->Shared->Prop}(ht:IsTup s.heap t items)(hs:s.heap.IsSliceOf sl vl vu .none)(pl:IsPart vl lo)(pu:IsPart vu hi)
  (hw:¬ (sIx items.size 0 lo=0/\sIx items.size items.size hi=items.size))
  (h:Q (.ref s.heap.objs.size) { s with heap:=s.heap.push { cls:=.type "tuple",data:=.seq ((items.toList.drop (sIx items.size 0 lo)).take (sIx items.size items.size hi - sIx items.size 0 lo)).toArray } })
  (hsz:items.size<=sizeLine):wpAny (model prog w) A (getItem (.ref t) (.ref sl)) Q E s:=by
 have htake:sizeOk (.seq ((items.toList.drop (sIx items.size 0 lo)).take (sIx items.size items.size hi - sIx items.size 0 lo)).toArray):=by
  show ((items.toList.drop (sIx items.size 0 lo)).take (sIx items.size items.size hi - sIx items.size 0 lo)).toArray.size<=sizeLine
  rw [Ou,Qe,Tc,R7]
  omega
 have hj:sIx items.size items.size hi<=items.size:=Zsa _ _ (Oq _) hi
 obtain ⟨os,hos,hcs,hds⟩:=id hs
 have hTs:s.TypeIs (.ref sl) "slice" := ⟨os,hos,hcs⟩
 unfold getItem
 try with_reducible refine Qa ?_
 first | refine Oo (Op ?_) | skip
 refine Oo (wpAny_sequenceKey ht.typeIs (by decide) ?_)
 refine Oo (Rg (name:=Px "__getitem__") ht.typeIs R1
  (Rl R1 ht.typeIs entry_tuple_getitem ?_ (args_tuple_getitem _ _)))
 show wpAny _ _ (Builtin.Tuple.tupleItemsOf (.ref t) >>= _) _ _ s
 refine Oo (tupleItemsOf_ ht ?_)
 refine Oo (Up hTs ?_)
 rw [if_pos (by decide)]
 refine Oo (sliceApplied_gen hs pl pu ?_)
 have hno:¬ ((((sIx items.size 0 lo:Nat):Int) == 0 && (1:Int) == 1 && (sIx items.size items.size hi - sIx items.size 0 lo) == items.size)=true):=by
  intro q
  rw [Pt,Pt] at q
  have q1:((sIx items.size 0 lo:Nat):Int)=0:=eq_of_beq q.1.1
  have q2:sIx items.size items.size hi - sIx items.size 0 lo=items.size:=eq_of_beq q.2
  exact hw ⟨by omega,by omega⟩
 show wpAny _ _ (if (((sIx items.size 0 lo:Nat):Int) == 0 && (1:Int) == 1 && (sIx items.size items.size hi - sIx items.size 0 lo) == items.size)=true then _ else _) _ _ s
 rw [if_neg hno,Zps]
 first
  | exact Oo (m:=T0 _) (Rk (Op ⟨_,rfl,Op h⟩) htake)
  | exact Oo (m:=T0 _) (Rk (Oo (Op (Op ⟨_,rfl,Op h⟩))) htake)
  | exact Oo (Oo (m:=T0 _) (Rk (Op (Op ⟨_,rfl,Op h⟩)) htake))
  | exact Oo (Oo (m:=T0 _) (Rk (Op ⟨_,rfl,Op h⟩) htake))
end
end HT
namespace L2
open PySem PySem.Spec PyProof.Rows
noncomputable abbrev TO:=St->Hp->(Option Int->Hp->Prop)->Prop
noncomputable def PO (X:Cx)(e:Option Expr)(t:TO):Prop :=
 ∀(pins:List (Addr×Obj))(s:Shared)(σ:St)(H:Hp)(Q:Option Int->Hp->Prop),Inv X pins σ H s->t σ H Q ->
  wpAny (model X.prog X.w) X.A (evalPart e X.env) (fun u s'=>∃ o H',Inv X pins σ H' s'/\IsPart u o/\Q o H') X.xe s
noncomputable def Zak:TO:=fun _ H Q=>Q none H
noncomputable def Zdn (t:TE):TO:=fun σ H Q=>t σ H fun x H1=>∃ i,x=.int i/\Q (some i) H1
section
variable {X:Cx}{e:Expr}{te:TE}{lo hi:Option Expr}{tl th:TO}{pos p2:Pos}
theorem Zth:PO X none Zak:=by
 intro pins s σ H Q I h
 rw [evalPart_none]
 exact Op ⟨none,H,I,.none,h⟩
theorem Zp2 (h:PE X e te):PO X (some e) (Zdn te):=by
 intro pins s σ H Q I hw
 rw [evalPart_some]
 refine Ak (h pins s σ H _ I hw) fun u s1 zq=>?_
 obtain ⟨x,H1,I1,r1,q1⟩:=zq
 obtain ⟨i,rfl,q⟩:=q1
 obtain ⟨t,rfl⟩:=r1
 exact ⟨some i,H1,I1,.int i t,q⟩
noncomputable def SlR (X:Cx)(r:V->Option Int->Option Int->Hp->VK->Prop):Prop :=
 ∀(pins:List (Addr×Obj))(s:Shared)(σ:St)(H:Hp)(x:V)(v vl vu:Value)(lo hi:Option Int)(sl:Addr)(Q:VK),Inv X pins σ H s->RelV x v->s.heap.IsSliceOf sl vl vu .none->IsPart vl lo->IsPart vu hi->r x lo hi H Q ->
  ∃ T id,typeLookup (.type T) "__getitem__" = pure (some (.builtin id))/\s.TypeIs v T/\wpAny (model X.prog X.w) X.A (getItem v (.ref sl)) (EP X pins σ Q) X.xe s
theorem SlR.or {r r':V->Option Int->Option Int->Hp->VK->Prop}(h:SlR X r)(h':SlR X r'):SlR X (fun x lo hi H Q=>r x lo hi H Q\/r' x lo hi H Q):=by
 intro pins s σ H x v vl vu lo hi sl Q I rx hs pl pu q
 rcases q with q | q
 ·exact h pins s σ H x v vl vu lo hi sl Q I rx hs pl pu q
 ·exact h' pins s σ H x v vl vu lo hi sl Q I rx hs pl pu q
noncomputable def tSl (r:V->Option Int->Option Int->Hp->VK->Prop)(te:TE)(tl th:TO):TE:=fun σ H Q=>te σ H fun x H1=>tl σ H1 fun l H2=>th σ H2 fun u H3=>r x l u H3 Q
theorem Znm {r:V->Option Int->Option Int->Hp->VK->Prop}(hr:SlR X r)(he:PE X e te)(hl:PO X lo tl)(hu:PO X hi th):PE X (.Subscript e (.Slice lo hi none p2) pos) (tSl r te tl th):=by
 intro pins s σ H Q I h
 refine Subscript_ (Ak (he pins s σ H _ I h) fun v s1 zq=>?_)
 obtain ⟨x,H1,I1,r1,q1⟩:=zq
 refine wpAny_Slice (Ak (hl pins s1 σ H1 _ I1 q1) fun vl s2 zq=>?_)
 obtain ⟨l,H2,I2,pl,q2⟩:=zq
 refine Ak (hu pins s2 σ H2 _ I2 q2) fun vu s3 zq=>?_
 obtain ⟨u,H3,I3,pu,q3⟩:=zq
 rw [evalPart_none]
 refine Op ?_
 have I4:Inv X pins σ H3 { s3 with heap:=s3.heap.push { cls:=.type "slice",data:=.fields #[vl,vu,.none] } }:=I3.kept (t':=s3.toks) fun b ob q=>Ot _ q
 obtain ⟨T,id,hT,ht,hg⟩:=hr pins { s3 with heap:=s3.heap.push { cls:=.type "slice",data:=.fields #[vl,vu,.none] } } σ H3 x v vl vu l u s3.heap.objs.size Q I4 r1 (Heap.IsSliceOf.new ..) pl pu q3
 show wpAny (model X.prog X.w) X.A (subscriptTail e (.Slice lo hi none p2) v (.ref s3.heap.objs.size)) (EP X pins σ Q) X.xe { s3 with heap:=s3.heap.push { cls:=.type "slice",data:=.fields #[vl,vu,.none] } }
 exact tail_any (ops:=[.ref s3.heap.objs.size,v]) ht hT hg (by with_unfolding_all rfl)
noncomputable def Dl (xs:List V)(lo hi:Option Int):List V:=(xs.drop (HT.sIx xs.length 0 lo)).take (HT.sIx xs.length xs.length hi - HT.sIx xs.length 0 lo)
theorem Zf6 (xs:List V)(lo hi:Option Int):(Dl xs lo hi).length<=xs.length:=by
 unfold Dl
 rw [Qe,Tc]
 omega
noncomputable def rSlT (K:On):V->Option Int->Option Int->Hp->VK->Prop:=fun x lo hi H Q=>∃ a xs,x=.ref a/\SqT K H a xs /\
 ¬ (HT.sIx xs.length 0 lo=0/\HT.sIx xs.length xs.length hi=xs.length)/\∀ p,H p=none->Q (.ref p) (upd H p (.tup (Dl xs lo hi)))
theorem Zgg:SlR X (rSlT X.K):=by
 intro pins s σ H x v vl vu lo hi sl Q I rx hs pl pu h
 obtain ⟨a,xs,rfl,hx,hw,q⟩:=h
 cases rx
 obtain ⟨its,r,ht,hz⟩:=I.tuple hx
 have hlen:its.toArray.size=xs.length:=by rw [Ou];exact r.length.symm
 refine ⟨"tuple",_,R1.lookup,ht.typeIs,?_⟩
 refine HT.getItem_tuple_cut ht hs pl pu (by rw [hlen];exact hw) ?_ (by rw [hlen];exact hz)
 rw [hlen]
 refine ⟨.ref s.heap.objs.size,_,I.laid (t':=s.toks) (o:=.tup (Dl xs lo hi)) (fun b ob q=>Ot _ q) (Oq _) ?_,rfl,q _ (I.hok.fresh (Oq _))⟩
 exact ⟨Pp (Zf6 xs lo hi) hz,_,(r.drop (HT.sIx xs.length 0 lo)).take (HT.sIx xs.length xs.length hi - HT.sIx xs.length 0 lo),IsTup.new _ _⟩
noncomputable def Zl9 (K:On):R2:=fun x y H Q=>∃ a b xs ys,x=.ref a/\y=.ref b/\SqT K H a xs/\SqT K H b ys/\xs≠[]/\xs.length+ys.length<=sizeLine /\
 (ys=[]->Q (.ref a) H)/\(ys≠[]->∀ p,H p=none->Q (.ref p) (upd H p (.tup (xs++ys))))
theorem Vals.nil_iff {xs:List V}{us:List Value}(r:Vals xs us):us=[]↔xs=[]:=by
 cases r with
 | nil=>simp
 | cons _ _=>simp
theorem Zst:OpR X (binaryOp .Add) (Zl9 X.K):=by
 intro pins s σ H x y v u Q I rx ry h
 obtain ⟨a,b,xs,ys,rfl,rfl,ha,hb,hx,hz,q1,q2⟩:=h
 cases rx
 cases ry
 obtain ⟨its,r1,p1,_⟩:=I.tuple ha
 obtain ⟨its2,r2,p2,_⟩:=I.tuple hb
 refine HT.cat_tup p1 p2 (fun z=>hx (r1.nil_iff.mp z)) (fun z=>⟨.ref a,H,I,rfl,q1 (r2.nil_iff.mp z)⟩) (fun z=>?_) (by rw [<- r1.length,<- r2.length];exact hz)
 refine ⟨.ref s.heap.objs.size,_,I.laid (t':=s.toks) (o:=.tup (xs++ys)) (fun b ob q=>Ot _ q) (Oq _) ?_,rfl,q2 (fun w=>z (r2.nil_iff.mpr w)) _ (I.hok.fresh (Oq _))⟩
 exact ⟨by rw [Pb];exact hz,_,r1.append r2,IsTup.new _ _⟩
end
noncomputable def C7 (n:Nat)(i:Int):Option Nat:=if 0<=i then (if i < n then some i.toNat else none) else if -(n:Int)<=i then some (i+n).toNat else none
noncomputable def Bh {α:Type}(xs:List α)(i:Int):Option α:=(C7 xs.length i).bind fun j=>xs[j]?
theorem Zfk {n:Nat}{i:Int}{j:Nat}(h:C7 n i=some j):seqIndex? i n=some j/\j < n/\-(n:Int)<=i/\i < n:=by
 unfold C7 at h
 by_cases h0:0<=i
 ·rw [if_pos h0] at h
  by_cases h1:i < n
  ·rw [if_pos h1] at h
   have e:i.toNat=j:=Pi h
   exact ⟨by rw [Ut h0 h1,e],by omega,by omega,h1⟩
  ·rw [if_neg h1] at h;cases h
 ·rw [if_neg h0] at h
  by_cases h1:-(n:Int)<=i
  ·rw [if_pos h1] at h
   have e:(i+n).toNat=j:=Pi h
   exact ⟨by rw [seqIndex_neg (by omega) h1,e],by omega,h1,by omega⟩
  ·rw [if_neg h1] at h;cases h
theorem M2 {α:Type}{xs:List α}{i:Int}{v:α}(h:Bh xs i=some v):∃ j,seqIndex? i xs.length=some j/\xs[j]?=some v/\j < xs.length/\-(xs.length:Int)<=i/\i < xs.length:=by
 unfold Bh at h
 cases e:C7 xs.length i with
 | none=>rw [e] at h;cases h
 | some j =>
  rw [e] at h
  obtain ⟨h1,h2,h3,h4⟩:=Zfk e
  exact ⟨j,h1,h,h2,h3,h4⟩
theorem Iz {α:Type}{xs:List α}{j:Nat}{v:α}(h:xs[j]?=some v):Bh xs (j:Int)=some v:=by
 have hj:j < xs.length:=(Pa.mp h).1
 have e:C7 xs.length (j:Int)=some j:=by
  unfold C7
  rw [if_pos (by omega),if_pos (by omega)];simp
 unfold Bh;rw [e];exact h
noncomputable def Zas (b:Expr):Prop:=∀ o i,subscripted b false o i=operate [o,i] (getItem o i)
noncomputable def IxR (X:Cx)(r:R2):Prop :=
 ∀(value slice:Expr)(pins:List (Addr×Obj))(s:Shared)(σ:St)(H:Hp)(x y:V)(v u:Value)(Q:VK),Inv X pins σ H s->RelV x v->RelV y u->r x y H Q ->
  subscripted slice false v u=operate [v,u] (getItem v u)->wpAny (model X.prog X.w) X.A (subscriptTail value slice v u) (EP X pins σ Q) X.xe s
noncomputable def G1 (X:Cx)(id:String)(r:V->List V->Hp->VK->Prop):Prop :=
 ∀(pins:List (Addr×Obj))(s:Shared)(σ:St)(H:Hp)(x:V)(xs:List V)(v:Value)(us:List Value)(Q:VK),Inv X pins σ H s->RelV x v->Vals xs us->r x xs H Q ->
  wpAny (model X.prog X.w) X.A (call (.builtin id) (v::us)) (EP X pins σ Q) X.xe s
section
variable {X:Cx}{a b:Expr}{ta tb:TE}{pos:Pos}
theorem IxR.or {r r':R2}(h:IxR X r)(h':IxR X r'):IxR X (fun x y H Q=>r x y H Q\/r' x y H Q):=by
 intro value slice pins s σ H x y v u Q I rx ry q hs
 rcases q with q | q
 ·exact h value slice pins s σ H x y v u Q I rx ry q hs
 ·exact h' value slice pins s σ H x y v u Q I rx ry q hs
theorem Zsw {r:R2}(hr:IxR X r)(ha:PE X a ta)(hb:PE X b tb)(hs:Zas b):PE X (.Subscript a b pos) (Bv r ta tb):=by
 intro pins s σ H Q I h
 exact Subscript_ (Zan ha hb I h fun v u s2 x y H2 I2 rx ry q=>hr a b pins s2 σ H2 x y v u Q I2 rx ry q (hs _ _))
noncomputable def rIxL (K:On):R2:=fun x y H Q=>∃ p xs i v,x=.ref p/\y=.int i/\SqL K H p xs/\Bh xs i=some v/\Q v H
noncomputable def rIxT (K:On):R2:=fun x y H Q=>∃ p xs i v,x=.ref p/\y=.int i/\SqT K H p xs/\Bh xs i=some v/\Q v H
noncomputable def rIxS:R2:=fun x y H Q=>∃ z i c,x=.str z/\y=.int i/\z.length<=sizeLine/\Bh z.cps.toList i=some c/\Q (.str ⟨#[c]⟩) H
theorem ix_list:IxR X (rIxL X.K):=by
 intro value slice pins s σ H x y v u Q I rx ry h hs
 obtain ⟨p,xs,i,z,rfl,rfl,hq,he,q⟩:=h
 cases rx
 obtain ⟨t,rfl⟩:=ry
 obtain ⟨its,r,pl,hz⟩:=I.list hq
 obtain ⟨j,h1,h2,h3,h4,h5⟩:=M2 he
 obtain ⟨w,ew,rw'⟩:=r.get h2
 have hl:=r.length
 have hn:=Jb
 have fin:EP X pins σ Q w s:=⟨z,H,I,rw',q⟩
 by_cases h0:0<=i
 ·have hj:i.toNat=j:=by
   rw [Ut h0 h5] at h1
   exact Pi h1
  exact item_listR pl.isList h0 (by omega) (by rw [hj];simpa using ew) fin hs
 ·have hj:(i+(its.toArray.size:Int)).toNat=j:=by
   rw [seqIndex_neg (by omega) h4] at h1
   rw [Ou,<- hl]
   exact Pi h1
  exact subscriptTail_builtinR (x:=w) pl.isList.typeIs slot_list_getitem.lookup
   (wpAny_getItem_list_neg (Q:=fun r s'=>r=w/\EP X pins σ Q r s') pl.isList (by omega) (by rw [Ou] <;> omega) (by omega) (by rw [hj];simpa using ew) ⟨rfl,fin⟩) hs
theorem ix_tup:IxR X (rIxT X.K):=by
 intro value slice pins s σ H x y v u Q I rx ry h hs
 obtain ⟨p,xs,i,z,rfl,rfl,hq,he,q⟩:=h
 cases rx
 obtain ⟨t,rfl⟩:=ry
 obtain ⟨its,r,pl,hz⟩:=I.tuple hq
 obtain ⟨j,h1,h2,h3,h4,h5⟩:=M2 he
 obtain ⟨w,ew,rw'⟩:=r.get h2
 have hl:=r.length
 have hn:=Jb
 have fin:EP X pins σ Q w s:=⟨z,H,I,rw',q⟩
 exact subscriptTail_builtinR (x:=w) pl.typeIs slot_tuple_getitem.lookup
  (getItem_tuple (j:=j) (Q:=fun r s'=>r=w/\EP X pins σ Q r s') pl (by omega) (by omega) (by rw [Ou,<- hl];exact h1) (by simpa using ew) ⟨rfl,fin⟩) hs
theorem Zl7:IxR X rIxS:=by
 intro value slice pins s σ H x y v u Q I rx ry h hs
 obtain ⟨z,i,c,rfl,rfl,hz,he,q⟩:=h
 obtain ⟨t,rfl⟩:=rx
 obtain ⟨t',rfl⟩:=ry
 obtain ⟨j,h1,h2,h3,h4,h5⟩:=M2 he
 have hl:z.cps.toList.length=z.length:=by simp [Str.length]
 rw [hl] at h1 h4 h5
 have hn:=Jb
 exact tail_any (typeIs_str s z t) slot_str_getitem.lookup (getItem_str (c:=c) (by
  have e1:decide (i < -(2 ^ 63:Int))=false:=decide_eq_false (by omega)
  have e2:decide (i ≥ 2 ^ 63)=false:=decide_eq_false (by omega)
  rw [e1,e2,Bool.or_false]) (by rw [h1];simpa using h2) ⟨.str ⟨#[c]⟩,H,I.tok _,⟨_,rfl⟩,q⟩) hs
noncomputable def Fz (K:On):R2:=fun x y H Q=>rIxL K x y H Q\/rIxT K x y H Q\/rIxS x y H Q
theorem Zrq:IxR X (Fz X.K):=ix_list.or (ix_tup.or Zl7)
theorem Zp8 (its:List Value)(n j:Nat)(u:Value):Py (·.setIfInBounds j u) { cls:=.type "list",data:=.seq its.toArray n }={ cls:=.type "list",data:=.seq (its.set j u).toArray n }:=by
 simp [Py]
theorem Inv.lst {pins:List (Addr×Obj)}{σ:St}{H:Hp}{s:Shared}{p:Addr}{xs:List V}(I:Inv X pins σ H s)(h:H p=some (.lst xs)) :
  ∃(its:List Value)(n:Nat),Vals xs its/\s.heap.get? p=some { cls:=.type "list",data:=.seq its.toArray n }/\xs.length<=sizeLine:=by
 obtain ⟨z,its,n,r,e⟩:=I.hok p _ h
 exact ⟨its,n,r,e,z⟩
theorem Inv.lstUpd {pins:List (Addr×Obj)}{σ:St}{H:Hp}{s:Shared}{p:Addr}{xs ys:List V}{its its':List Value}{n n':Nat}{f:Obj->Obj}(I:Inv X pins σ H s)(h:H p=some (.lst xs))
  (ho:s.heap.get? p=some { cls:=.type "list",data:=.seq its.toArray n }) (hf:f { cls:=.type "list",data:=.seq its.toArray n }={ cls:=.type "list",data:=.seq its'.toArray n' }) (r:Vals ys its') (hz:ys.length<=sizeLine) (t:Nat) :
  Inv X pins σ (upd H p (.lst ys)) { s with heap:=s.heap.update p f,toks:=t }:=by
 have e:(s.heap.update p f).get? p=some { cls:=.type "list",data:=.seq its'.toArray n' }:=by
  rw [Rh f ho (by rw [hf] <;> rfl),hf]
 refine I.write (x:=p) (e:=p) (by rw [h];trivial) (.inl rfl) (fun b u hb q=>(Qi _ _ (Qb hb)).trans q) ⟨_,e⟩ ?_
 exact ⟨hz,its',n',r,e⟩
noncomputable def Zfl:V->V->V->Hp->(Hp->Prop)->Prop:=fun o i v H Q=>∃ p xs k j,o=.ref p/\i=.int k/\H p=some (.lst xs)/\C7 xs.length k=some j/\Q (upd H p (.lst (xs.set j v)))
theorem Oe:Zal X Zfl:=by
 intro pins s σ H o i v ov iv u Q I ro ri rv h
 obtain ⟨p,xs,k,j,rfl,rfl,hp,hj,q⟩:=h
 cases ro
 obtain ⟨t,rfl⟩:=ri
 obtain ⟨its,n,r,ho,hz⟩:=I.lst hp
 obtain ⟨h1,h2,h3,h4⟩:=Zfk hj
 have hl:=r.length
 have hn:=Jb
 have I':Inv X pins σ (upd H p (.lst (xs.set j v))) { s with heap:=s.heap.update p (Py (·.setIfInBounds j u)) } :=
  I.lstUpd hp ho (Zp8 its n j u) (r.set rv j) (by rw [P0];exact hz) s.toks
 by_cases h0:0<=k
 ·have hk:k.toNat=j:=by
   rw [Ut h0 h4] at h1
   exact Pi h1
  exact PySem.W.ki_setAt ho h0 (by omega) (by rw [Ou,<- hl];exact h4) (by rw [hk];exact ⟨_,I',q⟩)
 ·have hk:(k+(its.toArray.size:Int)).toNat=j:=by
   rw [seqIndex_neg (by omega) h3] at h1
   rw [Ou,<- hl]
   exact Pi h1
  exact PySem.W.ki_setBack ho (by omega) (by rw [Ou,<- hl];exact h3) (by omega) (by rw [hk];exact ⟨_,I',q⟩)
theorem Znu (lo hi:Option Int)(n:Nat):(sliceBounds lo hi none n).1=((HT.sIx n 0 lo:Nat):Int)/\(sliceBounds lo hi none n).2.1=((HT.sIx n n hi:Nat):Int)/\(sliceBounds lo hi none n).2.2=1:=by
 refine ⟨?_,?_,rfl⟩
 ·cases lo with
  | none=>simp [sliceBounds,HT.sIx]
  | some i =>
   simp only [sliceBounds,HT.sIx,Option.getD_none,show (1:Int) > 0 by decide,if_true]
   by_cases h:i < 0
   ·simp only [h,if_true] <;> omega
   ·simp only [h,if_false] <;> omega
 ·cases hi with
  | none=>simp [sliceBounds,HT.sIx]
  | some i =>
   simp only [sliceBounds,HT.sIx,Option.getD_none,show (1:Int) > 0 by decide,if_true]
   by_cases h:i < 0
   ·simp only [h,if_true] <;> omega
   ·simp only [h,if_false] <;> omega
theorem Zua (its:List Value)(lo hi:Option Int):slicePick its.toArray lo hi none=((its.drop (HT.sIx its.length 0 lo)).take (HT.sIx its.length its.length hi - HT.sIx its.length 0 lo)).toArray:=by
 obtain ⟨h1,h2,h3⟩:=Znu lo hi its.toArray.size
 unfold slicePick
 rw [h1,h2,h3]
 simp only [sliceRange_one,pick_run,Ou] <;> rfl
noncomputable def Zeh (K:On):V->Option Int->Option Int->Hp->VK->Prop:=fun x lo hi H Q=>∃ a xs,x=.ref a/\SqL K H a xs/\∀ p,H p=none->Q (.ref p) (upd H p (.lst (Dl xs lo hi)))
theorem sl_list:SlR X (Zeh X.K):=by
 intro pins s σ H x v vl vu lo hi sl Q I rx hs pl pu h
 obtain ⟨a,xs,rfl,hx,q⟩:=h
 cases rx
 obtain ⟨its,r,ht,hz⟩:=I.list hx
 have hlen:=r.length
 refine ⟨"list",_,slot_list_getitem.lookup,ht.isList.typeIs,?_⟩
 refine wpAny_getItem_list_slice ht.isList hs pl pu .none (by simp) ?_ (by rw [Ou] <;> omega)
 rw [Zua,<- hlen]
 refine ⟨.ref s.heap.objs.size,_,I.laid (t':=s.toks) (o:=.lst (Dl xs lo hi)) (fun b ob q=>Ot _ q) (Oq _) ?_,rfl,q _ (I.hok.fresh (Oq _))⟩
 exact ⟨Pp (Zf6 xs lo hi) hz,_,0,(r.drop (HT.sIx xs.length 0 lo)).take (HT.sIx xs.length xs.length hi - HT.sIx xs.length 0 lo),O2 _ rfl⟩
noncomputable def C5:V->Bool
 | .non=>true
 | .bl _=>true
 | .int _=>true
 | .str _=>true
 | _=>false
noncomputable def Ek:V->V->Bool
 | .non,.non=>true
 | .bl a,.bl b=>a == b
 | .bl a,.int b=>(if a then 1 else 0) == b
 | .int a,.bl b=>a == (if b then 1 else 0)
 | .int a,.int b=>a == b
 | .str a,.str b=>a == b
 | _,_=>false
theorem Zed {A:Around}{s:Shared}{y x:V}{u v:Value}(ry:RelV y u)(rx:RelV x v)(fy:C5 y=true)(fx:C5 x=true):O7 A s u v (Ek y x):=by
 cases y with
 | non =>
  cases ry
  cases x with
  | non=>cases rx;exact Vs _
  | bl b=>cases rx;exact O7.none_bool b
  | int b=>obtain ⟨t,rfl⟩:=rx;exact O7.none_int b t
  | str b=>obtain ⟨t,rfl⟩:=rx;exact O7.none_str b t
  | _=>exact absurd (show false=true from fx) Ov
 | bl a =>
  cases ry
  cases x with
  | non=>cases rx;exact O7.bool_none a
  | bl b=>cases rx;exact O7.bool_bool a b
  | int b=>obtain ⟨t,rfl⟩:=rx;exact O7.bool_int a b t
  | str b=>obtain ⟨t,rfl⟩:=rx;exact O7.bool_str a b t
  | _=>exact absurd (show false=true from fx) Ov
 | int a =>
  obtain ⟨t',rfl⟩:=ry
  cases x with
  | non=>cases rx;exact O7.int_none a t'
  | bl b=>cases rx;exact O7.int_bool a t' b
  | int b=>obtain ⟨t,rfl⟩:=rx;exact O7.int_int a t' b t
  | str b=>obtain ⟨t,rfl⟩:=rx;exact O7.int_str a t' b t
  | _=>exact absurd (show false=true from fx) Ov
 | str a =>
  obtain ⟨t',rfl⟩:=ry
  cases x with
  | non=>cases rx;exact O7.str_none a t'
  | bl b=>cases rx;exact O7.str_bool a t' b
  | int b=>obtain ⟨t,rfl⟩:=rx;exact O7.str_int a t' b t
  | str b=>obtain ⟨t,rfl⟩:=rx;exact O7.str_str a t' b t
  | _=>exact absurd (show false=true from fx) Ov
 | _=>exact absurd (show false=true from fy) Ov
noncomputable def Db (x:V)(u:Value):Bool:=match u with
 | .none=>Ek .non x
 | .bool b=>Ek (.bl b) x
 | .int i _=>Ek (.int i) x
 | .str z _=>Ek (.str z) x
 | _=>false
theorem Zhd {x y:V}{u:Value}(r:RelV y u)(f:C5 y=true):Db x u=Ek y x:=by
 cases y with
 | non=>cases r;rfl
 | bl b=>cases r;rfl
 | int i=>obtain ⟨t,rfl⟩:=r;rfl
 | str z=>obtain ⟨t,rfl⟩:=r;rfl
 | _=>exact absurd (show false=true from f) Ov
theorem K8 {x:V}:∀{xs:List V}{us:List Value},Vals xs us->xs.all C5=true->us.any (Db x)=xs.any fun y=>Ek y x
 | _,_,.nil,_=>rfl
 | y::xs,u::us,.cons r t,f=>by
  rw [Ry,Pt] at f
  rw [List.any_cons,List.any_cons,Zhd r f.1,K8 t f.2]
theorem Lr {A:Around}{s:Shared}{x:V}{v:Value}(rx:RelV x v)(fx:C5 x=true):∀{xs:List V}{us:List Value},Vals xs us->xs.all C5=true->∀ u∈us,O7 A s u v (Db x u)
 | _,_,.nil,_=>fun u hu=>by cases hu
 | y::xs,u::us,.cons r t,f=>fun u' hu=>by
  rw [Ry,Pt] at f
  rcases O1.mp hu with rfl | hu
  ·rw [Zhd r f.1];exact Zed r rx f.1 fx
  ·exact Lr rx fx t f.2 u' hu
noncomputable def Cf (x:V)(xs:List V):Bool:=xs.any fun y=>Ek y x
noncomputable def rIn (K:On)(neg:Bool):R2:=fun x y H Q=>∃ p xs,y=.ref p/\(SqL K H p xs\/SqT K H p xs)/\C5 x=true/\xs.all C5=true/\Q (.bl (if neg then !Cf x xs else Cf x xs)) H
theorem op_in_seq:OpR X (compareOp .In) (rIn X.K false):=by
 intro pins s σ H x y v u Q I rx ry h
 obtain ⟨p,xs,rfl,hq,fx,fs,q⟩:=h
 cases ry
 rcases hq with hq | hq
 ·obtain ⟨its,r,pl,hz⟩:=I.list hq
  refine SeqAt.in_listAt (Db x) pl.isList (fun w hw=>Lr rx fx r fs w (by simpa using hw)) ⟨.bl _,H,I,rfl,?_⟩
  rw [show its.toArray.any (Db x)=its.any (Db x) by simp,K8 r fs]
  exact q
 ·obtain ⟨its,r,pl,hz⟩:=I.tuple hq
  refine SeqAt.in_tupleAt (Db x) pl (fun w hw=>Lr rx fx r fs w (by simpa using hw)) ⟨.bl _,H,I,rfl,?_⟩
  rw [show its.toArray.any (Db x)=its.any (Db x) by simp,K8 r fs]
  exact q
theorem op_notIn_seq:OpR X (compareOp .NotIn) (rIn X.K true):=by
 intro pins s σ H x y v u Q I rx ry h
 obtain ⟨p,xs,rfl,hq,fx,fs,q⟩:=h
 cases ry
 rcases hq with hq | hq
 ·obtain ⟨its,r,pl,hz⟩:=I.list hq
  refine SeqAt.notIn_listAt (Db x) pl.isList (fun w hw=>Lr rx fx r fs w (by simpa using hw)) ⟨.bl _,H,I,rfl,?_⟩
  rw [show its.toArray.any (Db x)=its.any (Db x) by simp,K8 r fs]
  exact q
 ·obtain ⟨its,r,pl,hz⟩:=I.tuple hq
  refine SeqAt.notIn_tupleAt (Db x) pl (fun w hw=>Lr rx fx r fs w (by simpa using hw)) ⟨.bl _,H,I,rfl,?_⟩
  rw [show its.toArray.any (Db x)=its.any (Db x) by simp,K8 r fs]
  exact q
theorem Zp0:B4 X (.type "list") (fun xs H Q=>∃ p ys,xs=[.ref p]/\(SqL X.K H p ys\/SqT X.K H p ys)/\∀ l,H l=none->Q (.ref l) (upd H l (.lst ys))):=by
 intro pins s σ H xs us Q I r h
 obtain ⟨p,ys,rfl,hq,q⟩:=h
 obtain ⟨u,rfl,rx⟩:=J2 r
 cases rx
 have fin:∀(its:List Value),Vals ys its->ys.length<=sizeLine->∀(h':Heap)(c':Nat),(∀ b o',s.heap.get? b=some o'->h'.get? b=some o') ->
   h'.get? s.heap.objs.size=some { cls:=.type "list",dict:=none,data:=.seq its.toArray c',slots:=#[] }->EP X pins σ Q (.ref s.heap.objs.size) { s with heap:=h' }:=fun its r' hz h' c' kp e =>
  ⟨.ref s.heap.objs.size,_,I.laid (t':=s.toks) kp (Oq _) (show ObjOk X.prog X.w _ h' _ (.lst ys) from ⟨hz,its,c',r',e⟩),rfl,q _ (I.hok.fresh (Oq _))⟩
 rcases hq with hq | hq
 ·obtain ⟨its,r',pl,hz⟩:=I.list hq
  have hlen:=r'.length
  obtain ⟨o,ho,hc,n,hd⟩:=pl.isList
  exact call_list_seq p (.inl rfl) ho hc hd (fun h' c' kp e=>fin its r' hz h' c' kp e) (by simp only [Ou] <;> omega)
 ·obtain ⟨its,r',pl,hz⟩:=I.tuple hq
  have hlen:=r'.length
  obtain ⟨o,ho,hc,n,hd⟩:=pl
  exact call_list_seq p (.inr rfl) ho hc hd (fun h' c' kp e=>fin its r' hz h' c' kp e) (by simp only [Ou] <;> omega)
theorem Zky:B4 X (.type "tuple") (fun xs H Q=>∃ p ys,xs=[.ref p]/\((SqL X.K H p ys/\∀ l,H l=none->Q (.ref l) (upd H l (.tup ys)))\/(SqT X.K H p ys/\Q (.ref p) H))):=by
 intro pins s σ H xs us Q I r h
 obtain ⟨p,ys,rfl,h⟩:=h
 obtain ⟨u,rfl,rx⟩:=J2 r
 cases rx
 rcases h with ⟨hq,q⟩ | ⟨hq,q⟩
 ·obtain ⟨its,r',pl,hz⟩:=I.list hq
  have hlen:=r'.length
  refine call_tuple_list pl.isList (fun h' kp=>?_) (by simp only [Ou] <;> omega)
  have I1:Inv X pins σ H { s with heap:=h' }:=I.kept (t':=s.toks) kp
  have I2:Inv X pins σ (upd H h'.objs.size (.tup ys)) { s with heap:=h'.push { cls:=.type "tuple",data:=.seq its.toArray } } :=
   I1.laid (t':=s.toks) (fun b o e=>Ot _ e) (Oq _) (show ObjOk X.prog X.w _ _ _ (.tup ys) from ⟨hz,its,r',IsTup.new _ _⟩)
  exact ⟨.ref h'.objs.size,_,I2,rfl,q _ (I1.hok.fresh (Oq _))⟩
 ·obtain ⟨its,r',pl,hz⟩:=I.tuple hq
  exact call_tuple_same pl ⟨.ref p,H,I,rfl,q⟩
noncomputable def Ih (K:On)(T:String)(x:V)(H:Hp):Prop:=match x with
 | .str _=>T = "str"
 | .int _=>T = "int"
 | .ref p=>(T = "list" /\ ∃ xs,SqL K H p xs)\/(T = "tuple" /\ ∃ o,K.lookup p=some o/\o.cls=.type "tuple" /\ o.dict=none) \/
   (T = "dict" /\ ((∃ kvs,H p=some (.dK kvs))\/∃ kvs,H p=some (.dT kvs)))\/(T = "set" /\ ∃ S n,H p=some (.set S n))
 | _=>False
theorem Zfb {pins:List (Addr×Obj)}{σ:St}{H:Hp}{s:Shared}{T:String}{x:V}{v:Value}(I:Inv X pins σ H s)(r:RelV x v)(ty:Ih X.K T x H) :
  s.TypeIs v T/\∀ a,v=.ref a->∃ ob,s.heap.get? a=some ob/\ob.dict=none:=by
 cases x with
 | str z =>
  obtain ⟨t,rfl⟩:=r
  cases (show T = "str" from ty)
  exact ⟨typeIs_str s z t,fun _ e=>nomatch e⟩
 | int i =>
  obtain ⟨t,rfl⟩:=r
  cases (show T = "int" from ty)
  exact ⟨Tt s i t,fun _ e=>nomatch e⟩
 | ref p =>
  cases r
  rcases ty with ⟨rfl,xs,hq⟩ | ⟨rfl,o,hk,hc,hd⟩ | ⟨rfl,hk⟩ | ⟨rfl,S,n,hk⟩
  ·obtain ⟨its,_,pl,_⟩:=I.list hq
   refine ⟨pl.isList.typeIs,fun a e=>?_⟩
   cases e
   obtain ⟨o,n,e,c,hd,_⟩:=pl
   exact ⟨o,e,hd⟩
  ·refine ⟨⟨o,I.kIn p o hk,hc⟩,fun a e=>?_⟩
   cases e
   exact ⟨o,I.kIn _ o hk,hd⟩
  ·have z:∃ o,s.heap.get? p=some o/\o.ExactDict:=by
    rcases hk with ⟨kvs,hk⟩ | ⟨kvs,hk⟩
    ·obtain ⟨_,_,_,_,o,_,_,e,ex,_⟩:=I.hok p _ hk
     exact ⟨o,e,ex⟩
    ·obtain ⟨_,_,_,_,o,_,_,e,ex,_⟩:=I.hok p _ hk
     exact ⟨o,e,ex⟩
   obtain ⟨o,e,ex⟩:=z
   refine ⟨⟨o,e,ex.1⟩,fun a e2=>?_⟩
   cases e2
   exact ⟨o,e,ex.2.1⟩
  ·obtain ⟨o,_,_,_,e,ex,_⟩:=I.hok p _ hk
   refine ⟨⟨o,e,ex.1⟩,fun a e2=>?_⟩
   cases e2
   exact ⟨o,e,ex.2.1⟩
 | _=>exact O8 ty
noncomputable def Kr (K:On)(T:String)(r:V->List V->Hp->VK->Prop)(to:TE):TE:=fun σ H Q=>to σ H fun x H1=>Ih K T x H1/\r x [] H1 Q
noncomputable def tBM (K:On)(T:String)(r:V->List V->Hp->VK->Prop)(to:TE)(t:TA):TE:=fun σ H Q=>to σ H fun x H1=>Ih K T x H1/\t σ H1 fun xs H2=>r x xs H2 Q
variable {o e:Expr}{es:List Expr}{to:TE}{t:TA}{name:Str}{apos cpos:Pos}{T id:String}{r:V->List V->Hp->VK->Prop}
theorem Zty (pa:PlainAttrs T)(slot:Slot T name id)(hty:typeOf (.builtin id)=pure (.type "method_descriptor"))(hm:G1 X id r)(ho:PE X o to)
  (hbase:attributeBase o name X.env (eval o X.env)=eval o X.env:=by rfl) (hline:(apos.endLine == cpos.line)=true:=by rfl):PE X (.Call (.Attribute o name apos) [] [] cpos) (Kr X.K T r to):=by
 intro pins s σ H Q I h
 refine wpAny_Call_method0_late hbase hline (Ak (ho pins s σ H _ I h) fun v s1 zq=>?_)
 obtain ⟨x,H1,I1,r1,ty,q1⟩:=zq
 obtain ⟨h1,h2⟩:=Zfb I1 r1 ty
 exact ⟨T,id,pa,slot,hty,h1,h2,Calls.callWith_builtin rfl (PySem.evalArgs_none (hm pins s1 σ H1 x [] v [] Q I1 r1 .nil q1))⟩
theorem Zoc (pa:PlainAttrs T)(slot:Slot T name id)(hty:typeOf (.builtin id)=pure (.type "method_descriptor"))(hm:G1 X id r)(ho:PE X o to)(ha:PA X (e::es) t)
  (hbase:attributeBase o name X.env (eval o X.env)=eval o X.env:=by rfl)
  (hfew:((backTo cpos (starEach (e::es) X.env)).all (fun x=>!x.1) && (backToKw cpos (keywordEach [] X.env)).all (fun x=>x.1.isSome)
   && decide ((e::es).length+([]:List Keyword).length+(if ([]:List Keyword).isEmpty then 0 else 1) < 30))=true:=by rfl)
  (hline:(apos.endLine == cpos.line)=true:=by rfl) (hs:starEach (e::es) X.env=(false,eval e X.env)::starEach es X.env:=by rfl) (hplain:(backTo cpos (starEach es X.env)).any (·.1)=false:=by rfl) :
  PE X (.Call (.Attribute o name apos) (e::es) [] cpos) (tBM X.K T r to t):=by
 intro pins s σ H Q I h
 refine wpAny_Call_method_late hbase hfew hline rfl (Ak (ho pins s σ H _ I h) fun v s1 zq=>?_)
 obtain ⟨x,H1,I1,r1,ty,q1⟩:=zq
 obtain ⟨h1,h2⟩:=Zfb I1 r1 ty
 refine ⟨T,id,pa,slot,hty,h1,h2,?_⟩
 have hA:=ha cpos pins s1 σ H1 _ I1 q1
 rw [hs] at hA ⊢
 refine Calls.callWith_builtin (by show (false || (backTo cpos (starEach es X.env)).any (·.1))=false;rw [hplain] <;> rfl) (Calls.evalArgs_plain ?_)
 exact Ak hA fun us s2 ⟨vs,H2,I2,r2,q2⟩=>hm pins s2 σ H2 x vs v us Q I2 r1 r2 q2
end
noncomputable def MtM (X:Cx)(id:String)(r:V->List V->Hp->VK->Prop):Prop :=
 ∀(pins:List (Addr×Obj))(s:Shared)(σ:St)(H:Hp)(x:V)(xs:List V)(v:Value)(us:List Value)(Q:VK),Inv X pins σ H s->RelV x v->Vals xs us->r x xs H Q ->
  wpAny (model X.prog X.w) X.A (call (.builtin id) (v::us)) (EP X pins σ Q) X.xe s
theorem Vals.one:∀{x:V}{us:List Value},Vals [x] us->∃ u,us=[u]/\RelV x u
 := fun h=>by
 cases h with
 | cons r t =>
 cases t
 exact ⟨_,rfl,r⟩
theorem Vals.two:∀{x y:V}{us:List Value},Vals [x,y] us->∃ u v,us=[u,v]/\RelV x u/\RelV y v
 := fun h=>by
 cases h with
 | cons r t =>
 cases t with
 | cons q z =>
 cases z
 exact ⟨_,_,rfl,r,q⟩
theorem Vals.zero:∀{us:List Value},Vals [] us->us=[]
 | _,.nil=>rfl
theorem Vals.dropLast {xs:List V}{us:List Value}(h:Vals xs us):Vals xs.dropLast us.dropLast:=by
 induction h with
 | nil=>exact .nil
 | cons r t ih =>
  cases t with
  | nil=>exact .nil
  | cons q t'=>exact .cons r ih
theorem Vals.reverse {xs:List V}{us:List Value}(h:Vals xs us):Vals xs.reverse us.reverse:=by
 induction h with
 | nil=>exact .nil
 | cons r t ih=>rw [Sy,Sy];exact Vals.append ih (.cons r .nil)
theorem Vals.rep {xs:List V}{us:List Value}(h:Vals xs us):∀ k:Nat,Vals (Oy k xs).flatten (Oy k us).flatten
 | 0=>.nil
 | k+1=>by
  rw [Q0,Q0,Sz,Sz]
  exact Vals.append h (Vals.rep h k)
theorem Zln {α:Type}(l:List α):l.eraseIdx (l.length - 1)=l.dropLast:=by
 induction l with
 | nil=>rfl
 | cons a r ih =>
  cases r with
  | nil=>rfl
  | cons b r =>
   have e:(a::b::r).length - 1=((b::r).length - 1)+1:=by
    have h1:(a::b::r).length=r.length+2:=rfl
    have h2:(b::r).length=r.length+1:=rfl
    omega
   rw [e,List.eraseIdx_cons_succ,ih]
   all_goals rfl
theorem Zdc (its:List Value):∀(k:Nat)(acc:List Value),
  Tu (fun x1 x2=>x1++x2) acc.toArray (Oy k its.toArray)=(acc++(Oy k its).flatten).toArray
 | 0,acc=>by simp
 | k+1,acc=>by
  have e:acc.toArray++its.toArray=(acc++its).toArray:=by simp
  have e2:(acc++its)++(Oy k its).flatten=acc++(Oy (k+1) its).flatten:=by
   rw [Q0,Sz,Ua]
  rw [<- e2,<- Zdc its k (acc++its),<- e,Q0,List.foldl_cons]
section
variable {X:Cx}{pins:List (Addr×Obj)}{σ:St}{H:Hp}{s:Shared}{l b:Addr}{xs ys zs:List V}
theorem Inv.lset {its its':List Value}{n:Nat}{f:Array Value->Array Value}{t':Nat}(I:Inv X pins σ H s)(hH:H l=some (.lst xs))
  (e:s.heap.get? l=some { cls:=.type "list",data:=.seq its.toArray n }) (hf:f its.toArray=its'.toArray) (hv:Vals ys its') (hz:ys.length<=sizeLine) :
  Inv X pins σ (upd H l (.lst ys)) { s with heap:=s.heap.update l (Py f),toks:=t' }:=by
 have q:=PySem.IsL.update e f
 rw [hf] at q
 refine I.write (x:=l) (e:=l) (by rw [hH];exact trivial) (.inl rfl) (fun b' u hb hu=>(Qi s.heap (Py f) (Qb hb)).trans hu) ⟨_,q⟩ ?_
 exact ⟨hz,its',_,hv,q⟩
theorem Inv.lnew {its:List Value}{t':Nat}(I:Inv X pins σ H s)(hv:Vals ys its)(hz:ys.length<=sizeLine) :
  Inv X pins σ (upd H s.heap.objs.size (.lst ys)) { s with heap:=s.heap.push { cls:=.type "list",data:=.seq its.toArray },toks:=t' } :=
 I.laid (fun _ _ q=>Ot _ q) (Oq _) ⟨hz,its,0,hv,O2 _ rfl⟩
theorem Inv.fresh (I:Inv X pins σ H s):H s.heap.objs.size=none:=I.hok.fresh (Oq _)
theorem Inv.lstM (I:Inv X pins σ H s)(hH:H l=some (.lst xs)):xs.length<=sizeLine/\∃(its:List Value)(n:Nat),Vals xs its/\xs.length=its.length/\s.heap.get? l=some { cls:=.type "list",data:=.seq its.toArray n }:=by
 obtain ⟨z,its,n,r,e⟩:=I.hok l _ hH
 exact ⟨z,its,n,r,r.length,e⟩
theorem Zin {n:Nat}(h:n<=sizeLine):Sk n=false:=by
 unfold Sk
 exact decide_eq_false (by omega)
end
section
variable {X:Cx}
noncomputable def Ze6:V->List V->Hp->VK->Prop:=fun x vs H Q=>∃ l xs y,x=.ref l/\vs=[y]/\H l=some (.lst xs)/\xs.length < sizeLine/\Q .non (upd H l (.lst (xs++[y])))
theorem E1:MtM X "list.append" Ze6:=by
 intro pins s σ H x vs v us Q I rx rv h
 obtain ⟨l,xs,y,rfl,rfl,hH,hz,q⟩:=h
 cases rx
 obtain ⟨u,rfl,ru⟩:=rv.one
 obtain ⟨z,its,n,r,hl,e⟩:=I.lstM hH
 refine Qo F.slot_list_append ⟨_,e,rfl⟩ F.entry_list_append (F.args_list_append_2 _ _) (PySem.list_append l its.toArray n u (by rw [Ou];omega)) ⟨e,?_⟩
 refine ⟨.non,_,I.lset (its':=its++[u]) hH e (by simp) (r.append (.cons ru .nil)) ?_,rfl,q⟩
 rw [Pb,Qj]
 omega
noncomputable def Zbf:V->List V->Hp->VK->Prop:=fun x vs H Q=>∃ l xs y,x=.ref l/\vs=[]/\H l=some (.lst xs)/\xs[xs.length - 1]?=some y/\Q y (upd H l (.lst xs.dropLast))
theorem Ko:MtM X "list.pop" Zbf:=by
 intro pins s σ H x vs v us Q I rx rv h
 obtain ⟨l,xs,y,rfl,rfl,hH,hy,q⟩:=h
 cases rx
 have hus:=rv.zero
 subst hus
 obtain ⟨z,its,n,r,hl,e⟩:=I.lstM hH
 obtain ⟨u,hu,ru⟩:=r.get hy
 have hy':its.toArray[its.toArray.size - 1]?=some u:=by
  show its.toArray[its.length - 1]?=some u
  rw [<- Array.getElem?_toList,<- hl]
  exact hu
 refine Qo F.slot_list_pop ⟨_,e,rfl⟩ F.entry_list_pop (F.args_list_pop_1 _) (MeetsSeq.list_pop_last l its.toArray n u hy' (by rw [Ou];omega)) ⟨e,?_⟩
 refine ⟨y,_,I.lset (its':=its.dropLast) hH e ?_ r.dropLast ?_,ru,q⟩
 ·show its.toArray.eraseIdxIfInBounds (its.toArray.size - 1)=its.dropLast.toArray
  rw [Ou,List.eraseIdxIfInBounds_toArray,Zln]
 ·rw [List.length_dropLast]
  omega
noncomputable def Zqp:V->List V->Hp->VK->Prop:=fun x vs H Q=>∃ l xs,x=.ref l/\vs=[]/\H l=some (.lst xs)/\Q .non (upd H l (.lst xs.reverse))
theorem Znw:MtM X "list.reverse" Zqp:=by
 intro pins s σ H x vs v us Q I rx rv h
 obtain ⟨l,xs,rfl,rfl,hH,q⟩:=h
 cases rx
 have hus:=rv.zero
 subst hus
 obtain ⟨z,its,n,r,hl,e⟩:=I.lstM hH
 refine Qo F.slot_list_reverse ⟨_,e,rfl⟩ F.entry_list_reverse (F.args_list_reverse_1 _) (AutoSeq1.list_reverse_list_0 l its.toArray n (by rw [Ou];omega)) ⟨e,?_⟩
 refine ⟨.non,_,I.lset (its':=its.reverse) hH e (by simp) r.reverse ?_,rfl,q⟩
 rw [R8]
 omega
noncomputable def rCat:R2:=fun x y H Q=>∃ l b xs zs,x=.ref l/\y=.ref b/\H l=some (.lst xs)/\H b=some (.lst zs)/\xs.length+zs.length<=sizeLine/\∀ p,H p=none->Q (.ref p) (upd H p (.lst (xs++zs)))
theorem op_cat:OpR X (binaryOp .Add) rCat:=by
 intro pins s σ H x y v u Q I rx ry h
 obtain ⟨l,b,xs,zs,rfl,rfl,hH,hB,hz,q⟩:=h
 cases rx
 cases ry
 obtain ⟨z,its,n,r,hl,e⟩:=I.lstM hH
 obtain ⟨z2,its2,n2,r2,hl2,e2⟩:=I.lstM hB
 refine PySem.P.add_list e e2 ?_ (by rw [Ou,Ou];omega)
 have ea:its.toArray++its2.toArray=(its++its2).toArray:=by simp
 rw [ea]
 exact ⟨.ref _,_,I.lnew (t':=s.toks) (r.append r2) (by rw [Pb];omega),rfl,q _ I.fresh⟩
noncomputable def rRep:R2:=fun x y H Q=>∃ l k xs,x=.ref l/\y=.int k/\H l=some (.lst xs)/\-(2 ^ 63)<=k/\k < 2 ^ 63/\xs.length * k.toNat<=sizeLine /\
 ∀ p,H p=none->Q (.ref p) (upd H p (.lst (Oy k.toNat xs).flatten))
theorem Oh {α:Type}(xs:List α)(k:Nat):(Oy k xs).flatten.length=k * xs.length:=by
 induction k with
 | zero=>simp
 | succ k ih=>rw [Q0,Sz,Pb,ih,Nat.succ_mul,Nat.add_comm]
theorem Zt4:OpR X (binaryOp .Mult) rRep:=by
 intro pins s σ H x y v u Q I rx ry h
 obtain ⟨l,k,xs,rfl,rfl,hH,h1,h2,hz,q⟩:=h
 cases rx
 obtain ⟨t,rfl⟩:=ry
 obtain ⟨z,its,n,r,hl,e⟩:=I.lstM hH
 have hlen:its.toArray.size * k.toNat<=sizeLine:=by rw [Ou,<- hl];exact hz
 have hcap:¬ its.toArray.size * k.toNat > (2 ^ 63 - 1) / 8:=by
  have:(sizeLine:Nat)<=(2 ^ 63 - 1) / 8:=by decide
  omega
 have hfit:¬ (!Builtin.List.listFitsIndex k)=true:=by
  rw [fitsIndex_both h1 h2]
  exact Ov
 have hlong:¬ Sk (its.toArray.size * k.toNat)=true:=by
  rw [Zin hlen]
  exact Ov
 have hnew:Tu (fun x1 x2=>x1++x2) #[] (Oy (if its.toArray.isEmpty=true then 0 else k.toNat) its.toArray)=(Oy k.toNat its).flatten.toArray:=by
  have f0:∀ m:Nat,Tu (fun x1 x2=>x1++x2) #[] (Oy m its.toArray)=(Oy m its).flatten.toArray:=fun m=>by
   have:=Zdc its m []
   rw [Uc] at this
   exact this
  rw [f0]
  cases its with
  | nil=>simp
  | cons a r'=>rw [if_neg (by simp)]
 refine wpAny_binaryOp_repeat_ref (T := "list") (U := "int") (by decide) ⟨_,e,rfl⟩ (fun s'=>Tt s' k t) noFill_list_mul F.fills_int_mul F.slot_int_rmul repeat_list F.slot_int_index.lookup
  (Qo F.slot_int_rmul (Tt s k t) F.entry_int_rmul (F.args_int_rmul_2 _ _) (int___rmul___int_list k t l its.toArray n)
   ⟨e,rfl,⟨_,e,rfl⟩,Qo F.slot_list_mul ⟨_,e,rfl⟩ F.entry_list_mul (F.args_list_mul_2 _ _) (AutoListH.list___mul___list_int_3 l its.toArray n k t hfit hcap hlong) ⟨e,?_⟩⟩)
 rw [hnew]
 exact ⟨.ref _,_,I.lnew (t':=s.toks) (r.rep k.toNat) (by rw [Oh,Nat.mul_comm];exact hz),rfl,q _ I.fresh⟩
end
section
variable {prog:Program}{w:World}{A:Around}{E:Value->Shared->Prop}{s:Shared}
end
section
variable {X:Cx}
end
end L2
namespace Att
open PySem PySem.W PySem.Calls PyProof.Rows
theorem Zpv {P:Params}{h:Heap}:∀(ns:List Int)(vs:List Value),WellAll P h vs (ns.map WData.int)->IntsAre vs ns:=by
 intro ns
 induction ns with
 | nil =>
  intro vs w
  rw [List.map_nil] at w
  cases w
  exact .nil
 | cons n ns ih =>
  intro vs w
  rw [Q6] at w
  cases w with
  | cons a b =>
   cases a
   exact .cons _ _ (ih _ b)
theorem Zji {l:OpenLaw}{n:Nat}(hn:l.most=some n){P:Params}{h:Heap}{args:List WData}{vals:List Value}
  (hpre:l.row.toRowW.claim.pre args=true) (hwl:WellAll P h vals args) :
  ∃ a vs ns,vals=[Value.ref a]/\args=[WData.list (ns.map WData.int)]/\h.get? a=some { cls:=.type "list",data:=.seq vs.toArray }/\IntsAre vs ns/\ns.length<=n:=by
 have hsh:WShape.hasAll [] args [.list .int]=true:=(pre_splitW hpre).1
 have hc:l.pre.holds [] { args:=args }=true:=(pre_splitW hpre).2
 obtain ⟨d,r,rfl,h1,h2⟩:=hasAllW_cons hsh
 obtain rfl:=hasAllW_nil h2
 obtain ⟨xs,rfl,h3⟩:=hasW_list h1
 obtain ⟨ns,rfl⟩:=items_int h3
 have hlen:ns.length<=n:=by
  unfold OpenLaw.pre at hc
  have h4:(WTm.not (.lt (.lit (.int (n:Int))) (.len (.arg 0)))).holds [] { args:=[.list (ns.map .int)] }=true:=by
   have h4:=(holds_andW hc).1
   rw [hn] at h4
   exact h4
  have h5:=condW_of h4 (w_not (w_lt w_lit (w_len_list (w_arg rfl))))
  rw [Pl] at h5
  refine Nat.le_of_not_lt fun q=>?_
  have q':(n:Int) < ((ns.length:Nat):Int):=by omega
  first
   | (rw [decide_eq_true q'] at h5;exact absurd h5 (by decide))
   | (simp at h5;omega)
 cases hwl with
 | cons w1 w2 =>
  cases w2
  cases w1 with
  | list ho hall=>exact ⟨_,_,ns,rfl,rfl,ho,Zpv ns _ hall,hlen⟩
theorem Zmc (l:OpenLaw)(args:List WData):l.row.toRowW.claim.post args (.bool true) args=true :=
 postW_of (r:=l.row.toRowW) (X:=(true == true))
  (show WShape.has [] (.bool true) .bool=true by first | rfl | decide | simp [WShape.has,WShape.arms,WShape.armsAll])
  (show (WTm.eq .res (.lit (.bool true))).value [] { args:=args,res:=some (.bool true),after:=args }=some (.bool (true == true)) from w_eq_bool (w_res rfl) w_lit) rfl
theorem attach_call {l:OpenLaw}{n:Nat}{q:Program}{loose:List Str}{XP:(Str->Option Value)->Heap->Prop}{YP:World->Heap->Prop}{d:DefRec}
  (hn:l.most=some n) (hdf:d.params.defaults=[])
  (call:∀(w:World)(s₀ s₁:Shared)(mg mb:Str->Option Value)(fa:Addr)(o:Obj)(pm cd doc:Value)(a:Addr)(vs:List Value)(ns:List Int),
   Ground q loose [] XP w s₀ mg mb s₁.heap->YP w s₁.heap ->
   s₁.heap.get? fa=some o->o.data=.func (docDef d.name d.params d.body d.scope pm cd doc)->s₁.heap.CodeRec cd d.name->mg d.name=some (.ref fa) ->
   s₁.heap.get? a=some { cls:=.type "list",data:=.seq vs.toArray }->IntsAre vs ns->ns.length<=n->s₁.gens=#[] ->
   codeAny (model l.prog w) callerA (.call (.ref fa) ⟨[.ref a],[]⟩) (fun r s'=>r=.ok (.ret (.bool true))/\OldK s₁.heap s'.heap/\s'.os=s₁.os/\AllBare s'.gens) s₁) :
  WalkO q loose XP YP l.row.toRowW d [] (fun f vs=>PySem.call f vs):=by
 intro w s₀ s₁ mg mb G Y fa o pm cd doc dV kV ho hd hcd hD hmg hg args vals as hpre hlay hrd hwl hlo
 obtain rfl:dV=.none:=Dflts.none hD hdf
 obtain rfl:kV=.none:=Dflts.noKw hD
 obtain ⟨a,vs,ns,rfl,rfl,hobj,hints,hlen⟩:=Zji hn hpre hwl
 refine enter_call (Rp (call w s₀ s₁ mg mb fa o pm cd doc a vs ns G Y ho (fd_plain hd) hcd hmg hobj hints hlen hg) fun r s' hq=>?_)
 obtain ⟨rfl,h2,h3,h4⟩:=hq
 exact ⟨.inl ⟨.bool true,.bool true,[],rfl,fun _=>rfl,.bool true,Zmc l _,fun _=>⟨List.Pairwise.nil,fun _ hm=>(nomatch hm)⟩⟩,h2,h3,h4⟩
section
variable {prog:Program}{w:World}{A:Around}{E:Value->Shared->Prop}{s:Shared}{K:Frag}
end
end Att
namespace L2
open PySem PySem.Spec PyProof.Rows
theorem Zgz:∀{vs:List Value}{ns:List Int},IntsAre vs ns->Vals (ns.map V.int) vs
 | _,_,.nil=>.nil
 | _,_,.cons n t h=>.cons ⟨t,rfl⟩ (Zgz h)
noncomputable def Zc2 (H:Hp):Prop:=∀ b,H b=none\/∃ o xs,H b=some (.frz o (.lst xs))
theorem Zo8 {P:Program}{w:World}{K:On}{mg mb:Str->Option Value}{CX:B2}{k:Nat}{fa a:Addr}{fd:FuncData}{x:Str}{sp:Sp}{s₁:Shared}{vs:List Value}{ns:List Int}
  (KX:K.In s₁.heap) (hns:s₁.heap.Ns mainGlobals mg) (hb:s₁.heap.Ns builtinsNs mb) (hbb:∀ x:Str,x ≠ "__name__" -> mb x=bootBuiltins x) (hlim:s₁.heap.NoLimit) (hg:s₁.gens=#[])
  (ha:s₁.heap.get? a=some { cls:=.type "list",data:=.seq vs.toArray }) (hi:IntsAre vs ns) (hl:ns.length<=sizeLine) (hr:Room k callerA)
  (F:∀ base:Heap,K.In base->base.Ns mainGlobals mg->FnOk P w K mg base CX k fa fd [x] sp) (hbind:∀(s:Shared)(u:Value),BindsTo s fd ⟨[u],[]⟩ [(x,u)])
  (hsp:∀ H:Hp,Zc2 H->SqL K H a (ns.map V.int)->sp [.ref a] H (fun v _=>v=.bl true) fun _ _ _=>False)
  (hCX:∀ H e s',CX [] H s₁ (fun _ _ _=>False) e s'->False) :
  codeAny (model P w) callerA (.call (.ref fa) ⟨[.ref a],[]⟩) (fun r s'=>r=.ok (.ret (.bool true))/\OldK s₁.heap s'.heap/\s'.os=s₁.os/\AllBare s'.gens) s₁:=by
 have rv:=Zgz hi
 have lenV:=hi.length
 have core:∀ H:Hp,Zc2 H->SqL K H a (ns.map V.int)->HOk P w H s₁.heap->(∀ b,H b≠none->b=a)->(H a≠none->K.lookup a=none) ->
   codeAny (model P w) callerA (.call (.ref fa) ⟨[.ref a],[]⟩) (fun r s'=>r=.ok (.ret (.bool true))/\OldK s₁.heap s'.heap/\s'.os=s₁.os/\AllBare s'.gens) s₁:=by
  intro H hO hS hok hA hK
  have base_of:∀{b:Addr}{o:Obj},s₁.heap.get? b=some o->H b=none->(Fm s₁.heap H).get? b=some o:=fun e n=>Zlb e n
  have noA:∀{b:Addr}{o:Obj}{es:Array DictEntry}{ep:Nat},s₁.heap.get? b=some o->o.data=.dict es ep->H b=none:=fun {b o es ep} e d=>by
   cases q:H b with
   | none=>rfl
   | some u =>
    have e':b=a:=hA b (by rw [q];simp)
    subst e'
    rw [ha] at e;cases e
    have d':Data.seq vs.toArray _=Data.dict es ep:=d
    cases d'
  have nsK:∀{b:Addr}{m:Str->Option Value},s₁.heap.Ns b m->(Fm s₁.heap H).Ns b m:=fun {b m} ⟨o,es,ep,e,d,r⟩=>⟨o,es,ep,base_of e (noA e d),d,r⟩
  have hKb:K.In (Fm s₁.heap H):=fun b o e=>base_of (KX b o e) (by
   cases q:H b with
   | none=>rfl
   | some u =>
    have e':b=a:=hA b (by rw [q];simp)
    subst e'
    rw [hK (by rw [q];simp)] at e;cases e)
  have hM:Mod K mg (Fm s₁.heap H):=⟨hKb,nsK hns,⟨mb,nsK hb,hbb⟩,let ⟨mc,h1,h2⟩:=hlim;⟨mc,nsK h1,h2⟩⟩
  have e0:Env0 P w K mg (Fm s₁.heap H) callerA [] s₁ H:=⟨rfl,hM,fun b o e=>Zo0 e,Nat.le_of_eq (Zpi _ _),trivial,fun b hb=>absurd (show b∈([]:List Addr) from hb) (by simp),hok,.of_eq hg⟩
  refine Rp ((F _ hKb (nsK hns)).run callerA [] s₁ H ⟨[.ref a],[]⟩ [.ref a] [.ref a] _ _ hr e0 (hbind s₁ (.ref a)) (.cons rfl .nil) (hsp H hO hS)) fun r s' h=>?_
  cases r with
  | error e=>exact (hCX H e s' h).elim
  | ok fl =>
   cases fl with
   | next=>exact O8 h
   | brk=>exact O8 h
   | cont=>exact O8 h
   | ret u =>
    obtain ⟨v,H',os,bare,un,hok',r',q⟩:=h
    have q':v=.bl true:=q
    subst q'
    obtain rfl:u=Value.bool true:=r'
    refine ⟨rfl,OldK.of_keep fun b o e=>?_,os,bare⟩
    cases q:H b with
    | none=>exact un.keep b o e q (by intro z;exact absurd (show b∈([]:List Addr) from z) (by simp)) (by simp)
    | some u =>
     rcases hO b with z | ⟨ob,xs,z⟩
     ·rw [q] at z;cases z
     ·have z2:=un.frzs b ob _ z
      obtain ⟨e1,_⟩:=hok b _ z
      obtain ⟨e2,_⟩:=hok' b _ z2
      rw [e] at e1;cases e1
      exact e2
 cases hk:K.lookup a with
 | some o =>
  have e:=KX a o hk
  rw [ha] at e
  cases e
  refine core (fun _=>none) (fun _=>.inl rfl) (.inr ⟨_,vs.toArray,_,hk,rfl,rfl,rfl,by rw [Ou,lenV];exact hl,by simpa using rv⟩) (fun b u z=>by have z':(none:Option HO)=some u:=z;cases z') (fun b z=>absurd rfl z) fun z=>absurd rfl z
 | none =>
  refine core (fun b=>if b=a then some (.frz { cls:=.type "list",data:=.seq vs.toArray } (.lst (ns.map V.int))) else none) (fun b=>?_) (.inl (.inr ⟨{ cls:=.type "list",data:=.seq vs.toArray },if_pos rfl⟩)) (fun b u z=>?_) (fun b z=>?_) fun _=>hk
  ·by_cases hb:b=a
   ·exact .inr ⟨_,_,if_pos hb⟩
   ·exact .inl (if_neg hb)
  ·by_cases hb:b=a
   ·have z':=(if_pos hb).symm.trans z
    cases z'
    subst hb
    exact ⟨ha,by rw [Pl];exact hl,vs,_,rv,ha⟩
   ·have z':=(if_neg hb).symm.trans z
    cases z'
  ·by_cases hb:b=a
   ·exact hb
   ·exact absurd (if_neg hb) z
theorem walk_of {l:Vt}{n k:Nat}{q:Program}{loose:List Str}{XP:(Str->Option Value)->Heap->Prop}{YP:World->Heap->Prop}{d:DefRec}{K:Params->On}{CX:World->B2}{sp:World->Sp}{x:Str}
  (hn:l.most=some n) (hn2:n<=sizeLine) (hdf:d.params.defaults=[]) (hr:Room k callerA)
  (hY:∀(w:World)(h:Heap),YP w h->(K w.params).In h)
  (F:∀(w:World)(mg:Str->Option Value)(fa:Addr)(h:Heap),(K w.params).In h->h.Ns mainGlobals mg->mg d.name=some (.ref fa) ->
   ∃ fd:FuncData,(∀(s:Shared)(u:Value),BindsTo s fd ⟨[u],[]⟩ [(x,u)]) /\
    ∀ base:Heap,(K w.params).In base->base.Ns mainGlobals mg->FnOk l.prog w (K w.params) mg base (CX w) k fa fd [x] (sp w))
  (hsp:∀(w:World)(H:Hp)(a:Addr)(ns:List Int),ns.length<=n->Zc2 H->SqL (K w.params) H a (ns.map V.int)->sp w [.ref a] H (fun v _=>v=.bl true) fun _ _ _=>False)
  (hCX:∀(w:World)(H:Hp)(s:Shared)(e:Value)(s':Shared),CX w [] H s (fun _ _ _=>False) e s'->False) :
  PySem.W.WalkO q loose XP YP l.row.toRowW d [] (fun f vs=>PySem.call f vs):=by
 refine Att.attach_call hn hdf fun w s₀ s₁ mg mb fa o pm cd doc a vs ns G Y ho hd hcd hmg hobj hints hlen hg=>?_
 have KX:=hY w _ Y
 obtain ⟨fd,hb,hF⟩:=F w mg fa _ KX G.T.g hmg
 exact Zo8 KX G.T.g G.T.b G.T.builtins G.T.nolimit hg hobj hints (Pp hlen hn2) hr hF hb (fun H hO hS=>hsp w H a ns hlen hO hS) fun H e s'=>hCX w H s₁ e s'
noncomputable def Bm (s:Stmt):Arguments:=match s with
 | .FunctionDef _ a _ _ _ _ _ _ _ _=>a
 | _=>{ posonlyargs:=[],args:=[],vararg:=none,kwonlyargs:=[],kw_defaults:=[],kwarg:=none,defaults:=[] }
noncomputable def Be (s:Stmt):List Stmt:=match s with
 | .FunctionDef _ _ b _ _ _ _ _ _ _=>b
 | _=>[]
noncomputable def Aj (s:Stmt):Scope:=match s with
 | .FunctionDef _ _ _ _ _ _ sc _ _ _=>sc
 | _=>{ kind:=.function,names:=[],isGenerator:=false,isCoroutine:=false }
noncomputable abbrev An:B2:=fun _ _ _ _ _ _=>False
noncomputable abbrev E0:XK:=fun _ _ _=>False
theorem Cb {X:Cx}:E7 An X E0:=fun _ _ _ _ _ _ _ h=>h.elim
structure Fun (K:On)(x qual:Str)(st:Stmt)(f:Addr)(fd:FuncData):Prop where
 ex:∃(oc:Value)(od:Option Addr)(kV doc pm:Value)(an:Option Addr)(cdv ct:Value)(osl:Array (Option Value)),
  fd=O6 x qual (Bm st) (Be st) (Aj st) .none kV doc pm an cdv ct/\K.lookup f=some ⟨oc,od,.func fd,osl⟩/\Q5 K cdv qual=true
 kp:O4 K (.ref f)=true
section
variable {P:Program}{w:World}{K:On}{mg:Str->Option Value}{base:Heap}
theorem Fun.ok {x qual:Str}{st:Stmt}{f:Addr}{fd:FuncData}{N ps:List Str}{k:Nat}{sp:Sp}(F:Fun K x qual st f fd)(S:Aw N ps (Aj st))(len:∀ vs H Q E,sp vs H Q E->vs.length=ps.length)
  (hbody:∀(cdv:Value)(A:Around)(outer:List Env)(s:Shared)(H:Hp)(vs:List V)(Q:VK)(E:XK),Room k (A.deeper (envOfC qual (Aj st) s.heap.objs.size f cdv))->sp vs H Q E ->
   ∃ t,PSs (Cp An P w K mg base N qual (Aj st) f cdv A outer s H E).nox (Be st) t/\t { nx:=fun _ H'=>Q .non H',rt:=Q } (start N vs) H):FnOk P w K mg base An (k+1) f fd ps sp:=by
 obtain ⟨oc,od,kV,doc,pm,an,cdv,ct,osl,rfl,lk,hcd⟩:=F.ex
 refine Zbh lk hcd S len fun A outer s H vs Q E hr hsp=>?_
 obtain ⟨t,h,q⟩:=hbody cdv A outer s H vs Q E hr hsp
 exact ⟨t,h.nox,q⟩
theorem Fun.binds {x qual:Str}{st:Stmt}{f:Addr}{fd:FuncData}{ps:List Str}(F:Fun K x qual st f fd)
  (h:∀(kV doc pm:Value)(an:Option Addr)(cdv ct:Value)(us:List Value),us.length=ps.length->bindArgs (O6 x qual (Bm st) (Be st) (Aj st) .none kV doc pm an cdv ct) ⟨us,[]⟩=pure (ps.zip us)):Binds K fd ps []:=by
 obtain ⟨oc,od,kV,doc,pm,an,cdv,ct,osl,rfl,lk,hcd⟩:=F.ex
 exact .all (h kV doc pm an cdv ct)
theorem fun_mk {x qual:Str}{st:Stmt}{f:Addr}{oc:Value}{od an:Option Addr}{osl:Array (Option Value)}{kV doc pm cdv ct:Value}(l:K.lookup f=some ⟨oc,od,.func (O6 x qual (Bm st) (Be st) (Aj st) .none kV doc pm an cdv ct),osl⟩)
  (c:Q5 K cdv qual=true) (k:O4 K (.ref f)=true):Fun K x qual st f (O6 x qual (Bm st) (Be st) (Aj st) .none kV doc pm an cdv ct):=⟨⟨oc,od,kV,doc,pm,an,cdv,ct,osl,rfl,l,c⟩,k⟩
end
section
variable {X:Cx}
end
theorem iteF {A B:Prop}(h:B):if false=true then A else B:=by
 rw [if_neg Ov]
 exact h
theorem iteT {A B:Prop}(h:A):if true=true then A else B:=by
 rw [if_pos rfl]
 exact h
theorem A0 {c A B:Prop}[Decidable c](h1:c->A)(h2:¬ c->B):if c then A else B:=by
 by_cases h:c
 ·rw [if_pos h]
  exact h1 h
 ·rw [if_neg h]
  exact h2 h
noncomputable def Same (H H':Hp):Prop:=∀ b o,H b=some o->H' b=some o
theorem Same.refl (H:Hp):Same H H:=fun _ _ h=>h
theorem Same.trans {H H1 H2:Hp}(a:Same H H1)(b:Same H1 H2):Same H H2:=fun c o h=>b c o (a c o h)
theorem Same.free {H H':Hp}(e:Same H H'){l:Addr}(h:H' l=Option.none):H l=Option.none:=by
 cases q:H l with
 | none=>rfl
 | some o =>
  rw [e l o q] at h
  cases h
theorem Same.seq {K:On}{H H':Hp}{a:Addr}{xs:List V}(e:Same H H')(h:SqL K H a xs):SqL K H' a xs:=by
 rcases h with (h | ⟨o,h⟩) | h
 ·exact .inl (.inl (e _ _ h))
 ·exact .inl (.inr ⟨o,e _ _ h⟩)
 ·exact .inr h
end L2
set_option maxHeartbeats 8000000
namespace L2
open PySem PySem.Spec PyProof.Rows
noncomputable def Du (env:Env):List (Str×NameKind)->List (Str×Addr)->List (Str×Addr)
 | [],acc=>acc
 | (n,k)::r,acc=>Du env r (if k == .free then (match env.cells.lookup n with | some a=>(n,a)::acc | none=>acc) else acc)
theorem Zee {env:Env}:∀{ns:List (Str×NameKind)}{acc:List (Str×Addr)}{x:Str}{c:Addr},(∀ x c,acc.lookup x=some c->env.cells.lookup x=some c)->(Du env ns acc).lookup x=some c->env.cells.lookup x=some c
 | [],acc,x,c,h,e=>h x c e
 | (n,k)::r,acc,x,c,h,e=>by
  refine Zee (ns:=r) ?_ e
  intro y d
  split
  ·split
   ·rename_i a ha
    intro q
    rw [Ql] at q
    split at q
    ·rename_i hy
     have hy':y=n:=by simpa using hy
     subst hy'
     rw [ha];exact q
    ·exact h y d q
   ·exact h y d
  ·exact h y d
theorem Ze0 {env:Env}:∀{ns:List (Str×NameKind)}{acc:List (Str×Addr)}{x:Str},(acc.lookup x).isSome=true->((Du env ns acc).lookup x).isSome=true
 | [],acc,x,h=>h
 | (n,k)::r,acc,x,h=>by
  refine Ze0 (ns:=r) ?_
  split
  ·split
   ·rw [Ql]
    split
    ·rfl
    ·exact h
   ·exact h
  ·exact h
theorem Zg2 {env:Env}:∀{ns:List (Str×NameKind)}{acc:List (Str×Addr)}{x:Str},(x,NameKind.free)∈ns->(env.cells.lookup x).isSome=true->((Du env ns acc).lookup x).isSome=true
 | [],acc,x,h,_=>by cases h
 | (n,k)::r,acc,x,h,hc=>by
  rcases O1.mp h with e | e
  ·cases e
   refine Ze0 (ns:=r) ?_
   obtain ⟨a,ha⟩:=Rs.mp hc
   rw [if_pos (by rfl),ha]
   show (Ra n ((n,a)::acc)).isSome=true
   rw [Ql]
   simp
  ·exact Zg2 (ns:=r) e hc
theorem Zfs {scope:Scope}{env:Env}(h:∀ x∈scope.names,x.2=.free->(env.cells.lookup x.1).isSome=true):closureFor scope env=pure (Du env scope.names []):=by
 have all:∀(ns:List (Str×NameKind))(acc:List (Str×Addr)),(∀ x∈ns,x.2=.free->(env.cells.lookup x.1).isSome=true) ->
   (forIn ns acc fun (x:Str×NameKind) (cs:List (Str×Addr))=>(if (x.2 == NameKind.free)=true then do let a <- cellOf env x.1;pure (ForInStep.yield ((x.1,a)::cs)) else pure (ForInStep.yield cs):Sem (ForInStep (List (Str×Addr)))))=pure (Du env ns acc):=by
  intro ns
  induction ns with
  | nil=>intro acc _;rfl
  | cons x r ih =>
   intro acc hx
   obtain ⟨n,k⟩:=x
   rw [Tg]
   by_cases hk:(k == NameKind.free)=true
   ·obtain ⟨a,ha⟩:=Rs.mp (hx (n,k) Su (by simpa using hk))
    have ha:env.cells.lookup n=some a:=ha
    have hcell:cellOf env n=pure a:=by unfold cellOf;rw [ha]
    simp only [hk,if_true,hcell]
    refine Eq.trans (ih ((n,a)::acc) fun y hy=>hx y (Qz _ hy)) ?_
    conv=>rhs;unfold Du
    simp only [hk,if_true,ha]
   ·simp only [hk]
    refine Eq.trans (ih acc fun y hy=>hx y (Qz _ hy)) ?_
    conv=>rhs;unfold Du
    simp only [hk]
    rfl
 unfold closureFor
 exact (by
  have:=all scope.names [] h
  first | exact this | (simp only [bind_pure] ;exact this) | simpa using this)
noncomputable def Cr (X:Cx)(scope:Scope)(C:Addr)(N:List Str)(s₀:Shared)(H₀:Hp)(ex:List Addr):Cx where
 prog:=X.prog
 w:=X.w
 K:=X.K
 mg:=X.mg
 base:=X.base
 A:=X.A
 N:=N
 s₀:=s₀
 H₀:=H₀
 env:=compEnvC scope (Du X.env scope.names []) C X.env
 outer:=X.stack
 stack:=X.stack
 ex:=ex
 fn:=fun _=>false
 calm:=X.calm
 pn:=[]
 xe:=fun _ _=>False
structure Ho (sc:Scope)(env:Env):Prop where
 kind:sc.kind=.function
 nocell:∀ y∈sc.names,y.2≠.cell
 loc:∀ y∈sc.names,y.2=.local->sc.names.lookup y.1=some .local
 free:∀ x∈sc.names,x.2=.free->(env.cells.lookup x.1).isSome=true
theorem Od {env:Env}:∀{names:List (Str×NameKind)}{x:Str}{k:NameKind},((names.map fun (n,k)=>if (k == NameKind.free && env.scope.kind == .function && env.kindOf n == some .cell) then (n,NameKind.cell) else (n,k)).lookup x=some k) ->
  ∃ k',names.lookup x=some k'/\(k'=k\/(k'=.free/\k=.cell))
 | [],x,k,h=>by simp at h
 | (n,q)::r,x,k,h=>by
  have ih:=@Od env r x k
  have h:Ra x ((if (q == NameKind.free && env.scope.kind == .function && env.kindOf n == some .cell)=true then (n,NameKind.cell) else (n,q))::_)=some k:=h
  rw [Ql]
  cases hx:x == n with
  | true =>
   by_cases hc:(q == NameKind.free && env.scope.kind == .function && env.kindOf n == some .cell)=true
   ·rw [if_pos hc] at h
    simp only [Ql,hx] at h
    refine ⟨q,rfl,.inr ⟨?_,(Pi h).symm⟩⟩
    simp only [Pt] at hc
    simpa using hc.1.1
   ·rw [if_neg hc] at h
    simp only [Ql,hx] at h
    exact ⟨q,rfl,.inl (Pi h)⟩
  | false =>
   by_cases hc:(q == NameKind.free && env.scope.kind == .function && env.kindOf n == some .cell)=true
   ·rw [if_pos hc] at h
    simp only [Ql,hx] at h
    exact ih h
   ·rw [if_neg hc] at h
    simp only [Ql,hx] at h
    exact ih h
noncomputable def F8 (X:Cx)(scope:Scope)(N:List Str)(σ σ0:St):Prop :=
 σ0.length=N.length/\∀(i:Nat)(x:Str)(v:V),N[i]?=some x->σ0[i]?=some (some v)->∃ j:Nat,X.N[j]?=some x/\σ[j]?=some (some v)/\scope.names.lookup x=some .free/\(X.env.kindOf x=some .cell\/X.env.kindOf x=some .free)
section
variable {X:Cx}
theorem Zpz {scope:Scope}{N:List Str}{pins:List (Addr×Obj)}{σ σ0:St}{H:Hp}{s:Shared}{h':Heap}{tk:Nat}{fp:List Addr}(I:Inv X pins σ H s)(S:Ho scope X.env)(hf:∀ b∈fp,FpOk X pins H b)(hlt:∀ b∈fp,b < s.heap.objs.size)
  (T:F8 X scope N σ σ0) (hn:h'.Ns s.heap.objs.size (fun _=>none)) (hk:∀ b o,s.heap.get? b=some o->h'.get? b=some o) :
  Inv (Cr X scope s.heap.objs.size N s H fp) [] σ0 H { s with heap:=h',toks:=tk }:=by
 have subC:∀ x c,(Du X.env scope.names []).lookup x=some c->X.env.cells.lookup x=some c:=fun x c e=>Zee (ns:=scope.names) (acc:=[]) (fun y d z=>by simp at z) e
 have hasC:∀ x,scope.names.lookup x=some .free->∃ c,(Du X.env scope.names []).lookup x=some c:=fun x e=>by
  have m:=Ru e
  exact Rs.mp (Zg2 m (S.free _ m rfl))
 have fsN:∀ b∈fp,b ∉ Bd X.stack:=fun b hb z=>by
  obtain ⟨_,f1,f2,_⟩:=hf b hb
  rcases O1.mp (I.stkSub b z) with e | e
  ·exact f1 e
  ·exact f2 e
 have kinds:∀ x,((relabel scope X.env).names.lookup x=some .cell\/(relabel scope X.env).names.lookup x=some .free)->scope.names.lookup x=some .free:=fun x hx=>by
  rcases hx with hx | hx
  ·obtain ⟨k',e,q⟩:=Od hx
   rcases q with q | ⟨q,_⟩
   ·subst q
    exact absurd rfl (S.nocell _ (Ru e))
   ·rw [e,q]
  ·obtain ⟨k',e,q⟩:=Od hx
   rcases q with q | ⟨_,q⟩
   ·rw [e,q]
   ·cases q
 have noex:∀ b o,X.base.get? b=some o->b ∉ fp:=fun b o e hb=>by
  obtain ⟨_,_,_,f3,_⟩:=hf b hb
  rcases f3 with z | z
  ·exact I.ok.noex b o e z
  ·exact absurd (O3 (Ox e) (Pp I.ok.bsz z)) (Qn _)
 refine ⟨⟨I.ok.mod,S.kind,I.ok.glob,I.ok.blt,Oq _,fun x y c e1 e2=>I.ok.inj x y c (subC x c e1) (subC y c e2),fun x hx=>hasC x (kinds x hx),fun x c z=>absurd (show false=true from z) Ov,I.ok.hd,I.ok.frames,.inl rfl,
   fun b hb=>⟨O5 (hlt b hb),fun x c e=>(hf b hb).2.2.2.2.1 x c (subC x c e)⟩,I.bs,Pp I.ok.bsz I.sz,noex,fsN,I.stack,I.stkFree⟩,
  rfl,I.bare,Un.kept hk,⟨_,hn,fun i x v e1 e2 e3=>?_⟩,fun x c e=>?_,I.hok.fresh (Oq _),fun x c e=>I.freeC x c (subC x c e),fun p hp=>absurd (show p∈([]:List (Addr×Obj)) from hp) (by simp),I.hok.kept hk,T.1⟩
 ·obtain ⟨j,hj,hs,hfr,hkd⟩:=T.2 i x v e1 e2
  obtain ⟨m,_,hl⟩:=I.loc
  obtain ⟨u,r,l⟩:=hl j x v hj hs (hkd.elim (fun z=>Or.inr (Or.inl z)) fun z=>Or.inr (Or.inr z))
  refine ⟨u,r,.inr ⟨?_,?_⟩⟩
  ·show (relabel scope X.env).names.lookup x=some .cell\/(relabel scope X.env).names.lookup x=some .free
   rcases e3 with z | z | z
   ·obtain ⟨k',e,q⟩:=Od (show (relabel scope X.env).names.lookup x=some .local from z)
    rw [hfr] at e
    cases e
    rcases q with q | ⟨_,q⟩ <;> cases q
   ·exact .inl z
   ·exact .inr z
  ·obtain ⟨c,hc⟩:=hasC x hfr
   refine ⟨c,hc,?_⟩
   rcases l with ⟨k,_⟩ | ⟨_,c',e,z⟩
   ·rcases hkd with hkd | hkd <;> (rw [hkd] at k;cases k)
   ·have e':=subC x c hc
    rw [e] at e'
    cases e'
    obtain ⟨o,ho,hd⟩:=z
    exact ⟨o,hk _ o ho,hd⟩
 ·obtain ⟨v,o,ho,hd⟩:=I.cell x c (subC x c e)
  exact ⟨v,o,hk _ o ho,hd⟩
theorem Zrc {scope:Scope}{N:List Str}{pins pins':List (Addr×Obj)}{σ σ':St}{H H':Hp}{s s':Shared}{h':Heap}{fp:List Addr}(I:Inv X pins σ H s)(hf:∀ b∈fp,FpOk X pins H b)
  (I':Inv (Cr X scope s.heap.objs.size N s H fp) pins' σ' H' s') (hs:Pf s.heap.objs.size s'.heap h'):Inv X pins σ H' { s' with heap:=h' }:=by
 have hC:H' s.heap.objs.size=none:=I'.free
 have ne:∀ b o,s.heap.get? b=some o->b≠s.heap.objs.size:=fun b o e=>O5 (Ox e)
 have B:Un (Bd X.stack) fp H H' s.heap s'.heap:=I'.base
 refine I.call' (s':={ s' with heap:=h' }) (ch:=fp) I'.os ⟨fun b o e n hb hx=>?_,fun b o e n hb hx=>?_,B.free,fun b o e hx=>?_,B.tups,B.frzs,B.tbls⟩ (fun b o e=>?_) I'.bare (fun b hb=>?_)
 ·exact (hs.2 b (ne b o e)).trans (B.keep b o e n hb hx)
 ·obtain ⟨sl,q⟩:=B.slot b o e n hb hx
  exact ⟨sl,(hs.2 b (ne b o e)).trans q⟩
 ·obtain ⟨o',q⟩:=B.there b o e hx
  exact ⟨o',(hs.2 b (ne b o e)).trans q⟩
 ·refine (I'.hok b o e).stay (fun c w' hc q=>(hs.2 c ?_).trans q) (fun _ q=>q) fun _ _ q=>q
  rintro rfl
  rcases hc with rfl | hc
  ·rw [hC] at e;cases e
  ·rw [hC] at hc;cases hc
 ·obtain ⟨_,f1,_,f3,f4,f5⟩:=hf b hb
  exact ⟨f3,f1,f4,f5⟩
end
section
variable {prog:Program}{w:World}{A:Around}{R:Result->Shared->Prop}{s:Shared}
theorem Zkk {elt target iter:Expr}{ifs:List Expr}{scope:Scope}{pos:Pos}{it acc:Value}{env:Env}(I:Nat->Shared->Prop)
  (turn:∀ n s,I n s->wpAny (model prog w) A (pyNext it) (fun r s₁=>match r with
   | none=>R (.ok .next) s₁
   | some v=>wpAny (model prog w) A (letOwnedTupleGo target it v) (fun _ s₁'=>wpAny (model prog w) A (assign target env v) (fun _ s₂ =>
     wpAny (model prog w) A (forIn ifs true fun c r=>if r=true then do let ok <- isTrue c env (eval c env);pure (ForInStep.yield ok) else pure (ForInStep.yield r)) (fun ok s₃ =>
      if ok=true then wpAny (model prog w) A (eval elt env) (fun x s₄ =>
       wpAny (model prog w) A (call (.builtin "list.append") [acc,x]) (fun _ s₅=>∃ m,m < n/\I m s₅) (fun _ _=>False) s₄) (fun _ _=>False) s₃
      else ∃ m,m < n/\I m s₃) (fun _ _=>False) s₂) (fun _ _=>False) s₁') (fun _ _=>False) s₁) (fun _ _=>False) s)
  (n:Nat) (h:I n s):codeAny (model prog w) A (.compLoop (.ListComp elt [⟨target,iter,ifs,0⟩] scope pos) 0 it acc env) R s:=by
 refine codeAny_loop rfl I (fun n s hI=>?_) n h
 show wpAny _ A ((compTurn (.ListComp elt [⟨target,iter,ifs,0⟩] scope pos) 0 it acc env).onRaise (fun x=>do noteFrame x env;theTreesLotGoes x)) _ _ s
 refine wpAny_noted ?_
 rw [compTurn_list]
 have up:∀{α:Type}{t:Sem α}{Q:α->Shared->Prop}{s:Shared}{E:Value->Shared->Prop},wpAny (model prog w) A t Q (fun _ _=>False) s->wpAny (model prog w) A t Q E s:=fun h=>wpAny_noRaise h
 refine Oo (Ul (Oo (up (Ak (turn n s hI) fun r s₁ h₁=>?_))))
 cases r with
 | none=>exact Op h₁
 | some v =>
  refine Oo (up (Ak h₁ fun _ s₁' h₁'=>?_))
  refine Oo (up (Ak h₁' fun _ s₂ h₂=>Oo (up (Ak h₂ fun ok s₃ h₃=>?_))))
  cases ok with
  | false=>exact Op ⟨rfl,h₃⟩
  | true =>
   exact Oo (Oo (up (Ak h₃ fun x s₄ h₄=>Oo (up (Ak h₄ fun _ s₅ h₅=>Op (Op ⟨rfl,h₅⟩))))))
end
noncomputable def N5 (J:It)(g:TG)(tt:TT)(te:TE)(σ0:St)(H1:Hp)(D:Addr)(Q:VK):Prop :=
 ∃ W:Nat->Nat->St->Hp->Prop,(∃ m,W 0 m σ0 (upd H1 D (.lst [])))/\∀ i m σ' H',W i m σ' H' ->
  (J.stop i H'/\Q (.ref D) H')\/(J.go i H'/\∃ N:St->Hp->Prop,(∀ σ2 H2,N σ2 H2->∃ m',m' < m/\W (i+1) m' σ2 H2)/\∀ x H2,J.yld i H' x H2->g x σ' H2 fun σ2 H3=>tt σ2 H3 fun b H4 =>
   if b=true then te σ2 H4 fun y H5=>∃ ys,H5 D=some (.lst ys)/\ys.length < sizeLine/\N σ2 (upd H5 D (.lst (ys++[y]))) else N σ2 H4)
noncomputable def Mr (wi:TI)(σ0:St->St)(g:TG)(tt:TT)(te:TE):TE:=fun σ H Q=>wi σ H fun J H1=>∀ D,H1 D=none->N5 J g tt te (σ0 σ) H1 D Q
noncomputable def Il (X:Cx)(ifs:List Expr)(t:TT):Prop :=
 ∀(pins:List (Addr×Obj))(s:Shared)(σ:St)(H:Hp)(Q:Bool->Hp->Prop),Inv X pins σ H s->t σ H Q ->
  wpAny (model X.prog X.w) X.A (forIn ifs true fun c r=>if r=true then do let ok <- isTrue c X.env (eval c X.env);pure (ForInStep.yield ok) else pure (ForInStep.yield r)) (TP X pins σ Q) X.xe s
noncomputable def Zbo:TT:=fun _ H Q=>Q true H
theorem Zod {X:Cx}:Il X [] Zbo:=fun _ _ _ H _ I h=>wpAny_tests_nil ⟨H,I,h⟩
section
variable {X:Cx}{elt target iter:Expr}{ifs:List Expr}{scope:Scope}{pos:Pos}{N:List Str}{wi:TI}{σ0:St->St}{g:TG}{tt:TT}{te:TE}
theorem Zhi {pins:List (Addr×Obj)}{σ:St}{H:Hp}{s:Shared}{it:Addr}{fp:List Addr}{tn:Nat->Heap->Prop}{J:It}{Q:Addr->Hp->Prop}{RR:Value->Addr->Result->Shared->Prop}{E:Value->Shared->Prop}
  (hc:X.calm=true) (S:Ho scope X.env) (T:F8 X scope N σ (σ0 σ)) (I:Inv X pins σ H s) (Tn:Gu X.prog X.w X.K target J fp it tn) (st:tn 0 s.heap) (hf:∀ b∈fp,FpOk X pins H b)
  (hg:∀ C s H fp,PG (Cr X scope C N s H fp) target g) (ht:∀ C s H fp,Il (Cr X scope C N s H fp) ifs tt) (he:∀ C s H fp,PE (Cr X scope C N s H fp) elt te)
  (hw:∀ D,H D=none->∃ W:Nat->Nat->St->Hp->Prop,(∃ m,W 0 m (σ0 σ) (upd H D (.lst [])))/\∀ i m σ' H',W i m σ' H' ->
   (J.stop i H'/\Q D H')\/(J.go i H'/\∃ N:St->Hp->Prop,(∀ σ2 H2,N σ2 H2->∃ m',m' < m/\W (i+1) m' σ2 H2)/\∀ x H2,J.yld i H' x H2->g x σ' H2 fun σ2 H3=>tt σ2 H3 fun b H4 =>
    if b=true then te σ2 H4 fun y H5=>∃ ys,H5 D=some (.lst ys)/\ys.length < sizeLine/\N σ2 (upd H5 D (.lst (ys++[y]))) else N σ2 H4))
  (hR:∀(D C:Addr)(H':Hp)(s':Shared)(m:Str->Option Value),s.heap.objs.size<=C->H' C=none->s'.heap.Ns C m->(∀ h',Pf C s'.heap h'->Inv X pins σ H' { s' with heap:=h' })->Q D H'->RR (.ref D) C (.ok .next) s') :
  wpAny (model X.prog X.w) X.A (newList []) (fun acc s₃=>wpAny (model X.prog X.w) X.A (newFunctionEnv scope X.env.globals (Du X.env scope.names []) [] X.env.qual none .none (some X.env)) (fun cenv s₄ =>
   codeAny (model X.prog X.w) X.A (.compStart (.ListComp elt [⟨target,iter,ifs,0⟩] scope pos) 0 (.ref it) acc { cenv with scope:=relabel scope X.env }) (RR acc cenv.locals) s₄) E s₃) E s:=by
 refine Rk (wpAny_newFunctionEnv S.nocell (by intro y hy;simp at hy) (fun h₁ hns₁ hsb₁=>?_) S.kind)
 have hD:H s.heap.objs.size=none:=I.hok.fresh (Oq _)
 have I3:Inv X pins σ (upd H s.heap.objs.size (.lst [])) { s with heap:=s.heap.push { cls:=.type "list",dict:=none,data:=.seq ([]:List Value).toArray } }:=I.lnew (ys:=[]) (its:=[]) (t':=s.toks) .nil (by simp)
 have hlt:∀ b∈fp,b < s.heap.objs.size:=fun b hb=>by obtain ⟨o,e,_⟩:=Tn.obj _ _ st b hb;exact Ox e
 have hf3:∀ b∈fp,FpOk X pins (upd H s.heap.objs.size (.lst [])) b:=fun b hb=>⟨by rw [Ay (O5 (hlt b hb))];exact (hf b hb).1,(hf b hb).2⟩
 have hlt3:∀ b∈fp,b < ({ s with heap:=s.heap.push { cls:=.type "list",dict:=none,data:=.seq ([]:List Value).toArray } }:Shared).heap.objs.size:=fun b hb=>by
  show b < (s.heap.push _).objs.size
  rw [P9]
  exact Nat.lt_succ_of_lt (hlt b hb)
 have hk1:∀ b o,({ s with heap:=s.heap.push { cls:=.type "list",dict:=none,data:=.seq ([]:List Value).toArray } }:Shared).heap.get? b=some o->h₁.get? b=some o:=fun b o e =>
  hsb₁.extBut b o (O5 (Ox e)) (Ot _ e)
 have I4:=Zpz (N:=N) (tk:=s.toks+([]:List (Str×Value)).length) I3 S hf3 hlt3 T hns₁ hk1
 have st4:tn 0 h₁:=Tn.keep _ _ _ st fun b hb o e=>hk1 b o (Ot _ e)
 obtain ⟨W,⟨m0,w0⟩,turn⟩:=hw _ hD
 generalize hX:Cr X scope ({ s with heap:=s.heap.push { cls:=.type "list",dict:=none,data:=.seq ([]:List Value).toArray } }:Shared).heap.objs.size N { s with heap:=s.heap.push { cls:=.type "list",dict:=none,data:=.seq ([]:List Value).toArray } } (upd H s.heap.objs.size (.lst [])) fp=X' at I4
 have eP:X'.prog=X.prog:=by rw [<- hX];rfl
 have eW:X'.w=X.w:=by rw [<- hX];rfl
 have eK:X'.K=X.K:=by rw [<- hX];rfl
 have eA:X'.A=X.A:=by rw [<- hX];rfl
 have eC:X'.calm=true:=by rw [<- hX];exact hc
 have eX:X'.xe=fun _ _=>False:=by rw [<- hX];rfl
 have eEx:X'.ex=fp:=by rw [<- hX];rfl
 have hg':PG X' target g:=by rw [<- hX];exact hg _ _ _ _
 have ht':Il X' ifs tt:=by rw [<- hX];exact ht _ _ _ _
 have he':PE X' elt te:=by rw [<- hX];exact he _ _ _ _
 have eE:X'.env=compEnvC scope (Du X.env scope.names []) ({ s with heap:=s.heap.push { cls:=.type "list",dict:=none,data:=.seq ([]:List Value).toArray } }:Shared).heap.objs.size X.env:=by rw [<- hX];rfl
 have fpIn:∀{H':Hp},(∀ b∈fp,H' b=none)->∀ b∈fp,FpOk X' [] H' b:=fun {H'} hn b hb=>by
  obtain ⟨f0,f1,f2,f3,f4,f5⟩:=hf3 b hb
  rw [<- hX]
  refine ⟨hn b hb,O5 (hlt3 b hb),fun z=>?_,.inl hb,fun x c e=>f4 x c (Zee (ns:=scope.names) (acc:=[]) (fun y d z=>by simp at z) e),fun p hp=>absurd (show p∈([]:List (Addr×Obj)) from hp) (by simp)⟩
  rcases O1.mp (I3.stkSub b z) with e | e
  ·exact f1 e
  ·exact f2 e
 have fr0:∀ b∈fp,upd H s.heap.objs.size (.lst []) b=none:=fun b hb=>(hf3 b hb).1
 have loop:codeAny (model X.prog X.w) X.A (.compLoop (.ListComp elt [⟨target,iter,ifs,0⟩] scope pos) 0 (.ref it) (.ref s.heap.objs.size) X'.env)
   (RR (.ref s.heap.objs.size) ({ s with heap:=s.heap.push { cls:=.type "list",dict:=none,data:=.seq ([]:List Value).toArray } }:Shared).heap.objs.size)
   { s with heap:=h₁,toks:=s.toks+([]:List (Str×Value)).length }:=by
  refine Zkk (fun n s'=>∃ i σ' H',Inv X' [] σ' H' s'/\tn i s'.heap/\(∀ b∈fp,H' b=none)/\W i n σ' H') ?_ m0 ⟨0,σ0 σ,_,I4,st4,fr0,w0⟩
  rintro n s5 ⟨i,σ5,H5,I5,st5,fr5,w5⟩
  rcases turn i n σ5 H5 w5 with ⟨stop,qn⟩ | ⟨go,Nx,hN,step⟩
  ·have q:=Tn.done X' eP eW eK eC i [] s5 σ5 H5 (fun _ _=>False) I5 (fpIn fr5) st5 stop
   rw [eA] at q
   refine Ak q fun r s6 zq=>?_
   obtain ⟨hr,I6⟩:=zq
   subst hr
   obtain ⟨mm,hns6,_⟩:=I6.loc
   rw [eE] at hns6
   have fr6:=I6.free
   rw [eE] at fr6
   refine hR _ _ H5 s6 mm ?_ fr6 hns6 (fun h' hs=>?_) qn
   ·show s.heap.objs.size<=(s.heap.push _).objs.size
    rw [P9]
    exact Us _
   ·rw [<- hX] at I6
    exact Zrc I3 hf3 I6 hs
  ·have q:=Tn.item X' eP eW eK eC i [] s5 σ5 H5 (fun _ _=>False) I5 (fpIn fr5) st5 go
   rw [eA] at q
   refine Ak q fun r s6 zq=>?_
   obtain ⟨u,hr,h6⟩:=zq
   subst hr
   refine Ak h6 fun _ s7 zq=>?_
   obtain ⟨x,H7,I7,r7,y7,st7,fr7⟩:=zq
   have I7':=I7.pinned (fpIn fr7) (Tn.obj _ _ st7)
   have q8:=hg' _ s7 σ5 H7 x u _ I7' r7 (step x H7 y7)
   rw [eP,eW,eA,eX] at q8
   refine Ak q8 fun _ s8 zq=>?_
   obtain ⟨σ8,H8,I8,q8⟩:=zq
   have q9:=ht' _ s8 σ8 H8 _ I8 q8
   rw [eP,eW,eA,eX] at q9
   refine Ak q9 fun ok s9 zq=>?_
   obtain ⟨H9,I9,q9⟩:=zq
   have again:∀{σ10:St}{H10:Hp}{s10:Shared},Inv X' ([]++K2 fp s7.heap) σ10 H10 s10->Nx σ10 H10->∃ m,m < n/\∃ i σ' H',Inv X' [] σ' H' s10/\tn i s10.heap/\(∀ b∈fp,H' b=none)/\W i m σ' H':=fun {σ10 H10 s10} J10 n10=>by
    obtain ⟨m',hm,w10⟩:=hN σ10 H10 n10
    refine ⟨m',hm,i+1,σ10,H10,J10.unpinned,Tn.keep _ _ _ st7 fun b hb o e=>(J10.pin (b,o) (Qr _ (Qr _ (Nj hb e)))).1,fun b hb=>?_,w10⟩
    obtain ⟨o,e,d⟩:=Tn.obj _ _ st7 b hb
    exact (J10.pin (b,o) (Qr _ (Qr _ (Nj hb e)))).2.1
   cases ok with
   | false =>
    have q9':Nx σ8 H9:=q9
    exact again I9 q9'
   | true =>
    have q9':te σ8 H9 _:=q9
    have q10:=he' _ s9 σ8 H9 _ I9 q9'
    rw [eP,eW,eA,eX] at q10
    refine Ak q10 fun y s10 zq=>?_
    obtain ⟨yv,H10,I10,r10,ys,hys,hz,n10⟩:=zq
    have q11:=(E1 (X:=X')) _ s10 σ8 H10 (.ref s.heap.objs.size) [yv] (.ref s.heap.objs.size) [y] (fun _ H11=>Nx σ8 H11) I10 rfl (.cons r10 .nil) ⟨_,ys,yv,rfl,rfl,hys,hz,n10⟩
    rw [eP,eW,eA,eX] at q11
    exact Ak q11 fun _ s11 ⟨_,H11,I11,_,n11⟩=>again I11 n11
 rw [eE] at loop
 exact codeAny_compStart_list loop (Tn.self _ 0 _ _ _ st4 loop)
theorem Zrv (hc:X.calm=true)(S:Ho scope X.env)(hi:PI X target iter wi)(T:∀ σ,σ.length=X.N.length->F8 X scope N σ (σ0 σ))
  (hg:∀ C s H fp,PG (Cr X scope C N s H fp) target g) (ht:∀ C s H fp,Il (Cr X scope C N s H fp) ifs tt) (he:∀ C s H fp,PE (Cr X scope C N s H fp) elt te)
  (hs:∀ x,foldedSetIterable iter X.env x=pure x:=by intro _;rfl):PE X (.ListComp elt [⟨target,iter,ifs,0⟩] scope pos) (Mr wi σ0 g tt te):=by
 intro pins s σ H Q I h
 rw [eval_ListComp]
 refine wpAny_comprehension_free (use:=none) rfl hs (Zfs S.free) S.kind S.loc (Ak (hi pins s σ H _ I h) fun xv s₁ h₁=>Ak h₁ fun itv s₂ h₂=>?_)
 obtain ⟨it,fp,tn,J,H2,rfl,I2,Tn,st2,f2,hw⟩:=h₂
 refine Zhi (Q:=fun D H'=>Q (.ref D) H') (RR:=fun acc C=>compPost (model X.prog X.w) X.A X.xe none (EP X pins σ Q) acc C) hc S (T σ I.len) I2 Tn st2 f2 hg ht he hw ?_
 intro D C H' s' m hC _ hn hI hq
 exact ⟨m,hn,fun h' hs'=>⟨.ref D,H',hI h' hs',rfl,hq⟩⟩
theorem Zkm {i:Nat}{y:Str}{py spos:Pos}(hc:X.calm=true)(S:Ho scope X.env)(hi:PI X target iter wi)(T:∀ σ,σ.length=X.N.length->F8 X scope N σ (σ0 σ))
  (hg:∀ C s H fp,PG (Cr X scope C N s H fp) target g) (ht:∀ C s H fp,Il (Cr X scope C N s H fp) ifs tt) (he:∀ C s H fp,PE (Cr X scope C N s H fp) elt te)
  (hN:X.N.Nodup) (hy:X.N[i]?=some y) (hx:E6 X.env.scope y)
  (hsw:swapsWith (.ListComp elt [⟨target,iter,ifs,0⟩] scope pos) (some (.Name y py)) spos.line X.env=pure true:=by rfl)
  (hf:X.fn y=true\/X.env.scope.names.lookup y=some .local:=by first | exact .inl rfl | exact .inr rfl | assumption)
  (hs:∀ x,foldedSetIterable iter X.env x=pure x:=by intro _;rfl):PS X (.Assign [.Name y py] (.ListComp elt [⟨target,iter,ifs,0⟩] scope pos) spos) (Fl (Mr wi σ0 g tt te) (Ft i)):=by
 intro pins s σ H D I h
 rw [exec_Assign_Name_used _ _ _ _ hsw]
 refine Oo (Ul (Oo ?_))
 show wpAny _ X.A (do let _ <- comprehension (.ListComp elt [⟨target,iter,ifs,0⟩] scope pos) scope X.env _ (newList []) false (eval iter X.env) (some (assign (.Name y py) X.env))) _ _ s
 refine Oo (Ak (wpAny_comprehension_free (use:=some (assign (.Name y py) X.env)) (Q:=fun _ s'=>SP X pins D .next s') rfl hs (Zfs S.free) S.kind S.loc
  (Ak (hi pins s σ H _ I h) fun xv s₁ h₁=>Ak h₁ fun itv s₂ h₂=>?_)) fun _ s' hq=>Op (Op hq))
 obtain ⟨it,fp,tn,J,H2,rfl,I2,Tn,st2,f2,hw⟩:=h₂
 refine Zhi (Q:=fun L H'=>D.nx (σ.set i (some (.ref L))) H') (RR:=fun acc C=>compPost (model X.prog X.w) X.A X.xe (some (assign (.Name y py) X.env)) (fun _ s'=>SP X pins D .next s') acc C) hc S (T σ I.len) I2 Tn st2 f2 hg ht he hw ?_
 intro L C H' s' m hC hfree hn hI hq
 have I3:Inv X pins σ H' s':=hI s'.heap (.refl ..)
 refine wpAny_assign_Name (Zie I3 hN hy hx (v:=.ref L) rfl (fun s4 I4 hch=>?_) hf)
 obtain ⟨a,hsb,ha⟩:=hch
 have haC:C≠a:=by
  rintro rfl
  rcases ha with e | e
  ·have:=I2.lt
   rw [<- e] at this
   exact absurd (O3 this hC) (Qn _)
  ·obtain ⟨v,z⟩:=I2.cell y _ e
   exact absurd (O3 z.lt hC) (Qn _)
 refine ⟨m,hn.sameBut hsb haC,fun h' hs'=>⟨_,H',?_,hq⟩⟩
 have e4:({ s4 with heap:=h' }:Shared)={ s4 with heap:=h',toks:=s4.toks }:=rfl
 rw [e4]
 refine I4.turned (it:=C) (fun b o hb e=>(hs'.2 b hb).trans e) hfree ?_ (.inr (Pp I2.sz hC)) ?_ ?_
 ·exact Q9 (O3 I2.lt hC)
 ·rintro x c e rfl
  obtain ⟨v,z⟩:=I2.cell x _ e
  exact absurd (O3 z.lt hC) (Qn _)
 ·rintro p hp e
  exact absurd (O3 (Ox (I2.pin p hp).1) (by rw [e];exact hC)) (Qn _)
end
section
variable {X:Cx}
theorem M4 {K:On}{T:String}:O0 K (.type T) (.type T)=some true:=by
 unfold O0
 rw [if_pos (by simp)]
theorem Zrz {K:On}{T U:String}{b:Bool}{l:List Value}(hm:Vu U=true)(hn:¬ T=U)(hl:fastBuiltinMro T=some l)(hb:l.contains (.type U)=b):O0 K (.type T) (.type U)=some b:=by
 unfold O0
 rw [if_neg (by simp [hn])]
 show (if Vu U=true then Pe K (.type T) (.type U) else none)=some b
 rw [if_pos hm]
 show (fastBuiltinMro T).map (·.contains (.type U))=some b
 rw [hl,<- hb]
 rfl
theorem Zl2:OpR X (compareOp .LtE) (fun x y H Q=>∃ i j,x=.str i/\y=.str j/\Q (.bl (!(decide (j.cps.toList < i.cps.toList)))) H):=by
 intro pins s σ H x y v u Q I rx ry h
 obtain ⟨i,j,rfl,rfl,q⟩:=h
 obtain ⟨t,rfl⟩:=rx
 obtain ⟨t',rfl⟩:=ry
 exact PySem.P.le_str (Ba I q rfl)
theorem Zn3:OpR X (compareOp .In) (fun x y H Q=>∃(c:Nat)(j:Str),x=.str ⟨#[c]⟩/\y=.str j/\Q (.bl (decide (c∈j.cps.toList))) H):=by
 intro pins s σ H x y v u Q I rx ry h
 obtain ⟨c,j,rfl,rfl,q⟩:=h
 exact Zvh pins s σ H _ _ v u Q I rx ry ⟨_,_,rfl,rfl,by rw [StrLaws.found_one];exact q⟩
theorem Zrr:OpR X (compareOp .NotIn) (fun x y H Q=>∃(c:Nat)(j:Str),x=.str ⟨#[c]⟩/\y=.str j/\Q (.bl (!decide (c∈j.cps.toList))) H):=by
 intro pins s σ H x y v u Q I rx ry h
 obtain ⟨c,j,rfl,rfl,q⟩:=h
 exact Zp1 pins s σ H _ _ v u Q I rx ry ⟨_,_,rfl,rfl,by rw [StrLaws.found_one];exact q⟩
noncomputable def Zct:V->Option Int->Option Int->Hp->VK->Prop:=fun x lo hi H Q=>∃ z,x=.str z/\z.length<=sizeLine/\Q (.str (Qg z lo hi)) H
theorem sl_str:SlR X Zct:=by
 intro pins s σ H x v vl vu lo hi sl Q I rx hs pl pu h
 obtain ⟨z,rfl,hz,q⟩:=h
 obtain ⟨t,rfl⟩:=rx
 obtain ⟨o,ho,hc,hd⟩:=hs
 refine ⟨"str",_,slot_str_getitem.lookup,typeIs_str _ _ _,?_⟩
 cases pl with
 | none =>
  cases pu with
  | none=>exact T1 (l:=none) (u:=none) (st:=none) ⟨_,ho,hc,hd⟩ rfl (Ud ⟨Pp (Uq z _ _) hz,fun t' k=>⟨.str (Qg z _ _),H,I.tok k,⟨t',rfl⟩,q⟩⟩)
  | int j u=>exact T1 (l:=none) (u:=some (j,u)) (st:=none) ⟨_,ho,hc,hd⟩ rfl (Ud ⟨Pp (Uq z _ _) hz,fun t' k=>⟨.str (Qg z _ _),H,I.tok k,⟨t',rfl⟩,q⟩⟩)
 | int i ti =>
  cases pu with
  | none=>exact T1 (l:=some (i,ti)) (u:=none) (st:=none) ⟨_,ho,hc,hd⟩ rfl (Ud ⟨Pp (Uq z _ _) hz,fun t' k=>⟨.str (Qg z _ _),H,I.tok k,⟨t',rfl⟩,q⟩⟩)
  | int j u=>exact T1 (l:=some (i,ti)) (u:=some (j,u)) (st:=none) ⟨_,ho,hc,hd⟩ rfl (Ud ⟨Pp (Uq z _ _) hz,fun t' k=>⟨.str (Qg z _ _),H,I.tok k,⟨t',rfl⟩,q⟩⟩)
theorem Zj4 {z:Str}{lo hi:Option Int}{c:Nat}(h:c∈(Qg z lo hi).cps.toList):c∈z.cps.toList:=by
 unfold Qg at h
 split at h
 ·exact h
 ·obtain ⟨i,_,e⟩:=Vd.mp (by simpa using h)
  exact Pd (by simpa using e)
theorem Zii:∀{ys:List Str}{us:List Value},Vals (ys.map V.str) us->StrsAre us ys
 | [],_,.nil=>.nil
 | y::ys,_,.cons r t=>by
  obtain ⟨tk,rfl⟩:=r
  exact .cons y tk (Zii t)
noncomputable def Zb9 (K:On):V->List V->Hp->VK->Prop:=fun x vs H Q=>∃ sep p ys,x=.str sep/\vs=[.ref p]/\SqL K H p (ys.map V.str)/\(ys.map (·.length)).sum+ys.length * sep.length<=16777216/\Q (.str (Txt.join sep ys)) H
theorem Zj2:G1 X "str.join" (Zb9 X.K):=by
 intro pins s σ H x vs v us Q I rx rv h
 obtain ⟨sep,p,ys,rfl,rfl,hq,hz,q⟩:=h
 obtain ⟨t,rfl⟩:=rx
 obtain ⟨u,rfl,ru⟩:=rv.one
 cases ru
 obtain ⟨its,r,pl,_⟩:=I.list hq
 exact join_list pl.isList (by simpa using Zii r) hz fun t' k=>⟨.str (Txt.join sep ys),H,I.tok k,⟨t',rfl⟩,q⟩
end
noncomputable def Hi (z:Str):It:=⟨fun i _=>i < z.cps.size,fun i H x H'=>H'=H/\∃ c,z.cps.toList[i]?=some c/\x=.str ⟨#[c]⟩,fun i _=>i=z.cps.size⟩
theorem Zob (z:Str):["enumerate", "zip", "dict_itemiterator", "dict_reverseitemiterator", "odict_iterator", "itertools.zip_longest", "itertools.pairwise"].contains (strIterType z)=false:=by
 unfold strIterType
 cases z.cps.all (· < 128) <;> decide
theorem Zg8 {P:Program}{w:World}{A:Around}(hh:A.handled=none)(it:Addr)(z:Str)(t:Tok):Walks P w A it [it] [it] z.cps.size (SignAt z) (fun i h=>h.IsStrIter it (strIterType z) z t i):=by
 unfold strIterType
 cases z.cps.all (· < 128)
 ·exact Walks.strWide hh it z t
 ·exact Walks.strAscii hh it z t
theorem Ztf {P:Program}{w:World}{K:On}{tg:Expr}(it:Addr)(z:Str)(t:Tok):Gu P w K tg (Hi z) [it] it (fun i h=>h.IsStrIter it (strIterType z) z t i) where
 mem:=by simp
 obj:=fun i h st b hb=>by
  have e:b=it:=by simpa using hb
  subst e
  obtain ⟨o,e,c,d⟩:=st
  exact ⟨o,e,fun v z=>by rw [d] at z;cases z⟩
 keep:=fun i h h' st k=>let ⟨o,e,r⟩:=st;⟨o,k it (by simp) o e,r⟩
 item:=by
  intro X hP hw hK hc i pins s σ H E I hf st hg
  subst hP hw hK
  obtain ⟨f0,f1,f2,f3,f4,f5⟩:=hf it (by simp)
  refine (Zg8 (P:=X.prog) (w:=X.w) (I.ok.hd hc) it z t).item i s _ _ hg st fun v h' tk hv st' kk=>?_
  obtain ⟨c,u,hcu,rfl⟩:=hv
  have I1:Inv X pins σ H { s with heap:=h',toks:=tk }:=I.turned (fun b o hb e=>kk b o (by simpa using hb) e) f0 f1 f3 f4 f5
  obtain ⟨o,e,cc,d⟩:=id st'
  exact ⟨_,rfl,Iw (s:={ s with heap:=h',toks:=tk }) e cc d (Zob z) ⟨.str ⟨#[c]⟩,H,I1,⟨u,rfl⟩,⟨rfl,c,by simpa using hcu,rfl⟩,st',fun b hb=>(hf b hb).1⟩⟩
 done:=by
  intro X hP hw hK hc i pins s σ H E I hf st hg
  subst hP hw hK
  obtain ⟨f0,f1,f2,f3,f4,f5⟩:=hf it (by simp)
  have hg:i=z.cps.size:=hg
  subst hg
  exact (Zg8 (P:=X.prog) (w:=X.w) (I.ok.hd hc) it z t).done s _ _ st fun h' tk kk=>⟨rfl,I.turned (fun b o hb e=>kk b o (by simpa using hb) e) f0 f1 f3 f4 f5⟩
 self:=fun A i s Q E st h=>by
  obtain ⟨o,e,c,d⟩:=st
  unfold strIterType at c
  cases ha:z.cps.all (· < 128)
  ·rw [ha] at c;exact wpAny_pyIter_striter_wide ⟨o,e,c,d⟩ h
  ·rw [ha] at c;exact wpAny_pyIter_striter_ascii ⟨o,e,c,d⟩ h
section
variable {X:Cx}{tg:Expr}
theorem Zku {z:Str}{g:TG}{tb:TS}{D:Ends}{σ:St}{H:Hp}(Pv:Nat->St->Hp->Prop)(h0:Pv 0 σ H)
  (hs:∀ i c σ H,z.cps.toList[i]?=some c->Pv i σ H->g (.str ⟨#[c]⟩) σ H fun σ2 H2=>tb { D with nx:=Pv (i+1),ct:=Pv (i+1),bk:=D.nx } σ2 H2) (hd:∀ σ H,Pv z.cps.size σ H->D.nx σ H) :
  ∃ W:Nat->Nat->St->Hp->Prop,(∃ m,W 0 m σ H)/\∀ i m σ H,W i m σ H ->
   ((Hi z).stop i H/\D.nx σ H)\/((Hi z).go i H/\∃ N:St->Hp->Prop,(∀ σ' H',N σ' H'->∃ m',m' < m/\W (i+1) m' σ' H')/\∀ x H',(Hi z).yld i H x H'->g x σ H' fun σ2 H2=>tb { D with nx:=N,ct:=N,bk:=D.nx } σ2 H2):=by
 refine ⟨fun i m σ H=>m=z.cps.size - i/\i<=z.cps.size/\Pv i σ H,⟨z.cps.size,by simp,P3 _,h0⟩,?_⟩
 rintro i m σ H ⟨rfl,hi,p⟩
 by_cases hlt:i < z.cps.size
 ·refine .inr ⟨hlt,Pv (i+1),fun σ' H' p'=>⟨z.cps.size - (i+1),by omega,rfl,hlt,p'⟩,fun x H' y=>?_⟩
  obtain ⟨e,c,hc,y⟩:=y
  subst e y
  exact hs i c σ _ hc p
 ·have e:i=z.cps.size:=by omega
  subst e
  exact .inl ⟨rfl,hd σ H p⟩
end
section
variable {g:TG}{tt:TT}{te:TE}{σ0:St}{H1:Hp}{D:Addr}{Q:VK}
noncomputable def Zdt (g:TG)(tt:TT)(te:TE)(D:Addr)(Nx:List V->St->Hp->Prop)(x:V)(σ:St)(H:Hp):Prop :=
 g x σ H fun σ2 H3=>tt σ2 H3 fun b H4=>if b=true then te σ2 H4 fun y H5=>∃ ys,H5 D=some (.lst ys)/\ys.length < sizeLine/\(∃ zs,upd H5 D (.lst (ys++[y])) D=some (.lst zs)/\Nx zs σ2 (upd H5 D (.lst (ys++[y])))) else ∃ zs,H4 D=some (.lst zs)/\Nx zs σ2 H4
theorem Hn {lo:Int}{n:Nat}(Pv:Nat->List V->St->Hp->Prop)(h0:Pv 0 [] σ0 (upd H1 D (.lst [])))
  (hs:∀ i ys σ H,i < n->H D=some (.lst ys)->Pv i ys σ H->Zdt g tt te D (Pv (i+1)) (.int (lo+i)) σ H)
  (hd:∀ ys σ H,H D=some (.lst ys)->Pv n ys σ H->Q (.ref D) H):N5 (Gb lo n) g tt te σ0 H1 D Q:=by
 refine ⟨fun i m σ H=>m=n - i/\i<=n/\∃ ys,H D=some (.lst ys)/\Pv i ys σ H,⟨n,by simp,P3 _,[],Ag,h0⟩,?_⟩
 rintro i m σ H ⟨rfl,hi,ys,hD,p⟩
 by_cases hlt:i < n
 ·refine .inr ⟨hlt,fun σ2 H2=>∃ zs,H2 D=some (.lst zs)/\Pv (i+1) zs σ2 H2,fun σ' H' p'=>⟨n - (i+1),by omega,rfl,hlt,p'⟩,fun x H' y=>?_⟩
  obtain ⟨e,y⟩:=y
  subst e y
  exact hs i ys σ _ hlt hD p
 ·have e:i=n:=by omega
  subst e
  exact .inl ⟨Oq _,hd ys σ H hD p⟩
theorem Zb2 {z:Str}(Pv:Nat->List V->St->Hp->Prop)(h0:Pv 0 [] σ0 (upd H1 D (.lst [])))
  (hs:∀ i c ys σ H,z.cps.toList[i]?=some c->H D=some (.lst ys)->Pv i ys σ H->Zdt g tt te D (Pv (i+1)) (.str ⟨#[c]⟩) σ H)
  (hd:∀ ys σ H,H D=some (.lst ys)->Pv z.cps.size ys σ H->Q (.ref D) H):N5 (Hi z) g tt te σ0 H1 D Q:=by
 refine ⟨fun i m σ H=>m=z.cps.size - i/\i<=z.cps.size/\∃ ys,H D=some (.lst ys)/\Pv i ys σ H,⟨z.cps.size,by simp,P3 _,[],Ag,h0⟩,?_⟩
 rintro i m σ H ⟨rfl,hi,ys,hD,p⟩
 by_cases hlt:i < z.cps.size
 ·refine .inr ⟨hlt,fun σ2 H2=>∃ zs,H2 D=some (.lst zs)/\Pv (i+1) zs σ2 H2,fun σ' H' p'=>⟨z.cps.size - (i+1),by omega,rfl,hlt,p'⟩,fun x H' y=>?_⟩
  obtain ⟨e,c,hc,y⟩:=y
  subst e y
  exact hs i c ys σ _ hc hD p
 ·have e:i=z.cps.size:=by omega
  subst e
  exact .inl ⟨rfl,hd ys σ H hD p⟩
end
section
variable {X:Cx}
theorem Zfu:∀{bs:List Bool}{us:List Value},Vals (bs.map V.bl) us->us=bs.map Value.bool
 | [],_,.nil=>rfl
 | b::bs,_,.cons r t=>by
  cases r
  rw [Zfu t]
  rfl
theorem Zlx {bs:List Bool}:(Pc bs.length).all (fun i=>bs.getD i true)=bs.all id:=by
 induction bs with
 | nil=>rfl
 | cons b r ih =>
  rw [Ph,List.range_succ_eq_map,Ry,List.all_map,Ry]
  have:((fun i=>(b::r).getD i true) ∘ Nat.succ)=fun i=>r.getD i true:=by
   funext i
   simp
  rw [this,ih]
  rfl
theorem Zup (hc:X.calm=true):B4 X (.builtin "all") (fun xs H Q=>∃(p:Addr)(bs:List Bool),xs=[.ref p]/\SqL X.K H p (bs.map V.bl)/\Q (.bl (bs.all id)) H):=by
 intro pins s σ H xs us Q I r h
 obtain ⟨p,bs,rfl,hq,q⟩:=h
 obtain ⟨u,rfl,ru⟩:=r.one
 cases ru
 obtain ⟨its,rv,pl,hz⟩:=I.list hq
 obtain rfl:=Zfu rv
 refine call_all_walk (Vj pl.isList ?_)
 have hlt:p < s.heap.objs.size:=by obtain ⟨o,e,_⟩:=pl.isList;exact Ox e
 have hl':(s.heap.push { cls:=.type "list_iterator",data:=.fields #[.ref p,rawInt 0] }).IsList p (bs.map Value.bool).toArray:=pl.isList.at fun o e=>Ot _ e
 refine ⟨s.heap.objs.size,_,_,_,_,_,fun i=>bs.getD i true,rfl,Walks.list (A:=X.A.in1) (show X.A.in1.handled=none from I.ok.hd hc) s.heap.objs.size p (O5 hlt) (bs.map Value.bool).toArray,⟨⟨_,O2 _ rfl,rfl,rfl⟩,?_⟩,?_,?_⟩
 ·exact pl.isList.at fun o e=>Ot _ e
 ·intro i v s' Q' E' hv hQ
  have hv':(bs.map Value.bool)[i]?=some v:=by simpa using hv
  rw [R9] at hv'
  cases e:bs[i]? with
  | none=>rw [e] at hv';cases hv'
  | some b =>
   rw [e] at hv'
   cases hv'
   have:bs.getD i true=b:=by simp [List.getD,e]
   have hQ:Q' (bs.getD i true) s':=hQ
   rw [this] at hQ
   exact Qk hQ
 ·intro h' tk hk
  have I1:Inv X pins σ H { s with heap:=s.heap.push { cls:=.type "list_iterator",data:=.fields #[.ref p,rawInt 0] } }:=I.kept (t':=s.toks) fun b o e=>Ot _ e
  have F:=I.fpOk (Oq s.heap.objs.size) (I.hok.fresh (Oq _))
  obtain ⟨f0,f1,f2,f3,f4,f5⟩:=F
  have I2:Inv X pins σ H { s with heap:=h',toks:=tk }:=Inv.turned (s:={ s with heap:=s.heap.push { cls:=.type "list_iterator",data:=.fields #[.ref p,rawInt 0] } }) (h':=h') (t':=tk) (it:=s.heap.objs.size) I1 (fun b o hb e=>hk b o (by simpa using hb) e) f0 f1 f3 f4 f5
  refine ⟨.bl (bs.all id),H,I2,?_,q⟩
  show Value.bool _=Value.bool _
  have:(bs.map Value.bool).toArray.size=bs.length:=by simp
  rw [this,Zlx]
end
theorem Same.upd {H:Hp}{p:Addr}{o:HO}(h:H p=none):Same H (upd H p o):=fun b u e=>by rw [Ay (Cq e h)];exact e
theorem newQ {H:Hp}{a:Addr}(h:H a=none)(o:HO):∃ H1,Same H H1/\H1 a=some o/\upd H a o=H1:=⟨_,Same.upd h,Ag,rfl⟩
theorem Same.put {H0 H:Hp}{p:Addr}{o:HO}(s:Same H0 H)(h:H p=none):Same H0 (L2.upd H p o):=s.trans (Same.upd h)
theorem Same.over {H0 H:Hp}{p:Addr}{o:HO}(s:Same H0 H)(h:H0 p=none):Same H0 (L2.upd H p o):=fun b u e=>by rw [Ay (Cq e h)];exact s b u e
theorem Same.tup {K:On}{H H':Hp}{a:Addr}{xs:List V}(e:Same H H')(h:SqT K H a xs):SqT K H' a xs:=by
 rcases h with (h | ⟨o,h⟩) | h
 ·exact .inl (.inl (e _ _ h))
 ·exact .inl (.inr ⟨o,e _ _ h⟩)
 ·exact .inr h
theorem E8 {sc out:Scope}{qual:Str}{n:Nat}{f:Addr}{cd:Value}(hk:sc.kind=.function)(hc:(sc.names.all fun y=>y.2 != .cell)=true)
  (hl:(sc.names.all fun y=>y.2 != .local || sc.names.lookup y.1 == some .local)=true) (hf:(sc.names.all fun y=>y.2 != .free || out.names.lookup y.1 == some .cell)=true):Ho sc (envOfC qual out n f cd) where
 kind:=hk
 nocell:=fun y hy e=>by have:=Pj.mp hc y hy;rw [e] at this;cases this
 loc:=fun y hy e=>by
  have:=Pj.mp hl y hy
  rw [e] at this
  simpa using this
 free:=fun y hy e=>by
  have h:=Pj.mp hf y hy
  rw [e] at h
  have h:out.names.lookup y.1=some .cell:=by simpa using h
  obtain ⟨c,hc⟩:=Za9 (n:=n+1) h
  show ((cellsFrom (n+1) out.names []).lookup y.1).isSome=true
  rw [hc]
  rfl
noncomputable def Dh (k:Nat)(cap:List Nat)(σ:St):St:=Oy k none++cap.map fun j=>(σ[j]?).join
theorem Zuh {X:Cx}{scope:Scope}{N:List Str}{k:Nat}{cap:List Nat}{σ:St}(hl:k+cap.length=N.length)
  (h:∀(i j:Nat)(x:Str),cap[i]?=some j->N[k+i]?=some x->X.N[j]?=some x/\scope.names.lookup x=some .free/\(X.env.kindOf x=some .cell\/X.env.kindOf x=some .free)):F8 X scope N σ (Dh k cap σ):=by
 refine ⟨by unfold Dh;simp [hl],fun i x v hx hv=>?_⟩
 unfold Dh at hv
 by_cases hi:i < k
 ·rw [Qv (by simpa using hi),List.getElem?_replicate,if_pos hi] at hv
  cases hv
 ·rw [Re (by simpa using hi),P4,R9] at hv
  cases hj:cap[i - k]? with
  | none=>rw [hj] at hv;cases hv
  | some j =>
   rw [hj] at hv
   have hv:(σ[j]?).join=some v:=Pi hv
   obtain ⟨h1,h2,h3⟩:=h (i - k) j x hj (by rw [show k+(i - k)=i by omega];exact hx)
   refine ⟨j,h1,?_,h2,h3⟩
   cases e:σ[j]? with
   | none=>rw [e] at hv;cases hv
   | some o=>rw [e] at hv;exact congrArg some hv
theorem E3 {X:Cx}{scope:Scope}{N:List Str}{k:Nat}{cap:List Nat}(hl:k+cap.length=N.length)
  (h:((cap.zip (N.drop k)).all fun p=>X.N[p.1]? == some p.2 && scope.names.lookup p.2 == some .free && (X.env.kindOf p.2 == some .cell || X.env.kindOf p.2 == some .free))=true):∀ σ,σ.length=X.N.length->F8 X scope N σ (Dh k cap σ):=fun σ _ =>
 Zuh hl fun i j x hj hx=>by
  have m:(j,x)∈cap.zip (N.drop k):=by
   refine Pd (i:=i) ?_
   rw [List.getElem?_zip_eq_some]
   exact ⟨hj,by rw [List.getElem?_drop];exact hx⟩
  have:=Pj.mp h _ m
  simp only [Pt,Ue,beq_iff_eq] at this
  exact ⟨this.1.1,this.1.2,this.2⟩
theorem Ht {α:Type}{xs:List α}{i:Int}(h0:0<=i)(h1:i < xs.length):∃ v,Bh xs i=some v/\v∈xs:=by
 have hj:i.toNat < xs.length:=by omega
 refine ⟨xs[i.toNat],?_,List.getElem_mem hj⟩
 have:=Iz (xs:=xs) (j:=i.toNat) (v:=xs[i.toNat]) (by simp [hj])
 rwa [Int.toNat_of_nonneg h0] at this
noncomputable def Zac:Expr->Option V
 | .Constant (.str x) _ _=>some (.str x)
 | .Constant (.int i) _ _=>some (.int i)
 | .Constant (.bool b) _ _=>some (.bl b)
 | .Constant .none _ _=>some .non
 | _=>none
noncomputable def Ob:List Expr->Option (List V)
 | []=>some []
 | e::es=>match Zac e,Ob es with
  | some v,some vs=>some (v::vs)
  | _,_=>none
noncomputable def K4 (xs:List V):TA:=fun _ H Q=>Q xs H
theorem Zr7 {X:Cx}{e:Expr}{v:V}(h:Zac e=some v):PE X e (tC v)/\∀ es,starEach (e::es) X.env=(false,eval e X.env)::starEach es X.env:=by
 unfold Zac at h
 split at h
 ·cases h;exact ⟨Zgi,fun _=>rfl⟩
 ·cases h;exact ⟨Zhn,fun _=>rfl⟩
 ·cases h;exact ⟨Zfm,fun _=>rfl⟩
 ·cases h;exact ⟨Zet,fun _=>rfl⟩
 ·cases h
theorem Zh4 {X:Cx}:∀{es:List Expr}{xs:List V},Ob es=some xs->PA X es (K4 xs)
 | [],xs,h=>by
  have h:some []=some xs:=h
  cases h
  exact Zgf
 | e::es,xs,h=>by
  unfold Ob at h
  split at h
  ·rename_i v vs h1 h2
   cases h
   obtain ⟨p,hs⟩:=Zr7 (X:=X) h1
   exact Zes p (Zh4 h2) (hs es)
  ·cases h
structure As (P:Program)(w:World)(K:On)(mg:Str->Option Value)(base:Heap)(k:Nat)(x:Str)(ps:List Str)(sp:Sp):Prop where
 ex:∃(f:Addr)(fd:FuncData),FnOk P w K mg base An k f fd ps sp/\mg x=some (.ref f)/\O4 K (.ref f)=true/\Binds K fd ps []
section
variable {X:Cx}{k:Nat}{x:Str}{ps:List Str}{sp:Sp}{p pos:Pos}{e:Expr}{es:List Expr}{t:TA}
theorem Ztp (C:As X.prog X.w X.K X.mg X.base k x ps sp)(hr:Room k X.A)(ha:PA X (e::es) t)(hg:Gl X x:=by rfl)(hdb:(x == ("__debug__" : Str))=false:=by decide)
  (he:starEach (e::es) X.env=(false,eval e X.env)::starEach es X.env:=by rfl) (hpl:(backTo pos (starEach es X.env)).any (·.1)=false:=by rfl):PE X (.Call (.Name x p) (e::es) [] pos) (Ex sp [] E0 t):=by
 obtain ⟨f,fd,F,hm,hk,hb⟩:=C.ex
 exact Zhw F hr hg hm hk hb .nil Cb ha hdb he hpl
end
end L2
namespace L2
open PySem
theorem Zll {x:V}{u:Value}(h:N9 u=some x):RelV x u:=by
 cases u <;> simp only [N9] at h <;> first | (cases h;first | rfl | exact ⟨_,rfl⟩) | cases h
noncomputable def G4:List Value->Option (List V)
 | []=>some []
 | u::r=>match N9 u,G4 r with
  | some x,some xs=>some (x::xs)
  | _,_=>none
theorem Zfw:∀{us:List Value}{xs:List V},G4 us=some xs->Vals xs us
 | [],xs,h=>by
  have h:some []=some xs:=h
  cases h
  exact .nil
 | u::r,xs,h=>by
  unfold G4 at h
  split at h
  ·rename_i x ys h1 h2
   cases h
   exact .cons (Zll h1) (Zfw h2)
  ·cases h
theorem Zbb {K:On}{a:Addr}{od:Option Addr}{its:Array Value}{n:Nat}{sl:Array (Option Value)}{xs:List V}(l:K.lookup a=some ⟨.type "tuple",od,.seq its n,sl⟩)(h:G4 its.toList=some xs)(hz:xs.length<=1000):∀ H,SqT K H a xs:=fun H=>by
 have v:=Zfw h
 refine .inr ⟨_,its,n,l,rfl,rfl,?_,v⟩
 have e:=v.length
 have b:1000<=sizeLine:=by decide
 have e2:its.toList.length=its.size:=R7
 omega
theorem Zn5 {P:Program}{w:World}{K:On}{mg:Str->Option Value}{base:Heap}{k:Nat}{x:Str}{ps:List Str}{sp:Sp}{f:Addr}{fd:FuncData}(F:FnOk P w K mg base An k f fd ps sp)(m:mg x=some (.ref f))(kp:O4 K (.ref f)=true)(b:Binds K fd ps []):As P w K mg base k x ps sp:=⟨f,fd,F,m,kp,b⟩
section
variable {P:Program}{w:World}{K:On}{mg:Str->Option Value}{base:Heap}
end
end L2
set_option autoImplicit true
namespace L2
open PySem PySem.Spec PyProof.Rows
structure QE (X:Cx)(e:Expr)(t:TE):Prop where
 run:PE X e t
structure QT (X:Cx)(e:Expr)(t:TT):Prop where
 run:PT X e t
structure QW (X:Cx)(e:Expr)(t:TT):Prop where
 run:PW X e t
structure QA (X:Cx)(es:List Expr)(t:TA):Prop where
 run:PA X es t
structure QS (X:Cx)(st:Stmt)(t:TS):Prop where
 run:PS X st t
structure Dq (X:Cx)(sts:List Stmt)(t:TS):Prop where
 run:PSs X sts t
structure QG (X:Cx)(e:Expr)(g:TG):Prop where
 run:PG X e g
structure QGs (X:Cx)(es:List Expr)(g:Eh):Prop where
 run:PGs X es g
structure QI (X:Cx)(tg iter:Expr)(wi:TI):Prop where
 run:PI X tg iter wi
structure QC (X:Cx)(op:CmpOp)(a b:Expr)(t:TE):Prop where
 run:PC X op a b t
structure QO (X:Cx)(e:Option Expr)(t:TO):Prop where
 run:PO X e t
structure QTs (X:Cx)(ifs:List Expr)(t:TT):Prop where
 run:Il X ifs t
theorem Ac {i j pos}:QE X (.Constant (.int i) j pos) (tC (.int i)):=⟨Zhn⟩
theorem Bt {b j pos}:QE X (.Constant (.bool b) j pos) (tC (.bl b)):=⟨Zfm⟩
theorem D4 {j pos}:QE X (.Constant .none j pos) (tC .non):=⟨Zet⟩
theorem Ao {x j pos}:QE X (.Constant (.str x) j pos) (tC (.str x)):=⟨Zgi⟩
theorem K6 {x:Str}{v:V}{u:Value}{pos:Pos}(hg:Gl X x)(hm:X.mg x=some u)(r:RelV v u)(hd:(x == ("__debug__" : Str))=false:=by decide):QE X (.Name x pos) (tC v):=⟨Zhy hg hm r hd⟩
theorem D7 {x:Str}{v:V}{u:Value}{pos:Pos}(hg:Gl X x)(hm:X.mg x=none)(hv:bootBuiltins x=some u)(r:RelV v u)(hn:x ≠ "__name__" := by decide)(hd:(x == ("__debug__" : Str))=false:=by decide):QE X (.Name x pos) (tC v):=⟨Zjk hg hm hv r hn hd⟩
theorem A2 {op:Operator}{r:R2}(ho:OpR X (binaryOp op) r)(ha:QE X a ta)(hb:QE X b tb):QE X (.BinOp a op b pos) (Bv r ta tb):=⟨Zon ho ha.run hb.run⟩
theorem Hs {op:UnaryOp}{r:V->Hp->VK->Prop}(ho:UnR X (unaryOp op) r)(ha:QE X a ta):QE X (.UnaryOp op a pos) (tUn r ta):=⟨Zo3 ho ha.run⟩
theorem Zqx {op:CmpOp}{t:TE}(h:QC X op a b t)(h1:behindInMarks op b=false:=by first | exact N4 _ (by decide) (by decide) | rfl):QE X (.Compare a [op] [b] pos) t:=⟨Zjj h.run h1⟩
theorem Ij {op:CmpOp}{t:TE}(h:QC X op a b t)(h1:behindInMarks op b=false:=by first | exact N4 _ (by decide) (by decide) | rfl):QT X (.Compare a [op] [b] pos) (tB t):=⟨Zrd h.run h1⟩
theorem Cm {op:CmpOp}{r:R2}(ho:OpR X (compareOp op) r)(ha:QE X a ta)(hb:QE X b tb)(hm:behindInMarks op b=false):QE X (.Compare a [op] [b] pos) (Bv r ta tb):=⟨Zs9 ho ha.run hb.run hm⟩
theorem Au {op:CmpOp}{r:R2}(ho:OpR X (compareOp op) r)(ha:QE X a ta)(hb:QE X b tb)(hm:behindInMarks op b=false):QT X (.Compare a [op] [b] pos) (Er (Bv r ta tb)):=⟨Zn4 ho ha.run hb.run hm⟩
theorem Zcv {op op':CmpOp}{r r':R2}(ho:OpR X (compareOp op) r)(ho':OpR X (compareOp op') r')(ha:QE X a ta)(hb:QE X b tb)(hc:QE X c tc)(hm:lastMarks [op,op'] [b,c]=false:=by with_unfolding_all rfl):QE X (.Compare a [op,op'] [b,c] pos) (J5 r r' ta tb tc):=⟨Zqf ho ho' ha.run hb.run hc.run hm⟩
theorem Om {op op':CmpOp}{r r':R2}(ho:OpR X (compareOp op) r)(ho':OpR X (compareOp op') r')(ha:QE X a ta)(hb:QE X b tb)(hc:QE X c tc)(hm:lastMarks [op,op'] [b,c]=false:=by with_unfolding_all rfl):QT X (.Compare a [op,op'] [b,c] pos) (Er (J5 r r' ta tb tc)):=⟨Zmg ho ho' ha.run hb.run hc.run hm⟩
theorem Bu {e:Expr}{t:TE}(h:QE X e t)(he:∀ whole,isTrue e X.env whole=(do let v <- whole;standAt e.pos;holding [v] (truthy v)):=by intro _;rfl):QT X e (tB t):=⟨Zt3 h.run he⟩
theorem Ey (ha:QT X a tA):QW X (.BoolOp .And [a] pos) tA:=⟨pw_and1 ha.run⟩
theorem Dx (ha:QT X a tA):QW X (.BoolOp .Or [a] pos) tA:=⟨pw_or1 ha.run⟩
theorem Es {rest:List Expr}(ha:QT X a tA)(hb:QW X (.BoolOp .And (b::rest) pos) tB'):QW X (.BoolOp .And (a::b::rest) pos) (Jg tA tB'):=⟨pw_and ha.run hb.run⟩
theorem Di {rest:List Expr}(ha:QT X a tA)(hb:QW X (.BoolOp .Or (b::rest) pos) tB'):QW X (.BoolOp .Or (a::b::rest) pos) (tOr tA tB'):=⟨pw_or ha.run hb.run⟩
theorem B3 (ha:QT X a tA):QT X (.UnaryOp .Not a pos) (Zag tA):=⟨Zn6 ha.run⟩
theorem Eg {op}{t:TE}(h:QE X a t):QE X (.BoolOp op [a] pos) t:=⟨Zqe h.run⟩
theorem De {rest:List Expr}(ha:QE X a ta)(hb:QE X (.BoolOp .And (b::rest) pos) tb):QE X (.BoolOp .And (a::b::rest) pos) (Kh ta tb):=⟨Zt5 ha.run hb.run⟩
theorem Zge {rest:List Expr}(ha:QE X a ta)(hb:QE X (.BoolOp .Or (b::rest) pos) tb):QE X (.BoolOp .Or (a::b::rest) pos) (Zbx ta tb):=⟨Zmp ha.run hb.run⟩
theorem Zdu (ha:QE X a ta):QE X (.UnaryOp .Not a pos) (Zaf ta):=⟨Zqs ha.run⟩
theorem Ar  : Dq X [] Ip:=⟨Zjp⟩
theorem Ae {st:Stmt}{rest:List Stmt}{t u:TS}(h1:QS X st t)(h2:Dq X rest u):Dq X (st::rest) (Hg t u):=⟨Zlp h1.run h2.run⟩
theorem Ad {st:Stmt}{t:TS}(h1:QS X st t):Dq X [st] t:=⟨Zl6 h1.run⟩
theorem Cc {e:Expr}{te:TE}(he:QE X e te)(hs:swapsWith e none pos.line X.env=pure false:=by rfl):QS X (.Expr e pos) (Zcm te):=⟨Zru he.run hs⟩
theorem Ah {e:Expr}{te:TE}(he:QE X e te):QS X (.Return (some e) pos) (E4 te):=⟨Zn0 he.run⟩
theorem Aq {t u:TS}{c:Expr}{a b:List Stmt}{tc:TT}(hc:QT X c tc)(ha:Dq X a t)(hb:Dq X b u):QS X (.If c a b pos) (Gr tc t u):=⟨Zve hc.run ha.run hb.run⟩
theorem Gx  : QGs X [] Za3:=⟨Zpo⟩
theorem C4 {e:Expr}{es:List Expr}{t:TG}{u:Eh}(h1:QG X e t)(h2:QGs X es u)(hs:(assignEach (e::es) X.env).map (·.2)=assign e X.env::(assignEach es X.env).map (·.2):=by rfl):QGs X (e::es) (Zbt t u):=⟨Znz h1.run h2.run hs⟩
theorem Bc {i:Nat}{x:Str}(hN:X.N.Nodup)(hi:X.N[i]?=some x)(hx:E6 X.env.scope x)(hf:X.fn x=true\/X.env.scope.names.lookup x=some .local:=by first | exact .inl rfl | exact .inr rfl | assumption):QG X (.Name x pos) (Ft i):=⟨Zp5 hN hi hx hf⟩
theorem Zpx {es:List Expr}{k:Nat}{t:Eh}{n:Nat}(hc:X.calm=true)(h:QGs X es t)(hn:(assignEach es X.env).length=n:=by rfl)(hst:(assignEach es X.env).findIdx? (·.1)=none:=by rfl):QG X (.Tuple es k pos) (Mv X.K n t):=⟨Zla hc h.run hn hst⟩
theorem M9 {o i:Expr}{to ti:TE}{t:Lk}(ho:QE X o to)(hi:QE X i ti)(hs:Zal X t)(ha:∀ v,assign (.Subscript o i pos) X.env v=(do
   let ov <- holding [v] (eval o X.env)
   let iv <- holding [v,ov] (eval i X.env)
   standAt pos
   holding [v,ov,iv] (setItem ov iv v)
   release [v,ov,iv] []):=by intro _;rfl):QG X (.Subscript o i pos) (Zba to ti t):=⟨Zm1 ho.run hi.run hs ha⟩
theorem G2 {tg e:Expr}{te:TE}{g:TG}(he:QE X e te)(hg:QG X tg g)(hs:swapsWithSole [tg] e pos.line X.env=pure false:=by rfl)(hw:swappedStores [tg] e X.env=pure none:=by rfl)(h1:(assignEach [tg] X.env).map (·.2)=[assign tg X.env]:=by rfl):QS X (.Assign [tg] e pos) (Fl te g):=⟨Zuq he.run hg.run hs hw h1⟩
theorem Zc6 {i:Nat}{x:Str}{e:Expr}{te:TE}{pos':Pos}(hN:X.N.Nodup)(hi:X.N[i]?=some x)(hx:E6 X.env.scope x)(he:QE X e te)(hs:swapsWith e (some (.Name x pos')) pos.line X.env=pure false:=by rfl)(hf:X.fn x=true\/X.env.scope.names.lookup x=some .local:=by first | exact .inl rfl | exact .inr rfl | assumption):QS X (.Assign [.Name x pos'] e pos) (Fl te (Ft i)):=⟨Zo2 hN hi hx he.run hs hf⟩
theorem Zc3 {c:Expr}{body:List Stmt}{tc:TT}{tb:TS}(hp:PassesOwn (model X.prog X.w) X.A X.env X.xe)(hc:QT X c tc)(hb:Dq X body tb):QS X (.While c body [] pos) (Zei tc tb):=⟨Zn1 hp hc.run hb.run⟩
theorem Fh {a:Expr}{ta:TA}{p pos:Pos}(hg:Gl X "range")(hm:X.mg "range" = none)(ha:QA X [a] ta)(hs:starEach [a] X.env=[(false,eval a X.env)]:=by rfl):QI X tg (.Call (.Name "range" p) [a] [] pos) (Zah ta):=⟨Zr4 hg hm ha.run hs⟩
theorem Dw {iter:Expr}{body:List Stmt}{wi:TI}{g:TG}{tb:TS}{pos:Pos}(hp:PassesOwn (model X.prog X.w) X.A X.env X.xe)(hc:X.calm=true)(hi:QI X tg iter wi)(hg:QG X tg g)(hb:Dq X body tb)(hs:∀ x,foldedSetIterable iter X.env x=pure x:=by intro _;rfl):QS X (.For tg iter body [] pos) (Zds wi g tb):=⟨Zux hp hc hi.run hg.run hb.run hs⟩
theorem Zt0 (he:QE X e ta)(hb:attributeBase e f X.env (eval e X.env)=eval e X.env):QE X (.Attribute e f pos) (Zb1 X.K ta f):=⟨Zvu he.run hb⟩
theorem Zqv (ha:QE X o ta)(hv:QE X value tv)(hs:swapsWith value (some (.Attribute o f pos')) pos.line X.env=pure false):QS X (.Assign [.Attribute o f pos'] value pos) (Zbc X.K ta tv f):=⟨Zms ha.run hv.run hs⟩
theorem Ab  : QA X [] C2:=⟨Zgf⟩
theorem Aa (ha:QE X e te)(hr:QA X es t)(hs:starEach (e::es) X.env=(false,eval e X.env)::starEach es X.env:=by rfl):QA X (e::es) (B9 te t):=⟨Zes ha.run hr.run hs⟩
theorem A3 {x1}(h:QA X es t):QE X (.Tuple es x1 pos) (Gf t):=⟨Zuw h.run⟩
theorem B6 (h:QA X es t):QE X (.List es pos) (Zay t):=⟨Zu8 h.run⟩
theorem Am (C:As X.prog X.w X.K X.mg X.base k x ps sp)(hr:Room k X.A)(ha:QA X (e::es) t)(hg:Gl X x:=by rfl)(hdb:(x == ("__debug__" : Str))=false:=by decide)(he:starEach (e::es) X.env=(false,eval e X.env)::starEach es X.env:=by rfl)(hpl:(backTo pos (starEach es X.env)).any (·.1)=false:=by rfl):QE X (.Call (.Name x p) (e::es) [] pos) (Ex sp [] E0 t):=⟨Ztp C hr ha.run hg hdb he hpl⟩
theorem A8 {id:String}(hc:B4 X (.builtin id) r)(hg:Gl X x)(hm:X.mg x=none)(hv:bootBuiltins x=some (.builtin id))(ha:QA X (e::es) t)(hn:x ≠ "__name__" := by decide)(hdb:(x == ("__debug__" : Str))=false:=by decide)(he:starEach (e::es) X.env=(false,eval e X.env)::starEach es X.env:=by rfl)(hpl:(backTo pos (starEach es X.env)).any (·.1)=false:=by rfl):QE X (.Call (.Name x p) (e::es) [] pos) (Gc r t):=⟨Ztd hc hg hm hv ha.run hn hdb he hpl⟩
theorem G7 {T:String}(hc:B4 X (.type T) r)(hg:Gl X x)(hm:X.mg x=none)(hv:bootBuiltins x=some (.type T))(ha:QA X (e::es) t)(hn:x ≠ "__name__" := by decide)(hdb:(x == ("__debug__" : Str))=false:=by decide)(he:starEach (e::es) X.env=(false,eval e X.env)::starEach es X.env:=by rfl)(hpl:(backTo pos (starEach es X.env)).any (·.1)=false:=by rfl):QE X (.Call (.Name x p) (e::es) [] pos) (Gc r t):=⟨Zsl hc hg hm hv ha.run hn hdb he hpl⟩
theorem Iu  : QO X none Zak:=⟨Zth⟩
theorem Jd (h:QE X e te):QO X (some e) (Zdn te):=⟨Zp2 h.run⟩
theorem Hv {lo hi:Option Expr}{r:V->Option Int->Option Int->Hp->VK->Prop}(hr:SlR X r)(he:QE X e te)(hl:QO X lo tl)(hu:QO X hi th):QE X (.Subscript e (.Slice lo hi none p2) pos) (tSl r te tl th):=⟨Znm hr he.run hl.run hu.run⟩
theorem J9 {r:R2}(hr:IxR X r)(ha:QE X a ta)(hb:QE X b tb)(hs:Zas b):QE X (.Subscript a b pos) (Bv r ta tb):=⟨Zsw hr ha.run hb.run hs⟩
theorem Zlj {T id:String}(pa:PlainAttrs T)(slot:Slot T name id)(hty:typeOf (.builtin id)=pure (.type "method_descriptor"))(hm:G1 X id r)(ho:QE X o to)(ha:QA X (e::es) t)(hbase:attributeBase o name X.env (eval o X.env)=eval o X.env:=by rfl)(hfew:((backTo cpos (starEach (e::es) X.env)).all (fun x=>!x.1) && (backToKw cpos (keywordEach [] X.env)).all (fun x=>x.1.isSome)
   && decide ((e::es).length+([]:List Keyword).length+(if ([]:List Keyword).isEmpty then 0 else 1) < 30))=true:=by rfl) (hline:(apos.endLine == cpos.line)=true:=by rfl) (hs:starEach (e::es) X.env=(false,eval e X.env)::starEach es X.env:=by rfl) (hplain:(backTo cpos (starEach es X.env)).any (·.1)=false:=by rfl):QE X (.Call (.Attribute o name apos) (e::es) [] cpos) (tBM X.K T r to t):=⟨Zoc pa slot hty hm ho.run ha.run hbase hfew hline hs hplain⟩
theorem Zr6 {T id:String}(pa:PlainAttrs T)(slot:Slot T name id)(hty:typeOf (.builtin id)=pure (.type "method_descriptor"))(hm:G1 X id r)(ho:QE X o to)(hbase:attributeBase o name X.env (eval o X.env)=eval o X.env:=by rfl)(hline:(apos.endLine == cpos.line)=true:=by rfl):QE X (.Call (.Attribute o name apos) [] [] cpos) (Kr X.K T r to):=⟨Zty pa slot hty hm ho.run hbase hline⟩
theorem Ik (hc:X.calm=true)(S:Ho scope X.env)(hi:QI X target iter wi)(T:∀ σ,σ.length=X.N.length->F8 X scope N σ (σ0 σ))(hg:∀ C s H fp,QG (Cr X scope C N s H fp) target g)(ht:∀ C s H fp,QTs (Cr X scope C N s H fp) ifs tt)(he:∀ C s H fp,QE (Cr X scope C N s H fp) elt te)(hs:∀ x,foldedSetIterable iter X.env x=pure x:=by intro _;rfl):QE X (.ListComp elt [⟨target,iter,ifs,0⟩] scope pos) (Mr wi σ0 g tt te):=⟨Zrv hc S hi.run T (fun C s H fp=>(hg C s H fp).run) (fun C s H fp=>(ht C s H fp).run) (fun C s H fp=>(he C s H fp).run) hs⟩
theorem M7 {i:Nat}{y:Str}{py spos:Pos}(hc:X.calm=true)(S:Ho scope X.env)(hi:QI X target iter wi)(T:∀ σ,σ.length=X.N.length->F8 X scope N σ (σ0 σ))(hg:∀ C s H fp,QG (Cr X scope C N s H fp) target g)(ht:∀ C s H fp,QTs (Cr X scope C N s H fp) ifs tt)(he:∀ C s H fp,QE (Cr X scope C N s H fp) elt te)(hN:X.N.Nodup)(hy:X.N[i]?=some y)(hx:E6 X.env.scope y)(hsw:swapsWith (.ListComp elt [⟨target,iter,ifs,0⟩] scope pos) (some (.Name y py)) spos.line X.env=pure true:=by rfl)(hf:X.fn y=true\/X.env.scope.names.lookup y=some .local:=by first | exact .inl rfl | exact .inr rfl | assumption)(hs:∀ x,foldedSetIterable iter X.env x=pure x:=by intro _;rfl):QS X (.Assign [.Name y py] (.ListComp elt [⟨target,iter,ifs,0⟩] scope pos) spos) (Fl (Mr wi σ0 g tt te) (Ft i)):=⟨Zkm hc S hi.run T (fun C s H fp=>(hg C s H fp).run) (fun C s H fp=>(ht C s H fp).run) (fun C s H fp=>(he C s H fp).run) hN hy hx hsw hf hs⟩
theorem E5 {X:Cx}:QTs X [] Zbo:=⟨Zod⟩
theorem Mg {j pos'}(ha:QE X a ta):QC X .Is a (.Constant .none j pos') (Zar ta):=⟨Zkq ha.run⟩
theorem Zfj {j pos'}(ha:QE X a ta):QC X .IsNot a (.Constant .none j pos') (Zcf ta):=⟨Zuj ha.run⟩
theorem K7 {X:Cx}{es:List Expr}{xs:List V}(h:Ob es=some xs):QA X es (K4 xs):=⟨Zh4 h⟩
theorem qv {X:Cx}(i:Nat){x:Str}{pos:Pos}(hN:X.N[i]?=some x:=by rfl)(hv:Vis X.env.scope x:=by first | exact Or.inl rfl | exact Or.inr (Or.inl rfl) | exact Or.inr (Or.inr rfl))(hd:(x == ("__debug__" : Str))=false:=by decide)
  (hcd:(x == ("__classdict__" : Str))=false:=by decide):QE X (.Name x pos) (Bz i):=⟨Zsu hN hv hd hcd⟩
theorem QW.qt {X:Cx}{e:Expr}{t:TT}(h:QW X e t):QT X e t:=⟨h.run.pt⟩
section
variable {P:Program}{w:World}{K:On}{mg:Str->Option Value}{base:Heap}
theorem Fun.okq {x qual:Str}{st:Stmt}{f:Addr}{fd:FuncData}{N ps:List Str}{k:Nat}{sp:Sp}(F:Fun K x qual st f fd)(S:Aw N ps (Aj st))(len:∀ vs H Q E,sp vs H Q E->vs.length=ps.length)
  (hbody:∀(cdv:Value)(A:Around)(outer:List Env)(s:Shared)(H:Hp)(vs:List V)(Q:VK)(E:XK),Room k (A.deeper (envOfC qual (Aj st) s.heap.objs.size f cdv))->sp vs H Q E ->
   ∃ t,Dq (Cp An P w K mg base N qual (Aj st) f cdv A outer s H E).nox (Be st) t/\t { nx:=fun _ H'=>Q .non H',rt:=Q } (start N vs) H):FnOk P w K mg base An (k+1) f fd ps sp :=
 F.ok S len fun cdv A outer s H vs Q E hr h=>by
  obtain ⟨t,q,r⟩:=hbody cdv A outer s H vs Q E hr h
  exact ⟨t,q.run,r⟩
end
section
variable {X:Cx}
noncomputable def Zte:R2:=fun x y H Q=>∃ i j,x=.str i/\y=.str j/\i.length+j.length<=sizeLine/\Q (.str (i++j)) H
noncomputable def Zhx (K:On):R2:=fun x y H Q=>∃ a b xs ys,x=.ref a/\y=.ref b/\SqT K H a xs/\SqT K H b ys/\xs.length+ys.length<=sizeLine /\
 ∀ r H',Same H H'->SqT K H' r (xs++ys)->Q (.ref r) H'
theorem Zoi:OpR X (binaryOp .Add) (Zhx X.K):=by
 intro pins s σ H x y v u Q I rx ry h
 obtain ⟨a,b,xs,ys,rfl,rfl,ha,hb,hz,q⟩:=h
 by_cases hx:xs=[]
 ·subst hx
  cases rx
  cases ry
  obtain ⟨its,r1,p1,_⟩:=I.tuple ha
  obtain ⟨its2,r2,p2,_⟩:=I.tuple hb
  cases r1
  obtain ⟨⟨cls,dd,data,sl⟩,ho,hc,n,hd⟩:=id p1
  obtain ⟨⟨cls2,dd2,data2,sl2⟩,ho2,hc2,n2,hd2⟩:=id p2
  simp only at hc hd hc2 hd2
  subst hc hd hc2 hd2
  exact concat_meets ⟨_,ho,rfl⟩ ⟨_,ho2,rfl⟩ Vn seq_tuple_add U5 U1 (Uz _ _)
   (tuple_addW0 a b _ _ n n2 dd dd2 sl sl2 (by simp)) ⟨ho,ho2,⟨.ref b,H,I,rfl,q b H (Same.refl H) hb⟩⟩
 ·refine Zst pins s σ H _ _ v u Q I rx ry ⟨a,b,xs,ys,rfl,rfl,ha,hb,hx,hz,fun e=>?_,fun _ p hp=>q p _ (fun c o e=>by rw [Ay (Cq e hp)];exact e) (.inl (.inl Ag))⟩
  subst e
  exact q a H (Same.refl H) (by rw [Qt];exact ha)
noncomputable def E9 (K:On):R2:=fun x y H Q=>Ds (fun i j=>.int (i+j)) x y H Q\/Zte x y H Q\/rCat x y H Q\/Zhx K x y H Q
theorem Zv2:OpR X (binaryOp .Add) (E9 X.K):=op_add.or (op_add_str.or (op_cat.or Zoi))
theorem s_add_int {K:On}{i j:Int}{H:Hp}{Q:VK}(h:Q (.int (i+j)) H):E9 K (.int i) (.int j) H Q:=.inl ⟨i,j,rfl,rfl,h⟩
theorem Zf2 {K:On}{i j:Str}{H:Hp}{Q:VK}(hl:i.length+j.length<=sizeLine)(h:Q (.str (i++j)) H):E9 K (.str i) (.str j) H Q:=.inr (.inl ⟨i,j,rfl,rfl,hl,h⟩)
theorem F1 {K:On}{a b:Addr}{xs ys:List V}{H:Hp}{Q:VK}(ha:SqT K H a xs)(hb:SqT K H b ys)(hz:xs.length+ys.length<=sizeLine)(h:∀ r H',Same H H'->SqT K H' r (xs++ys)->Q (.ref r) H'):E9 K (.ref a) (.ref b) H Q:=.inr (.inr (.inr ⟨a,b,xs,ys,rfl,rfl,ha,hb,hz,h⟩))
noncomputable def Zcx:R2:=fun x y H Q=>rI CMul (fun i j=>.int (i * j)) x y H Q\/rRep x y H Q
theorem Ff:OpR X (binaryOp .Mult) Zcx:=op_mul.or Zt4
theorem s_mul_l {i j:Int}{H:Hp}{Q:VK}(h1:-(2 ^ 64) < i)(h2:i < 2 ^ 64)(h:Q (.int (i * j)) H):Zcx (.int i) (.int j) H Q:=.inl ⟨i,j,rfl,rfl,.inl ⟨h1,h2⟩,h⟩
theorem s_mul_r {i j:Int}{H:Hp}{Q:VK}(h1:-(2 ^ 64) < j)(h2:j < 2 ^ 64)(h:Q (.int (i * j)) H):Zcx (.int i) (.int j) H Q:=.inl ⟨i,j,rfl,rfl,.inr ⟨h1,h2⟩,h⟩
theorem s_rI {C:Int->Int->Prop}{g:Int->Int->V}{i j:Int}{H:Hp}{Q:VK}(hc:C i j)(h:Q (g i j) H):rI C g (.int i) (.int j) H Q:=⟨i,j,rfl,rfl,hc,h⟩
theorem s_rI0 {g:Int->Int->V}{i j:Int}{H:Hp}{Q:VK}(h:Q (g i j) H):Ds g (.int i) (.int j) H Q:=⟨i,j,rfl,rfl,h⟩
theorem s_rU {g:Int->V}{i:Int}{H:Hp}{Q:VK}(h:Q (g i) H):rU g (.int i) H Q:=⟨i,rfl,h⟩
noncomputable def rLtA:R2:=fun x y H Q=>Ds (fun i j=>.bl (decide (i < j))) x y H Q\/∃ i j,x=.str i/\y=.str j/\Q (.bl (decide (i.cps.toList < j.cps.toList))) H
theorem Nf:OpR X (compareOp .Lt) rLtA:=op_lt.or Zvz
noncomputable def Oj:R2:=fun x y H Q=>Ds (fun i j=>.bl (decide (i<=j))) x y H Q\/∃ i j,x=.str i/\y=.str j/\Q (.bl (!(decide (j.cps.toList < i.cps.toList)))) H
theorem Eb:OpR X (compareOp .LtE) Oj:=op_le.or Zl2
theorem s_lt {i j:Int}{H:Hp}{Q:VK}(h:Q (.bl (decide (i < j))) H):rLtA (.int i) (.int j) H Q:=.inl ⟨i,j,rfl,rfl,h⟩
theorem s_le {i j:Int}{H:Hp}{Q:VK}(h:Q (.bl (decide (i<=j))) H):Oj (.int i) (.int j) H Q:=.inl ⟨i,j,rfl,rfl,h⟩
noncomputable def Zbl (neg:Bool):R2:=fun x y H Q=>∃(c:Nat)(j:Str),x=.str ⟨#[c]⟩/\y=.str j/\Q (.bl (if neg then !decide (c∈j.cps.toList) else decide (c∈j.cps.toList))) H
theorem Zrk:OpR X (compareOp .In) (Zbl false):=Zn3
theorem Zns:OpR X (compareOp .NotIn) (Zbl true):=Zrr
noncomputable def G6 (K:On)(neg:Bool):R2:=fun x y H Q=>rIn K neg x y H Q\/Zbl neg x y H Q
theorem Zuf:OpR X (compareOp .In) (G6 X.K false):=op_in_seq.or Zrk
theorem Zqh:OpR X (compareOp .NotIn) (G6 X.K true):=op_notIn_seq.or Zns
theorem Dc {K:On}{neg:Bool}{x:V}{p:Addr}{xs:List V}{H:Hp}{Q:VK}(hq:SqL K H p xs\/SqT K H p xs)(hx:C5 x=true)(hxs:xs.all C5=true)(h:Q (.bl (if neg then !Cf x xs else Cf x xs)) H):G6 K neg x (.ref p) H Q:=.inl ⟨p,xs,rfl,hq,hx,hxs,h⟩
noncomputable def Zce (K:On):V->Option Int->Option Int->Hp->VK->Prop:=fun x lo hi H Q=>Zeh K x lo hi H Q\/Zct x lo hi H Q\/rSlT K x lo hi H Q
theorem Zq5:SlR X (Zce X.K):=sl_list.or (sl_str.or Zgg)
theorem Zjl {K:On}{z:Str}{lo hi:Option Int}{H:Hp}{Q:VK}(hl:z.length<=sizeLine)(h:Q (.str (Qg z lo hi)) H):Zce K (.str z) lo hi H Q:=.inr (.inl ⟨z,rfl,hl,h⟩)
theorem Cy {K:On}{a:Addr}{xs:List V}{i:Int}{v:V}{H:Hp}{Q:VK}(ha:SqL K H a xs)(hv:Bh xs i=some v)(h:Q v H):Fz K (.ref a) (.int i) H Q:=.inl ⟨a,xs,i,v,rfl,rfl,ha,hv,h⟩
theorem Af {K:On}{a:Addr}{xs:List V}{i:Int}{v:V}{H:Hp}{Q:VK}(ha:SqT K H a xs)(hv:Bh xs i=some v)(h:Q v H):Fz K (.ref a) (.int i) H Q:=.inr (.inl ⟨a,xs,i,v,rfl,rfl,ha,hv,h⟩)
theorem Og {K:On}{z:Str}{i:Int}{c:Nat}{H:Hp}{Q:VK}(hl:z.length<=sizeLine)(hv:Bh z.cps.toList i=some c)(h:Q (.str ⟨#[c]⟩) H):Fz K (.str z) (.int i) H Q:=.inr (.inr ⟨z,i,c,rfl,rfl,hl,hv,h⟩)
noncomputable def G3 (K:On):List V->Hp->VK->Prop:=fun xs H Q=>∃ x n,xs=[x]/\LenV K x H n/\Q (.int n) H
theorem Zug:B4 X (.builtin "len") (G3 X.K):=Zti
theorem Hc {K:On}{a:Addr}{xs:List V}{H:Hp}{Q:VK}(ha:SqL K H a xs)(h:Q (.int xs.length) H):G3 K [.ref a] H Q:=⟨_,_,rfl,.inl ⟨xs,ha,rfl⟩,h⟩
theorem Gp {K:On}{a:Addr}{xs:List V}{H:Hp}{Q:VK}(ha:SqT K H a xs)(h:Q (.int xs.length) H):G3 K [.ref a] H Q:=⟨_,_,rfl,.inr ⟨xs,ha,rfl⟩,h⟩
theorem Lq {K:On}{z:Str}{H:Hp}{Q:VK}(hl:z.length<=sizeLine)(h:Q (.int z.length) H):G3 K [.str z] H Q:=⟨_,_,rfl,⟨hl,rfl⟩,h⟩
structure Fc (mg:Str->Option Value)(x:Str)(v:V):Prop where
 ex:∃ u,mg x=some u/\RelV v u
theorem F0 {x:Str}{v:V}{pos:Pos}(G:Fc X.mg x v)(hg:Gl X x:=by rfl)(hd:(x == ("__debug__" : Str))=false:=by decide):QE X (.Name x pos) (tC v):=by
 obtain ⟨u,h,r⟩:=G.ex
 exact ⟨Zhy hg h r hd⟩
noncomputable def Zbe (K:On)(tl:TE):TI:=fun σ H R=>tl σ H fun x H1=>(∃ a,x=.ref a/\(∃ xs,SqL K H1 a xs)/\R (Ja K a) H1)\/(∃ a,x=.ref a/\(∃ xs,SqT K H1 a xs)/\R (Hx K a) H1)\/∃ z,x=.str z/\R (Hi z) H1
theorem Zj0 {tg l:Expr}{tl:TE}(hl:QE X l tl):QI X tg l (Zbe X.K tl):=by
 refine ⟨fun pins s σ H R I h=>?_⟩
 refine Ak (hl.run pins s σ H _ I h) fun v s1 zq=>?_
 obtain ⟨x,H1,I1,r1,q1⟩:=zq
 have one:∀(l:Expr)(t:TE),PE X l t->True:=fun _ _ _=>trivial
 rcases q1 with ⟨a,e,⟨xs,hq⟩,q⟩ | ⟨a,e,⟨xs,hq⟩,q⟩ | ⟨z,e,q⟩
 ·subst e
  cases r1
  obtain ⟨its,rv,p,hz⟩:=I1.list hq
  refine Vj p.isList ?_
  refine ⟨s1.heap.objs.size,[s1.heap.objs.size],_,_,H1,rfl,I1.kept (t':=s1.toks) fun b o e=>Ot _ e,Zs4 a _,⟨_,O2 _ rfl,rfl,rfl⟩,fun b hb=>?_,q⟩
  have e:b=s1.heap.objs.size:=by simpa using hb
  subst e
  exact I1.fpOk (Oq _) (I1.hok.fresh (Oq _))
 ·subst e
  cases r1
  obtain ⟨its,rv,p,hz⟩:=I1.tuple hq
  refine wpAny_pyIter_tuple (show s1.heap.IsTuple a its.toArray from p) ?_
  refine ⟨s1.heap.objs.size,[s1.heap.objs.size],_,_,H1,rfl,I1.kept (t':=s1.toks) fun b o e=>Ot _ e,Znr a _,⟨_,O2 _ rfl,rfl,rfl⟩,fun b hb=>?_,q⟩
  have e:b=s1.heap.objs.size:=by simpa using hb
  subst e
  exact I1.fpOk (Oq _) (I1.hok.fresh (Oq _))
 ·subst e
  obtain ⟨t,rfl⟩:=r1
  refine wpAny_pyIter_strU ?_
  refine ⟨s1.heap.objs.size,[s1.heap.objs.size],_,_,H1,rfl,I1.kept (t':=s1.toks) fun b o e=>Ot _ e,Ztf _ z t,⟨_,O2 _ rfl,rfl,rfl⟩,fun b hb=>?_,q⟩
  have e:b=s1.heap.objs.size:=by simpa using hb
  subst e
  exact I1.fpOk (Oq _) (I1.hok.fresh (Oq _))
end
noncomputable def G0 (hi:Int)(n:Nat):It:=⟨fun i _=>i < n,fun i H x H'=>H'=H/\x=.int (hi - i),fun i _=>n<=i⟩
theorem Zgb (a b:Int):Qh a b (-1)=if b < a then a - b else 0:=by
 unfold Qh
 simp only [show ¬ ((-1:Int) > 0) by decide,if_false,Int.neg_neg,Int.ediv_one]
 split <;> omega
theorem Zkl {a b:Int}(ha:-(2 ^ 62)<=a)(ha':a < 2 ^ 62)(hb:-(2 ^ 62)<=b)(hb':b < 2 ^ 62):Builtin.Range.small a b (-1)=true:=by
 unfold Builtin.Range.small
 rw [Zgb]
 simp only [Pg,Pt,Ue,decide_eq_true_eq,beq_iff_eq,show ¬ ((-1:Int) > 0) by decide,if_false]
 split <;> omega
theorem Zff {P:Program}{w:World}{K:On}{tg:Expr}(it:Addr)(hi:Int)(n:Nat):Gu P w K tg (G0 hi n) [it] it (fun i h=>IsRangeIter h it (hi+(i:Nat) * (-1)) ((n:Int) - (i:Nat)) (-1)) where
 mem:=by simp
 obj:=fun i h st b hb=>by
  have e:b=it:=by simpa using hb
  subst e
  exact ⟨_,st,fun v z=>by
   have z':Data.fields _=Data.cell v:=z
   cases z'⟩
 keep:=fun i h h' st k=>k it (by simp) _ st
 item:=by
  intro X hP hw hK hc i pins s σ H E I hf st hg
  subst hP hw hK
  obtain ⟨f0,f1,f2,f3,f4,f5⟩:=hf it (by simp)
  have W:=Walks.range (prog:=X.prog) (w:=X.w) (I.ok.hd hc) it hi (-1) n
  refine W.item i s _ _ hg st fun v h' tk hv st' kk=>?_
  obtain ⟨t,rfl⟩:=hv
  have I1:Inv X pins σ H { s with heap:=h',toks:=tk }:=I.turned (fun b o hb e=>kk b o (by simpa using hb) e) f0 f1 f3 f4 f5
  refine ⟨_,rfl,Iw (s:={ s with heap:=h',toks:=tk }) (n := "range_iterator") st' rfl rfl (by decide) ⟨.int (hi - i),H,I1,⟨t,?_⟩,⟨rfl,rfl⟩,st',fun b hb=>(hf b hb).1⟩⟩
  rw [Int.mul_neg_one,Int.sub_eq_add_neg]
 done:=by
  intro X hP hw hK hc i pins s σ H E I hf st hg
  subst hP hw hK
  obtain ⟨f0,f1,f2,f3,f4,f5⟩:=hf it (by simp)
  exact wpAny_pyNext_range_end (I.ok.hd hc) st (by have:n<=i:=hg;omega) fun h' eb=>⟨rfl,I.turned (t':=s.toks) (fun b o hb e=>eb b o hb e) f0 f1 f3 f4 f5⟩
 self:=fun _ _ _ _ _ st h=>U3 st h
section
variable {X:Cx}{tg:Expr}
noncomputable def Zgk (ta:TA):TI:=fun σ H R=>ta σ H fun vs H1=>∃ i j:Int,vs=[.int i,.int j,.int (-1)]/\(-(2 ^ 62)<=i/\i < 2 ^ 62/\-(2 ^ 62)<=j/\j < 2 ^ 62)/\R (G0 i (i - j).toNat) H1
theorem Znj {a b c:Expr}{ta:TA}{p pos:Pos}(hg:Gl X "range")(hm:X.mg "range" = none)(ha:QA X [a,b,c] ta)(hs:starEach [a,b,c] X.env=[(false,eval a X.env),(false,eval b X.env),(false,eval c X.env)]:=by rfl)(hs2:starEach [b,c] X.env=[(false,eval b X.env),(false,eval c X.env)]:=by rfl) :
  QI X tg (.Call (.Name "range" p) [a,b,c] [] pos) (Zgk ta):=by
 refine ⟨fun pins s σ H R I h=>?_⟩
 refine Call_ (Ed I hg hm boot_range (Qp (Ak (ha.run pos pins s σ H _ I h) fun us s1 ⟨vs,H1,I1,r1,q1⟩=>?_) (by rw [hs,hs2]) (by rw [hs2];rfl)))
 obtain ⟨i,j,e,⟨q1,q2,q3,q4⟩,q⟩:=q1
 subst e
 cases r1 with
 | cons r rr =>
  cases rr with
  | cons r' rr =>
   cases rr with
   | cons r'' rr =>
    cases rr
    obtain ⟨t,rfl⟩:=r
    obtain ⟨t',rfl⟩:=r'
    obtain ⟨t'',rfl⟩:=r''
    refine call_range_3 (by decide) ?_ (.inl (PyProof.noPylong_small (by omega)))
    refine wpAny_pyIter_range (IsRange.new ..) (Zkl q1 q2 q3 q4) ?_
    have I2:Inv X pins σ H1 { s1 with heap:=s1.heap.push { cls:=.type "range",data:=.fields #[.int i t,.int j t',.int (-1) t''] },toks:=s1.toks }:=I1.kept fun b o e=>Ot _ e
    refine ⟨(s1.heap.push { cls:=.type "range",data:=.fields #[.int i t,.int j t',.int (-1) t''] }).objs.size,[(s1.heap.push { cls:=.type "range",data:=.fields #[.int i t,.int j t',.int (-1) t''] }).objs.size],_,_,H1,rfl,
     I2.kept (t':=s1.toks) fun b o e=>Ot _ e,Zff _ i (i - j).toNat,?_,fun b hb=>?_,q⟩
    ·have e1:i+((0:Nat):Int) * (-1)=i:=by simp
     have e2:(((i - j).toNat:Nat):Int) - ((0:Nat):Int)=Qh i j (-1):=by rw [Zgb];split <;> omega
     show IsRangeIter _ _ (i+((0:Nat):Int) * (-1)) ((((i - j).toNat:Nat):Int) - ((0:Nat):Int)) (-1)
     rw [e1,e2]
     exact O2 _ rfl
    ·have e:b=(s1.heap.push { cls:=.type "range",data:=.fields #[.int i t,.int j t',.int (-1) t''] }).objs.size:=by simpa using hb
     subst e
     exact I2.fpOk (Oq _) (I2.hok.fresh (Oq _))
theorem Ze4 {hi:Int}{n:Nat}{g:TG}{tb:TS}{D:Ends}{σ:St}{H:Hp}(Pv:Nat->St->Hp->Prop)(h0:Pv 0 σ H)
  (hs:∀ i σ H,i < n->Pv i σ H->g (.int (hi - i)) σ H fun σ2 H2=>tb { D with nx:=Pv (i+1),ct:=Pv (i+1),bk:=D.nx } σ2 H2) (hd:∀ σ H,Pv n σ H->D.nx σ H) :
  ∃ W:Nat->Nat->St->Hp->Prop,(∃ m,W 0 m σ H)/\∀ i m σ H,W i m σ H ->
   ((G0 hi n).stop i H/\D.nx σ H)\/((G0 hi n).go i H/\∃ N:St->Hp->Prop,(∀ σ' H',N σ' H'->∃ m',m' < m/\W (i+1) m' σ' H')/\∀ x H',(G0 hi n).yld i H x H'->g x σ H' fun σ2 H2=>tb { D with nx:=N,ct:=N,bk:=D.nx } σ2 H2):=by
 refine ⟨fun i m σ H=>m=n - i/\i<=n/\Pv i σ H,⟨n,by simp,P3 _,h0⟩,?_⟩
 rintro i m σ H ⟨rfl,hi',p⟩
 by_cases hlt:i < n
 ·refine .inr ⟨hlt,Pv (i+1),fun σ' H' p'=>⟨n - (i+1),by omega,rfl,hlt,p'⟩,fun x H' y=>?_⟩
  obtain ⟨e,y⟩:=y
  subst e y
  exact hs i σ _ hlt p
 ·have e:i=n:=by omega
  subst e
  exact .inl ⟨Oq _,hd σ H p⟩
end
noncomputable def Iq (K:On)(a:Addr)(n:Nat):It :=
 ⟨fun i H=>∃ xs,SqL K H a xs/\xs.length=n/\i < n,fun i H x H'=>H'=H/\∀ xs,SqL K H a xs->xs[n - 1 - i]?=some x,fun i _=>i=n⟩
theorem Zoa {P:Program}{w:World}{K:On}{tg:Expr}(a it:Addr)(n:Nat):Gu P w K tg (Iq K a n) [it] it (fun i h=>i<=n/\h.IsRevIter it a ((n:Int) - 1 - (i:Int))) where
 mem:=by simp
 obj:=fun i h st b hb=>by
  have e:b=it:=by simpa using hb
  subst e
  obtain ⟨o,e,c,d⟩:=st.2
  exact ⟨o,e,fun v z=>by rw [d] at z;cases z⟩
 keep:=fun i h h' st k=>⟨st.1,st.2.at fun o e=>k it (by simp) o e⟩
 item:=by
  intro X hP hw hK hc i pins s σ H E I hf st hg
  subst hP hw hK
  obtain ⟨xs,hq,hl,hi⟩:=hg
  obtain ⟨its,rv,p,hz⟩:=I.list hq
  have hx:xs[n - 1 - i]?=some (xs[n - 1 - i]'(by omega)):=Ow (by omega)
  obtain ⟨u,hu,ru⟩:=rv.get hx
  obtain ⟨f0,f1,f2,f3,f4,f5⟩:=hf it (by simp)
  have e:(n:Int) - 1 - (i:Int)=((n - 1 - i:Nat):Int):=by omega
  have hit:=st.2
  rw [e] at hit
  refine wpAny_pyNext_rev_item hit p.isList (x:=u) (by simpa using hu) fun h' st' sb=>?_
  have I1:Inv X pins σ H { s with heap:=h' }:=I.turned (t':=s.toks) (fun b o hb e=>(sb.2 b hb).trans e) f0 f1 f3 f4 f5
  have e2:((n - 1 - i:Nat):Int) - 1=(n:Int) - 1 - ((i+1:Nat):Int):=by omega
  rw [e2] at st'
  obtain ⟨o,eo,c,d⟩:=id st'
  exact ⟨u,rfl,Iw (s:={ s with heap:=h' }) eo c d (by decide) ⟨_,H,I1,ru,⟨rfl,fun ys hy=>by rw [I.list_inj hy hq];exact hx⟩,⟨hi,st'⟩,fun b hb=>(hf b hb).1⟩⟩
 done:=by
  intro X hP hw hK hc i pins s σ H E I hf st hg
  subst hP hw hK
  have hg:i=n:=hg
  subst hg
  obtain ⟨f0,f1,f2,f3,f4,f5⟩:=hf it (by simp)
  have e:(i:Int) - 1 - (i:Int)=-1:=by omega
  have hit:=st.2
  rw [e] at hit
  exact wpAny_pyNext_rev_end (I.ok.hd hc) hit fun h' eb=>⟨rfl,I.turned (t':=s.toks) (fun b o hb e=>eb b o hb e) f0 f1 f3 f4 f5⟩
 self:=fun _ _ _ _ _ st h=>U8 st.2 h
theorem Zcl:bootBuiltins "reversed" = some (.type "reversed"):=by decide +kernel
section
variable {X:Cx}{tg:Expr}
noncomputable def Zdf (K:On)(ta:TA):TI:=fun σ H R=>ta σ H fun vs H1=>∃ a xs,vs=[.ref a]/\SqL K H1 a xs/\R (Iq K a xs.length) H1
theorem Zto {a:Expr}{ta:TA}{p pos:Pos}(hg:Gl X "reversed")(hm:X.mg "reversed" = none)(ha:QA X [a] ta)(hs:starEach [a] X.env=[(false,eval a X.env)]:=by rfl):QI X tg (.Call (.Name "reversed" p) [a] [] pos) (Zdf X.K ta):=by
 refine ⟨fun pins s σ H R I h=>?_⟩
 refine Call_ (Ed I hg hm Zcl (Qp (Ak (ha.run pos pins s σ H _ I h) fun us s1 zq=>?_) hs rfl))
 obtain ⟨vs,H1,I1,r1,q1⟩:=zq
 obtain ⟨l,xs,e,hq,q⟩:=q1
 subst e
 cases r1 with
 | cons r rr =>
  cases rr
  cases r
  obtain ⟨its,rv,pl,hz⟩:=I1.list hq
  refine call_reversed_list pl.isList ?_
  have hl:=rv.length
  have st0:(s1.heap.push (Ur l (((its.toArray).size:Int) - 1))).IsRevIter s1.heap.objs.size l ((xs.length:Int) - 1 - ((0:Nat):Int)):=by
   refine ⟨_,O2 _ rfl,rfl,?_⟩
   have e:((its.toArray).size:Int) - 1=(xs.length:Int) - 1 - ((0:Nat):Int):=by simp [hl]
   rw [<- e]
   rfl
  refine U8 (it:=s1.heap.objs.size) (l:=l) (i:=(xs.length:Int) - 1 - ((0:Nat):Int)) st0 ?_
  refine ⟨s1.heap.objs.size,[s1.heap.objs.size],_,_,H1,rfl,I1.kept (t':=s1.toks) fun b o e=>Ot _ e,Zoa l _ xs.length,⟨P3 _,st0⟩,fun b hb=>?_,q⟩
  have e:b=s1.heap.objs.size:=by simpa using hb
  subst e
  exact I1.fpOk (Oq _) (I1.hok.fresh (Oq _))
theorem Ze9 {K:On}{a:Addr}{xs:List V}{g:TG}{tb:TS}{D:Ends}{σ:St}{H:Hp}(Pv:Nat->St->Hp->Prop)(h0:Pv 0 σ H)(hl:∀ i σ H,i<=xs.length->Pv i σ H->SqL K H a xs)
  (hs:∀ i x σ H,i < xs.length->xs[xs.length - 1 - i]?=some x->Pv i σ H->g x σ H fun σ2 H2=>tb { D with nx:=Pv (i+1),ct:=Pv (i+1),bk:=D.nx } σ2 H2) (hd:∀ σ H,Pv xs.length σ H->D.nx σ H) :
  ∃ W:Nat->Nat->St->Hp->Prop,(∃ m,W 0 m σ H)/\∀ i m σ H,W i m σ H ->
   ((Iq K a xs.length).stop i H/\D.nx σ H)\/((Iq K a xs.length).go i H/\∃ N:St->Hp->Prop,(∀ σ' H',N σ' H'->∃ m',m' < m/\W (i+1) m' σ' H')/\∀ x H',(Iq K a xs.length).yld i H x H'->g x σ H' fun σ2 H2=>tb { D with nx:=N,ct:=N,bk:=D.nx } σ2 H2):=by
 refine ⟨fun i m σ H=>m=xs.length - i/\i<=xs.length/\Pv i σ H,⟨xs.length,by simp,P3 _,h0⟩,?_⟩
 rintro i m σ H ⟨rfl,hi,p⟩
 have q:=hl i σ H hi p
 by_cases hlt:i < xs.length
 ·refine .inr ⟨⟨xs,q,rfl,hlt⟩,Pv (i+1),fun σ' H' p'=>⟨xs.length - (i+1),by omega,rfl,hlt,p'⟩,fun x H' y=>?_⟩
  obtain ⟨e,y⟩:=y
  subst e
  exact hs i x σ _ hlt (y xs q) p
 ·have e:i=xs.length:=by omega
  subst e
  exact .inl ⟨rfl,hd σ H p⟩
end
section
variable {prog:Program}{w:World}{A:Around}{E:Value->Shared->Prop}{s:Shared}
theorem Zjh {it t:Addr}{i:Nat}{items:Array Value}{x:Value}{Q:Value->Shared->Prop}(hit:s.heap.IsTupleIter it t i)(ht:s.heap.IsTuple t items)(hx:items[i]?=some x)
  (hQ:∀ h',h'.IsTupleIter it t (i+1)->Pf it s.heap h'->Q x { s with heap:=h' }):wpAny (model prog w) A (Qc (.ref it)) Q E s:=by
 obtain ⟨o,ho,hc,hd⟩:=id hit
 obtain ⟨ol,hol,_,nl,hdl⟩:=ht
 unfold Qc
 refine Oo (Rg (name:=Px "__next__") hit.typeIs Tv
  (Rl Tv hit.typeIs V0 ?_ (Vz _)))
 show wpAny _ _ (field (.ref it) 0 >>= _) _ _ s
 refine Oo (O9 ho hd (x:=.ref t) rfl ?_)
 show wpAny _ _ (if (Value.ref t == Value.none)=true then _ else _) _ _ s
 rw [if_neg (show ¬ ((Value.ref t == Value.none)=true) from Ov)]
 show wpAny _ _ (field (.ref it) 1 >>= _) _ _ s
 refine Oo (O9 ho hd (x:=.int i 0) rfl ?_)
 show wpAny _ _ (seqItems? (.ref t) >>= _) _ _ s
 refine Oo (Qm hol hdl ?_)
 simp only [Sx,hx]
 refine Oo (Tk ho hd (by simp) (Op ⟨x,rfl,Op (hQ _ ?_ (Pf.update ..))⟩))
 exact ⟨_,Rh _ ho (U6 (T7 hd _)),(Obj.cls_mapFields ..).trans hc,by
  rw [T7 hd];simp [rawInt]⟩
theorem Zm5 {it t:Addr}{i:Nat}{items:Array Value}{Q:Value->Shared->Prop}(hh:A.handled=none)(hit:s.heap.IsTupleIter it t i)(ht:s.heap.IsTuple t items)(hx:items[i]?=none)
  (hE:∀ h' e,Ts it s.heap h'->(∃ o,h'.get? e=some o/\o.cls=.type "StopIteration")->E (.ref e) { s with heap:=h' }):wpAny (model prog w) A (Qc (.ref it)) Q E s:=by
 obtain ⟨o,ho,hc,hd⟩:=id hit
 obtain ⟨ol,hol,_,nl,hdl⟩:=ht
 unfold Qc
 refine Oo (Rg (name:=Px "__next__") hit.typeIs Tv
  (Rl Tv hit.typeIs V0 ?_ (Vz _)))
 show wpAny _ _ (field (.ref it) 0 >>= _) _ _ s
 refine Oo (O9 ho hd (x:=.ref t) rfl ?_)
 show wpAny _ _ (if (Value.ref t == Value.none)=true then _ else _) _ _ s
 rw [if_neg (show ¬ ((Value.ref t == Value.none)=true) from Ov)]
 show wpAny _ _ (field (.ref it) 1 >>= _) _ _ s
 refine Oo (O9 ho hd (x:=.int i 0) rfl ?_)
 show wpAny _ _ (seqItems? (.ref t) >>= _) _ _ s
 refine Oo (Qm hol hdl ?_)
 simp only [Sx,hx]
 refine Oo (Sh (Oo (Tk ho hd (by simp) ?_)))
 show wpAny _ _ (newExc (.type "StopIteration") [] >>= _) _ _ _
 refine Oo ?_
 simp only [newExc,newTuple]
 refine Oo (Rk ?_ (by size_fits))
 refine Oo (m:=firstArgMember _ _) (Sg (a:=Value.none) (by first | rfl | (simp only [firstArgMember];rfl)) ?_)
 refine Rk ?_ (by size_fits)
 simp only [raiseNew]
 refine Oo (wpAny_handled ?_)
 first | rw [show A.in1.handled=none from hh] | rw [hh]
 refine Oo (Op (wpAny_throw ?_))
 exact hE _ _ (((Pf.update ..).extBut.push _).push _) ⟨_,O2 _ rfl,rfl⟩
end
theorem Zkr {prog:Program}{w:World}{A:Around}(hh:A.handled=none)(it l:Addr)(hne:l≠it)(items:Array Value) :
  Draws prog w A it [it,l] items.size (fun i v=>items[i]?=some v) (fun i h=>h.IsTupleIter it l i/\h.IsTuple l items) where
 live:=fun _ _ st=>let ⟨o,ho,_⟩:=st.1;⟨o,ho⟩
 frame:=fun _ _ _ st hk=>⟨st.1.at fun o e=>hk it (by simp) o e,let ⟨o,e,r⟩:=st.2;⟨o,hk l (by simp) o e,r⟩⟩
 item:=fun i s Q E hi st hQ=>by
  refine Zjh st.1 st.2 (x:=items[i]) (by simp [hi]) fun h' hit' hs'=>?_
  exact hQ _ h' s.toks (by simp [hi]) ⟨hit',st.2.extBut hs'.extBut hne⟩ hs'
 done:=fun s Q E st hE=>Zm5 hh st.1 st.2 (by simp) hE
section
variable {prog:Program}{w:World}{A:Around}{E:Value->Shared->Prop}{s:Shared}
theorem Zmh {a:Addr}{Q:Option Obj->Shared->Prop}(h:Q (s.heap.get? a) s):wpAny (model prog w) A (loadIfAlive a) Q E s:=by
 intro Γ p hΓ
 show Sem.wp _ Γ (.loadIfAlive a .pure) _ _ p s
 rw [Sem.wp_loadIfAlive]
 exact h
end
theorem Zt9 {prog:Program}{w:World}{A:Around}{E:Value->Shared->Prop}{s:Shared}{it:Addr}{T:String}{Q:Bool->Shared->Prop}(hT:s.TypeIs (.ref it) T)(n1:typeLookup (.type T) "__len__" = pure none)(n2:typeLookup (.type T) "__length_hint__" = pure none)(h:Q true s):wpAny (model prog w) A (Si (.ref it)) Q E s:=by
 unfold Si
 refine Oo (Th hT n1 ?_)
 show wpAny _ A (specialOf (Value.ref it) (Px "__length_hint__") >>= _) _ _ _
 refine Oo (Th hT n2 ?_)
 exact Op h
structure Src (X:Cx)(pins:List (Addr×Obj))(σ:St)(it:Addr)(T:String)(n:Nat)(H0:Hp)(J:Nat->List V->Hp->Heap->Prop):Prop where
 ty:∀ i ys H h,J i ys H h->∃ o,h.get? it=some o/\o.cls=.type T
 nl:(Value.type T == Value.type "list")=false/\(Value.type T == Value.type "tuple")=false
 hint:∃ mr:Bool,∀(A:Around)(s:Shared)(Q:Bool->Shared->Prop)(E:Value->Shared->Prop),s.TypeIs (.ref it) T->Q mr s->wpAny (model X.prog X.w) A (Si (.ref it)) Q E s
 self:∀(A:Around)(s:Shared)(ys:List V)(H:Hp)(Q:Value->Shared->Prop)(E:Value->Shared->Prop),J 0 ys H s.heap->Q (.ref it) s->wpAny (model X.prog X.w) A (pyIter (.ref it)) Q E s
 keep:∀ i ys H h h' S zs zs',H0 S=none->H S=some (.lst zs)->J i ys H h->(∀ b o,b≠S->h.get? b=some o->h'.get? b=some o)->(∃ o,h'.get? S=some o)->J i ys (upd H S (.lst zs')) h'
 fresh:∀ i ys H h,J i ys H h->H it=none
 item:∀(A:Around)(i:Nat)(s:Shared)(H:Hp)(ys:List V)(E:Value->Shared->Prop),A.handled=none->i < n->Inv X pins σ H s->J i ys H s.heap ->
  wpAny (model X.prog X.w) A (pyNext (.ref it)) (fun r s'=>∃ u x H',r=some u/\RelV x u/\Inv X pins σ H' s'/\J (i+1) (ys++[x]) H' s'.heap/\∀ S zs,H S=some (.lst zs)->H' S=some (.lst zs)) E s
 done:∀(A:Around)(s:Shared)(H:Hp)(ys:List V)(E:Value->Shared->Prop),A.handled=none->Inv X pins σ H s->J n ys H s.heap ->
  wpAny (model X.prog X.w) A (pyNext (.ref it)) (fun r s'=>r=none/\Inv X pins σ H s') E s
section
variable {X:Cx}{pins:List (Addr×Obj)}{σ:St}{it:Addr}{T:String}{n:Nat}{H0:Hp}{J:Nat->List V->Hp->Heap->Prop}
theorem Zgt (C:Src X pins σ it T n H0 J)(hn:n<=sizeLine){A:Around}(hh:A.handled=none){R:Result->Shared->Prop}(S:Addr)(hS0:H0 S=none)(res:Value)
  (fin:∀ s' H' ys',Inv X pins σ H' s'->H' S=some (.lst ys')->ys'.length=n->(∃ h,J n ys' H' h)->R (.ok (.ret res)) s') :
  ∀(k i:Nat)(s:Shared)(H:Hp)(ys:List V),n - i=k->i<=n->Inv X pins σ H s->J i ys H s.heap->H S=some (.lst ys)->ys.length=i ->
  codeAny (model X.prog X.w) A (.builtin "list.extend.loop" ⟨[.ref S,.ref it,res],[]⟩) R s:=by
 intro k
 induction k with
 | zero =>
  intro i s H ys hk hi I j hS hl
  have hin:i=n:=by omega
  subst hin
  refine Ti PySem.F.entry_extend_loop ?_
  rw [Sr Sj _]
  show wpAny _ A.in1 (pyNext (.ref it) >>= _) _ _ s
  refine Oo (Ak (C.done A.in1 s H ys _ hh I j) fun r s' zq=>?_)
  obtain ⟨hr,I'⟩:=zq
  subst hr
  exact Op (fin s' H ys I' hS hl ⟨_,j⟩)
 | succ k ih =>
  intro i s H ys hk hi I j hS hl
  have hlt:i < n:=by omega
  refine Ti PySem.F.entry_extend_loop ?_
  rw [Sr Sj _]
  show wpAny _ A.in1 (pyNext (.ref it) >>= _) _ _ s
  refine Oo (Ak (C.item A.in1 i s H ys _ hh hlt I j) fun r s' zq=>?_)
  obtain ⟨u,x,H',hr,rx,I',j',kS⟩:=zq
  subst hr
  have hS':=kS S ys hS
  obtain ⟨z,its,m,rv,hl',e⟩:=I'.lstM hS'
  show wpAny _ A.in1 (updateSeq S (·.push u) >>= _) _ _ _
  refine Oo ?_
  have hu:(its.toArray.push u)=(its++[u]).toArray:=by simp
  have I2:=I'.lset (f:=(·.push u)) (its':=its++[u]) (ys:=ys++[x]) (t':=s'.toks) hS' e hu (rv.append (.cons rx .nil)) (by rw [Pb,Qj];omega)
  refine Tj e rfl (Op ⟨Sd Sj _,ih (i+1) _ _ (ys++[x]) (by omega) hlt I2 ?_ Ag (by simp [hl])⟩)
   (by rw [Ou];omega) (by show (its.toArray.push u).size<=sizeLine+1;rw [Array.size_push,Ou];omega)
  exact C.keep _ _ _ _ _ S ys (ys++[x]) hS0 hS' j' (fun b o hb eb=>(Qi _ _ (Qb hb)).trans eb) ⟨_,Rh _ e rfl⟩
theorem Zfh {H:Hp}(C:Src X pins σ it T n H J)(hn:n<=sizeLine){A:Around}(hh:A.handled=none){s:Shared}{Q:VK}{E:Value->Shared->Prop}(I:Inv X pins σ H s)(j:J 0 [] H s.heap)
  (jn:∀ S,s.heap.objs.size<=S->H S=none->∀ h',(∀ b o,s.heap.get? b=some o->h'.get? b=some o)->J 0 [] (upd H S (.lst [])) h')
  (q:∀ S H' ys,H S=none->H' S=some (.lst ys)->ys.length=n->(∃ h,J n ys H' h)->Q (.ref S) H') :
  wpAny (model X.prog X.w) A (call (.type "list") [.ref it]) (EP X pins σ Q) E s:=by
 have hf:H s.heap.objs.size=none:=I.hok.fresh (Oq _)
 have hne:s.heap.objs.size≠it:=by
  obtain ⟨o,e,_⟩:=C.ty _ _ _ _ j
  exact Q9 (Ox e)
 refine callType_codes (Q₁:=fun obj s₁=>obj=.ref s.heap.objs.size/\s₁={ s with heap:=s.heap.push { cls:=.type "list",data:=.seq #[] } }) PySem.F.called_list (PySem.F.typeCall_list_1 _) PySem.F.entry_list_init
  (code_list_new _ ⟨rfl,rfl⟩) fun obj s₁ h₁=>?_
 obtain ⟨rfl,rfl⟩:=h₁
 have hS:(s.heap.push { cls:=.type "list",data:=.seq #[] }).get? s.heap.objs.size=some { cls:=.type "list",data:=.seq #[] }:=O2 _ rfl
 have I1:Inv X pins σ (upd H s.heap.objs.size (.lst [])) { s with heap:=s.heap.push { cls:=.type "list",data:=.seq ([]:List Value).toArray } }:=I.lnew (ys:=[]) (its:=[]) (t':=s.toks) .nil (by simp)
 have j1:J 0 [] (upd H s.heap.objs.size (.lst [])) (s.heap.push { cls:=.type "list",data:=.seq ([]:List Value).toArray })   := jn _ (Oq _) hf _ fun b o e=>Ot _ e
 refine ⟨⟨_,hS,rfl⟩,PySem.F.args_list_init_2 _ _,?_⟩
 generalize hs1:({ s with heap:=s.heap.push { cls:=.type "list",data:=.seq ([]:List Value).toArray } }:Shared)=s1 at I1
 have hS1:s1.heap.get? s.heap.objs.size=some { cls:=.type "list",data:=.seq ([]:List Value).toArray }:=by rw [<- hs1];exact hS
 replace j1:J 0 [] (upd H s.heap.objs.size (.lst [])) s1.heap:=by rw [<- hs1];exact j1
 have hs1':({ s with heap:=s.heap.push { cls:=.type "list",data:=.seq #[] } }:Shared)=s1:=hs1
 first | rw [hs1'] | skip
 show wpAny _ A.in1.in1 (do let old <- Builtin.List.listItems (.ref s.heap.objs.size);Builtin.List.listUpdate (.ref s.heap.objs.size) (fun _=>#[]);letGo old.toList.reverse;Uv (.ref s.heap.objs.size) (.ref it) .none) _ _ s1
 generalize s.heap.objs.size=S at *
 refine Oo ?_
 unfold Builtin.List.listItems
 refine Oo (Qm hS1 rfl (Op ?_))
 show wpAny _ A.in1.in1 (updateSeq S (fun _=>#[]) >>= fun _=>letGo (#[]:Array Value).toList.reverse >>= fun _=>Uv (.ref S) (.ref it) .none) _ _ s1
 refine Oo (Tj hS1 rfl ?_)
 have I2:=I1.lset (f:=fun _=>#[]) (its':=[]) (ys:=[]) (t':=s1.toks) Ag hS1 rfl .nil (by simp)
 have hS2:=Rh (Py (fun _=>(#[]:Array Value))) hS1 rfl
 have j2:=C.keep _ _ _ _ (s1.heap.update S (Py fun _=>#[])) S [] [] hf Ag j1 (fun b o hb eb=>(Qi _ _ (Qb hb)).trans eb) ⟨_,hS2⟩
 rw [Za5] at I2 j2
 generalize hs2:({ s1 with heap:=s1.heap.update S (Py fun _=>#[]),toks:=s1.toks }:Shared)=s2 at I2
 replace j2:J 0 [] (upd H S (.lst [])) s2.heap:=by rw [<- hs2];exact j2
 have hs2':({ s1 with heap:=s1.heap.update S (Py fun _=>#[]) }:Shared)=s2:=hs2
 first | rw [hs2'] | skip
 refine Oo (Uu ?_)
 obtain ⟨oi,ei,ci⟩:=C.ty _ _ _ _ j2
 have hT:s2.TypeIs (.ref it) T:=⟨oi,ei,ci⟩
 unfold Uv
 refine Oo (Up hT ?_)
 have h1:Builtin.List.listSameRef (.ref S) (.ref it)=false:=by simp [Builtin.List.listSameRef,hne]
 have h2:=C.nl.1
 have h3:=C.nl.2
 simp only [h1,h2,h3,Bool.or_false,Sw,if_false]
 refine Oo (C.self _ s2 _ _ _ _ j2 ?_)
 refine Oo (Qa ?_)
 obtain ⟨mr,hmr⟩:=C.hint
 refine hmr _ _ _ _ hT ?_
 split
 ·show wpAny _ A.in1.in1 (rule "list.extend.makes-room" >>= fun _=>Builtin.List.listTouch (.ref S) >>= fun _ =>
   again (.builtin "list.extend.loop" ⟨[.ref S,.ref it,.none],[]⟩)) _ _ _
  refine Oo (Sh ?_)
  refine Oo ?_
  show wpAny _ A.in1.in1 (updateSeq S (·.push .none) >>= fun _=>updateSeq S (·.pop)) _ _ _
  obtain ⟨_,its2,m2,rv2,_,e2⟩:=I2.lstM Ag
  cases rv2
  refine Oo (Tj e2 rfl ?_)
  have I3:=I2.lset (f:=(·.push Value.none)) (its':=[.none]) (ys:=[.non]) (t':=s2.toks) Ag e2 (by simp) (.cons rfl .nil) (by show 1<=sizeLine;decide)
  have hS3:=Rh (Py (·.push Value.none)) e2 rfl
  have j3:=C.keep _ _ _ _ (s2.heap.update S (Py (·.push Value.none))) S [] [.non] hf Ag j2 (fun b o hb eb=>(Qi _ _ (Qb hb)).trans eb) ⟨_,hS3⟩
  rw [Za5] at I3 j3
  generalize hs3:({ s2 with heap:=s2.heap.update S (Py (·.push Value.none)),toks:=s2.toks }:Shared)=s3 at I3
  replace j3:J 0 [] (upd H S (.lst [.non])) s3.heap:=by rw [<- hs3];exact j3
  have hs3':({ s2 with heap:=s2.heap.update S (Py (·.push Value.none)) }:Shared)=s3:=hs3
  first | rw [hs3'] | skip
  obtain ⟨_,its3,m3,rv3,hl3,e3⟩:=I3.lstM Ag
  have hl3':its3.length=1:=hl3.symm
  refine Tj e3 rfl ?_ (by rw [Ou,hl3'];decide) (by show its3.toArray.pop.size<=sizeLine+1;rw [Array.size_pop,Ou,hl3'];decide)
  have I4:=I3.lset (f:=(·.pop)) (its':=[]) (ys:=[]) (t':=s3.toks) Ag e3 (by
   cases its3 with
   | nil=>simp at hl3'
   | cons a r=>cases r with
    | nil=>simp
    | cons b r'=>simp at hl3') .nil (by simp)
  have hS4:=Rh (Py (·.pop)) e3 rfl
  have j4:=C.keep _ _ _ _ (s3.heap.update S (Py (·.pop))) S [.non] [] hf Ag j3 (fun b o hb eb=>(Qi _ _ (Qb hb)).trans eb) ⟨_,hS4⟩
  rw [Za5] at I4 j4
  refine Op ⟨Sd Sj _,Zgt C hn (A:=A.in1) hh S hf .none ?_ n 0 _ _ [] rfl (P3 _) I4 j4 Ag rfl⟩
  intro s' H' ys' I' hS' hl' hj'
  exact ⟨rfl,.ref S,H',I',rfl,q S H' ys' hf hS' hl' hj'⟩
 ·refine Op ⟨Sd Sj _,Zgt C hn (A:=A.in1) hh S hf .none ?_ n 0 _ _ [] rfl (P3 _) I2 j2 Ag rfl⟩
  intro s' H' ys' I' hS' hl' hj'
  exact ⟨rfl,.ref S,H',I',rfl,q S H' ys' hf hS' hl' hj'⟩
end
section
variable {X:Cx}{pins:List (Addr×Obj)}{σ:St}{H:Hp}{s:Shared}{h':Heap}
end
theorem FpOk.of {X:Cx}{pins:List (Addr×Obj)}{H H':Hp}{b:Addr}(f:FpOk X pins H b)(h:H' b=none):FpOk X pins H' b:=⟨h,f.2⟩
section
variable {X:Cx}
theorem Zga:bootBuiltins "list" = some (.type "list"):=by decide +kernel
end
end L2
namespace L2
open PySem PySem.SeqAt
open PySem.AutoSeq1 (wpAny_loadPart')
open PySem.MeetsSeq PySem.MeetsSeq2 PySem.MeetsSeq3 PySem.SeqRoads2
theorem Zkg (l b:Addr)(items items2:Array Value)(n n2:Nat)(dd dd2:Option Addr)(sl sl2:Array (Option Value))(hsz:items.size=items2.size)(e:Nat->Bool)(k:Nat) :
  ∀ i:Nat,items.size - i=k->Meets (Builtin.«list.__eq__.loop» ⟨[.ref l,.ref b,rawInt i,rawInt 3],[]⟩)
   (fun A R s=>s.heap.get? l=some { cls:=.type "list",dict:=dd,data:=.seq items n,slots:=sl }/\s.heap.get? b=some { cls:=.type "list",dict:=dd2,data:=.seq items2 n2,slots:=sl2 } /\
    (∀ j (h1:j < items.size) (h2:j < items2.size),EqAt A.in1 s items[j] items2[j] (e j)) /\
    R (.ok (.ret (.bool (!((Pc items.size).drop i).all e)))) s):=by
 induction k with
 | zero =>
  intro i hk prog w A R s h
  obtain ⟨hp,g,d,tk,os⟩:=s;obtain ⟨hl,hb,he,h⟩:=h
  wp_walk using wpAny_loadPart' hl,wpAny_loadPart' hb
  have hi1:items[((i:Nat):Int).toNat]?=none:=by simp;omega
  have hi2:items2[((i:Nat):Int).toNat]?=none:=by simp;omega
  have hd:(Pc items.size).drop i=[]:=by simp;omega
  rw [hd] at h
  rw [hi1,hi2]
  wp_walk using wpAny_loadPart' hl,wpAny_loadPart' hb
  show R (.ok (.ret (.bool (items.size != items2.size)))) _
  rw [hsz]
  simpa using h
 | succ k ih =>
  intro i hk prog w A R s h
  obtain ⟨hp,g,d,tk,os⟩:=s;obtain ⟨hl,hb,he,h⟩:=h
  wp_walk using wpAny_loadPart' hl,wpAny_loadPart' hb
  have hlt:i < items.size:=by omega
  have hlt2:i < items2.size:=by omega
  have hi1:items[((i:Nat):Int).toNat]?=some items[i]:=by simp [hlt]
  have hi2:items2[((i:Nat):Int).toNat]?=some items2[i]:=by simp [hlt2]
  have hd:(Pc items.size).drop i=i::(Pc items.size).drop (i+1):=by simp [Qq,hlt]
  have hc:((i:Int)+1)=((i+1:Nat):Int):=by push_cast;rfl
  rw [hd,Ry] at h
  rw [hi1,hi2]
  refine Oo (he i hlt hlt2 prog w _ _ ?_)
  cases hb':e i with
  | true =>
   rw [hb'] at h
   wp_walk
   rw [hc]
   exact ⟨Sd plain_eq_loop _,Ti entry_eq_loop (by
    rw [Sr plain_eq_loop _]
    exact ih (i+1) (by omega) prog w A R _ ⟨hl,hb,he,by simpa using h⟩)⟩
  | false =>
   rw [hb'] at h
   wp_walk using wpAny_loadPart' hl,wpAny_loadPart' hb
   rw [hi1,hi2]
   wp_walk
   simpa using h
theorem Ztr (l b:Addr)(items items2:Array Value)(n n2:Nat)(dd dd2:Option Addr)(sl sl2:Array (Option Value))(hsz:items.size=items2.size)(e:Nat->Bool) :
  Meets (Builtin.«list.__ne__» ⟨[.ref l,.ref b],[]⟩)
   (fun A R s=>s.heap.get? l=some { cls:=.type "list",dict:=dd,data:=.seq items n,slots:=sl }/\s.heap.get? b=some { cls:=.type "list",dict:=dd2,data:=.seq items2 n2,slots:=sl2 } /\
    (∀ j (h1:j < items.size) (h2:j < items2.size),EqAt A.in1 s items[j] items2[j] (e j)) /\
    R (.ok (.ret (.bool (!(Pc items.size).all e)))) s):=by
 intro prog w A R s h
 obtain ⟨hp,g,d,tk,os⟩:=s;obtain ⟨hl,hb,he,h⟩:=h
 have f3:=PySem.AutoSeq1.sub_list_list
 have hne:¬ (items.size != items2.size)=true:=by simp [hsz]
 wp_walk using wpAny_loadPart' hl,wpAny_loadPart' hb
 exact ⟨Sd plain_eq_loop _,Ti entry_eq_loop (by
  rw [Sr plain_eq_loop _]
  exact Zkg l b items items2 n n2 dd dd2 sl sl2 hsz e _ 0 rfl prog w A R _ ⟨hl,hb,he,by simpa using h⟩)⟩
theorem Zqj (l b:Addr)(items items2:Array Value)(n n2:Nat)(dd dd2:Option Addr)(sl sl2:Array (Option Value))(e:Nat->Bool) :
  Meets (Builtin.«tuple.__ne__» ⟨[.ref l,.ref b],[]⟩)
   (fun A R s=>s.heap.get? l=some { cls:=.type "tuple",dict:=dd,data:=.seq items n,slots:=sl }/\s.heap.get? b=some { cls:=.type "tuple",dict:=dd2,data:=.seq items2 n2,slots:=sl2 } /\
    (∀ j (h1:j < items.size) (h2:j < items2.size),EqAt A.in1 s items[j] items2[j] (e j)) /\
    R (.ok (.ret (.bool (!((Pc (min items.size items2.size)).all e && items.size == items2.size))))) s) :=
 .of_wp fun prog w A R s h=>by
  obtain ⟨hp,g,d,tk,os⟩:=s;obtain ⟨hl,hb,he,h⟩:=h
  have f2:=PySem.AutoSeq1.sub_tuple_tuple
  have hZ:(items.toList.zip items2.toList).length=min items.size items2.size:=by simp
  wp_walk using wpAny_loadPart' hl,wpAny_loadPart' hb,wpAny_forIn_list _ (fun rest b s'=>b.1=none/\s'=⟨hp,g,d,tk,os⟩/\∃ i,rest=(items.toList.zip items2.toList).drop i /\
   R (.ok (.ret (.bool (!(((Pc (min items.size items2.size)).drop i).all e && items.size == items2.size))))) ⟨hp,g,d,tk,os⟩) _
  case turn =>
   rintro ⟨y,x⟩ rest b s' ⟨hb',rfl,i,hz,hR⟩
   have hlt:i < (items.toList.zip items2.toList).length:=by
    rcases Nat.lt_or_ge i (items.toList.zip items2.toList).length with h' | h'
    ·exact h'
    ·rw [R4 h'] at hz;cases hz
   have hm:i < min items.size items2.size:=hZ ▸ hlt
   have h1:i < items.size:=O3 hm (Nat.min_le_left _ _)
   have h2:i < items2.size:=O3 hm (Nat.min_le_right _ _)
   rw [Qq hlt] at hz
   injection hz with hyx hrest
   have hy:y=items[i]:=by have:=congrArg Prod.fst hyx;simpa using this
   have hx:x=items2[i]:=by have:=congrArg Prod.snd hyx;simpa using this
   subst hy hx
   have hd:(Pc (min items.size items2.size)).drop i=i::(Pc (min items.size items2.size)).drop (i+1):=by simp [Qq,hm]
   rw [hd,Ry] at hR
   refine Oo (he i h1 h2 prog w _ _ ?_)
   cases hy:e i with
   | true =>
    rw [hy] at hR
    wp_walk
    exact ⟨rfl,rfl,i+1,hrest,by simpa using hR⟩
   | false =>
    rw [hy] at hR
    wp_walk
    exact ⟨_,rfl,by simpa using hR⟩
  case fin =>
   rintro ⟨b1,b2⟩ s' ⟨hb',rfl,i,hz,hR⟩
   simp only at hb'
   subst hb'
   have hge:min items.size items2.size<=i:=by
    rcases Nat.lt_or_ge i (items.toList.zip items2.toList).length with h' | h'
    ·rw [Qq h'] at hz;cases hz
    ·exact hZ ▸ h'
   rw [R4 (by simpa using hge)] at hR
   wp_walk
   exact ⟨_,rfl,by simpa [Builtin.Tuple.tupleCompareSizes,bne] using hR⟩
  case h =>
   exact ⟨rfl,rfl,0,rfl,by simpa using h⟩
section
variable {prog:Program}{w:World}{A:Around}{E:Value->Shared->Prop}{s:Shared}
theorem Zqu {l b:Addr}{items items2:Array Value}{e:Nat->Bool}{Q:Value->Shared->Prop}(hl:s.heap.IsList l items)(hb:s.heap.IsList b items2)(hsz:items.size=items2.size)(hu:A.units < cLine)
  (he:∀ j (h1:j < items.size) (h2:j < items2.size),EqAt A.in1 s items[j] items2[j] (e j)) (h:Q (.bool (!(Pc items.size).all e)) s):wpAny (model prog w) A (compareOp .NotEq (.ref l) (.ref b)) Q E s:=by
 obtain ⟨⟨cls,dd,data,sl⟩,ho,hc,n,hd⟩:=id hl
 obtain ⟨⟨cls2,dd2,data2,sl2⟩,ho2,hc2,n2,hd2⟩:=id hb
 simp only at hc hd hc2 hd2
 subst hc hd hc2 hd2
 exact richCompare_meets_room (op:=.NotEq) ⟨_,ho,rfl⟩ ⟨_,ho2,rfl⟩ F.slot_list_ne F.entry_list_ne (F.args_list_ne_2 _ _) (Ztr l b items items2 n n2 dd dd2 sl sl2 hsz e)
  ⟨ho,ho2,he,show Value.bool (!(Pc items.size).all e)≠Value.notImplemented/\Q (.bool (!(Pc items.size).all e)) s from ⟨(fun x=>nomatch x),h⟩⟩ hu
theorem Zrs {l b:Addr}{items items2:Array Value}{e:Nat->Bool}{Q:Value->Shared->Prop}(hl:s.heap.IsTuple l items)(hb:s.heap.IsTuple b items2)(hu:A.units < cLine)
  (he:∀ j (h1:j < items.size) (h2:j < items2.size),EqAt A.in1 s items[j] items2[j] (e j)) (h:Q (.bool (!((Pc (min items.size items2.size)).all e && items.size == items2.size))) s):wpAny (model prog w) A (compareOp .NotEq (.ref l) (.ref b)) Q E s:=by
 obtain ⟨⟨cls,dd,data,sl⟩,ho,hc,n,hd⟩:=id hl
 obtain ⟨⟨cls2,dd2,data2,sl2⟩,ho2,hc2,n2,hd2⟩:=id hb
 simp only at hc hd hc2 hd2
 subst hc hd hc2 hd2
 exact richCompare_meets_room (op:=.NotEq) ⟨_,ho,rfl⟩ ⟨_,ho2,rfl⟩ F.slot_tuple_ne F.entry_tuple_ne (F.args_tuple_ne_2 _ _) (Zqj l b items items2 n n2 dd dd2 sl sl2 e)
  ⟨ho,ho2,he,show Value.bool (!((Pc (min items.size items2.size)).all e && items.size == items2.size))≠Value.notImplemented/\Q (.bool (!((Pc (min items.size items2.size)).all e && items.size == items2.size))) s from ⟨(fun x=>nomatch x),h⟩⟩ hu
end
end L2
namespace L2
open PySem PySem.Spec PyProof.Rows
inductive Dt where
 | flat (v:V)
 | tup (ds:List Dt)
 | lst (ds:List Dt)
inductive IsD (K:On)(H:Hp):Nat->V->Dt->Prop where
 | flat {n:Nat} {v:V} (h:C5 v=true):IsD K H n v (.flat v)
 | tup {n:Nat} {a:Addr} {vs:List V} {ds:List Dt} (q:SqT K H a vs) (l:vs.length=ds.length) (h:∀(j:Nat)(v:V)(d:Dt),vs[j]?=some v->ds[j]?=some d->IsD K H n v d):IsD K H (n+1) (.ref a) (.tup ds)
 | lst {n:Nat} {a:Addr} {vs:List V} {ds:List Dt} (q:SqL K H a vs) (l:vs.length=ds.length) (h:∀(j:Nat)(v:V)(d:Dt),vs[j]?=some v->ds[j]?=some d->IsD K H n v d):IsD K H (n+1) (.ref a) (.lst ds)
theorem IsD.up {K:On}{H:Hp}{n m:Nat}{v:V}{d:Dt}(h:IsD K H n v d)(hm:n<=m):IsD K H m v d:=by
 induction h generalizing m with
 | flat h=>exact .flat h
 | tup q l _ ih =>
  obtain ⟨k,rfl⟩:∃ k,m=k+1:=⟨m - 1,by omega⟩
  exact .tup q l fun j v d e1 e2=>ih j v d e1 e2 (by omega)
 | lst q l _ ih =>
  obtain ⟨k,rfl⟩:∃ k,m=k+1:=⟨m - 1,by omega⟩
  exact .lst q l fun j v d e1 e2=>ih j v d e1 e2 (by omega)
theorem Zic {v:V}(h:C5 v=true):Ek v v=true:=by
 cases v with
 | non=>rfl
 | bl b=>simp [Ek]
 | int i=>simp [Ek]
 | str x=>simp [Ek]
 | byt _=>cases h
 | flt _=>cases h
 | ref _=>cases h
 | ty _=>cases h
section
variable {X:Cx}{pins:List (Addr×Obj)}{σ:St}{H:Hp}{s:Shared}
theorem Zn9 (I:Inv X pins σ H s):∀{n:Nat}{x y:V}{d:Dt},IsD X.K H n x d->IsD X.K H n y d->∀{A:Around}{u v:Value},RelV x u->RelV y v->A.units+n < cLine->O7 A s u v true:=by
 intro n
 induction n with
 | zero =>
  intro x y d hx hy A u v rx ry hu
  cases hx with
  | flat fx =>
   cases hy with
   | flat fy =>
    have:=Zed (A:=A) (s:=s) rx ry fx fy
    rw [Zic fx] at this
    exact this
 | succ n ih =>
  intro x y d hx hy A u v rx ry hu
  cases hx with
  | flat fx =>
   cases hy with
   | flat fy =>
    have:=Zed (A:=A) (s:=s) rx ry fx fy
    rw [Zic fx] at this
    exact this
  | @tup _ a vs ds q l h =>
   cases hy with
   | @tup _ b ws _ q' l' h' =>
    cases rx
    cases ry
    by_cases hab:a=b
    ·subst hab
     exact Vs _
    obtain ⟨its,r1,p1,_⟩:=I.tuple q
    obtain ⟨its2,r2,p2,_⟩:=I.tuple q'
    have l1:=r1.length
    have l2:=r2.length
    have:=SeqAt.RcAt.tuples (A:=A) (e:=fun _=>true) (show s.heap.IsTuple a its.toArray from p1) (show s.heap.IsTuple b its2.toArray from p2) (by omega) fun j h1 h2=>by
     have h1':j < vs.length:=by simp only [Ou] at h1;omega
     have h2':j < ws.length:=by simp only [Ou] at h2;omega
     obtain ⟨u1,g1,k1⟩:=r1.get (Ow h1')
     obtain ⟨u2,g2,k2⟩:=r2.get (Ow h2')
     have e1:its.toArray[j]=u1:=by
      have:its[j]?=some its[j]:=by simp
      rw [this] at g1
      simpa using g1
     have e2:its2.toArray[j]=u2:=by
      have:its2[j]?=some its2[j]:=by simp
      rw [this] at g2
      simpa using g2
     rw [e1,e2]
     have hd:j < ds.length:=by omega
     exact ih (h j _ _ (Ow h1') (Ow hd)) (h' j _ _ (Ow h2') (Ow hd)) k1 k2 (by show A.units+1+n < cLine;omega)
    have e:((Pc (min its.toArray.size its2.toArray.size)).all (fun _=>true) && its.toArray.size == its2.toArray.size)=true:=by
     have:its.toArray.size=its2.toArray.size:=by simp only [Ou];omega
     rw [this]
     simp
    rw [e] at this
    exact O7.of_refs hab this
  | @lst _ a vs ds q l h =>
   cases hy with
   | @lst _ b ws _ q' l' h' =>
    cases rx
    cases ry
    by_cases hab:a=b
    ·subst hab
     exact Vs _
    obtain ⟨its,r1,p1,_⟩:=I.list q
    obtain ⟨its2,r2,p2,_⟩:=I.list q'
    have l1:=r1.length
    have l2:=r2.length
    have:=SeqAt.RcAt.lists (A:=A) (e:=fun _=>true) p1.isList p2.isList (by simp only [Ou];omega) (by omega) fun j h1 h2=>by
     have h1':j < vs.length:=by simp only [Ou] at h1;omega
     have h2':j < ws.length:=by simp only [Ou] at h2;omega
     obtain ⟨u1,g1,k1⟩:=r1.get (Ow h1')
     obtain ⟨u2,g2,k2⟩:=r2.get (Ow h2')
     have e1:its.toArray[j]=u1:=by
      have:its[j]?=some its[j]:=by simp
      rw [this] at g1
      simpa using g1
     have e2:its2.toArray[j]=u2:=by
      have:its2[j]?=some its2[j]:=by simp
      rw [this] at g2
      simpa using g2
     rw [e1,e2]
     have hd:j < ds.length:=by omega
     exact ih (h j _ _ (Ow h1') (Ow hd)) (h' j _ _ (Ow h2') (Ow hd)) k1 k2 (by show A.units+1+n < cLine;omega)
    have e:(Pc its.toArray.size).all (fun _=>true)=true:=by simp
    rw [e] at this
    exact O7.of_refs hab this
theorem M3 (I:Inv X pins σ H s){n:Nat}{A:Around}{vs ws:List V}{its its2:List Value}{ds:List Dt}(r1:Vals vs its)(r2:Vals ws its2)(l:vs.length=ds.length)(l':ws.length=ds.length)
  (h:∀(j:Nat)(v:V)(d:Dt),vs[j]?=some v->ds[j]?=some d->IsD X.K H n v d) (h':∀(j:Nat)(v:V)(d:Dt),ws[j]?=some v->ds[j]?=some d->IsD X.K H n v d) (hu:A.units+n < cLine) :
  ∀ j (h1:j < its.toArray.size) (h2:j < its2.toArray.size),O7 A s its.toArray[j] its2.toArray[j] ((fun _=>true) j):=fun j h1 h2=>by
 have l1:=r1.length
 have l2:=r2.length
 have h1':j < vs.length:=by simp only [Ou] at h1;omega
 have h2':j < ws.length:=by simp only [Ou] at h2;omega
 obtain ⟨u1,g1,k1⟩:=r1.get (Ow h1')
 obtain ⟨u2,g2,k2⟩:=r2.get (Ow h2')
 have e1:its.toArray[j]=u1:=by
  have:its[j]?=some its[j]:=by simp
  rw [this] at g1
  simpa using g1
 have e2:its2.toArray[j]=u2:=by
  have:its2[j]?=some its2[j]:=by simp
  rw [this] at g2
  simpa using g2
 rw [e1,e2]
 have hd:j < ds.length:=by omega
 exact Zn9 I (h j _ _ (Ow h1') (Ow hd)) (h' j _ _ (Ow h2') (Ow hd)) k1 k2 hu
end
section
variable {X:Cx}
noncomputable def N6 (K:On)(b:Bool):R2:=fun x y H Q=>∃(a c:Addr)(n:Nat)(d:Dt),x=.ref a/\y=.ref c/\n<=190/\IsD K H n x d/\IsD K H n y d/\Q (.bl b) H
theorem Znt (hu:X.A.units+200 < cLine):OpR X (compareOp .Eq) (N6 X.K true):=by
 intro pins s σ H x y v u Q I rx ry h
 obtain ⟨a,c,n,d,rfl,rfl,hn,hx,hy,q⟩:=h
 cases rx
 cases ry
 cases hx with
 | flat fx=>cases fx
 | @tup n _ vs ds qx l hd =>
  cases hy with
  | @tup _ _ ws _ qy l' hd' =>
   obtain ⟨its,r1,p1,_⟩:=I.tuple qx
   obtain ⟨its2,r2,p2,_⟩:=I.tuple qy
   have l1:=r1.length
   have l2:=r2.length
   refine SeqAt.eq_tupleAt (e:=fun _=>true) (show s.heap.IsTuple a its.toArray from p1) (show s.heap.IsTuple c its2.toArray from p2) (by omega) (M3 I r1 r2 l l' hd hd' (by show X.A.units+1+n < cLine;omega)) ?_
   have e:((Pc (min its.toArray.size its2.toArray.size)).all (fun _=>true) && its.toArray.size == its2.toArray.size)=true:=by
    have:its.toArray.size=its2.toArray.size:=by simp only [Ou];omega
    rw [this]
    simp
   rw [e]
   exact ⟨.bl true,H,I,rfl,q⟩
 | @lst n _ vs ds qx l hd =>
  cases hy with
  | @lst _ _ ws _ qy l' hd' =>
   obtain ⟨its,r1,p1,_⟩:=I.list qx
   obtain ⟨its2,r2,p2,_⟩:=I.list qy
   have l1:=r1.length
   have l2:=r2.length
   refine SeqAt.eq_listAt (e:=fun _=>true) p1.isList p2.isList (by simp only [Ou];omega) (by omega) (M3 I r1 r2 l l' hd hd' (by show X.A.units+1+n < cLine;omega)) ?_
   have e:(Pc its.toArray.size).all (fun _=>true)=true:=by simp
   rw [e]
   exact ⟨.bl true,H,I,rfl,q⟩
theorem Zsj (hu:X.A.units+200 < cLine):OpR X (compareOp .NotEq) (N6 X.K false):=by
 intro pins s σ H x y v u Q I rx ry h
 obtain ⟨a,c,n,d,rfl,rfl,hn,hx,hy,q⟩:=h
 cases rx
 cases ry
 cases hx with
 | flat fx=>cases fx
 | @tup n _ vs ds qx l hd =>
  cases hy with
  | @tup _ _ ws _ qy l' hd' =>
   obtain ⟨its,r1,p1,_⟩:=I.tuple qx
   obtain ⟨its2,r2,p2,_⟩:=I.tuple qy
   have l1:=r1.length
   have l2:=r2.length
   refine Zrs (e:=fun _=>true) (show s.heap.IsTuple a its.toArray from p1) (show s.heap.IsTuple c its2.toArray from p2) (by omega) (M3 I r1 r2 l l' hd hd' (by show X.A.units+1+n < cLine;omega)) ?_
   have e:(!((Pc (min its.toArray.size its2.toArray.size)).all (fun _=>true) && its.toArray.size == its2.toArray.size))=false:=by
    have:its.toArray.size=its2.toArray.size:=by simp only [Ou];omega
    rw [this]
    simp
   rw [e]
   exact ⟨.bl false,H,I,rfl,q⟩
 | @lst n _ vs ds qx l hd =>
  cases hy with
  | @lst _ _ ws _ qy l' hd' =>
   obtain ⟨its,r1,p1,_⟩:=I.list qx
   obtain ⟨its2,r2,p2,_⟩:=I.list qy
   have l1:=r1.length
   have l2:=r2.length
   refine Zqu (e:=fun _=>true) p1.isList p2.isList (by simp only [Ou];omega) (by omega) (M3 I r1 r2 l l' hd hd' (by show X.A.units+1+n < cLine;omega)) ?_
   have e:(!(Pc its.toArray.size).all (fun _=>true))=false:=by simp
   rw [e]
   exact ⟨.bl false,H,I,rfl,q⟩
noncomputable def Im (K:On):R2:=fun x y H Q=>rEq x y H Q\/N6 K true x y H Q
noncomputable def Js (K:On):R2:=fun x y H Q=>rNe x y H Q\/N6 K false x y H Q
theorem Zjz (hu:X.A.units+200 < cLine):OpR X (compareOp .Eq) (Im X.K):=op_eq.or (Znt hu)
theorem Zk2 (hu:X.A.units+200 < cLine):OpR X (compareOp .NotEq) (Js X.K):=op_ne.or (Zsj hu)
theorem s_eq {K:On}{x y:V}{H:Hp}{Q:VK}(hs:N2 x y=true)(h:Q (.bl (decide (x=y))) H):Im K x y H Q:=.inl ⟨hs,h⟩
theorem s_ne {K:On}{x y:V}{H:Hp}{Q:VK}(hs:N2 x y=true)(h:Q (.bl (!decide (x=y))) H):Js K x y H Q:=.inl ⟨hs,h⟩
theorem Zab {K:On}{a c:Addr}{H:Hp}{Q:VK}{n:Nat}{d:Dt}(hn:n<=190)(hx:IsD K H n (.ref a) d)(hy:IsD K H n (.ref c) d)(h:Q (.bl true) H):Im K (.ref a) (.ref c) H Q:=.inr ⟨a,c,n,d,rfl,rfl,hn,hx,hy,h⟩
theorem F7 {K:On}{a c:Addr}{H:Hp}{Q:VK}{n:Nat}{d:Dt}(hn:n<=190)(hx:IsD K H n (.ref a) d)(hy:IsD K H n (.ref c) d)(h:Q (.bl false) H):Js K (.ref a) (.ref c) H Q:=.inr ⟨a,c,n,d,rfl,rfl,hn,hx,hy,h⟩
theorem Room.u200 {k:Nat}{A:Around}(r:Room k A):A.units+200 < cLine:=by have:=r.un;omega
end
section
variable {t u:TS}{c d:TT}{te ta tb tc:TE}{g:TG}{gs:Eh}{ts:TA}{D:Ends}{σ:St}{H:Hp}{Q:VK}{QB:Bool->Hp->Prop}{QA':List V->Hp->Prop}
theorem s_seq (h:t { D with nx:=u D } σ H):Hg t u D σ H:=h
theorem s_asg (h:te σ H fun x H1=>g x σ H1 D.nx):Fl te g D σ H:=h
theorem s_ret (h:te σ H D.rt):E4 te D σ H:=h
theorem s_drop (h:te σ H fun _ H1=>D.nx σ H1):Zcm te D σ H:=h
theorem s_next (h:D.nx σ H):Ip D σ H:=h
theorem s_ifS (h:c σ H fun b H1=>if b=true then t D σ H1 else u D σ H1):Gr c t u D σ H:=h
theorem s_var {i:Nat}{v:V}(e:σ[i]?=some (some v))(h:Q v H):Bz i σ H Q:=⟨v,e,h⟩
theorem s_c {v:V}(h:Q v H):tC v σ H Q:=h
theorem s_op {r:R2}(h:ta σ H fun x H1=>tb σ H1 fun y H2=>r x y H2 Q):Bv r ta tb σ H Q:=h
theorem s_un {r:V->Hp->VK->Prop}(h:ta σ H fun x H1=>r x H1 Q):tUn r ta σ H Q:=h
theorem s_test (h:te σ H fun x H'=>∃ k,x=.bl k/\QB k H'):Er te σ H QB:=h
theorem s_tB (h:te σ H fun x H'=>∃ k,x=.bl k/\QB k H'):tB te σ H QB:=h
theorem s_ex {b:Bool}{P:Bool->Prop}(h:P b):∃ k,V.bl b=V.bl k/\P k:=⟨b,rfl,h⟩
theorem s_exi {i:Int}{P:Int->Prop}(h:P i):∃ k,V.int i=V.int k/\P k:=⟨i,rfl,h⟩
theorem s_not (h:c σ H fun b H1=>QB (!b) H1):Zag c σ H QB:=h
theorem s_and (h:c σ H fun b H1=>if b=true then d σ H1 QB else QB false H1):Jg c d σ H QB:=h
theorem s_or (h:c σ H fun b H1=>if b=true then QB true H1 else d σ H1 QB):tOr c d σ H QB:=h
theorem s_andV (h:ta σ H fun x H1=>∃ k,x=.bl k/\if k=true then tb σ H1 Q else Q (.bl false) H1):Kh ta tb σ H Q:=h
theorem s_orV (h:ta σ H fun x H1=>∃ k,x=.bl k/\if k=true then Q (.bl true) H1 else tb σ H1 Q):Zbx ta tb σ H Q:=h
theorem s_notV (h:ta σ H fun x H1=>∃ k,x=.bl k/\Q (.bl (!k)) H1):Zaf ta σ H Q:=h
theorem s_nil (h:QA' [] H):C2 σ H QA':=h
theorem s_cons (h:te σ H fun x H1=>ts σ H1 fun xs H2=>QA' (x::xs) H2):B9 te ts σ H QA':=h
theorem s_vals {xs:List V}(h:QA' xs H):K4 xs σ H QA':=h
theorem s_tup (h:ts σ H fun xs H1=>xs.length<=sizeLine/\∀ p,H1 p=none->Q (.ref p) (upd H1 p (.tup xs))):Gf ts σ H Q:=h
theorem s_lst (h:ts σ H fun xs H1=>xs.length<=sizeLine/\∀ p,H1 p=none->Q (.ref p) (upd H1 p (.lst xs))):Zay ts σ H Q:=h
theorem s_call {sp:Sp}{dvs:List V}{E:XK}(h:ts σ H fun vs H1=>sp (vs++dvs) H1 Q E):Ex sp dvs E ts σ H Q:=h
theorem s_cb {r:List V->Hp->VK->Prop}(h:ts σ H fun vs H1=>r vs H1 Q):Gc r ts σ H Q:=h
theorem s_bm {K:On}{T:String}{r:V->List V->Hp->VK->Prop}(h:te σ H fun x H1=>Ih K T x H1/\ts σ H1 fun xs H2=>r x xs H2 Q):tBM K T r te ts σ H Q:=h
theorem s_bm0 {K:On}{T:String}{r:V->List V->Hp->VK->Prop}(h:te σ H fun x H1=>Ih K T x H1/\r x [] H1 Q):Kr K T r te σ H Q:=h
theorem s_sl {r:V->Option Int->Option Int->Hp->VK->Prop}{tl th:TO}(h:te σ H fun x H1=>tl σ H1 fun l H2=>th σ H2 fun u H3=>r x l u H3 Q):tSl r te tl th σ H Q:=h
theorem s_po {QO':Option Int->Hp->Prop}(h:te σ H fun x H1=>∃ i,x=.int i/\QO' (some i) H1):Zdn te σ H QO':=h
theorem s_po0 {QO':Option Int->Hp->Prop}(h:QO' none H):Zak σ H QO':=h
theorem s_gname {i:Nat}{v:V}{QS':St->Hp->Prop}(h:QS' (σ.set i (some v)) H):Ft i v σ H QS':=h
theorem Gq {K:On}{n:Nat}{a:Addr}{xs:List V}{QS':St->Hp->Prop}(q:SqT K H a xs)(l:xs.length=n)(h:gs xs σ H QS'):Mv K n gs (.ref a) σ H QS':=⟨a,xs,rfl,q,l,h⟩
theorem s_gcons {v:V}{r:List V}{QS':St->Hp->Prop}(h:g v σ H fun σ' H'=>gs r σ' H' QS'):Zbt g gs (v::r) σ H QS':=⟨v,r,rfl,h⟩
theorem s_gnil {QS':St->Hp->Prop}(h:QS' σ H):Za3 [] σ H QS':=⟨rfl,h⟩
theorem s_gsub {to ti:TE}{tt:Lk}{v:V}{QS':St->Hp->Prop}(h:to σ H fun o H1=>ti σ H1 fun i H2=>tt o i v H2 fun H3=>QS' σ H3):Zba to ti tt v σ H QS':=h
theorem s_isN (h:ta σ H fun x H1=>Q (.bl (decide (x=.non))) H1):Zar ta σ H Q:=h
theorem s_notN (h:ta σ H fun x H1=>Q (.bl (!decide (x=.non))) H1):Zcf ta σ H Q:=h
end
section
variable {wi:TI}{σ0:St->St}{g:TG}{tt:TT}{te:TE}{ta:TA}{tb:TS}{D:Ends}{σ:St}{H:Hp}{Q:VK}{R:It->Hp->Prop}{K:On}
theorem s_comp (h:wi σ H fun J H1=>∀ L,H1 L=none->N5 J g tt te (σ0 σ) H1 L Q):Mr wi σ0 g tt te σ H Q:=h
theorem s_for (h:wi σ H fun J H1=>∃ W:Nat->Nat->St->Hp->Prop,(∃ m,W 0 m σ H1)/\∀ i m σ H,W i m σ H ->
 (J.stop i H/\D.nx σ H)\/(J.go i H/\∃ N:St->Hp->Prop,(∀ σ' H',N σ' H'->∃ m',m' < m/\W (i+1) m' σ' H')/\∀ x H',J.yld i H x H'->g x σ H' fun σ2 H2=>tb { D with nx:=N,ct:=N,bk:=D.nx } σ2 H2)):Zds wi g tb D σ H:=h
theorem s_rng1 (h:ta σ H fun vs H1=>∃ j:Int,vs=[.int j]/\-(2 ^ 62)<=j/\j < 2 ^ 62/\R (Gb 0 j.toNat) H1):Zah ta σ H R:=h
theorem s_rng3 (h:ta σ H fun vs H1=>∃ i j:Int,vs=[.int i,.int j,.int (-1)]/\(-(2 ^ 62)<=i/\i < 2 ^ 62/\-(2 ^ 62)<=j/\j < 2 ^ 62)/\R (G0 i (i - j).toNat) H1):Zgk ta σ H R:=h
theorem s_exr {i:Int}{P:Int->Prop}(h:P i):∃ j,([V.int i]:List V)=[.int j]/\P j:=⟨i,rfl,h⟩
theorem s_exr3 {i j k:Int}{P:Int->Int->Prop}(hk:k=-1)(h:P i j):∃ a b,([V.int i,V.int j,V.int k]:List V)=[.int a,.int b,.int (-1)]/\P a b:=⟨i,j,by rw [hk],h⟩
theorem s_iany (h:te σ H fun x H1=>(∃ a,x=.ref a/\(∃ xs,SqL K H1 a xs)/\R (Ja K a) H1)\/(∃ a,x=.ref a/\(∃ xs,SqT K H1 a xs)/\R (Hx K a) H1)\/∃ z,x=.str z/\R (Hi z) H1):Zbe K te σ H R:=h
theorem s_irev (h:ta σ H fun vs H1=>∃ a xs,vs=[.ref a]/\SqL K H1 a xs/\R (Iq K a xs.length) H1):Zdf K ta σ H R:=h
theorem s_yes {QB:Bool->Hp->Prop}(h:QB true H):Zbo σ H QB:=h
theorem s_turn {L:Addr}{Nx:List V->St->Hp->Prop}{x:V}(h:g x σ H fun σ2 H3=>tt σ2 H3 fun b H4=>if b=true then te σ2 H4 fun y H5=>∃ ys,H5 L=some (.lst ys)/\ys.length < sizeLine/\(∃ zs,upd H5 L (.lst (ys++[y])) L=some (.lst zs)/\Nx zs σ2 (upd H5 L (.lst (ys++[y])))) else ∃ zs,H4 L=some (.lst zs)/\Nx zs σ2 H4):Zdt g tt te L Nx x σ H:=h
theorem G8 {l:Addr}{xs:List V}{y:V}(e:H l=some (.lst xs))(z:xs.length < sizeLine)(h:Q .non (upd H l (.lst (xs++[y])))):Ze6 (.ref l) [y] H Q:=⟨l,xs,y,rfl,rfl,e,z,h⟩
theorem Ji {l:Addr}{xs:List V}{y:V}(e:H l=some (.lst (xs++[y])))(h:Q y (upd H l (.lst xs))):Zbf (.ref l) [] H Q:=⟨l,xs++[y],y,rfl,rfl,e,by simp,by simpa using h⟩
theorem Zhj {sep:Str}{p:Addr}{ys:List Str}(hq:SqL K H p (ys.map V.str))(hz:(ys.map (·.length)).sum+ys.length * sep.length<=16777216)(h:Q (.str (Txt.join sep ys)) H):Zb9 K (.str sep) [.ref p] H Q:=⟨sep,p,ys,rfl,rfl,hq,hz,h⟩
theorem Nr {p:Addr}{xs:List V}{k:Int}{j:Nat}{v:V}{QH:Hp->Prop}(e:H p=some (.lst xs))(hj:C7 xs.length k=some j)(h:QH (upd H p (.lst (xs.set j v)))):Zfl (.ref p) (.int k) v H QH:=⟨p,xs,k,j,rfl,rfl,e,hj,h⟩
end
section
variable {X:Cx}(K:On)
theorem Bp (hK:X.K=K:=by rfl):OpR X (binaryOp .Add) (E9 K):=by subst hK;exact Zv2
theorem A5 (hu:X.A.units+200 < cLine)(hK:X.K=K:=by rfl):OpR X (compareOp .Eq) (Im K):=by subst hK;exact Zjz hu
theorem C8 (hu:X.A.units+200 < cLine)(hK:X.K=K:=by rfl):OpR X (compareOp .NotEq) (Js K):=by subst hK;exact Zk2 hu
theorem Dr (hK:X.K=K:=by rfl):OpR X (compareOp .In) (G6 K false):=by subst hK;exact Zuf
theorem Ld (hK:X.K=K:=by rfl):OpR X (compareOp .NotIn) (G6 K true):=by subst hK;exact Zqh
theorem Zdr (hK:X.K=K:=by rfl):IxR X (Fz K):=by subst hK;exact Zrq
theorem k_sl (hK:X.K=K:=by rfl):SlR X (Zce K):=by subst hK;exact Zq5
theorem Cd (hK:X.K=K:=by rfl):B4 X (.builtin "len") (G3 K):=by subst hK;exact Zug
theorem Ziv (hK:X.K=K:=by rfl):G1 X "str.join" (Zb9 K):=by subst hK;exact Zj2
inductive Ct (K:On)(H:Hp):V->Value->Prop where
 | ty {x:V} {t:Value} (h:D0 K H x t):Ct K H x t
 | tup {a:Addr} {xs:List V} (q:SqT K H a xs):Ct K H (.ref a) (.type "tuple")
 | lst {a:Addr} {xs:List V} (q:SqL K H a xs):Ct K H (.ref a) (.type "list")
noncomputable def K5 (K:On)(T:String):List V->Hp->VK->Prop:=fun xs H Q=>∃ x t b,xs=[x,.ty T]/\Ct K H x t/\O0 K t (.type T)=some b/\Q (.bl b) H
theorem Zur {T:String}:B4 X (.builtin "isinstance") (K5 X.K T):=by
 intro pins s σ H xs us Q I r h
 obtain ⟨x,t,b,rfl,ty,e,q⟩:=h
 obtain ⟨u,v,rfl,ru,rv⟩:=r.two
 obtain rfl:v=Value.type T:=rv
 cases ty with
 | ty ty=>exact Zfg I ru ty e fun tk=>⟨.bl b,H,I.tok tk,rfl,q⟩
 | tup hq =>
  cases ru
  obtain ⟨its,_,p,_⟩:=I.tuple hq
  obtain ⟨o,h1,h2,_⟩:=p
  exact Po Ve I.kIn ⟨o,h1,h2⟩ e (fun z=>nomatch z) fun tk=>⟨.bl b,H,I.tok tk,rfl,q⟩
 | lst hq =>
  cases ru
  obtain ⟨its,_,p,_⟩:=I.list hq
  obtain ⟨o,n,h1,h2,_⟩:=p
  exact Po T8 I.kIn ⟨o,h1,h2⟩ e (fun z=>nomatch z) fun tk=>⟨.bl b,H,I.tok tk,rfl,q⟩
theorem Ew (T:String)(hK:X.K=K:=by rfl):B4 X (.builtin "isinstance") (K5 K T):=by subst hK;exact Zur
noncomputable def rAll (K:On):List V->Hp->VK->Prop:=fun xs H Q=>∃(p:Addr)(bs:List Bool),xs=[.ref p]/\SqL K H p (bs.map V.bl)/\Q (.bl (bs.all id)) H
theorem Zde (hc:X.calm=true)(hK:X.K=K:=by rfl):B4 X (.builtin "all") (rAll K):=by subst hK;exact Zup hc
noncomputable def Zpy (K:On):List V->Hp->VK->Prop:=fun xs H Q=>∃ p ys,xs=[.ref p]/\(SqL K H p ys\/SqT K H p ys)/\∀ l,H l=none->Q (.ref l) (upd H l (.lst ys))
theorem Zni (hK:X.K=K:=by rfl):B4 X (.type "list") (Zpy K):=by subst hK;exact Zp0
noncomputable def Zid (K:On):List V->Hp->VK->Prop:=fun xs H Q=>∃ p ys,xs=[.ref p]/\((SqL K H p ys/\∀ l,H l=none->Q (.ref l) (upd H l (.tup ys)))\/(SqT K H p ys/\Q (.ref p) H))
theorem Mw (hK:X.K=K:=by rfl):B4 X (.type "tuple") (Zid K):=by subst hK;exact Zky
noncomputable def rInt:List V->Hp->VK->Prop:=fun xs H Q=>(∃ i,xs=[.int i]/\Q (.int i) H)\/∃ k,xs=[.bl k]/\Q (.int (if k then 1 else 0)) H
theorem Zhh:B4 X (.type "int") rInt:=Zlc
theorem s_intb {k:Bool}{H:Hp}{Q:VK}(h:Q (.int (if k=true then 1 else 0)) H):rInt [.bl k] H Q:=.inr ⟨k,rfl,h⟩
theorem Fs {tg l:Expr}{tl:TE}(hl:QE X l tl)(hK:X.K=K:=by rfl):QI X tg l (Zbe K tl):=by subst hK;exact Zj0 hl
theorem Zif {tg a:Expr}{ta:TA}{p pos:Pos}(hg:Gl X "reversed")(hm:X.mg "reversed" = none)(ha:QA X [a] ta)(hK:X.K=K:=by rfl)(hs:starEach [a] X.env=[(false,eval a X.env)]:=by rfl):QI X tg (.Call (.Name "reversed" p) [a] [] pos) (Zdf K ta):=by subst hK;exact Zto hg hm ha hs
theorem Gn {es:List Expr}{k:Nat}{pos:Pos}{t:Eh}{n:Nat}(hc:X.calm=true)(h:QGs X es t)(hK:X.K=K:=by rfl)(hn:(assignEach es X.env).length=n:=by rfl)(hst:(assignEach es X.env).findIdx? (·.1)=none:=by rfl):QG X (.Tuple es k pos) (Mv K n t):=by subst hK;exact Zpx hc h hn hst
noncomputable def Ze2 (K:On)(ta:TE):TT:=fun σ H Q=>ta σ H fun x H'=>∃ k,Ku K x H' k/\Q k H'
theorem Zq9 {a:Expr}{ta:TE}(ha:QE X a ta)(he:∀ whole,isTrue a X.env whole=(do let v <- whole;standAt a.pos;holding [v] (truthy v)))(hK:X.K=K:=by rfl):QT X a (Ze2 K ta):=by subst hK;exact ⟨Zko ha.run he⟩
theorem Ea {o e:Expr}{es:List Expr}{to:TE}{t:TA}{name:Str}{apos cpos:Pos}{T id:String}{r:V->List V->Hp->VK->Prop}(pa:PlainAttrs T)(slot:Slot T name id)(hty:typeOf (.builtin id)=pure (.type "method_descriptor"))(hm:G1 X id r)(ho:QE X o to)(ha:QA X (e::es) t)(hK:X.K=K:=by rfl)
  (hbase:attributeBase o name X.env (eval o X.env)=eval o X.env:=by rfl) (hfew:((backTo cpos (starEach (e::es) X.env)).all (fun x=>!x.1) && (backToKw cpos (keywordEach [] X.env)).all (fun x=>x.1.isSome)
   && decide ((e::es).length+([]:List Keyword).length+(if ([]:List Keyword).isEmpty then 0 else 1) < 30))=true:=by rfl) (hline:(apos.endLine == cpos.line)=true:=by rfl) (hs:starEach (e::es) X.env=(false,eval e X.env)::starEach es X.env:=by rfl) (hplain:(backTo cpos (starEach es X.env)).any (·.1)=false:=by rfl):QE X (.Call (.Attribute o name apos) (e::es) [] cpos) (tBM K T r to t):=by subst hK;exact Zlj pa slot hty hm ho ha hbase hfew hline hs hplain
theorem Hz {o:Expr}{to:TE}{name:Str}{apos cpos:Pos}{T id:String}{r:V->List V->Hp->VK->Prop}(pa:PlainAttrs T)(slot:Slot T name id)(hty:typeOf (.builtin id)=pure (.type "method_descriptor"))(hm:G1 X id r)(ho:QE X o to)(hK:X.K=K:=by rfl)(hbase:attributeBase o name X.env (eval o X.env)=eval o X.env:=by rfl)(hline:(apos.endLine == cpos.line)=true:=by rfl):QE X (.Call (.Attribute o name apos) [] [] cpos) (Kr K T r to):=by subst hK;exact Zr6 pa slot hty hm ho hbase hline
end
section
variable {K:On}{σ:St}{H:Hp}{Q:VK}{QB:Bool->Hp->Prop}{ta:TE}
theorem s_truth (h:ta σ H fun x H'=>∃ k,Ku K x H' k/\QB k H'):Ze2 K ta σ H QB:=h
theorem Zpk {a:Addr}{xs:List V}{P:Bool->Prop}(q:SqL K H a xs)(h:P (!xs.isEmpty)):∃ k,Ku K (.ref a) H k/\P k:=⟨_,.inl ⟨xs,q,rfl⟩,h⟩
theorem Zd1 {T:String}{a:Addr}{xs:List V}{b:Bool}(q:SqT K H a xs)(e:O0 K (.type "tuple") (.type T)=some b)(h:Q (.bl b) H):K5 K T [.ref a,.ty T] H Q:=⟨_,_,b,rfl,.tup q,e,h⟩
theorem M6 {p:Addr}{ys:List V}(q:SqL K H p ys)(h:∀ l,H l=none->Q (.ref l) (upd H l (.tup ys))):Zid K [.ref p] H Q:=⟨p,ys,rfl,.inl ⟨q,h⟩⟩
theorem Dg {a:Addr}{xs:List V}{P:Prop}(q:SqL K H a xs)(h:P):Ih K "list" (.ref a) H/\P:=⟨.inl ⟨rfl,_,q⟩,h⟩
end
theorem s_nt {A B:Prop}(h:B):if (!true)=true then A else B:=by simpa using h
theorem s_nf {A B:Prop}(h:A):if (!false)=true then A else B:=by simpa using h
end L2
namespace L2
open PySem
inductive Tr where
 | mk (wd:Str) (note:Dt) (ps:List Tr)
noncomputable def Tr.wd:Tr->Str
 | .mk w _ _=>w
noncomputable def Tr.ps:Tr->List Tr
 | .mk _ _ ps=>ps
mutual
noncomputable def Tr.size:Tr->Nat
 | .mk _ _ ps=>1+Ax ps
noncomputable def Ax:List Tr->Nat
 | []=>0
 | t::r=>t.size+Ax r
end
theorem Tr.size_eq (t:Tr):t.size=1+Ax t.ps:=by
 cases t with
 | mk w n ps=>rw [Tr.size];rfl
theorem Hk (a b:List Tr):Ax (a++b)=Ax a+Ax b:=by
 induction a with
 | nil=>simp [Ax]
 | cons t r ih=>rw [Vo,Ax,Ax,ih];omega
theorem Jn {ts:List Tr}{j:Nat}{t:Tr}(h:ts[j]?=some t):t.size<=Ax ts:=by
 induction ts generalizing j with
 | nil=>simp at h
 | cons x r ih =>
  rw [Ax]
  cases j with
  | zero=>simp at h;subst h;omega
  | succ j=>have:=ih (j:=j) (by simpa using h);omega
theorem J3 (ts:List Tr):ts.length<=Ax ts:=by
 induction ts with
 | nil=>simp [Ax]
 | cons t r ih =>
  have:=t.size_eq
  rw [Ax,Ph]
  omega
noncomputable def SameT (H H':Hp):Prop:=∀ b,(∀ xs,H b=some (.tup xs)->H' b=some (.tup xs))/\∀ o u,H b=some (.frz o u)->H' b=some (.frz o u)
theorem Same.t {H H':Hp}(e:Same H H'):SameT H H':=fun b=>⟨fun xs h=>e b _ h,fun o u h=>e b _ h⟩
theorem SameT.refl (H:Hp):SameT H H:=fun _=>⟨fun _ h=>h,fun _ _ h=>h⟩
theorem SameT.trans {H H1 H2:Hp}(a:SameT H H1)(b:SameT H1 H2):SameT H H2:=fun c=>⟨fun xs h=>(b c).1 xs ((a c).1 xs h),fun o u h=>(b c).2 o u ((a c).2 o u h)⟩
theorem SameT.set {H:Hp}{S:Addr}{zs:List V}{o:HO}(h:H S=some (.lst zs)):SameT H (upd H S o):=fun b =>
 ⟨fun xs e=>by rw [Ay (Zdk e h (by intro z;cases z))];exact e,fun o' u e=>by rw [Ay (Zdk e h (by intro z;cases z))];exact e⟩
theorem SameT.new {H:Hp}{S:Addr}{o:HO}(h:H S=none):SameT H (upd H S o):=(Same.upd h).t
theorem SameT.tup {K:On}{H H':Hp}{a:Addr}{xs:List V}(e:SameT H H')(h:SqT K H a xs):SqT K H' a xs:=by
 rcases h with (h | ⟨o,h⟩) | h
 ·exact .inl (.inl ((e a).1 _ h))
 ·exact .inl (.inr ⟨o,(e a).2 _ _ h⟩)
 ·exact .inr h
noncomputable def IsN (K:On)(H:Hp)(v:V)(n:Dt):Prop:=(C5 v=true/\n=.flat v)\/∃(a:Addr)(vs:List V),v=.ref a/\SqT K H a vs/\vs.all C5=true/\n=.tup (vs.map .flat)
theorem IsN.same {K:On}{H H':Hp}{v:V}{n:Dt}(h:IsN K H v n)(e:SameT H H'):IsN K H' v n:=by
 rcases h with h | ⟨a,vs,h1,h2,h3⟩
 ·exact .inl h
 ·exact .inr ⟨a,vs,h1,e.tup h2,h3⟩
theorem IsN.d {K:On}{H:Hp}{v:V}{n:Dt}(h:IsN K H v n):IsD K H 1 v n:=by
 rcases h with ⟨h,rfl⟩ | ⟨a,vs,rfl,h2,h3,rfl⟩
 ·exact .flat h
 ·refine .tup h2 (by simp) fun j v d e1 e2=>?_
  rw [R9,e1] at e2
  cases e2
  exact .flat (Pj.mp h3 v (Pd e1))
inductive TrAt (K:On)(H:Hp):V->Tr->Prop where
 | mk {a p:Addr} {wd:Str} {nv:V} {n:Dt} {vs:List V} {ts:List Tr} (q:SqT K H a [.str wd,nv,.ref p]) (hn:IsN K H nv n) (qp:SqT K H p vs) (l:vs.length=ts.length)
   (h:∀(j:Nat)(v:V)(t:Tr),vs[j]?=some v->ts[j]?=some t->TrAt K H v t):TrAt K H (.ref a) (.mk wd n ts)
theorem TrAt.sameT {K:On}{H H':Hp}{v:V}{t:Tr}(h:TrAt K H v t)(e:SameT H H'):TrAt K H' v t:=by
 induction h with
 | mk q hn qp l _ ih=>exact .mk (e.tup q) (hn.same e) (e.tup qp) l ih
theorem TrAt.same {K:On}{H H':Hp}{v:V}{t:Tr}(h:TrAt K H v t)(e:Same H H'):TrAt K H' v t:=h.sameT e.t
noncomputable def Al {α:Type}(R:V->α->Prop)(vs:List V)(xs:List α):Prop:=vs.length=xs.length/\∀(j:Nat)(v:V)(x:α),vs[j]?=some v->xs[j]?=some x->R v x
section
variable {α:Type}{R R':V->α->Prop}{vs:List V}{xs:List α}{v:V}{x:α}
theorem Al.mono (h:Al R vs xs)(f:∀ v x,R v x->R' v x):Al R' vs xs:=⟨h.1,fun j v x a b=>f v x (h.2 j v x a b)⟩
theorem Al.nil:Al R [] []:=⟨rfl,fun j v x a _=>by simp at a⟩
theorem Al.snoc (h:Al R vs xs)(a:R v x):Al R (vs++[v]) (xs++[x]):=by
 refine ⟨by simp [h.1],fun j y z e1 e2=>?_⟩
 by_cases hj:j < vs.length
 ·rw [Qv hj] at e1
  rw [Qv (by have:=h.1;omega)] at e2
  exact h.2 j y z e1 e2
 ·have hl:=(Pa.mp e1).1
  rw [Pb,Qj] at hl
  have hj':j=vs.length:=by omega
  subst hj'
  rw [Re (Oq _),To] at e1
  rw [h.1,Re (Oq _),To] at e2
  have e1:v=y:=by simpa using e1
  have e2:x=z:=by simpa using e2
  rw [<- e1,<- e2]
  exact a
theorem Al.split (h:Al R (vs++[v]) xs):∃ ys x,xs=ys++[x]/\Al R vs ys/\R v x:=by
 have hl:xs.length=vs.length+1:=by have:=h.1;simp at this;omega
 have hne:xs≠[]:=fun z=>by rw [z] at hl;simp at hl
 refine ⟨xs.dropLast,xs.getLast hne,(V1 hne).symm,⟨by simp [hl],fun j y z e1 e2=>?_⟩,?_⟩
 ·have hj:=(Pa.mp e1).1
  refine h.2 j y z (by rw [Qv hj];exact e1) ?_
  rw [List.getElem?_dropLast] at e2
  split at e2
  ·exact e2
  ·cases e2
 ·refine h.2 vs.length v _ (by simp) ?_
  rw [List.getLast_eq_getElem,Ow (by omega)]
  congr 1
  simp [hl]
theorem Al.last (h:Al R vs xs)(hn:vs≠[]):∃ vs' v xs' x,vs=vs'++[v]/\xs=xs'++[x]/\Al R vs' xs'/\R v x:=by
 have e:=(V1 hn).symm
 rw [e] at h
 obtain ⟨ys,x,e2,a,r⟩:=h.split
 exact ⟨_,_,ys,x,e,e2,a,r⟩
theorem Al.get {j:Nat}(h:Al R vs xs)(e:vs[j]?=some v):∃ x,xs[j]?=some x/\R v x:=by
 have hj:=(Pa.mp e).1
 have hx:j < xs.length:=by have:=h.1;omega
 exact ⟨xs[j],Ow hx,h.2 j v _ e (Ow hx)⟩
theorem Al.get' {j:Nat}(h:Al R vs xs)(e:xs[j]?=some x):∃ v,vs[j]?=some v/\R v x:=by
 have hj:=(Pa.mp e).1
 have hv:j < vs.length:=by have:=h.1;omega
 exact ⟨vs[j],Ow hv,h.2 j _ x (Ow hv) e⟩
end
noncomputable def gapT:Tr:=.mk "gap" (.flat .non) []
theorem TrAt.gap {K:On}{H:Hp}{a p:Addr}(q:SqT K H a [.str "gap",.non,.ref p])(qp:SqT K H p []):TrAt K H (.ref a) gapT:=.mk q (.inl ⟨rfl,rfl⟩) qp rfl fun j v t e _=>by simp at e
theorem Zca:gapT.size=1:=by unfold gapT;rw [Tr.size,Ax]
mutual
noncomputable def walk:List Nat->Tr->List (List Nat×Tr)
 | pl,.mk w n ps=>(pl,.mk w n ps)::B8 pl 0 ps
noncomputable def B8:List Nat->Nat->List Tr->List (List Nat×Tr)
 | _,_,[]=>[]
 | pl,i,t::r=>walk (pl++[i]) t++B8 pl (i+1) r
end
theorem Znv (pl:List Nat)(t:Tr):walk pl t=(pl,t)::B8 pl 0 t.ps:=by
 cases t with
 | mk w n ps=>rw [walk];rfl
mutual
theorem Ib:∀(pl:List Nat)(t:Tr),(walk pl t).length=t.size
 | pl,.mk w n ps=>by rw [walk,Tr.size,Ph,Zf5 pl 0 ps];omega
theorem Zf5:∀(pl:List Nat)(i:Nat)(ts:List Tr),(B8 pl i ts).length=Ax ts
 | _,_,[]=>by rw [B8,Ax];rfl
 | pl,i,t::r=>by rw [B8,Ax,Pb,Ib,Zf5]
end
mutual
theorem Zh6:∀(pl:List Nat)(t:Tr)(x:List Nat×Tr),x∈walk pl t->x.1.length+1<=pl.length+t.size
 | pl,.mk w n ps,x,h=>by
  rw [walk] at h
  rw [Tr.size]
  rcases O1.mp h with h | h
  ·subst h;show pl.length+1<=_;omega
  ·have:=Zf3 pl 0 ps x h;omega
theorem Zf3:∀(pl:List Nat)(i:Nat)(ts:List Tr)(x:List Nat×Tr),x∈B8 pl i ts->x.1.length<=pl.length+Ax ts
 | _,_,[],x,h=>by rw [B8] at h;cases h
 | pl,i,t::r,x,h=>by
  rw [B8] at h
  rw [Ax]
  rcases Pu.mp h with h | h
  ·have:=Zh6 (pl++[i]) t x h
   rw [Pb,Qj] at this
   omega
  ·have:=Zf3 pl (i+1) r x h;omega
end
noncomputable def Bq (pl:List Nat):List V:=pl.map fun i=>V.int ((i:Nat):Int)
noncomputable def RowAt (K:On)(H:Hp)(v:V)(x:List Nat×Tr):Prop:=∃(a p:Addr)(u:V),v=.ref a/\SqT K H a [.ref p,u]/\SqT K H p (Bq x.1)/\TrAt K H u x.2
theorem RowAt.same {K:On}{H H':Hp}(e:SameT H H')(v:V)(x:List Nat×Tr)(h:RowAt K H v x):RowAt K H' v x:=by
 obtain ⟨a,p,u,r,q,qp,t⟩:=h
 exact ⟨a,p,u,r,e.tup q,e.tup qp,t.sameT e⟩
noncomputable def Bw:List Nat->Nat->List Tr->List (List Nat×Tr)
 | _,_,[]=>[]
 | pl,i,t::r=>(pl++[i],t)::Bw pl (i+1) r
theorem Zit (pl:List Nat):∀(i:Nat)(ts:List Tr),(Bw pl i ts).length=ts.length
 | _,[]=>rfl
 | i,t::r=>by rw [Bw,Ph,Ph,Zit pl (i+1) r]
theorem Zis (pl:List Nat):∀(i j:Nat)(ts:List Tr),(Bw pl i ts)[j]?=(ts[j]?).map fun t=>(pl++[i+j],t)
 | _,_,[]=>by simp [Bw]
 | i,0,t::r=>by simp [Bw]
 | i,j+1,t::r=>by
  rw [Bw,Sl,Sl,Zis pl (i+1) j r]
  congr 1
  funext t
  rw [show i+1+j=i+(j+1) by omega]
theorem Zhe (pl:List Nat):∀(i:Nat)(ts:List Tr),(Bw pl i ts).flatMap (fun x=>walk x.1 x.2)=B8 pl i ts
 | _,[]=>by simp [Bw,B8]
 | i,t::r=>by rw [Bw,List.flatMap_cons,B8,Zhe pl (i+1) r]
noncomputable def Fk (st:List (List Nat×Tr)):List (List Nat×Tr):=st.reverse.flatMap fun x=>walk x.1 x.2
theorem Zo9:Fk []=[]:=rfl
theorem Zea (st:List (List Nat×Tr))(x:List Nat×Tr):Fk (st++[x])=x::Fk (st++(Bw x.1 0 x.2.ps).reverse):=by
 unfold Fk
 rw [Ss,Ss,List.reverse_reverse,Vb,Vb,Zhe]
 rw [List.reverse_singleton,List.flatMap_singleton,Znv]
 rfl
noncomputable def load (st:List (List Nat×Tr)):Nat:=(Fk st).length
theorem Zvs (st:List (List Nat×Tr))(x:List Nat×Tr):load (st++(Bw x.1 0 x.2.ps).reverse) < load (st++[x]):=by
 unfold load
 rw [Zea]
 exact Tb _
theorem Zjq (st:List (List Nat×Tr)):st.length<=load st:=by
 unfold load Fk
 have:∀ l:List (List Nat×Tr),l.length<=(l.flatMap fun x=>walk x.1 x.2).length:=fun l=>by
  induction l with
  | nil=>simp
  | cons x r ih =>
   rw [List.flatMap_cons,Pb,Ib,Ph]
   have:=x.2.size_eq
   omega
 have:=this st.reverse
 rw [R8] at this
 exact this
theorem Zp4 {α:Type}{l:List α}{n i:Nat}{x:α}(hl:l.length=n)(hi:i < n)(hx:l[n - 1 - i]?=some x):(l.drop (n - (i+1))).reverse=(l.drop (n - i)).reverse++[x]:=by
 have hk:n - 1 - i < l.length:=by omega
 have e:l.drop (n - (i+1))=x::l.drop (n - i):=by
  have h1:n - (i+1)=n - 1 - i:=by omega
  rw [h1,Qq hk,show n - 1 - i+1=n - i by omega]
  rw [Ow hk] at hx
  rw [Pi hx]
 rw [e,Sy]
mutual
theorem Zdq:∀(pl:List Nat)(t:Tr),walk pl t=(walk [] t).map fun x=>(pl++x.1,x.2)
 | pl,.mk w n ps=>by
  have e:=Zgp pl [] 0 ps
  rw [Qt] at e
  rw [walk,walk,Q6,e]
  simp
theorem Zgp:∀(pl q:List Nat)(i:Nat)(ts:List Tr),B8 (pl++q) i ts=(B8 q i ts).map fun x=>(pl++x.1,x.2)
 | _,_,_,[]=>by rw [B8,B8];rfl
 | pl,q,i,t::r=>by
  rw [B8,B8,Rn,<- Zgp pl q (i+1) r,Zdq (pl++q++[i]) t,Zdq (q++[i]) t]
  simp
end
theorem Al.append {α:Type}{R:V->α->Prop}{vs ws:List V}{xs ys:List α}(h:Al R vs xs)(h':Al R ws ys):Al R (vs++ws) (xs++ys):=by
 refine ⟨by simp [h.1,h'.1],fun j v x e1 e2=>?_⟩
 by_cases hj:j < vs.length
 ·rw [Qv hj] at e1
  rw [Qv (by have:=h.1;omega)] at e2
  exact h.2 j v x e1 e2
 ·rw [Re (by omega)] at e1
  rw [Re (by have:=h.1;omega),<- h.1] at e2
  exact h'.2 _ v x e1 e2
end L2
namespace L2
open PySem PySem.Spec PyProof.Rows
section
open PySem.AutoSeq1
theorem Zqc (l:Addr)(items:Array Value)(n:Nat)(b:Addr)(items2:Array Value)(n2:Nat)(od:Option Addr)(sl:Array (Option Value))(hs0:¬(!items.isEmpty && Sk (items.size+items2.size))=true)(hs1:items.size<=sizeLine)(hs2:items.size+items2.size<=sizeLine+1) :
  Meets (Builtin.«list.extend» ⟨[.ref l,.ref b],[]⟩) (fun _ R s=>s.heap.get? l=some { cls:=.type "list",dict:=none,data:=.seq items n,slots:=#[] }/\s.heap.get? b=some { cls:=.type "tuple",dict:=od,data:=.seq items2 n2,slots:=sl }/\R (.ok (.ret Value.none)) { s with heap:=s.heap.update l (Py fun x=>x++items2),toks:=s.toks }) :=
 .of_wp fun prog w A R s h=>by
  obtain ⟨hp,g,d,tk,os⟩:=s;obtain ⟨hl,hb,h⟩:=h;have f1:=AutoSeq1.idx_int;have f2:=AutoSeq1.sub_tuple_tuple;have f3:=AutoSeq1.sub_list_list;have f4:=AutoSeq1.sub_tuple_list;have f5:=AutoSeq1.sub_list_tuple;
  have hz':(items++items2).size<=sizeLine+1:=by rw [Array.size_append];exact hs2
  wp_walk using (Tj hl rfl (hz:=hs1) (_hz':=hz')),AutoSeq1.wpAny_loadPart' hl,AutoSeq1.wpAny_loadPart' hb;exact ⟨_,rfl,h⟩
end
noncomputable def Zep (K:On):V->List V->Hp->VK->Prop:=fun x vs H Q=>∃ l b xs zs,x=.ref l/\vs=[.ref b]/\H l=some (.lst xs)/\SqT K H b zs/\xs.length+zs.length<=sizeLine/\Q .non (upd H l (.lst (xs++zs)))
section
variable {X:Cx}
theorem Ztc:MtM X "list.extend" (Zep X.K):=by
 intro pins s σ H x vs v us Q I rx rv h
 obtain ⟨l,b,xs,zs,rfl,rfl,hH,hB,hz,q⟩:=h
 cases rx
 obtain ⟨u,rfl,ru⟩:=rv.one
 cases ru
 obtain ⟨z,its,n,r,hl,e⟩:=I.lstM hH
 obtain ⟨its2,r2,⟨o2,e2,hc2,n2,hd2⟩,hz2⟩:=I.tuple hB
 obtain ⟨oc,od,odata,sl⟩:=o2
 simp only at hc2 hd2
 subst hc2 hd2
 have hl2:=r2.length
 have hsz:its.toArray.size+its2.toArray.size<=sizeLine:=by rw [Ou,Ou];omega
 have hlong:¬ (!its.toArray.isEmpty && Sk (its.toArray.size+its2.toArray.size))=true:=by
  rw [Zin hsz,Uj]
  exact Ov
 refine Qo F.slot_list_extend ⟨_,e,rfl⟩ F.entry_list_extend (F.args_list_extend_2 _ _)
  (Zqc l its.toArray n b its2.toArray n2 od sl hlong (by rw [Ou];omega) (by omega)) ⟨e,e2,?_⟩
 refine ⟨.non,_,I.lset (its':=its++its2) hH e (by simp) (r.append r2) ?_,rfl,q⟩
 rw [Pb]
 omega
noncomputable def Gv (kvs:List (Str×V))(k:Str):Option V:=(kvs.find? fun kv=>kv.1=k).map (·.2)
inductive VPs:List (Str×V)->List (Str×Value)->Prop
 | nil:VPs [] []
 | cons {k:Str} {x:V} {v:Value} {r:List (Str×V)} {q:List (Str×Value)}:RelV x v->VPs r q->VPs ((k,x)::r) ((k,v)::q)
theorem VPs.look {kvs:List (Str×V)}{vs:List (Str×Value)}(h:VPs kvs vs)(k:Str):(valueAt vs k).isSome=(Gv kvs k).isSome/\∀ x,Gv kvs k=some x->∃ v,valueAt vs k=some v/\RelV x v:=by
 induction h with
 | nil=>exact ⟨rfl,fun x e=>nomatch e⟩
 | @cons k' x v r q rx _ ih =>
  unfold valueAt Gv at ih ⊢
  by_cases z:k'=k
  ·simp only [Vv,z,decide_true,Option.map_some,Option.isSome_some]
   exact ⟨trivial,fun y e=>⟨v,rfl,by cases e;exact rx⟩⟩
  ·simp only [Vv,z,decide_false]
   exact ih
noncomputable def DkK (P:Program)(w:World)(K:On)(a:Addr)(kvs:List (Str×V)):Prop :=
 ∃(o:Obj)(vs:List (Str×Value)),K.lookup a=some o/\o.IsDictOf (strKind P w) vs/\(a == sysModules)=false/\VPs kvs vs
noncomputable def rInD (P:Program)(w:World)(K:On):R2:=fun x y H Q=>∃ s a kvs,x=.str s/\y=.ref a/\DkK P w K a kvs/\Q (.bl (Gv kvs s).isSome) H
theorem Zna:OpR X (compareOp .In) (rInD X.prog X.w X.K):=by
 intro pins s σ H x y v u Q I rx ry h
 obtain ⟨z,a,kvs,rfl,rfl,⟨o,vs,hk,hd,lo,vp⟩,q⟩:=h
 obtain ⟨t,rfl⟩:=rx
 cases ry
 have D:s.heap.DictOf (strKind X.prog X.w) a vs:=Vw.mpr ⟨o,I.kIn a o hk,hd⟩
 exact wpAny_in_of (knd:=strKind X.prog X.w) (k:=z) (strKind_is _ _ _ _) lo D.mapOf (Ba (I.tok _) q (vp.look z).1.symm)
noncomputable def rIxD (P:Program)(w:World)(K:On):R2:=fun x y H Q=>∃ a kvs s v,x=.ref a/\y=.str s/\DkK P w K a kvs/\Gv kvs s=some v/\Q v H
theorem ix_D:IxR X (rIxD X.prog X.w X.K):=by
 intro value slice pins s σ H x y v u Q I rx ry h hs
 obtain ⟨a,kvs,z,v',rfl,rfl,⟨o,vs,hk,hd,lo,vp⟩,hv,q⟩:=h
 cases rx
 obtain ⟨t,rfl⟩:=ry
 have D:s.heap.DictOf (strKind X.prog X.w) a vs:=Vw.mpr ⟨o,I.kIn a o hk,hd⟩
 obtain ⟨u',e,r⟩:=(vp.look z).2 _ hv
 exact tail_any D.typeIs slot_dict_getitem.lookup (wpAny_getItem_of (knd:=strKind X.prog X.w) (k:=z) (strKind_is _ _ _ _) D.mapOf e ⟨v',H,I.tok _,r,q⟩) hs
noncomputable def rIsB:R2:=fun x y H Q=>∃ b,y=.bl b/\Q (.bl (decide (x=.bl b))) H
theorem Zh0:OpR X (compareOp .Is) rIsB:=by
 intro pins s σ H x y v u Q I rx ry h
 obtain ⟨b,rfl,q⟩:=h
 cases ry
 refine wpAny_is_plain ?_ (Ba I q ?_)
 ·cases x <;> first | (cases rx;rfl) | (obtain ⟨t,rfl⟩:=rx;rfl)
 ·cases x <;> first
   | (cases rx;rfl)
   | (obtain ⟨t,rfl⟩:=rx;rfl)
   | (rename_i c;cases rx;cases c <;> cases b <;> rfl)
end
section
variable {X:Cx}(P:Program)(w:World)(K:On)
theorem Zrl (hP:X.prog=P:=by rfl)(hw:X.w=w:=by rfl)(hK:X.K=K:=by rfl):OpR X (compareOp .In) (rInD P w K):=by subst hP hw hK;exact Zna
theorem Zh5 (hP:X.prog=P:=by rfl)(hw:X.w=w:=by rfl)(hK:X.K=K:=by rfl):IxR X (rIxD P w K):=by subst hP hw hK;exact ix_D
theorem Zv0 (hK:X.K=K:=by rfl):MtM X "list.extend" (Zep K):=by subst hK;exact Ztc
end
theorem s_chain {r r':R2}{ta tb tc:TE}{σ:St}{H:Hp}{Q:VK}(h:ta σ H fun x H1=>tb σ H1 fun y H2=>r x y H2 fun z H3=>∃ k,z=.bl k/\(if k=true then tc σ H3 fun w' H4=>r' y w' H4 Q else Q (.bl false) H3)):J5 r r' ta tb tc σ H Q:=h
inductive Ents (p:Params):List DictEntry->List (Str×V)->Prop
 | nil:Ents p [] []
 | cons {k:Str} {t:Tok} {x:V} {v:Value} {r:List DictEntry} {q:List (Str×V)}:RelV x v->Ents p r q->Ents p (⟨PyData.keyHash p k,.str k t,v⟩::r) ((k,x)::q)
theorem Ents.pairs {P:Program}{w:World}{es:List DictEntry}{kvs:List (Str×V)}(h:Ents w.params es kvs):∃ vs,VPs kvs vs/\PySem.Pairs (PySem.strKind P w) es vs/\vs.map (·.1)=kvs.map (·.1)/\∀ e∈es,∃ k,(PySem.strKind P w).is k e.key=true/\e.hash=(PySem.strKind P w).hash k:=by
 induction h with
 | nil=>exact ⟨[],.nil,.nil,rfl,fun e he=>nomatch he⟩
 | @cons k t x v r q rx _ ih =>
  obtain ⟨vs,a,b,c,d⟩:=ih
  refine ⟨(k,v)::vs,.cons rx a,.cons (strKind_is _ _ _ _) rfl b,by simp [c],fun e he=>?_⟩
  rcases O1.mp he with rfl | he
  ·exact ⟨k,strKind_is _ _ _ _,rfl⟩
  ·exact d e he
theorem Zkv {P:Program}{w:World}{K:On}{a:Addr}{es:Array DictEntry}{n:Nat}{kvs:List (Str×V)}(l:K.lookup a=some ⟨.type "dict",none,.dict es n,#[]⟩)(hs:(a == sysModules)=false)
  (e:Ents w.params es.toList kvs) (nd:(kvs.map (·.1)).Nodup):DkK P w K a kvs:=by
 obtain ⟨vs,a1,a2,a3,a4⟩:=e.pairs (P:=P)
 exact ⟨_,vs,l,⟨es,n,⟨rfl,rfl,rfl⟩,rfl,fun e he=>a4 e (by simpa using he),a2,by rw [a3];exact nd⟩,hs,a1⟩
theorem Zjg:typeLookup (.type "list_reverseiterator") "__len__" = pure none:=by rw [Uf,T4];kernel_rfl
theorem Zpd:typeLookup (.type "list_reverseiterator") "__length_hint__" = pure (some (.builtin "list_reverseiterator.__length_hint__")):=by rw [Uf,T4];kernel_rfl
theorem Zqb {prog:Program}{w:World}{A:Around}{E:Value->Shared->Prop}{s:Shared}{it:Addr}{Q:Bool->Shared->Prop}(hT:s.TypeIs (.ref it) "list_reverseiterator")(h:Q false s):wpAny (model prog w) A (Si (.ref it)) Q E s:=by
 unfold Si
 refine Oo (Th hT Zjg ?_)
 show wpAny _ _ (specialOf (Value.ref it) (Px "__length_hint__") >>= _) _ _ _
 refine Oo (Th hT Zpd ?_)
 (generalize hid:("list_reverseiterator.__length_hint__" : String)=id0;(fail_if_success (clear hid id0));wp_delta;rw [show splitId id0=some ("list_reverseiterator", "__length_hint__") from by subst hid;decide +kernel];subst hid)
 refine Oo (Vp (b:=true) hT (by rw [isSubtype_type];kernel_rfl) ?_)
 exact Op h
noncomputable def JRev (H0:Hp)(it a:Addr)(xs:List V):Nat->List V->Hp->Heap->Prop:=fun i ys H h =>
 i<=xs.length/\h.IsRevIter it a ((xs.length:Int) - 1 - (i:Int))/\H it=none/\ys=xs.reverse.take i/\Same H0 H
theorem Zjf {X:Cx}{pins:List (Addr×Obj)}{σ:St}{H0:Hp}{it a:Addr}{xs:List V}(fi:FpOk X pins H0 it)(hq:SqL X.K H0 a xs):Src X pins σ it "list_reverseiterator" xs.length H0 (JRev H0 it a xs) where
 ty:=fun i ys H h j=>by
  obtain ⟨o,e,c,_⟩:=j.2.1
  exact ⟨o,e,c⟩
 nl:=by decide
 hint:=⟨_,fun A s Q E hT h=>Zqb hT h⟩
 self:=fun A s ys H Q E j q=>U8 j.2.1 q
 keep:=fun i ys H h h' S zs zs' h0 hS j k al=>by
  obtain ⟨j1,j2,j3,j4,j5⟩:=j
  have ne1:it≠S:=fun z=>by rw [z,hS] at j3;cases j3
  exact ⟨j1,j2.at fun o e=>k it o ne1 e,by rw [Ay ne1];exact j3,j4,j5.over h0⟩
 fresh:=fun i ys H h j=>j.2.2.1
 item:=fun A i s H ys E hh hi I j=>by
  obtain ⟨j1,j2,j3,j4,j5⟩:=j
  have hqH:=j5.seq hq
  obtain ⟨its,rv,p,hz⟩:=I.list hqH
  have hx:xs[xs.length - 1 - i]?=some (xs[xs.length - 1 - i]'(by omega)):=Ow (by omega)
  obtain ⟨u,hu,ru⟩:=rv.get hx
  obtain ⟨f0,f1,f2,f3,f4,f5⟩:=fi.of j3
  have e:(xs.length:Int) - 1 - (i:Int)=((xs.length - 1 - i:Nat):Int):=by omega
  have hit:=j2
  rw [e] at hit
  refine wpAny_pyNext_rev_item hit p.isList (x:=u) (by simpa using hu) fun h' st' sb=>?_
  have I1:Inv X pins σ H { s with heap:=h' }:=I.turned (t':=s.toks) (fun b o hb e=>(sb.2 b hb).trans e) f0 f1 f3 f4 f5
  have e2:((xs.length - 1 - i:Nat):Int) - 1=(xs.length:Int) - 1 - ((i+1:Nat):Int):=by omega
  rw [e2] at st'
  refine ⟨u,_,H,rfl,ru,I1,⟨hi,st',j3,?_,j5⟩,fun S zs e=>e⟩
  rw [j4,Vk]
  congr 1
  rw [List.getElem?_reverse (by simpa using hi),hx]
  rfl
 done:=fun A s H ys E hh I j=>by
  obtain ⟨j1,j2,j3,j4,j5⟩:=j
  obtain ⟨f0,f1,f2,f3,f4,f5⟩:=fi.of j3
  have e:(xs.length:Int) - 1 - (xs.length:Int)=-1:=by omega
  have hit:=j2
  rw [e] at hit
  exact wpAny_pyNext_rev_end hh hit fun h' eb=>⟨rfl,I.turned (t':=s.toks) (fun b o hb e=>eb b o hb e) f0 f1 f3 f4 f5⟩
section
variable {X:Cx}
noncomputable def Zbk (K:On)(ta:TA):TE:=fun σ H Q=>ta σ H fun vs H1=>∃ a xs,vs=[.ref a]/\SqL K H1 a xs /\
 ∀(S:Addr)(H2:Hp),H1 S=none->Same H1 H2->H2 S=some (.lst xs.reverse)->Q (.ref S) H2
theorem Ztg {e:Expr}{ta:TA}{p p2 pos pos2:Pos}(hg:Gl X "list")(hm:X.mg "list" = none)(hg2:Gl X "reversed")(hm2:X.mg "reversed" = none)(ha:QA X [e] ta)(hc:X.calm=true:=by rfl)
  (hs:starEach [.Call (.Name "reversed" p2) [e] [] pos2] X.env=[(false,eval (.Call (.Name "reversed" p2) [e] [] pos2) X.env)]:=by rfl) (hs2:starEach [e] X.env=[(false,eval e X.env)]:=by rfl) :
  QE X (.Call (.Name "list" p) [.Call (.Name "reversed" p2) [e] [] pos2] [] pos) (Zbk X.K ta):=by
 refine ⟨fun pins s σ H Q I h=>?_⟩
 refine Call_ (Ed I hg hm Zga (Qp ?_ hs rfl))
 rw [hs]
 show wpAny _ _ (spliced ((false,eval (.Call (.Name "reversed" p2) [e] [] pos2) X.env)::[])) _ _ s
 refine T6 ?_
 refine Call_ (Ed I hg2 hm2 Zcl (Qp (Ak (ha.run pos2 pins s σ H _ I h) fun us s1 zq=>?_) hs2 rfl))
 obtain ⟨vs,H1,I1,r1,q1⟩:=zq
 obtain ⟨a,xs,e1,hq,q⟩:=q1
 subst e1
 cases r1 with
 | cons r rr =>
  cases rr
  cases r
  obtain ⟨its,rv,pl,hz⟩:=I1.list hq
  have hl:=rv.length
  refine call_reversed_list pl.isList ?_
  refine T9 ?_
  have st0:(s1.heap.push (Ur a (((its.toArray).size:Int) - 1))).IsRevIter s1.heap.objs.size a ((xs.length:Int) - 1 - ((0:Nat):Int)):=by
   refine ⟨_,O2 _ rfl,rfl,?_⟩
   have e:((its.toArray).size:Int) - 1=(xs.length:Int) - 1 - ((0:Nat):Int):=by simp [hl]
   rw [<- e]
   rfl
  have I2:Inv X pins σ H1 { s1 with heap:=s1.heap.push (Ur a (((its.toArray).size:Int) - 1)) }:=I1.kept (t':=s1.toks) fun b o e=>Ot _ e
  have fi:=I1.fpOk (b:=s1.heap.objs.size) (Oq _) (I1.hok.fresh (Oq _))
  have C:=Zjf (X:=X) (pins:=pins) (σ:=σ) (H0:=H1) (it:=s1.heap.objs.size) (a:=a) (xs:=xs) fi hq
  refine Zfh C (by omega) (I1.ok.hd hc) I2 ⟨P3 _,st0,fi.1,rfl,Same.refl _⟩ (fun S hge hS h2 k2=>?_) fun S H' ys hS hS' hl' hj=>?_
  ·refine ⟨P3 _,st0.at fun o e=>k2 _ _ e,?_,rfl,Same.upd hS⟩
   rw [Ay (show s1.heap.objs.size≠S from fun z=>?_)]
   ·exact fi.1
   ·have hge:(s1.heap.push (Ur a (((its.toArray).size:Int) - 1))).objs.size<=S:=hge
    rw [P9] at hge
    omega
  ·obtain ⟨h,j⟩:=hj
   obtain ⟨_,_,_,j4,j5⟩:=j
   rw [Rt (by simp)] at j4
   subst j4
   exact q S H' hS j5 hS'
theorem Zpm (K:On){e:Expr}{ta:TA}{p p2 pos pos2:Pos}(hg:Gl X "list")(hm:X.mg "list" = none)(hg2:Gl X "reversed")(hm2:X.mg "reversed" = none)(ha:QA X [e] ta)(hK:X.K=K:=by rfl)(hc:X.calm=true:=by rfl)
  (hs:starEach [.Call (.Name "reversed" p2) [e] [] pos2] X.env=[(false,eval (.Call (.Name "reversed" p2) [e] [] pos2) X.env)]:=by rfl) (hs2:starEach [e] X.env=[(false,eval e X.env)]:=by rfl) :
  QE X (.Call (.Name "list" p) [.Call (.Name "reversed" p2) [e] [] pos2] [] pos) (Zbk K ta):=by subst hK;exact Ztg hg hm hg2 hm2 ha hc hs hs2
theorem s_listrev {K:On}{ta:TA}{σ:St}{H:Hp}{Q:VK}(h:ta σ H fun vs H1=>∃ a xs,vs=[.ref a]/\SqL K H1 a xs/\∀(S:Addr)(H2:Hp),H1 S=none->Same H1 H2->H2 S=some (.lst xs.reverse)->Q (.ref S) H2):Zbk K ta σ H Q:=h
end
structure ZA (z TI TO i1 i2:Addr)(fp1 fp2:List Addr):Prop where
 TIz:TI≠z
 TOz:TO≠z
 TITO:TI≠TO
 z1:z ∉ fp1
 z2:z ∉ fp2
 TI1:TI≠i1
 TI2:TI≠i2
 TO1:TO ∉ fp1
 TO2:TO ∉ fp2
 m1:i1∈fp1
 m2:i2∈fp2
 n1:i1 ∉ fp2
 n2:i2 ∉ fp1
theorem ZA.i1z {z TI TO i1 i2:Addr}{fp1 fp2:List Addr}(D:ZA z TI TO i1 i2 fp1 fp2):i1≠z:=fun e=>D.z1 (e ▸ D.m1)
theorem ZA.i2z {z TI TO i1 i2:Addr}{fp1 fp2:List Addr}(D:ZA z TI TO i1 i2 fp1 fp2):i2≠z:=fun e=>D.z2 (e ▸ D.m2)
theorem ZA.TOi1 {z TI TO i1 i2:Addr}{fp1 fp2:List Addr}(D:ZA z TI TO i1 i2 fp1 fp2):TO≠i1:=fun e=>D.TO1 (e ▸ D.m1)
theorem ZA.TOi2 {z TI TO i1 i2:Addr}{fp1 fp2:List Addr}(D:ZA z TI TO i1 i2 fp1 fp2):TO≠i2:=fun e=>D.TO2 (e ▸ D.m2)
theorem B7 {prog:Program}{w:World}{A:Around}{it c:Addr}{fp:List Addr}{n i:Nat}{P:Nat->Value->Prop}{St:Nat->Heap->Prop}(D:Draws prog w A it fp n P St){h h':Heap}(st:St i h)(e:Pf c h h')(hc:c ∉ fp):St i h' :=
 D.frame i h h' st fun b hb o eo=>e.extBut b o (fun z=>hc (z ▸ hb)) eo
section
variable {prog:Program}{w:World}{A:Around}{E:Value->Shared->Prop}{s:Shared}{z TI TO i1 i2:Addr}{fp1 fp2:List Addr}{n1 n2 i:Nat}{P1 P2:Nat->Value->Prop}{St1 St2:Nat->Heap->Prop}{a b:Value}
theorem Zlq {Q:Value->Shared->Prop}(D1:Draws prog w A i1 fp1 n1 P1 St1)(D2:Draws prog w A i2 fp2 n2 P2 St2)(D:ZA z TI TO i1 i2 fp1 fp2)(hz:IsZip s.heap z TI TO .none)(hTI:IsPair s.heap TI (.ref i1) (.ref i2))(hTO:IsPair s.heap TO a b)
  (st1:St1 i s.heap) (st2:St2 i s.heap) (l1:i < n1) (l2:i < n2)
  (hQ:∀ x y h' tk,P1 i x->P2 i y->IsZip h' z TI TO (rawInt s.heap.objs.size)->IsPair h' TO x y->St1 (i+1) h'->St2 (i+1) h'->IsPair h' s.heap.objs.size x y->h'.objs.size=s.heap.objs.size+1 ->
   (∀ c o,c≠z->c≠TO->c≠i1->c≠i2->s.heap.get? c=some o->h'.get? c=some o)->Q (.ref s.heap.objs.size) { s with heap:=h',toks:=tk }) :
  wpAny (model prog w) A (Builtin.«zip.__next__» ⟨[.ref z],[]⟩) (fun fin s'=>∃ v,fin=.done (.ret v)/\Q v s') E s:=by
 show wpAny _ _ (field (.ref z) 2 >>= _) _ _ s
 refine Oo (O9 hz rfl (x:=Value.bool false) rfl ?_)
 show wpAny _ _ (field (.ref z) 3 >>= _) _ _ s
 refine Oo (O9 hz rfl (x:=Value.ref TI) rfl (Oo (Qm hTI rfl ?_)))
 show wpAny _ _ (Rc (.ref z) >>= _) _ _ s
 refine Oo ?_
 unfold Rc
 refine Oo (O9 hz rfl (x:=Value.none) rfl (Op ?_))
 simp only [if_true]
 refine Oo (Sh (Oo (O9 hz rfl (x:=Value.ref TO) rfl ?_)))
 refine Oo (Rv hz (by simp) fun h₁ hz₁ e1=>?_)
 replace hz₁:IsZip h₁ z TI TO Value.ellipsis:=hz₁
 refine Oo ?_
 simp only [List.zipIdx_cons,List.zipIdx_nil,Tg,Uk]
 refine Oo (Oo (Um ?_))
 show wpAny _ _ (Qc (.ref i1) >>= _) _ _ _
 refine Oo (D1.item i _ _ _ l1 (B7 D1 st1 e1 D.z1) fun x h₂ tk₂ px s12 e2=>Op ?_)
 replace e2:Pf i1 h₁ h₂:=e2
 have p2:IsPair h₂ TO a b:=e2.extBut _ _ D.TOi1 (e1.extBut _ _ D.TOz hTO)
 refine Oo (Qm p2 rfl (Oo (U9 p2 fun h₃ p3 e3=>?_)))
 replace p3:IsPair h₃ TO x b:=p3
 replace e3:Pf TO h₂ h₃:=e3
 refine Oo (Uu (Op (Oo (Oo (Um ?_)))))
 show wpAny _ _ (Qc (.ref i2) >>= _) _ _ _
 have s22:St2 i h₃:=B7 D2 (B7 D2 (B7 D2 st2 e1 D.z2) e2 D.n1) e3 D.TO2
 refine Oo (D2.item i _ _ _ l2 s22 fun y h₄ tk₄ py s24 e4=>Op ?_)
 replace e4:Pf i2 h₃ h₄:=e4
 have p4:IsPair h₄ TO x b:=e4.extBut _ _ D.TOi2 p3
 refine Oo (Qm p4 rfl (Oo (U9 p4 fun h₅ p5 e5=>?_)))
 replace p5:IsPair h₅ TO x y:=p5
 replace e5:Pf TO h₄ h₅:=e5
 refine Oo (Uu (Op (Op (Oo (Qm p5 rfl (Oo (wpAny_newTuple ?_)))))))
 have sz:h₅.objs.size=s.heap.objs.size:=by rw [e5.1,e4.1,e3.1,e2.1,e1.1]
 have z5:IsZip h₅ z TI TO Value.ellipsis:=e5.extBut _ _ D.TOz.symm (e4.extBut _ _ D.i2z.symm (e3.extBut _ _ D.TOz.symm (e2.extBut _ _ D.i1z.symm hz₁)))
 have k5:∀ c o,c≠z->c≠TO->c≠i1->c≠i2->s.heap.get? c=some o->h₅.get? c=some o:=fun c o c1 c2 c3 c4 e=>e5.extBut _ _ c2 (e4.extBut _ _ c4 (e3.extBut _ _ c2 (e2.extBut _ _ c3 (e1.extBut _ _ c1 e))))
 have t1:St1 (i+1) h₅:=B7 D1 (B7 D1 (B7 D1 s12 e3 D.TO1) e4 D.n2) e5 D.TO1
 have t2:St2 (i+1) h₅:=B7 D2 s24 e5 D.TO2
 have zlt:z < h₅.objs.size:=Ox z5
 show wpAny _ _ (Vy (.ref z) (.ref h₅.objs.size) >>= _) _ _ _
 refine Oo ?_
 unfold Vy
 have z6:IsZip (h₅.push { cls:=.type "tuple",data:=.seq #[x,y] }) z TI TO Value.ellipsis:=Ot _ z5
 refine Oo (Rv z6 (by simp) fun h₇ z7 e7=>?_)
 replace z7:IsZip h₇ z TI TO (rawInt h₅.objs.size):=z7
 refine Rv z7 (by simp) fun h₈ z8 e8=>?_
 replace z8:IsZip h₈ z TI TO (rawInt h₅.objs.size):=z8
 have up:∀ c o,c≠z->h₅.get? c=some o->h₈.get? c=some o:=fun c o c1 e=>e8.extBut _ _ c1 (e7.extBut _ _ c1 (Ot _ e))
 have t8:IsPair h₈ h₅.objs.size x y:=e8.extBut _ _ (Q9 zlt) (e7.extBut _ _ (Q9 zlt) (O2 _ rfl))
 have sz8:h₈.objs.size=h₅.objs.size+1:=by rw [e8.1,e7.1,P9]
 rw [sz] at z8 t8 sz8
 refine Op ⟨_,rfl,?_⟩
 show Q (.ref h₅.objs.size) _
 rw [sz]
 exact hQ x y h₈ tk₄ px py z8 (up _ _ D.TOz p5) (D1.frame _ _ _ t1 fun c hc o e=>up c o (fun q=>D.z1 (q ▸ hc)) e) (D2.frame _ _ _ t2 fun c hc o e=>up c o (fun q=>D.z2 (q ▸ hc)) e) t8 sz8 fun c o c1 c2 c3 c4 e=>up c o c1 (k5 c o c1 c2 c3 c4 e)
theorem Zql {Q:Fin->Shared->Prop}(D1:Draws prog w A i1 fp1 n1 P1 St1)(D2:Draws prog w A i2 fp2 n2 P2 St2)(D:ZA z TI TO i1 i2 fp1 fp2)(hz:IsZip s.heap z TI TO .none)(hTI:IsPair s.heap TI (.ref i1) (.ref i2))(hTO:IsPair s.heap TO a b)
  (st1:St1 i s.heap) (st2:St2 i s.heap) (hend:i=n1\/(i < n1/\i=n2))
  (hE:∀ h' e tk,(∀ c o,c≠z->c≠TO->c≠i1->c≠i2->s.heap.get? c=some o->h'.get? c=some o)->(∃ o,h'.get? e=some o/\o.cls=.type "StopIteration")->E (.ref e) { s with heap:=h',toks:=tk }) :
  wpAny (model prog w) A (Builtin.«zip.__next__» ⟨[.ref z],[]⟩) Q E s:=by
 show wpAny _ _ (field (.ref z) 2 >>= _) _ _ s
 refine Oo (O9 hz rfl (x:=Value.bool false) rfl ?_)
 show wpAny _ _ (field (.ref z) 3 >>= _) _ _ s
 refine Oo (O9 hz rfl (x:=Value.ref TI) rfl (Oo (Qm hTI rfl ?_)))
 show wpAny _ _ (Rc (.ref z) >>= _) _ _ s
 refine Oo ?_
 unfold Rc
 refine Oo (O9 hz rfl (x:=Value.none) rfl (Op ?_))
 simp only [if_true]
 refine Oo (Sh (Oo (O9 hz rfl (x:=Value.ref TO) rfl ?_)))
 refine Oo (Rv hz (by simp) fun h₁ hz₁ e1=>?_)
 replace hz₁:IsZip h₁ z TI TO Value.ellipsis:=hz₁
 refine Oo ?_
 simp only [List.zipIdx_cons,List.zipIdx_nil,Tg,Uk]
 refine Oo (Oo (Um ?_))
 show wpAny _ _ (Qc (.ref i1) >>= _) _ _ _
 rcases hend with rfl | ⟨l1,rfl⟩
 ·refine Oo (D1.done _ _ _ (B7 D1 st1 e1 D.z1) fun h₂ e e2 he=>?_)
  obtain ⟨oe,hoe,hce⟩:=he
  replace e2:Ts i1 h₁ h₂:=e2
  have z2:IsZip h₂ z TI TO Value.ellipsis:=e2 _ _ D.i1z.symm hz₁
  have hez:e≠z:=fun x=>by subst x;rw [z2] at hoe;cases hoe;simp at hce
  refine Rv z2 (by simp) fun h₃ _ e3=>hE h₃ e s.toks (fun c o c1 _ c3 _ x=>e3.extBut _ _ c1 (e2 _ _ c3 (e1.extBut _ _ c1 x))) ⟨oe,e3.extBut _ _ hez hoe,hce⟩
 ·refine Oo (D1.item i _ _ _ l1 (B7 D1 st1 e1 D.z1) fun x h₂ tk₂ px s12 e2=>Op ?_)
  replace e2:Pf i1 h₁ h₂:=e2
  have p2:IsPair h₂ TO a b:=e2.extBut _ _ D.TOi1 (e1.extBut _ _ D.TOz hTO)
  refine Oo (Qm p2 rfl (Oo (U9 p2 fun h₃ p3 e3=>?_)))
  replace e3:Pf TO h₂ h₃:=e3
  refine Oo (Uu (Op (Oo (Oo (Um ?_)))))
  show wpAny _ _ (Qc (.ref i2) >>= _) _ _ _
  have s22:St2 i h₃:=B7 D2 (B7 D2 (B7 D2 st2 e1 D.z2) e2 D.n1) e3 D.TO2
  refine Oo (D2.done _ _ _ s22 fun h₄ e e4 he=>?_)
  obtain ⟨oe,hoe,hce⟩:=he
  replace e4:Ts i2 h₃ h₄:=e4
  have z4:IsZip h₄ z TI TO Value.ellipsis:=e4 _ _ D.i2z.symm (e3.extBut _ _ D.TOz.symm (e2.extBut _ _ D.i1z.symm hz₁))
  have hez:e≠z:=fun x=>by subst x;rw [z4] at hoe;cases hoe;simp at hce
  refine Rv z4 (by simp) fun h₅ _ e5=>hE h₅ e tk₂ (fun c o c1 c2 c3 c4 x=>e5.extBut _ _ c1 (e4 _ _ c4 (e3.extBut _ _ c2 (e2.extBut _ _ c3 (e1.extBut _ _ c1 x))))) ⟨oe,e5.extBut _ _ hez hoe,hce⟩
theorem Zry {Q:Option Value->Shared->Prop}(D1:Draws prog w A.in1 i1 fp1 n1 P1 St1)(D2:Draws prog w A.in1 i2 fp2 n2 P2 St2)(D:ZA z TI TO i1 i2 fp1 fp2)(hz:IsZip s.heap z TI TO .none)(hTI:IsPair s.heap TI (.ref i1) (.ref i2))(hTO:IsPair s.heap TO a b)
  (st1:St1 i s.heap) (st2:St2 i s.heap) (l1:i < n1) (l2:i < n2)
  (hQ:∀ x y h' tk,P1 i x->P2 i y->IsZip h' z TI TO (rawInt s.heap.objs.size)->IsPair h' TO x y->St1 (i+1) h'->St2 (i+1) h'->IsPair h' s.heap.objs.size x y->h'.objs.size=s.heap.objs.size+1 ->
   (∀ c o,c≠z->c≠TO->c≠i1->c≠i2->s.heap.get? c=some o->h'.get? c=some o)->Q (some (.ref s.heap.objs.size)) { s with heap:=h',toks:=tk }) :
  wpAny (model prog w) A (pyNext (.ref z)) Q E s:=by
 have hT:s.TypeIs (.ref z) "zip" := ⟨_,hz,rfl⟩
 unfold pyNext
 exact Oo (Se (Rg (name:=Px "__next__") hT Ri
  (Rl Ri hT T3 (Zlq D1 D2 D hz hTI hTO st1 st2 l1 l2 fun x y h' tk a1 a2 a3 a4 a5 a6 a7 a8 a9=>Op (hQ x y h' tk a1 a2 a3 a4 a5 a6 a7 a8 a9)) (T2 _))))
theorem Zqz {Q:Option Value->Shared->Prop}(D1:Draws prog w A.in1 i1 fp1 n1 P1 St1)(D2:Draws prog w A.in1 i2 fp2 n2 P2 St2)(D:ZA z TI TO i1 i2 fp1 fp2)(hz:IsZip s.heap z TI TO .none)(hTI:IsPair s.heap TI (.ref i1) (.ref i2))(hTO:IsPair s.heap TO a b)
  (st1:St1 i s.heap) (st2:St2 i s.heap) (hend:i=n1\/(i < n1/\i=n2))
  (hQ:∀ h' tk,(∀ c o,c≠z->c≠TO->c≠i1->c≠i2->s.heap.get? c=some o->h'.get? c=some o)->Q none { s with heap:=h',toks:=tk }):wpAny (model prog w) A (pyNext (.ref z)) Q E s:=by
 have hT:s.TypeIs (.ref z) "zip" := ⟨_,hz,rfl⟩
 unfold pyNext
 refine Oo (Se (Rg (name:=Px "__next__") hT Ri
  (Rl Ri hT T3 (Zql D1 D2 D hz hTI hTO st1 st2 hend fun h' e tk hk he=>?_) (T2 _))))
 obtain ⟨o,ho,hc⟩:=he
 exact Oo (Vp (T := "StopIteration") (b:=true) ⟨o,ho,hc⟩ isSubtype_stop (Op (hQ _ _ hk)))
end
section
variable {prog:Program}{w:World}{A:Around}{E:Value->Shared->Prop}{s:Shared}
end
section
variable {X:Cx}{pins:List (Addr×Obj)}{σ:St}{H:Hp}{s:Shared}{h':Heap}
theorem Inv.turnedL {t':Nat}{fp:List Addr}(I:Inv X pins σ H s)(k:∀ b o,b ∉ fp->s.heap.get? b=some o->h'.get? b=some o)(f:∀ b∈fp,FpOk X pins H b):Inv X pins σ H { s with heap:=h',toks:=t' }:=by
 have nit:∀ b u,H b=some u->b ∉ fp:=fun b u e hb=>by rw [(f b hb).1] at e;exact nomatch e
 refine I.step (g':=s.gens) (d':=s.drawn) (ch:=fp) (fun b hb=>?_) (fun b o _ _ hc e _=>k b o hc e) (fun b o _ _ hc e _=>⟨o.slots,k b o hc e⟩) (fun _ _ _ _ n=>n)
  (fun b o hc e=>⟨o,k b o hc e⟩) (fun _ _ e=>e) (fun _ _ _ e=>e) (fun b ps e=>⟨#[],by rw [e];simp⟩) (fun m hm=>?_) (fun b u e=>?_) I.bare
 ·obtain ⟨n1,l1,_,e1,c1,p1⟩:=f b hb
  exact ⟨e1,l1,c1,p1⟩
 ·obtain ⟨o,es,ep,ho,r⟩:=hm
  exact ⟨o,es,ep,k _ o (fun hb=>(f _ hb).2.1 rfl) ho,r⟩
 ·refine (I.hok b u e).stay (fun c v hc q=>k c v ?_ q) (fun _ q=>q) fun _ _ q=>q
  rcases hc with z | z
  ·rw [z];exact nit b u e
  ·exact nit c _ z
theorem Inv.pairL {tk:Nat}{fp:List Addr}{T:Addr}{xs:List V}{its:List Value}(I:Inv X pins σ H s)(f:∀ b∈fp,FpOk X pins H b)
  (kk:∀ b o,b ∉ fp->s.heap.get? b=some o->h'.get? b=some o) (hT:s.heap.objs.size<=T) (rv:Vals xs its) (hz:xs.length<=sizeLine) (ht:h'.IsTuple T its.toArray):Inv X pins σ (upd H T (.tup xs)) { s with heap:=h',toks:=tk }:=by
 have hf:H T=none:=I.hok.fresh hT
 have I1:Inv X pins σ H { s with heap:=h',toks:=tk }:=I.turnedL kk f
 have hokN:HOk X.prog X.w (upd H T (.tup xs)) h':=fun b o e=>by
  by_cases hb:b=T
  ·subst hb
   rw [Ag] at e
   cases e
   exact ⟨hz,its,rv,ht⟩
  ·rw [Ay hb] at e
   refine (I1.hok b o e).stay (fun c v _ q=>q) (fun c q=>?_) fun c zs q=>?_
   ·rw [Ay (Cq q hf)];exact q
   ·rw [Ay (Cq q hf)];exact q
 have u:Un (Bd X.stack) fp H (upd H T (.tup xs)) s.heap h':={
  keep:=fun b o e n _ hx=>kk b o hx e
  slot:=fun b o e n _ hx=>⟨o.slots,kk b o hx e⟩
  free:=fun b o e n _=>by rw [Ay (O5 (O3 (Ox e) hT))];exact n
  there:=fun b o e hx=>⟨o,kk b o hx e⟩
  tups:=fun b zs e=>by rw [Ay (Cq e hf)];exact e
  frzs:=fun b o u e=>by rw [Ay (Cq e hf)];exact e
  tbls:=fun b ps e=>⟨#[],by rw [Ay (Cq e hf),e];simp⟩ }
 refine I.call (g':=s.gens) (d':=s.drawn) (t':=tk) u hokN I.bare fun b hb=>?_
 obtain ⟨n1,l1,_,e1,c1,p1⟩:=f b hb
 exact ⟨e1,l1,c1,p1⟩
end
structure ZB (z TI TO i1 i2 a b:Addr):Prop where
 TIz:TI≠z
 TOz:TO≠z
 TITO:TI≠TO
 i1z:i1≠z
 i2z:i2≠z
 TI1:TI≠i1
 TI2:TI≠i2
 TO1:TO≠i1
 TO2:TO≠i2
 i12:i1≠i2
 az:a≠z
 aTO:a≠TO
 a1:a≠i1
 a2:a≠i2
 bz:b≠z
 bTO:b≠TO
 b1:b≠i1
 b2:b≠i2
theorem ZB.za {z TI TO i1 i2 a b:Addr}(D:ZB z TI TO i1 i2 a b):ZA z TI TO i1 i2 [i1,a] [i2,b] where
 TIz:=D.TIz
 TOz:=D.TOz
 TITO:=D.TITO
 z1:=by simp [D.i1z.symm,D.az.symm]
 z2:=by simp [D.i2z.symm,D.bz.symm]
 TI1:=D.TI1
 TI2:=D.TI2
 TO1:=by simp [D.TO1,D.aTO.symm]
 TO2:=by simp [D.TO2,D.bTO.symm]
 m1:=by simp
 m2:=by simp
 n1:=by simp [D.i12,D.b1.symm]
 n2:=by simp [D.i12.symm,D.a2.symm]
theorem Zu2 {n a b:Nat}(h1:a < n)(h2:b < n):ZB (n+4) (n+2) (n+3) n (n+1) a b:=by
 have f:∀ i j:Nat,i≠j->n+i≠n+j:=fun i j h e=>h (Nat.add_left_cancel e)
 have g:∀ i:Nat,a≠n+i:=fun i e=>absurd h1 (by rw [e];exact Nat.not_lt.mpr (Td _ _))
 have g':∀ i:Nat,b≠n+i:=fun i e=>absurd h2 (by rw [e];exact Nat.not_lt.mpr (Td _ _))
 exact ⟨f 2 4 (by decide),f 3 4 (by decide),f 2 3 (by decide),f 0 4 (by decide),f 1 4 (by decide),f 2 0 (by decide),f 2 1 (by decide),f 3 0 (by decide),f 3 1 (by decide),f 0 1 (by decide),g 4,g 3,g 0,g 1,g' 4,g' 3,g' 0,g' 1⟩
section
variable {X:Cx}
end
theorem Zoo {prog:Program}{w:World}{A:Around}{E:Value->Shared->Prop}{s:Shared}{t sl:Addr}{items:Array Value}{vl vu:Value}{lo hi:Option Int}{Q:Value->Shared->Prop}(ht:IsTup s.heap t items)(hs:s.heap.IsSliceOf sl vl vu .none)(pl:IsPart vl lo)(pu:IsPart vu hi)
  (hw:HT.sIx items.size 0 lo=0/\HT.sIx items.size items.size hi=items.size) (h:Q (.ref t) s):wpAny (model prog w) A (getItem (.ref t) (.ref sl)) Q E s:=by
 obtain ⟨os,hos,hcs,hds⟩:=id hs
 have hTs:s.TypeIs (.ref sl) "slice" := ⟨os,hos,hcs⟩
 unfold getItem
 try with_reducible refine Qa ?_
 first | refine Oo (Op ?_) | skip
 refine Oo (wpAny_sequenceKey ht.typeIs (by decide) ?_)
 refine Oo (Rg (name:=Px "__getitem__") ht.typeIs R1
  (Rl R1 ht.typeIs PyProof.Rows.entry_tuple_getitem ?_ (PyProof.Rows.args_tuple_getitem _ _)))
 show wpAny _ _ (Builtin.Tuple.tupleItemsOf (.ref t) >>= _) _ _ s
 refine Oo (PyProof.Rows.tupleItemsOf_ ht ?_)
 refine Oo (Up hTs ?_)
 rw [if_pos (by decide)]
 refine Oo (HT.sliceApplied_gen hs pl pu ?_)
 have hyes:(((HT.sIx items.size 0 lo:Nat):Int) == 0 && (1:Int) == 1 && (HT.sIx items.size items.size hi - HT.sIx items.size 0 lo) == items.size)=true:=by
  rw [hw.1,hw.2]
  simp
 show wpAny _ _ (if (((HT.sIx items.size 0 lo:Nat):Int) == 0 && (1:Int) == 1 && (HT.sIx items.size items.size hi - HT.sIx items.size 0 lo) == items.size)=true then _ else _) _ _ s
 rw [if_pos hyes]
 refine Oo (m:=Builtin.Tuple.tupleIsExact (.ref t)) ?_
 unfold Builtin.Tuple.tupleIsExact
 refine Oo (Up ht.typeIs (Op ?_))
 rw [if_pos (by decide)]
 refine Oo (Sh ?_)
 exact Op ⟨_,rfl,Op h⟩
noncomputable def rSlU (K:On):V->Option Int->Option Int->Hp->VK->Prop:=fun x lo hi H Q=>∃ a xs,x=.ref a/\SqT K H a xs/\∀ r H',Same H H'->SqT K H' r (Dl xs lo hi)->Q (.ref r) H'
theorem Zk5 {X:Cx}:SlR X (rSlU X.K):=by
 intro pins s σ H x v vl vu lo hi sl Q I rx hs pl pu h
 obtain ⟨a,xs,rfl,hx,q⟩:=h
 by_cases hw:HT.sIx xs.length 0 lo=0/\HT.sIx xs.length xs.length hi=xs.length
 ·cases rx
  obtain ⟨its,r,ht,hz⟩:=I.tuple hx
  have hlen:its.toArray.size=xs.length:=by rw [Ou];exact r.length.symm
  refine ⟨"tuple",_,R1.lookup,ht.typeIs,?_⟩
  refine Zoo ht hs pl pu (by rw [hlen];exact hw) ⟨.ref a,H,I,rfl,q a H (Same.refl H) ?_⟩
  have e:Dl xs lo hi=xs:=by unfold Dl;rw [hw.1,hw.2];simp
  rw [e]
  exact hx
 ·exact Zgg pins s σ H _ v vl vu lo hi sl Q I rx hs pl pu ⟨a,xs,rfl,hx,hw,fun p hp=>q p _ (Same.upd hp) (.of Ag)⟩
noncomputable def rSlB (K:On):V->Option Int->Option Int->Hp->VK->Prop:=fun x lo hi H Q=>Zeh K x lo hi H Q\/Zct x lo hi H Q\/rSlU K x lo hi H Q
theorem Jr {X:Cx}(K:On)(hK:X.K=K:=by rfl):SlR X (rSlB K):=by subst hK;exact sl_list.or (sl_str.or Zk5)
theorem Md {K:On}{a:Addr}{xs:List V}{lo hi:Option Int}{H:Hp}{Q:VK}(ha:SqT K H a xs)(h:∀ r H',Same H H'->SqT K H' r (Dl xs lo hi)->Q (.ref r) H'):rSlB K (.ref a) lo hi H Q:=.inr (.inr ⟨a,xs,rfl,ha,h⟩)
theorem Zam (xs:List V)(k:Nat):Dl xs none (some (k:Int))=xs.take k:=by
 unfold Dl
 rw [HT.sIx_none,HT.sIx_nat,Tp,List.drop_zero]
 by_cases h:k<=xs.length
 ·rw [Nat.min_eq_left h]
 ·rw [Nat.min_eq_right (by omega),Rt (Oq _),Rt (by omega)]
theorem Zgr (xs:List V)(k:Nat):Dl xs (some (k:Int)) none=xs.drop k:=by
 unfold Dl
 rw [HT.sIx_none,HT.sIx_nat]
 by_cases h:k<=xs.length
 ·rw [Nat.min_eq_left h,Rt (by simp)]
 ·rw [Nat.min_eq_right (by omega),R4 (Oq _),R4 (by omega)]
  simp
structure Mvd (fs xs:List Addr)(h h':Heap):Prop where
 keep:∀ b o,b ∉ xs->b ∉ fs->h.get? b=some o->h'.get? b=some o
 slot:∀ b o,b ∉ xs->h.get? b=some o->∃ sl,h'.get? b=some { o with slots:=sl }
theorem Mvd.trans {fs xs:List Addr}{h h1 h2:Heap}(a:Mvd fs xs h h1)(b:Mvd fs xs h1 h2):Mvd fs xs h h2 :=
 ⟨fun c o n1 n2 e=>b.keep c o n1 n2 (a.keep c o n1 n2 e),fun c o n e=>by
  obtain ⟨sl,e1⟩:=a.slot c o n e
  obtain ⟨sl',e2⟩:=b.slot c _ n e1
  exact ⟨sl',e2⟩⟩
theorem Mvd.mono {fs xs ys:List Addr}{h h1:Heap}(a:Mvd fs xs h h1)(s:∀ b∈xs,b∈ys):Mvd fs ys h h1 :=
 ⟨fun c o n1 n2 e=>a.keep c o (fun z=>n1 (s c z)) n2 e,fun c o n e=>a.slot c o (fun z=>n (s c z)) e⟩
theorem Mvd.upd {fs:List Addr}{h:Heap}{a:Addr}(f:Obj->Obj):Mvd fs [a] h (h.update a f) :=
 ⟨fun c o n _ e=>by rw [Qi _ _ (fun z=>n (by simp [z]))];exact e,fun c o n e=>⟨o.slots,by rw [Qi _ _ (fun z=>n (by simp [z]))];exact e⟩⟩
theorem Mvd.push {fs xs:List Addr}{h:Heap}(o:Obj):Mvd fs xs h (h.push o):=⟨fun _ _ _ _ e=>Ot _ e,fun _ o _ e=>⟨o.slots,Ot _ e⟩⟩
theorem Mvd.fun {fs xs:List Addr}{h h1 base:Heap}{l:List Env}(a:Mvd fs xs h h1)(hl:h.FunFrames base l)(nx:∀ b∈xs,∃ o vs,h.get? b=some o/\o.data=.fields vs):h1.FunFrames base l :=
 hl.of_keeps fun b o e hd=>by
  obtain ⟨sl,e1⟩:=a.slot b o (fun z=>by
   obtain ⟨o',vs,e',d'⟩:=nx b z
   rw [e] at e'
   cases e'
   exact hd vs d') e
  exact ⟨_,e1,rfl⟩
noncomputable def Je (h:Heap)(e T:Addr)(cls:Value)(od:Option Addr)(fl:Value):Prop :=
 ∃ oe vs oT ts,h.get? e=some oe/\oe.cls=cls/\oe.dict=od/\oe.data=.fields vs/\vs[1]?=some (.ref T)/\T≠e/\h.get? T=some oT/\oT.data=.fields ts/\ts[3]?=some fl/\vs[2]?=some .none
noncomputable abbrev Gw (h:Heap)(e T:Addr)(cls:Value)(od:Option Addr):Prop:=Je h e T cls od .none
noncomputable def Nh (h:Heap)(e:Addr)(cls:Value)(od:Option Addr):Prop:=∃ oe vs,h.get? e=some oe/\oe.cls=cls/\oe.dict=od/\oe.data=.fields vs/\vs[1]?=some .none/\vs[2]?=some .none
section
variable {M:Model}{A:Around}{E:Value->Shared->Prop}{s:Shared}
theorem Zeo {base:Heap}{env:Env}{outer:List Env}{L e:Addr}{oe:Obj}{vs:Array Value}{head:Value}{hadNext:Bool}{Q:Unit->Shared->Prop}
  (hfr:A.frames=some (env::outer)) (hl:s.heap.FunFrames base (env::outer)) (hf:env.frame=some L) (he:s.heap.get? e=some oe) (hd:oe.data=.fields vs) (hsz:1 < vs.size) (hct:vs[2]?=some .none)
  (h:∀ h' T,s.heap.objs.size<=T->Je h' e T oe.cls oe.dict (rawInt L)->Mvd (Bd (env::outer)) [e] s.heap h'->Q () { s with heap:=h' }) :
  wpAny M A (do let a <- frameOf env;let pl <- entryPlaceOf L hadNext;let b <- EntryCells.newEntry head a .none (rawInt L) .none pl;setField (.ref e) 1 b) Q E s:=by
 have hene:e ∉ Bd (env::outer):=fun hm=>by
  obtain ⟨_,o,ho,hnf⟩:=hl.mem hm
  rw [he] at ho
  cases ho
  exact hnf vs hd
 refine Oo (wpAny_frameOf_fun hfr hl hf fun h₁ s1=>?_)
 refine Oo (wpAny_entryPlaceOf fun pl hpl=>?_)
 unfold EntryCells.newEntry newFields
 refine Oo (Rk ?_ (hpl.sizeOk5 _ _ _ _ _))
 have e1:h₁.get? e=some oe:=(s1.2.1 e hene).trans he
 generalize hoT:({ cls:=.type "traceback",dict:=none,data:=.fields ([head,.ref L,.none,rawInt L,.none]++(if pl.isEmpty then Oy 6 Value.none else pl)).toArray }:Obj)=oT
 have e2:(h₁.push oT).get? e=some oe:=Ot _ e1
 refine Tk e2 hd hsz (h _ h₁.objs.size (by rw [s1.1];exact Oq _) ?_ ?_)
 ·have nT:h₁.objs.size≠e:=Q9 (Ox e1)
  have d3:=T7 hd (·.setIfInBounds 1 (Value.ref h₁.objs.size))
  have e3:=Rh (Sf (·.setIfInBounds 1 (Value.ref h₁.objs.size))) e2 (U6 d3)
  have fT:oT.isFreed=false:=by rw [<- hoT];rfl
  have e4:=(Qi (h₁.push oT) (Sf (·.setIfInBounds 1 (Value.ref h₁.objs.size))) (Qb nT)).trans (O2 h₁ fT)
  refine ⟨_,_,_,_,e3,Obj.cls_mapFields _ _,?_,d3,by simp [hsz],nT,e4,by rw [<- hoT],?_⟩
  ·obtain ⟨c0,d0,t0,s0⟩:=oe
   cases t0 <;> rfl
  ·refine ⟨?_,by rw [Array.getElem?_setIfInBounds_ne (by decide)];exact hct⟩
   first | (simp;done) | (rcases hpl with rfl | ⟨_,_,_,_,_,_,_,rfl⟩ <;> simp)
 ·have m1:Mvd (Bd (env::outer)) [e] s.heap h₁:=⟨fun b o _ n e=>(s1.2.1 b n).trans e,fun b o _ e=>s1.2.2 b o e⟩
  exact (m1.trans (Mvd.push oT)).trans (Mvd.upd _)
theorem Nz {e T:Addr}{cls fl:Value}{od:Option Addr}{fs:List Addr}{Q:Unit->Shared->Prop}(x:Je s.heap e T cls od fl)(h:∀ h',Gw h' e T cls od->Mvd fs [T] s.heap h'->Q () { s with heap:=h' }):wpAny M A (setFlight (.ref e) none) Q E s:=by
 obtain ⟨oe,vs,oT,ts,a1,a2,a3,a4,a5,a6,a7,a8,a9⟩:=x
 have hz:3 < ts.size:=(Tx.mp a9.1).1
 unfold setFlight
 refine Oo (O9 a1 a4 a5 ?_)
 rw [if_pos (show (Value.ref T != Value.none)=true from by simp)]
 refine Tk a7 a8 hz (h _ ?_ (Mvd.upd _))
 have d:=T7 a8 (·.setIfInBounds 3 ((none:Option Addr).elim Value.none fun f=>rawInt f))
 exact ⟨oe,vs,_,_,by rw [Qi _ _ a6];exact a1,a2,a3,a4,a5,a6,Rh _ a7 (U6 d),d,by simp [hz],a9.2⟩
theorem Zk1 {base:Heap}{env:Env}{outer:List Env}{L e:Addr}{cls:Value}{od:Option Addr}{Q:Unit->Shared->Prop}
  (hfr:A.frames=some (env::outer)) (hl:s.heap.FunFrames base (env::outer)) (hf:env.frame=some L) (x:Nh s.heap e cls od)
  (h:∀ h' T,s.heap.objs.size<=T->Je h' e T cls od (rawInt L)->Mvd (Bd (env::outer)) [e] s.heap h'->Q () { s with heap:=h' }):wpAny M A (noteFrame (.ref e) env) Q E s:=by
 obtain ⟨oe,vs,he,rfl,rfl,hd,h1,hct⟩:=x
 unfold noteFrame
 simp only [hf]
 refine Oo (O9 he hd h1 ?_)
 rw [if_neg (by decide)]
 exact Zeo hfr hl hf he hd (Tx.mp h1).1 hct h
theorem Zht {base:Heap}{env:Env}{outer:List Env}{L e T:Addr}{cls:Value}{od:Option Addr}{Q:Unit->Shared->Prop}
  (hfr:A.frames=some (env::outer)) (hl:s.heap.FunFrames base (env::outer)) (hf:env.frame=some L) (x:Gw s.heap e T cls od)
  (h:∀ h' T',s.heap.objs.size<=T'->Je h' e T' cls od (rawInt L)->Mvd (Bd (env::outer)) [e,T] s.heap h'->Q () { s with heap:=h' }):wpAny M A (noteFrame (.ref e) env) Q E s:=by
 obtain ⟨oe,vs,oT,ts,he,rfl,rfl,hd,h1,nT,hT,dT,h3,hct⟩:=x
 unfold noteFrame
 simp only [hf]
 refine Oo (O9 he hd h1 ?_)
 rw [if_pos (show (Value.ref T != Value.none)=true from by simp)]
 refine Oo (O9 hT dT h3 ?_)
 rw [if_neg (show ¬ ((Value.none == rawInt L)=true) from by simp [rawInt])]
 refine Oo (Tk hT dT (Tx.mp h3).1 ?_)
 have m1:Mvd (Bd (env::outer)) [T] s.heap (s.heap.update T (Sf (·.setIfInBounds 3 Value.none))):=Mvd.upd _
 have he':(s.heap.update T (Sf (·.setIfInBounds 3 Value.none))).get? e=some oe:=(Qi _ _ nT).trans he
 refine Zeo hfr (m1.fun hl fun b hb=>by rw [P5.mp hb];exact ⟨oT,ts,hT,dT⟩) hf he' hd (Tx.mp h1).1 hct fun h' T' hz x m=>?_
 refine h h' T' ?_ x ((m1.mono (by simp)).trans (m.mono (by simp)))
 have:(s.heap.update T (Sf (·.setIfInBounds 3 Value.none))).objs.size=s.heap.objs.size:=Heap.size_after_update ..
 have hz:(s.heap.update T (Sf (·.setIfInBounds 3 Value.none))).objs.size<=T':=hz
 omega
theorem Zj8 {base:Heap}{env:Env}{outer:List Env}{L e:Addr}{cls:Value}{od:Option Addr}{Q:Unit->Shared->Prop}
  (hfr:A.frames=some (env::outer)) (hl:s.heap.FunFrames base (env::outer)) (hf:env.frame=some L) (x:Nh s.heap e cls od)
  (h:∀ h' T,s.heap.objs.size<=T->Gw h' e T cls od->Mvd (Bd (env::outer)) [e,T] s.heap h'->Q () { s with heap:=h' }):wpAny M A (leaving env (.ref e)) Q E s:=by
 unfold leaving
 refine Oo (Zk1 hfr hl hf x fun h1 T hz y m=>?_)
 refine Nz (fs:=Bd (env::outer)) y fun h2 y2 m2=>h h2 T hz y2 ((m.mono (by simp)).trans (m2.mono (by simp)))
theorem Zo6 {base:Heap}{env:Env}{outer:List Env}{L e T:Addr}{cls:Value}{od:Option Addr}{Q:Unit->Shared->Prop}
  (hfr:A.frames=some (env::outer)) (hl:s.heap.FunFrames base (env::outer)) (hf:env.frame=some L) (x:Gw s.heap e T cls od)
  (h:∀ h' T',s.heap.objs.size<=T'->Gw h' e T' cls od->Mvd (Bd (env::outer)) [e,T,T'] s.heap h'->Q () { s with heap:=h' }):wpAny M A (leaving env (.ref e)) Q E s:=by
 unfold leaving
 refine Oo (Zht hfr hl hf x fun h1 T' hz y m=>?_)
 refine Nz (fs:=Bd (env::outer)) y fun h2 y2 m2=>h h2 T' hz y2 ((m.mono (by simp)).trans (m2.mono (by simp)))
end
theorem Hm {X:Cx}{st:Stmt}:QS X st (fun _ _ _=>False):=⟨fun _ _ _ _ _ _ h=>h.elim⟩
noncomputable def Iy (h:Heap)(z TI TO i1 i2:Addr):Prop:=∃(a:Addr)(oa:Obj)(f1:Value),h.get? z=some { cls:=.type "zip",dict:=none,data:=.fields #[rawInt a,f1,.bool false,.ref TI,.ref TO],slots:=#[] }/\h.get? a=some oa/\a≠z/\a≠i1/\a≠i2
section
variable {prog:Program}{w:World}{A:Around}{E:Value->Shared->Prop}{s:Shared}{z TI TO i1 i2:Addr}{fp1 fp2:List Addr}{n1 n2 i:Nat}{P1 P2:Nat->Value->Prop}{St1 St2:Nat->Heap->Prop}{a b:Value}
theorem Zh3 {Q:Bool->Shared->Prop}(hz:Iy s.heap z TI TO i1 i2)(h:∀ h',Iy h' z TI TO i1 i2->Pf z s.heap h'->Q false { s with heap:=h' }):wpAny (model prog w) A (Rc (.ref z)) Q E s:=by
 obtain ⟨a,oa,f1,e,ea,n0,n1,n2⟩:=hz
 unfold Rc
 refine Oo (O9 e rfl (x:=rawInt a) rfl ?_)
 show wpAny _ _ (loadIfAlive ((a:Int).toNat) >>= _) _ _ s
 refine Oo (Zmh ?_)
 rw [Sx,ea]
 rw [if_neg (by simp)]
 refine Oo (O9 e rfl (x:=f1) rfl ?_)
 by_cases hf:(f1 != Value.bool true)=true
 ·simp only [hf,if_true]
  refine Oo (Rv e (by simp) fun h₅ e5 s5=>?_)
  replace s5:Pf z s.heap h₅:=s5
  exact Op (h h₅ ⟨a,oa,.bool true,e5,s5.extBut a oa n0 ea,n0,n1,n2⟩ s5)
 ·simp only [hf]
  exact Op (h s.heap ⟨a,oa,f1,e,ea,n0,n1,n2⟩ (Pf.refl ..))
theorem Zkz {Q:Value->Shared->Prop}(D1:Draws prog w A i1 fp1 n1 P1 St1)(D2:Draws prog w A i2 fp2 n2 P2 St2)(D:ZA z TI TO i1 i2 fp1 fp2)(hz:Iy s.heap z TI TO i1 i2)(hTI:IsPair s.heap TI (.ref i1) (.ref i2))
  (st1:St1 i s.heap) (st2:St2 i s.heap) (l1:i < n1) (l2:i < n2)
  (hQ:∀ x y h' tk,P1 i x->P2 i y->Iy h' z TI TO i1 i2->St1 (i+1) h'->St2 (i+1) h'->IsPair h' s.heap.objs.size x y->h'.objs.size=s.heap.objs.size+1 ->
   (∀ c o,c≠z->c≠i1->c≠i2->s.heap.get? c=some o->h'.get? c=some o)->Q (.ref s.heap.objs.size) { s with heap:=h',toks:=tk }) :
  wpAny (model prog w) A (Builtin.«zip.__next__» ⟨[.ref z],[]⟩) (fun fin s'=>∃ v,fin=.done (.ret v)/\Q v s') E s:=by
 obtain ⟨a0,oa0,f10,e0,_⟩:=id hz
 show wpAny _ _ (field (.ref z) 2 >>= _) _ _ s
 refine Oo (O9 e0 rfl (x:=Value.bool false) rfl ?_)
 show wpAny _ _ (field (.ref z) 3 >>= _) _ _ s
 refine Oo (O9 e0 rfl (x:=Value.ref TI) rfl (Oo (Qm hTI rfl ?_)))
 show wpAny _ _ (Rc (.ref z) >>= _) _ _ s
 refine Oo (Zh3 hz fun h₁ hz₁ e1=>?_)
 simp only [Sw,if_false]
 refine Oo ?_
 simp only [List.forIn_toArray,Tg,Uk]
 refine Oo (Oo (Qa ?_))
 show wpAny _ _ (Qc (.ref i1) >>= _) _ _ _
 refine Oo (D1.item i _ _ _ l1 (B7 D1 st1 e1 D.z1) fun x h₂ tk₂ px s12 e2=>Op (Op ?_))
 replace e2:Pf i1 h₁ h₂:=e2
 refine Oo (Oo (Qa ?_))
 show wpAny _ _ (Qc (.ref i2) >>= _) _ _ _
 have s22:St2 i h₂:=B7 D2 (B7 D2 st2 e1 D.z2) e2 D.n1
 refine Oo (D2.item i _ _ _ l2 s22 fun y h₄ tk₄ py s24 e4=>Op (Op (Op ?_)))
 replace e4:Pf i2 h₂ h₄:=e4
 show wpAny _ _ (newTuple [x,y] >>= _) _ _ _
 refine Oo (wpAny_newTuple (Op ⟨_,rfl,?_⟩))
 have sz:h₄.objs.size=s.heap.objs.size:=by rw [e4.1,e2.1,e1.1]
 show Q (.ref h₄.objs.size) { s with heap:=h₄.push { cls:=.type "tuple",data:=.seq #[x,y] },toks:=tk₄ }
 have up:∀ c o,h₄.get? c=some o->(h₄.push { cls:=.type "tuple",data:=.seq #[x,y] }).get? c=some o:=fun c o e=>Ot _ e
 have k4:∀ c o,c≠z->c≠i1->c≠i2->s.heap.get? c=some o->h₄.get? c=some o:=fun c o c1 c3 c4 e=>e4.extBut _ _ c4 (e2.extBut _ _ c3 (e1.extBut _ _ c1 e))
 have t8:IsPair (h₄.push { cls:=.type "tuple",data:=.seq #[x,y] }) h₄.objs.size x y:=O2 _ rfl
 rw [sz] at t8
 rw [sz]
 obtain ⟨a1,oa1,f1,g1,g2,g3,g4,g5⟩:=hz₁
 refine hQ x y _ tk₄ px py ⟨a1,oa1,f1,up _ _ (e4.extBut _ _ D.i2z.symm (e2.extBut _ _ D.i1z.symm g1)),up _ _ (e4.extBut _ _ g5 (e2.extBut _ _ g4 g2)),g3,g4,g5⟩ ?_ ?_ t8 (by rw [P9,sz]) fun c o c1 c3 c4 e=>up c o (k4 c o c1 c3 c4 e)
 ·exact D1.frame _ _ _ (B7 D1 s12 e4 D.n2) fun c _ o e=>up c o e
 ·exact D2.frame _ _ _ s24 fun c _ o e=>up c o e
theorem Zsd {Q:Fin->Shared->Prop}(D1:Draws prog w A i1 fp1 n1 P1 St1)(D2:Draws prog w A i2 fp2 n2 P2 St2)(D:ZA z TI TO i1 i2 fp1 fp2)(hz:Iy s.heap z TI TO i1 i2)(hTI:IsPair s.heap TI (.ref i1) (.ref i2))
  (st1:St1 i s.heap) (st2:St2 i s.heap) (hend:i=n1\/(i < n1/\i=n2))
  (hE:∀ h' e tk,(∀ c o,c≠z->c≠i1->c≠i2->s.heap.get? c=some o->h'.get? c=some o)->(∃ o,h'.get? e=some o/\o.cls=.type "StopIteration")->E (.ref e) { s with heap:=h',toks:=tk }) :
  wpAny (model prog w) A (Builtin.«zip.__next__» ⟨[.ref z],[]⟩) Q E s:=by
 obtain ⟨a0,oa0,f10,e0,_⟩:=id hz
 show wpAny _ _ (field (.ref z) 2 >>= _) _ _ s
 refine Oo (O9 e0 rfl (x:=Value.bool false) rfl ?_)
 show wpAny _ _ (field (.ref z) 3 >>= _) _ _ s
 refine Oo (O9 e0 rfl (x:=Value.ref TI) rfl (Oo (Qm hTI rfl ?_)))
 show wpAny _ _ (Rc (.ref z) >>= _) _ _ s
 refine Oo (Zh3 hz fun h₁ hz₁ e1=>?_)
 simp only [Sw,if_false]
 refine Oo ?_
 simp only [List.forIn_toArray,Tg,Uk]
 refine Oo (Oo (Qa ?_))
 show wpAny _ _ (Qc (.ref i1) >>= _) _ _ _
 rcases hend with rfl | ⟨l1,rfl⟩
 ·refine Oo (D1.done _ _ _ (B7 D1 st1 e1 D.z1) fun h₂ e e2 he=>?_)
  replace e2:Ts i1 h₁ h₂:=e2
  exact hE h₂ e s.toks (fun c o c1 c3 _ x=>e2 _ _ c3 (e1.extBut _ _ c1 x)) he
 ·refine Oo (D1.item i _ _ _ l1 (B7 D1 st1 e1 D.z1) fun x h₂ tk₂ px s12 e2=>Op (Op ?_))
  replace e2:Pf i1 h₁ h₂:=e2
  refine Oo (Oo (Qa ?_))
  show wpAny _ _ (Qc (.ref i2) >>= _) _ _ _
  have s22:St2 i h₂:=B7 D2 (B7 D2 st2 e1 D.z2) e2 D.n1
  refine Oo (D2.done _ _ _ s22 fun h₄ e e4 he=>?_)
  replace e4:Ts i2 h₂ h₄:=e4
  exact hE h₄ e tk₂ (fun c o c1 c3 c4 x=>e4 _ _ c4 (e2.extBut _ _ c3 (e1.extBut _ _ c1 x))) he
noncomputable def ZpSt (h:Heap)(z TI TO i1 i2:Addr)(i:Nat):Prop:=(i=0/\IsZip h z TI TO .none/\∃ u v,IsPair h TO u v)\/(0 < i/\Iy h z TI TO i1 i2)
theorem ZpSt.obj {h:Heap}{z TI TO i1 i2:Addr}{i:Nat}(x:ZpSt h z TI TO i1 i2 i):∃ vs,h.get? z=some { cls:=.type "zip",dict:=none,data:=.fields vs,slots:=#[] }:=by
 rcases x with ⟨_,x,_⟩ | ⟨_,_,_,_,x,_⟩
 ·exact ⟨_,x⟩
 ·exact ⟨_,x⟩
theorem Zro {Q:Option Value->Shared->Prop}(D1:Draws prog w A.in1 i1 fp1 n1 P1 St1)(D2:Draws prog w A.in1 i2 fp2 n2 P2 St2)(D:ZA z TI TO i1 i2 fp1 fp2)(hz:ZpSt s.heap z TI TO i1 i2 i)(hTI:IsPair s.heap TI (.ref i1) (.ref i2))(eTO:∃ o,s.heap.get? TO=some o)
  (st1:St1 i s.heap) (st2:St2 i s.heap) (l1:i < n1) (l2:i < n2)
  (hQ:∀ x y h' tk,P1 i x->P2 i y->ZpSt h' z TI TO i1 i2 (i+1)->(∃ o,h'.get? TO=some o)->St1 (i+1) h'->St2 (i+1) h'->IsPair h' s.heap.objs.size x y->h'.objs.size=s.heap.objs.size+1 ->
   (∀ c o,c≠z->c≠TO->c≠i1->c≠i2->s.heap.get? c=some o->h'.get? c=some o)->Q (some (.ref s.heap.objs.size)) { s with heap:=h',toks:=tk }) :
  wpAny (model prog w) A (pyNext (.ref z)) Q E s:=by
 obtain ⟨vs,ho⟩:=hz.obj
 have hT:s.TypeIs (.ref z) "zip" := ⟨_,ho,rfl⟩
 have zl:z < s.heap.objs.size:=Ox ho
 have l1':i1 < s.heap.objs.size:=by obtain ⟨_,y⟩:=D1.live _ _ st1;exact Ox y
 have l2':i2 < s.heap.objs.size:=by obtain ⟨_,y⟩:=D2.live _ _ st2;exact Ox y
 rcases hz with ⟨rfl,hz,u,v,hTO⟩ | ⟨hi,hz⟩
 ·exact Zry D1 D2 D hz hTI hTO st1 st2 l1 l2 fun x y h' tk a1 a2 a3 a4 a5 a6 a7 a8 a9=>hQ x y h' tk a1 a2 (.inr ⟨Nat.succ_pos _,_,_,_,a3,a7,Q9 zl,Q9 l1',Q9 l2'⟩) ⟨_,a4⟩ a5 a6 a7 a8 a9
 ·unfold pyNext
  exact Oo (Se (Rg (name:=Px "__next__") hT Ri
   (Rl Ri hT T3 (Zkz D1 D2 D hz hTI st1 st2 l1 l2 fun x y h' tk a1 a2 a3 a4 a5 a6 a7 a8=>Op (hQ x y h' tk a1 a2 (.inr ⟨Nat.succ_pos _,a3⟩) (let ⟨o,e⟩:=eTO;⟨o,a8 _ o D.TOz D.TOi1 D.TOi2 e⟩) a4 a5 a6 a7 fun c o c1 _ c3 c4 e=>a8 c o c1 c3 c4 e)) (T2 _))))
theorem Zmb {Q:Option Value->Shared->Prop}(D1:Draws prog w A.in1 i1 fp1 n1 P1 St1)(D2:Draws prog w A.in1 i2 fp2 n2 P2 St2)(D:ZA z TI TO i1 i2 fp1 fp2)(hz:ZpSt s.heap z TI TO i1 i2 i)(hTI:IsPair s.heap TI (.ref i1) (.ref i2))
  (st1:St1 i s.heap) (st2:St2 i s.heap) (hend:i=n1\/(i < n1/\i=n2))
  (hQ:∀ h' tk,(∀ c o,c≠z->c≠TO->c≠i1->c≠i2->s.heap.get? c=some o->h'.get? c=some o)->Q none { s with heap:=h',toks:=tk }):wpAny (model prog w) A (pyNext (.ref z)) Q E s:=by
 obtain ⟨vs,ho⟩:=hz.obj
 have hT:s.TypeIs (.ref z) "zip" := ⟨_,ho,rfl⟩
 rcases hz with ⟨rfl,hz,u,v,hTO⟩ | ⟨hi,hz⟩
 ·exact Zqz D1 D2 D hz hTI hTO st1 st2 hend hQ
 ·unfold pyNext
  refine Oo (Se (Rg (name:=Px "__next__") hT Ri
   (Rl Ri hT T3 (Zsd D1 D2 D hz hTI st1 st2 hend fun h' e tk hk he=>?_) (T2 _))))
  obtain ⟨o,ho,hc⟩:=he
  exact Oo (Vp (T := "StopIteration") (b:=true) ⟨o,ho,hc⟩ isSubtype_stop (Op (hQ _ _ fun c o c1 _ c3 c4 e=>hk c o c1 c3 c4 e)))
end
noncomputable abbrev itZ (b:Bool)(l:Addr):Obj:={ cls:=.type (cond b "tuple_iterator" "list_iterator"),data:=.fields #[.ref l,.int 0 0] }
noncomputable def ZIt (b:Bool)(h:Heap)(a l:Addr)(i:Nat):Prop:=∃ o,h.get? a=some o/\o.cls=.type (cond b "tuple_iterator" "list_iterator")/\o.data=.fields #[.ref l,.int i 0]
theorem ZIt.at {b:Bool}{h h':Heap}{a l:Addr}{i:Nat}(x:ZIt b h a l i)(k:∀ o,h.get? a=some o->h'.get? a=some o):ZIt b h' a l i:=let ⟨o,e,r⟩:=x;⟨o,k o e,r⟩
noncomputable def ZIn (b:Bool)(h:Heap)(a:Addr)(xs:Array Value):Prop:=cond b (h.IsTuple a xs) (h.IsList a xs)
noncomputable def Gi (b:Bool)(K:On)(H:Hp)(a:Addr)(xs:List V):Prop:=cond b (SqT K H a xs) (SqL K H a xs)
theorem ZIn.lt {b:Bool}{h:Heap}{a:Addr}{xs:Array Value}(x:ZIn b h a xs):a < h.objs.size:=by
 cases b <;> exact let ⟨_,e,_⟩:=id x;Ox e
theorem ZIn.push {b:Bool}{h:Heap}{a:Addr}{xs:Array Value}(x:ZIn b h a xs)(o:Obj):ZIn b (h.push o) a xs:=by
 cases b
 ·exact Heap.IsList.push x _
 ·obtain ⟨o,e,r⟩:=id x
  exact ⟨o,Ot _ e,r⟩
theorem Same.sqZ {b:Bool}{K:On}{H H':Hp}{a:Addr}{xs:List V}(m:Same H H')(x:Gi b K H a xs):Gi b K H' a xs:=by
 cases b
 ·exact m.seq x
 ·exact m.tup x
theorem Inv.zin {X:Cx}{pins:List (Addr×Obj)}{σ:St}{H:Hp}{s:Shared}{b:Bool}{a:Addr}{xs:List V}(I:Inv X pins σ H s)(x:Gi b X.K H a xs):∃ its,Vals xs its/\ZIn b s.heap a its.toArray:=by
 cases b
 ·obtain ⟨its,rv,pl,hz⟩:=I.list x
  exact ⟨its,rv,pl.isList⟩
 ·obtain ⟨its,rv,pl,hz⟩:=I.tuple x
  exact ⟨its,rv,pl⟩
theorem Inv.zsz {X:Cx}{pins:List (Addr×Obj)}{σ:St}{H:Hp}{s:Shared}{b:Bool}{a:Addr}{xs:List V}(I:Inv X pins σ H s)(x:Gi b X.K H a xs):xs.length<=sizeLine:=by
 cases b
 ·obtain ⟨its,rv,pl,hz⟩:=I.list x
  have:=rv.length
  omega
 ·obtain ⟨its,rv,pl,hz⟩:=I.tuple x
  have:=rv.length
  omega
theorem Ni {prog:Program}{w:World}{A:Around}(b:Bool)(hh:A.handled=none)(it l:Addr)(hne:l≠it)(items:Array Value) :
  Draws prog w A it [it,l] items.size (fun i v=>items[i]?=some v) (fun i h=>ZIt b h it l i/\ZIn b h l items):=by
 cases b
 ·exact Draws.list hh it l hne items
 ·exact Zkr hh it l hne items
theorem Zg9 {prog:Program}{w:World}{A:Around}{E:Value->Shared->Prop}{s:Shared}{b:Bool}{a:Addr}{xs:Array Value}{Q:Value->Shared->Prop}(q:ZIn b s.heap a xs)
  (h:Q (.ref s.heap.objs.size) { s with heap:=s.heap.push (itZ b a) }):wpAny (model prog w) A (pyIter (.ref a)) Q E s:=by
 cases b
 ·exact Vj q h
 ·exact wpAny_pyIter_tuple q h
noncomputable abbrev zl1 (b:Bool)(h:Heap)(l1:Addr):Heap:=h.push (itZ b l1)
noncomputable abbrev zl2 (b gg:Bool)(h:Heap)(l1 l2:Addr):Heap:=(zl1 b h l1).push (itZ gg l2)
noncomputable abbrev zl3 (b gg:Bool)(h:Heap)(l1 l2:Addr):Heap:=(zl2 b gg h l1 l2).push { cls:=.type "tuple",data:=.seq #[.ref h.objs.size,.ref (zl1 b h l1).objs.size] }
noncomputable abbrev zl4 (b gg:Bool)(h:Heap)(l1 l2:Addr):Heap:=(zl3 b gg h l1 l2).push { cls:=.type "tuple",data:=.seq #[.none,.none] }
noncomputable abbrev Hb (b gg:Bool)(h:Heap)(l1 l2:Addr):Heap:=(zl4 b gg h l1 l2).push { cls:=.type "zip",data:=.fields #[.none,.bool false,.bool false,.ref (zl2 b gg h l1 l2).objs.size,.ref (zl3 b gg h l1 l2).objs.size] }
theorem Znl (b gg:Bool)(l1 l2:Addr)(xs ys:Array Value) :
  Meets (Builtin.«zip.__new__» ⟨[.type "zip",.ref l1,.ref l2],[]⟩) (fun _ R s=>ZIn b s.heap l1 xs/\ZIn gg s.heap l2 ys/\R (.ok (.ret (.ref (zl4 b gg s.heap l1 l2).objs.size))) { s with heap:=Hb b gg s.heap l1 l2 }) :=
 .of_wp fun prog w A R s h=>by
  obtain ⟨hp,g,d,tk,os⟩:=s;obtain ⟨hl1,hl2,h⟩:=h
  have hsub:=sub_zip
  have q1:ZIn b (Shared.heap ⟨hp,g,d,tk,os⟩) l1 xs:=hl1
  have q2:ZIn gg (Shared.heap ⟨hp.push (itZ b l1),g,d,tk,os⟩) l2 ys:=hl2.push _
  wp_walk using Zg9 q1,Zg9 q2
  exact ⟨_,rfl,h⟩
theorem Zrg {b gg:Bool}{prog:Program}{w:World}{A:Around}{E:Value->Shared->Prop}{s:Shared}{l1 l2:Addr}{xs ys:Array Value}{Q:Value->Shared->Prop}(hl1:ZIn b s.heap l1 xs)(hl2:ZIn gg s.heap l2 ys)
  (h:∀ h',IsZip h' (s.heap.objs.size+4) (s.heap.objs.size+2) (s.heap.objs.size+3) .none->IsPair h' (s.heap.objs.size+2) (.ref s.heap.objs.size) (.ref (s.heap.objs.size+1)) ->
   IsPair h' (s.heap.objs.size+3) .none .none->ZIt b h' s.heap.objs.size l1 0->ZIt gg h' (s.heap.objs.size+1) l2 0->h'.objs.size=s.heap.objs.size+5 ->
   (∀ c o,s.heap.get? c=some o->h'.get? c=some o)->Q (.ref (s.heap.objs.size+4)) { s with heap:=h' }) :
  wpAny (model prog w) A (call (.type "zip") [.ref l1,.ref l2]) Q E s:=by
 refine callType_new PySem.F.called_zip (by decide) (PySem.F.typeCall_zip_2 _ _) (PySem.F.newCall_zip_2 _ _) (fun obj=>PySem.F.args_object_init_3 obj _ _) PySem.F.entry_zip_new (Znl b gg l1 l2 xs ys) ⟨hl1,hl2,?_⟩
 have y1:(zl1 b s.heap l1).objs.size=s.heap.objs.size+1:=P9 ..
 have y2:(zl2 b gg s.heap l1 l2).objs.size=s.heap.objs.size+2:=by rw [P9,y1]
 have y3:(zl3 b gg s.heap l1 l2).objs.size=s.heap.objs.size+3:=by rw [P9,y2]
 have y4:(zl4 b gg s.heap l1 l2).objs.size=s.heap.objs.size+4:=by rw [P9,y3]
 have y5:(Hb b gg s.heap l1 l2).objs.size=s.heap.objs.size+5:=by rw [P9,y4]
 have u5:(Hb b gg s.heap l1 l2).get? (zl4 b gg s.heap l1 l2).objs.size=some _:=O2 _ rfl
 have u4:(Hb b gg s.heap l1 l2).get? (zl3 b gg s.heap l1 l2).objs.size=some _:=Ot _ (O2 _ rfl)
 have u3:(Hb b gg s.heap l1 l2).get? (zl2 b gg s.heap l1 l2).objs.size=some _:=Ot _ (Ot _ (O2 _ rfl))
 have u2:(Hb b gg s.heap l1 l2).get? (zl1 b s.heap l1).objs.size=some _:=Ot _ (Ot _ (Ot _ (O2 _ rfl)))
 have u1:(Hb b gg s.heap l1 l2).get? s.heap.objs.size=some _:=Ot _ (Ot _ (Ot _ (Ot _ (O2 _ rfl))))
 show _/\_
 rw [y2,y3,y4] at u5
 rw [y1,y2] at u3
 rw [y3] at u4
 rw [y1] at u2
 rw [y4]
 exact ⟨⟨_,u5,rfl⟩,h _ u5 u3 u4 ⟨_,u1,rfl,rfl⟩ ⟨_,u2,rfl,rfl⟩ y5 fun c o x=>Ot _ (Ot _ (Ot _ (Ot _ (Ot _ x))))⟩
noncomputable def Zbs (H:Hp)(xs ys zs:List V):Prop:=∀(j:Nat)(z:V),zs[j]?=some z->∃(t:Addr)(x y:V),z=V.ref t/\xs[j]?=some x/\ys[j]?=some y/\H t=some (.tup [x,y])
noncomputable def JZp (f gg:Bool)(K:On)(H0:Hp)(z TI TO i1 i2 a b:Addr)(xs ys:List V):Nat->List V->Hp->Heap->Prop:=fun i zs H h =>
 ZpSt h z TI TO i1 i2 i/\(IsPair h TI (.ref i1) (.ref i2)/\∃ o,h.get? TO=some o)/\ZIt f h i1 a i/\ZIt gg h i2 b i/\(∀ c∈[z,TI,TO,i1,i2],H c=none)/\zs.length=i/\Zbs H xs ys zs/\Same H0 H
theorem Zls:typeLookup (.type "zip") "__len__" = pure none:=by rw [Uf,T4];kernel_rfl
theorem Zk8:typeLookup (.type "zip") "__length_hint__" = pure none:=by rw [Uf,T4];kernel_rfl
theorem Zj3 {f gg:Bool}{X:Cx}{pins:List (Addr×Obj)}{σ:St}{H0:Hp}{z TI TO i1 i2 a b:Addr}{xs ys:List V}(fp:∀ c∈[z,TI,TO,i1,i2],FpOk X pins H0 c)(D:ZB z TI TO i1 i2 a b)(ha:Gi f X.K H0 a xs)(hb:Gi gg X.K H0 b ys) :
  Src X pins σ z "zip" (min xs.length ys.length) H0 (JZp f gg X.K H0 z TI TO i1 i2 a b xs ys) where
 ty:=fun i zs H h j=>by
  obtain ⟨vs,e⟩:=j.1.obj
  exact ⟨_,e,rfl⟩
 nl:=by decide
 hint:=⟨_,fun A s Q E hT h=>Zt9 hT Zls Zk8 h⟩
 self:=fun A s zs H Q E j q=>by
  rcases j.1 with ⟨_,e,_⟩ | ⟨z,_⟩
  ·exact wpAny_pyIter_zip e q
  ·exact absurd z (Qn _)
 keep:=fun i zs H h h' S us us' h0 hS j k al=>by
  obtain ⟨j1,⟨j2,jT⟩,j3,j4,j5,j6,j7,j8⟩:=j
  have ne:∀ c∈[z,TI,TO,i1,i2],c≠S:=fun c hc e=>by
   have:=j5 c hc
   rw [e,hS] at this
   cases this
  refine ⟨?_,⟨k _ _ (ne TI (by simp)) j2,let ⟨o,e⟩:=jT;⟨o,k _ _ (ne TO (by simp)) e⟩⟩,j3.at fun o e=>k _ _ (ne i1 (by simp)) e,j4.at fun o e=>k _ _ (ne i2 (by simp)) e,fun c hc=>by rw [Ay (ne c hc)];exact j5 c hc,j6,fun m y hy=>?_,j8.over h0⟩
  ·rcases j1 with ⟨z0,e,u,v,e2⟩ | ⟨z0,a0,oa,f1,e,ea,x1,x2,x3⟩
   ·exact .inl ⟨z0,k _ _ (ne z (by simp)) e,u,v,k _ _ (ne TO (by simp)) e2⟩
   ·by_cases hs:a0=S
    ·subst hs
     obtain ⟨o,eo⟩:=al
     exact .inr ⟨z0,a0,o,f1,k _ _ (ne z (by simp)) e,eo,x1,x2,x3⟩
    ·exact .inr ⟨z0,a0,oa,f1,k _ _ (ne z (by simp)) e,k _ _ hs ea,x1,x2,x3⟩
  ·obtain ⟨t,x,y',e1,e2,e3,e4⟩:=j7 m y hy
   exact ⟨t,x,y',e1,e2,e3,by rw [Ay (Zdk e4 hS (by intro z;cases z))];exact e4⟩
 fresh:=fun i zs H h j=>j.2.2.2.2.1 z (by simp)
 item:=fun A i s H zs E hh hi I j=>by
  obtain ⟨j1,⟨j2,jT⟩,j3,j4,j5,j6,j7,j8⟩:=j
  obtain ⟨its,rv,p⟩:=I.zin (j8.sqZ ha)
  obtain ⟨its2,rv2,p2⟩:=I.zin (j8.sqZ hb)
  have g1:=rv.length
  have g2:=rv2.length
  have l1:i < xs.length:=by omega
  have l2:i < ys.length:=by omega
  have D1:=Ni (prog:=X.prog) (w:=X.w) (A:=A.in1) f hh i1 a D.a1 its.toArray
  have D2:=Ni (prog:=X.prog) (w:=X.w) (A:=A.in1) gg hh i2 b D.b2 its2.toArray
  refine Zro D1 D2 D.za j1 j2 jT ⟨j3,p⟩ ⟨j4,p2⟩ (by rw [Ou];omega) (by rw [Ou];omega) fun x y h' tk px py a1 aT a2 a3 a4 a5 a6=>?_
  have hx':its[i]?=some x:=by simpa using px
  have hy':its2[i]?=some y:=by simpa using py
  obtain ⟨u1,hu1,ru1⟩:=rv.get (Ow l1)
  obtain ⟨u2,hu2,ru2⟩:=rv2.get (Ow l2)
  rw [hx'] at hu1
  cases hu1
  rw [hy'] at hu2
  cases hu2
  have hf:H s.heap.objs.size=none:=I.hok.fresh (Oq _)
  have fpH:∀ c∈[z,TI,TO,i1,i2],FpOk X pins H c:=fun c hc=>(fp c hc).of (j5 c hc)
  have kk:∀ c o,c ∉ [z,TI,TO,i1,i2]->s.heap.get? c=some o->h'.get? c=some o:=fun c o hc e=>by
   simp only [O1,Pk,or_false,not_or] at hc
   exact a6 c o hc.1 hc.2.2.1 hc.2.2.2.1 hc.2.2.2.2 e
  have I2:=I.pairL (tk:=tk) (T:=s.heap.objs.size) (xs:=[xs[i],ys[i]]) (its:=[x,y]) fpH kk (Oq _) (.cons ru1 (.cons ru2 .nil)) (by show 2<=sizeLine;decide) ⟨_,a4,rfl,_,rfl⟩
  have sm:Same H (upd H s.heap.objs.size (.tup [xs[i],ys[i]])):=Same.upd hf
  have lt:∀{c o},s.heap.get? c=some o->c≠s.heap.objs.size:=fun e=>O5 (Ox e)
  have nw:∀ c∈[z,TI,TO,i1,i2],c≠s.heap.objs.size:=fun c hc=>by
   simp only [O1,Pk,or_false] at hc
   rcases hc with rfl | rfl | rfl | rfl | rfl
   ·obtain ⟨_,e⟩:=j1.obj;exact lt e
   ·exact lt j2
   ·obtain ⟨_,e⟩:=jT;exact lt e
   ·obtain ⟨_,e,_⟩:=j3;exact lt e
   ·obtain ⟨_,e,_⟩:=j4;exact lt e
  refine ⟨_,.ref s.heap.objs.size,_,rfl,rfl,I2,⟨a1,⟨a6 _ _ D.TIz D.TITO D.TI1 D.TI2 j2,aT⟩,a2.1,a3.1,fun c hc=>by rw [Ay (nw c hc)];exact j5 c hc,by simp [j6],fun m y hy=>?_,j8.trans sm⟩,fun S us e=>sm S _ e⟩
  by_cases hm:m < i
  ·rw [Qv (by omega)] at hy
   obtain ⟨t,x,y',e1,e2,e3,e4⟩:=j7 m y hy
   exact ⟨t,x,y',e1,e2,e3,sm _ _ e4⟩
  ·have hlen:=(Pa.mp hy).1
   rw [Pb,Qj] at hlen
   have:m=i:=by omega
   subst this
   rw [Re (by omega),j6,To] at hy
   have hy:V.ref s.heap.objs.size=y:=by simpa using hy
   exact ⟨_,xs[m],ys[m],hy.symm,Ow l1,Ow l2,Ag⟩
 done:=fun A s H zs E hh I j=>by
  obtain ⟨j1,⟨j2,jT⟩,j3,j4,j5,j6,j7,j8⟩:=j
  obtain ⟨its,rv,p⟩:=I.zin (j8.sqZ ha)
  obtain ⟨its2,rv2,p2⟩:=I.zin (j8.sqZ hb)
  have g1:=rv.length
  have g2:=rv2.length
  have D1:=Ni (prog:=X.prog) (w:=X.w) (A:=A.in1) f hh i1 a D.a1 its.toArray
  have D2:=Ni (prog:=X.prog) (w:=X.w) (A:=A.in1) gg hh i2 b D.b2 its2.toArray
  have fpH:∀ c∈[z,TI,TO,i1,i2],FpOk X pins H c:=fun c hc=>(fp c hc).of (j5 c hc)
  refine Zmb D1 D2 D.za j1 j2 ⟨j3,p⟩ ⟨j4,p2⟩ (by simp only [Ou];omega) fun h' tk kk=>⟨rfl,I.turnedL (fun c o hc e=>?_) fpH⟩
  simp only [O1,Pk,or_false,not_or] at hc
  exact kk c o hc.1 hc.2.2.1 hc.2.2.2.1 hc.2.2.2.2 e
section
variable {X:Cx}
noncomputable def Ziw (f gg:Bool)(K:On)(ta:TA):TE:=fun σ H Q=>ta σ H fun vs H1=>∃ a b xs ys,vs=[.ref a,.ref b]/\Gi f K H1 a xs/\Gi gg K H1 b ys /\
 ∀(S:Addr)(zs:List V)(H2:Hp),H1 S=none->Same H1 H2->zs.length=min xs.length ys.length->Zbs H2 xs ys zs->H2 S=some (.lst zs)->Q (.ref S) H2
theorem Zuy (f gg:Bool)(K:On){e e2:Expr}{ta:TA}{p p2 pos pos2:Pos}(hg:Gl X "list")(hm:X.mg "list" = none)(hg2:Gl X "zip")(hm2:X.mg "zip" = none)(ha:QA X [e,e2] ta)(hK:X.K=K:=by rfl)(hc:X.calm=true:=by rfl)
  (hs:starEach [.Call (.Name "zip" p2) [e,e2] [] pos2] X.env=[(false,eval (.Call (.Name "zip" p2) [e,e2] [] pos2) X.env)]:=by rfl) (hs2:starEach [e,e2] X.env=[(false,eval e X.env),(false,eval e2 X.env)]:=by rfl) (hs3:starEach [e2] X.env=[(false,eval e2 X.env)]:=by rfl) :
  QE X (.Call (.Name "list" p) [.Call (.Name "zip" p2) [e,e2] [] pos2] [] pos) (Ziw f gg K ta):=by
 subst hK
 refine ⟨fun pins s σ H Q I h=>?_⟩
 refine Call_ (Ed I hg hm Zga (Qp ?_ hs rfl))
 rw [hs]
 show wpAny _ _ (spliced ((false,eval (.Call (.Name "zip" p2) [e,e2] [] pos2) X.env)::[])) _ _ s
 refine T6 ?_
 refine Call_ (Ed I hg2 hm2 PyProof.Rows.boot_zip (Qp (Ak (ha.run pos2 pins s σ H _ I h) fun us s1 ⟨vs,H1,I1,r1,q1⟩=>?_) (by rw [hs2,hs3]) (by rw [hs3];rfl)))
 obtain ⟨a,b,xs,ys,e1,hq,hq2,q⟩:=q1
 subst e1
 obtain ⟨u,v,rfl,ru,rv⟩:=r1.two
 cases ru
 cases rv
 obtain ⟨its,rv,pl⟩:=I1.zin hq
 obtain ⟨its2,rv2,pl2⟩:=I1.zin hq2
 have hz2:=I1.zsz hq2
 have lt1:a < s1.heap.objs.size:=pl.lt
 have lt2:b < s1.heap.objs.size:=pl2.lt
 refine Zrg pl pl2 fun h' a1 a2 a3 a4 a5 a6 hk=>?_
 refine T9 ?_
 have fr:∀ k,FpOk X pins H1 (s1.heap.objs.size+k):=fun k=>I1.fpOk (Td _ _) (I1.hok.fresh (Td _ _))
 have fp:∀ c∈[s1.heap.objs.size+4,s1.heap.objs.size+2,s1.heap.objs.size+3,s1.heap.objs.size,s1.heap.objs.size+1],FpOk X pins H1 c:=fun c hc=>by
  simp only [O1,Pk,or_false] at hc
  rcases hc with rfl | rfl | rfl | rfl | rfl
  ·exact fr 4
  ·exact fr 2
  ·exact fr 3
  ·exact fr 0
  ·exact fr 1
 have C:=Zj3 (X:=X) (pins:=pins) (σ:=σ) (H0:=H1) fp (Zu2 lt1 lt2) hq hq2
 have I2:Inv X pins σ H1 { s1 with heap:=h' }:=I1.kept (t':=s1.toks) hk
 refine Zfh C (by omega) (I1.ok.hd hc) I2 ⟨.inl ⟨rfl,a1,_,_,a3⟩,⟨a2,_,a3⟩,a4,a5,fun c hc=>(fp c hc).1,rfl,fun j y hy=>by simp at hy,Same.refl _⟩ (fun S hge hS h2 k2=>?_) fun S H' zs hS hS' hl' hj=>?_
 ·have sm:Same H1 (upd H1 S (.lst [])):=Same.upd hS
  refine ⟨.inl ⟨rfl,k2 _ _ a1,_,_,k2 _ _ a3⟩,⟨k2 _ _ a2,_,k2 _ _ a3⟩,a4.at fun o e=>k2 _ _ e,a5.at fun o e=>k2 _ _ e,fun c hc=>?_,rfl,fun j y hy=>by simp at hy,sm⟩
  have hge:h'.objs.size<=S:=hge
  rw [Ay (show c≠S from fun z=>?_)]
  ·exact (fp c hc).1
  ·simp only [O1,Pk,or_false] at hc
   rcases hc with rfl | rfl | rfl | rfl | rfl <;> exact absurd z (O5 (O3 (by omega) hge))
 ·obtain ⟨h,j⟩:=hj
  exact q S zs H' hS j.2.2.2.2.2.2.2 hl' j.2.2.2.2.2.2.1 hS'
noncomputable abbrev Zfp:=Ziw true false
theorem Zvi (K:On){e e2:Expr}{ta:TA}{p p2 pos pos2:Pos}(hg:Gl X "list")(hm:X.mg "list" = none)(hg2:Gl X "zip")(hm2:X.mg "zip" = none)(ha:QA X [e,e2] ta)(hK:X.K=K:=by rfl)(hc:X.calm=true:=by rfl)
  (hs:starEach [.Call (.Name "zip" p2) [e,e2] [] pos2] X.env=[(false,eval (.Call (.Name "zip" p2) [e,e2] [] pos2) X.env)]:=by rfl) (hs2:starEach [e,e2] X.env=[(false,eval e X.env),(false,eval e2 X.env)]:=by rfl) (hs3:starEach [e2] X.env=[(false,eval e2 X.env)]:=by rfl) :
  QE X (.Call (.Name "list" p) [.Call (.Name "zip" p2) [e,e2] [] pos2] [] pos) (Zfp K ta):=Zuy true false K hg hm hg2 hm2 ha hK hc hs hs2 hs3
theorem s_listzp {K:On}{ta:TA}{σ:St}{H:Hp}{Q:VK}(h:ta σ H fun vs H1=>∃ a b xs ys,vs=[.ref a,.ref b]/\SqT K H1 a xs/\SqL K H1 b ys /\
 ∀(S:Addr)(zs:List V)(H2:Hp),H1 S=none->Same H1 H2->zs.length=min xs.length ys.length->Zbs H2 xs ys zs->H2 S=some (.lst zs)->Q (.ref S) H2):Zfp K ta σ H Q:=h
end
section
variable {X:Cx}
end
noncomputable def A4 (P:Program)(w:World):B2:=fun outer H s E ev s'=>∃(e T:Addr)(cls:Value)(od:Option Addr)(H':Hp),ev=.ref e/\s'.os=s.os/\AllBare s'.gens/\Un (Bd outer) [] H H' s.heap s'.heap/\HOk P w H' s'.heap /\
 s.heap.get? e=none/\s.heap.get? T=none/\H' e=none/\H' T=none/\Gw s'.heap e T cls od/\E cls od H'
section
variable {X:Cx}{pins:List (Addr×Obj)}{σ:St}{H:Hp}{s:Shared}
theorem Inv.old (I:Inv X pins σ H s)(hex:X.ex=[]){b:Addr}(h:s.heap.get? b=none):X.s₀.heap.get? b=none:=by
 cases q:X.s₀.heap.get? b with
 | none=>rfl
 | some o =>
  obtain ⟨o',e⟩:=I.base.there b o q (by rw [hex];simp)
  rw [h] at e
  cases e
theorem Inv.mvd (I:Inv X pins σ H s){h':Heap}{xs:List Addr}(m:Mvd (Bd X.stack) xs s.heap h')(hx:∀ b∈xs,X.s₀.heap.get? b=none/\H b=none)(hex:X.ex=[]):Un X.fs [] X.H₀ H X.s₀.heap h'/\HOk X.prog X.w H h':=by
 have low:∀ b o,X.s₀.heap.get? b=some o->b ∉ xs:=fun b o e hb=>by rw [(hx b hb).1] at e;cases e
 have neL:∀ b o,X.s₀.heap.get? b=some o->b≠X.env.locals:=fun b o e=>O5 (O3 (Ox e) I.ok.above)
 have nst:∀ b o,X.s₀.heap.get? b=some o->b ∉ X.fs->b ∉ Bd X.stack:=fun b o e hf hs=>by
  rcases I.ok.stk with z | ⟨z,z2⟩
  ·rw [z] at hs;exact hf hs
  ·rw [z] at hs
   unfold Bd at hs
   rw [T5,z2] at hs
   rcases O1.mp hs with q | q
   ·exact neL b o e q
   ·exact hf q
 have B:=I.base
 rw [hex] at B
 refine ⟨⟨fun b o e n hf _=>?_,fun b o e n hf _=>?_,fun b o e n _=>B.free b o e n (by simp),fun b o e _=>?_,B.tups,B.frzs,B.tbls⟩,fun b u e=>?_⟩
 ·exact m.keep b o (low b o e) (nst b o e hf) (B.keep b o e n hf (by simp))
 ·obtain ⟨sl,e1⟩:=B.slot b o e n hf (by simp)
  obtain ⟨sl',e2⟩:=m.slot b _ (low b o e) e1
  exact ⟨sl',e2⟩
 ·obtain ⟨o',e1⟩:=B.there b o e (by simp)
  obtain ⟨sl,e2⟩:=m.slot b o' (low b o e) e1
  exact ⟨_,e2⟩
 ·have tr:∀ c v,H c=some v->c ∉ xs/\c ∉ Bd X.stack:=fun c v q=>⟨(fun z=>by rw [(hx c z).2] at q;cases q),(fun z=>by rw [I.stkFree c z] at q;cases q)⟩
  refine (I.hok b u e).stay (fun c v hc q=>m.keep c v ?_ ?_ q) (fun _ q=>q) fun _ _ q=>q
  ·rcases hc with z | z
   ·rw [z];exact (tr b u e).1
   ·exact (tr c _ z).1
  ·rcases hc with z | z
   ·rw [z];exact (tr b u e).2
   ·exact (tr c _ z).2
end
section
variable {P:Program}{w:World}{K:On}{mg:Str->Option Value}{base:Heap}{N:List Str}{qual:Str}{scope:Scope}{f:Addr}{cd:Value}{A:Around}{outer:List Env}{s0:Shared}{H0:Hp}{E:XK}
theorem Hl {E':XK}(h:∀ cls od H',E' cls od H'->E cls od H'):E7 (A4 P w) (Cp (A4 P w) P w K mg base N qual scope f cd A outer s0 H0 E) E':=by
 intro pins σ H s ev s' I c
 obtain ⟨e,T,cls,od,H',rfl,h1,h2,h3,h4,h5,h6,h7,h8,h9,h10⟩:=c
 have J:Inv (Cp (A4 P w) P w K mg base N qual scope f cd A outer s0 H0 E) pins σ H' s':=I.call' (ch:=[]) h1 h3 h4 h2 (fun b z=>absurd z (by simp))
 refine Zo6 (base:=base) (outer:=outer) (L:=s0.heap.objs.size) J.ok.frames J.stack rfl h9 fun h' T' hT' y m=>?_
 obtain ⟨u,ok⟩:=J.mvd (h':=h') m (fun b hb=>by
  simp only [O1,Pk,or_false] at hb
  rcases hb with rfl | rfl | rfl
  ·exact ⟨I.old rfl h5,h7⟩
  ·exact ⟨I.old rfl h6,h8⟩
  ·exact ⟨J.old rfl (Sq hT'),J.hok.fresh hT'⟩) rfl
 exact ⟨e,T',cls,od,H',rfl,J.os,J.bare,u,ok,I.old rfl h5,J.old rfl (Sq hT'),h7,J.hok.fresh hT',y,h _ _ _ h10⟩
theorem Nc {pins:List (Addr×Obj)}{σ:St}{H:Hp}{s:Shared}{e:Addr}{cls:Value}{od:Option Addr}(I:Inv (Cp (A4 P w) P w K mg base N qual scope f cd A outer s0 H0 E) pins σ H s)(x:Nh s.heap e cls od)(he:s0.heap.get? e=none)(hn:H e=none)(h:E cls od H) :
  (Cp (A4 P w) P w K mg base N qual scope f cd A outer s0 H0 E).xe (.ref e) s:=by
 refine Zj8 (base:=base) (outer:=outer) (L:=s0.heap.objs.size) I.ok.frames I.stack rfl x fun h' T hT y m=>?_
 obtain ⟨u,ok⟩:=I.mvd (h':=h') m (fun b hb=>by
  simp only [O1,Pk,or_false] at hb
  rcases hb with rfl | rfl
  ·exact ⟨he,hn⟩
  ·exact ⟨I.old rfl (Sq hT),I.hok.fresh hT⟩) rfl
 exact ⟨e,T,cls,od,H,rfl,I.os,I.bare,u,ok,he,I.old rfl (Sq hT),hn,I.hok.fresh hT,y,h⟩
end
section
variable {P:Program}{w:World}{K:On}{mg:Str->Option Value}{base:Heap}
theorem Fun.okx {x qual:Str}{st:Stmt}{f:Addr}{fd:FuncData}{N ps:List Str}{k:Nat}{sp:Sp}(F:Fun K x qual st f fd)(S:Aw N ps (Aj st))(len:∀ vs H Q E,sp vs H Q E->vs.length=ps.length)
  (hbody:∀(cdv:Value)(A:Around)(outer:List Env)(s:Shared)(H:Hp)(vs:List V)(Q:VK)(E:XK),Room k (A.deeper (envOfC qual (Aj st) s.heap.objs.size f cdv))->sp vs H Q E ->
   ∃ t,Dq (Cp (A4 P w) P w K mg base N qual (Aj st) f cdv A outer s H E) (Be st) t/\t { nx:=fun _ H'=>Q .non H',rt:=Q } (start N vs) H):FnOk P w K mg base (A4 P w) (k+1) f fd ps sp:=by
 obtain ⟨oc,od,kV,doc,pm,an,cdv,ct,osl,rfl,lk,hcd⟩:=F.ex
 refine Zbh lk hcd S len fun A outer s H vs Q E hr hsp=>?_
 obtain ⟨t,h,q⟩:=hbody cdv A outer s H vs Q E hr hsp
 exact ⟨t,h.run,q⟩
structure J7 (P:Program)(w:World)(K:On)(mg:Str->Option Value)(base:Heap)(k:Nat)(x:Str)(ps:List Str)(sp:Sp):Prop where
 ex:∃(f:Addr)(fd:FuncData),FnOk P w K mg base (A4 P w) k f fd ps sp/\mg x=some (.ref f)/\O4 K (.ref f)=true/\Binds K fd ps []
theorem Zu9 {k:Nat}{x:Str}{ps:List Str}{sp:Sp}{f:Addr}{fd:FuncData}(F:FnOk P w K mg base (A4 P w) k f fd ps sp)(m:mg x=some (.ref f))(kp:O4 K (.ref f)=true)(b:Binds K fd ps []):J7 P w K mg base k x ps sp:=⟨f,fd,F,m,kp,b⟩
end
section
variable {X:Cx}{k:Nat}{x:Str}{ps:List Str}{sp:Sp}{p pos np cpos:Pos}{e:Expr}{es:List Expr}{t:TA}{E:XK}
theorem Zi4 (C:J7 X.prog X.w X.K X.mg X.base k x ps sp)(hr:Room k X.A)(hx:E7 (A4 X.prog X.w) X E)(ha:QA X (e::es) t)(hg:Gl X x:=by rfl)(hdb:(x == ("__debug__" : Str))=false:=by decide)
  (he:starEach (e::es) X.env=(false,eval e X.env)::starEach es X.env:=by rfl) (hpl:(backTo pos (starEach es X.env)).any (·.1)=false:=by rfl):QE X (.Call (.Name x p) (e::es) [] pos) (Ex sp [] E t):=by
 obtain ⟨f,fd,F,hm,hk,hb⟩:=C.ex
 exact ⟨Zhw F hr hg hm hk hb .nil hx ha.run hdb he hpl⟩
noncomputable abbrev VE:List Value:=[.type "ValueError",.type "Exception",.type "BaseException",.type "object"]
noncomputable def Zot (X:Cx)(E:XK):Prop:=∀(pins:List (Addr×Obj))(σ:St)(H:Hp)(s:Shared)(a:Addr)(cls:Value)(od:Option Addr),Inv X pins σ H s->Nh s.heap a cls od->X.s₀.heap.get? a=none->H a=none->E cls od H->X.xe (.ref a) s
structure G9 (K:On)(C:Addr):Prop where
 ex:∃ bm dd nm bs ns qn hd sn sub ab col k0 k1 k2 k3 k5,K.lookup C=some (excClassObj nm qn C ns bs bm hd sn sub ab col dd k0 k1 k2 k3 k5 "ValueError.__new__")/\Ro K VE bm=true/\Sb K ns=true/\Oz K ns "__init__" = some none
theorem Zle {K:On}{h0:Heap}{C:Addr}(kin0:K.In h0)(q:G9 K C) :
  ∃ bm N nm q bs hdct sn sub ab col dd k0 k1 k2 k3 k5 mN,mN "__init__" = none/\∀ h:Heap,K.In h->h.get? C=some (excClassObj nm q C N bs bm hdct sn sub ab col dd k0 k1 k2 k3 k5 "ValueError.__new__")/\h.Ns N mN/\OwnTail h VE bm:=by
 obtain ⟨bm,dd,nm,bs,ns,qn,hd,sn,sub,ab,col,k0,k1,k2,k3,k5,ho,ht,hok,hni⟩:=q.ex
 have n0:h0.Ns ns (h0.nsMap ns):=.of_isNs (PySem.W.isNs_of_in kin0 hok)
 refine ⟨bm,ns,nm,qn,bs,hd,sn,sub,ab,col,dd,k0,k1,k2,k3,k5,h0.nsMap ns,PySem.W.nsMap_none_of_in kin0 hok hni,fun h kin=>⟨kin _ _ ho,?_,PySem.W.tail_of_in kin ht⟩⟩
 obtain ⟨o,es,ep,e,r⟩:=n0
 refine ⟨o,es,ep,?_,r⟩
 unfold Sb at hok
 split at hok
 ·rename_i hl
  have:=kin0 _ _ hl
  rw [e] at this
  cases this
  exact kin _ _ hl
 ·cases hok
theorem ObjOk.there {P:Program}{w:World}{H:Hp}{h:Heap}{a:Addr}{o:HO}(x:ObjOk P w H h a o):∃ u,h.get? a=some u:=by
 induction o with
 | lst xs=>obtain ⟨_,_,_,_,e⟩:=x;exact ⟨_,e⟩
 | tup xs=>obtain ⟨_,_,_,o,e,_⟩:=x;exact ⟨_,e⟩
 | dK kvs=>obtain ⟨_,_,vs,_,d⟩:=x;obtain ⟨o,e,_⟩:=Vw.mp d;exact ⟨_,e⟩
 | dT kvs=>obtain ⟨_,_,_,_,o,_,_,e,_⟩:=x;exact ⟨_,e⟩
 | set S n=>obtain ⟨o,_,_,_,e,_⟩:=x;exact ⟨_,e⟩
 | ins C dx fs=>obtain ⟨_,_,_,e,_⟩:=x;exact ⟨_,e⟩
 | own y=>exact x
 | xd fs=>obtain ⟨_,⟨o,_,_,e,_⟩,_⟩:=x;exact ⟨_,e⟩
 | met f y=>exact ⟨_,x⟩
 | rng lo hi=>obtain ⟨_,_,_,e⟩:=x;exact ⟨_,e⟩
 | frz o u _=>exact ⟨_,x.1⟩
 | tbl ps=>exact ⟨_,x⟩
 | ext φ=>exact x.2.1
theorem HOk.no {P:Program}{w:World}{H:Hp}{h:Heap}(x:HOk P w H h){a:Addr}(e:h.get? a=none):H a=none:=by
 cases q:H a with
 | none=>rfl
 | some u =>
  have z:=(x a u q).there
  rw [e] at z
  obtain ⟨o,z⟩:=z
  cases z
theorem Oi {C:Addr}{a:Expr}(hc:X.calm=true)(hC:G9 X.K C)(G:X.mg x=some (.ref C))(ha:QA X [a] t)(hx:Zot X E)(hex:X.ex=[])(hg:Gl X x:=by rfl)(hdb:(x == ("__debug__" : Str))=false:=by decide)
  (he:starEach [a] X.env=[(false,eval a X.env)]:=by rfl):QS X (.Raise (some (.Call (.Name x np) [a] [] cpos)) none pos) (fun D σ H=>t σ H fun vs H1=>vs.length<=sizeLine/\E (.ref C) none H1):=by
 refine ⟨fun pins s σ H D I h=>?_⟩
 obtain ⟨bm,N,nm,q,bs,hdct,sn,sub,ab,col,dd,k0,k1,k2,k3,k5,mN,cni,cl⟩:=Zle I.kIn hC
 obtain ⟨cC,cN,cT⟩:=cl _ I.kIn
 refine wpAny_Raise_call_subU (C:=C) (nm:=nm) (q:=q) (N:=N) (bs:=bs) (bm:=bm) (hdct:=hdct) (sn:=sn) (sub:=sub) (ab:=ab) (col:=col) (dd:=dd) (k0:=k0) (k1:=k1) (k2:=k2) (k3:=k3) (k5:=k5)
  Uw (by decide) Uw (mN:=mN) (cT.hasType Uw.hasBase) (I.ok.hd hc) (by rw [he];rfl) cni (Fp I hg G ⟨rfl,?_⟩ hdb)
 rw [he]
 have ar:=ha.run cpos pins s σ H _ I h
 rw [he] at ar
 refine Calls.evalArgs_plain (Rq ar (fun us s2 h2=>?_) fun _ _ y=>y)
 obtain ⟨vs,H1,I1,r1,z,q1⟩:=h2
 obtain ⟨cC',cN',cT'⟩:=cl _ I1.kIn
 refine ⟨rfl,by rw [<- r1.length];exact z,cC',cN',cT',fun h' a' hm=>?_⟩
 obtain ⟨t',e1,_,_⟩:=hm.there
 have I2:Inv X pins σ H1 { s2 with heap:=h' }:=I1.kept (t':=s2.toks) hm.keeps
 exact hx pins σ H1 _ a' (.ref C) none I2 ⟨_,_,e1,rfl,rfl,rfl,rfl,rfl⟩ (I1.old hex hm.new) (I1.hok.no hm.new) q1
end
noncomputable def Fw (a:Addr)(cls:Value)(od:Option Addr):HO:=.ext fun h=>∃ o vs,h.get? a=some o/\o.cls=cls/\o.dict=od/\o.data=.fields vs/\vs[2]?=some .none
theorem Zpu {P:Program}{w:World}{H:Hp}{h:Heap}{a T:Addr}{cls:Value}{od:Option Addr}(x:Gw h a T cls od):ObjOk P w H h a (Fw a cls od):=by
 obtain ⟨oe,vs,oT,ts,a1,a2,a3,a4,a5,a6,a7,a8,a9⟩:=x
 refine ⟨⟨oe,vs,a1,a2,a3,a4,a9.2⟩,⟨oe,a1⟩,fun h1 h2 q k=>?_⟩
 obtain ⟨o,vs,q1,q2⟩:=q
 exact ⟨o,vs,k o q1,q2⟩
theorem Un.land {fs xs:List Addr}{H H':Hp}{h h1 h2:Heap}{e:Addr}{o:HO}(u:Un fs [] H H' h h1)(m:Mvd fs xs h1 h2)(hx:∀ b∈xs,h.get? b=none)(he:h.get? e=none)(hn:H' e=none):Un fs [] H (upd H' e o) h h2:=by
 have low:∀ b ob,h.get? b=some ob->b ∉ xs:=fun b ob q z=>by rw [hx b z] at q;cases q
 have ne:∀ b ob,h.get? b=some ob->b≠e:=fun b ob q z=>by rw [z,he] at q;cases q
 have ne':∀ b ob,H' b=some ob->b≠e:=fun b ob q z=>by rw [z,hn] at q;cases q
 refine ⟨fun b ob q n hf _=>m.keep b ob (low b ob q) hf (u.keep b ob q n hf (by simp)),fun b ob q n hf _=>?_,fun b ob q n _=>?_,fun b ob q _=>?_,fun b ys q=>?_,fun b ob v q=>?_,fun b ps q=>?_⟩
 ·obtain ⟨sl,e1⟩:=u.slot b ob q n hf (by simp)
  obtain ⟨sl',e2⟩:=m.slot b _ (low b ob q) e1
  exact ⟨sl',e2⟩
 ·rw [Ay (ne b ob q)];exact u.free b ob q n (by simp)
 ·obtain ⟨o',e1⟩:=u.there b ob q (by simp)
  obtain ⟨sl,e2⟩:=m.slot b o' (low b ob q) e1
  exact ⟨_,e2⟩
 ·have z:=u.tups b ys q
  rw [Ay (ne' b _ z)];exact z
 ·have z:=u.frzs b ob v q
  rw [Ay (ne' b _ z)];exact z
 ·obtain ⟨more,z⟩:=u.tbls b ps q
  exact ⟨more,by rw [Ay (ne' b _ z)];exact z⟩
theorem HOk.land {P:Program}{w:World}{fs xs:List Addr}{H:Hp}{h1 h2:Heap}{e:Addr}{o:HO}(x:HOk P w H h1)(m:Mvd fs xs h1 h2)(hx:∀ b∈xs,H b=none)(hf:∀ b∈fs,H b=none)(hn:H e=none)(new:ObjOk P w (upd H e o) h2 e o):HOk P w (upd H e o) h2:=by
 intro b u q
 by_cases hb:b=e
 ·subst hb
  rw [Ag] at q
  cases q
  exact new
 ·rw [Ay hb] at q
  have tr:∀ c v,H c=some v->c ∉ xs/\c ∉ fs:=fun c v q=>⟨(fun z=>by rw [hx c z] at q;cases q),(fun z=>by rw [hf c z] at q;cases q)⟩
  have ne':∀ b ob,H b=some ob->b≠e:=fun b ob q z=>by rw [z,hn] at q;cases q
  refine (x b u q).stay (fun c v hc z=>?_) (fun c z=>by rw [Ay (ne' c _ z)];exact z) fun c ys z=>by rw [Ay (ne' c _ z)];exact z
  rcases hc with r | r
  ·rw [r] at z ⊢
   exact m.keep b v (tr b u q).1 (tr b u q).2 z
  ·exact m.keep c v (tr c _ r).1 (tr c _ r).2 z
noncomputable abbrev TX:=St->Hp->VK->XK->Prop
noncomputable abbrev Ie:=Ends->(St->XK)->St->Hp->Prop
noncomputable def XP (X:Cx)(pins:List (Addr×Obj))(σ:St)(E:XK)(ev:Value)(s':Shared):Prop:=∃ H0 s0,Inv X pins σ H0 s0/\A4 X.prog X.w X.stack H0 s0 E ev s'
structure QX (X:Cx)(e:Expr)(t:TX):Prop where
 run:∀(pins:List (Addr×Obj))(s:Shared)(σ:St)(H:Hp)(Q:VK)(E:XK),Inv X pins σ H s->t σ H Q E->wpAny (model X.prog X.w) X.A (eval e X.env) (EP X pins σ Q) (XP X pins σ E) s
structure QXS (X:Cx)(sts:List Stmt)(t:Ie):Prop where
 run:∀(pins:List (Addr×Obj))(s:Shared)(σ:St)(H:Hp)(D:Ends)(E:St->XK),Inv X pins σ H s->t D E σ H->wpAny (model X.prog X.w) X.A (execs sts X.env) (SP X pins D) (fun ev s'=>∃ σ',XP X pins σ' (E σ') ev s') s
noncomputable abbrev Cx.to (X:Cx)(A:Around)(c:Bool)(XE:Value->Shared->Prop):Cx:={ X with A:=A,calm:=c,xe:=XE }
section
variable {X:Cx}{pins:List (Addr×Obj)}{σ:St}{H:Hp}{s:Shared}
theorem Inv.to (I:Inv X pins σ H s){A:Around}{c:Bool}{XE:Value->Shared->Prop}(hA:A.frames=X.A.frames)(hc:c=true->A.handled=none):Inv (X.to A c XE) pins σ H s :=
 ⟨⟨I.ok.mod,I.ok.kind,I.ok.glob,I.ok.blt,I.ok.above,I.ok.inj,I.ok.has,I.ok.cab,hc,hA.trans I.ok.frames,I.ok.stk,I.ok.exf,I.ok.bs,I.ok.bsz,I.ok.noex,I.ok.exfs,I.ok.funs,I.ok.frf⟩,I.os,I.bare,I.base,I.loc,I.cell,I.free,I.freeC,I.pin,I.hok,I.len⟩
theorem Inv.back {A:Around}{c:Bool}{XE:Value->Shared->Prop}(I:Inv (X.to A c XE) pins σ H s)(ok:X.Ok):Inv X pins σ H s :=
 ⟨ok,I.os,I.bare,I.base,I.loc,I.cell,I.free,I.freeC,I.pin,I.hok,I.len⟩
end
section
variable {X:Cx}{k:Nat}{x:Str}{ps:List Str}{sp:Sp}{p pos np cpos:Pos}{e:Expr}{es:List Expr}{t:TA}
theorem Zio {i:Nat}{t:TX}{pos':Pos}(hN:X.N.Nodup)(hi:X.N[i]?=some x)(hx:E6 X.env.scope x)(he:QX X e t)(hs:swapsWith e (some (.Name x pos')) pos.line X.env=pure false:=by rfl)(hf:X.fn x=true\/X.env.scope.names.lookup x=some .local:=by first | exact .inl rfl | exact .inr rfl | assumption) :
  QXS X [.Assign [.Name x pos'] e pos] (fun D E σ H=>t σ H (fun v H1=>D.nx (σ.set i (some v)) H1) (E σ)):=by
 refine ⟨fun pins s σ H D E I h=>?_⟩
 refine Vl (Rq (wpAny_Assign_Name (Q:=SP X pins D) (Ak (he.run pins s σ H _ (E σ) I h) fun v s1 ⟨y,H1,I1,r1,q1⟩=>Nk I1 hN hi hx r1 (fun s2 I2=>⟨_,H1,I2,q1⟩) hf) hs) (fun f s1 q=>?_) fun ev s1 q=>⟨σ,q⟩)
 cases f with
 | next=>exact Sa q
 | ret v=>exact q
 | brk=>exact q
 | cont=>exact q
end
structure Mo (K:On)(C:Addr):Prop where
 ty:Q4 K (.ref C)=some (.type "type")
 cl:(Q8 K C).isSome=true
 bs:Pe K (.ref C) (.type "BaseException")=some true
theorem Zja {K:On}{M:Model}{h:Heap}{C:Addr}(X:K.In h)(e:(Q8 K C).isSome=true):Qu M h (isType (.ref C)) true:=by
 unfold Q8 at e
 split at e
 ·rename_i c' d' cd' sl' ho
  intro A' Q' E' s' k q
  unfold isType loadHead
  exact Oo (wpAny_loadPart (k _ _ (X _ _ ho)) (Op q))
 ·cases e
theorem Zr0 {K:On}{M:Model}{A:Around}{E:Value->Shared->Prop}{s:Shared}{Q:Bool->Shared->Prop}{e C C':Addr}{oe:Obj}(X:K.In s.heap)(c:Mo K C)(he:s.heap.get? e=some oe)(hcls:oe.cls=.ref C')(hs:Pe K (.ref C') (.ref C)=some true)(h:Q true s) :
  wpAny M A (excMatches (.ref e) (.ref C)) Q E s:=by
 have L1:Qu M s.heap (typeOf (.ref C)) (.type "type"):=PySem.W.looks_typeIn X c.ty
 have L2:Qu M s.heap (isType (.ref C)) true:=Zja X c.cl
 have L3:=PySem.W.looks_subIn (M:=M) X c.bs
 have L4:Qu M s.heap (typeOf (.ref e)) (.ref C'):=by
  intro A' Q' E' s' k q
  unfold typeOf
  exact Oo (wpAny_loadPart (k _ _ he) (Op (by rw [hcls];exact q)))
 have L5:=PySem.W.looks_subIn (M:=M) X hs
 have f:=tc_notTuple
 unfold excMatches
 unfold isInstance isExcClass
 repeat (first | with_reducible refine L1.here ?_ | with_reducible refine L2.here ?_ | with_reducible refine L3.here ?_ | with_reducible refine L4.here ?_ | with_reducible refine L5.here ?_ | wp_step)
 exact h
section
variable {X:Cx}{pins:List (Addr×Obj)}{σ:St}{H:Hp}{s:Shared}
theorem Nn {M:Model}{A:Around}{E:Value->Shared->Prop}{i:Nat}{n:Str}{hpos:Pos}{Q:Unit->Shared->Prop}(I:Inv X pins σ H s)(hN:X.N.Nodup)(hi:X.N[i]?=some n)(hk:X.env.scope.names.lookup n=some .local)
  (h:∀ s',Inv X pins (σ.set i none) H s'->Q () s'):wpAny M A (do bindName X.env n .none;unbindBehindTheSuite X.env n hpos) Q E s:=by
 obtain ⟨m,hn,hl⟩:=id I.loc
 have hcls:(X.env.scope.kind == .class || (X.env.scope.kind == .module && X.env.locals != X.env.globals))=false:=by rw [I.ok.kind];rfl
 have cne:=I.cne
 obtain ⟨oL,_,_,hoL,_⟩:=id hn
 refine wpAny_nameGoes_keeps hk hn hcls fun h' v hn' hs=>?_
 have hok:HOk X.prog X.w H h':=fun b ob e=>by
  refine (I.hok b ob e).stay (fun c w' hc q=>(hs.2 c ?_).trans q) (fun _ q=>q) fun _ _ q=>q
  rintro rfl
  rcases hc with rfl | hc
  ·rw [I.free] at e;cases e
  ·rw [I.free] at hc;cases hc
 refine h _ ⟨I.ok,I.os,I.bare,⟨fun b o e n hb hx=>?_,fun b o e n hb hx=>?_,I.base.free,fun b o e hx=>?_,I.base.tups,I.base.frzs,I.base.tbls⟩,⟨_,hn',fun j y v' e1 e2 e3=>?_⟩,fun y c e=>?_,I.free,I.freeC,fun p hp=>?_,hok,by simpa using I.len⟩
 ·exact (hs.2 b (O5 (O3 (Ox e) I.ok.above))).trans (I.base.keep b o e n hb hx)
 ·obtain ⟨sl,e1⟩:=I.base.slot b o e n hb hx
  exact ⟨sl,(hs.2 b (O5 (O3 (Ox e) I.ok.above))).trans e1⟩
 ·obtain ⟨o',e1⟩:=I.base.there b o e hx
  exact ⟨o',(hs.2 b (O5 (O3 (Ox e) I.ok.above))).trans e1⟩
 ·by_cases hj:j=i
  ·subst hj
   have hiσ:j < σ.length:=by rw [I.len];exact (Pa.mp hi).1
   rw [Qy hiσ] at e2
   cases e2
  ·rw [R6 (Qb hj)] at e2
   obtain ⟨u',r',q⟩:=hl j y v' e1 e2 e3
   refine ⟨u',r',?_⟩
   rcases q with ⟨k,e⟩ | ⟨k,c,e,z⟩
   ·refine .inl ⟨k,?_⟩
    have:y≠n:=fun e=>hj (Zcg hN e1 (e ▸ hi))
    simp [this,e]
   ·exact .inr ⟨k,c,e,z.sameBut hs (cne y c e)⟩
 ·obtain ⟨w',z⟩:=I.cell y c e
  exact ⟨w',z.sameBut hs (cne y c e)⟩
 ·obtain ⟨e,n,ne,nf,d⟩:=I.pin p hp
  exact ⟨(hs.2 p.1 ne).trans e,n,ne,nf,d⟩
end
section
variable {X:Cx}{c n:Str}{np hpos pos:Pos}{body hbody:List Stmt}{b₀:Stmt}{tb:Ie}{th:TS}{i:Nat}{C:Addr}
noncomputable def Ends.gone (D:Ends)(i:Nat):Ends:={ nx:=fun σ H=>D.nx (σ.set i none) H,rt:=D.rt,bk:=fun σ H=>D.bk (σ.set i none) H,ct:=fun σ H=>D.ct (σ.set i none) H }
noncomputable def tTry (K:On)(C:Addr)(i:Nat)(tb:Ie)(th:TS):TS:=fun D σ H=>tb D (fun σ1 cls od H2=>(∃ C',cls=.ref C'/\Pe K (.ref C') (.ref C)=some true)/\∀ a,H2 a=none->th (D.gone i) (σ1.set i (some (.ref a))) (upd H2 a (Fw a cls od))) σ H
theorem Zf7 (hN:X.N.Nodup)(hi:X.N[i]?=some n)(hk:X.env.scope.names.lookup n=some .local)(hC:Mo X.K C)(G:X.mg c=some (.ref C))(hf:X.env.frame=some X.env.locals)(hst:X.stack=X.env::X.outer)(hb:QXS X body tb)(hh:∀ e XE,Dq (X.to (X.A.mark (some e)) false XE) (b₀::hbody) th)(hg:Gl X c:=by rfl)(hdb:(c == ("__debug__" : Str))=false:=by decide) :
  QS X (.Try body [.ExceptHandler (some (.Name c np)) (some n) (b₀::hbody) hpos] [] [] pos) (tTry X.K C i tb th):=by
 refine ⟨fun pins s σ H D I h=>?_⟩
 refine wpAny_Try_except (Rq (hb.run pins s σ H D _ I h) (fun f s1 q=>?_) fun ev s1 q=>?_)
 ·cases f with
  | next=>exact Sa q
  | ret v=>exact q
  | brk=>exact q
  | cont=>exact q
 ·obtain ⟨σ1,H0,s0,I0,e,T,cls,od,H',rfl,h1,h2,h3,h4,h5,h6,h7,h8,h9,⟨C',rfl,hsub⟩,h10⟩:=q
  have J:Inv X pins σ1 H' s1:=I0.call' (ch:=[]) h1 h3 h4 h2 (fun b z=>absurd z (by simp))
  have hfr:X.A.frames=some (X.env::X.outer):=by rw [<- hst];exact J.ok.frames
  have hstk:=J.stack
  rw [hst] at hstk
  refine Zht (base:=X.base) hfr hstk hf h9 fun h' T' hT' y m=>Nz (fs:=Bd (X.env::X.outer)) y fun h'' y' m'=>?_
  have M1:Mvd (Bd X.stack) [e,T,T'] s1.heap h'':=by rw [hst];exact (m.mono (by simp)).trans (m'.mono (by simp))
  have fT':s0.heap.get? T'=none:=by
   cases q:s0.heap.get? T' with
   | none=>rfl
   | some o =>
    obtain ⟨o',z⟩:=h3.there T' o q (by simp)
    exact absurd (Ox z) (Nat.not_lt.mpr hT')
  have hT'n:H' T'=none:=J.hok.fresh hT'
  have fx:∀ b∈[e,T,T'],s0.heap.get? b=none/\H' b=none:=by
   intro b hb
   simp only [O1,Pk,or_false] at hb
   rcases hb with rfl | rfl | rfl
   ·exact ⟨h5,h7⟩
   ·exact ⟨h6,h8⟩
   ·exact ⟨fT',hT'n⟩
  have land:∀{h3':Heap},Mvd (Bd X.stack) [e,T,T'] s1.heap h3'->Gw h3' e T' (.ref C') od->Inv X pins σ1 (upd H' e (Fw e (.ref C') od)) { s1 with heap:=h3' }:=fun {h3'} mm ll =>
   I0.call' (s':={ s1 with heap:=h3' }) (ch:=[]) h1 (h3.land mm (fun b hb=>(fx b hb).1) h5 h7) (h4.land mm (fun b hb=>(fx b hb).2) (fun b hb=>J.stkFree b hb) h7 (Zpu ll)) h2 (fun b z=>absurd z (by simp))
  have I1:=land M1 y'
  refine wpAny_handleBy_cons (codeAny_handlers_test ?_) (by intro q;cases q)
  have I1':Inv (X.to (X.A.mark (some (.ref e))) false (notedBy (model X.prog X.w) (X.A.mark (some (.ref e))) X.env fun x s₁=>True)) pins σ1 (upd H' e (Fw e (.ref C') od)) { s1 with heap:=h'' }:=I1.to rfl (by simp)
  refine Fp I1' hg G ?_ hdb
  obtain ⟨oe,vs,oT,ts,a1,a2,a3,a4,a5,a6,a7,a8,a9⟩:=id y'
  refine Zr0 I1.kIn hC a1 a2 hsub ?_
  refine codeAny_handlers_suite_as (Nz (fs:=Bd X.stack) y' fun h4' y4 m4=>?_)
  have I2:=land (M1.trans (m4.mono (by simp))) y4
  refine Nk (v:=.ref e) I2 hN hi (.inl hk) rfl (fun s3 I3=>?_) (.inr hk)
  refine Rq ((hh (.ref e) _).run pins s3 _ _ (D.gone i) (I3.to rfl (by simp)) (h10 e h7)) (fun f s4 q=>?_) fun ev s4 q=>q
  cases f with
  | next =>
   obtain ⟨σ',H4,I4,q⟩:=q
   exact Nn (I4.back I.ok) hN hi hk fun s5 I5=>⟨_,H4,I5,q⟩
  | ret v =>
   obtain ⟨u,σ',H4,I4,r,q⟩:=q
   exact Nn (I4.back I.ok) hN hi hk fun s5 I5=>⟨u,_,H4,I5,r,q⟩
  | brk =>
   obtain ⟨σ',H4,I4,q⟩:=q
   exact Nn (I4.back I.ok) hN hi hk fun s5 I5=>⟨_,H4,I5,q⟩
  | cont =>
   obtain ⟨σ',H4,I4,q⟩:=q
   exact Nn (I4.back I.ok) hN hi hk fun s5 I5=>⟨_,H4,I5,q⟩
end
noncomputable def Ig:List Value->Bool
 | .ref _::r=>Ig r
 | l=>l == VE
theorem Zel:∀{l:List Value},Ig l=true->l.contains (.type "object")=true/\l.contains (.type "BaseException")=true:=by
 intro l
 induction l with
 | nil=>intro e;cases e
 | cons c r ih =>
  intro e
  cases c with
  | ref a=>obtain ⟨x,y⟩:=ih e;exact ⟨by rw [List.contains_cons,x,Bool.or_true],by rw [List.contains_cons,y,Bool.or_true]⟩
  | _=>rw [beq_iff_eq.mp (show (_ == _)=true from e)];decide
structure ExC (K:On)(C:Addr):Prop where
 ov:((Q8 K C).any fun cd=>Ig cd.mro)=true
 hd:P6 K C=true
 ga:Os K (.ref C) "__getattribute__" = some (some (.builtin "BaseException.__getattribute__"))
 gt:Os K (.ref C) "__getattr__" = some none
 sa:Os K (.ref C) "__setattr__" = some (some (.builtin "object.__setattr__"))
 dc:Q4 K (.ref C)=some (.type "type")
section
open PySem.W PySem.Builtin PySem.Builtin.ObjectAttr
variable {prog:Program}{w:World}{A:Around}{E:Value->Shared->Prop}{s:Shared}{K:Frag}{x C:Addr}{ox:Obj}{od:Option Obj}{name:Str}{R:Result->Shared->Prop}
end
theorem Zsy {P:Program}{w:World}{H:Hp}{h:Heap}{a:Addr}{cls:Value}{od:Option Addr}(x:ObjOk P w H h a (Fw a cls od)):∃ o vs,h.get? a=some o/\o.cls=cls/\o.dict=od/\o.data=.fields vs:=let ⟨o,vs,a,b,c,d,_⟩:=x.1;⟨o,vs,a,b,c,d⟩
section
variable {X:Cx}{pins:List (Addr×Obj)}{σ:St}{H:Hp}{s:Shared}
end
section
variable {X:Cx}{pins:List (Addr×Obj)}{σ:St}{H:Hp}{s:Shared}{a C:Addr}{f:Str}{A:Around}{E:Value->Shared->Prop}
open PySem.W PySem.Builtin PySem.Builtin.ObjectAttr
end
section
variable {X:Cx}{o e value:Expr}{f:Str}{pos pos':Pos}{ta tv:TE}
end
section
open PySem.W
end
structure ExcI (K:On)(C:Addr):Prop where
 ex:∃ bm dd nm bs ns qn hd sn sub ab col k0 k1 k2 k3 k5,K.lookup C=some (excClassObj nm qn C ns bs bm hd sn sub ab col dd k0 k1 k2 k3 k5 "ValueError.__new__")/\Ro K VE bm=true
section
variable {prog:Program}{w:World}{A:Around}{E:Value->Shared->Prop}{h:Heap}{g:Array GenState}{d:Drawn}{t:Nat}{os:OsState}
variable {nm q:Str}{C N:Addr}{bs bm bmB:List Value}{hdct:Bool}{sn:List Str}{sub:List Value}{ab:Bool}{col:Option Bool}{dd:Option Addr}{k0 k1 k2 k3 k5:Option Value}{B Bn newId nid initId inN:String}{bmN:List Value}
end
section
variable {X:Cx}{k:Nat}{x:Str}{sp:Sp}{ps:List Str}{C f:Addr}{fd:FuncData}{np cpos pos:Pos}{a:Expr}{t:TA}{E:XK}
end
structure RoomN (k:Nat)(A:Around):Prop where
 dp:A.depth+3 * k+5 < recursionLimit
 un:A.units+16 * k+200 < cLine
theorem Room.n {k:Nat}{A:Around}(r:Room k A):RoomN k A:=⟨r.dp,r.un⟩
theorem RoomN.mono {j k:Nat}{A:Around}(r:RoomN k A)(h:j<=k):RoomN j A:=⟨by have:=r.dp;omega,by have:=r.un;omega⟩
theorem RoomN.deeper {k:Nat}{A:Around}(r:RoomN (k+1) A)(env:Env):RoomN k (A.deeper env) :=
 ⟨by have:=r.dp;show A.depth+1+3 * k+5 < _;omega,by have:=r.un;show A.units+3+16 * k+200 < _;omega⟩
theorem RoomN.mark {k:Nat}{A:Around}(r:RoomN k A)(e:Value):RoomN k (A.mark (some e)):=⟨r.dp,r.un⟩
structure Iv (P:Program)(w:World)(K:On)(mg:Str->Option Value)(base:Heap)(k:Nat)(f:Addr)(fd:FuncData)(ps:List Str)(sp:Sp):Prop where
 len:∀ vs H Q E,sp vs H Q E->vs.length=ps.length
 run:∀(A:Around)(outer:List Env)(s:Shared)(H:Hp)(args:Args)(us:List Value)(vs:List V)(Q:VK)(E:XK),RoomN k A->Env0 P w K mg base A outer s H->BindsTo s fd args (ps.zip us)->Vals vs us->sp vs H Q E ->
  codeAny (model P w) A (.call (.ref f) args) (CR An outer P w H s Q E) s
section
variable {P:Program}{w:World}{K:On}{mg:Str->Option Value}{base:Heap}
theorem Zm2 {k:Nat}{f:Addr}{name qual:Str}{params:Arguments}{body:List Stmt}{scope:Scope}{dV kV doc pm cdv ct oc:Value}{an od:Option Addr}
  {osl:Array (Option Value)} {N ps:List Str} {sp:Sp} (lk:K.lookup f=some ⟨oc,od,.func (O6 name qual params body scope dV kV doc pm an cdv ct),osl⟩) (hcd:Q5 K cdv qual=true) (S:Aw N ps scope)
  (len:∀ vs H Q E,sp vs H Q E->vs.length=ps.length)
  (hbody:∀(A:Around)(outer:List Env)(s:Shared)(H:Hp)(vs:List V)(Q:VK)(E:XK),RoomN k (A.deeper (envOfC qual scope s.heap.objs.size f cdv))->sp vs H Q E ->
   ∃ t,PSs ((Cp An P w K mg base N qual scope f cdv A outer s H E).to (A.deeper (envOfC qual scope s.heap.objs.size f cdv)) false (fun _ _=>False)) body t/\t { nx:=fun _ H'=>Q .non H',rt:=Q } (start N vs) H) :
  Iv P w K mg base (k+1) f (O6 name qual params body scope dV kV doc pm an cdv ct) ps sp:=by
 refine ⟨len,fun A outer s H args us vs Q E hr e0 hb r hsp=>?_⟩
 have hl:=len _ _ _ _ hsp
 have KX:K.In s.heap:=e0.mod.kin.keeps fun b o e=>(e0.bs b o e).1
 have lim:s.heap.NoLimit:=e0.mod.nolimit.keeps fun b o e=>(e0.bs b o e).1
 have hkind:∀ y∈ps.zip us,scope.names.lookup y.1=some .local\/(scope.names.lookup y.1=some .cell/\((cellsFrom (s.heap.objs.size+1) scope.names []).lookup y.1).isSome=true):=fun ⟨n,v⟩ hy=>by
  rcases S.par n (Ub hy).1 with q | q
  ·exact .inl q
  ·exact .inr ⟨q,U4 _ _ _ (.inl q)⟩
 refine codeAny_call_function (by have:=hr.dp;omega) (KX _ _ lk) rfl S.co S.gen rfl (PySem.W.codeRec_of KX hcd) (hb _ _ _ _ ?_)
 refine wpAny_newFunctionEnv_cells S.kind hkind fun env he s1 x=>?_
 subst he
 refine ⟨lim.keeps x.toInCall.keep,codeAny_func ?_⟩
 obtain ⟨t,ht,hq⟩:=hbody A outer s H vs Q E (hr.deeper _) hsp
 have e0':Env0 P w K mg base { A with handled:=none } outer s H:=⟨e0.frames,e0.mod,e0.bs,e0.bsz,e0.funs,e0.frf,e0.hok,e0.bare⟩
 have I0:Inv (Cp An P w K mg base N qual scope f cdv { A with handled:=none } outer s H E) [] (start N vs) H s1:=Zfa S rfl e0' hl r x
 have I:Inv ((Cp An P w K mg base N qual scope f cdv A outer s H E).to (A.deeper (envOfC qual scope s.heap.objs.size f cdv)) false (fun _ _=>False)) [] (start N vs) H s1:=I0.to (A:=A.deeper (envOfC qual scope s.heap.objs.size f cdv)) (c:=false) (XE:=fun _ _=>False) rfl (by simp)
 refine Rq (ht [] s1 (start N vs) H _ I hq) (fun fl s' hs=>?_) fun e s' hs=>O8 hs
 have fin:∀{σ':St}{H':Hp}{v:V}{u:Value},Inv ((Cp An P w K mg base N qual scope f cdv A outer s H E).to (A.deeper (envOfC qual scope s.heap.objs.size f cdv)) false (fun _ _=>False)) [] σ' H' s'->RelV v u->Q v H'->CE outer P w H s Q u s' :=
  fun {σ' H' v u} J rv q=>⟨v,H',J.os,J.bare,J.base,J.hok,rv,q⟩
 cases fl with
 | ret u =>
  obtain ⟨v,σ',H',J,rv,q⟩:=hs
  exact fin J rv q
 | next =>
  obtain ⟨σ',H',J,q⟩:=hs
  exact fin (v:=V.non) (u:=Value.none) J rfl q
 | brk =>
  obtain ⟨_,_,_,q⟩:=hs
  exact O8 q
 | cont =>
  obtain ⟨_,_,_,q⟩:=hs
  exact O8 q
theorem Fun.okN {x qual:Str}{st:Stmt}{f:Addr}{fd:FuncData}{N ps:List Str}{k:Nat}{sp:Sp}(F:Fun K x qual st f fd)(S:Aw N ps (Aj st))(len:∀ vs H Q E,sp vs H Q E->vs.length=ps.length)
  (hbody:∀(cdv:Value)(A:Around)(outer:List Env)(s:Shared)(H:Hp)(vs:List V)(Q:VK)(E:XK),RoomN k (A.deeper (envOfC qual (Aj st) s.heap.objs.size f cdv))->sp vs H Q E ->
   ∃ t,Dq ((Cp An P w K mg base N qual (Aj st) f cdv A outer s H E).to (A.deeper (envOfC qual (Aj st) s.heap.objs.size f cdv)) false (fun _ _=>False)) (Be st) t/\t { nx:=fun _ H'=>Q .non H',rt:=Q } (start N vs) H):Iv P w K mg base (k+1) f fd ps sp:=by
 obtain ⟨oc,od,kV,doc,pm,an,cdv,ct,osl,rfl,lk,hcd⟩:=F.ex
 refine Zm2 lk hcd S len fun A outer s H vs Q E hr hsp=>?_
 obtain ⟨t,h,q⟩:=hbody cdv A outer s H vs Q E hr hsp
 exact ⟨t,h.run,q⟩
structure Lz (P:Program)(w:World)(K:On)(mg:Str->Option Value)(base:Heap)(k:Nat)(x:Str)(ps:List Str)(sp:Sp):Prop where
 ex:∃(f:Addr)(fd:FuncData),Iv P w K mg base k f fd ps sp/\mg x=some (.ref f)/\O4 K (.ref f)=true/\Binds K fd ps []
theorem Zr1 {k:Nat}{x:Str}{ps:List Str}{sp:Sp}{f:Addr}{fd:FuncData}(F:Iv P w K mg base k f fd ps sp)(m:mg x=some (.ref f))(kp:O4 K (.ref f)=true)(b:Binds K fd ps []):Lz P w K mg base k x ps sp:=⟨f,fd,F,m,kp,b⟩
end
section
variable {X:Cx}{k:Nat}{x:Str}{ps:List Str}{sp:Sp}{p pos:Pos}{e:Expr}{es:List Expr}{t:TA}
theorem Zh7 (C:Lz X.prog X.w X.K X.mg X.base k x ps sp)(hr:RoomN k X.A)(ha:QA X (e::es) t)(hg:Gl X x:=by rfl)(hdb:(x == ("__debug__" : Str))=false:=by decide)
  (he:starEach (e::es) X.env=(false,eval e X.env)::starEach es X.env:=by rfl) (hpl:(backTo pos (starEach es X.env)).any (·.1)=false:=by rfl):QE X (.Call (.Name x p) (e::es) [] pos) (Ex sp [] E0 t):=by
 obtain ⟨f,fd,F,hm,hk,hb⟩:=C.ex
 refine ⟨fun pins s σ H Q I h=>?_⟩
 refine Rj (Fp I hg hm ?_ hdb)
 refine Sv (h₀:=X.base) I.ok.mod.kin hk (Ak (ha.run pos pins s σ H _ I h) fun us s1 zq=>?_) he hpl
 obtain ⟨vs,H1,I1,r,q⟩:=zq
 refine ⟨I1.kIn,?_⟩
 have q:sp (vs++[]) H1 Q E0:=q
 rw [Qt] at q
 have hl:us.length=ps.length:=by rw [<- r.length];exact F.len _ _ _ _ q
 have hb':=hb s1 us I1.kIn (by simpa using hl)
 rw [Qt] at hb'
 refine Rr (Rp (F.run X.A X.stack s1 H1 ⟨us,[]⟩ us vs Q _ hr I1.env0 hb' r q) fun r s' hq=>?_)
 cases r with
 | error e=>exact O8 hq
 | ok fl =>
  cases fl with
  | ret u=>exact I1.after hq
  | next=>exact O8 hq
  | brk=>exact O8 hq
  | cont=>exact O8 hq
end
structure ExN (K:On)(D:Addr):Prop extends ExC K D where
 ca:Os K (.ref D) "__class__" = some (some (.builtin "object.__class__"))
 cg:Vi K (.builtin "object.__class__") "__get__" = some (some (.builtin "getset_descriptor.__get__"))
 ct:Vr K (.builtin "object.__class__")=some true
section
open PySem.W PySem.Builtin PySem.Builtin.ObjectAttr
variable {prog:Program}{w:World}{A:Around}{E:Value->Shared->Prop}{s:Shared}{K:Frag}{x D:Addr}{ox:Obj}{od:Option Obj}
theorem Zkp {Q:Option Value->Shared->Prop}(X:K.In s.heap)(I:Ui s.heap x ox D od)(c:ExN K D)(h:Q (some (.ref D)) { s with toks:=s.toks+1 }):wpAny (model prog w) A (getAttr? (.ref x) "__class__") Q E s:=by
 obtain ⟨cd,hc,ho⟩:=any_some c.ov
 have ne:cd.mro.isEmpty=false:=by cases q:cd.mro with | nil=>rw [q] at ho;cases ho | cons _ _=>rfl
 have hf:findObj K D od "__class__" = some (.bind (.builtin "getset_descriptor.__get__") (.builtin "object.__class__")):=by
  unfold findObj
  rw [hc,Te,c.ca,Te]
  dsimp only
  rw [c.cg,Te]
  dsimp only
  rw [c.ct]
  rfl
 have hm:mroIn K D (.type "object")=some true:=by unfold mroIn;rw [hc,Te,if_neg (by rw [ne];decide),(Zel ho).1]
 obtain ⟨hp,g,d,t,os⟩:=s
 have L0:=I.type (M:=model prog w)
 have L1:=looks_findIn (M:=model prog w) X c.ga
 have L2:=looks_findIn (M:=model prog w) X c.gt
 have L3:=looks_find (M:=model prog w) X I hf
 have L4:Looks (model prog w) hp (isInstance (.ref x) (.type "BaseException")) true:=I.type.andThen (looks_mroIn X (by unfold mroIn;rw [hc,Te,if_neg (by rw [ne];decide),(Zel ho).2]))
 have f3:=PySem.F.attr_ValueError.ga.bind (.ref x)
 have hx2:(Value.builtin "BaseException.__getattribute__" == Value.builtin "object.__getattribute__")=false:=by decide +kernel
 have hx1:(onTheHeap (Value.ref D) && Value.builtin "BaseException.__getattribute__" == Value.builtin "object.__getattribute__")=false:=by rw [hx2];rfl
 have hk:builtinKind "BaseException.__getattribute__" = some .slot:=by decide +kernel
 have hsplit:splitId "BaseException.__getattribute__" = some ("BaseException", "__getattribute__"):=by decide +kernel
 unfold getAttr? getAttrBy? getAttrBy
 refine Oo (wpAny_mkText (Oo (Se (Qa (Oo (L0.at (Oo (L1.at ?_))))))))
 dsimp only
 rw [hx1]
 simp only [Sw,if_false]
 unfold getAttrByItsOwn hookBefore callGetattribute
 rw [if_pos (show onTheHeap (Value.ref D)=true from rfl)]
 refine Oo (L2.at ?_)
 simp only [Pm,Sw,if_false]
 unfold boundAndCalled
 rw [f3]
 refine Oo (Se (Qa (Oo (Op (Rr (codeAny_call_builtin PySem.F.attr_ValueError.ga.plain PySem.F.entry_bexc_ga (@check_slot (model prog w) _ _ ⟨hp,g,d,t+1,os⟩ "BaseException.__getattribute__" "BaseException" "__getattribute__" (.ref x) [.str "__class__" t] [] _ hk hsplit L4 (PySem.F.args_bexc_ga (.ref x) (.str "__class__" t)) ?_)))))))
 show wpAny _ _ (Builtin.«object.__getattribute__» ⟨[.ref x,.str "__class__" t],[]⟩) _ _ _
 refine Oo (Op (Oo (Op (Oo (L0.at (Oo (L3.at ?_)))))))
 show wpAny _ _ (holding [.builtin "object.__class__"] (call (.builtin "getset_descriptor.__get__") [.builtin "object.__class__",.ref x,.ref D]) >>= ret) _ _ _
 refine Oo (Qa (Rr (class_get (s:=⟨hp,g,d,t+1,os⟩) (ox:=ox) (od:=od) X I hm (Op ?_))))
 show wpAny _ _ (handedOut (.ref D)) _ _ _
 rw [handedOut_of rfl]
 exact Op (Op h)
theorem Zfq (c:ExN K D):KitX K (.ref x) (.ref D) (fun h=>Ui h x ox D od) where
 ty:=fun _ _ _ I=>I.type
 it:=fun _ _ X _=>by
  obtain ⟨cd,hc,_⟩:=any_some c.ov
  exact Zja X (by rw [hc];rfl)
 ne:=fun h tp dd its n sl X htp=>by
  obtain ⟨cdD,hcD,_⟩:=any_some c.ov
  refine Bool.eq_false_iff.mpr fun q=>?_
  have e:D=tp:=Value.ref.inj (beq_iff_eq.mp q)
  subst e
  unfold clsIn at hcD
  split at hcD
  ·rename_i c' d' cd' sl' ho
   have z:=(X _ _ ho).symm.trans htp
   cases z
  ·cases hcD
 ca:=fun X I k=>Zkp X I c k
end
noncomputable def rIsY (K:On):List V->Hp->VK->Prop:=fun xs H Q=>∃ a C C' od b,xs=[.ref a,.ref C]/\H a=some (Fw a (.ref C') od)/\(∀ d,od=some d->∃ fs,H d=some (.xd fs))/\ExN K C'/\O0 K (.ref C') (.ref C)=some b/\Q (.bl b) H
noncomputable def Zr2 (K:On)(T:String):List V->Hp->VK->Prop:=fun xs H Q=>∃ a C' od b,xs=[.ref a,.ty T]/\H a=some (Fw a (.ref C') od)/\(∀ d,od=some d->∃ fs,H d=some (.xd fs))/\ExN K C'/\O0 K (.ref C') (.type T)=some b/\Q (.bl b) H
section
variable {X:Cx}{pins:List (Addr×Obj)}{σ:St}{H:Hp}{s:Shared}{a C':Addr}{od:Option Addr}
theorem Zib (I:Inv X pins σ H s)(ea:H a=some (Fw a (.ref C') od))(hd:∀ d,od=some d->∃ fs,H d=some (.xd fs)):∃ ox oo,Ui s.heap a ox C' oo:=by
 obtain ⟨oe,vs,a1,a2,a3,a4⟩:=Zsy (I.hok a _ ea)
 cases od with
 | none=>exact ⟨oe,none,a1,a2,by unfold PySem.W.notCls;rw [a4],by rw [a3];trivial⟩
 | some d =>
  obtain ⟨fs,ed⟩:=hd d rfl
  obtain ⟨mA,nA,r⟩:=I.hok d _ ed
  obtain ⟨oD,hoD,hl⟩:=Zfo nA
  exact ⟨oe,some oD,a1,a2,by unfold PySem.W.notCls;rw [a4],by rw [a3];exact hoD⟩
theorem Zb8 {K:On}(hK:X.K=K:=by rfl):B4 X (.builtin "isinstance") (rIsY K):=by
 subst hK
 intro pins s σ H xs us Q I r h
 obtain ⟨a,C,C',od,b,rfl,ea,hd,c,e,q⟩:=h
 obtain ⟨u,v,rfl,ru,rv⟩:=r.two
 obtain rfl:u=Value.ref a:=ru
 obtain rfl:v=Value.ref C:=rv
 obtain ⟨ox,oo,J⟩:=Zib I ea hd
 exact Po (Zfq (ox:=ox) (od:=oo) c) I.kIn J e (fun z=>nomatch z) fun tk=>⟨.bl b,H,I.tok tk,rfl,q⟩
theorem Zvf {K:On}(T:String)(hK:X.K=K:=by rfl):B4 X (.builtin "isinstance") (Zr2 K T):=by
 subst hK
 intro pins s σ H xs us Q I r h
 obtain ⟨a,C',od,b,rfl,ea,hd,c,e,q⟩:=h
 obtain ⟨u,v,rfl,ru,rv⟩:=r.two
 obtain rfl:u=Value.ref a:=ru
 obtain rfl:v=Value.type T:=rv
 obtain ⟨ox,oo,J⟩:=Zib I ea hd
 exact Po (Zfq (ox:=ox) (od:=oo) c) I.kIn J e (fun z=>nomatch z) fun tk=>⟨.bl b,H,I.tok tk,rfl,q⟩
end
section
variable {X:Cx}
end
end L2
namespace L2
open PySem
section
variable {g:TG}{tt:TT}{te:TE}{σ0:St}{H1:Hp}{D:Addr}{Q:VK}
end
end L2
namespace L2
open PySem PySem.Spec PyProof.Rows
section
variable {X:Cx}
end
section
variable {prog:Program}{w:World}{A:Around}{E:Value->Shared->Prop}{s:Shared}
end
section
variable {X:Cx}
end
section
variable {g:TG}{tt:TT}{te:TE}{σ0:St}{H1:Hp}{D:Addr}{Q:VK}
end
section
variable {X:Cx}
end
theorem Zu3:fillsNumberSlot (.type "tuple") "mul" = pure false :=
 PySem.fillsNumberSlot_seq (id := "tuple.__mul__") (r:=some (.builtin "tuple.__rmul__")) Sm.lookup (by decide +kernel) PySem.F.slot_tuple_rmul.lookup (by decide +kernel)
theorem Zlv:seqRepeat? (.type "tuple")=pure (some (.builtin "tuple.__mul__")):=by
 unfold seqRepeat?
 rw [PySem.seqSlot_of (T := "tuple") (name := "__mul__") (id := "tuple.__mul__") Sm.lookup (by decide +kernel),PySem.seqSlot_of (T := "tuple") (name := "__rmul__") (id := "tuple.__rmul__") PySem.F.slot_tuple_rmul.lookup (by decide +kernel)]
 rfl
theorem Zvk (a:Int)(t:Tok)(l:Addr)(items:Array Value)(n:Nat)(dd:Option Addr)(sl:Array (Option Value)) :
  Meets (Builtin.«int.__rmul__» ⟨[.int a t,.ref l],[]⟩) (fun _ R s=>s.heap.get? l=some { cls:=.type "tuple",dict:=dd,data:=.seq items n,slots:=sl }/\R (.ok (.ret Value.notImplemented)) s) :=
 .of_wp fun prog w A R s h=>by obtain ⟨hp,g,d,tk,os⟩:=s;obtain ⟨hl,h⟩:=h;wp_walk;exact ⟨_,rfl,h⟩
theorem Zj1 (l:Addr)(items:Array Value)(n:Nat)(dd:Option Addr)(sl:Array (Option Value))(u:Tok) :
  Meets (Builtin.«tuple.__mul__» ⟨[.ref l,.int 1 u],[]⟩) (fun _ R s=>s.heap.get? l=some { cls:=.type "tuple",dict:=dd,data:=.seq items n,slots:=sl }/\R (.ok (.ret (.ref l))) s) :=
 .of_wp fun prog w A R s h=>by obtain ⟨hp,g,d,tk,os⟩:=s;obtain ⟨hl,h⟩:=h;wp_walk;exact ⟨_,rfl,h⟩
theorem Zkt (l:Addr)(items:Array Value)(n:Nat)(dd:Option Addr)(sl:Array (Option Value))(u:Tok)(hne:¬ items.isEmpty=true) :
  Meets (Builtin.«tuple.__mul__» ⟨[.ref l,.int 0 u],[]⟩) (fun _ R s=>s.heap.get? l=some { cls:=.type "tuple",dict:=dd,data:=.seq items n,slots:=sl }/\R (.ok (.ret (.ref s.heap.objs.size))) { s with heap:=s.heap.push { cls:=.type "tuple",data:=.seq #[] } }) :=
 .of_wp fun prog w A R s h=>by obtain ⟨hp,g,d,tk,os⟩:=s;obtain ⟨hl,h⟩:=h;wp_walk;exact ⟨_,rfl,h⟩
theorem Zlz (l:Addr)(items:Array Value)(n:Nat)(dd:Option Addr)(sl:Array (Option Value))(u:Tok)(x:Int)(h2:2<=x)(hx:x < 2 ^ 62)(hne:items.isEmpty=false)(hz:(items.size:Int) * x<=1000)(hs:¬ ((Oy x.toNat items).foldl (·++·) #[]).size > sizeLine) :
  Meets (Builtin.«tuple.__mul__» ⟨[.ref l,.int x u],[]⟩) (fun _ R s=>s.heap.get? l=some { cls:=.type "tuple",dict:=dd,data:=.seq items n,slots:=sl }/\R (.ok (.ret (.ref s.heap.objs.size))) { s with heap:=s.heap.push { cls:=.type "tuple",data:=.seq ((Oy x.toNat items).foldl (·++·) #[]) } }) :=
 .of_wp fun prog w A R s h=>by
  obtain ⟨hp,g,d,tk,os⟩:=s;obtain ⟨hl,h⟩:=h
  have c0:(decide (x < -2 ^ 63) || decide (x ≥ 2 ^ 63))=false:=by
   have a:¬ x < -2 ^ 63:=by omega
   have b:¬ x ≥ 2 ^ 63:=by omega
   rw [decide_eq_false a,decide_eq_false b];rfl
  have c1:(items.isEmpty || x == 1)=false:=by
   have b:¬ x=1:=by omega
   rw [hne]
   simp [b]
  have c2:(decide (x<=0) || items.isEmpty)=false:=by
   have b:¬ x<=0:=by omega
   rw [hne,decide_eq_false b];rfl
  have c3:¬ ((items.size:Int) * x > (2 ^ 63 - 1) / 8):=by omega
  have c4:Builtin.Tuple.tupleTooMany ((items.size:Int) * x)=false:=by
   unfold Builtin.Tuple.tupleTooMany
   have:(100000:Nat)<=sizeLine:=by decide
   exact decide_eq_false (by omega)
  wp_walk
  refine Ug (by rw [c0];rfl) ?_
  wp_walk
  refine Ug (by rw [c1];rfl) ?_
  wp_walk
  refine Ug (by rw [c2];rfl) ?_
  wp_walk
  refine Ug (decide_eq_false c3) ?_
  wp_walk
  exact ⟨_,rfl,h⟩
section
variable {X:Cx}
noncomputable def Zjc (K:On):R2:=fun x y H Q=>∃ l k xs,x=.ref l/\y=.int k/\SqT K H l xs/\xs≠[]/\0<=k/\k < 2 ^ 62/\(xs.length:Int) * k<=1000/\∀ r H',Same H H'->SqT K H' r (Oy k.toNat xs).flatten->Q (.ref r) H'
theorem Zmt (K:On)(hK:X.K=K:=by rfl):OpR X (binaryOp .Mult) (Zjc K):=by
 subst hK
 intro pins s σ H x y v u Q I rx ry h
 obtain ⟨l,k,xs,rfl,rfl,hH,hne,h0,h1,hz,q⟩:=h
 cases rx
 obtain ⟨t,rfl⟩:=ry
 obtain ⟨its,r,p,_⟩:=I.tuple hH
 have hl:=r.length
 obtain ⟨⟨cls,dd,data,sl⟩,e,hc,n,hd⟩:=id p
 simp only at hc hd
 subst hc hd
 have hz':(its.toArray.size:Int) * k<=1000:=by rw [Ou,<- hl];exact hz
 have hem:its.toArray.isEmpty=false:=by
  cases its with
  | nil=>cases xs with | nil=>exact absurd rfl hne | cons a b=>simp at hl
  | cons a b=>simp
 have go:∀ Q':Value->Shared->Prop,wpAny (model X.prog X.w) X.A (call (.builtin "tuple.__mul__") [.ref l,.int k t]) Q' X.xe s->wpAny (model X.prog X.w) X.A (binaryOp .Mult (.ref l) (.int k t)) Q' X.xe s:=fun Q' hh =>
  wpAny_binaryOp_repeat_ref (T := "tuple") (U := "int") (by decide) ⟨_,e,rfl⟩ (fun s'=>Tt s' k t) Zu3 PySem.F.fills_int_mul PySem.F.slot_int_rmul Zlv PySem.F.slot_int_index.lookup
   (Qo PySem.F.slot_int_rmul (Tt s k t) PySem.F.entry_int_rmul (PySem.F.args_int_rmul_2 _ _) (Zvk k t l its.toArray n dd sl) ⟨e,rfl,⟨_,e,rfl⟩,hh⟩)
 by_cases k1:k=1
 ·subst k1
  refine go _ (Qo Sm ⟨_,e,rfl⟩ U2 (U0 _ _) (Zj1 l its.toArray n dd sl t) ⟨e,?_⟩)
  exact ⟨.ref l,H,I,rfl,q l H (Same.refl _) (by show SqT X.K H l (Oy 1 xs).flatten;simpa using hH)⟩
 by_cases k0:k=0
 ·subst k0
  refine go _ (Qo Sm ⟨_,e,rfl⟩ U2 (U0 _ _) (Zkt l its.toArray n dd sl t (by rw [hem];exact Ov)) ⟨e,?_⟩)
  refine ⟨.ref _,_,I.laid (t':=s.toks) (o:=.tup []) (fun b ob q=>Ot _ q) (Oq _) ⟨by show 0<=sizeLine;decide,[],.nil,⟨_,O2 _ rfl,rfl,_,rfl⟩⟩,rfl,q _ _ (Same.upd I.fresh) (SqT.of Ag)⟩
 ·have hnew:Tu (fun x1 x2=>x1++x2) #[] (Oy k.toNat its.toArray)=(Oy k.toNat its).flatten.toArray:=by
   have:=Zdc its k.toNat []
   rw [Uc] at this
   exact this
  have hlen:(Oy k.toNat xs).flatten.length<=sizeLine:=by
   rw [Oh]
   have:(100000:Nat)<=sizeLine:=by decide
   have e:((k.toNat * xs.length:Nat):Int)=(xs.length:Int) * k:=by rw [Int.natCast_mul,Int.toNat_of_nonneg h0,Int.mul_comm]
   omega
  have hs:¬ ((Oy k.toNat its.toArray).foldl (·++·) #[]).size > sizeLine:=by
   have h':Tu (fun x1 x2=>x1++x2) #[] (Oy k.toNat its.toArray)=(Oy k.toNat its).flatten.toArray:=hnew
   rw [h',Ou,Oh,<- hl]
   rw [Oh] at hlen
   omega
  refine go _ (Qo Sm ⟨_,e,rfl⟩ U2 (U0 _ _) (Zlz l its.toArray n dd sl t k (by omega) h1 hem hz' hs) ⟨e,?_⟩)
  rw [hnew]
  exact ⟨.ref _,_,I.laid (t':=s.toks) (o:=.tup (Oy k.toNat xs).flatten) (fun b ob q=>Ot _ q) (Oq _) ⟨hlen,_,r.rep k.toNat,⟨_,O2 _ rfl,rfl,_,rfl⟩⟩,rfl,q _ _ (Same.upd I.fresh) (SqT.of Ag)⟩
theorem Zvw {K:On}{l:Addr}{k:Int}{xs:List V}{H:Hp}{Q:VK}(hq:SqT K H l xs)(hne:xs≠[])(h0:0<=k)(h1:k < 2 ^ 62)(hz:(xs.length:Int) * k<=1000)(h:∀ r H',Same H H'->SqT K H' r (Oy k.toNat xs).flatten->Q (.ref r) H'):Zjc K (.ref l) (.int k) H Q:=⟨l,k,xs,rfl,rfl,hq,hne,h0,h1,hz,h⟩
open PySem.Builtin PySem.Builtin.Str in
end
section
variable {prog:Program}{w:World}{A:Around}{E:Value->Shared->Prop}{s:Shared}
end
section
variable {X:Cx}
end
section
variable {X:Cx}{k:Nat}{x:Str}{ps:List Str}{sp:Sp}{p pos:Pos}
end
structure Co (CX:B2)(P:Program)(w:World)(K:On)(mg:Str->Option Value)(base:Heap)(k:Nat)(C:Addr)(m:Str)(ps:List Str)(sp:Sp):Prop where
 ex:∃(g:Addr)(fd:FuncData),FnOk P w K mg base CX k g fd ps sp/\Cls K C/\Meth K C m g/\Binds K fd ps []
structure Ee (CX:B2)(P:Program)(w:World)(K:On)(mg:Str->Option Value)(base:Heap)(k:Nat)(x:Str)(C:Addr)(ps:List Str)(sp:Sp):Prop where
 ex:∃(f:Addr)(fd:FuncData),FnOk P w K mg base CX k f fd ps sp/\Mk K C f/\mg x=some (.ref C)/\Binds K fd ps []
structure Gk (K:On)(mg:Str->Option Value)(x:Str)(C:Addr):Prop where
 makes:P8 K C=true
 init:Os K (.ref C) "__init__" = some (some (.builtin "object.__init__"))
 kp:O4 K (.ref C)=true
 at_:mg x=some (.ref C)
noncomputable def Zf1 (CX:B2)(P:Program)(w:World)(K:On)(mg:Str->Option Value)(base:Heap)(k:Nat)(m:Str)(ps:List Str)(E:XK)(ta:TE)(t:TA):TE:=fun σ H Q=>ta σ H fun x H1=>∃ a C dx fs sp,x=.ref a/\H1 a=some (.ins C dx fs)/\fs.lookup m=none/\Co CX P w K mg base k C m ps sp /\
 t σ H1 fun vs H2=>sp (.ref a::vs) H2 Q E
noncomputable def Jz (C:Addr)(sp:Sp)(E:XK)(t:TA):TE:=fun σ H Q=>t σ H fun vs H1=>∀ x dx,H1 x=none->H1 dx=none->dx≠x->sp (.ref x::vs) (upd (upd H1 dx (.own x)) x (.ins C dx [])) (fun v H2=>v=.non/\Q (.ref x) H2) E
noncomputable def Zrn (C:Addr):TE:=fun σ H Q=>∀ x dx,H x=none->H dx=none->dx≠x->Q (.ref x) (upd (upd H dx (.own x)) x (.ins C dx []))
section
variable {X:Cx}{k:Nat}{x m:Str}{ps:List Str}{sp:Sp}{E:XK}{C:Addr}{p pos apos:Pos}{e o:Expr}{es:List Expr}{ta:TE}{t:TA}{CX:B2}{P:Program}{w:World}{mg:Str->Option Value}{base:Heap}
theorem Gj (K:On)(CX:B2)(ps:List Str){pl:Sem Bool}(he:QE X o ta)(hr:Room k X.A)(hx:E7 CX X E)(ha:QA X (e::es) t)(hP:X.prog=P:=by rfl)(hw:X.w=w:=by rfl)(hK:X.K=K:=by rfl)(hmg:X.mg=mg:=by rfl)(hbs:X.base=base:=by rfl)
  (hst:starEach (e::es) X.env=(false,eval e X.env)::starEach es X.env:=by rfl) (hpl:(backTo pos (starEach es X.env)).any (·.1)=false:=by rfl)
  (ht:eval (.Call (.Attribute o m apos) (e::es) [] pos) X.env=(do
   let ov <- eval o X.env
   standAt apos.atName
   let (f,first) <- holding [ov] (getMethod ov m pl)
   callWith pos f first (backTo pos (starEach (e::es) X.env)) (backToKw pos (keywordEach [] X.env))):=by rfl) :
  QE X (.Call (.Attribute o m apos) (e::es) [] pos) (Zf1 CX P w K mg base k m ps E ta t):=by
 subst hP hw hK hmg hbs
 refine ⟨fun pins s σ H Q I h=>?_⟩
 refine PySem.W.methodCall_KW (pl:=pl) (Ak (he.run pins s σ H _ I h) fun u s1 zq=>?_) ht
 obtain ⟨x,H1,I1,rx,a,C,dx,fs,sp,ex,ea,l,M,q⟩:=zq
 obtain ⟨g,fd,F,c,hm,hb⟩:=M.ex
 subst ex
 obtain rfl:u=Value.ref a:=rx
 refine Zig I1 ea c hm l ?_
 refine Sv (first:=[.ref a]) (h₀:=X.base) I.ok.mod.kin hm.kp (Ak (ha.run pos pins s1 σ H1 _ I1 q) fun us s2 zq=>?_) hst hpl
 obtain ⟨vs,H2,I2,r,q2⟩:=zq
 refine ⟨I2.kIn,?_⟩
 exact Zhb (us:=.ref a::us) (vs:=.ref a::vs) (dvs:=[]) F hr hb .nil hx I2 (.cons rfl r) (by rw [Qt];exact q2)
theorem Zg4 (K:On)(ps:List Str){pl:Sem Bool}(he:∀ XE,QE (X.to X.A X.calm XE) o ta)(hr:Room k X.A)(ha:∀ XE,QA (X.to X.A X.calm XE) (e::es) t)(hP:X.prog=P:=by rfl)(hw:X.w=w:=by rfl)(hK:X.K=K:=by rfl)(hmg:X.mg=mg:=by rfl)(hbs:X.base=base:=by rfl)
  (hst:starEach (e::es) X.env=(false,eval e X.env)::starEach es X.env:=by rfl) (hpl:(backTo pos (starEach es X.env)).any (·.1)=false:=by rfl)
  (ht:eval (.Call (.Attribute o m apos) (e::es) [] pos) X.env=(do
   let ov <- eval o X.env
   standAt apos.atName
   let (f,first) <- holding [ov] (getMethod ov m pl)
   callWith pos f first (backTo pos (starEach (e::es) X.env)) (backToKw pos (keywordEach [] X.env))):=by rfl) :
  QX X (.Call (.Attribute o m apos) (e::es) [] pos) (fun σ H Q E=>Zf1 (A4 P w) P w K mg base k m ps E ta t σ H Q):=by
 subst hP hw hK hmg hbs
 refine ⟨fun pins s σ H Q E I h=>?_⟩
 refine PySem.W.methodCall_KW (pl:=pl) (Ak ((he (XP X pins σ E)).run pins s σ H _ (I.to rfl I.ok.hd) h) fun u s1 zq=>?_) ht
 obtain ⟨x,H1,I1,rx,a,C,dx,fs,sp,ex,ea,l,M,q⟩:=zq
 obtain ⟨g,fd,F,c,hm,hb⟩:=M.ex
 subst ex
 obtain rfl:u=Value.ref a:=rx
 refine Zig (I1.back I.ok) ea c hm l ?_
 refine Sv (first:=[.ref a]) (h₀:=X.base) I.ok.mod.kin hm.kp (Ak ((ha (XP X pins σ E)).run pos pins s1 σ H1 _ I1 q) fun us s2 zq=>?_) hst hpl
 obtain ⟨vs,H2,I2,r,q2⟩:=zq
 refine ⟨(I2.back I.ok).kIn,?_⟩
 have I2:=I2.back I.ok
 have r2:Vals (.ref a::vs) (.ref a::us):=.cons rfl r
 have hl:(Value.ref a::us).length=ps.length:=by rw [<- r2.length];exact F.len _ _ _ _ q2
 have hb':=hb s2 (.ref a::us) I2.kIn (by simpa using hl)
 rw [Qt] at hb'
 refine Rr (Rp (F.run X.A X.stack s2 H2 ⟨.ref a::us,[]⟩ (.ref a::us) (.ref a::vs) Q E hr I2.env0 hb' r2 q2) fun r s' hq=>?_)
 cases r with
 | error e=>exact ⟨H2,s2,I2,hq⟩
 | ok fl =>
  cases fl with
  | ret u=>exact I2.after hq
  | next=>exact O8 hq
  | brk=>exact O8 hq
  | cont=>exact O8 hq
theorem G5 (M:Ee CX X.prog X.w X.K X.mg X.base k x C ps sp)(hr:Room (k+1) X.A)(hx:E7 CX X E)(ha:QA X (e::es) t)(hg:Gl X x:=by rfl)(hdb:(x == ("__debug__" : Str))=false:=by decide)
  (he:starEach (e::es) X.env=(false,eval e X.env)::starEach es X.env:=by rfl) (hpl:(backTo pos (starEach es X.env)).any (·.1)=false:=by rfl):QE X (.Call (.Name x p) (e::es) [] pos) (Jz C sp E t):=by
 obtain ⟨f,fd,F,mk,hm,hb⟩:=M.ex
 refine ⟨fun pins s σ H Q I h=>?_⟩
 refine Rj (Fp I hg hm ?_ hdb)
 refine Sv (h₀:=X.base) I.ok.mod.kin mk.kp (Ak (ha.run pos pins s σ H _ I h) fun us s1 zq=>?_) he hpl
 obtain ⟨vs,H1,I1,r,q⟩:=zq
 refine ⟨I1.kIn,?_⟩
 exact Zkx (dvs:=[]) mk F hr hb .nil hx I1 r (fun x dx h1 h2 h3=>by rw [Qt];exact q x dx h1 h2 h3)
theorem Jv (M:Gk X.K X.mg x C)(hg:Gl X x:=by rfl)(hdb:(x == ("__debug__" : Str))=false:=by decide):QE X (.Call (.Name x p) [] [] pos) (Zrn C):=by
 refine ⟨fun pins s σ H Q I h=>?_⟩
 refine Rj (Fp I hg M.at_ ?_ hdb)
 refine PySem.W.callWith_K0 I.kIn M.kp ?_
 have hq:=h (s.heap.objs.size+1) s.heap.objs.size (I.hok.fresh (Us _)) (I.hok.fresh (Oq _)) (O5 (Tb _))
 have I2:=Inv.made (C:=C) I
 have Y:=Vm (M:=model X.prog X.w) I.kIn M.makes
 refine Rr (Znc I.kIn M.makes M.init (fun self=>Qu.of_pure (PySem.W.oi_bind self)) ?_)
 have t1:Qu (model X.prog X.w) ((s.heap.push P7).push (Qf C s.heap.objs.size)) (typeOf (.ref (s.heap.objs.size+1))) (.ref C):=(Qu.ld (by have:=O2 (s.heap.push P7) (o:=Qf C s.heap.objs.size) rfl;rw [P9] at this;exact this)).andThen .now
 have t2:Qu (model X.prog X.w) ((s.heap.push P7).push (Qf C s.heap.objs.size)) (isInstance (.ref (s.heap.objs.size+1)) (.type "object")) true:=t1.andThen (Y.top.keeps fun b o e=>Ot _ (Ot _ e))
 refine codeAny_call_builtin PySem.W.oi_plain PySem.W.entry_oi (@PySem.W.check_slot (model X.prog X.w) _ _ _ "object.__init__" "object" "__init__" (.ref (s.heap.objs.size+1)) [] [] _ PySem.W.oi_kind PySem.W.oi_split t2 (PySem.W.oi_args (.ref (s.heap.objs.size+1))) ?_)
 rw [PySem.W.oi_run]
 exact Op (And.intro rfl ⟨V.ref (s.heap.objs.size+1),_,I2,rfl,hq⟩)
end
section
variable {X:Cx}{e o value:Expr}{f:Str}{pos pos':Pos}{ta tv:TE}{pins:List (Addr×Obj)}{σ:St}{H:Hp}{s:Shared}
theorem Eo (K:On)(he:QE X e ta)(hb:attributeBase e f X.env (eval e X.env)=eval e X.env:=by rfl)(hK:X.K=K:=by rfl):QE X (.Attribute e f pos) (Zb1 K ta f):=by subst hK;exact Zt0 he hb
theorem Hf (K:On)(ha:QE X o ta)(hv:QE X value tv)(hs:swapsWith value (some (.Attribute o f pos')) pos.line X.env=pure false:=by rfl)(hK:X.K=K:=by rfl):QS X (.Assign [.Attribute o f pos'] value pos) (Zbc K ta tv f):=by subst hK;exact Zqv ha hv hs
noncomputable def rIsI (K:On):List V->Hp->VK->Prop:=fun xs H Q=>∃ x C t b,xs=[x,.ref C]/\Ct K H x t/\O0 K t (.ref C)=some b/\Q (.bl b) H
theorem Zh8 (K:On)(hK:X.K=K:=by rfl):B4 X (.builtin "isinstance") (rIsI K):=by
 subst hK
 intro pins s σ H xs us Q I r h
 obtain ⟨x,C,t,b,rfl,ty,e,q⟩:=h
 obtain ⟨u,v,rfl,ru,rv⟩:=r.two
 obtain rfl:v=Value.ref C:=rv
 cases ty with
 | ty ty=>exact Zfg I ru ty e fun tk=>⟨.bl b,H,I.tok tk,rfl,q⟩
 | tup hq =>
  cases ru
  obtain ⟨its,_,p,_⟩:=I.tuple hq
  obtain ⟨o,h1,h2,_⟩:=p
  exact Po Ve I.kIn ⟨o,h1,h2⟩ e (fun z=>nomatch z) fun tk=>⟨.bl b,H,I.tok tk,rfl,q⟩
 | lst hq =>
  cases ru
  obtain ⟨its,_,p,_⟩:=I.list hq
  obtain ⟨o,n,h1,h2,_⟩:=p
  exact Po T8 I.kIn ⟨o,h1,h2⟩ e (fun z=>nomatch z) fun tk=>⟨.bl b,H,I.tok tk,rfl,q⟩
theorem Zgj {K:On}{x:V}{C:Addr}{t:Value}{b:Bool}{Q:VK}(ty:Ct K H x t)(e:O0 K t (.ref C)=some b)(h:Q (.bl b) H):rIsI K [x,.ref C] H Q:=⟨x,C,t,b,rfl,ty,e,h⟩
end
section
variable {X:Cx}{pins:List (Addr×Obj)}{σ:St}{H:Hp}{s:Shared}
end
structure FunD (K:On)(x qual:Str)(st:Stmt)(T f:Addr)(fd:FuncData):Prop where
 ex:∃ oc od kV doc pm an cdv ct osl,fd=O6 x qual (Bm st) (Be st) (Aj st) (.ref T) kV doc pm an cdv ct/\K.lookup f=some ⟨oc,od,.func (O6 x qual (Bm st) (Be st) (Aj st) (.ref T) kV doc pm an cdv ct),osl⟩/\Q5 K cdv qual=true
 kp:O4 K (.ref f)=true
section
variable {P:Program}{w:World}{K:On}{mg:Str->Option Value}{base:Heap}
theorem FunD.okx {x qual:Str}{st:Stmt}{T f:Addr}{fd:FuncData}{N ps:List Str}{k:Nat}{sp:Sp}(F:FunD K x qual st T f fd)(S:Aw N ps (Aj st))(len:∀ vs H Q E,sp vs H Q E->vs.length=ps.length)
  (hbody:∀(cdv:Value)(A:Around)(outer:List Env)(s:Shared)(H:Hp)(vs:List V)(Q:VK)(E:XK),Room k (A.deeper (envOfC qual (Aj st) s.heap.objs.size f cdv))->sp vs H Q E ->
   ∃ t,Dq (Cp (A4 P w) P w K mg base N qual (Aj st) f cdv A outer s H E) (Be st) t/\t { nx:=fun _ H'=>Q .non H',rt:=Q } (start N vs) H):FnOk P w K mg base (A4 P w) (k+1) f fd ps sp:=by
 obtain ⟨oc,od,kV,doc,pm,an,cdv,ct,osl,rfl,lk,hcd⟩:=F.ex
 refine Zbh lk hcd S len fun A outer s H vs Q E hr hsp=>?_
 obtain ⟨t,h,q⟩:=hbody cdv A outer s H vs Q E hr hsp
 exact ⟨t,h.run,q⟩
theorem Za0 {x qual:Str}{st:Stmt}{T f:Addr}{oc:Value}{od an:Option Addr}{osl:Array (Option Value)}{kV doc pm cdv ct:Value}(l:K.lookup f=some ⟨oc,od,.func (O6 x qual (Bm st) (Be st) (Aj st) (.ref T) kV doc pm an cdv ct),osl⟩)
  (c:Q5 K cdv qual=true) (k:O4 K (.ref f)=true):FunD K x qual st T f (O6 x qual (Bm st) (Be st) (Aj st) (.ref T) kV doc pm an cdv ct):=⟨⟨oc,od,kV,doc,pm,an,cdv,ct,osl,rfl,l,c⟩,k⟩
end
structure QK (X:Cx)(kws:List Keyword)(t:TA):Prop where
 run:PK X kws t
structure B5 (CX:B2)(P:Program)(w:World)(K:On)(mg:Str->Option Value)(base:Heap)(k:Nat)(x:Str)(C:Addr)(ps ks:List Str)(gV:List V->List V->List V)(sp:Sp):Prop where
 ex:∃(f:Addr)(fd:FuncData)(g:List Value->List Value->List Value),FnOk P w K mg base CX k f fd ps sp/\Mk K C f/\mg x=some (.ref C)/\El K fd ps ks g gV
noncomputable def Eu (C:Addr)(gV:List V->List V->List V)(sp:Sp)(E:XK)(t tk:TA):TE:=fun σ H Q=>t σ H fun vs H1=>tk σ H1 fun zs H2=>∀ x dx,H2 x=none->H2 dx=none->dx≠x->sp (gV (.ref x::vs) zs) (upd (upd H2 dx (.own x)) x (.ins C dx [])) (fun v H3=>v=.non/\Q (.ref x) H3) E
section
variable {X:Cx}{k:Nat}{x:Str}{ps ks:List Str}{gV:List V->List V->List V}{sp:Sp}{E:XK}{C:Addr}{p pos kpos:Pos}{e:Expr}{es:List Expr}{kws:List Keyword}{te:TE}{t tk:TA}{CX:B2}{nm:Option Str}{f:Addr}{fd:FuncData}{g:List Value->List Value->List Value}
theorem Fg:QK X [] C2:=⟨Zvj⟩
theorem Zdl (ha:QE X e te)(hr:QK X kws t):QK X (⟨nm,e,kpos⟩::kws) (B9 te t):=⟨Zra ha.run hr.run⟩
theorem Ze1 {pins:List (Addr×Obj)}{σ:St}{H:Hp}{s:Shared}{Q:VK}{us ws:List Value}{vs zs:List V}{XE:Value->Shared->Prop}(M:Mk X.K C f)(F:FnOk X.prog X.w X.K X.mg X.base CX k f fd ps sp)(hr:Room (k+1) X.A)(hb:El X.K fd ps ks g gV)
  (I:Inv X pins σ H s) (r:Vals vs us) (rz:Vals zs ws)
  (hx:∀ H0 s0 ev s',Inv X pins σ H0 s0->CX X.stack H0 s0 E ev s'->XE ev s')
  (h:∀ x dx,H x=none->H dx=none->dx≠x->sp (gV (.ref x::vs) zs) (upd (upd H dx (.own x)) x (.ins C dx [])) (fun v H2=>v=.non/\Q (.ref x) H2) E) :
  wpAny (model X.prog X.w) X.A (call (.ref C) us (ks.zip ws)) (EP X pins σ Q) XE s:=by
 have hq:=h (s.heap.objs.size+1) s.heap.objs.size (I.hok.fresh (Us _)) (I.hok.fresh (Oq _)) (O5 (Tb _))
 have I2:=Inv.made (C:=C) I
 have r1:Vals (V.ref (s.heap.objs.size+1)::vs) (Value.ref (s.heap.objs.size+1)::us):=.cons rfl r
 have r2:=hb.rel r1 rz
 have hl:(g (Value.ref (s.heap.objs.size+1)::us) ws).length=ps.length:=by
  rw [<- r2.length]
  exact F.len _ _ _ _ hq
 have hb':=hb.to _ (Value.ref (s.heap.objs.size+1)::us) ws I2.kIn hl
 refine Rr (Zex (f:=f) I.kIn M.makes M.init (beq_iff_eq.mp M.fn) (Rp (F.run _ X.stack _ _ ⟨Value.ref (s.heap.objs.size+1)::us,ks.zip ws⟩ (g (Value.ref (s.heap.objs.size+1)::us) ws) _ _ E (hr.make C us (ks.zip ws))
  (I2.env0.make C us (ks.zip ws)) hb' r2 hq) fun r s' hq'=>?_))
 cases r with
 | error e=>exact hx _ _ _ _ I2 hq'
 | ok fl =>
  cases fl with
  | ret u =>
   obtain ⟨v,H',I3,rv,ev,q3⟩:=I2.after hq'
   subst ev
   exact ⟨rv,⟨V.ref (s.heap.objs.size+1),H',I3,rfl,q3⟩⟩
  | next=>exact O8 hq'
  | brk=>exact O8 hq'
  | cont=>exact O8 hq'
theorem Gh (M:B5 CX X.prog X.w X.K X.mg X.base k x C ps ks gV sp)(hr:Room (k+1) X.A)(hx:E7 CX X E)(ha:QA X (e::es) t)(hkw:QK X kws tk)(hg:Gl X x:=by rfl)(hdb:(x == ("__debug__" : Str))=false:=by decide)
  (hall:(backToKw pos (keywordEach kws X.env)).all (·.1.isSome)=true:=by rfl) (hks:(backToKw pos (keywordEach kws X.env)).filterMap (·.1)=ks:=by rfl)
  (he:starEach (e::es) X.env=(false,eval e X.env)::starEach es X.env:=by rfl)
  (hpl:((backTo pos (starEach (e::es) X.env)).any (·.1) || (backToKw pos (keywordEach kws X.env)).any (·.1.isNone))=false:=by rfl):QE X (.Call (.Name x p) (e::es) kws pos) (Eu C gV sp E t tk):=by
 obtain ⟨f,fd,g,F,mk,hm,hb⟩:=M.ex
 refine ⟨fun pins s σ H Q I h=>?_⟩
 refine Rj (Fp I hg hm ?_ hdb)
 refine PySem.W.callWith_KW (h₀:=X.base) I.ok.mod.kin mk.kp hall (Ak (ha.run pos pins s σ H _ I h) fun us s1 zq=>?_) hpl he
 obtain ⟨vs,H1,I1,r,q⟩:=zq
 refine Ak (hkw.run pos pins s1 σ H1 _ I1 q) fun ws s2 zq=>?_
 obtain ⟨zs,H2,I2,rz,q2⟩:=zq
 refine ⟨I2.kIn,?_⟩
 rw [hks]
 exact Ze1 mk F hr hb I2 r rz (fun H0 s0 ev s' I0 c=>hx pins σ H0 s0 ev s' I0 c) q2
theorem Zhp (M:B5 CX X.prog X.w X.K X.mg X.base k x C ps ks gV sp)(hr:Room (k+1) X.A)(hx:E7 CX X E)(hkw:QK X kws tk)(hg:Gl X x:=by rfl)(hdb:(x == ("__debug__" : Str))=false:=by decide)
  (hall:(backToKw pos (keywordEach kws X.env)).all (·.1.isSome)=true:=by rfl) (hks:(backToKw pos (keywordEach kws X.env)).filterMap (·.1)=ks:=by rfl)
  (hpl:((backTo pos (starEach [] X.env)).any (·.1) || (backToKw pos (keywordEach kws X.env)).any (·.1.isNone))=false:=by rfl):QE X (.Call (.Name x p) [] kws pos) (Eu C gV sp E C2 tk):=by
 obtain ⟨f,fd,g,F,mk,hm,hb⟩:=M.ex
 refine ⟨fun pins s σ H Q I h=>?_⟩
 refine Rj (Fp I hg hm ?_ hdb)
 refine PySem.W.callWith_KW0 (h₀:=X.base) I.ok.mod.kin mk.kp hall ?_ hpl
 refine Ak (hkw.run pos pins s σ H _ I h) fun ws s2 zq=>?_
 obtain ⟨zs,H2,I2,rz,q2⟩:=zq
 refine ⟨I2.kIn,?_⟩
 rw [hks]
 exact Ze1 (vs:=[]) mk F hr hb I2 .nil rz (fun H0 s0 ev s' I0 c=>hx pins σ H0 s0 ev s' I0 c) q2
end
section
variable {X:Cx}{pins:List (Addr×Obj)}{σ:St}{H:Hp}{s:Shared}
end
section
variable {κ:Type}[DecidableEq κ]
end
section
variable {P:Program}{w:World}{H:Hp}{h:Heap}{a:Addr}
end
section
variable {X:Cx}{pins:List (Addr×Obj)}{σ:St}{H:Hp}{s:Shared}{a:Addr}{y v:V}{u r:Value}{o:Option V}{A:Around}{E:Value->Shared->Prop}
end
section
variable {X:Cx}{pins:List (Addr×Obj)}{σ:St}{H:Hp}{s:Shared}{a:Addr}{kvs:List (Bx×V)}{k:Bx}{u:Value}{A:Around}{E:Value->Shared->Prop}
end
section
variable {X:Cx}{o i e value:Expr}{pos pos' tpos:Pos}{td ty tv:TE}
end
section
variable {X:Cx}{pos:Pos}
end
section
variable {X:Cx}{pins:List (Addr×Obj)}{σ:St}{H:Hp}{s:Shared}{a:Addr}{y d:V}{u r:Value}{o:Option V}{A:Around}{E:Value->Shared->Prop}
end
section
variable {X:Cx}{o e f:Expr}{apos cpos:Pos}{td ty tx:TE}
end
section
variable {X:Cx}{pins:List (Addr×Obj)}{σ:St}{H:Hp}{s:Shared}{a:Addr}{kvs:List (Bx×V)}{A:Around}{E:Value->Shared->Prop}
end
section
variable {X:Cx}{pins:List (Addr×Obj)}{σ:St}{H:Hp}{s:Shared}{a:Addr}{y:V}{u:Value}{A:Around}{E:Value->Shared->Prop}
end
end L2
namespace PySem
namespace F
end F
end PySem
namespace L2
open PySem PySem.Spec PyProof.Rows
section
variable {X:Cx}{pins:List (Addr×Obj)}{σ:St}{H:Hp}{s:Shared}{a:Addr}{y v:V}{u r:Value}{A:Around}{E:Value->Shared->Prop}
end
section
variable {X:Cx}{k:Nat}{x m f:Str}{ps:List Str}{sp:Sp}{E:XK}{C:Addr}{p pos pos' tpos apos:Pos}{e o i value:Expr}{es:List Expr}{ta tv td ty:TE}{t:TA}{CX:B2}{P:Program}{w:World}{mg:Str->Option Value}{base:Heap}{K:On}
end
end L2
namespace L2
open PySem
section
variable {K:On}{HB H H':Hp}{C:Addr}{kvs:List (List Bx×V)}{L:Ml}{S:MS}
end
section
variable {g:TG}{tt:TT}{te:TE}{σ0:St}{H1:Hp}{D:Addr}{Q:VK}
end
end L2
namespace L2
open PySem PySem.Spec PyProof.Rows
section
variable {X:Cx}
end
end L2
namespace L2
open PySem PySem.Spec PySem.Calls PySem.W PyProof.Rows
section
variable {X:Cx}
end
end L2
namespace L2
open PySem PySem.Spec PyProof.Rows
section
variable {X:Cx}{c n:Str}{np hpos pos:Pos}{body hbody:List Stmt}{b₀:Stmt}{tb:Ie}{th:TS}{i:Nat}{C:Addr}
end
section
variable {X:Cx}{o i e f k v value:Expr}{pos pos' apos cpos:Pos}{td ty tx tk tv:TE}
end
section
variable {X:Cx}{c n:Str}{np hpos pos:Pos}{body hbody:List Stmt}{b₀:Stmt}{tb:Ie}{th:TS}{i:Nat}{C:Addr}{rest:List ExceptHandler}{tr:THd}
end
section
variable {X:Cx}
end
section
variable {X:Cx}
end
section
variable {g:TG}{tt:TT}{te:TE}{σ0:St}{H1:Hp}{D:Addr}{Q:VK}
end
section
variable {X:Cx}
end
theorem s_isB {x:V}{b:Bool}{H:Hp}{Q:VK}(h:Q (.bl (decide (x=.bl b))) H):rIsB x (.bl b) H Q:=⟨b,rfl,h⟩
section
variable {X:Cx}
end
section
variable {prog:Program}{w:World}{A:Around}{E:Value->Shared->Prop}{s:Shared}
end
section
variable {X:Cx}{tg:Expr}
end
section
variable {X:Cx}{c n:Str}{np hpos pos:Pos}{body hbody:List Stmt}{b₀:Stmt}{tb:Ie}{th:Addr->TS}{i:Nat}{C:Addr}
end
section
variable {P:Program}{w:World}{K:On}{mg:Str->Option Value}{base:Heap}
end
section
variable {X:Cx}{k:Nat}{x:Str}{ps:List Str}{sp:Addr->Sp}{p pos:Pos}{e:Expr}{es:List Expr}{t:TA}
end
section
variable {X:Cx}{tg:Expr}
end
section
variable {X:Cx}
end
section
variable {X:Cx}
end
section
variable {X:Cx}{pins:List (Addr×Obj)}{σ:St}{H:Hp}{s:Shared}
end
section
variable {X:Cx}
open Classical in
end
section
variable {X:Cx}{pins:List (Addr×Obj)}{σ:St}{H:Hp}{s:Shared}
end
section
variable {X:Cx}
end
end L2
namespace PySem
open PyProof.Rows
section
variable {prog:Program}{w:World}{A:Around}{E:Value->Shared->Prop}{s:Shared}
theorem Zkc (r:Addr)(a b c:Int)(t u v:Tok)(hc0:¬(!(Pg a && Pg b && Pg c && Pg (-c) && Pg (a - c) && Pg (Qh a b c)))=true) :
  Meets (Builtin.«range.__reversed__» ⟨[.ref r],[]⟩) (fun _ R s=>s.heap.get? r=some { cls:=.type "range",dict:=none,data:=.fields #[.int a t,.int b u,.int c v],slots:=#[] }/\R (.ok (.ret (Value.ref s.heap.objs.size))) { s with heap:=s.heap.push { cls:=Value.type (if (Pg a && Pg b && Pg c && Pg (-c) && Pg (a - c) && Pg (Qh a b c))=true then "range_iterator" else "longrange_iterator"),data:=Data.fields #[rawInt (a+(Qh a b c - 1) * c),rawInt (Qh a b c),rawInt (-c)] },toks:=s.toks }) :=
 .of_wp fun prog w A R s h=>by obtain ⟨hp,g,d,tk,os⟩:=s;obtain ⟨hl,h⟩:=h;wp_walk;exact ⟨_,rfl,h⟩
theorem Zi5 (n:Nat):Qh 0 (n:Nat) 1=(n:Nat):=by
 unfold Qh
 rw [if_pos (by decide)]
 split <;> omega
theorem Zmn (n:Nat)(hn:n<=1000000):(Pg 0 && Pg (n:Nat) && Pg 1 && Pg (-1) && Pg (0 - 1) && Pg (Qh 0 (n:Nat) 1))=true:=by
 rw [Zi5]
 simp only [Pg,Pt,decide_eq_true_eq]
 omega
theorem Zs7 {r:Addr}{n:Nat}{Q:Value->Shared->Prop}{t u v:Tok}(hr:IsRange s.heap r 0 (n:Nat) 1 t u v)(hn:n<=1000000)
  (h:Q (.ref s.heap.objs.size) { s with heap:=s.heap.push { cls:=.type "range_iterator",data:=.fields #[rawInt ((n:Int) - 1),rawInt (n:Nat),rawInt (-1)] } }):wpAny (model prog w) A (call (.builtin "range.__reversed__") [.ref r]) Q E s:=by
 have f:=Zmn n hn
 refine Qo U7 (show s.TypeIs (.ref r) "range" from ⟨_,hr,rfl⟩) F.entry_range_reversed (F.args_range_reversed_1 _) (Zkc r 0 (n:Nat) 1 t u v (by rw [f];decide)) ⟨hr,?_⟩
 rw [f,if_pos rfl,Zi5,show (0:Int)+((n:Int) - 1) * 1=(n:Int) - 1 by omega]
 exact h
theorem Zrt:isSubtype (.type "range_iterator") (.type "reversed")=pure false:=by rw [isSubtype_type];kernel_rfl
theorem Zl8 {r:Addr}{n:Nat}{Q₁:Value->Shared->Prop}{t u v:Tok}(hr:IsRange s.heap r 0 (n:Nat) 1 t u v)(hn:n<=1000000)
  (h:Q₁ (.ref s.heap.objs.size) { s with heap:=s.heap.push { cls:=.type "range_iterator",data:=.fields #[rawInt ((n:Int) - 1),rawInt (n:Nat),rawInt (-1)] } }) :
  codeAny (model prog w) A (.call (.builtin "reversed.__new__") ⟨[.type "reversed",.ref r],[]⟩) (wants Q₁ E) s:=by
 refine codeAny_of_tree ?_
 show wpAny _ A.in1 (do checkBuiltinCall "reversed.__new__" ⟨[.type "reversed",.ref r],[]⟩;again (.builtin "reversed.__new__" ⟨[.type "reversed",.ref r],[]⟩)) _ _ s
 refine Oo (Sg (F.newCall_reversed_1 _) (Op ⟨Sd F.plain_reversed_new _,Ti F.entry_reversed_new ?_⟩))
 rw [Sr F.plain_reversed_new _]
 unfold Builtin.«reversed.__new__»
 refine Oo (Sg (newClass_reversed _) ?_)
 try dsimp only
 refine Oo (Sg (a:=()) (by first | rfl | kernel_rfl) ?_)
 refine Oo (Sg (a:=()) (by first | rfl | kernel_rfl) ?_)
 try dsimp only
 refine Oo (Th (show s.TypeIs (.ref r) "range" from ⟨_,hr,rfl⟩) U7.lookup ?_)
 try dsimp only
 refine Oo (Sg (U7.bind _) ?_)
 try dsimp only
 first
 | rw [if_neg (show ¬ ((Value.builtin "range.__reversed__" == Value.none)=true) from Ov)]
 | (show wpAny _ _ (if (Value.builtin "range.__reversed__" == Value.none)=true then _ else _) _ _ _;rw [if_neg (show ¬ ((Value.builtin "range.__reversed__" == Value.none)=true) from Ov)])
 refine Oo (Sh ?_)
 refine Oo (m:=runValue (.call (.builtin "range.__reversed__") ⟨[.ref r],[]⟩)) (show wpAny _ _ (call (.builtin "range.__reversed__") [.ref r]) _ _ _ from Zs7 hr hn ?_)
 first
 | exact Op h
 | exact Oo (Op (Op h))
theorem Zof {r:Addr}{n:Nat}{Q:Value->Shared->Prop}{t u v:Tok}(hr:IsRange s.heap r 0 (n:Nat) 1 t u v)(hn:n<=1000000)
  (h:Q (.ref s.heap.objs.size) { s with heap:=s.heap.push { cls:=.type "range_iterator",data:=.fields #[rawInt ((n:Int) - 1),rawInt (n:Nat),rawInt (-1)] } }):wpAny (model prog w) A (call (.type "reversed") [.ref r]) Q E s:=by
 refine callType_other (U := "range_iterator") (Q₁:=fun obj s₁=>obj=.ref s.heap.objs.size/\s₁={ s with heap:=s.heap.push { cls:=.type "range_iterator",data:=.fields #[rawInt ((n:Int) - 1),rawInt (n:Nat),rawInt (-1)] } }) (by decide +kernel) F.create_reversed ⟨_,_,F.mro_reversed⟩ F.made_reversed Zrt (F.typeCall_reversed_1 _) (Zl8 hr hn ⟨rfl,rfl⟩) ?_
 rintro obj s₁ ⟨rfl,rfl⟩
 exact ⟨⟨_,O2 _ rfl,rfl⟩,h⟩
end
end PySem
namespace L2
open PySem PySem.Spec PyProof.Rows
section
variable {X:Cx}{tg:Expr}
noncomputable def Zh1 (ta:TA):TI:=fun σ H R=>ta σ H fun vs H1=>∃ n:Nat,vs=[.int (n:Nat)]/\n<=1000/\R (G0 ((n:Int) - 1) n) H1
theorem Zu1 {e:Expr}{ta:TA}{p p2 pos pos2:Pos}(hg:Gl X "reversed")(hm:X.mg "reversed" = none)(hg2:Gl X "range")(hm2:X.mg "range" = none)(ha:QA X [e] ta)
  (hs:starEach [.Call (.Name "range" p2) [e] [] pos2] X.env=[(false,eval (.Call (.Name "range" p2) [e] [] pos2) X.env)]:=by rfl) (hs2:starEach [e] X.env=[(false,eval e X.env)]:=by rfl) :
  QI X tg (.Call (.Name "reversed" p) [.Call (.Name "range" p2) [e] [] pos2] [] pos) (Zh1 ta):=by
 refine ⟨fun pins s σ H R I h=>?_⟩
 refine Call_ (Ed I hg hm Zcl (Qp ?_ hs rfl))
 rw [hs]
 show wpAny _ _ (spliced ((false,eval (.Call (.Name "range" p2) [e] [] pos2) X.env)::[])) _ _ s
 refine T6 ?_
 refine Call_ (Ed I hg2 hm2 boot_range (Qp (Ak (ha.run pos2 pins s σ H _ I h) fun us s1 zq=>?_) hs2 rfl))
 obtain ⟨vs,H1,I1,r1,q1⟩:=zq
 obtain ⟨n,e1,hn,q⟩:=q1
 subst e1
 cases r1 with
 | cons r rr =>
  cases rr
  obtain ⟨t,rfl⟩:=r
  refine call_range_1 ?_
  refine T9 ?_
  have I2:Inv X pins σ H1 { s1 with heap:=s1.heap.push { cls:=.type "range",data:=.fields #[.int 0 s1.toks,.int (n:Nat) t,.int 1 (s1.toks+1)] },toks:=s1.toks+1+1 }:=I1.kept fun b o e=>Ot _ e
  refine Zof (n:=n) (IsRange.new ..) (by omega) ?_
  have st0:IsRangeIter ((s1.heap.push { cls:=.type "range",data:=.fields #[.int 0 s1.toks,.int (n:Nat) t,.int 1 (s1.toks+1)] }).push { cls:=.type "range_iterator",data:=.fields #[rawInt ((n:Int) - 1),rawInt (n:Nat),rawInt (-1)] }) (s1.heap.push { cls:=.type "range",data:=.fields #[.int 0 s1.toks,.int (n:Nat) t,.int 1 (s1.toks+1)] }).objs.size ((n:Int) - 1+((0:Nat):Int) * (-1)) ((n:Int) - ((0:Nat):Int)) (-1):=by
   have e1:(n:Int) - 1+((0:Nat):Int) * (-1)=(n:Int) - 1:=by simp
   have e2:(n:Int) - ((0:Nat):Int)=(n:Int):=by simp
   rw [e1,e2]
   exact O2 _ rfl
  refine U3 st0 ?_
  refine ⟨(s1.heap.push { cls:=.type "range",data:=.fields #[.int 0 s1.toks,.int (n:Nat) t,.int 1 (s1.toks+1)] }).objs.size,[(s1.heap.push { cls:=.type "range",data:=.fields #[.int 0 s1.toks,.int (n:Nat) t,.int 1 (s1.toks+1)] }).objs.size],_,_,H1,rfl,I2.kept (t':=s1.toks+1+1) fun b o e=>Ot _ e,Zff _ ((n:Int) - 1) n,st0,fun b hb=>?_,q⟩
  have e:b=(s1.heap.push { cls:=.type "range",data:=.fields #[.int 0 s1.toks,.int (n:Nat) t,.int 1 (s1.toks+1)] }).objs.size:=by simpa using hb
  subst e
  exact I2.fpOk (Oq _) (I2.hok.fresh (Oq _))
theorem Zu7 {ta:TA}{σ:St}{H:Hp}{R:It->Hp->Prop}(h:ta σ H fun vs H1=>∃ n:Nat,vs=[.int (n:Nat)]/\n<=1000/\R (G0 ((n:Int) - 1) n) H1):Zh1 ta σ H R:=h
end
section
variable {X:Cx}
noncomputable def Zsx:List V->Hp->VK->Prop:=fun xs H Q=>∃ i j,xs=[.int i,.int j]/\(0:Int) < j/\j<=10 ^ 18/\∀ p,H p=none->Q (.ref p) (upd H p (.tup [.int (i / j),.int (i % j)]))
theorem Zrj:B4 X (.builtin "divmod") Zsx:=by
 intro pins s σ H xs us Q I r h
 obtain ⟨i,j,rfl,h1,h2,q⟩:=h
 obtain ⟨u,w',rfl,⟨t,rfl⟩,⟨t',rfl⟩⟩:=Zi1 r
 have hl:j.natAbs.log2 < 9000:=by
  have h0:j.natAbs≠0:=by omega
  have hz:j.natAbs < 2 ^ 60:=by
   have:(10:Int) ^ 18 < 2 ^ 60:=by decide
   omega
  have:=(Nat.log2_lt h0).mpr hz
  omega
 refine divmod_int (by omega) ?_ (.inl (PyProof.noPylong_of_log2 hl))
 rw [Int.fdiv_eq_ediv_of_nonneg i (by omega),Int.fmod_eq_emod_of_nonneg i (by omega)]
 have hn:H s.heap.objs.size=none:=I.hok.fresh (Oq _)
 refine ⟨.ref s.heap.objs.size,_,?_,rfl,q _ hn⟩
 refine I.laid (fun b o e=>Ot _ e) (Oq _) ⟨by simp only [Ph,Vx];rw [Tq];decide,[.int (i / j) s.toks,.int (i % j) (s.toks+1)],.cons ⟨_,rfl⟩ (.cons ⟨_,rfl⟩ .nil),?_⟩
 exact ⟨_,O2 s.heap rfl,rfl,0,rfl⟩
end
section
variable {X:Cx}{pins:List (Addr×Obj)}{σ:St}{H:Hp}{s:Shared}
end
section
variable {X:Cx}
end
section
variable {X:Cx}{c e:Expr}{tc:TE}{t:TX}{pos:Pos}
end
section
variable {X:Cx}
end
end L2
namespace K10
open PySem L2
noncomputable def LET:Str := "abcdefghijklmnopqrstuvwxyz_"
noncomputable def DIG:Str := "0123456789"
noncomputable def W9:List Str:=["let", "in", "if", "then", "else", "fn", "rec", "yes", "no"]
noncomputable def W10:List Str:=["let", "if", "fn", "rec", "yes", "no", "?", "+", "-", "<"]
noncomputable def S4:List Str:=["?", "+", "-", "<"]
noncomputable def W3:List Str:=["in", "then", "else"]
noncomputable def BR:Str := "()"
noncomputable def Ca (t:Str)(ws:List Str):Bool:=ws.any fun a=>a == t
noncomputable def Bs (t s:Str):Bool:=t.cps.toList.all fun c=>decide (c∈s.cps.toList)
noncomputable def He (t:Str):Bool:=t.cps.toList.head? == some 48
noncomputable def Dv (c:Nat):Bool:=decide (33<=c) && decide (c<=126) && !decide (c∈BR.cps.toList)
noncomputable def Bg (t:Str):Bool:=decide (1<=t.length) && decide (t.length<=8) && Bs t LET && !Ca t W9
noncomputable def Gz (t:Str):Bool:=decide (1<=t.length) && decide (t.length<=18) && Bs t DIG && (t == ("0" : Str) || !He t)
noncomputable def Et (t:Str):Bool:=decide (1<=t.length) && decide (t.length<=60) && t.cps.toList.all Dv && !Bg t && !Ca t W10 && !Gz t
theorem Zae {t:Str}{ws:List Str}(h:Ca t ws=true):t∈ws:=by
 obtain ⟨a,ha,e⟩:=List.any_eq_true.mp h
 have e:a=t:=by simpa using e
 rw [<- e];exact ha
theorem Jc {t:Str}{ws:List Str}(h:¬ t∈ws):Ca t ws=false:=by
 cases e:Ca t ws
 ·rfl
 ·exact absurd (Zae e) h
theorem Zd6 {t:Str}{ws:List Str}(h:t∈ws):Ca t ws=true:=List.any_eq_true.mpr ⟨t,h,by simp⟩
end K10
namespace K19
open PySem L2
inductive Sub:Tr->List Nat->Prop where
 | nil (t:Tr):Sub t []
 | cons {w:Str} {n:Dt} {ts:List Tr} {j:Nat} {t:Tr} {r:List Nat} (h:ts[j]?=some t) (s:Sub t r):Sub (.mk w n ts) (j::r)
noncomputable def path:Tr->List Nat->List Tr
 | t,[]=>[t]
 | .mk w n ps,k::r=>.mk w n ps::(match ps[k]? with | some u=>path u r | none=>[])
theorem Nm {w:Str}{n:Dt}{ts:List Tr}{j:Nat}{t:Tr}{r:List Nat}(h:ts[j]?=some t):path (.mk w n ts) (j::r)=.mk w n ts::path t r:=by rw [path,h]
theorem Oa {t:Tr}{pl:List Nat}(s:Sub t pl):(path t pl).length=pl.length+1:=by
 induction s with
 | nil t=>cases t;rfl
 | cons h _ ih=>rw [Nm h,Ph,ih,Ph]
theorem Zd4 (t:Tr)(pl:List Nat):(path t pl)[0]?=some t:=by
 cases t with
 | mk w n ps=>cases pl <;> rfl
theorem Zeb {t:Tr}{pl:List Nat}(s:Sub t pl):∀(i:Nat)(k:Nat),pl[i]?=some k->∃ w n ps u,(path t pl)[i]?=some (.mk w n ps)/\ps[k]?=some u/\(path t pl)[i+1]?=some u:=by
 induction s with
 | nil t=>intro i k h;simp at h
 | @cons w n ts j u r h s ih =>
  intro i k hk
  rw [Nm h]
  cases i with
  | zero =>
   have:j=k:=by simpa using hk
   subst this
   exact ⟨w,n,ts,u,rfl,h,by simpa using Zd4 u r⟩
  | succ i =>
   obtain ⟨w',n',ps,u',a,b,c⟩:=ih i k (by simpa using hk)
   exact ⟨w',n',ps,u',by simpa using a,b,by simpa using c⟩
noncomputable def Bf:Tr->List Nat->Tr->Tr
 | _,[],f=>f
 | .mk w n ps,k::r,f=>match ps[k]? with
  | some u=>.mk w n (ps.set k (Bf u r f))
  | none=>.mk w n ps
theorem Fd {w:Str}{n:Dt}{ts:List Tr}{j:Nat}{t f:Tr}{r:List Nat}(h:ts[j]?=some t):Bf (.mk w n ts) (j::r) f=.mk w n (ts.set j (Bf t r f)):=by rw [Bf,h]
theorem Fb (t f:Tr):Bf t [] f=f:=by cases t;rfl
theorem Zgn {ts:List Tr}{j:Nat}{t u:Tr}(h:ts[j]?=some t):(ts.set j u)[j]?=some u:=by
 rw [Qy (Pa.mp h).1]
theorem Zjt {t f:Tr}{pl:List Nat}(s:Sub t pl):∀(m k:Nat)(w:Str)(n:Dt)(ps:List Tr)(u:Tr),pl[m]?=some k->(path t pl)[m]?=some (.mk w n ps)->(path t pl)[m+1]?=some u->Bf (.mk w n ps) (pl.drop m) f=.mk w n (ps.set k (Bf u (pl.drop (m+1)) f)):=by
 intro m k w n ps u hk hp hu
 obtain ⟨w',n',ps',u',a,b,c⟩:=Zeb s m k hk
 rw [hp] at a
 cases a
 rw [hu] at c
 cases c
 have hl:=(Pa.mp hk)
 obtain ⟨g,e⟩:=hl
 rw [Qq g,e,Fd b]
end K19
local macro_rules | `(tactic| walk_at "sc")=>`(tactic| exact ⟨rfl,rfl,rfl,by decide +kernel,rfl,by decide +kernel,by decide +kernel⟩)
namespace L2
open PySem PySem.Spec PyProof.Rows
theorem Ez:0<=sizeLine:=by decide
theorem Cu:1<=sizeLine:=by decide
theorem sz12:12<=sizeLine:=by decide
theorem Bl:2<=sizeLine:=by decide
theorem B0:3<=sizeLine:=by decide
theorem sz4:4<=sizeLine:=by decide
theorem sz5:5<=sizeLine:=by decide
theorem sz9:9<=sizeLine:=by decide
theorem RoomN.m {j k:Nat}{A:Around}(r:RoomN k A)(h:j<=k:=by decide):RoomN j A:=r.mono h
theorem Room.m {j k:Nat}{A:Around}(r:Room k A)(h:j<=k:=by decide):Room j A:=r.mono h
section
variable {X:Cx}{a b:Expr}{ta tb:TE}{pos:Pos}{K:On}
theorem Az (i:Nat){ps:List Str}{sc:Scope}{x:Str}{e:Expr}{te:TE}{pos':Pos}(S:Aw X.N ps sc)(he:QE X e te)(hi:X.N[i]?=some x:=by rfl)(hx:E6 X.env.scope x:=by exact Or.inl rfl)(hs:swapsWith e (some (.Name x pos')) pos.line X.env=pure false:=by rfl)(hf:X.fn x=true\/X.env.scope.names.lookup x=some .local:=by first | exact .inl rfl | exact .inr rfl | assumption):QS X (.Assign [.Name x pos'] e pos) (Fl te (Ft i)):=Zc6 S.nd hi hx he hs hf
theorem Ai (K:On)(ha:QE X a ta)(hb:QE X b tb)(hs:Zas b:=by exact fun _ _=>rfl)(hK:X.K=K:=by rfl):QE X (.Subscript a b pos) (Bv (Fz K) ta tb):=J9 (Zdr K hK) ha hb hs
end
end L2
namespace K24
theorem lz1 {α:Type}{vs:List α}(h:vs.length=1):∃ u,vs=[u]:=by
 cases vs with
 | nil=>cases h
 | cons u r=>cases R3 (Nat.succ.inj h);exact ⟨u,rfl⟩
theorem lz2 {α:Type}{vs:List α}(h:vs.length=2):∃ u v,vs=[u,v]:=by
 cases vs with
 | nil=>cases h
 | cons u r=>obtain ⟨v,rfl⟩:=lz1 (Nat.succ.inj h);exact ⟨u,v,rfl⟩
end K24
namespace K24
open PySem L2
noncomputable def top (i:Nat):Stmt:=R0.main.body.getD i (.Pass ⟨0,0,0,0⟩)
noncomputable abbrev Lg:Stmt:=top 12
noncomputable abbrev Mq:Stmt:=top 13
noncomputable abbrev Jo:Stmt:=top 14
noncomputable abbrev Lp:Stmt:=top 15
noncomputable abbrev Ki:Stmt:=top 16
noncomputable abbrev Ks:Stmt:=top 17
noncomputable abbrev Kj:Stmt:=top 18
noncomputable abbrev Mf:Stmt:=top 19
noncomputable abbrev Mb:Stmt:=top 20
noncomputable abbrev Jj:Stmt:=top 21
noncomputable abbrev Ju:Stmt:=top 22
noncomputable abbrev Lh:Stmt:=top 23
noncomputable abbrev Ke:Stmt:=top 25
noncomputable abbrev Mt:Stmt:=top 26
noncomputable abbrev Jt:Stmt:=top 27
noncomputable abbrev Mh:Stmt:=top 28
noncomputable abbrev Lf:Stmt:=top 29
noncomputable abbrev Kd:Stmt:=top 31
noncomputable abbrev J4:Stmt:=top 32
noncomputable abbrev A7 (i j:Nat):Stmt:=match top i with | .ClassDef _ _ _ b _ _ _ _ _ _ _=>b.getD j (.Pass ⟨0,0,0,0⟩) | s=>s
noncomputable abbrev Jq:Stmt:=A7 33 0
noncomputable abbrev Ky:Stmt:=A7 33 1
noncomputable abbrev Cg:Stmt:=A7 34 0
noncomputable abbrev Mp:Stmt:=A7 34 1
noncomputable abbrev Km:Stmt:=A7 34 2
noncomputable abbrev Lv:Stmt:=A7 35 0
noncomputable abbrev Le:Stmt:=A7 35 1
noncomputable abbrev Lj:Stmt:=A7 35 2
noncomputable abbrev Kc:Stmt:=A7 36 0
noncomputable abbrev L9:Stmt:=A7 36 1
noncomputable abbrev Ck:Stmt:=A7 37 0
noncomputable abbrev Mm:Stmt:=A7 37 1
noncomputable abbrev Jp:Stmt:=A7 37 2
noncomputable abbrev Ci:Stmt:=A7 38 0
noncomputable abbrev Mn:Stmt:=A7 38 1
noncomputable abbrev Lb:Stmt:=A7 38 2
noncomputable abbrev Mi:Stmt:=A7 39 0
noncomputable abbrev Jw:Stmt:=A7 39 1
noncomputable abbrev J8:Stmt:=A7 39 2
noncomputable abbrev Lw:Stmt:=A7 40 0
noncomputable abbrev Kp:Stmt:=A7 40 1
noncomputable abbrev Kx:Stmt:=A7 40 2
noncomputable abbrev Kv:Stmt:=top 42
noncomputable abbrev K9:Stmt:=top 44
noncomputable abbrev Ln:Stmt:=top 45
noncomputable abbrev Ly:Stmt:=top 46
noncomputable abbrev Kb:Stmt:=top 47
noncomputable abbrev Me:Stmt:=top 48
noncomputable abbrev Jx:Stmt:=top 49
noncomputable abbrev Lc:Stmt:=top 50
noncomputable abbrev Li:Stmt:=top 51
noncomputable abbrev L6:Stmt:=top 52
noncomputable abbrev Kz:Stmt:=top 53
noncomputable abbrev La:Stmt:=top 54
noncomputable abbrev Mc:Stmt:=top 55
noncomputable abbrev Jh:Stmt:=top 56
noncomputable abbrev Kw:Stmt:=top 57
noncomputable abbrev Mj:Stmt:=top 58
noncomputable abbrev Lo:Stmt:=top 59
noncomputable abbrev L7:Stmt:=top 60
noncomputable abbrev J6:Stmt:=top 61
noncomputable abbrev Kg:Stmt:=top 62
noncomputable abbrev L8:Stmt:=top 63
noncomputable abbrev Jm:Stmt:=top 64
noncomputable abbrev Ma:Stmt:=top 65
noncomputable abbrev Ll:Stmt:=top 66
noncomputable abbrev Ka:Stmt:=top 67
noncomputable abbrev Lu:Stmt:=top 68
noncomputable abbrev Kn:Stmt:=top 69
noncomputable abbrev Jl:Stmt:=top 70
noncomputable abbrev Jk:Stmt:=top 71
noncomputable abbrev Ms:Stmt:=top 72
structure Txt (K:On)(mg:Str->Option Value):Prop where
 isinstance:mg "isinstance" = none
 int:mg "int" = none
 bool:mg "bool" = none
 str:mg "str" = none
 len:mg "len" = none
 all:mg "all" = none
 tuple:mg "tuple" = none
 reversed:mg "reversed" = none
 list:mg "list" = none
 zip:mg "zip" = none
 divmod:mg "divmod" = none
 range:mg "range" = none
 min:mg "min" = none
 ValueError:mg "ValueError" = none
structure Script (K:On)(H:Hp)(a:Addr):Prop where
 ex:∃ ns:List Int,SqL K H a (ns.map V.int)/\ns.length<=63
theorem Script.same {K:On}{H H':Hp}{a:Addr}(S:Script K H a)(h:Same H H'):Script K H' a:=by
 obtain ⟨ns,q,l⟩:=S.ex
 exact ⟨ns,h.seq q,l⟩
end K24
namespace K24
open PySem L2 K10 K19
inductive TyN (K:On)(H:Hp):V->String->Prop where
 | non:TyN K H .non "NoneType"
 | bl (x:Bool):TyN K H (.bl x) "bool"
 | int (i:Int):TyN K H (.int i) "int"
 | str (x:Str) (h:x.length<=1000):TyN K H (.str x) "str"
 | tup {a:Addr} {xs:List V} (q:SqT K H a xs):TyN K H (.ref a) "tuple"
 | lst {a:Addr} {xs:List V} (q:SqL K H a xs):TyN K H (.ref a) "list"
 | dK {a:Addr} {kvs:List (Bx×V)} (e:H a=some (.dK kvs)):TyN K H (.ref a) "dict"
noncomputable def Cz (t T:String):Bool:=t == T || (t == "bool" && T == "int")
theorem TyN.q {K:On}{H:Hp}{v:V}{t:String}(h:TyN K H v t):Ct K H v (.type t):=by
 cases h with
 | non=>exact .ty .non
 | bl x=>exact .ty (.bl x)
 | int x=>exact .ty (.int x)
 | str x=>exact .ty (.str x)
 | tup q=>exact .tup q
 | lst q=>exact .lst q
 | dK e=>exact .ty (.dK e)
theorem Zm9 {K:On}{t T:String}(ht:t∈["NoneType", "bool", "int", "str", "tuple", "list", "dict"])(hT:T∈["str", "int", "bool", "tuple"]):O0 K (.type t) (.type T)=some (Cz t T):=by
 have one:∀(t T:String),t≠T->(Vu T && (match fastBuiltinMro t with | some l=>l.contains (.type T) == Cz t T | none=>false))=true->O0 K (.type t) (.type T)=some (Cz t T):=by
  intro t T hne h
  rw [Pt] at h
  obtain ⟨h1,h2⟩:=h
  split at h2
  ·rename_i l hl
   exact Zrz h1 hne hl (by simpa using h2)
  ·cases h2
 simp only [O1,Pk,or_false] at ht hT
 rcases hT with rfl | rfl | rfl | rfl <;> rcases ht with rfl | rfl | rfl | rfl | rfl | rfl | rfl <;> first | (exact M4) | (exact one _ _ (by decide) (by decide +kernel))
theorem TyN.mem {K:On}{H:Hp}{v:V}{t:String}(h:TyN K H v t):t∈["NoneType", "bool", "int", "str", "tuple", "list", "dict"]:=by
 cases h <;> simp
theorem Fu {K:On}{H:Hp}{Q:VK}{v:V}{t T:String}(h:TyN K H v t)(hT:T∈["str", "int", "bool", "tuple"])(q:Q (.bl (Cz t T)) H):K5 K T [v,.ty T] H Q :=
 ⟨v,.type t,_,rfl,h.q,Zm9 h.mem hT,q⟩
theorem TyN.same {K:On}{H H':Hp}{v:V}{t:String}(h:TyN K H v t)(e:Same H H'):TyN K H' v t:=by
 cases h with
 | non=>exact .non
 | bl x=>exact .bl x
 | int x=>exact .int x
 | str x h=>exact .str x h
 | tup q=>exact .tup (e.t.tup q)
 | lst q=>exact .lst (e.seq q)
 | dK h=>exact .dK (e _ _ h)
noncomputable def Has (K:On)(H:Hp)(v:V):Prop:=∃ t,TyN K H v t
theorem Has.same {K:On}{H H':Hp}{v:V}(h:Has K H v)(e:Same H H'):Has K H' v:=by
 obtain ⟨t,h⟩:=h
 exact ⟨t,h.same e⟩
noncomputable def Hy:List (Str×V):=[("gap",.int 0),("odd",.int 0),("num",.int 0),("truth",.int 0),("name",.int 0),("plus",.int 2),("minus",.int 2),("less",.int 2),("call",.int 2),("if",.int 3),("fn",.int 1),("rec",.int 1),("let",.int 2)]
noncomputable def PN:List (Str×Nat):=[("gap",0),("odd",0),("num",0),("truth",0),("name",0),("plus",2),("minus",2),("less",2),("call",2),("if",3),("fn",1),("rec",1),("let",2)]
noncomputable def Bo (wd:Str):Option Nat:=PN.lookup wd
theorem Zat (wd:Str):Gv Hy wd=(Bo wd).map (fun n:Nat=>V.int (n:Int)):=by
 have gen:∀ ps:List (Str×Nat),Gv (ps.map fun p=>(p.1,V.int (p.2:Int))) wd=(ps.lookup wd).map (fun n:Nat=>V.int (n:Int)):=by
  intro ps
  induction ps with
  | nil=>rfl
  | cons p r ih =>
   unfold Gv at ih ⊢
   rw [Q6,Vv,Ql]
   by_cases z:p.1=wd
   ·have e2:(wd == p.1)=true:=by rw [z];simp
    simp only [z,decide_true,Option.map_some]
    simp
   ·have e2:(wd == p.1)=false:=by simpa using fun h=>z h.symm
    simp only [z,decide_false,e2]
    exact ih
 exact gen PN
noncomputable def Gy:V->Bool
 | .int _=>true
 | _=>false
noncomputable def Em:V->Bool
 | .str s=>Bg s
 | _=>false
noncomputable def Jf:V->Bool
 | .str s=>Et s
 | _=>false
noncomputable def Mx:V->Bool
 | .str s=>(Bo s).isSome
 | _=>false
structure Gs (P:Program)(w:World)(K:On)(mg:Str->Option Value):Prop where
 ns:Fc mg "NAME_SIGNS" (.str LET)
 fg:Fc mg "FIGURES" (.str DIG)
 w9:∃ a,Fc mg "WORDS_NO_NAMES" (.ref a)/\∀ H,SqT K H a (W9.map V.str)
 w10:∃ a,Fc mg "WORDS_NOT_ODD" (.ref a)/\∀ H,SqT K H a (W10.map V.str)
 pw:∃ a,Fc mg "PARTS_OF_WORDS" (.ref a)/\DkK P w K a Hy
 gp:∃ a e,Fc mg "GAP" (.ref a)/\(∀ H,SqT K H a [.str "gap",.non,.ref e])/\∀ H,SqT K H e []
end K24
local macro_rules | `(tactic| walk_at "r1")=>`(tactic| (first | (with_reducible first | refine L2.s_seq ?_ | refine L2.s_asg ?_ | refine L2.s_ret ?_ | refine L2.s_ifS ?_ | refine L2.s_ifE ?_ | refine L2.s_dget ?_ | refine L2.s_din ?_ | refine L2.s_dput ?_ | refine L2.s_dget2 ?_ | refine L2.s_izipm ?_ | refine L2.s_dnotin ?_ | refine L2.s_listzt ?_ | refine L2.s_listr ?_ | refine L2.s_dget1 ?_ | refine L2.s_isB ?_ | refine L2.s_par ?_ | refine L2.s_test ?_ | refine L2.s_op ?_ | refine L2.s_c ?_ | refine L2.s_cons ?_ | refine L2.s_nil ?_ | refine L2.s_call ?_ | refine L2.s_cb ?_ | refine L2.s_gname ?_ | refine L2.s_ex ?_ | refine L2.s_exi ?_ | refine L2.s_drop ?_ | refine L2.s_next ?_ | refine L2.s_un ?_ | refine L2.s_tB ?_ | refine L2.s_not ?_ | refine L2.s_and ?_ | refine L2.s_or ?_ | refine L2.s_andV ?_ | refine L2.s_orV ?_ | refine L2.s_notV ?_ | refine L2.s_vals ?_ | refine L2.s_tup ?_ | refine L2.s_lst ?_ | refine L2.s_bm ?_ | refine L2.s_bm0 ?_ | refine L2.s_sl ?_ | refine L2.s_po ?_ | refine L2.s_po0 ?_ | refine L2.s_gcons ?_ | refine L2.s_gnil ?_ | refine L2.s_gsub ?_ | refine L2.s_isN ?_ | refine L2.s_notN ?_ | refine L2.s_rI0 ?_ | refine L2.s_rU ?_ | refine L2.s_add_int ?_ | refine L2.s_lt ?_ | refine L2.s_le ?_ | refine L2.iteT ?_ | refine L2.iteF ?_ | refine L2.s_comp ?_ | refine L2.s_for ?_ | refine L2.s_rng1 ?_ | refine L2.s_rng3 ?_ | refine L2.s_exr ?_ | refine L2.s_iany ?_ | refine L2.s_irev ?_ | refine L2.s_ienum ?_ | refine L2.s_listen ?_ | refine L2.s_listrev ?_ | refine L2.s_izip ?_ | refine L2.s_ienumT ?_ | refine L2.s_listzp ?_ | refine L2.s_ipI ?_ | refine L2.s_yes ?_ | refine L2.s_turn ?_ | refine L2.s_int_b ?_ | refine L2.s_intb ?_ | refine L2.s_truth ?_ | refine L2.s_chain ?_ | refine L2.s_nt ?_ | refine L2.s_nf ?_) | ((with_reducible refine' L2.s_var ?e ?_); (case e=>exact rfl)) | ((with_reducible refine' L2.s_aug ?e ?_); (case e=>exact rfl)) | ((with_reducible refine' L2.s_eq ?e ?_); (case e=>exact rfl)) | ((with_reducible refine' L2.s_ne ?e ?_); (case e=>exact rfl)) | ((with_reducible refine' L2.s_neb ?e ?_); (case e=>exact rfl)) | ((with_reducible refine' L2.s_eqy ?e ?_); (case e=>exact rfl)) | ((with_reducible refine' L2.s_eqk ?e ?_); (case e=>exact rfl)) | ((with_reducible refine' L2.s_rI ?c ?_); (case c=>first | decide | exact ⟨by decide,by decide⟩ | exact ⟨by decide,by decide,by decide⟩)) | ((with_reducible refine' L2.s_mul_r ?a ?b ?_); (case a=>decide); (case b=>decide)) | ((with_reducible refine' L2.s_mul_l ?a ?b ?_); (case a=>decide); (case b=>decide)) | ((with_reducible refine' L2.s_exr3 ?e ?_); (case e=>decide))))
local macro_rules | `(tactic| walk_at "r")=>`(tactic| (repeat walk_at "r1"))
local macro_rules | `(tactic| walk_at "q")=>`(tactic| (repeat (first | (with_reducible first | refine L2.s_gcons ?_ | refine L2.s_gname ?_ | refine L2.s_gnil ?_ | refine L2.s_seq ?_ | refine L2.s_asg ?_ | refine L2.s_c ?_ | refine L2.s_lst ?_ | refine L2.s_tup ?_ | refine L2.s_cons ?_ | refine L2.s_nil ?_) | ((with_reducible refine' L2.s_var ?e ?_); (case e=>exact rfl)))))
namespace K24
open PySem L2 K10 K19
section
variable {P:Program}{w:World}{K:On}{mg:Str->Option Value}{base:Heap}
noncomputable def Zbn (K:On):Sp:=fun vs H Q _=>∃ v,vs=[v]/\Has K H v/\Q (.bl (Gy v)) H
theorem Zsz:Aw ["thing"] ["thing"] (Aj Lg):=by walk_at "sc"
theorem Zk4 {f:Addr}{fd:FuncData}(F:Fun K "is_whole" "is_whole" Lg f fd)(T:Txt K mg):FnOk P w K mg base An 1 f fd ["thing"] (Zbn K):=by
 refine F.okq Zsz (fun vs H Q E h=>?_) (fun cdv A outer s H vs Q E hr h=>?_)
 ·obtain ⟨v,rfl,_⟩:=h
  rfl
 ·obtain ⟨v,rfl,⟨t,ht⟩,q⟩:=h
  refine ⟨_,Ad (Ah (De (A8 (Ew K "int") (by rfl) T.isinstance (by decide +kernel) (Aa (qv 0) (Aa (D7 (v:=.ty "int") (by rfl) T.int (by decide +kernel) rfl) Ab))) (Eg (Zdu (A8 (Ew K "bool") (by rfl) T.isinstance (by decide +kernel) (Aa (qv 0) (Aa (D7 (v:=.ty "bool") (by rfl) T.bool (by decide +kernel) rfl) Ab))))))),?_⟩
  walk_at "r"
  refine Fu ht (by simp) ?_
  have e:Gy v=(Cz t "int" && !Cz t "bool"):=by cases ht <;> rfl
  rw [e] at q
  refine ⟨_,rfl,?_⟩
  cases h1:Cz t "int" with
  | false =>
   rw [h1] at q
   exact q
  | true =>
   rw [h1] at q
   walk_at "r"
   refine Fu ht (by simp) ?_
   walk_at "r"
   exact q
theorem Ce:100000<=sizeLine:=by decide
theorem Zd7 {α:Type}{l:List α}{i:Nat}{c:α}(h:l[i]?=some c):l.take (i+1)=l.take i++[c]:=by
 rw [List.take_succ,h]
 rfl
theorem Za1 {z:Str}{i:Nat}{c:Nat}(h:z.cps.toList[i]?=some c):i < z.length:=by
 have:=(Pa.mp h).1
 simpa [Str.length] using this
theorem Zdj {z:Str}{p:Nat->Bool}:(((z.cps.toList.take z.cps.size).map p).all id)=z.cps.toList.all p:=by
 rw [Rt (by simp),List.all_map]
 rfl
noncomputable def Hu (K:On):Sp:=fun vs H Q _=>∃ v,vs=[v]/\Has K H v/\∀ H',Same H H'->Q (.bl (Em v)) H'
theorem Zkw:(["sign"]:List Str).Nodup:=by decide +kernel
theorem Zvl:Aw ["thing"] ["thing"] (Aj Mq):=by walk_at "sc"
theorem F9 {t:Str}{ws:List Str}:Cf (.str t) (ws.map V.str)=Ca t ws:=by
 unfold Cf Ca
 rw [List.any_map]
 rfl
theorem Zez {ws:List Str}:(ws.map V.str).all C5=true:=by
 rw [List.all_map]
 exact Pj.mpr fun _ _=>rfl
theorem Zs0 {f:Addr}{fd:FuncData}(F:Fun K "is_name" "is_name" Mq f fd)(T:Txt K mg)(G:Gs P w K mg):FnOk P w K mg base An 1 f fd ["thing"] (Hu K):=by
 refine F.okq Zvl (fun vs H Q E h=>?_) (fun cdv A outer s H vs Q E hr h=>?_)
 ·obtain ⟨v,rfl,_⟩:=h
  rfl
 ·obtain ⟨v,rfl,⟨t,ht⟩,q⟩:=h
  obtain ⟨a9,G_WORDS_NO_NAMES,h9⟩:=G.w9
  have G_NAME_SIGNS:=G.ns
  refine ⟨_,Ae (Aq (QW.qt (Di (B3 (Bu (A8 (Ew K "str") (by rfl) T.isinstance (by decide +kernel) (Aa (qv 0) (Aa (D7 (v:=.ty "str") (by rfl) T.str (by decide +kernel) rfl) Ab))))) (Dx (B3 (Om Eb Eb Ac (A8 (Cd K) (by rfl) T.len (by decide +kernel) (Aa (qv 0) Ab)) Ac))))) (Ad (Ah Bt)) Ar)
   (Ad (Ah (De (A8 (Zde K rfl) (by rfl) T.all (by decide +kernel) (Aa (Ik (N:=["sign"]) (σ0:=Dh 1 []) rfl (E8 rfl (by decide +kernel) (by decide +kernel) (by decide +kernel)) (Fs K (qv 0)) (E3 rfl (by rfl)) (fun _ _ _ _=>Bc (i:=0) Zkw rfl (Or.inl rfl)) (fun _ _ _ _=>E5) (fun _ _ _ _=>Cm (Dr K) (qv 0) (F0 G_NAME_SIGNS) (by rfl))) Ab)) (Eg (Cm (Ld K) (qv 0) (F0 G_WORDS_NO_NAMES) (by rfl)))))),?_⟩
  have bg:=Ce
  walk_at "r"
  refine Fu ht (by simp) ?_
  walk_at "r"
  cases h1:Cz t "str" with
  | false =>
   have e:Em v=false:=by cases ht <;> first | rfl | (cases h1)
   walk_at "r"
   rw [e] at q
   exact q H (Same.refl H)
  | true =>
   obtain ⟨z,rfl,hz⟩:∃ z,v=.str z/\z.length<=1000:=by
    cases ht <;> first | exact ⟨_,rfl,by assumption⟩ | (cases h1)
   walk_at "r"
   refine Lq (by omega) ?_
   walk_at "r"
   have e:Em (.str z)=(decide (1<=z.length) && decide (z.length<=8) && Bs z LET && !Ca z W9):=rfl
   rw [e] at q
   refine A0 (fun h=>?_) (fun h=>?_)
   ·have l1:1<=z.length:=by have:=of_decide_eq_true h;omega
    walk_at "r"
    refine A0 (fun h'=>?_) (fun h'=>?_)
    ·have l2:¬ z.length<=8:=fun x=>by simp at h';omega
     walk_at "r"
     have:=q H (Same.refl H)
     rw [decide_eq_false l2,Uj,Pm,Pm] at this
     exact this
    ·have l2:z.length<=8:=by simp at h';omega
     walk_at "r"
     refine .inr (.inr ⟨z,rfl,fun D hD=>?_⟩)
     refine Zb2 (z:=z) (Pv:=fun i ys σ' H'=>∃ sv,σ'=[sv]/\ys=((z.cps.toList.take i).map fun c=>decide (c∈LET.cps.toList)).map V.bl/\Same H H') ⟨none,rfl,rfl,Same.upd hD⟩ ?_ ?_
     ·rintro i c ys σ' H' hc hys ⟨sv,rfl,rfl,hH⟩
      walk_at "r"
      have hi:=Za1 hc
      refine .inr ⟨c,LET,rfl,rfl,?_⟩
      refine ⟨_,hys,by rw [Pl,Pl,Qe];omega,_,Ag,_,rfl,?_,hH.over hD⟩
      rw [Zd7 hc,Rn,Rn]
      rfl
     ·rintro ys σ' H' hys ⟨sv,rfl,rfl,hH⟩
      walk_at "r"
      refine ⟨D,_,rfl,SqL.of hys,?_⟩
      rw [Zdj]
      have en:Bs z LET=(z.cps.toList.all fun c=>decide (c∈LET.cps.toList)):=rfl
      rw [<- en]
      have q':=q H' hH
      rw [decide_eq_true l1,decide_eq_true l2,Pz,Pz] at q'
      walk_at "r"
      refine A0 (fun hA=>?_) (fun hA=>?_)
      ·walk_at "r"
       refine Dc (.inr (h9 _)) rfl Zez ?_
       rw [hA,Pz] at q'
       rw [if_pos rfl,F9]
       exact q'
      ·have hA:Bs z LET=false:=by simpa using hA
       rw [hA,Pm] at q'
       exact q'
   ·have l1:¬ 1<=z.length:=fun x=>h (decide_eq_true (by omega))
    walk_at "r"
    have:=q H (Same.refl H)
    rw [decide_eq_false l1,Pm,Pm,Pm] at this
    exact this
theorem Zs2 (t:Str):t.cps.toList.length=t.length:=by simp [Str.length]
theorem Zo4 {t:Str}{c:Nat}(h:Bh t.cps.toList 0=some c):t.cps.toList.head?=some c:=by
 obtain ⟨j,h1,h2,h3,_⟩:=M2 h
 have:j=0:=by
  unfold Bh C7 at h
  rw [Ut (by decide) (by omega)] at h1
  have:=Pi h1
  omega
 subst this
 rw [List.head?_eq_getElem?]
 exact h2
theorem Zm7 {t:Str}(h:1<=t.length):∃ c,Bh t.cps.toList 0=some c:=by
 obtain ⟨c,h1,_⟩:=Ht (xs:=t.cps.toList) (i:=0) (by decide) (by rw [Zs2];omega)
 exact ⟨c,h1⟩
theorem Zt7 (c:Nat):decide (V.str ⟨#[c]⟩=V.str ("0" : Str))=(some c == some 48):=by
 have e:("0" : Str)=⟨#[48]⟩:=by decide +kernel
 rw [e,Rm]
 simp
theorem Zud (t u:Str):decide (V.str t=V.str u)=(t == u):=by
 rw [Rm]
 simp
noncomputable def Zg1:Sp:=fun vs H Q _=>∃ z:Str,vs=[.str z]/\z.length<=1000/\∀ H',Same H H'->Q (.bl (Gz z)) H'
theorem Zpq:(["sign"]:List Str).Nodup:=by decide +kernel
theorem Zoq:Aw ["text"] ["text"] (Aj Jo):=by walk_at "sc"
theorem Zlu {f:Addr}{fd:FuncData}(F:Fun K "is_figures" "is_figures" Jo f fd)(T:Txt K mg)(G:Gs P w K mg):FnOk P w K mg base An 1 f fd ["text"] Zg1:=by
 refine F.okq Zoq (fun vs H Q E h=>?_) (fun cdv A outer s H vs Q E hr h=>?_)
 ·obtain ⟨v,rfl,_⟩:=h
  rfl
 ·obtain ⟨z,rfl,hz,q⟩:=h
  have G_FIGURES:=G.fg
  refine ⟨_,Ae (Aq (QW.qt (Di (B3 (Om Eb Eb Ac (A8 (Cd K) (by rfl) T.len (by decide +kernel) (Aa (qv 0) Ab)) Ac)) (Dx (B3 (Bu (A8 (Zde K rfl) (by rfl) T.all (by decide +kernel) (Aa (Ik (N:=["sign"]) (σ0:=Dh 1 []) rfl (E8 rfl (by decide +kernel) (by decide +kernel) (by decide +kernel)) (Fs K (qv 0)) (E3 rfl (by rfl)) (fun _ _ _ _=>Bc (i:=0) Zpq rfl (Or.inl rfl)) (fun _ _ _ _=>E5) (fun _ _ _ _=>Cm (Dr K) (qv 0) (F0 G_FIGURES) (by rfl))) Ab))))))) (Ad (Ah Bt)) Ar)
   (Ad (Ah (Zge (Cm (A5 K hr.u200) (qv 0) Ao (Av _)) (Eg (Cm (C8 K hr.u200) (Ai K (qv 0) Ac) Ao (Av _)))))),?_⟩
  have bg:=Ce
  have e:Gz z=(decide (1<=z.length) && decide (z.length<=18) && Bs z DIG && (z == ("0" : Str) || !He z)):=rfl
  rw [e] at q
  walk_at "r"
  refine Lq (by omega) ?_
  walk_at "r"
  refine A0 (fun h=>?_) (fun h=>?_)
  ·have l1:1<=z.length:=by have:=of_decide_eq_true h;omega
   walk_at "r"
   refine A0 (fun h'=>?_) (fun h'=>?_)
   ·have l2:¬ z.length<=18:=fun x=>by simp at h';omega
    walk_at "r"
    have:=q H (Same.refl H)
    rw [decide_eq_false l2,Uj,Pm,Pm] at this
    exact this
   ·have l2:z.length<=18:=by simp at h';omega
    walk_at "r"
    refine .inr (.inr ⟨z,rfl,fun D hD=>?_⟩)
    refine Zb2 (z:=z) (Pv:=fun i ys σ' H'=>∃ sv,σ'=[sv]/\ys=((z.cps.toList.take i).map fun c=>decide (c∈DIG.cps.toList)).map V.bl/\Same H H') ⟨none,rfl,rfl,Same.upd hD⟩ ?_ ?_
    ·rintro i c ys σ' H' hc hys ⟨sv,rfl,rfl,hH⟩
     walk_at "r"
     have hi:=Za1 hc
     refine .inr ⟨c,DIG,rfl,rfl,?_⟩
     refine ⟨_,hys,by rw [Pl,Pl,Qe];omega,_,Ag,_,rfl,?_,hH.over hD⟩
     rw [Zd7 hc,Rn,Rn]
     rfl
    ·rintro ys σ' H' hys ⟨sv,rfl,rfl,hH⟩
     walk_at "r"
     refine ⟨D,_,rfl,SqL.of hys,?_⟩
     rw [Zdj]
     have en:Bs z DIG=(z.cps.toList.all fun c=>decide (c∈DIG.cps.toList)):=rfl
     rw [<- en]
     have q':=q H' hH
     rw [decide_eq_true l1,decide_eq_true l2,Pz,Pz] at q'
     walk_at "r"
     refine A0 (fun hA=>?_) (fun hA=>?_)
     ·have hA:Bs z DIG=false:=by simpa using hA
      rw [hA,Pm] at q'
      walk_at "r"
      exact q'
     ·have hA:Bs z DIG=true:=by simpa using hA
      rw [hA,Pz] at q'
      walk_at "r"
      rw [Zud]
      refine A0 (fun hz=>?_) (fun hz=>?_)
      ·rw [hz,Bool.true_or] at q'
       exact q'
      ·have hz:(z == ("0" : Str))=false:=by simpa using hz
       rw [hz,Bool.false_or] at q'
       walk_at "r"
       obtain ⟨c,hc⟩:=Zm7 l1
       refine Og (by omega) hc ?_
       refine s_ne rfl ?_
       rw [Zt7]
       have:He z=(some c == some 48):=by
        unfold He
        rw [Zo4 hc]
       rw [<- this]
       exact q'
  ·have l1:¬ 1<=z.length:=fun x=>h (decide_eq_true (by omega))
   walk_at "r"
   have:=q H (Same.refl H)
   rw [decide_eq_false l1,Pm,Pm,Pm] at this
   exact this
noncomputable def Ze8:Sp:=fun vs H Q _=>∃ c:Nat,vs=[.str ⟨#[c]⟩]/\Q (.bl (Dv c)) H
theorem Zpc:Aw ["sign"] ["sign"] (Aj Lp):=by walk_at "sc"
theorem ll1 (a b:Nat):decide ([a] < [b])=decide (a < b):=by
 by_cases h:a < b
 ·rw [decide_eq_true h]
  exact decide_eq_true (List.Lex.rel h)
 ·rw [decide_eq_false h]
  refine decide_eq_false fun e=>?_
  cases e with
  | rel e=>exact h e
  | cons e=>cases e
theorem Zog (c:Nat):(!decide ((⟨#[c]⟩:Str).cps.toList < ("!" : Str).cps.toList))=decide (33<=c):=by
 have e:("!" : Str).cps.toList=[33]:=by decide +kernel
 have e2:(⟨#[c]⟩:Str).cps.toList=[c]:=rfl
 rw [e,e2,ll1,Rm]
 simp
theorem Zpt (c:Nat):(!decide (("~" : Str).cps.toList < (⟨#[c]⟩:Str).cps.toList))=decide (c<=126):=by
 have e:("~" : Str).cps.toList=[126]:=by decide +kernel
 have e2:(⟨#[c]⟩:Str).cps.toList=[c]:=rfl
 rw [e,e2,ll1,Rm]
 simp
theorem Zk0 {f:Addr}{fd:FuncData}(F:Fun K "is_odd_sign" "is_odd_sign" Lp f fd)(T:Txt K mg):FnOk P w K mg base An 1 f fd ["sign"] Ze8:=by
 refine F.okq Zpc (fun vs H Q E h=>?_) (fun cdv A outer s H vs Q E hr h=>?_)
 ·obtain ⟨v,rfl,_⟩:=h
  rfl
 ·obtain ⟨c,rfl,q⟩:=h
  refine ⟨_,Ad (Ah (De (Zcv Eb Eb Ao (qv 0) Ao) (Eg (Cm (Ld K) (qv 0) Ao (by rfl))))),?_⟩
  walk_at "r"
  have e:Dv c=(decide (33<=c) && decide (c<=126) && !decide (c∈BR.cps.toList)):=rfl
  rw [e] at q
  refine .inr ⟨_,_,rfl,rfl,_,rfl,?_⟩
  rw [Zog]
  refine A0 (fun h=>?_) (fun h=>?_)
  ·rw [h,Pz] at q
   walk_at "r"
   refine .inr ⟨_,_,rfl,rfl,_,rfl,?_⟩
   rw [Zpt]
   refine A0 (fun h=>?_) (fun h=>?_)
   ·rw [h,Pz] at q
    walk_at "r"
    exact .inr ⟨c,BR,rfl,rfl,q⟩
   ·have h:decide (c<=126)=false:=by simpa using h
    rw [h,Pm] at q
    exact q
  ·have h:decide (33<=c)=false:=by simpa using h
   rw [h,Pm,Pm] at q
   exact ⟨_,rfl,iteF q⟩
noncomputable def Zev (K:On):Sp:=fun vs H Q _=>∃ v,vs=[v]/\Has K H v/\∀ H',Same H H'->Q (.bl (Jf v)) H'
theorem Zsg:(["sign"]:List Str).Nodup:=by decide +kernel
theorem Zl0:Aw ["thing"] ["thing"] (Aj Ki):=by walk_at "sc"
theorem Zmj {f:Addr}{fd:FuncData}(F:Fun K "is_odd" "is_odd" Ki f fd)(T:Txt K mg)(G:Gs P w K mg)(C_is_odd_sign:As P w K mg base 1 "is_odd_sign" ["sign"] Ze8)(C_is_name:As P w K mg base 1 "is_name" ["thing"] (Hu K))(C_is_figures:As P w K mg base 1 "is_figures" ["text"] Zg1):FnOk P w K mg base An 2 f fd ["thing"] (Zev K):=by
 refine F.okq Zl0 (fun vs H Q E h=>?_) (fun cdv A outer s H vs Q E hr h=>?_)
 ·obtain ⟨v,rfl,_⟩:=h
  rfl
 ·obtain ⟨v,rfl,⟨t,ht⟩,q⟩:=h
  obtain ⟨a10,G_WORDS_NOT_ODD,h10⟩:=G.w10
  refine ⟨_,Ae (Aq (QW.qt (Di (B3 (Bu (A8 (Ew K "str") (by rfl) T.isinstance (by decide +kernel) (Aa (qv 0) (Aa (D7 (v:=.ty "str") (by rfl) T.str (by decide +kernel) rfl) Ab))))) (Dx (B3 (Om Eb Eb Ac (A8 (Cd K) (by rfl) T.len (by decide +kernel) (Aa (qv 0) Ab)) Ac))))) (Ad (Ah Bt)) Ar)
   (Ae (Aq (B3 (Bu (A8 (Zde K rfl) (by rfl) T.all (by decide +kernel) (Aa (Ik (N:=["sign"]) (σ0:=Dh 1 []) rfl (E8 rfl (by decide +kernel) (by decide +kernel) (by decide +kernel)) (Fs K (qv 0)) (E3 rfl (by rfl)) (fun _ _ _ _=>Bc (i:=0) Zsg rfl (Or.inl rfl)) (fun _ _ _ _=>E5) (fun _ _ _ _=>Am C_is_odd_sign hr.m (Aa (qv 0) Ab))) Ab)))) (Ad (Ah Bt)) Ar)
   (Ad (Ah (De (Zdu (Am C_is_name hr.m (Aa (qv 0) Ab))) (De (Cm (Ld K) (qv 0) (F0 G_WORDS_NOT_ODD) (by rfl)) (Eg (Zdu (Am C_is_figures hr.m (Aa (qv 0) Ab))))))))),?_⟩
  have bg:=Ce
  walk_at "r"
  refine Fu ht (by simp) ?_
  walk_at "r"
  cases h1:Cz t "str" with
  | false =>
   have e:Jf v=false:=by cases ht <;> first | rfl | (cases h1)
   walk_at "r"
   rw [e] at q
   exact q H (Same.refl H)
  | true =>
   obtain ⟨z,rfl,hz⟩:∃ z,v=.str z/\z.length<=1000:=by
    cases ht <;> first | exact ⟨_,rfl,by assumption⟩ | (cases h1)
   walk_at "r"
   refine Lq (by omega) ?_
   walk_at "r"
   have e:Jf (.str z)=(decide (1<=z.length) && decide (z.length<=60) && z.cps.toList.all Dv && !Bg z && !Ca z W10 && !Gz z):=rfl
   rw [e] at q
   refine A0 (fun h=>?_) (fun h=>?_)
   ·have l1:1<=z.length:=by have:=of_decide_eq_true h;omega
    walk_at "r"
    refine A0 (fun h'=>?_) (fun h'=>?_)
    ·have l2:¬ z.length<=60:=fun x=>by simp at h';omega
     walk_at "r"
     have:=q H (Same.refl H)
     rw [decide_eq_false l2,Uj] at this
     exact this
    ·have l2:z.length<=60:=by simp at h';omega
     walk_at "r"
     refine .inr (.inr ⟨z,rfl,fun D hD=>?_⟩)
     refine Zb2 (z:=z) (Pv:=fun i ys σ' H'=>∃ sv,σ'=[sv]/\ys=((z.cps.toList.take i).map Dv).map V.bl/\Same H H') ⟨none,rfl,rfl,Same.upd hD⟩ ?_ ?_
     ·rintro i c ys σ' H' hc hys ⟨sv,rfl,rfl,hH⟩
      walk_at "r"
      have hi:=Za1 hc
      refine ⟨c,rfl,?_⟩
      refine ⟨_,hys,by rw [Pl,Pl,Qe];omega,_,Ag,_,rfl,?_,hH.over hD⟩
      rw [Zd7 hc,Rn,Rn]
      rfl
     ·rintro ys σ' H' hys ⟨sv,rfl,rfl,hH⟩
      walk_at "r"
      refine ⟨D,_,rfl,SqL.of hys,?_⟩
      rw [Zdj]
      rw [decide_eq_true l1,decide_eq_true l2,Pz,Pz] at q
      walk_at "r"
      refine A0 (fun hA=>?_) (fun hA=>?_)
      ·have hA:z.cps.toList.all Dv=false:=by simpa using hA
       rw [hA] at q
       walk_at "r"
       exact q H' hH
      ·have hA:z.cps.toList.all Dv=true:=by simpa using hA
       rw [hA,Pz] at q
       walk_at "r"
       refine ⟨_,rfl,⟨_,.str z hz⟩,fun H2 s2=>?_⟩
       walk_at "r"
       show if (!Bg z)=true then _ else _
       refine A0 (fun hN=>?_) (fun hN=>?_)
       ·rw [hN,Pz] at q
        walk_at "r"
        refine Dc (.inr (h10 _)) rfl Zez ?_
        rw [if_pos rfl,F9]
        walk_at "r"
        refine A0 (fun hW=>?_) (fun hW=>?_)
        ·rw [hW,Pz] at q
         walk_at "r"
         refine ⟨_,rfl,hz,fun H3 s3=>?_⟩
         walk_at "r"
         exact q H3 ((hH.trans s2).trans s3)
        ·have hW:(!Ca z W10)=false:=by simpa using hW
         rw [hW] at q
         exact q H2 (hH.trans s2)
       ·have hN:(!Bg z)=false:=by simpa using hN
        rw [hN] at q
        exact q H2 (hH.trans s2)
   ·have l1:¬ 1<=z.length:=fun x=>h (decide_eq_true (by omega))
    walk_at "r"
    have:=q H (Same.refl H)
    rw [decide_eq_false l1] at this
    exact this
noncomputable def Zaj (K:On):Sp:=fun vs H Q _=>∃ v,vs=[v]/\Has K H v/\Q (.bl (Mx v)) H
theorem Zl5:Aw ["thing"] ["thing"] (Aj Ks):=by walk_at "sc"
theorem Zvv {f:Addr}{fd:FuncData}(F:Fun K "is_word" "is_word" Ks f fd)(T:Txt K mg)(G:Gs P w K mg):FnOk P w K mg base An 1 f fd ["thing"] (Zaj K):=by
 refine F.okq Zl5 (fun vs H Q E h=>?_) (fun cdv A outer s H vs Q E hr h=>?_)
 ·obtain ⟨v,rfl,_⟩:=h
  rfl
 ·obtain ⟨v,rfl,⟨t,ht⟩,q⟩:=h
  obtain ⟨ap,G_PARTS_OF_WORDS,hp⟩:=G.pw
  refine ⟨_,Ad (Ah (De (A8 (Ew K "str") (by rfl) T.isinstance (by decide +kernel) (Aa (qv 0) (Aa (D7 (v:=.ty "str") (by rfl) T.str (by decide +kernel) rfl) Ab))) (Eg (Cm (Zrl P w K) (qv 0) (F0 G_PARTS_OF_WORDS) (by rfl))))),?_⟩
  walk_at "r"
  refine Fu ht (by simp) ?_
  walk_at "r"
  cases h1:Cz t "str" with
  | false =>
   have e:Mx v=false:=by cases ht <;> first | rfl | (cases h1)
   rw [e] at q
   exact iteF q
  | true =>
   obtain ⟨z,rfl,hz⟩:∃ z,v=.str z/\z.length<=1000:=by
    cases ht <;> first | exact ⟨_,rfl,by assumption⟩ | (cases h1)
   walk_at "r"
   refine ⟨z,ap,Hy,rfl,rfl,hp,?_⟩
   rw [Zat,Option.isSome_map]
   exact q
inductive Nt where
 | fl (v:V)
 | tp (xs:List V)
 | ot
noncomputable def NtAt (K:On)(H:Hp)(v:V):Nt->Prop
 | .fl u=>v=u/\∃ t,TyN K H u t/\Cz t "tuple" = false
 | .tp xs=>∃ a,v=.ref a/\SqT K H a xs/\∀ x∈xs,Has K H x
 | .ot=>∃ a t,v=.ref a/\TyN K H v t/\Cz t "tuple" = false
theorem NtAt.same {K:On}{H H':Hp}{v:V}{n:Nt}(h:NtAt K H v n)(e:Same H H'):NtAt K H' v n:=by
 cases n with
 | fl u=>obtain ⟨h1,t,h2,h3⟩:=h;exact ⟨h1,t,h2.same e,h3⟩
 | tp xs=>obtain ⟨a,h1,h2,h3⟩:=h;exact ⟨a,h1,e.t.tup h2,fun x hx=>(h3 x hx).same e⟩
 | ot=>obtain ⟨a,t,h1,h2,h3⟩:=h;exact ⟨a,t,h1,h2.same e,h3⟩
theorem NtAt.has {K:On}{H:Hp}{v:V}{n:Nt}(h:NtAt K H v n):Has K H v:=by
 cases n with
 | fl u=>obtain ⟨rfl,t,h2,h3⟩:=h;exact ⟨t,h2⟩
 | tp xs=>obtain ⟨a,rfl,h2,h3⟩:=h;exact ⟨_,.tup h2⟩
 | ot=>obtain ⟨a,t,rfl,h2,h3⟩:=h;exact ⟨t,h2⟩
noncomputable def twoN:Nt->Bool
 | .tp [x,y]=>Em x && Em y
 | _=>false
noncomputable def Ze5 (K:On):Sp:=fun vs H Q _=>∃ v n,vs=[v]/\NtAt K H v n/\∀ H',Same H H'->Q (.bl (twoN n)) H'
theorem Zum:Aw ["thing"] ["thing"] (Aj Kj):=by walk_at "sc"
theorem Zos {f:Addr}{fd:FuncData}(F:Fun K "is_two_names" "is_two_names" Kj f fd)(T:Txt K mg)(C_is_name:As P w K mg base 1 "is_name" ["thing"] (Hu K)):FnOk P w K mg base An 2 f fd ["thing"] (Ze5 K):=by
 refine F.okq Zum (fun vs H Q E h=>?_) (fun cdv A outer s H vs Q E hr h=>?_)
 ·obtain ⟨v,n,rfl,_⟩:=h
  rfl
 ·obtain ⟨v,n,rfl,hn,q⟩:=h
  refine ⟨_,Ad (Ah (De (A8 (Ew K "tuple") (by rfl) T.isinstance (by decide +kernel) (Aa (qv 0) (Aa (D7 (v:=.ty "tuple") (by rfl) T.tuple (by decide +kernel) rfl) Ab))) (De (Cm (A5 K hr.u200) (A8 (Cd K) (by rfl) T.len (by decide +kernel) (Aa (qv 0) Ab)) Ac (Av _)) (De (Am C_is_name hr.m (Aa (Ai K (qv 0) Ac) Ab)) (Eg (Am C_is_name hr.m (Aa (Ai K (qv 0) Ac) Ab))))))),?_⟩
  walk_at "r"
  have no:∀ t,TyN K H v t->Cz t "tuple" = false->twoN n=false->K5 K "tuple" [v,.ty "tuple"] H fun x H1=>∃ k,x=.bl k/\if k=true then (Kh (Bv (Im K) (Gc (G3 K) (B9 (Bz 0) C2)) (tC (.int 2))) (Kh (Ex (Hu K) [] E (B9 (Bv (Fz K) (Bz 0) (tC (.int 0))) C2)) (Ex (Hu K) [] E (B9 (Bv (Fz K) (Bz 0) (tC (.int 1))) C2)))) (L2.start ["thing"] [v]) H1 Q else Q (.bl false) H1:=by
   intro t ht hk h2
   refine Fu ht (by simp) ⟨_,rfl,?_⟩
   rw [hk]
   have:=q H (Same.refl H)
   rw [h2] at this
   exact iteF this
  cases n with
  | fl u =>
   obtain ⟨rfl,t,ht,hk⟩:=hn
   exact no t ht hk rfl
  | ot =>
   obtain ⟨a,t,rfl,ht,hk⟩:=hn
   exact no t ht hk rfl
  | tp xs =>
   obtain ⟨a,rfl,hq,hx⟩:=hn
   refine Fu (.tup hq) (by simp) ?_
   show ∃ k,V.bl true=V.bl k/\_
   walk_at "r"
   refine Gp hq ?_
   walk_at "r"
   match xs,hq,hx,q with
   | [x,y],hq,hx,q =>
    refine iteT ?_
    walk_at "r"
    refine Af hq (v:=x) rfl ?_
    walk_at "r"
    refine ⟨_,rfl,hx x (by simp),fun H1 s1=>?_⟩
    have e:twoN (.tp [x,y])=(Em x && Em y):=rfl
    rw [e] at q
    walk_at "r"
    refine A0 (fun h=>?_) (fun h=>?_)
    ·rw [h,Pz] at q
     walk_at "r"
     refine Af (s1.t.tup hq) (v:=y) rfl ?_
     walk_at "r"
     exact ⟨_,rfl,(hx y (by simp)).same s1,fun H2 s2=>q H2 (s1.trans s2)⟩
    ·have h:Em x=false:=by simpa using h
     rw [h,Pm] at q
     exact q H1 s1
   | [],hq,hx,q=>exact iteF (q H (Same.refl H))
   | [x],hq,hx,q=>exact iteF (q H (Same.refl H))
   | x::y::z::r,hq,hx,q =>
    refine A0 (fun h=>?_) (fun h=>q H (Same.refl H))
    have:=of_decide_eq_true h
    have h2:(((x::y::z::r).length:Nat):Int)=2:=V.int.inj this
    simp only [Ph] at h2
    omega
noncomputable def Hr:Nt->Bool
 | .fl v=>Em v
 | _=>false
noncomputable def Fn:Nt->Bool
 | .fl v=>Jf v
 | _=>false
noncomputable def En:Nt->Bool
 | .fl (.int i)=>decide (0<=i) && decide (i < 10 ^ 18)
 | _=>false
noncomputable def F2:Nt->Bool
 | .fl (.bl _)=>true
 | _=>false
noncomputable def Go:Nt->Bool
 | .fl .non=>true
 | _=>false
noncomputable def Bj (wd:Str)(n:Nt):Bool :=
 if wd = "odd" then Fn n else if wd = "num" then En n else if wd = "truth" then F2 n else if wd∈(["name", "fn", "let"]:List Str) then Hr n else if wd = "rec" then twoN n else Go n
theorem NtAt.name {K:On}{H:Hp}{v:V}{n:Nt}(h:NtAt K H v n):Em v=Hr n/\Jf v=Fn n/\(Gy v=true↔∃ i,v=.int i/\n=.fl (.int i))/\(decide (v=.bl true) || decide (v=.bl false))=F2 n/\decide (v=.non)=Go n:=by
 cases n with
 | fl u =>
  obtain ⟨rfl,t,h2,h3⟩:=h
  cases h2 <;> first | (exact ⟨rfl,rfl,by simp [Gy],rfl,rfl⟩) | (exact ⟨rfl,rfl,by simp [Gy],by decide,rfl⟩) | skip
  rename_i b
  exact ⟨rfl,rfl,by simp [Gy],by cases b <;> rfl,rfl⟩
 | tp xs =>
  obtain ⟨a,rfl,h2,h3⟩:=h
  exact ⟨rfl,rfl,by simp [Gy],rfl,rfl⟩
 | ot =>
  obtain ⟨a,t,rfl,h2,h3⟩:=h
  exact ⟨rfl,rfl,by simp [Gy],rfl,rfl⟩
theorem Cv (a b:Str):decide (V.str a=V.str b)=decide (a=b):=by
 by_cases h:a=b
 ·simp [h]
 ·simp [h]
noncomputable def Ny (K:On):Sp:=fun vs H Q _=>∃ wd v n,vs=[.str wd,v]/\NtAt K H v n/\∀ H',Same H H'->Q (.bl (Bj wd n)) H'
theorem Zmr:Aw ["word", "note"] ["word", "note"] (Aj Mf):=by walk_at "sc"
theorem Zuz {f:Addr}{fd:FuncData}(F:Fun K "is_note" "is_note" Mf f fd)(T:Txt K mg)(C_is_whole:As P w K mg base 1 "is_whole" ["thing"] (Zbn K))(C_is_name:As P w K mg base 1 "is_name" ["thing"] (Hu K))(C_is_odd:As P w K mg base 2 "is_odd" ["thing"] (Zev K))(C_is_two_names:As P w K mg base 2 "is_two_names" ["thing"] (Ze5 K)):FnOk P w K mg base An 3 f fd ["word", "note"] (Ny K):=by
 refine F.okq Zmr (fun vs H Q E h=>?_) (fun cdv A outer s H vs Q E hr h=>?_)
 ·obtain ⟨wd,v,n,rfl,_⟩:=h
  rfl
 ·obtain ⟨wd,v,n,rfl,hn,q⟩:=h
  refine ⟨_,Ae (Aq (Au (A5 K hr.u200) (qv 0) Ao (Av _)) (Ad (Ah (Am C_is_odd hr.m (Aa (qv 1) Ab)))) Ar)
   (Ae (Aq (Au (A5 K hr.u200) (qv 0) Ao (Av _)) (Ad (Ah (De (Am C_is_whole hr.m (Aa (qv 1) Ab)) (Eg (Zcv Eb Nf Ac (qv 1) (A2 Zad Ac Ac)))))) Ar)
   (Ae (Aq (Au (A5 K hr.u200) (qv 0) Ao (Av _)) (Ad (Ah (Zge (Cm Zh0 (qv 1) Bt (Av _)) (Eg (Cm Zh0 (qv 1) Bt (Av _)))))) Ar)
   (Ae (Aq (Au (Dr K) (qv 0) (A3 (Aa Ao (Aa Ao (Aa Ao Ab)))) (by rfl)) (Ad (Ah (Am C_is_name hr.m (Aa (qv 1) Ab)))) Ar)
   (Ae (Aq (Au (A5 K hr.u200) (qv 0) Ao (Av _)) (Ad (Ah (Am C_is_two_names hr.m (Aa (qv 1) Ab)))) Ar)
   (Ad (Ah (Zqx (Mg (qv 1))))))))),?_⟩
  obtain ⟨e1,e2,e3,e4,e5⟩:=hn.name
  unfold Bj at q
  walk_at "r"
  rw [Cv]
  refine A0 (fun h=>?_) (fun h=>?_)
  ·rw [if_pos (of_decide_eq_true h),<- e2] at q
   walk_at "r"
   exact ⟨_,rfl,hn.has,q⟩
  rw [if_neg (fun x=>h (decide_eq_true x))] at q
  walk_at "r"
  rw [Cv]
  refine A0 (fun h=>?_) (fun h=>?_)
  ·rw [if_pos (of_decide_eq_true h)] at q
   walk_at "r"
   refine ⟨_,rfl,hn.has,?_⟩
   walk_at "r"
   refine A0 (fun h=>?_) (fun h=>?_)
   ·obtain ⟨i,rfl,rfl⟩:=e3.mp h
    have e:En (.fl (.int i))=(decide (0<=i) && decide (i < 10 ^ 18)):=rfl
    rw [e] at q
    walk_at "r"
    refine A0 (fun h=>?_) (fun h=>?_)
    ·rw [h,Pz] at q
     walk_at "r"
     exact q H (Same.refl H)
    ·have h:decide (0<=i)=false:=by simpa using h
     rw [h,Pm] at q
     exact q H (Same.refl H)
   ·have e:En n=false:=by
     cases hx:En n with
     | false=>rfl
     | true =>
      cases n with
      | fl u =>
       obtain ⟨rfl,_⟩:=hn
       cases v <;> first | (cases hx) | (exact absurd rfl h)
      | tp xs=>cases hx
      | ot=>cases hx
    rw [e] at q
    exact q H (Same.refl H)
  rw [if_neg (fun x=>h (decide_eq_true x))] at q
  walk_at "r"
  rw [Cv]
  refine A0 (fun h=>?_) (fun h=>?_)
  ·rw [if_pos (of_decide_eq_true h),<- e4] at q
   walk_at "r"
   refine A0 (fun h=>?_) (fun h=>?_)
   ·rw [h,Bool.true_or] at q
    exact q H (Same.refl H)
   ·have h:decide (v=.bl true)=false:=by simpa using h
    rw [h,Bool.false_or] at q
    walk_at "r"
    exact q H (Same.refl H)
  rw [if_neg (fun x=>h (decide_eq_true x))] at q
  walk_at "r"
  refine ⟨B0,fun p hp=>?_⟩
  refine Dc (.inr (SqT.of Ag)) rfl rfl ?_
  have sm:=Same.upd (o:=.tup [.str "name",.str "fn",.str "let"]) hp
  have em:Cf (.str wd) [.str "name",.str "fn",.str "let"]=decide (wd∈(["name", "fn", "let"]:List Str)):=by
   have:=F9 (t:=wd) (ws:=["name", "fn", "let"])
   rw [show ([V.str "name",V.str "fn",V.str "let"]:List V)=(["name", "fn", "let"]:List Str).map V.str from rfl,this]
   by_cases hm:wd∈(["name", "fn", "let"]:List Str)
   ·rw [decide_eq_true hm,Zd6 hm]
   ·rw [decide_eq_false hm,Jc hm]
  rw [if_neg Ov,em]
  walk_at "r"
  refine A0 (fun h=>?_) (fun h=>?_)
  ·rw [if_pos (of_decide_eq_true h),<- e1] at q
   walk_at "r"
   exact ⟨_,rfl,hn.has.same sm,fun H' s'=>q H' (sm.trans s')⟩
  rw [if_neg (fun x=>h (decide_eq_true x))] at q
  walk_at "r"
  rw [Cv]
  refine A0 (fun h=>?_) (fun h=>?_)
  ·rw [if_pos (of_decide_eq_true h)] at q
   walk_at "r"
   exact ⟨_,_,rfl,hn.same sm,fun H' s'=>q H' (sm.trans s')⟩
  rw [if_neg (fun x=>h (decide_eq_true x)),<- e5] at q
  walk_at "r"
  exact q _ sm
end
theorem Hw {t:Str}(h:Bg t=true):Bs t LET=true/\t.length<=8:=by
 unfold Bg at h
 simp only [Pt,decide_eq_true_eq] at h
 exact ⟨h.1.2,h.1.1.2⟩
noncomputable def SmallV:V->Prop
 | .str s=>s.length<=1000
 | .int _=>True
 | .bl _=>True
 | .non=>True
 | _=>False
theorem SmallV.ty {v:V}(h:SmallV v){K:On}{H:Hp}:∃ t,TyN K H v t/\Cz t "tuple" = false:=by
 cases v with
 | str s=>exact ⟨_,.str s h,rfl⟩
 | int i=>exact ⟨_,.int i,rfl⟩
 | bl b=>exact ⟨_,.bl b,rfl⟩
 | non=>exact ⟨_,.non,rfl⟩
 | _=>exact absurd h id
inductive Dm:Dt->Nt->Prop where
 | fl {v:V} (h:SmallV v):Dm (.flat v) (.fl v)
 | tp {vs:List V} (h:∀ v∈vs,SmallV v):Dm (.tup (vs.map .flat)) (.tp vs)
theorem Zer:∀{vs ws:List V},vs.map Dt.flat=ws.map Dt.flat->vs=ws
 | [],[],_=>rfl
 | [],_::_,h=>nomatch h
 | _::_,[],h=>nomatch h
 | v::r,w::q,h=>by
  rw [Q6,Q6] at h
  injection h with h1 h2
  injection h1 with h1
  rw [h1,Zer h2]
theorem IsN.nt {K:On}{H:Hp}{v:V}{d:Dt}{nt:Nt}(h:IsN K H v d)(hd:Dm d nt):NtAt K H v nt:=by
 cases hd with
 | fl hs =>
  rcases h with ⟨_,e⟩ | ⟨a,vs,_,_,_,e⟩
  ·injection e with e
   obtain ⟨t,h1,h2⟩:=hs.ty (K:=K) (H:=H)
   exact ⟨e.symm,t,h1,h2⟩
  ·cases e
 | @tp ws hs =>
  rcases h with ⟨_,e⟩ | ⟨a,vs,h1,h2,h3,e⟩
  ·cases e
  ·injection e with e
   have:=Zer e
   subst this
   refine ⟨a,h1,h2,fun x hx=>?_⟩
   obtain ⟨t,h4,_⟩:=(hs x hx).ty (K:=K) (H:=H)
   exact ⟨t,h4⟩
theorem Zjb {wd:Str}{m:Nat}:∀{ps:List (Str×Nat)},ps.lookup wd=some m->(wd,m)∈ps
 | [],h=>nomatch h
 | (a,b)::r,h=>by
  rw [Ql] at h
  split at h
  ·rename_i e
   have e:wd=a:=by simpa using e
   cases h
   rw [e]
   exact Su
  ·exact Qz _ (Zjb h)
theorem Ztv:PN.all (fun x=>(Cf (.str x.1) [.str "plus",.str "minus",.str "less",.str "call",.str "let"] == decide (x.2=2)) && (decide (x.1 = "if") == decide (x.2=3)) && (Cf (.str x.1) [.str "fn",.str "rec"] == decide (x.2=1)) && decide (x.2<=3) && decide (x.1.length<=10))=true:=by decide +kernel
theorem Ha {wd:Str}{m:Nat}(h:Bo wd=some m):Cf (.str wd) [.str "plus",.str "minus",.str "less",.str "call",.str "let"]=decide (m=2)/\decide (wd = "if")=decide (m=3)/\Cf (.str wd) [.str "fn",.str "rec"]=decide (m=1)/\m<=3/\wd.length<=10:=by
 have:=Pj.mp Ztv _ (Zjb h)
 simp only [Pt,beq_iff_eq,decide_eq_true_eq] at this
 exact ⟨this.1.1.1.1,this.1.1.1.2,this.1.1.2,this.1.2,this.2⟩
mutual
noncomputable def A6:Tr->Nat
 | .mk _ _ ps=>1+A9 ps
noncomputable def A9:List Tr->Nat
 | []=>0
 | t::r=>max (A6 t) (A9 r)
end
theorem Ej (w:Str)(n:Dt)(ts:List Tr):A6 (.mk w n ts)=1+A9 ts:=by rw [A6]
theorem Zao:A9 []=0:=by rw [A9]
theorem Zgw (t:Tr)(r:List Tr):A9 (t::r)=max (A6 t) (A9 r):=by rw [A9]
theorem Zdg:A6 gapT=1:=by unfold gapT;rw [A6,A9]
theorem Zsb (a b:List Tr):A9 (a++b)=max (A9 a) (A9 b):=by
 induction a with
 | nil=>rw [Uc,A9];omega
 | cons t r ih=>rw [Vo,A9,A9,ih];omega
theorem Na (a:List Tr)(t:Tr):A9 (a++[t])=max (A9 a) (A6 t):=by rw [Zsb,A9,A9];omega
theorem Nu {ts:List Tr}{j:Nat}{t:Tr}(h:ts[j]?=some t):A6 t<=A9 ts:=by
 induction ts generalizing j with
 | nil=>simp at h
 | cons x r ih =>
  rw [A9]
  cases j with
  | zero=>simp at h;subst h;omega
  | succ j=>have:=ih (j:=j) (by simpa using h);omega
theorem Zbw (ts:List Tr)(j:Nat)(u:Tr):A9 (ts.set j u)<=max (A9 ts) (A6 u):=by
 induction ts generalizing j with
 | nil=>simp [A9]
 | cons x r ih =>
  cases j with
  | zero=>rw [Vf,A9,A9];omega
  | succ j=>rw [Vg,A9,A9];have:=ih j;omega
inductive TrOk:Tr->Prop where
 | mk {wd:Str} {d:Dt} {nt:Nt} {ts:List Tr} (hp:Bo wd=some ts.length) (hd:Dm d nt) (hn:Bj wd nt=true) (hs:∀ t∈ts,TrOk t):TrOk (.mk wd d ts)
theorem TrOk.gap:TrOk gapT:=.mk (by decide +kernel) (.fl (v:=.non) trivial) (by decide +kernel) (fun t h=>nomatch h)
theorem TrOk.let {u:Str}{s t:Tr}(hu:Bg u=true)(hs:TrOk s)(ht:TrOk t):TrOk (.mk "let" (.flat (.str u)) [s,t]) :=
 .mk (by show Bo "let" = some 2;decide +kernel) (.fl (show u.length<=1000 by have:=(Hw hu).2;omega)) (by
  have e:Bj "let" (.fl (.str u))=Bg u:=by
   unfold Bj
   rw [if_neg (by decide +kernel),if_neg (by decide +kernel),if_neg (by decide +kernel),if_pos (by decide +kernel)]
   rfl
  rw [e];exact hu) (fun x hx=>by
  simp only [O1,Pk,or_false] at hx
  rcases hx with rfl | rfl <;> assumption)
theorem TrOk.call {s t:Tr}(hs:TrOk s)(ht:TrOk t):TrOk (.mk "call" (.flat .non) [s,t]) :=
 .mk (by show Bo "call" = some 2;decide +kernel) (.fl (v:=.non) trivial) (by decide +kernel) (fun x hx=>by
  simp only [O1,Pk,or_false] at hx
  rcases hx with rfl | rfl <;> assumption)
theorem Zng {ts:List Tr}{t:Tr}(h:∀ x∈ts,TrOk x)(ht:TrOk t):∀ x∈ts++[t],TrOk x:=fun x hx=>by
 rcases Pu.mp hx with hx | hx
 ·exact h x hx
 ·rw [P5.mp hx];exact ht
theorem TrAt.al {K:On}{H H':Hp}{vs:List V}{ts:List Tr}(h:Al (TrAt K H) vs ts)(e:SameT H H'):Al (TrAt K H') vs ts:=h.mono fun _ _ a=>a.sameT e
inductive At:Tr->List Nat->Tr->Prop where
 | nil (t:Tr):At t [] t
 | cons {w:Str} {n:Dt} {ts:List Tr} {j:Nat} {t u:Tr} {r:List Nat} (h:ts[j]?=some t) (s:At t r u):At (.mk w n ts) (j::r) u
mutual
theorem Zix:∀(t:Tr)(x:List Nat×Tr),x∈walk [] t->At t x.1 x.2
 | .mk w n ps,x,h=>by
  rw [walk] at h
  rcases O1.mp h with rfl | h
  ·exact .nil _
  ·obtain ⟨j,t,r,e1,e2,e3⟩:=Ziq 0 ps x h
   rw [e2,Nat.zero_add]
   exact .cons e1 e3
theorem Ziq:∀(i:Nat)(ts:List Tr)(x:List Nat×Tr),x∈B8 [] i ts->∃(j:Nat)(t:Tr)(r:List Nat),ts[j]?=some t/\x.1=(i+j)::r/\At t r x.2
 | _,[],x,h=>by rw [B8] at h;cases h
 | i,t::q,x,h=>by
  rw [B8] at h
  rcases Pu.mp h with h | h
  ·rw [Zdq] at h
   obtain ⟨y,hy,rfl⟩:=List.mem_map.mp h
   exact ⟨0,t,y.1,rfl,rfl,Zix t y hy⟩
  ·obtain ⟨j,t',r,e1,e2,e3⟩:=Ziq (i+1) q x h
   exact ⟨j+1,t',r,by simpa using e1,by rw [e2];congr 1;omega,e3⟩
end
theorem At.det {t u u':Tr}{pl:List Nat}(h:At t pl u)(h':At t pl u'):u=u':=by
 induction h with
 | nil t=>cases h';rfl
 | cons e _ ih =>
  cases h' with
  | cons e' s' =>
   rw [e] at e'
   cases e'
   exact ih s'
theorem At.split {t u:Tr}:∀{a b:List Nat},At t (a++b) u->∃ m,At t a m/\At m b u:=by
 intro a
 induction a generalizing t with
 | nil=>intro b h;exact ⟨t,.nil _,h⟩
 | cons j r ih =>
  intro b h
  cases h with
  | cons e s =>
   obtain ⟨m,h1,h2⟩:=ih s
   exact ⟨m,.cons e h1,h2⟩
theorem At.app {t m u:Tr}{a b:List Nat}(h:At t a m)(h':At m b u):At t (a++b) u:=by
 induction h with
 | nil t=>exact h'
 | cons e _ ih=>exact .cons e (ih h')
theorem At.ok {t u:Tr}{pl:List Nat}(h:At t pl u):TrOk t->TrOk u/\u.size<=t.size:=by
 induction h with
 | nil t=>exact fun o=>⟨o,Oq _⟩
 | cons e _ ih =>
  intro o
  cases o with
  | mk _ _ _ hs =>
   have h1:=ih (hs _ (Pd e))
   have h2:=Jn e
   rw [Tr.size]
   exact ⟨h1.1,by omega⟩
theorem At.step {t u:Tr}{pl:List Nat}(h:At t pl u){k j:Nat}(hk:pl[k]?=some j):∃(w:Str)(n:Dt)(ts:List Tr)(m:Tr),At t (pl.take k) (.mk w n ts)/\ts[j]?=some m/\At t (pl.take (k+1)) m:=by
 have hl:=(Pa.mp hk).1
 have hd:pl.drop k=j::pl.drop (k+1):=by
  rw [Qq hl]
  rw [Ow hl] at hk
  rw [Pi hk]
 have h0:At t (pl.take k++(j::pl.drop (k+1))) u:=by rw [<- hd,List.take_append_drop];exact h
 obtain ⟨m,h1,h2⟩:=h0.split
 cases h2 with
 | cons e s =>
  refine ⟨_,_,_,_,h1,e,?_⟩
  rw [List.take_succ,hk]
  exact h1.app (.cons e (.nil _))
theorem At.len {t u:Tr}{pl:List Nat}(h:At t pl u):pl.length+1<=t.size:=by
 induction h with
 | nil t=>have:=t.size_eq;simp;omega
 | cons e _ ih=>have:=Jn e;rw [Tr.size,Ph];omega
theorem At.sub {t u:Tr}{pl:List Nat}(h:At t pl u):Sub t pl:=by
 induction h with
 | nil t=>exact .nil t
 | cons e _ ih=>exact .cons e ih
theorem At.path {t u:Tr}{pl:List Nat}(h:At t pl u):(path t pl)[pl.length]?=some u:=by
 induction h with
 | nil t=>cases t;rfl
 | cons e _ ih=>rw [Nm e,Ph,Sl];exact ih
theorem At.put {t u f:Tr}{pl:List Nat}(h:At t pl u):At (Bf t pl f) pl f:=by
 induction h with
 | nil t=>rw [Fb];exact .nil _
 | cons e _ ih=>rw [Fd e];exact .cons (Zgn e) ih
theorem At.twice {t u f g:Tr}{pl p:List Nat}(h:At t pl u):Bf (Bf t pl f) (pl++p) g=Bf t pl (Bf f p g):=by
 induction h with
 | nil t=>rw [Fb,Fb,Uc]
 | cons e _ ih=>rw [Fd e,Fd e,Vo,Fd (Zgn e),ih,List.set_set]
theorem Zen {nt:Nt}(h:Go nt=true):nt=.fl .non:=by
 unfold Go at h
 split at h
 ·rfl
 ·cases h
theorem Zgc {t:Tr}(ok:TrOk t)(h:t.wd = "gap"):t=gapT:=by
 cases ok with
 | @mk wd d nt ts hp hd hn hs =>
  have h:wd = "gap" := h
  subst h
  have h0:Bo ("gap" : Str)=some 0:=by decide +kernel
  rw [h0] at hp
  have hl:ts=[]:=R3 (Pi hp).symm
  subst hl
  have hn:Go nt=true:=hn
  have e:=Zen hn
  subst e
  cases hd with
  | fl hv=>rfl
noncomputable def _root_.L2.Tr.note:Tr->Dt
 | .mk _ n _=>n
theorem Zjd (t:Tr):t=.mk t.wd t.note t.ps:=by cases t;rfl
theorem Ziz {t:Tr}(h:TrOk t):∀ x∈t.ps,TrOk x:=by
 cases h with
 | mk _ _ _ hs=>exact hs
section
variable {P:Program}{w:World}{K:On}{mg:Str->Option Value}{base:Heap}
structure Cs where
 d:Addr
 p:Addr
 f:Addr
 c:Addr
 w:Addr
 k:Addr
 n:Addr
 g:Addr
inductive Dd where
 | deed
 | put (t:Tr)
 | fill (t:Tr)
 | cut
 | wrap (t:Tr) (i:Nat)
 | keep (i:Int)
 | note (n:Dt) (nt:Nt)
 | chg (t:Tr)
noncomputable def Dd.cls (c:Cs):Dd->Addr
 | .deed=>c.d
 | .put _=>c.p
 | .fill _=>c.f
 | .cut=>c.c
 | .wrap _ _=>c.w
 | .keep _=>c.k
 | .note _ _=>c.n
 | .chg _=>c.g
noncomputable def FsAt (K:On)(H:Hp)(fs:List (Str×V)):Dd->Prop
 | .deed=>fs=[]
 | .put t=>∃ v,fs=([("form",v)]:List (Str×V))/\TrAt K H v t
 | .fill t=>∃ v,fs=([("form",v)]:List (Str×V))/\TrAt K H v t
 | .cut=>fs=[]
 | .wrap t i=>∃ v,fs=([("form",v),("at",.int (i:Nat))]:List (Str×V))/\TrAt K H v t/\i < t.ps.length/\t.ps.length<=3
 | .keep i=>fs=([("at",.int i)]:List (Str×V))
 | .note n nt=>∃ v,fs=([("note",v)]:List (Str×V))/\IsN K H v n/\Dm n nt
 | .chg t=>∃ v,fs=([("form",v)]:List (Str×V))/\TrAt K H v t
theorem FsAt.same {K:On}{H H':Hp}{fs:List (Str×V)}{d:Dd}(h:FsAt K H fs d)(e:SameT H H'):FsAt K H' fs d:=by
 cases d with
 | deed=>exact h
 | put t=>obtain ⟨v,h1,h2⟩:=h;exact ⟨v,h1,h2.sameT e⟩
 | fill t=>obtain ⟨v,h1,h2⟩:=h;exact ⟨v,h1,h2.sameT e⟩
 | cut=>exact h
 | wrap t i=>obtain ⟨v,h1,h2,h3⟩:=h;exact ⟨v,h1,h2.sameT e,h3⟩
 | keep i=>exact h
 | note n nt=>obtain ⟨v,h1,h2,h3⟩:=h;exact ⟨v,h1,h2.same e,h3⟩
 | chg t=>obtain ⟨v,h1,h2⟩:=h;exact ⟨v,h1,h2.sameT e⟩
noncomputable def DdAt (K:On)(c:Cs)(H:Hp)(x:V)(d:Dd):Prop:=∃ a dx fs,x=.ref a/\H a=some (.ins (d.cls c) dx fs)/\FsAt K H fs d
theorem DdAt.same {K:On}{c:Cs}{H H':Hp}{x:V}{d:Dd}(h:DdAt K c H x d)(e:Same H H'):DdAt K c H' x d:=by
 obtain ⟨a,dx,fs,h1,h2,h3⟩:=h
 exact ⟨a,dx,fs,h1,e _ _ h2,h3.same e.t⟩
theorem DdAt.off {K:On}{c:Cs}{H:Hp}{x:V}{d:Dd}{p:Addr}{xs:List V}{o:HO}(h:DdAt K c H x d)(hp:H p=some (.lst xs)):DdAt K c (upd H p o) x d:=by
 obtain ⟨a,dx,fs,h1,h2,h3⟩:=h
 exact ⟨a,dx,fs,h1,by rw [Ay (fun z=>by rw [z,hp] at h2;cases h2)];exact h2,h3.same (SameT.set hp)⟩
theorem FsAt.nd {K:On}{H:Hp}{fs:List (Str×V)}{d:Dd}(h:FsAt K H fs d):fs.lookup ("done" : Str)=none:=by
 cases d with
 | deed=>cases h;rfl
 | put t=>obtain ⟨v,rfl,_⟩:=h;rfl
 | fill t=>obtain ⟨v,rfl,_⟩:=h;rfl
 | cut=>cases h;rfl
 | wrap t i=>obtain ⟨v,rfl,_⟩:=h;rfl
 | keep i=>cases h;rfl
 | note n nt=>obtain ⟨v,rfl,_⟩:=h;rfl
 | chg t=>obtain ⟨v,rfl,_⟩:=h;rfl
noncomputable def Bb (t:Tr):Dd->Option Tr
 | .deed=>some t
 | .put p=>if t.wd = "gap" then some p else none
 | .fill p=>if t.wd = "gap" then some p else none
 | .cut=>if t.wd = "gap" then none else some gapT
 | .wrap p i=>some (.mk p.wd p.note (p.ps.set i t))
 | .keep i=>if 0<=i/\i < (t.ps.length:Int) then t.ps[i.toNat]? else none
 | .note n nt=>if Bj t.wd nt=true then some (.mk t.wd n t.ps) else none
 | .chg p=>some p
structure B1 (K:On)(mg:Str->Option Value)(x:Str)(C:Addr):Prop where
 cl:Cls K C
 at_:mg x=some (.ref C)
 nf:NoAttr K C "form"
 na:NoAttr K C "at"
 nn:NoAttr K C "note"
noncomputable def Cs.Apart (c:Cs):Prop:=[c.d,c.p,c.f,c.c,c.w,c.k,c.n,c.g].Nodup
theorem Cs.Apart.dd {c:Cs}(A:c.Apart){d e:Dd}(h:d.cls c=e.cls c):(∃ t,d=.put t/\∃ u,e=.put u)\/(∃ t,d=.fill t/\∃ u,e=.fill u)\/(∃ t i,d=.wrap t i/\∃ u j,e=.wrap u j)\/(∃ i,d=.keep i/\∃ j,e=.keep j)\/(∃ n m,d=.note n m/\∃ n' m',e=.note n' m')\/(∃ t,d=.chg t/\∃ u,e=.chg u)\/(d=.deed/\e=.deed)\/(d=.cut/\e=.cut):=by
 unfold Cs.Apart at A
 simp only [Tf,O1,Pk,or_false,not_or] at A
 obtain ⟨⟨a1,a2,a3,a4,a5,a6,a7⟩,⟨b1,b2,b3,b4,b5,b6⟩,⟨c1,c2,c3,c4,c5⟩,⟨d1,d2,d3,d4⟩,⟨e1,e2,e3⟩,⟨f1,f2⟩,g1,_⟩:=A
 cases d <;> cases e <;> dsimp only [Dd.cls] at h <;> first
  | exact .inl ⟨_,rfl,_,rfl⟩
  | exact .inr (.inl ⟨_,rfl,_,rfl⟩)
  | exact .inr (.inr (.inl ⟨_,_,rfl,_,_,rfl⟩))
  | exact .inr (.inr (.inr (.inl ⟨_,rfl,_,rfl⟩)))
  | exact .inr (.inr (.inr (.inr (.inl ⟨_,_,rfl,_,_,rfl⟩))))
  | exact .inr (.inr (.inr (.inr (.inr (.inl ⟨_,rfl,_,rfl⟩)))))
  | exact .inr (.inr (.inr (.inr (.inr (.inr (.inl ⟨rfl,rfl⟩))))))
  | exact .inr (.inr (.inr (.inr (.inr (.inr (.inr ⟨rfl,rfl⟩))))))
  | exact absurd h (by assumption)
  | exact absurd h.symm (by assumption)
noncomputable def C1 (K:On)(c:Cs)(ND C:Addr):Sp:=fun vs H Q E=>∃ x d y t,vs=[x,y]/\DdAt K c H x d/\d.cls c=C/\TrAt K H y t/\TrOk t/\(∀ u,Bb t d=some u->∀ v H',Same H H'->TrAt K H' v u->Q v H')/\(Bb t d=none->∀ H',Same H H'->E (.ref ND) none H')
theorem Cn {K:On}{H:Hp}{v:V}{t:Tr}(h:TrAt K H v t):∃(a p:Addr)(n:V),v=.ref a/\SqT K H a [.str t.wd,n,.ref p]:=by
 cases h with
 | mk q hn qp l hs=>exact ⟨_,_,_,rfl,q⟩
structure Kf (K:On)(ag:Addr):Prop where
 at_:∀ H,TrAt K H (.ref ag) gapT
noncomputable def SameB (a:Addr)(H H':Hp):Prop:=∀ b o,b≠a->H b=some o->H' b=some o
theorem SameB.made {x dx C:Addr}{fs:List (Str×V)}{H H':Hp}(e:SameB x (upd (upd H dx (.own x)) x (.ins C dx fs)) H')(h1:H x=none)(h2:H dx=none):Same H H':=fun b o h=>by
 have hx:b≠x:=fun z=>by rw [z,h1] at h;cases h
 have hd:b≠dx:=fun z=>by rw [z,h2] at h;cases h
 exact e b o hx (by rw [Ay hx,Ay hd];exact h)
theorem _root_.L2.Same.made {H:Hp}{x dx C:Addr}{fs:List (Str×V)}(h1:H x=none)(h2:H dx=none)(h3:dx≠x):Same H (upd (upd H dx (.own x)) x (.ins C dx fs)) :=
 (Same.upd h2).trans (Same.upd (by rw [Ay h3.symm];exact h1))
theorem Zaw {H:Hp}{a C dx:Addr}{fs:List (Str×V)}(ha:H a=some (.ins C dx fs))(o:HO):SameT H (upd H a o):=fun b=>⟨fun xs h=>by
 have:b≠a:=fun z=>by rw [z,ha] at h;cases h
 rw [Ay this];exact h,fun o u h=>by
 have:b≠a:=fun z=>by rw [z,ha] at h;cases h
 rw [Ay this];exact h⟩
mutual
noncomputable def trD:Tr->Dt
 | .mk w n ps=>.tup [.flat (.str w),n,.tup (Fq ps)]
noncomputable def Fq:List Tr->List Dt
 | []=>[]
 | t::r=>trD t::Fq r
end
theorem Zfe:∀ ts:List Tr,(Fq ts).length=ts.length
 | []=>by rw [Fq];rfl
 | t::r=>by rw [Fq,Ph,Zfe r,Ph]
theorem Zg7:∀(ts:List Tr)(j:Nat),(Fq ts)[j]?=(ts[j]?).map trD
 | [],j=>by rw [Fq];simp
 | t::r,0=>by rw [Fq];simp
 | t::r,j+1=>by rw [Fq,Sl,Sl,Zg7 r j]
theorem Cw {K:On}{H:Hp}{v:V}{t:Tr}(h:TrAt K H v t):∀{n:Nat},2 * A6 t<=n->IsD K H n v (trD t):=by
 induction h with
 | @mk a p wd nv nt vs ts q hn qp l hc ih =>
  intro n hd
  rw [A6] at hd
  obtain ⟨m,rfl⟩:∃ m,n=m+1+1:=⟨n - 2,by omega⟩
  rw [trD]
  refine .tup q rfl fun j v d h1 h2=>?_
  match j,h1,h2 with
  | 0,h1,h2=>cases h1;cases h2;exact .flat rfl
  | 1,h1,h2=>cases h1;cases h2;exact hn.d.up (by omega)
  | 2,h1,h2 =>
   cases h1;cases h2
   refine .tup qp (by rw [Zfe];exact l) fun j v d h1 h2=>?_
   rw [Zg7] at h2
   obtain ⟨t,ht,rfl⟩:=Option.map_eq_some_iff.mp h2
   have:=Nu ht
   exact ih j v t h1 ht (by omega)
end
section
variable {P:Program}{w:World}{K:On}{mg:Str->Option Value}{base:Heap}
noncomputable def Nq (K:On):Sp:=fun vs H Q _=>∃(v:V)(t:Tr)(k:Int),vs=[v,.int k]/\TrAt K H v t/\Q (.bl (decide (0<=k/\k < (t.ps.length:Int)))) H
theorem Zpg:Aw ["form", "number"] ["form", "number"] (Aj Ke):=by walk_at "sc"
theorem Zn8 {f:Addr}{fd:FuncData}(F:Fun K "has_part" "has_part" Ke f fd)(T:Txt K mg)(C_is_whole:As P w K mg base 1 "is_whole" ["thing"] (Zbn K)):FnOk P w K mg base An 2 f fd ["form", "number"] (Nq K):=by
 refine F.okq Zpg (fun vs H Q E h=>?_) (fun cdv A outer s H vs Q E hr h=>?_)
 ·obtain ⟨v,t,k,rfl,_⟩:=h
  rfl
 ·obtain ⟨v,t,k,rfl,ht,q⟩:=h
  refine ⟨_,Ad (Ah (De (Am C_is_whole hr.m (Aa (qv 1) Ab)) (Eg (Zcv Eb Nf Ac (qv 1) (A8 (Cd K) (by rfl) T.len (by decide +kernel) (Aa (Ai K (qv 0) Ac) Ab)))))),?_⟩
  cases ht with
  | @mk b pp wd nv nd us ps qb hn qp l hch =>
  have q:Q (.bl (decide (0<=k/\k < (ps.length:Int)))) H:=q
  walk_at "r"
  refine ⟨_,rfl,⟨_,.int k⟩,?_⟩
  show ∃ b,V.bl true=V.bl b/\_
  walk_at "r"
  refine A0 (fun c=>?_) (fun c=>?_)
  ·have c:0<=k:=by simpa using c
   walk_at "r"
   refine Af qb rfl ?_
   walk_at "r"
   refine Gp qp ?_
   walk_at "r"
   have e:decide (k < (us.length:Int))=decide (0<=k/\k < (ps.length:Int)):=by rw [l];exact decide_eq_decide.mpr ⟨fun h=>⟨c,h⟩,fun h=>h.2⟩
   rw [e]
   exact q
  ·have c:¬ 0<=k:=fun h=>c (by simpa using h)
   have e:decide (0<=k/\k < (ps.length:Int))=false:=decide_eq_false fun h=>c h.1
   rw [e] at q
   walk_at "r"
   exact q
theorem Zhu {α:Type}{xs:List α}{x:α}(h:xs[xs.length - 1]?=some x):Bh xs (-1)=some x:=by
 have hl:=(Pa.mp h).1
 unfold Bh C7
 rw [if_neg (by omega),if_pos (by omega)]
 have e:((-1:Int)+(xs.length:Int)).toNat=xs.length - 1:=by omega
 simpa [e] using h
theorem Zdm {α:Type}{xs:List α}{i:Int}{x:α}(j:Nat)(hj:(j:Int)=i)(h:xs[j]?=some x):Bh xs i=some x:=by
 have hl:=(Pa.mp h).1
 subst hj
 unfold Bh C7
 rw [if_pos (by omega),if_pos (by omega)]
 simpa using h
theorem Za2 {pl:List Nat}{i:Nat}{v:V}(h:(Bq pl)[i]?=some v):∃ k,v=.int (k:Nat)/\pl[i]?=some k:=by
 unfold Bq at h
 rw [R9] at h
 cases e:pl[i]? with
 | none=>rw [e] at h;cases h
 | some x=>rw [e] at h;exact ⟨x,(Pi h).symm,rfl⟩
theorem J0 (pl:List Nat):(Bq pl).length=pl.length:=by unfold Bq;simp
noncomputable def Zbi (K:On):Sp:=fun vs H Q _=>∃(v:V)(t:Tr)(p:Addr)(pl:List Nat),vs=[v,.ref p]/\TrAt K H v t/\SqT K H p (Bq pl)/\Sub t pl/\pl.length<=1000 /\
 ∀(q:Addr)(ws:List V)(H':Hp),H q=none->Same H H'->H' q=some (.lst ws)->Al (TrAt K H') ws (path t pl)->Q (.ref q) H'
theorem sc_forms_down_to:Aw ["tree", "place", "passed", "number"] ["tree", "place"] (Aj Mt):=by walk_at "sc"
theorem Znk {f:Addr}{fd:FuncData}(F:Fun K "forms_down_to" "forms_down_to" Mt f fd)(T:Txt K mg)(C_has_part:As P w K mg base 2 "has_part" ["form", "number"] (Nq K)):FnOk P w K mg base An 3 f fd ["tree", "place"] (Zbi K):=by
 refine F.okq sc_forms_down_to (fun vs H Q E h=>?_) (fun cdv A outer s H vs Q E hr h=>?_)
 ·obtain ⟨v,t,p,pl,rfl,_⟩:=h
  rfl
 ·obtain ⟨v,t,p,pl,rfl,ht,hp,hs,hl,q⟩:=h
  refine ⟨_,Ae (Az 2 sc_forms_down_to (B6 (Aa (qv 0) Ab)))
   (Ae (Dw Pw rfl (Fs K (qv 1)) (Bc (i:=3) sc_forms_down_to.nd rfl (Or.inl rfl)) (Ae (Aq (B3 (Bu (Am C_has_part hr.m (Aa (Ai K (qv 2) (Hs Ix Ac)) (Aa (qv 3) Ab))))) (Ad Hm) Ar)
   (Ad (Cc (Ea K Ps Qw Qx E1 (qv 2) (Aa (Ai K (Ai K (Ai K (qv 2) (Hs Ix Ac)) Ac) (qv 3)) Ab))))))
   (Ad (Ah (qv 2)))),?_⟩
  have bg:=Ce
  walk_at "r"
  refine ⟨Cu,fun q0 hq0=>?_⟩
  obtain ⟨H1,s1,e1,z9⟩:=newQ hq0 (.lst [v])
  rw [z9]
  walk_at "r"
  refine .inr (.inl ⟨p,rfl,⟨_,s1.tup hp⟩,?_⟩)
  have p0:(path t pl).take 1=[t]:=by
   have:=Zd4 t pl
   cases e:path t pl with
   | nil=>rw [e] at this;cases this
   | cons a r =>
    rw [e] at this
    have h:a=t:=by simpa using this
    rw [h]
    rfl
  refine Zfy (K:=K) (a:=p) (xs:=Bq pl) (fun i σ' H'=>∃ w3 ws,σ'=[some v,some (.ref p),some (.ref q0),w3]/\H' q0=some (.lst ws)/\Al (TrAt K H') ws ((path t pl).take (i+1))/\Same H H') ⟨none,[v],rfl,e1,by rw [p0];exact Al.nil.snoc (ht.same s1),s1⟩ ?_ ?_ ?_
  ·rintro i σ' H' _ ⟨_,_,_,_,_,sm⟩
   exact sm.tup hp
  ·rintro i x σ' H' hx ⟨w3,ws,rfl,e2,al,sm⟩
   obtain ⟨k,rfl,hk⟩:=Za2 hx
   obtain ⟨w',n',ps,u,a1,a2,a3⟩:=Zeb hs i k hk
   have hi:=(Pa.mp hk).1
   have hpl:=Oa hs
   have hwl:ws.length=i+1:=by rw [al.1,Qe];omega
   have hx1:((path t pl).take (i+1))[i]?=some (.mk w' n' ps):=by rw [List.getElem?_take,if_pos (by omega)];exact a1
   obtain ⟨vi,hvi,hti⟩:=al.get' hx1
   have hlast:Bh ws (-1)=some vi:=Zhu (by rw [hwl];exact hvi)
   cases hti with
   | @mk b pp _ nv _ us _ qb hn qp l hch =>
   have hku:k < us.length:=by rw [l];exact (Pa.mp a2).1
   walk_at "r"
   refine Cy (SqL.of e2) hlast ?_
   walk_at "r"
   refine ⟨_,_,_,rfl,.mk qb hn qp l hch,?_⟩
   rw [decide_eq_true (show (0:Int)<=(k:Nat)/\((k:Nat):Int) < (((Tr.mk w' n' ps).ps.length:Nat):Int) from ⟨by omega,by show ((k:Nat):Int) < ((ps.length:Nat):Int);omega⟩)]
   walk_at "r"
   refine Dg (SqL.of e2) ?_
   walk_at "r"
   refine Cy (SqL.of e2) hlast ?_
   walk_at "r"
   refine Af qb rfl ?_
   walk_at "r"
   refine Af qp (Zdm k rfl (Ow hku)) ?_
   walk_at "r"
   refine G8 e2 (by omega) ?_
   walk_at "r"
   have t3:SameT H' (upd H' q0 (.lst (ws++[us[k]]))):=SameT.set e2
   refine ⟨_,ws++[us[k]],rfl,Ag,?_,sm.over hq0⟩
   have e3:(path t pl).take (i+1+1)=(path t pl).take (i+1)++[u]:=by rw [Vk,a3];rfl
   rw [e3]
   exact (al.mono fun _ _ z=>z.sameT t3).snoc ((hch k _ u (Ow hku) a2).sameT t3)
  ·rintro σ' H' ⟨w3,ws,rfl,e2,al,sm⟩
   rw [J0,Rt (by rw [Oa hs];omega)] at al
   walk_at "r"
   exact q q0 ws H' hq0 sm e2 al
noncomputable def Zhs (K:On):Sp:=fun vs H Q _=>∃(v:V)(t:Tr)(p:Addr)(pl:List Nat)(tx:Tr),vs=[v,.ref p]/\TrAt K H v t/\SqT K H p (Bq pl)/\Sub t pl/\pl.length<=1000/\(path t pl)[pl.length]?=some tx /\
 ∀(u:V)(H':Hp),Same H H'->TrAt K H' u tx->Q u H'
theorem Ztz:Aw ["tree", "place"] ["tree", "place"] (Aj Jt):=by walk_at "sc"
theorem Zqq {f:Addr}{fd:FuncData}(F:Fun K "form_at" "form_at" Jt f fd)(T:Txt K mg)(C_forms_down_to:As P w K mg base 3 "forms_down_to" ["tree", "place"] (Zbi K)):FnOk P w K mg base An 4 f fd ["tree", "place"] (Zhs K):=by
 refine F.okq Ztz (fun vs H Q E h=>?_) (fun cdv A outer s H vs Q E hr h=>?_)
 ·obtain ⟨v,t,p,pl,tx,rfl,_⟩:=h
  rfl
 ·obtain ⟨v,t,p,pl,tx,rfl,ht,hp,hs,hl,hx,q⟩:=h
  refine ⟨_,Ad (Ah (Ai K (Am C_forms_down_to hr.m (Aa (qv 0) (Aa (qv 1) Ab))) (Hs Ix Ac))),?_⟩
  have hpl:=Oa hs
  walk_at "r"
  refine ⟨v,t,p,pl,rfl,ht,hp,hs,hl,fun q1 ws H1 hq1 s1 e1 al=>?_⟩
  obtain ⟨u,hu,hat⟩:=al.get' hx
  have hwl:ws.length - 1=pl.length:=by rw [al.1,hpl];omega
  walk_at "r"
  refine Cy (SqL.of e1) (Zhu (by rw [hwl];exact hu)) ?_
  exact q u H1 s1 hat
noncomputable def Zdd (K:On):Sp:=fun vs H Q _=>∃(v u:V)(w:Str)(n:Dt)(ps:List Tr)(tu:Tr)(k:Nat),vs=[v,.int (k:Nat),u]/\TrAt K H v (.mk w n ps)/\TrAt K H u tu/\k < ps.length/\ps.length<=1000 /\
 ∀(v':V)(H':Hp),Same H H'->TrAt K H' v' (.mk w n (ps.set k tu))->Q v' H'
theorem Zfc {α:Type}{xs:List α}{k:Nat}{x:α}(h:k < xs.length):xs.take k++[x]++xs.drop (k+1)=xs.set k x:=by
 rw [List.set_eq_take_append_cons_drop,if_pos h,Ua]
 rfl
theorem Zeq:Aw ["form", "number", "part", "parts"] ["form", "number", "part"] (Aj Mh):=by walk_at "sc"
theorem Zrp {f:Addr}{fd:FuncData}(F:Fun K "with_part" "with_part" Mh f fd)(T:Txt K mg):FnOk P w K mg base An 1 f fd ["form", "number", "part"] (Zdd K):=by
 refine F.okq Zeq (fun vs H Q E h=>?_) (fun cdv A outer s H vs Q E hr h=>?_)
 ·obtain ⟨v,u,w,n,ps,tu,k,rfl,_⟩:=h
  rfl
 ·obtain ⟨v,u,w,n,ps,tu,k,rfl,ht,hu,hk,hl,q⟩:=h
  refine ⟨_,Ae (Az 3 Zeq (Ai K (qv 0) Ac))
   (Ad (Ah (A3 (Aa (Ai K (qv 0) Ac) (Aa (Ai K (qv 0) Ac) (Aa (A2 (Bp K) (A2 (Bp K) (Hv (Jr K) (qv 3) (Iu) (Jd (qv 1))) (A3 (Aa (qv 2) Ab))) (Hv (Jr K) (qv 3) (Jd (A2 (Bp K) (qv 1) Ac)) (Iu))) Ab)))))),?_⟩
  have bg:=Ce
  cases ht with
  | @mk b pp _ nv _ us _ qb hn qp l hch =>
  walk_at "r"
  refine Af qb rfl ?_
  walk_at "r"
  refine Af qb rfl ?_
  walk_at "r"
  refine Af qb rfl ?_
  walk_at "r"
  refine Md qp fun r1 H1 s1 q1=>?_
  rw [Zam] at q1
  walk_at "r"
  refine ⟨Cu,fun p2 h2=>?_⟩
  have s2:=Same.upd (o:=.tup [u]) h2
  refine F1 (s2.tup q1) (SqT.of Ag) (by rw [Qe];show _+1<=sizeLine;omega) fun r3 H3 s3 q3=>?_
  have s13:=s1.trans (s2.trans s3)
  walk_at "r"
  refine Md (s13.tup qp) fun r4 H4 s4 q4=>?_
  have ek:(k:Int)+1=((k+1:Nat):Int):=by omega
  rw [ek,Zgr] at q4
  refine F1 (s4.tup q3) q4 (by rw [Pb,Qe,Tc];show _+1+_<=sizeLine;omega) fun r5 H5 s5 q5=>?_
  rw [Zfc (by omega)] at q5
  walk_at "r"
  refine ⟨B0,fun p6 h6=>?_⟩
  have s6:=Same.upd (o:=.tup [.str w,nv,.ref r5]) h6
  have sm:=s13.trans (s4.trans (s5.trans s6))
  refine q (.ref p6) _ sm (.mk (SqT.of Ag) (hn.same sm.t) (s6.tup q5) (by rw [P0,P0];exact l) fun j x y g1 g2=>?_)
  by_cases e:k=j
  ·subst e
   rw [Qy (by omega)] at g1 g2
   cases g1
   cases g2
   exact hu.same sm
  ·rw [R6 e] at g1 g2
   exact (hch j x y g1 g2).same sm
noncomputable def Ziu (K:On):Sp:=fun vs H Q _=>∃(v u:V)(t tu:Tr)(p:Addr)(pl:List Nat),vs=[v,.ref p,u]/\TrAt K H v t/\SqT K H p (Bq pl)/\Sub t pl/\pl.length<=1000/\t.size<=1000/\TrAt K H u tu /\
 ∀(v':V)(H':Hp),Same H H'->TrAt K H' v' (Bf t pl tu)->Q v' H'
theorem Zue {t:Tr}{pl:List Nat}(s:Sub t pl):∀ u∈path t pl,u.size<=t.size:=by
 induction s with
 | nil t=>intro u hu;cases t;rw [path,P5] at hu;rw [hu];exact Oq _
 | cons hj _ ih =>
  intro u hu
  rw [Nm hj] at hu
  rcases O1.mp hu with rfl | hu
  ·exact Oq _
  ·have:=ih u hu
   have:=Jn hj
   rw [Tr.size]
   omega
theorem sc_with_at:Aw ["tree", "place", "form", "made", "number", "above"] ["tree", "place", "form"] (Aj Lf):=by walk_at "sc"
theorem Zt6 {f:Addr}{fd:FuncData}(F:Fun K "with_at" "with_at" Lf f fd)(T:Txt K mg)(C_forms_down_to:As P w K mg base 3 "forms_down_to" ["tree", "place"] (Zbi K))(C_with_part:As P w K mg base 1 "with_part" ["form", "number", "part"] (Zdd K)):FnOk P w K mg base An 4 f fd ["tree", "place", "form"] (Ziu K):=by
 refine F.okq sc_with_at (fun vs H Q E h=>?_) (fun cdv A outer s H vs Q E hr h=>?_)
 ·obtain ⟨v,u,t,tu,p,pl,rfl,_⟩:=h
  rfl
 ·obtain ⟨v,u,t,tu,p,pl,rfl,ht,hp,hs,hl,hz,hu,q⟩:=h
  refine ⟨_,Ae (Az 3 sc_with_at (qv 2))
   (Ae (Dw Pw rfl (Zif K rfl T.reversed (Aa (Zvi K (by rfl) T.list (by rfl) T.zip (Aa (qv 1) (Aa (Am C_forms_down_to hr.m (Aa (qv 0) (Aa (qv 1) Ab))) Ab))) Ab)) (Gn K (n:=2) rfl (C4 (Bc (i:=4) sc_with_at.nd rfl (Or.inl rfl)) (C4 (Bc (i:=5) sc_with_at.nd rfl (Or.inl rfl)) (Gx)))) (Ad (Az 3 sc_with_at (Am C_with_part hr.m (Aa (qv 5) (Aa (qv 4) (Aa (qv 3) Ab)))))))
   (Ad (Ah (qv 3)))),?_⟩
  have hpl:=Oa hs
  walk_at "r"
  refine ⟨v,t,p,pl,rfl,ht,hp,hs,hl,fun q1 ws H1 hq1 s1 e1 al=>?_⟩
  walk_at "r"
  refine ⟨p,q1,_,ws,rfl,s1.tup hp,SqL.of e1,fun S zs H2 hS s2 hzl hpairs hS2=>?_⟩
  have hzl:zs.length=pl.length:=by rw [hzl,J0,al.1,hpl];omega
  walk_at "r"
  refine ⟨S,zs,rfl,SqL.of hS2,?_⟩
  have s12:=s1.trans s2
  have hlastp:(path t pl)[pl.length]?=some ((path t pl)[pl.length]'(by omega)):=Ow (by omega)
  refine Ze9 (K:=K) (a:=S) (xs:=zs) (fun j σ' H'=>∃ w4 w5 m tm,σ'=[some v,some (.ref p),some u,some m,w4,w5]/\(path t pl)[pl.length - j]?=some tm/\TrAt K H' m (Bf tm (pl.drop (pl.length - j)) tu)/\Same H2 H') ⟨none,none,u,_,rfl,hlastp,by rw [Tp,R4 (Oq _),Fb];exact hu.same s12,Same.refl _⟩ ?_ ?_ ?_
  ·rintro j σ' H' _ ⟨_,_,_,_,_,_,_,sm⟩
   exact SqL.of (sm _ _ hS2)
  ·rintro j z σ' H' hj hz1 ⟨w4,w5,m,tm,rfl,htm,hm,sm⟩
   obtain ⟨tt,x,y,rfl,hx,hy,htt⟩:=hpairs _ _ hz1
   obtain ⟨k,rfl,hk⟩:=Za2 hx
   obtain ⟨w',n',ps,u',a1,a2,a3⟩:=Zeb hs _ k hk
   rw [hzl] at hk a1 a3 hy hj
   obtain ⟨ty,hty,hat⟩:=al.get hy
   rw [a1] at hty
   cases hty
   have e2:pl.length - 1 - j+1=pl.length - j:=by omega
   rw [e2,htm] at a3
   cases a3
   have hps:ps.length<=1000:=by
    have:=Zue hs _ (Pd a1)
    rw [Tr.size] at this
    have:=J3 ps
    omega
   walk_at "r"
   refine Gq (SqT.of (sm _ _ htt)) rfl ?_
   walk_at "r"
   refine ⟨y,m,w',n',ps,_,k,rfl,hat.same (s2.trans sm),hm,(Pa.mp a2).1,hps,fun v' H3 s3 hv'=>?_⟩
   walk_at "r"
   have e3:pl.length - (j+1)=pl.length - 1 - j:=by omega
   refine ⟨_,_,v',_,rfl,by rw [e3];exact a1,?_,sm.trans s3⟩
   rw [e3,Zjt hs _ k w' n' ps tm hk a1 (by rw [e2];exact htm),e2]
   exact hv'
  ·rintro σ' H' ⟨w4,w5,m,tm,rfl,htm,hm,sm⟩
   rw [hzl,To] at htm hm
   rw [Zd4] at htm
   cases htm
   walk_at "r"
   exact q m H' (s12.trans sm) hm
noncomputable def Zir (K:On):Sp:=fun vs H Q _=>∃(s:Str)(n:Nat),vs=[.str s]/\Has K H (.str s)/\Bo s=some n/\Q (.int (n:Nat)) H
theorem Zmz:Aw ["word"] ["word"] (Aj Ju):=by walk_at "sc"
theorem Zs3 {f:Addr}{fd:FuncData}(F:Fun K "many_parts" "many_parts" Ju f fd)(T:Txt K mg)(G:Gs P w K mg)(C_is_word:As P w K mg base 1 "is_word" ["thing"] (Zaj K)):FnOk P w K mg base An 2 f fd ["word"] (Zir K):=by
 refine F.okq Zmz (fun vs H Q E h=>?_) (fun cdv A outer s H vs Q E hr h=>?_)
 ·obtain ⟨s,n,rfl,_⟩:=h
  rfl
 ·obtain ⟨t,n,rfl,hv,hn,q⟩:=h
  obtain ⟨ap,G_PARTS_OF_WORDS,hp⟩:=G.pw
  refine ⟨_,Ae (Aq (B3 (Bu (Am C_is_word hr.m (Aa (qv 0) Ab)))) (Ad Hm) Ar)
   (Ad (Ah (J9 (Zh5 P w K) (F0 G_PARTS_OF_WORDS) (qv 0) (fun _ _=>rfl)))),?_⟩
  walk_at "r"
  refine ⟨_,rfl,hv,?_⟩
  have hw:Mx (.str t)=true:=by show (Bo t).isSome=true;rw [hn];rfl
  rw [hw]
  walk_at "r"
  refine ⟨ap,Hy,t,.int (n:Nat),rfl,rfl,hp,by rw [Zat,hn];rfl,?_⟩
  exact q
theorem Ls {s:Str}{n:Nat}(h:Bo s=some n):n<=3:=by
 have all:PN.all (fun p=>decide (p.2<=3))=true:=by decide +kernel
 unfold Bo at h
 have gen:∀ ps:List (Str×Nat),ps.all (fun p=>decide (p.2<=3))=true->ps.lookup s=some n->n<=3:=by
  intro ps
  induction ps with
  | nil=>intro _ h;cases h
  | cons p r ih =>
   intro ha h
   rw [Ry,Pt] at ha
   rw [Ql] at h
   split at h
   ·cases h;exact of_decide_eq_true ha.1
   ·exact ih ha.2 h
 exact gen PN all h
noncomputable def BareAt (K:On)(ag:Addr)(H:Hp)(r:Addr)(s:Str)(nv:V)(n:Nat):Prop:=∃ pp,SqT K H r [.str s,nv,.ref pp]/\SqT K H pp (Oy n (.ref ag))
theorem BareAt.same {K:On}{ag:Addr}{H H':Hp}{r:Addr}{s:Str}{nv:V}{n:Nat}(h:BareAt K ag H r s nv n)(e:SameT H H'):BareAt K ag H' r s nv n:=by
 obtain ⟨pp,h1,h2⟩:=h
 exact ⟨pp,e.tup h1,e.tup h2⟩
theorem BareAt.tr {K:On}{ag:Addr}{H:Hp}{r:Addr}{s:Str}{nv:V}{n:Nat}{d:Dt}(GA:Kf K ag)(h:BareAt K ag H r s nv n)(hn:IsN K H nv d):TrAt K H (.ref r) (.mk s d (Oy n gapT)):=by
 obtain ⟨pp,h1,h2⟩:=h
 refine .mk h1 hn h2 (by simp) fun j v t e1 e2=>?_
 rw [Rf (Pd e1),Rf (Pd e2)]
 exact GA.at_ H
theorem Zm4 (n:Nat)(x:V):(Oy n [x]).flatten=Oy n x:=by
 induction n with
 | zero=>rfl
 | succ n ih=>rw [Q0,Sz,ih,Q0];rfl
noncomputable def Zbj (K:On)(ag:Addr):Sp:=fun vs H Q _=>∃(s:Str)(nv:V)(nt:Nt)(n:Nat),vs=[.str s,nv]/\Has K H (.str s)/\NtAt K H nv nt/\Bo s=some n/\Bj s nt=true/\∀(r:Addr)(H':Hp),Same H H'->BareAt K ag H' r s nv n->Q (.ref r) H'
theorem Zhq:Aw ["word", "note", "many"] ["word", "note"] (Aj Lh):=by walk_at "sc"
theorem Zly {ag:Addr}{f:Addr}{fd:FuncData}(F:Fun K "bare" "bare" Lh f fd)(T:Txt K mg)(G_GAP:Fc mg "GAP" (.ref ag))(C_many_parts:As P w K mg base 2 "many_parts" ["word"] (Zir K))(C_is_note:As P w K mg base 3 "is_note" ["word", "note"] (Ny K)):FnOk P w K mg base An 4 f fd ["word", "note"] (Zbj K ag):=by
 refine F.okq Zhq (fun vs H Q E h=>?_) (fun cdv A outer s H vs Q E hr h=>?_)
 ·obtain ⟨v,nv,nt,n,rfl,_⟩:=h
  rfl
 ·obtain ⟨s,nv,nt,n,rfl,hv,hn,hp,hb,q⟩:=h
  refine ⟨_,Ae (Az 2 Zhq (Am C_many_parts hr.m (Aa (qv 0) Ab)))
   (Ae (Aq (B3 (Bu (Am C_is_note hr.m (Aa (qv 0) (Aa (qv 1) Ab))))) (Ad Hm) Ar)
   (Ad (Ah (A3 (Aa (qv 0) (Aa (qv 1) (Aa (A2 (Zmt K) (A3 (Aa (F0 G_GAP) Ab)) (qv 2)) Ab))))))),?_⟩
  have n3:=Ls hp
  walk_at "r"
  refine ⟨s,n,rfl,hv,hp,?_⟩
  walk_at "r"
  refine ⟨s,nv,nt,rfl,hn,fun H1 s1=>?_⟩
  rw [hb]
  walk_at "r"
  refine ⟨Cu,fun p1 hp1=>?_⟩
  have s2:=Same.upd (o:=.tup [.ref ag]) hp1
  walk_at "r"
  refine Zvw (xs:=[.ref ag]) (SqT.of Ag) (by simp) (by omega) (by omega) (by show ((1:Nat):Int) * (n:Int)<=1000;omega) fun r1 H3 s3 q3=>?_
  walk_at "r"
  refine ⟨B0,fun r hr3=>?_⟩
  have s4:=Same.upd (o:=.tup [.str s,nv,.ref r1]) hr3
  refine q r _ (s1.trans (s2.trans (s3.trans s4))) ⟨r1,SqT.of Ag,?_⟩
  have:=s4.tup q3
  rw [show ((n:Nat):Int).toNat=n from by simp,Zm4] at this
  exact this
noncomputable def Zby (K:On)(ND:Addr):Sp:=fun vs H Q E=>∃ v t,vs=[v]/\TrAt K H v t/\(t.wd = "gap" -> Q .non H)/\(t.wd ≠ "gap" -> E (.ref ND) none H)
theorem Zss:Aw ["form"] ["form"] (Aj J4):=by walk_at "sc"
theorem Zvq {N_NoDeed:Addr}{f:Addr}{fd:FuncData}(F:Fun K "refuse_no_gap" "refuse_no_gap" J4 f fd)(T:Txt K mg)(R_NoDeed:G9 K N_NoDeed)(G_NoDeed:mg "NoDeed" = some (.ref N_NoDeed)):FnOk P w K mg base (A4 P w) 1 f fd ["form"] (Zby K N_NoDeed):=by
 refine F.okx Zss (fun vs H Q E h=>?_) (fun cdv A outer s H vs Q E hr h=>?_)
 ·obtain ⟨v,t,rfl,_⟩:=h
  rfl
 ·obtain ⟨v,t,rfl,ht,q,x⟩:=h
  refine ⟨_,Ad (Aq (Au (C8 K hr.u200) (Ai K (qv 0) Ac) Ao (Av _)) (Ad (Oi rfl R_NoDeed G_NoDeed (Aa Ao Ab) (fun _ _ _ _ _ _ _ I x h0 hn he=>Nc I x h0 hn he) rfl)) Ar),?_⟩
  obtain ⟨a,p,n,rfl,hq⟩:=Cn ht
  walk_at "r"
  refine Af hq rfl ?_
  walk_at "r"
  by_cases hw:t.wd = "gap"
  ·rw [hw,decide_eq_true (Eq.refl _)]
   walk_at "r"
   exact q hw
  ·rw [decide_eq_false (fun h=>hw (V.str.inj h))]
   walk_at "r"
   exact ⟨Cu,x hw⟩
noncomputable def Zi9 (K:On):Sp:=fun vs H Q _=>∃ v t,vs=[v]/\TrAt K H v t/\TrOk t/\∀ H',Same H H'->Q (.bl true) H'
theorem Zts:Aw ["thing"] ["thing"] (Aj Mb):=by walk_at "sc"
theorem Zom {f:Addr}{fd:FuncData}(F:Fun K "is_top_of_form" "is_top_of_form" Mb f fd)(T:Txt K mg)(G:Gs P w K mg)(C_is_word:As P w K mg base 1 "is_word" ["thing"] (Zaj K))(C_is_note:As P w K mg base 3 "is_note" ["word", "note"] (Ny K)):FnOk P w K mg base An 4 f fd ["thing"] (Zi9 K):=by
 refine F.okq Zts (fun vs H Q E h=>?_) (fun cdv A outer s H vs Q E hr h=>?_)
 ·obtain ⟨v,t,rfl,_⟩:=h
  rfl
 ·obtain ⟨v,t,rfl,ht,ok,q⟩:=h
  obtain ⟨ap,G_PARTS_OF_WORDS,hpw⟩:=G.pw
  refine ⟨_,Ae (Aq (QW.qt (Di (B3 (Bu (A8 (Ew K "tuple") (by rfl) T.isinstance (by decide +kernel) (Aa (qv 0) (Aa (D7 (v:=.ty "tuple") (by rfl) T.tuple (by decide +kernel) rfl) Ab))))) (Dx (Au (C8 K hr.u200) (A8 (Cd K) (by rfl) T.len (by decide +kernel) (Aa (qv 0) Ab)) Ac (Av _))))) (Ad (Ah Bt)) Ar)
   (Ae (Aq (QW.qt (Di (B3 (Bu (Am C_is_word hr.m (Aa (Ai K (qv 0) Ac) Ab)))) (Dx (B3 (Bu (Am C_is_note hr.m (Aa (Ai K (qv 0) Ac) (Aa (Ai K (qv 0) Ac) Ab)))))))) (Ad (Ah Bt)) Ar)
   (Ad (Ah (De (A8 (Ew K "tuple") (by rfl) T.isinstance (by decide +kernel) (Aa (Ai K (qv 0) Ac) (Aa (D7 (v:=.ty "tuple") (by rfl) T.tuple (by decide +kernel) rfl) Ab))) (Eg (Cm (A5 K hr.u200) (A8 (Cd K) (by rfl) T.len (by decide +kernel) (Aa (Ai K (qv 0) Ac) Ab)) (J9 (Zh5 P w K) (F0 G_PARTS_OF_WORDS) (Ai K (qv 0) Ac) (fun _ _=>rfl)) (Av _))))))),?_⟩
  cases ht with
  | @mk b p wd nv n us ts qb hn qp l hc =>
  cases ok with
  | @mk _ _ nt _ hps hd hb hs =>
  have hwl:wd.length<=1000:=Pp (Ha hps).2.2.2.2 (by decide)
  walk_at "r"
  refine Zd1 qb (b:=true) M4 ?_
  walk_at "r"
  refine Gp qb ?_
  walk_at "r"
  rw [show (!decide (V.int (([V.str wd,nv,V.ref p]:List V).length:Nat)=V.int 3))=false from rfl]
  walk_at "r"
  refine Af qb rfl ?_
  walk_at "r"
  refine ⟨_,rfl,⟨_,.str wd hwl⟩,?_⟩
  have hw:Mx (.str wd)=true:=by show (Bo wd).isSome=true;rw [hps];rfl
  rw [hw]
  walk_at "r"
  refine Af qb rfl ?_
  walk_at "r"
  refine Af qb rfl ?_
  walk_at "r"
  refine ⟨wd,nv,nt,rfl,IsN.nt hn hd,fun H1 s1=>?_⟩
  rw [hb]
  walk_at "r"
  refine Af (s1.tup qb) rfl ?_
  walk_at "r"
  refine Zd1 (s1.tup qp) (b:=true) M4 ?_
  refine ⟨_,rfl,?_⟩
  refine iteT ?_
  walk_at "r"
  refine Af (s1.tup qb) rfl ?_
  walk_at "r"
  refine Gp (s1.tup qp) ?_
  walk_at "r"
  refine Af (s1.tup qb) rfl ?_
  refine ⟨ap,Hy,wd,.int (ts.length:Nat),rfl,rfl,hpw,by rw [Zat,hps];rfl,?_⟩
  walk_at "r"
  rw [l,decide_eq_true (Eq.refl _)]
  exact q H1 s1
noncomputable def Zgx (K:On):Sp:=fun vs H Q _=>∃ v t,vs=[v]/\TrAt K H v t/\TrOk t/\t.size<=1000/\∀ H',Same H H'->Q (.bl true) H'
theorem Zaa:Aw ["thing", "waiting", "top"] ["thing"] (Aj Jj):=by walk_at "sc"
theorem Zld {f:Addr}{fd:FuncData}(F:Fun K "is_form" "is_form" Jj f fd)(T:Txt K mg)(C_is_top_of_form:As P w K mg base 4 "is_top_of_form" ["thing"] (Zi9 K)):FnOk P w K mg base An 5 f fd ["thing"] (Zgx K):=by
 refine F.okq Zaa (fun vs H Q E h=>?_) (fun cdv A outer s H vs Q E hr h=>?_)
 ·obtain ⟨v,t,rfl,_⟩:=h
  rfl
 ·obtain ⟨v,t,rfl,ht,ok,hz,q⟩:=h
  refine ⟨_,Ae (Az 1 Zaa (B6 (Aa (qv 0) Ab)))
   (Ae (Zc3 Pw (Zq9 K (qv 1) (by intro _;rfl)) (Ae (Az 2 Zaa (Hz K Ps Sn So Ko (qv 1)))
   (Ae (Aq (B3 (Bu (Am C_is_top_of_form hr.m (Aa (qv 2) Ab)))) (Ad (Ah Bt)) Ar)
   (Ad (Cc (Ea K Ps PySem.F.slot_list_extend PySem.F.type_list_extend (Zv0 K) (qv 1) (Aa (Ai K (qv 2) Ac) Ab)))))))
   (Ad (Ah Bt))),?_⟩
  have bg:=Ce
  walk_at "r"
  refine ⟨Cu,fun pw hpw=>?_⟩
  have s0:=Same.upd (o:=.lst [v]) hpw
  walk_at "r"
  refine ⟨fun m σ' H'=>∃(v2:Option V)(wv:List V)(st:List Tr),σ'=[some v,some (.ref pw),v2]/\H' pw=some (.lst wv)/\Al (TrAt K H') wv st/\(∀ t∈st,TrOk t)/\m=Ax st/\Ax st<=t.size/\Same H H',⟨_,none,[v],[t],rfl,Ag,Al.nil.snoc (ht.same s0),(fun x hx=>by rw [P5.mp hx];exact ok),rfl,by rw [Ax,Ax];omega,s0⟩,?_⟩
  rintro m σ' H' ⟨v2,wv,st,rfl,ew,al,okst,rfl,hsz,sm⟩
  have hwl:wv.length<=1000:=by rw [al.1];have:=J3 st;omega
  walk_at "r"
  refine Zpk (SqL.of ew) ?_
  by_cases hwv:wv=[]
  ·subst hwv
   refine iteF ?_
   walk_at "r"
   exact q H' sm
  obtain ⟨wv',tp,st',x,rfl,rfl,al',hx⟩:=al.last hwv
  have hne:(!(wv'++[tp]).isEmpty)=true:=by simp
  rw [hne]
  refine iteT ?_
  have hss:Ax (st'++[x])=Ax st'+x.size:=by rw [Hk,Ax,Ax];omega
  have okx:=okst x (by simp)
  refine ⟨fun σ2 H2=>∃ m',m' < Ax (st'++[x])/\∃(v2:Option V)(wv:List V)(st:List Tr),σ2=[some v,some (.ref pw),v2]/\H2 pw=some (.lst wv)/\Al (TrAt K H2) wv st/\(∀ t∈st,TrOk t)/\m'=Ax st/\Ax st<=t.size/\Same H H2,fun _ _ h=>h,?_⟩
  walk_at "r"
  refine Dg (SqL.of ew) ?_
  refine Ji ew ?_
  have t1:=SameT.set (o:=.lst wv') ew
  have e1:upd H' pw (.lst wv') pw=some (.lst wv'):=Ag
  have sm1:=sm.over (o:=.lst wv') hpw
  revert t1 e1 sm1
  generalize upd H' pw (.lst wv')=H1
  intro t1 e1 sm1
  have hx1:=hx.sameT t1
  walk_at "r"
  refine ⟨tp,x,rfl,hx1,okx,fun H2 s2=>?_⟩
  cases hx1 with
  | @mk b p wd nv n us ts qb hn qp l hc =>
  have hts:(Tr.mk wd n ts).size=1+Ax ts:=by rw [Tr.size]
  have hul:us.length<=1000:=by rw [l];have:=J3 ts;omega
  have e2:=s2 _ _ e1
  walk_at "r"
  refine Dg (SqL.of e2) ?_
  walk_at "r"
  refine Af (s2.tup qb) rfl ?_
  walk_at "r"
  refine ⟨pw,p,wv',us,rfl,rfl,e2,s2.tup qp,by rw [Pb,Qj] at hwl;omega,?_⟩
  have t3:=SameT.set (o:=.lst (wv'++us)) e2
  have tt:=t1.trans (s2.t.trans t3)
  walk_at "r"
  refine ⟨Ax (st'++ts),by rw [hss,Hk];omega,_,wv'++us,st'++ts,rfl,Ag,Al.append (TrAt.al al' tt) ⟨l,fun j y z g1 g2=>(hc j y z g1 g2).sameT (s2.t.trans t3)⟩,fun y hy=>?_,rfl,by rw [Hk];omega,(sm1.trans s2).over hpw⟩
  rcases Pu.mp hy with hy | hy
  ·exact okst y (R5 _ hy)
  ·exact Ziz okx y hy
noncomputable def Zd5 (K:On):Sp:=fun vs H Q _=>∃ v t,vs=[v]/\TrAt K H v t/\TrOk t/\t.size<=1000/\∀ H',Same H H'->Q .non H'
theorem Zmw:Aw ["thing"] ["thing"] (Aj Kd):=by walk_at "sc"
theorem Zmk {f:Addr}{fd:FuncData}(F:Fun K "refuse_no_form" "refuse_no_form" Kd f fd)(T:Txt K mg)(C_is_form:As P w K mg base 5 "is_form" ["thing"] (Zgx K)):FnOk P w K mg base An 6 f fd ["thing"] (Zd5 K):=by
 refine F.okq Zmw (fun vs H Q E h=>?_) (fun cdv A outer s H vs Q E hr h=>?_)
 ·obtain ⟨v,t,rfl,_⟩:=h
  rfl
 ·obtain ⟨v,t,rfl,ht,ok,hz,q⟩:=h
  refine ⟨_,Ad (Aq (B3 (Bu (Am C_is_form hr.m (Aa (qv 0) Ab)))) (Ad Hm) Ar),?_⟩
  walk_at "r"
  refine ⟨v,t,rfl,ht,ok,hz,fun H1 s1=>?_⟩
  walk_at "r"
  exact q H1 s1
noncomputable def F4 (K:On)(c:Cs)(ag:Addr):Sp:=fun vs H Q _=>∃(a dx:Addr)(s:Str)(nv:V)(nt:Nt)(n:Nat),vs=[.ref a,.str s,nv]/\H a=some (.ins c.p dx [])/\Has K H (.str s)/\NtAt K H nv nt/\Bo s=some n/\Bj s nt=true/\s ≠ "gap" /\
 ∀(r:Addr)(H':Hp),SameB a H H'->H' a=some (.ins c.p dx [("form",.ref r)])->BareAt K ag H' r s nv n->Q .non H'
theorem Zqt:Aw ["self", "word", "note"] ["self", "word", "note"] (Aj Cg):=by walk_at "sc"
theorem Zli {c:Cs}{ag:Addr}{TD:Addr}{f:Addr}{fd:FuncData}(F:FunD K "__init__" "Put.__init__" Cg TD f fd)(T:Txt K mg)(O:B1 K mg "Put" c.p)(C_bare:As P w K mg base 4 "bare" ["word", "note"] (Zbj K ag)):FnOk P w K mg base (A4 P w) 5 f fd ["self", "word", "note"] (F4 K c ag):=by
 refine F.okx Zqt (fun vs H Q E h=>?_) (fun cdv A outer s H vs Q E hr h=>?_)
 ·obtain ⟨a,dx,s,nv,nt,n,rfl,_⟩:=h
  rfl
 ·obtain ⟨a,dx,z,nv,nt,n,rfl,ha,hv,hn,hp,hb,hw,q⟩:=h
  refine ⟨_,Ae (Hf K (qv 0) (Am C_bare hr.m (Aa (qv 1) (Aa (qv 2) Ab))))
   (Ad (Aq (Au (A5 K hr.u200) (qv 1) Ao (Av _)) (Ad Hm) Ar)),?_⟩
  walk_at "r"
  refine ⟨_,rfl,_,rfl,?_⟩
  refine ⟨z,nv,nt,n,rfl,hv,hn,hp,hb,fun r H1 s1 hr1=>?_⟩
  refine ⟨_,rfl,a,c.p,dx,[],rfl,s1 _ _ ha,O.cl,O.nf,by simp,?_⟩
  have st:=Zaw (s1 _ _ ha) (.ins c.p dx (Br "form" (.ref r) []))
  walk_at "r"
  rw [decide_eq_false (fun h=>hw (V.str.inj h))]
  walk_at "r"
  exact q r _ (fun b o hb h=>by rw [Ay hb];exact s1 b o h) Ag (hr1.same st)
noncomputable def Mz (K:On)(c:Cs):Sp:=fun vs H Q _=>∃(a dx:Addr)(v:V)(t:Tr),vs=[.ref a,v]/\H a=some (.ins c.f dx [])/\TrAt K H v t/\TrOk t/\t.size<=1000/\t.wd ≠ "gap" /\ ∀ H',SameB a H H'->H' a=some (.ins c.f dx [("form",v)])->Q .non H'
theorem Zl1:Aw ["self", "form"] ["self", "form"] (Aj Lv):=by walk_at "sc"
theorem Ztw {c:Cs}{f:Addr}{fd:FuncData}(F:Fun K "__init__" "Fill.__init__" Lv f fd)(T:Txt K mg)(O:B1 K mg "Fill" c.f)(C_refuse_no_form:As P w K mg base 6 "refuse_no_form" ["thing"] (Zd5 K)):FnOk P w K mg base An 7 f fd ["self", "form"] (Mz K c):=by
 refine F.okq Zl1 (fun vs H Q E h=>?_) (fun cdv A outer s H vs Q E hr h=>?_)
 ·obtain ⟨a,dx,v,t,rfl,_⟩:=h
  rfl
 ·obtain ⟨a,dx,v,t,rfl,ha,hv,ok,hz,hw,q⟩:=h
  refine ⟨_,Ae (Cc (Am C_refuse_no_form hr.m (Aa (qv 1) Ab)))
   (Ae (Aq (Au (A5 K hr.u200) (Ai K (qv 1) Ac) Ao (Av _)) (Ad Hm) Ar)
   (Ad (Hf K (qv 0) (qv 1)))),?_⟩
  walk_at "r"
  refine ⟨v,t,rfl,hv,ok,hz,fun H1 s1=>?_⟩
  obtain ⟨b,p,n,rfl,hq⟩:=Cn (hv.same s1)
  walk_at "r"
  refine Af hq rfl ?_
  walk_at "r"
  rw [decide_eq_false (fun h=>hw (V.str.inj h))]
  walk_at "r"
  refine ⟨_,rfl,_,rfl,a,c.f,dx,[],rfl,s1 _ _ ha,O.cl,O.nf,by simp,?_⟩
  exact q _ (fun b o hb h=>by rw [Ay hb];exact s1 b o h) Ag
noncomputable def K3 (K:On)(c:Cs):Sp:=fun vs H Q _=>∃(a dx:Addr)(v:V)(t:Tr),vs=[.ref a,v]/\H a=some (.ins c.g dx [])/\TrAt K H v t/\TrOk t/\t.size<=1000/\∀ H',SameB a H H'->H' a=some (.ins c.g dx [("form",v)])->Q .non H'
theorem Zjn:Aw ["self", "form"] ["self", "form"] (Aj Lw):=by walk_at "sc"
theorem Zoj {c:Cs}{f:Addr}{fd:FuncData}(F:Fun K "__init__" "Change.__init__" Lw f fd)(T:Txt K mg)(O:B1 K mg "Change" c.g)(C_refuse_no_form:As P w K mg base 6 "refuse_no_form" ["thing"] (Zd5 K)):FnOk P w K mg base An 7 f fd ["self", "form"] (K3 K c):=by
 refine F.okq Zjn (fun vs H Q E h=>?_) (fun cdv A outer s H vs Q E hr h=>?_)
 ·obtain ⟨a,dx,v,t,rfl,_⟩:=h
  rfl
 ·obtain ⟨a,dx,v,t,rfl,ha,hv,ok,hz,q⟩:=h
  refine ⟨_,Ae (Cc (Am C_refuse_no_form hr.m (Aa (qv 1) Ab)))
   (Ad (Hf K (qv 0) (qv 1))),?_⟩
  walk_at "r"
  refine ⟨v,t,rfl,hv,ok,hz,fun H1 s1=>?_⟩
  walk_at "r"
  refine ⟨_,rfl,_,rfl,a,c.g,dx,[],rfl,s1 _ _ ha,O.cl,O.nf,by simp,?_⟩
  exact q _ (fun b o hb h=>by rw [Ay hb];exact s1 b o h) Ag
noncomputable def Nd (K:On)(c:Cs):Sp:=fun vs H Q _=>∃(a dx:Addr)(v:V),vs=[.ref a,v]/\H a=some (.ins c.n dx [])/\Q .non (upd H a (.ins c.n dx [("note",v)]))
theorem Zo1:Aw ["self", "note"] ["self", "note"] (Aj Mi):=by walk_at "sc"
theorem Zny {c:Cs}{f:Addr}{fd:FuncData}(F:Fun K "__init__" "Note.__init__" Mi f fd)(T:Txt K mg)(O:B1 K mg "Note" c.n):FnOk P w K mg base An 1 f fd ["self", "note"] (Nd K c):=by
 refine F.okq Zo1 (fun vs H Q E h=>?_) (fun cdv A outer s H vs Q E hr h=>?_)
 ·obtain ⟨a,dx,v,rfl,_⟩:=h
  rfl
 ·obtain ⟨a,dx,v,rfl,ha,q⟩:=h
  refine ⟨_,Ad (Hf K (qv 0) (qv 1)),?_⟩
  exact ⟨_,rfl,_,rfl,a,c.n,dx,[],rfl,ha,O.cl,O.nn,by simp,q⟩
noncomputable def Fi (K:On)(c:Cs):Sp:=fun vs H Q _=>∃(a dx:Addr)(v:V),vs=[.ref a,v]/\H a=some (.ins c.k dx [])/\Q .non (upd H a (.ins c.k dx [("at",v)]))
theorem Zt1:Aw ["self", "at"] ["self", "at"] (Aj Ci):=by walk_at "sc"
theorem Zr9 {c:Cs}{TD:Addr}{f:Addr}{fd:FuncData}(F:FunD K "__init__" "Keep.__init__" Ci TD f fd)(T:Txt K mg)(O:B1 K mg "Keep" c.k):FnOk P w K mg base (A4 P w) 1 f fd ["self", "at"] (Fi K c):=by
 refine F.okx Zt1 (fun vs H Q E h=>?_) (fun cdv A outer s H vs Q E hr h=>?_)
 ·obtain ⟨a,dx,v,rfl,_⟩:=h
  rfl
 ·obtain ⟨a,dx,v,rfl,ha,q⟩:=h
  refine ⟨_,Ad (Hf K (qv 0) (qv 1)),?_⟩
  exact ⟨_,rfl,_,rfl,a,c.k,dx,[],rfl,ha,O.cl,O.na,by simp,q⟩
noncomputable def F5 (K:On)(c:Cs)(ag:Addr):Sp:=fun vs H Q _=>∃(a dx:Addr)(s:Str)(nv:V)(nt:Nt)(n i:Nat),vs=[.ref a,.str s,nv,.int (i:Nat)]/\H a=some (.ins c.w dx [])/\Has K H (.str s)/\NtAt K H nv nt/\Bo s=some n/\Bj s nt=true/\i < n/\(∃ d,IsN K H nv d) /\
 ∀(r:Addr)(H':Hp),SameB a H H'->H' a=some (.ins c.w dx [("form",.ref r),("at",.int (i:Nat))])->BareAt K ag H' r s nv n->Q .non H'
theorem Zmu:Aw ["self", "word", "note", "at"] ["self", "word", "note", "at"] (Aj Ck):=by walk_at "sc"
theorem Zvt {c:Cs}{ag:Addr}{TD:Addr}{f:Addr}{fd:FuncData}(F:FunD K "__init__" "Wrap.__init__" Ck TD f fd)(T:Txt K mg)(O:B1 K mg "Wrap" c.w)(GA:Kf K ag)(C_bare:As P w K mg base 4 "bare" ["word", "note"] (Zbj K ag))(C_has_part:As P w K mg base 2 "has_part" ["form", "number"] (Nq K)):FnOk P w K mg base (A4 P w) 5 f fd ["self", "word", "note", "at"] (F5 K c ag):=by
 refine F.okx Zmu (fun vs H Q E h=>?_) (fun cdv A outer s H vs Q E hr h=>?_)
 ·obtain ⟨a,dx,s,nv,nt,n,i,rfl,_⟩:=h
  rfl
 ·obtain ⟨a,dx,z,nv,nt,n,i,rfl,ha,hv,hn,hp,hb,hi,⟨dt,hdt⟩,q⟩:=h
  refine ⟨_,Ae (Hf K (qv 0) (Am C_bare hr.m (Aa (qv 1) (Aa (qv 2) Ab))))
   (Ae (Hf K (qv 0) (qv 3))
   (Ad (Aq (B3 (Bu (Am C_has_part hr.m (Aa (Eo K (qv 0)) (Aa (qv 3) Ab))))) (Ad Hm) Ar))),?_⟩
  walk_at "r"
  refine ⟨_,rfl,_,rfl,?_⟩
  refine ⟨z,nv,nt,n,rfl,hv,hn,hp,hb,fun r H1 s1 hr1=>?_⟩
  refine ⟨_,rfl,a,c.w,dx,[],rfl,s1 _ _ ha,O.cl,O.nf,by simp,?_⟩
  have st:=Zaw (s1 _ _ ha) (.ins c.w dx (Br "form" (.ref r) []))
  have e2:upd H1 a (.ins c.w dx (Br "form" (.ref r) [])) a=some (.ins c.w dx [("form",.ref r)]):=Ag
  have b2:SameB a H (upd H1 a (.ins c.w dx (Br "form" (.ref r) []))):=fun b o hb h=>by rw [Ay hb];exact s1 b o h
  have hr2:=hr1.same st
  have n2:=(hdt.same s1.t).same st
  revert e2 b2 hr2 n2
  generalize upd H1 a (.ins c.w dx (Br "form" (.ref r) []))=H2
  intro e2 b2 hr2 n2
  walk_at "r"
  refine ⟨_,rfl,_,rfl,a,c.w,dx,[("form",.ref r)],rfl,e2,O.cl,O.na,by simp,?_⟩
  have st3:=Zaw e2 (.ins c.w dx (Br "at" (.int (i:Nat)) [("form",.ref r)]))
  have e3:upd H2 a (.ins c.w dx (Br "at" (.int (i:Nat)) [("form",.ref r)])) a=some (.ins c.w dx [("form",.ref r),("at",.int (i:Nat))]):=Ag
  have b3:SameB a H (upd H2 a (.ins c.w dx (Br "at" (.int (i:Nat)) [("form",.ref r)]))):=fun b o hb h=>by rw [Ay hb];exact b2 b o hb h
  have hr3:=hr2.same st3
  have n3:=n2.same st3
  revert e3 b3 hr3 n3
  generalize upd H2 a (.ins c.w dx (Br "at" (.int (i:Nat)) [("form",.ref r)]))=H3
  intro e3 b3 hr3 n3
  walk_at "r"
  refine ⟨_,rfl,a,c.w,dx,_,.ref r,rfl,e3,O.cl,O.nf,rfl,?_⟩
  walk_at "r"
  refine ⟨_,_,_,rfl,hr3.tr GA n3,?_⟩
  rw [decide_eq_true (show (0:Int)<=((i:Nat):Int)/\((i:Nat):Int) < (((Tr.mk z dt (Oy n gapT)).ps.length:Nat):Int) from ⟨by omega,by show ((i:Nat):Int) < (((Oy n gapT).length:Nat):Int);rw [P4];omega⟩)]
  walk_at "r"
  exact q r H3 b3 e3 hr3
end
theorem Zfn {c:Cs}(A:c.Apart){d:Dd}(h:d.cls c=c.p):∃ t,d=.put t:=by
 have:=A.dd (d:=d) (e:=.put gapT) h
 rcases this with ⟨_,h1,_,h2⟩ | ⟨_,h1,_,h2⟩ | ⟨_,_,h1,_,_,h2⟩ | ⟨_,h1,_,h2⟩ | ⟨_,_,h1,_,_,h2⟩ | ⟨_,h1,_,h2⟩ | ⟨h1,h2⟩ | ⟨h1,h2⟩ <;> first | (cases h2;done) | exact ⟨_,h1⟩
theorem Zhf {c:Cs}(A:c.Apart){d:Dd}(h:d.cls c=c.f):∃ t,d=.fill t:=by
 have:=A.dd (d:=d) (e:=.fill gapT) h
 rcases this with ⟨_,h1,_,h2⟩ | ⟨_,h1,_,h2⟩ | ⟨_,_,h1,_,_,h2⟩ | ⟨_,h1,_,h2⟩ | ⟨_,_,h1,_,_,h2⟩ | ⟨_,h1,_,h2⟩ | ⟨h1,h2⟩ | ⟨h1,h2⟩ <;> first | (cases h2;done) | exact ⟨_,h1⟩
theorem Zha {c:Cs}(A:c.Apart){d:Dd}(h:d.cls c=c.w):∃ t i,d=.wrap t i:=by
 have:=A.dd (d:=d) (e:=.wrap gapT 0) h
 rcases this with ⟨_,h1,_,h2⟩ | ⟨_,h1,_,h2⟩ | ⟨_,_,h1,_,_,h2⟩ | ⟨_,h1,_,h2⟩ | ⟨_,_,h1,_,_,h2⟩ | ⟨_,h1,_,h2⟩ | ⟨h1,h2⟩ | ⟨h1,h2⟩ <;> first | (cases h2;done) | exact ⟨_,_,h1⟩
theorem Zil {c:Cs}(A:c.Apart){d:Dd}(h:d.cls c=c.k):∃ i,d=.keep i:=by
 have:=A.dd (d:=d) (e:=.keep 0) h
 rcases this with ⟨_,h1,_,h2⟩ | ⟨_,h1,_,h2⟩ | ⟨_,_,h1,_,_,h2⟩ | ⟨_,h1,_,h2⟩ | ⟨_,_,h1,_,_,h2⟩ | ⟨_,h1,_,h2⟩ | ⟨h1,h2⟩ | ⟨h1,h2⟩ <;> first | (cases h2;done) | exact ⟨_,h1⟩
theorem Zhc {c:Cs}(A:c.Apart){d:Dd}(h:d.cls c=c.n):∃ n m,d=.note n m:=by
 have:=A.dd (d:=d) (e:=.note (.flat .non) (.fl .non)) h
 rcases this with ⟨_,h1,_,h2⟩ | ⟨_,h1,_,h2⟩ | ⟨_,_,h1,_,_,h2⟩ | ⟨_,h1,_,h2⟩ | ⟨_,_,h1,_,_,h2⟩ | ⟨_,h1,_,h2⟩ | ⟨h1,h2⟩ | ⟨h1,h2⟩ <;> first | (cases h2;done) | exact ⟨_,_,h1⟩
theorem Zhl {c:Cs}(A:c.Apart){d:Dd}(h:d.cls c=c.g):∃ t,d=.chg t:=by
 have:=A.dd (d:=d) (e:=.chg gapT) h
 rcases this with ⟨_,h1,_,h2⟩ | ⟨_,h1,_,h2⟩ | ⟨_,_,h1,_,_,h2⟩ | ⟨_,h1,_,h2⟩ | ⟨_,_,h1,_,_,h2⟩ | ⟨_,h1,_,h2⟩ | ⟨h1,h2⟩ | ⟨h1,h2⟩ <;> first | (cases h2;done) | exact ⟨_,h1⟩
theorem Zg0 {c:Cs}(A:c.Apart){d:Dd}(h:d.cls c=c.d):d=.deed:=by
 have:=A.dd (d:=d) (e:=.deed) h
 rcases this with ⟨_,h1,_,h2⟩ | ⟨_,h1,_,h2⟩ | ⟨_,_,h1,_,_,h2⟩ | ⟨_,h1,_,h2⟩ | ⟨_,_,h1,_,_,h2⟩ | ⟨_,h1,_,h2⟩ | ⟨h1,h2⟩ | ⟨h1,h2⟩ <;> first | (cases h2;done) | exact h1
theorem Zgq {c:Cs}(A:c.Apart){d:Dd}(h:d.cls c=c.c):d=.cut:=by
 have:=A.dd (d:=d) (e:=.cut) h
 rcases this with ⟨_,h1,_,h2⟩ | ⟨_,h1,_,h2⟩ | ⟨_,_,h1,_,_,h2⟩ | ⟨_,h1,_,h2⟩ | ⟨_,_,h1,_,_,h2⟩ | ⟨_,h1,_,h2⟩ | ⟨h1,h2⟩ | ⟨h1,h2⟩ <;> first | (cases h2;done) | exact h1
theorem Zi6 {ts:List Tr}{j:Nat}{t u:Tr}(h:ts[j]?=some t):Ax (ts.set j u)+t.size=Ax ts+u.size:=by
 induction ts generalizing j with
 | nil=>simp at h
 | cons x r ih =>
  cases j with
  | zero =>
   have h:x=t:=by simpa using h
   subst h
   rw [Vf,Ax,Ax]
   omega
  | succ j =>
   have:=ih (j:=j) (by simpa using h)
   rw [Vg,Ax,Ax]
   omega
theorem At.size {t u f:Tr}{pl:List Nat}(h:At t pl u):(Bf t pl f).size+u.size=t.size+f.size:=by
 induction h with
 | nil t=>rw [Fb];omega
 | @cons w n ts j t u r e _ ih=>rw [Fd e,Tr.size,Tr.size];have:=Zi6 (u:=Bf t r f) e;omega
theorem At.okw {t u f:Tr}{pl:List Nat}(h:At t pl u):TrOk t->TrOk f->TrOk (Bf t pl f):=by
 induction h with
 | nil t=>intro _ o;rw [Fb];exact o
 | cons e _ ih =>
  intro o of
  rw [Fd e]
  cases o with
  | mk hp hd hb hs =>
   refine .mk (by rw [P0];exact hp) hd hb fun x hx=>?_
   rcases Uy hx with hx | rfl
   ·exact hs x hx
   ·exact ih (hs _ (Pd e)) of
theorem Zoy (t:Tr):1<=A6 t:=by cases t;rw [Ej];omega
theorem At.depw {t u f:Tr}{pl:List Nat}(h:At t pl u)(k:Nat)(hf:A6 f<=A6 u+k):A6 (Bf t pl f)<=A6 t+k:=by
 induction h with
 | nil t=>rw [Fb];omega
 | @cons w n ts j t u r e _ ih =>
  rw [Fd e,Ej,Ej]
  have h1:=Zbw ts j (Bf t r f)
  have h2:=Nu e
  have h3:=ih hf
  omega
noncomputable def uV:Dt->V
 | .flat v=>v
 | _=>.non
noncomputable def ntD:Dt->Nt
 | .flat v=>.fl v
 | .tup ds=>.tp (ds.map uV)
 | _=>.fl .non
theorem Zsk {d:Dt}{nt:Nt}(h:Dm d nt):nt=ntD d:=by
 cases h with
 | fl _=>rfl
 | @tp vs _ =>
  show Nt.tp vs=.tp ((vs.map Dt.flat).map uV)
  rw [List.map_map,show uV ∘ Dt.flat=id from rfl,List.map_id]
theorem Zcc {t:Tr}(ok:TrOk t):Dm t.note (ntD t.note)/\Bj t.wd (ntD t.note)=true:=by
 cases ok with
 | @mk wd d nt ts hp hd hn hs =>
  have e:=Zsk hd
  subst e
  exact ⟨hd,hn⟩
noncomputable def Dd.fine:Dd->Prop
 | .put t=>TrOk t/\t.wd ≠ "gap"
 | .fill t=>TrOk t/\t.wd ≠ "gap"
 | .wrap t i=>TrOk t/\i < t.ps.length
 | .note n nt=>Dm n nt
 | .chg t=>TrOk t
 | _=>True
noncomputable def Dk (t:Tr):Dd->Dd
 | .deed=>.deed
 | .put _=>.cut
 | .fill _=>.cut
 | .cut=>.fill t
 | .wrap _ i=>.keep ((i:Nat):Int)
 | .keep _=>.chg t
 | .note _ _=>.note t.note (ntD t.note)
 | .chg _=>.chg t
theorem Zey {d:Dd}{t u:Tr}(ok:TrOk t)(e:Bb t d=some u):(Dk t d).fine:=by
 cases d with
 | cut =>
  have e:(if t.wd = "gap" then none else some gapT)=some u:=e
  split at e
  ·cases e
  ·rename_i hw;exact ⟨ok,hw⟩
 | keep i=>exact ok
 | note n nt=>exact (Zcc ok).1
 | chg p=>exact ok
 | deed=>trivial
 | put p=>trivial
 | fill p=>trivial
 | wrap p i=>trivial
theorem Zdb {d:Dd}{t u:Tr}(h:d.fine)(ok:TrOk t)(e:Bb t d=some u):Bb u (Dk t d)=some t:=by
 cases d with
 | deed=>cases e;rfl
 | put p =>
  have e:(if t.wd = "gap" then some p else none)=some u:=e
  split at e <;> cases e
  rename_i hw
  rw [Zgc ok hw]
  exact if_neg h.2
 | fill p =>
  have e:(if t.wd = "gap" then some p else none)=some u:=e
  split at e <;> cases e
  rename_i hw
  rw [Zgc ok hw]
  exact if_neg h.2
 | cut =>
  have e:(if t.wd = "gap" then none else some gapT)=some u:=e
  split at e <;> cases e
  rfl
 | wrap p i =>
  cases e
  have hi:i < p.ps.length:=h.2
  show (if 0<=((i:Nat):Int)/\((i:Nat):Int) < (((p.ps.set i t).length:Nat):Int) then (p.ps.set i t)[((i:Nat):Int).toNat]? else none)=some t
  rw [if_pos ⟨by omega,by rw [P0];omega⟩,Sx,Qy hi]
 | keep i=>rfl
 | note n nt =>
  have e:(if Bj t.wd nt=true then some (Tr.mk t.wd n t.ps) else none)=some u:=e
  split at e <;> cases e
  show (if Bj t.wd (ntD t.note)=true then some (Tr.mk t.wd t.note t.ps) else none)=some t
  rw [if_pos (Zcc ok).2,<- Zjd t]
 | chg p=>rfl
theorem At.self {t u:Tr}{pl:List Nat}(h:At t pl u):Bf t pl u=t:=by
 induction h with
 | nil t=>rw [Fb]
 | cons e _ ih =>
  rw [Fd e,ih]
  obtain ⟨hj,e'⟩:=Pa.mp e
  rw [<- e',List.set_getElem_self]
theorem At.again {t u f g:Tr}{pl:List Nat}(h:At t pl u):Bf (Bf t pl f) pl g=Bf t pl g:=by
 have:=h.twice (f:=f) (g:=g) (p:=[])
 rw [Qt,Fb] at this
 exact this
noncomputable abbrev Rw:=List (List Nat×Dd)
inductive Bk:Tr->Rw->Tr->Prop where
 | nil (t:Tr):Bk t [] t
 | ok {t f g u:Tr} {pl:List Nat} {d:Dd} {r:Rw} (h:At t pl f) (hd:Bb f d=some g) (og:TrOk g) (hz:(Bf t pl g).size<=1000) (s:Bk (Bf t pl g) r u):Bk t ((pl,d)::r) u
theorem Bk.back {t f g u:Tr}{pl:List Nat}{d:Dd}{r:Rw}(h:At t pl f)(hd:Bb f d=some g)(fi:d.fine)(ok:TrOk t)(hz:t.size<=1000)(s:Bk t r u):Bk (Bf t pl g) ((pl,Dk f d)::r) u :=
 .ok h.put (Zdb fi (h.ok ok).1 hd) (h.ok ok).1 (by rw [h.again,h.self];exact hz) (by rw [h.again,h.self];exact s)
noncomputable def Ev (K:On)(c:Cs)(ND C:Addr):Sp:=fun vs H Q E=>∃ x d y t,vs=[x,y]/\DdAt K c H x d/\d.cls c=C/\TrAt K H y t/\TrOk t/\t.size<=1000/\(∀ u,Bb t d=some u->∀ x' H',Same H H'->DdAt K c H' x' (Dk t d)->Q x' H')/\(Bb t d=none->∀ H',Same H H'->E (.ref ND) none H')
theorem FsAt.nb {K:On}{H:Hp}{fs:List (Str×V)}{d:Dd}(h:FsAt K H fs d):fs.lookup ("back" : Str)=none:=by
 cases d with
 | deed=>cases h;rfl
 | put t=>obtain ⟨v,rfl,_⟩:=h;rfl
 | fill t=>obtain ⟨v,rfl,_⟩:=h;rfl
 | cut=>cases h;rfl
 | wrap t i=>obtain ⟨v,rfl,_⟩:=h;rfl
 | keep i=>cases h;rfl
 | note n nt=>obtain ⟨v,rfl,_⟩:=h;rfl
 | chg t=>obtain ⟨v,rfl,_⟩:=h;rfl
structure Kl (K:On)(mg:Str->Option Value)(c:Cs):Prop where
 gd:mg "Deed" = some (.ref c.d)
 ty:∀(d:Dd){H:Hp}{a dx:Addr}{fs:List (Str×V)},H a=some (.ins (d.cls c) dx fs)->Ct K H (.ref a) (.ref (d.cls c))
 deed:∀ d:Dd,O0 K (.ref (d.cls c)) (.ref c.d)=some true
theorem Kl.at {K:On}{mg:Str->Option Value}{c:Cs}(k:Kl K mg c){H:Hp}{x:V}{d:Dd}(h:DdAt K c H x d):Ct K H x (.ref (d.cls c)):=by
 obtain ⟨a,dx,fs,rfl,e,_⟩:=h
 exact k.ty d e
noncomputable def PairAt (K:On)(c:Cs)(H:Hp)(v:V)(x:List Nat×Dd):Prop:=∃(a q:Addr)(y:V),v=.ref a/\SqT K H a [.ref q,y]/\SqT K H q (Bq x.1)/\DdAt K c H y x.2
theorem PairAt.same {K:On}{c:Cs}{H H':Hp}(e:Same H H')(v:V)(x:List Nat×Dd)(h:PairAt K c H v x):PairAt K c H' v x:=by
 obtain ⟨a,q,y,h1,h2,h3,h4⟩:=h
 exact ⟨a,q,y,h1,e.tup h2,e.tup h3,h4.same e⟩
theorem PairAt.off {K:On}{c:Cs}{H:Hp}{p:Addr}{xs:List V}{o:HO}(hp:H p=some (.lst xs))(v:V)(x:List Nat×Dd)(h:PairAt K c H v x):PairAt K c (upd H p o) v x:=by
 obtain ⟨a,q,y,h1,h2,h3,h4⟩:=h
 exact ⟨a,q,y,h1,(SameT.set hp).tup h2,(SameT.set hp).tup h3,h4.off hp⟩
noncomputable def Zi8 (K:On)(c:Cs)(H:Hp)(p:Addr)(r:Rw):Prop:=∃ vs,SqL K H p vs/\Al (PairAt K c H) vs r
section
variable {P:Program}{w:World}{K:On}{mg:Str->Option Value}{base:Heap}
theorem Zjr:Aw ["self", "form"] ["self", "form"] (Aj Jq):=by walk_at "sc"
theorem Zmo {c:Cs}{ND:Addr}{f:Addr}{fd:FuncData}(A:c.Apart)(F:Fun K "done" "Deed.done" Jq f fd)(T:Txt K mg)(O:B1 K mg "Deed" c.d):FnOk P w K mg base (A4 P w) 7 f fd ["self", "form"] (C1 K c ND c.d):=by
 refine F.okx Zjr (fun vs H Q E h=>?_) (fun cdv A' outer s H vs Q E hr h=>?_)
 ·obtain ⟨x,d,y,t,rfl,_⟩:=h
  rfl
 ·obtain ⟨x,d,y,t,rfl,hx,hc,hy,oky,q,e⟩:=h
  obtain rfl:=Zg0 A hc
  obtain ⟨a,dx,fs,rfl,ha,hf⟩:=hx
  skip
  refine ⟨_,Ad (Ah (qv 1)),?_⟩
  walk_at "r"
  exact q t rfl y H (Same.refl _) hy
theorem Zqi:Aw ["self", "form"] ["self", "form"] (Aj Mp):=by walk_at "sc"
theorem Zj6 {c:Cs}{ND:Addr}{f:Addr}{fd:FuncData}(A:c.Apart)(F:Fun K "done" "Put.done" Mp f fd)(T:Txt K mg)(O:B1 K mg "Put" c.p)(C_refuse_no_gap:J7 P w K mg base 1 "refuse_no_gap" ["form"] (Zby K ND)):FnOk P w K mg base (A4 P w) 7 f fd ["self", "form"] (C1 K c ND c.p):=by
 refine F.okx Zqi (fun vs H Q E h=>?_) (fun cdv A' outer s H vs Q E hr h=>?_)
 ·obtain ⟨x,d,y,t,rfl,_⟩:=h
  rfl
 ·obtain ⟨x,d,y,t,rfl,hx,hc,hy,oky,q,e⟩:=h
  obtain ⟨p,rfl⟩:=Zfn A hc
  obtain ⟨a,dx,fs,rfl,ha,hf⟩:=hx
  obtain ⟨v,rfl,hv⟩:=hf
  refine ⟨_,Ae (Cc (Zi4 C_refuse_no_gap hr.m (Hl (fun _ _ _ h=>h)) (Aa (qv 1) Ab)))
   (Ad (Ah (Eo K (qv 0)))),?_⟩
  walk_at "r"
  refine ⟨y,t,rfl,hy,fun hw=>?_,fun hw=>e (if_neg hw) H (Same.refl _)⟩
  walk_at "r"
  exact ⟨_,rfl,a,c.p,dx,_,v,rfl,ha,O.cl,O.nf,rfl,q p (if_pos hw) v H (Same.refl _) hv⟩
theorem Zoz:Aw ["self", "form"] ["self", "form"] (Aj Le):=by walk_at "sc"
theorem Zlh {c:Cs}{ND:Addr}{f:Addr}{fd:FuncData}(A:c.Apart)(F:Fun K "done" "Fill.done" Le f fd)(T:Txt K mg)(O:B1 K mg "Fill" c.f)(C_refuse_no_gap:J7 P w K mg base 1 "refuse_no_gap" ["form"] (Zby K ND)):FnOk P w K mg base (A4 P w) 7 f fd ["self", "form"] (C1 K c ND c.f):=by
 refine F.okx Zoz (fun vs H Q E h=>?_) (fun cdv A' outer s H vs Q E hr h=>?_)
 ·obtain ⟨x,d,y,t,rfl,_⟩:=h
  rfl
 ·obtain ⟨x,d,y,t,rfl,hx,hc,hy,oky,q,e⟩:=h
  obtain ⟨p,rfl⟩:=Zhf A hc
  obtain ⟨a,dx,fs,rfl,ha,hf⟩:=hx
  obtain ⟨v,rfl,hv⟩:=hf
  refine ⟨_,Ae (Cc (Zi4 C_refuse_no_gap hr.m (Hl (fun _ _ _ h=>h)) (Aa (qv 1) Ab)))
   (Ad (Ah (Eo K (qv 0)))),?_⟩
  walk_at "r"
  refine ⟨y,t,rfl,hy,fun hw=>?_,fun hw=>e (if_neg hw) H (Same.refl _)⟩
  walk_at "r"
  exact ⟨_,rfl,a,c.f,dx,_,v,rfl,ha,O.cl,O.nf,rfl,q p (if_pos hw) v H (Same.refl _) hv⟩
theorem Zu5:Aw ["self", "form"] ["self", "form"] (Aj Kc):=by walk_at "sc"
theorem Zoh {c:Cs}{ND:Addr}{f:Addr}{fd:FuncData}(A:c.Apart)(F:Fun K "done" "Cut.done" Kc f fd)(T:Txt K mg)(O:B1 K mg "Cut" c.c){ag:Addr}(G_GAP:Fc mg "GAP" (.ref ag))(GA:Kf K ag)(R_NoDeed:G9 K ND)(G_NoDeed:mg "NoDeed" = some (.ref ND)):FnOk P w K mg base (A4 P w) 7 f fd ["self", "form"] (C1 K c ND c.c):=by
 refine F.okx Zu5 (fun vs H Q E h=>?_) (fun cdv A' outer s H vs Q E hr h=>?_)
 ·obtain ⟨x,d,y,t,rfl,_⟩:=h
  rfl
 ·obtain ⟨x,d,y,t,rfl,hx,hc,hy,oky,q,e⟩:=h
  obtain rfl:=Zgq A hc
  obtain ⟨a,dx,fs,rfl,ha,hf⟩:=hx
  skip
  refine ⟨_,Ae (Aq (Au (A5 K hr.u200) (Ai K (qv 1) Ac) Ao (Av _)) (Ad (Oi rfl R_NoDeed G_NoDeed (Aa Ao Ab) (fun _ _ _ _ _ _ _ I x h0 hn he=>Nc I x h0 hn he) rfl)) Ar)
   (Ad (Ah (F0 G_GAP))),?_⟩
  obtain ⟨b,p,n,rfl,hq⟩:=Cn hy
  walk_at "r"
  refine Af hq rfl ?_
  walk_at "r"
  by_cases hw:t.wd = "gap"
  ·rw [hw,decide_eq_true (Eq.refl _)]
   walk_at "r"
   exact ⟨Cu,e (if_pos hw) H (Same.refl _)⟩
  ·rw [decide_eq_false (fun h=>hw (V.str.inj h))]
   walk_at "r"
   exact q gapT (if_neg hw) _ H (Same.refl _) (GA.at_ H)
theorem Zub:Aw ["self", "form"] ["self", "form"] (Aj Mm):=by walk_at "sc"
theorem Zmd {c:Cs}{ND:Addr}{f:Addr}{fd:FuncData}(A:c.Apart)(F:Fun K "done" "Wrap.done" Mm f fd)(T:Txt K mg)(O:B1 K mg "Wrap" c.w)(C_with_part:As P w K mg base 1 "with_part" ["form", "number", "part"] (Zdd K)):FnOk P w K mg base (A4 P w) 7 f fd ["self", "form"] (C1 K c ND c.w):=by
 refine F.okx Zub (fun vs H Q E h=>?_) (fun cdv A' outer s H vs Q E hr h=>?_)
 ·obtain ⟨x,d,y,t,rfl,_⟩:=h
  rfl
 ·obtain ⟨x,d,y,t,rfl,hx,hc,hy,oky,q,e⟩:=h
  obtain ⟨p,i,rfl⟩:=Zha A hc
  obtain ⟨a,dx,fs,rfl,ha,hf⟩:=hx
  obtain ⟨v,rfl,hv,hi,h3⟩:=hf
  refine ⟨_,Ad (Ah (Am C_with_part hr.m (Aa (Eo K (qv 0)) (Aa (Eo K (qv 0)) (Aa (qv 1) Ab))))),?_⟩
  walk_at "r"
  refine ⟨_,rfl,a,c.w,dx,_,v,rfl,ha,O.cl,O.nf,rfl,?_⟩
  refine ⟨_,rfl,a,c.w,dx,_,.int (i:Nat),rfl,ha,O.cl,O.na,rfl,?_⟩
  walk_at "r"
  exact ⟨v,y,p.wd,p.note,p.ps,t,i,rfl,by rw [<- Zjd p];exact hv,hy,hi,by omega,fun v' H' s' h'=>q _ rfl v' H' s' h'⟩
theorem Zsp:Aw ["self", "form"] ["self", "form"] (Aj Mn):=by walk_at "sc"
theorem Zmy {c:Cs}{ND:Addr}{f:Addr}{fd:FuncData}(A:c.Apart)(F:Fun K "done" "Keep.done" Mn f fd)(T:Txt K mg)(O:B1 K mg "Keep" c.k)(C_has_part:As P w K mg base 2 "has_part" ["form", "number"] (Nq K))(R_NoDeed:G9 K ND)(G_NoDeed:mg "NoDeed" = some (.ref ND)):FnOk P w K mg base (A4 P w) 7 f fd ["self", "form"] (C1 K c ND c.k):=by
 refine F.okx Zsp (fun vs H Q E h=>?_) (fun cdv A' outer s H vs Q E hr h=>?_)
 ·obtain ⟨x,d,y,t,rfl,_⟩:=h
  rfl
 ·obtain ⟨x,d,y,t,rfl,hx,hc,hy,oky,q,e⟩:=h
  obtain ⟨i,rfl⟩:=Zil A hc
  obtain ⟨a,dx,fs,rfl,ha,hf⟩:=hx
  obtain rfl:=hf
  refine ⟨_,Ae (Aq (B3 (Bu (Am C_has_part hr.m (Aa (qv 1) (Aa (Eo K (qv 0)) Ab))))) (Ad (Oi rfl R_NoDeed G_NoDeed (Aa Ao Ab) (fun _ _ _ _ _ _ _ I x h0 hn he=>Nc I x h0 hn he) rfl)) Ar)
   (Ad (Ah (Ai K (Ai K (qv 1) Ac) (Eo K (qv 0))))),?_⟩
  walk_at "r"
  refine ⟨_,rfl,a,c.k,dx,_,.int i,rfl,ha,O.cl,O.na,rfl,?_⟩
  walk_at "r"
  refine ⟨y,t,i,rfl,hy,?_⟩
  by_cases hi:0<=i/\i < (t.ps.length:Int)
  ·rw [decide_eq_true hi]
   walk_at "r"
   cases hy with
   | @mk b p wd nv n us ts qb hn qp l hch =>
   have hi':0<=i/\i < (ts.length:Int):=hi
   have hlt:i.toNat < ts.length:=by omega
   refine Af qb rfl ?_
   walk_at "r"
   refine ⟨_,rfl,a,c.k,dx,_,.int i,rfl,ha,O.cl,O.na,rfl,?_⟩
   have hu:us[i.toNat]?=some (us[i.toNat]'(by omega)):=Ow _
   refine Af qp (Zdm i.toNat (by omega) hu) ?_
   have ht:ts[i.toNat]?=some ts[i.toNat]:=Ow hlt
   refine q ts[i.toNat] ?_ _ H (Same.refl _) (hch _ _ _ hu ht)
   show (if _ then ts[i.toNat]? else none)=_
   rw [if_pos hi,ht]
  ·rw [decide_eq_false hi]
   walk_at "r"
   exact ⟨Cu,e (if_neg hi) H (Same.refl _)⟩
theorem Zme:Aw ["self", "form"] ["self", "form"] (Aj Jw):=by walk_at "sc"
theorem Zvm {c:Cs}{ND:Addr}{f:Addr}{fd:FuncData}(A:c.Apart)(F:Fun K "done" "Note.done" Jw f fd)(T:Txt K mg)(O:B1 K mg "Note" c.n)(C_is_note:As P w K mg base 3 "is_note" ["word", "note"] (Ny K))(R_NoDeed:G9 K ND)(G_NoDeed:mg "NoDeed" = some (.ref ND)):FnOk P w K mg base (A4 P w) 7 f fd ["self", "form"] (C1 K c ND c.n):=by
 refine F.okx Zme (fun vs H Q E h=>?_) (fun cdv A' outer s H vs Q E hr h=>?_)
 ·obtain ⟨x,d,y,t,rfl,_⟩:=h
  rfl
 ·obtain ⟨x,d,y,t,rfl,hx,hc,hy,oky,q,e⟩:=h
  obtain ⟨n0,nt,rfl⟩:=Zhc A hc
  obtain ⟨a,dx,fs,rfl,ha,hf⟩:=hx
  obtain ⟨nv0,rfl,hnv,hdn⟩:=hf
  refine ⟨_,Ae (Aq (B3 (Bu (Am C_is_note hr.m (Aa (Ai K (qv 1) Ac) (Aa (Eo K (qv 0)) Ab))))) (Ad (Oi rfl R_NoDeed G_NoDeed (Aa Ao Ab) (fun _ _ _ _ _ _ _ I x h0 hn he=>Nc I x h0 hn he) rfl)) Ar)
   (Ad (Ah (A3 (Aa (Ai K (qv 1) Ac) (Aa (Eo K (qv 0)) (Aa (Ai K (qv 1) Ac) Ab)))))),?_⟩
  cases hy with
  | @mk b p wd nv n us ts qb hn qp l hch =>
  walk_at "r"
  refine Af qb rfl ?_
  walk_at "r"
  refine ⟨_,rfl,a,c.n,dx,_,nv0,rfl,ha,O.cl,O.nn,rfl,?_⟩
  walk_at "r"
  refine ⟨wd,nv0,nt,rfl,IsN.nt hnv hdn,fun H1 s1=>?_⟩
  cases hb:Bj wd nt with
  | false =>
   walk_at "r"
   exact ⟨Cu,e (if_neg (by show ¬ Bj wd nt=true;rw [hb];exact Ov)) H1 s1⟩
  | true =>
   walk_at "r"
   refine Af (s1.tup qb) rfl ?_
   walk_at "r"
   refine ⟨_,rfl,a,c.n,dx,_,nv0,rfl,s1 _ _ ha,O.cl,O.nn,rfl,?_⟩
   walk_at "r"
   refine Af (s1.tup qb) rfl ?_
   walk_at "r"
   refine ⟨B0,fun p2 h2=>?_⟩
   have s2:=s1.put (o:=.tup [.str wd,nv0,.ref p]) h2
   exact q (.mk wd n0 ts) (if_pos hb) _ _ s2 (.mk (SqT.of Ag) (hnv.same s2.t) (s2.tup qp) l fun j v t e1 e2=>(hch j v t e1 e2).same s2)
theorem Zpn:Aw ["self", "form"] ["self", "form"] (Aj Kp):=by walk_at "sc"
theorem Znq {c:Cs}{ND:Addr}{f:Addr}{fd:FuncData}(A:c.Apart)(F:Fun K "done" "Change.done" Kp f fd)(T:Txt K mg)(O:B1 K mg "Change" c.g):FnOk P w K mg base (A4 P w) 7 f fd ["self", "form"] (C1 K c ND c.g):=by
 refine F.okx Zpn (fun vs H Q E h=>?_) (fun cdv A' outer s H vs Q E hr h=>?_)
 ·obtain ⟨x,d,y,t,rfl,_⟩:=h
  rfl
 ·obtain ⟨x,d,y,t,rfl,hx,hc,hy,oky,q,e⟩:=h
  obtain ⟨p,rfl⟩:=Zhl A hc
  obtain ⟨a,dx,fs,rfl,ha,hf⟩:=hx
  obtain ⟨v,rfl,hv⟩:=hf
  refine ⟨_,Ad (Ah (Eo K (qv 0))),?_⟩
  walk_at "r"
  exact ⟨_,rfl,a,c.g,dx,_,v,rfl,ha,O.cl,O.nf,rfl,q p rfl v H (Same.refl _) hv⟩
theorem Znd:Aw ["self", "form"] ["self", "form"] (Aj Ky):=by walk_at "sc"
theorem Zq4 {c:Cs}{ND:Addr}{f:Addr}{fd:FuncData}(A:c.Apart)(F:Fun K "back" "Deed.back" Ky f fd)(T:Txt K mg)(MK_Deed:Gk K mg "Deed" c.d):FnOk P w K mg base (A4 P w) 9 f fd ["self", "form"] (Ev K c ND c.d):=by
 refine F.okx Znd (fun vs H Q E h=>?_) (fun cdv A' outer s H vs Q E hr h=>?_)
 ·obtain ⟨x,d,y,t,rfl,_⟩:=h
  rfl
 ·obtain ⟨x,d,y,t,rfl,hx,hc,hy,oky,hz,q,e⟩:=h
  obtain rfl:=Zg0 A hc
  have hx':=hx
  obtain ⟨a,dx,fs,rfl,ha,hf⟩:=hx
  refine ⟨_,Ad (Ah (Jv MK_Deed)),?_⟩
  walk_at "r"
  intro a1 d1 h1 h2 h3
  exact q t rfl _ _ (Same.made h1 h2 h3) ⟨a1,d1,[],rfl,Ag,rfl⟩
theorem Zq1:Aw ["self", "form"] ["self", "form"] (Aj Km):=by walk_at "sc"
theorem Zqy {c:Cs}{ND:Addr}{f:Addr}{fd:FuncData}(A:c.Apart)(F:Fun K "back" "Put.back" Km f fd)(T:Txt K mg)(M:Co (A4 P w) P w K mg base 7 c.p "done" ["self", "form"] (C1 K c ND c.p))(MK_Cut:Gk K mg "Cut" c.c):FnOk P w K mg base (A4 P w) 9 f fd ["self", "form"] (Ev K c ND c.p):=by
 refine F.okx Zq1 (fun vs H Q E h=>?_) (fun cdv A' outer s H vs Q E hr h=>?_)
 ·obtain ⟨x,d,y,t,rfl,_⟩:=h
  rfl
 ·obtain ⟨x,d,y,t,rfl,hx,hc,hy,oky,hz,q,e⟩:=h
  obtain ⟨p,rfl⟩:=Zfn A hc
  have hx':=hx
  obtain ⟨a,dx,fs,rfl,ha,hf⟩:=hx
  refine ⟨_,Ae (Cc (Gj (k:=7) K (A4 P w) ["self", "form"] (qv 0) hr.m (Hl (fun _ _ _ h=>h)) (Aa (qv 1) Ab)))
   (Ad (Ah (Jv MK_Cut))),?_⟩
  walk_at "r"
  refine ⟨_,rfl,a,c.p,dx,_,_,rfl,ha,hf.nd,M,?_⟩
  walk_at "r"
  refine ⟨_,.put p,y,t,rfl,hx',rfl,hy,oky,fun u hu v1 H1 s1 _=>?_,fun hn H1 s1=>e hn H1 s1⟩
  walk_at "r"
  intro a1 d1 h1 h2 h3
  exact q u hu _ _ (s1.trans (Same.made h1 h2 h3)) ⟨a1,d1,[],rfl,Ag,rfl⟩
theorem Zqm:Aw ["self", "form"] ["self", "form"] (Aj Lj):=by walk_at "sc"
theorem Zow {c:Cs}{ND:Addr}{f:Addr}{fd:FuncData}(A:c.Apart)(F:Fun K "back" "Fill.back" Lj f fd)(T:Txt K mg)(M:Co (A4 P w) P w K mg base 7 c.f "done" ["self", "form"] (C1 K c ND c.f))(MK_Cut:Gk K mg "Cut" c.c):FnOk P w K mg base (A4 P w) 9 f fd ["self", "form"] (Ev K c ND c.f):=by
 refine F.okx Zqm (fun vs H Q E h=>?_) (fun cdv A' outer s H vs Q E hr h=>?_)
 ·obtain ⟨x,d,y,t,rfl,_⟩:=h
  rfl
 ·obtain ⟨x,d,y,t,rfl,hx,hc,hy,oky,hz,q,e⟩:=h
  obtain ⟨p,rfl⟩:=Zhf A hc
  have hx':=hx
  obtain ⟨a,dx,fs,rfl,ha,hf⟩:=hx
  refine ⟨_,Ae (Cc (Gj (k:=7) K (A4 P w) ["self", "form"] (qv 0) hr.m (Hl (fun _ _ _ h=>h)) (Aa (qv 1) Ab)))
   (Ad (Ah (Jv MK_Cut))),?_⟩
  walk_at "r"
  refine ⟨_,rfl,a,c.f,dx,_,_,rfl,ha,hf.nd,M,?_⟩
  walk_at "r"
  refine ⟨_,.fill p,y,t,rfl,hx',rfl,hy,oky,fun u hu v1 H1 s1 _=>?_,fun hn H1 s1=>e hn H1 s1⟩
  walk_at "r"
  intro a1 d1 h1 h2 h3
  exact q u hu _ _ (s1.trans (Same.made h1 h2 h3)) ⟨a1,d1,[],rfl,Ag,rfl⟩
theorem Znf:Aw ["self", "form"] ["self", "form"] (Aj L9):=by walk_at "sc"
theorem Zq2 {c:Cs}{ND:Addr}{f:Addr}{fd:FuncData}(A:c.Apart)(F:Fun K "back" "Cut.back" L9 f fd)(T:Txt K mg)(M:Co (A4 P w) P w K mg base 7 c.c "done" ["self", "form"] (C1 K c ND c.c))(MK_Fill:Ee An P w K mg base 7 "Fill" c.f ["self", "form"] (Mz K c)):FnOk P w K mg base (A4 P w) 9 f fd ["self", "form"] (Ev K c ND c.c):=by
 refine F.okx Znf (fun vs H Q E h=>?_) (fun cdv A' outer s H vs Q E hr h=>?_)
 ·obtain ⟨x,d,y,t,rfl,_⟩:=h
  rfl
 ·obtain ⟨x,d,y,t,rfl,hx,hc,hy,oky,hz,q,e⟩:=h
  obtain rfl:=Zgq A hc
  have hx':=hx
  obtain ⟨a,dx,fs,rfl,ha,hf⟩:=hx
  refine ⟨_,Ae (Cc (Gj (k:=7) K (A4 P w) ["self", "form"] (qv 0) hr.m (Hl (fun _ _ _ h=>h)) (Aa (qv 1) Ab)))
   (Ad (Ah (G5 MK_Fill hr.m Cb (Aa (qv 1) Ab)))),?_⟩
  walk_at "r"
  refine ⟨_,rfl,a,c.c,dx,_,_,rfl,ha,hf.nd,M,?_⟩
  walk_at "r"
  refine ⟨_,.cut,y,t,rfl,hx',rfl,hy,oky,fun u hu v1 H1 s1 _=>?_,fun hn H1 s1=>e hn H1 s1⟩
  have hw:t.wd ≠ "gap" := fun h=>by rw [show Bb t .cut=none from if_pos h] at hu;cases hu
  walk_at "r"
  refine ⟨y,rfl,fun a1 d1 h1 h2 h3=>?_⟩
  have s2:=Same.made (C:=c.f) (fs:=[]) h1 h2 h3
  refine ⟨a1,d1,y,t,rfl,Ag,hy.same (s1.trans s2),oky,hz,hw,fun H4 sb e4=>⟨rfl,?_⟩⟩
  have s4:=s1.trans (sb.made h1 h2)
  exact q u hu _ _ s4 ⟨a1,d1,_,rfl,e4,y,rfl,hy.same s4⟩
theorem Zqo:Aw ["self", "form"] ["self", "form"] (Aj Jp):=by walk_at "sc"
theorem Zq3 {c:Cs}{ND:Addr}{f:Addr}{fd:FuncData}(A:c.Apart)(F:Fun K "back" "Wrap.back" Jp f fd)(T:Txt K mg)(O:B1 K mg "Wrap" c.w)(MK_Keep_1:B5 An P w K mg base 1 "Keep" c.k ["self", "at"] [] (fun vs _=>vs) (Fi K c)):FnOk P w K mg base (A4 P w) 9 f fd ["self", "form"] (Ev K c ND c.w):=by
 refine F.okx Zqo (fun vs H Q E h=>?_) (fun cdv A' outer s H vs Q E hr h=>?_)
 ·obtain ⟨x,d,y,t,rfl,_⟩:=h
  rfl
 ·obtain ⟨x,d,y,t,rfl,hx,hc,hy,oky,hz,q,e⟩:=h
  obtain ⟨p,i,rfl⟩:=Zha A hc
  have hx':=hx
  obtain ⟨a,dx,fs,rfl,ha,hf⟩:=hx
  refine ⟨_,Ad (Ah (Gh MK_Keep_1 hr.m Cb (Aa (Eo K (qv 0)) Ab) (Fg))),?_⟩
  obtain ⟨v,rfl,hv,hi,h3'⟩:=hf
  walk_at "r"
  refine ⟨_,rfl,a,c.w,dx,_,.int (i:Nat),rfl,ha,O.cl,O.na,rfl,?_⟩
  intro a1 d1 h1 h2 h3
  refine ⟨a1,d1,_,rfl,Ag,rfl,?_⟩
  exact q _ rfl _ _ ((Same.made h1 h2 h3).over h1) ⟨a1,d1,_,rfl,Ag,rfl⟩
theorem Ztn:Aw ["self", "form"] ["self", "form"] (Aj Lb):=by walk_at "sc"
theorem Zui {c:Cs}{ND:Addr}{f:Addr}{fd:FuncData}(A:c.Apart)(F:Fun K "back" "Keep.back" Lb f fd)(T:Txt K mg)(M:Co (A4 P w) P w K mg base 7 c.k "done" ["self", "form"] (C1 K c ND c.k))(MK_Change:Ee An P w K mg base 7 "Change" c.g ["self", "form"] (K3 K c)):FnOk P w K mg base (A4 P w) 9 f fd ["self", "form"] (Ev K c ND c.k):=by
 refine F.okx Ztn (fun vs H Q E h=>?_) (fun cdv A' outer s H vs Q E hr h=>?_)
 ·obtain ⟨x,d,y,t,rfl,_⟩:=h
  rfl
 ·obtain ⟨x,d,y,t,rfl,hx,hc,hy,oky,hz,q,e⟩:=h
  obtain ⟨i,rfl⟩:=Zil A hc
  have hx':=hx
  obtain ⟨a,dx,fs,rfl,ha,hf⟩:=hx
  refine ⟨_,Ae (Cc (Gj (k:=7) K (A4 P w) ["self", "form"] (qv 0) hr.m (Hl (fun _ _ _ h=>h)) (Aa (qv 1) Ab)))
   (Ad (Ah (G5 MK_Change hr.m Cb (Aa (qv 1) Ab)))),?_⟩
  walk_at "r"
  refine ⟨_,rfl,a,c.k,dx,_,_,rfl,ha,hf.nd,M,?_⟩
  walk_at "r"
  refine ⟨_,.keep i,y,t,rfl,hx',rfl,hy,oky,fun u hu v1 H1 s1 _=>?_,fun hn H1 s1=>e hn H1 s1⟩
  walk_at "r"
  refine ⟨y,rfl,fun a1 d1 h1 h2 h3=>?_⟩
  have s2:=Same.made (C:=c.g) (fs:=[]) h1 h2 h3
  refine ⟨a1,d1,y,t,rfl,Ag,hy.same (s1.trans s2),oky,hz,fun H4 sb e4=>⟨rfl,?_⟩⟩
  have s4:=s1.trans <| sb.made h1 h2
  exact q u hu _ _ s4 ⟨a1,d1,_,rfl,e4,y,rfl,hy.same s4⟩
theorem Zre:Aw ["self", "form"] ["self", "form"] (Aj J8):=by walk_at "sc"
theorem Zpb {c:Cs}{ND:Addr}{f:Addr}{fd:FuncData}(A:c.Apart)(F:Fun K "back" "Note.back" J8 f fd)(T:Txt K mg)(M:Co (A4 P w) P w K mg base 7 c.n "done" ["self", "form"] (C1 K c ND c.n))(MK_Note:Ee An P w K mg base 1 "Note" c.n ["self", "note"] (Nd K c)):FnOk P w K mg base (A4 P w) 9 f fd ["self", "form"] (Ev K c ND c.n):=by
 refine F.okx Zre (fun vs H Q E h=>?_) (fun cdv A' outer s H vs Q E hr h=>?_)
 ·obtain ⟨x,d,y,t,rfl,_⟩:=h
  rfl
 ·obtain ⟨x,d,y,t,rfl,hx,hc,hy,oky,hz,q,e⟩:=h
  obtain ⟨n0,nt,rfl⟩:=Zhc A hc
  have hx':=hx
  obtain ⟨a,dx,fs,rfl,ha,hf⟩:=hx
  refine ⟨_,Ae (Cc (Gj (k:=7) K (A4 P w) ["self", "form"] (qv 0) hr.m (Hl (fun _ _ _ h=>h)) (Aa (qv 1) Ab)))
   (Ad (Ah (G5 MK_Note hr.m Cb (Aa (Ai K (qv 1) Ac) Ab)))),?_⟩
  cases hy with
  | @mk b p wd nv n us ts qb hn qp l hch =>
  have hy:TrAt K H (.ref b) (.mk wd n ts):=.mk qb hn qp l hch
  walk_at "r"
  refine ⟨_,rfl,a,c.n,dx,_,_,rfl,ha,hf.nd,M,?_⟩
  walk_at "r"
  refine ⟨_,.note n0 nt,_,_,rfl,hx',rfl,hy,oky,fun u hu v1 H1 s1 _=>?_,fun hn H1 s1=>e hn H1 s1⟩
  walk_at "r"
  unfold Jz
  walk_at "r"
  refine Af (s1.tup qb) rfl ?_
  walk_at "r"
  intro a1 d1 h1 h2 h3
  refine ⟨a1,d1,_,rfl,Ag,rfl,?_⟩
  have s4:=s1.trans ((Same.made (C:=c.n) (fs:=[]) h1 h2 h3).over (o:=.ins c.n d1 [("note",nv)]) h1)
  exact q u hu _ _ s4 ⟨a1,d1,_,rfl,Ag,nv,rfl,hn.same s4.t,(Zcc oky).1⟩
theorem Zq6:Aw ["self", "form"] ["self", "form"] (Aj Kx):=by walk_at "sc"
theorem Zm0 {c:Cs}{ND:Addr}{f:Addr}{fd:FuncData}(A:c.Apart)(F:Fun K "back" "Change.back" Kx f fd)(T:Txt K mg)(MK_Change:Ee An P w K mg base 7 "Change" c.g ["self", "form"] (K3 K c)):FnOk P w K mg base (A4 P w) 9 f fd ["self", "form"] (Ev K c ND c.g):=by
 refine F.okx Zq6 (fun vs H Q E h=>?_) (fun cdv A' outer s H vs Q E hr h=>?_)
 ·obtain ⟨x,d,y,t,rfl,_⟩:=h
  rfl
 ·obtain ⟨x,d,y,t,rfl,hx,hc,hy,oky,hz,q,e⟩:=h
  obtain ⟨p,rfl⟩:=Zhl A hc
  have hx':=hx
  obtain ⟨a,dx,fs,rfl,ha,hf⟩:=hx
  refine ⟨_,Ad (Ah (G5 MK_Change hr.m Cb (Aa (qv 1) Ab))),?_⟩
  walk_at "r"
  refine ⟨y,rfl,fun a1 d1 h1 h2 h3=>?_⟩
  have s2:=Same.made (C:=c.g) (fs:=[]) h1 h2 h3
  refine ⟨a1,d1,y,t,rfl,Ag,hy.same (s2),oky,hz,fun H4 sb e4=>⟨rfl,?_⟩⟩
  have s4:=sb.made h1 h2
  exact q p rfl _ _ s4 ⟨a1,d1,_,rfl,e4,y,rfl,hy.same s4⟩
noncomputable def N3 (K:On)(c:Cs)(C:Addr):Sp:=fun vs H Q _=>∃ x d y t u,vs=[x,y]/\DdAt K c H x d/\d.cls c=C/\TrAt K H y t/\TrOk t/\Bb t d=some u/\∀ v H',Same H H'->TrAt K H' v u->Q v H'
noncomputable def Zcz (K:On)(c:Cs)(C:Addr):Sp:=fun vs H Q _=>∃ x d y t u,vs=[x,y]/\DdAt K c H x d/\d.cls c=C/\TrAt K H y t/\TrOk t/\t.size<=1000/\Bb t d=some u/\∀ x' H',Same H H'->DdAt K c H' x' (Dk t d)->Q x' H'
noncomputable def Zia (K:On)(c:Cs):Sp:=fun vs H Q _=>∃(v:V)(p:Addr)(t u:Tr)(r:Rw),vs=[v,.ref p]/\TrAt K H v t/\TrOk t/\t.size<=1000/\Zi8 K c H p r/\Bk t r u/\∀ v' H',Same H H'->TrAt K H' v' u->Q v' H'
theorem sc_behind:Aw ["tree", "row", "made", "place", "deed"] ["tree", "row"] (Aj Kv):=by walk_at "sc"
theorem Ztt {c:Cs}{f:Addr}{fd:FuncData}(F:Fun K "behind" "behind" Kv f fd)(T:Txt K mg)(C_form_at:As P w K mg base 4 "form_at" ["tree", "place"] (Zhs K))(C_with_at:As P w K mg base 4 "with_at" ["tree", "place", "form"] (Ziu K))(M:∀ d:Dd,Co An P w K mg base 7 (d.cls c) "done" ["self", "form"] (N3 K c (d.cls c))):FnOk P w K mg base An 8 f fd ["tree", "row"] (Zia K c):=by
 refine F.okq sc_behind (fun vs H Q E h=>?_) (fun cdv A outer s H vs Q E hr h=>?_)
 ·obtain ⟨v,p,t,u,r,rfl,_⟩:=h
  rfl
 ·obtain ⟨v,p,t,u,r,rfl,ht,okt,hz,⟨ds,ed,al⟩,hbk,q⟩:=h
  refine ⟨_,Ae (Az 2 sc_behind (qv 0))
   (Ae (Dw Pw rfl (Fs K (qv 1)) (Gn K (n:=2) rfl (C4 (Bc (i:=3) sc_behind.nd rfl (Or.inl rfl)) (C4 (Bc (i:=4) sc_behind.nd rfl (Or.inl rfl)) (Gx)))) (Ad (Az 2 sc_behind (Am C_with_at hr.m (Aa (qv 2) (Aa (qv 3) (Aa (Gj (k:=7) K An ["self", "form"] (qv 4) hr.m Cb (Aa (Am C_form_at hr.m (Aa (qv 2) (Aa (qv 3) Ab))) Ab)) Ab)))))))
   (Ad (Ah (qv 2)))),?_⟩
  have bg:=Ce
  walk_at "r"
  refine .inl ⟨p,rfl,⟨_,ed⟩,?_⟩
  refine Zdh (K:=K) (a:=p) (xs:=ds) (fun i σ' H'=>∃ v3 v4 v' t',σ'=[some v,some (.ref p),some v',v3,v4]/\TrAt K H' v' t'/\TrOk t'/\Bk t' (r.drop i) u/\t'.size<=1000/\Same H H') ⟨_,_,v,t,rfl,ht,okt,hbk,hz,Same.refl _⟩ ?_ ?_ ?_
  ·rintro i σ' H' _ ⟨_,_,_,_,_,_,_,_,_,sm⟩
   exact sm.seq ed
  ·rintro i x σ' H' hx ⟨v3,v4,v',t',rfl,hv',okt',hl',hz',sm⟩
   obtain ⟨⟨pl,d⟩,hg,hdo⟩:=al.get hx
   have hi:=(Pa.mp hg).1
   have hdr:r.drop i=(pl,d)::r.drop (i+1):=by
    rw [Qq hi]
    rw [Ow hi] at hg
    rw [Pi hg]
   rw [hdr] at hl'
   obtain ⟨a,qp,y,rfl,qa,qq,hdd⟩:=PairAt.same sm _ _ hdo
   obtain ⟨oa,dx,fs,rfl,ho,hfs⟩:=id hdd
   cases hl' with
   | @ok _ f g _ _ _ _ hat hd og hz2 hs =>
   have hpl:pl.length<=1000:=by have:=hat.len;omega
   have okf:=hat.ok okt'
   refine Gq qa rfl ?_
   walk_at "r"
   refine ⟨_,rfl,oa,d.cls c,dx,fs,_,rfl,ho,hfs.nd,M d,?_⟩
   walk_at "r"
   refine ⟨v',t',qp,pl,f,rfl,hv',qq,hat.sub,hpl,hat.path,fun u1 H1 s1 hu1=>?_⟩
   walk_at "r"
   refine ⟨_,d,u1,f,g,rfl,hdd.same s1,rfl,hu1,okf.1,hd,fun v2 H2 s2 hv2=>?_⟩
   have s12:=s1.trans s2
   walk_at "r"
   refine ⟨v',v2,t',g,qp,pl,rfl,hv'.same s12,s12.tup qq,hat.sub,hpl,by omega,hv2,fun v5 H5 s5 h5=>?_⟩
   walk_at "r"
   exact ⟨_,_,v5,_,rfl,h5,hat.okw okt' og,hs,hz2,sm.trans (s12.trans s5)⟩
  ·rintro σ' H' ⟨v3,v4,v',t',rfl,hv',okt',hl',hz',sm⟩
   rw [al.1,List.drop_length] at hl'
   cases hl'
   walk_at "r"
   exact q v' H' sm hv'
noncomputable def Zg3 (K:On):Sp:=fun vs H Q _=>∃(v:V)(t:Tr),vs=[v]/\TrAt K H v t/\t.size<=2000/\∀(p:Addr)(rows:List V)(H':Hp),Same H H'->H p=none->H' p=some (.lst rows)->Al (RowAt K H') rows (walk [] t)->Q (.ref p) H'
theorem sc_law_walk:Aw ["_law_tree_here", "_law_rows", "_law_left", "_law_place", "_law_form_here", "_law_k"] ["_law_tree_here"] (Aj Jh):=by walk_at "sc"
noncomputable def WkJ (K:On)(H:Hp)(v:V)(t:Tr)(pt pw:Addr)(m:Nat)(σ:St)(H':Hp):Prop:=∃(v3 v4 v5:Option V)(tv wv:List V)(dn st:List (List Nat×Tr)),σ=[some v,some (.ref pt),some (.ref pw),v3,v4,v5]/\H' pt=some (.lst tv)/\H' pw=some (.lst wv) /\
 Al (RowAt K H') tv dn/\Al (RowAt K H') wv st/\dn++Fk st=walk [] t/\m=load st/\Same H H'
theorem Zuv {f:Addr}{fd:FuncData}(F:Fun K "_law_walk" "_law_walk" Jh f fd)(T:Txt K mg):FnOk P w K mg base An 1 f fd ["_law_tree_here"] (Zg3 K):=by
 refine F.okq sc_law_walk (fun vs H Q E h=>?_) (fun cdv A outer s H vs Q E hr h=>?_)
 ·obtain ⟨v,t,rfl,_⟩:=h
  rfl
 ·obtain ⟨v,t,rfl,ht,hz,q⟩:=h
  refine ⟨_,Ae (Az 1 sc_law_walk (B6 Ab))
   (Ae (Az 2 sc_law_walk (B6 (Aa (A3 (Aa (A3 Ab) (Aa (qv 0) Ab))) Ab)))
   (Ae (Zc3 Pw (Au Fx (A8 (Cd K) (by rfl) T.len (by decide +kernel) (Aa (qv 2) Ab)) Ac (Av _)) (Ae (G2 (Hz K Ps Sn So Ko (qv 2)) (Gn K (n:=2) rfl (C4 (Bc (i:=3) sc_law_walk.nd rfl (Or.inl rfl)) (C4 (Bc (i:=4) sc_law_walk.nd rfl (Or.inl rfl)) (Gx)))))
   (Ae (Cc (Ea K Ps Qw Qx E1 (qv 1) (Aa (A3 (Aa (qv 3) (Aa (qv 4) Ab))) Ab)))
   (Ad (Dw Pw rfl (Znj rfl T.range (Aa (A2 Zbv (A8 (Cd K) (by rfl) T.len (by decide +kernel) (Aa (Ai K (qv 4) Ac) Ab)) Ac) (Aa (Hs Ix Ac) (Aa (Hs Ix Ac) Ab)))) (Bc (i:=5) sc_law_walk.nd rfl (Or.inl rfl)) (Ad (Cc (Ea K Ps Qw Qx E1 (qv 2) (Aa (A3 (Aa (A2 (Bp K) (qv 3) (A3 (Aa (qv 5) Ab))) (Aa (Ai K (Ai K (qv 4) Ac) (qv 5)) Ab))) Ab)))))))))
   (Ad (Ah (qv 1))))),?_⟩
  have bg:=Ce
  walk_at "r"
  refine ⟨Ez,fun pt hpt=>?_⟩
  walk_at "r"
  refine ⟨Ez,fun p0 hp0=>?_⟩
  walk_at "r"
  refine ⟨Bl,fun p1 hp1=>?_⟩
  walk_at "r"
  refine ⟨Cu,fun pw hpw=>?_⟩
  walk_at "r"
  have s0:Same (upd H pt (.lst [])) _:=((Same.upd (o:=.tup []) hp0).put (o:=.tup [.ref p0,v]) hp1).put (o:=.lst [.ref p1]) hpw
  have s1:Same (upd (upd H pt (.lst [])) p0 (.tup [])) _:=(Same.upd (o:=.tup [.ref p0,v]) hp1).put (o:=.lst [.ref p1]) hpw
  have s2:=Same.upd (o:=.lst [.ref p1]) hpw
  have sH:=(Same.upd (o:=.lst []) hpt).trans s0
  have ept:=s0 pt _ Ag
  have epw:upd (upd (upd (upd H pt (.lst [])) p0 (.tup [])) p1 (.tup [.ref p0,v])) pw (.lst [.ref p1]) pw=some (.lst [.ref p1]):=Ag
  have ep0:=s1 p0 _ Ag
  have ep1:=s2 p1 _ Ag
  have npw:pt≠pw:=fun z=>by rw [z] at ept;rw [Ag] at ept;cases ept
  have hpw0:H pw=none:=((Same.upd (o:=.lst []) hpt).trans ((Same.upd (o:=.tup []) hp0).put (o:=.tup [.ref p0,v]) hp1)).free hpw
  refine ⟨WkJ K H v t pt pw,⟨_,none,none,none,[],[.ref p1],[],[([],t)],rfl,ept,epw,.nil,Al.nil.snoc ⟨p1,p0,v,rfl,SqT.of ep1,SqT.of ep0,ht.same sH⟩,by simp [Fk],rfl,sH⟩,?_⟩
  rintro m σ' H' ⟨v3,v4,v5,tv,wv,dn,st,rfl,et,ew,al1,al2,hw,rfl,sm⟩
  have hdl:dn.length+load st=t.size:=by
   have:=congrArg List.length hw
   rw [Pb,Ib] at this
   exact this
  have htl:tv.length=dn.length:=al1.1
  walk_at "r"
  refine Hc (SqL.of ew) ?_
  walk_at "r"
  by_cases hwv:wv=[]
  ·subst hwv
   have hst:st=[]:=R3 al2.1.symm
   subst hst
   refine iteF ?_
   walk_at "r"
   rw [Zo9,Qt] at hw
   rw [hw] at al1
   exact q pt tv H' sm hpt et al1
  obtain ⟨wv',tp,st',x,rfl,rfl,al3,hrow⟩:=al2.last hwv
  have hne:decide ((0:Int) < ((wv'++[tp]).length:Int))=true:=decide_eq_true (by rw [Pb,Qj];omega)
  rw [hne]
  refine iteT ?_
  obtain ⟨pl,tx⟩:=x
  have hx:(pl,tx)∈walk [] t:=by rw [<- hw,Zea];simp
  have hpl:pl.length<=2000:=by have:=Zh6 [] t _ hx;simp at this;omega
  have hload:=Zvs st' (pl,tx)
  have hll:=Zjq (st'++(Bw pl 0 tx.ps).reverse)
  refine ⟨fun σ2 H2=>∃ m',m' < load (st'++[(pl,tx)])/\WkJ K H v t pt pw m' σ2 H2,fun _ _ h=>h,?_⟩
  walk_at "r"
  refine Dg (SqL.of ew) ?_
  refine Ji ew ?_
  have t1:SameT H' (upd H' pw (.lst wv')):=SameT.set ew
  have et2:upd H' pw (.lst wv') pt=some (.lst tv):=by rw [Ay npw];exact et
  obtain ⟨a,p,u,rfl,qa,qp,hu⟩:=id hrow
  refine Gq (t1.tup qa) rfl ?_
  walk_at "r"
  refine Dg (SqL.of et2) ?_
  walk_at "r"
  refine ⟨Bl,fun pr hpr=>?_⟩
  walk_at "r"
  have s2':=Same.upd (o:=.tup [.ref p,u]) hpr
  have et2':=s2' _ _ et2
  refine G8 et2' (by omega) ?_
  have t2:SameT H' (upd (upd (upd H' pw (.lst wv')) pr (.tup [.ref p,u])) pt (.lst (tv++[.ref pr]))):=t1.trans (s2'.t.trans (SameT.set et2'))
  have et3:upd (upd (upd H' pw (.lst wv')) pr (.tup [.ref p,u])) pt (.lst (tv++[.ref pr])) pt=some (.lst (tv++[.ref pr])):=Ag
  have ew3:upd (upd (upd H' pw (.lst wv')) pr (.tup [.ref p,u])) pt (.lst (tv++[.ref pr])) pw=some (.lst wv'):=by rw [Ay npw.symm];exact s2' _ _ Ag
  have er3:upd (upd (upd H' pw (.lst wv')) pr (.tup [.ref p,u])) pt (.lst (tv++[.ref pr])) pr=some (.tup [.ref p,u]):=by rw [Ay (Cq et2 hpr).symm];exact Ag
  have sm3:Same H (upd (upd (upd H' pw (.lst wv')) pr (.tup [.ref p,u])) pt (.lst (tv++[.ref pr]))):=((sm.over hpw0).put hpr).over hpt
  revert t2 et3 ew3 sm3 er3
  generalize upd (upd (upd H' pw (.lst wv')) pr (.tup [.ref p,u])) pt (.lst (tv++[.ref pr]))=H4
  intro t2 et3 ew3 er3 sm3
  have hu4:=hu.sameT t2
  have qp4:=t2.tup qp
  have hrow4:RowAt K H4 (.ref pr) (pl,tx):=⟨pr,p,u,rfl,SqT.of er3,qp4,hu4⟩
  cases hu4 with
  | @mk b pp wd nv n vs ts qb hn qpp hl hch =>
  walk_at "r"
  refine Af qb rfl ?_
  walk_at "r"
  refine Gp qpp ?_
  walk_at "r"
  have hvl:vs.length<=2000:=by
   have h1:=J3 ts
   have h2:=Tr.size_eq (.mk wd n ts)
   have h3:(walk [] t).length=t.size:=Ib _ _
   have h4:(Tr.mk wd n ts).size<=L2.load (st'++[(pl,Tr.mk wd n ts)]):=by
    unfold L2.load Fk
    rw [Ss,List.reverse_singleton,Vb,List.flatMap_singleton,Pb,Ib]
    exact Td _ _
   have h5:(Tr.mk wd n ts).ps=ts:=rfl
   rw [h5] at h2
   omega
  refine ⟨by omega,?_⟩
  have al4:Al (RowAt K H4) wv' st':=al3.mono (RowAt.same t2)
  have hkl:(Bw pl 0 ts).length=vs.length:=by rw [Zit];omega
  have hn':((vs.length:Int) - 1 - -1).toNat=vs.length:=by omega
  rw [hn']
  refine Ze4 (n:=vs.length) (fun j σ5 H5=>∃(v5:Option V)(wv5:List V),σ5=[some v,some (.ref pt),some (.ref pw),some (.ref p),some (.ref b),v5]/\H5 pt=some (.lst (tv++[.ref pr]))/\H5 pw=some (.lst wv5)/\Al (RowAt K H5) wv5 (st'++((Bw pl 0 ts).drop (vs.length - j)).reverse)/\SameT H4 H5/\Same H H5)
   ⟨_,wv',rfl,et3,ew3,by rw [Tp,R4 (by omega)];simpa using al4,SameT.refl _,sm3⟩ ?_ ?_
  ·rintro i σ5 H5 hi ⟨v5',wv5,rfl,e5t,e5w,al5,t5,sm5⟩
   have hk:(vs.length:Int) - 1 - (i:Int)=((vs.length - 1 - i:Nat):Int):=by omega
   rw [hk]
   walk_at "r"
   refine Dg (SqL.of e5w) ?_
   walk_at "r"
   refine ⟨Cu,fun p6 h6=>?_⟩
   refine F1 ((t5.trans (SameT.new h6)).tup qp4) (SqT.of Ag) (by show (Bq pl).length+1<=sizeLine;unfold Bq;rw [Pl];omega) fun r H7 s7 q7=>?_
   have s57:Same H5 H7:=(Same.upd h6).trans s7
   have hj:vs.length - 1 - i < vs.length:=by omega
   walk_at "r"
   refine Af ((t5.trans s57.t).tup qb) rfl ?_
   walk_at "r"
   refine Af ((t5.trans s57.t).tup qpp) (Iz (Ow hj)) ?_
   walk_at "r"
   refine ⟨Bl,fun p7 h7=>?_⟩
   walk_at "r"
   have s58:=s57.put (o:=.tup [.ref r,vs[vs.length - 1 - i]]) h7
   have hlw:wv5.length=st'.length+((Bw pl 0 ts).drop (vs.length - i)).length:=by have:=al5.1;simp at this ⊢;omega
   have hlk:(st'++(Bw pl 0 ts).reverse).length=st'.length+vs.length:=by rw [Pb,R8,hkl]
   have hll':(st'++(Bw pl 0 ts).reverse).length<=2000:=by
    have h1:load (st'++(Bw pl 0 (Tr.mk wd n ts).ps).reverse) < load (st'++[(pl,Tr.mk wd n ts)]):=hload
    have h2:(st'++(Bw pl 0 (Tr.mk wd n ts).ps).reverse).length<=load (st'++(Bw pl 0 (Tr.mk wd n ts).ps).reverse):=hll
    have h3:(Tr.mk wd n ts).ps=ts:=rfl
    rw [h3] at h1 h2
    omega
   have hdr:((Bw pl 0 ts).drop (vs.length - i)).length<=vs.length:=by rw [Tc];omega
   refine G8 (s58 _ _ e5w) (by omega) ?_
   have e8w:=s58 _ _ e5w
   have t9:SameT H5 (upd (upd H7 p7 (.tup [.ref r,vs[vs.length - 1 - i]])) pw (.lst (wv5++[.ref p7]))):=s58.t.trans (SameT.set e8w)
   have hj':vs.length - 1 - i < ts.length:=by omega
   have hat:=hch _ _ _ (Ow hj) (Ow hj')
   have hkid:(Bw pl 0 ts)[vs.length - 1 - i]?=some (pl++[vs.length - 1 - i],ts[vs.length - 1 - i]):=by
    rw [Zis,Ow hj']
    simp
   refine ⟨_,wv5++[.ref p7],rfl,?_,Ag,?_,t5.trans t9,(sm5.trans s58).over hpw0⟩
   ·rw [Ay npw];exact s58 _ _ e5t
   ·rw [Zp4 hkl hi hkid,<- Ua]
    refine (al5.mono (RowAt.same t9)).snoc ⟨p7,r,_,rfl,(SameT.set e8w).tup (SqT.of Ag),?_,hat.sameT (t5.trans t9)⟩
    have q9:=((SameT.new (o:=.tup [.ref r,vs[vs.length - 1 - i]]) h7).trans (SameT.set (o:=.lst (wv5++[.ref p7])) e8w)).tup q7
    have e:Bq (pl++[vs.length - 1 - i])=Bq pl++[.int ((vs.length - 1 - i:Nat):Int)]:=by unfold Bq;rw [Rn];rfl
    show SqT K _ r (Bq (pl++[vs.length - 1 - i]))
    rw [e]
    exact q9
  ·rintro σ5 H5 ⟨v5',wv5,rfl,e5t,e5w,al5,t5,sm5⟩
   rw [To,List.drop_zero] at al5
   refine ⟨_,hload,_,_,_,tv++[.ref pr],wv5,dn++[(pl,.mk wd n ts)],_,rfl,e5t,e5w,?_,al5,?_,rfl,sm5⟩
   ·exact (al1.mono (RowAt.same (t2.trans t5))).snoc (RowAt.same t5 _ _ hrow4)
   ·rw [<- hw,Zea,Ua]
    rfl
theorem Zmi (pl:List Nat)(k:Nat):(Bq pl).take k=Bq (pl.take k):=by unfold Bq;rw [List.map_take]
noncomputable def Zc1 (K:On):Sp:=fun vs H Q _=>∃(v:V)(p:Addr)(t u:Tr)(pl:List Nat),vs=[v,.ref p]/\TrAt K H v t/\SqT K H p (Bq pl)/\At t pl u/\∀ v',TrAt K H v' u->Q v' H
theorem sc_law_form:Aw ["_law_tree_here", "_law_place", "_law_form_here", "_law_k"] ["_law_tree_here", "_law_place"] (Aj Mj):=by walk_at "sc"
theorem Zvo {f:Addr}{fd:FuncData}(F:Fun K "_law_form" "_law_form" Mj f fd)(T:Txt K mg):FnOk P w K mg base An 1 f fd ["_law_tree_here", "_law_place"] (Zc1 K):=by
 refine F.okq sc_law_form (fun vs H Q E h=>?_) (fun cdv A outer s H vs Q E hr h=>?_)
 ·obtain ⟨v,p,t,u,pl,rfl,_⟩:=h
  rfl
 ·obtain ⟨v,p,t,u,pl,rfl,ht,hp,ha,q⟩:=h
  refine ⟨_,Ae (Az 2 sc_law_form (qv 0))
   (Ae (Dw Pw rfl (Fs K (qv 1)) (Bc (i:=3) sc_law_form.nd rfl (Or.inl rfl)) (Ad (Az 2 sc_law_form (Ai K (Ai K (qv 2) Ac) (qv 3)))))
   (Ad (Ah (qv 2)))),?_⟩
  walk_at "r"
  refine .inr (.inl ⟨p,rfl,⟨_,hp⟩,?_⟩)
  refine Zfy (K:=K) (a:=p) (xs:=Bq pl) (fun i σ' H'=>∃ v' w3 m,σ'=[some v,some (.ref p),some v',w3]/\H'=H/\At t (pl.take i) m/\TrAt K H v' m) ⟨v,none,t,rfl,rfl,.nil _,ht⟩ ?_ ?_ ?_
  ·rintro i σ' H' _ ⟨_,_,_,_,rfl,_⟩
   exact hp
  ·rintro i x σ' H' hx ⟨v',w3,m,rfl,rfl,hm,hv⟩
   obtain ⟨k,rfl,hk⟩:=Za2 hx
   obtain ⟨w',n',ts,m',a1,a2,a3⟩:=ha.step hk
   cases hm.det a1
   cases hv with
   | @mk b pp _ nv _ us _ qb hn qp l hch =>
   have hku:k < us.length:=by rw [l];exact (Pa.mp a2).1
   walk_at "r"
   refine Af qb rfl ?_
   walk_at "r"
   refine Af qp (Iz (Ow hku)) ?_
   walk_at "r"
   exact ⟨_,_,m',rfl,rfl,a3,hch k _ m' (Ow hku) a2⟩
  ·rintro σ' H' ⟨v',w3,m,rfl,rfl,hm,hv⟩
   walk_at "r"
   rw [J0,List.take_length] at hm
   cases hm.det ha
   exact q v' hv
noncomputable def Zbd (K:On):Sp:=fun vs H Q _=>∃(v:V)(p:Addr)(x:V)(t u f:Tr)(pl:List Nat),vs=[v,.ref p,x]/\TrAt K H v t/\t.size<=1000/\SqT K H p (Bq pl)/\At t pl u/\TrAt K H x f/\∀ v' H',Same H H'->TrAt K H' v' (Bf t pl f)->Q v' H'
theorem At.sz {t u:Tr}{pl:List Nat}(h:At t pl u):u.size<=t.size:=by
 induction h with
 | nil t=>exact Oq _
 | cons e _ ih=>have:=Jn e;rw [Tr.size];omega
theorem Znh:(["_law_k", "_law_place"]:List Str).Nodup:=by decide +kernel
theorem sc_law_with:Aw ["_law_tree_here", "_law_place", "_law_form_here", "_law_spots", "_law_spot", "_law_above", "_law_k"] ["_law_tree_here", "_law_place", "_law_form_here"] (Aj Lo):=by walk_at "sc"
theorem Zj5 {f:Addr}{fd:FuncData}(F:Fun K "_law_with" "_law_with" Lo f fd)(T:Txt K mg)(C__law_form:As P w K mg base 1 "_law_form" ["_law_tree_here", "_law_place"] (Zc1 K)):FnOk P w K mg base An 2 f fd ["_law_tree_here", "_law_place", "_law_form_here"] (Zbd K):=by
 refine F.okq sc_law_with (fun vs H Q E h=>?_) (fun cdv A outer s H vs Q E hr h=>?_)
 ·obtain ⟨v,p,x,t,u,f,pl,rfl,_⟩:=h
  rfl
 ·obtain ⟨v,p,x,t,u,f,pl,rfl,ht,hsz,hp,ha,hx,q⟩:=h
  refine ⟨_,Ae (M7 (i:=3) (N:=["_law_k", "_law_place"]) (σ0:=Dh 1 [1]) rfl (E8 rfl (by decide +kernel) (by decide +kernel) (by decide +kernel)) (Fh rfl T.range (Aa (A8 (Cd K) (by rfl) T.len (by decide +kernel) (Aa (qv 1) Ab)) Ab)) (E3 rfl (by rfl)) (fun _ _ _ _=>Bc (i:=0) Znh rfl (Or.inl rfl)) (fun _ _ _ _=>E5) (fun _ _ _ _=>Hv (Jr K) (qv 1) (Iu) (Jd (qv 0))) sc_law_with.nd rfl (Or.inl rfl))
   (Ae (Dw Pw rfl (Zif K rfl T.reversed (Aa (qv 3) Ab)) (Bc (i:=4) sc_law_with.nd rfl (Or.inl rfl)) (Ae (Az 5 sc_law_with (Am C__law_form hr.m (Aa (qv 0) (Aa (qv 4) Ab))))
   (Ae (Az 6 sc_law_with (Ai K (qv 1) (A8 (Cd K) (by rfl) T.len (by decide +kernel) (Aa (qv 4) Ab))))
   (Ad (Az 2 sc_law_with (A3 (Aa (Ai K (qv 5) Ac) (Aa (Ai K (qv 5) Ac) (Aa (A2 (Bp K) (A2 (Bp K) (Hv (Jr K) (Ai K (qv 5) Ac) (Iu) (Jd (qv 6))) (A3 (Aa (qv 2) Ab))) (Hv (Jr K) (Ai K (qv 5) Ac) (Jd (A2 (Bp K) (qv 6) Ac)) (Iu))) Ab)))))))))
   (Ad (Ah (qv 2)))),?_⟩
  have bg:=Ce
  have hpl:pl.length<=1000:=by have:=ha.len;omega
  walk_at "r"
  refine Gp hp ?_
  have hpn:((Bq pl).length:Int)=(pl.length:Nat):=by rw [J0]
  rw [hpn]
  walk_at "r"
  refine ⟨by omega,by omega,fun S hS=>?_⟩
  refine Hn (n:=((pl.length:Nat):Int).toNat) (Pv:=fun i ys σ' H'=>∃ kv,σ'=[kv,some (.ref p)]/\ys.length=i/\(∀ k,k < i->∃ a,ys[k]?=some (.ref a)/\SqT K H' a (Bq (pl.take k)))/\Same H H') ⟨none,rfl,rfl,(fun k h=>by omega),Same.upd hS⟩ ?_ ?_
  ·rintro i ys σ' H' hi hys ⟨kv,rfl,hl,hall,sm⟩
   walk_at "r"
   refine Md (sm.tup hp) fun r1 H1 s1 q1=>?_
   rw [Int.zero_add,Zam,Zmi] at q1
   walk_at "r"
   refine ⟨_,s1 _ _ hys,by omega,_,Ag,?_⟩
   have st:=SameT.set (o:=.lst (ys++[.ref r1])) (s1 _ _ hys)
   refine ⟨_,rfl,by simp [hl],fun k hk=>?_,(sm.trans s1).over hS⟩
   by_cases e:k=i
   ·subst e
    exact ⟨r1,by rw [Re (by omega),hl];simp,st.tup q1⟩
   ·obtain ⟨a,h1,h2⟩:=hall k (by omega)
    exact ⟨a,by rw [Qv (by omega)];exact h1,st.tup (s1.tup h2)⟩
  ·rintro zs σ' H1 hzs ⟨kv,rfl,hl,hall,s1⟩
   have hl:zs.length=pl.length:=by omega
   walk_at "r"
   refine ⟨S,zs,rfl,SqL.of hzs,?_⟩
   refine Ze9 (K:=K) (a:=S) (xs:=zs) (fun i σ' H'=>∃ x' w4 w5 w6 m,σ'=[some v,some (.ref p),some x',some (.ref S),w4,w5,w6]/\At t (pl.take (pl.length - i)) m/\TrAt K H' x' (Bf m (pl.drop (pl.length - i)) f)/\Same H1 H') ⟨x,_,_,_,u,rfl,by rw [Tp,List.take_length];exact ha,by rw [Tp,List.drop_length,Fb];exact hx.same s1,Same.refl _⟩ ?_ ?_ ?_
   ·rintro i σ' H2 _ ⟨_,_,_,_,_,_,_,_,s2⟩
    exact SqL.of (s2 _ _ hzs)
   ·rintro i y σ' H2 hi hy ⟨x',w4,w5,w6,m,rfl,hm,hb,s2⟩
    have hk0:zs.length - 1 - i < pl.length:=by omega
    obtain ⟨k,hk⟩:∃ k,k=zs.length - 1 - i:=⟨_,rfl⟩
    rw [<- hk] at hy hk0
    obtain ⟨a,h1,h2⟩:=hall k (by omega)
    rw [hy] at h1
    cases h1
    have s02:=s1.trans s2
    have hpk:pl[k]?=some pl[k]:=Ow hk0
    obtain ⟨w',n',ts,m',a1,a2,a3⟩:=ha.step hpk
    rw [show pl.length - i=k+1 by omega] at hm hb
    cases hm.det a3
    have hsa:=a1.sz
    walk_at "r"
    refine ⟨v,a,t,_,pl.take k,rfl,ht.same s02,s2.tup h2,a1,fun v' hv'=>?_⟩
    cases hv' with
    | @mk b pp _ nv _ us _ qb hn qp l hch =>
    have hku:pl[k] < us.length:=by rw [l];exact (Pa.mp a2).1
    have hul:us.length<=1000:=by have:=J3 ts;rw [Tr.size] at hsa;omega
    walk_at "r"
    refine Gp (s2.tup h2) ?_
    walk_at "r"
    refine Af (v:=.int (pl[k]:Nat)) (s02.tup hp) (Zdm k (by rw [J0,Qe];omega) (by unfold Bq;rw [R9,hpk];rfl)) ?_
    walk_at "r"
    refine Af qb rfl ?_
    walk_at "r"
    refine Af qb rfl ?_
    walk_at "r"
    refine Af qb rfl ?_
    walk_at "r"
    refine Md qp fun r1 H3 s3 q3=>?_
    rw [Zam] at q3
    walk_at "r"
    refine ⟨Cu,fun p4 h4=>?_⟩
    have s4:=Same.upd (o:=.tup [x']) h4
    refine F1 (s4.tup q3) (SqT.of Ag) (by rw [Qe];show _+1<=sizeLine;omega) fun r5 H5 s5 q5=>?_
    have s25:=s3.trans (s4.trans s5)
    walk_at "r"
    refine Af (s25.tup qb) rfl ?_
    walk_at "r"
    refine Md (s25.tup qp) fun r6 H6 s6 q6=>?_
    have ek:((pl[k]:Nat):Int)+1=((pl[k]+1:Nat):Int):=by omega
    rw [ek,Zgr] at q6
    refine F1 (s6.tup q5) q6 (by rw [Pb,Qe,Tc];show _+1+_<=sizeLine;omega) fun r7 H7 s7 q7=>?_
    rw [Zfc (by omega)] at q7
    walk_at "r"
    refine ⟨B0,fun p8 h8=>?_⟩
    have s8:=Same.upd (o:=.tup [.str w',nv,.ref r7]) h8
    have s28:=s25.trans (s6.trans (s7.trans s8))
    walk_at "r"
    refine ⟨.ref p8,_,_,_,.mk w' n' ts,rfl,by rw [show pl.length - (i+1)=k by omega];exact a1,?_,s2.trans s28⟩
    rw [show pl.length - (i+1)=k by omega,Qq hk0,Fd a2]
    refine .mk (SqT.of Ag) (hn.same s28.t) (s8.tup q7) (by rw [P0,P0];exact l) fun j y z g1 g2=>?_
    by_cases e:pl[k]=j
    ·subst e
     rw [Qy (by omega)] at g1 g2
     cases g1
     cases g2
     exact hb.same s28
    ·rw [R6 e] at g1 g2
     exact (hch j y z g1 g2).same s28
   ·rintro σ' H2 ⟨x',w4,w5,w6,m,rfl,hm,hb,s2⟩
    rw [show pl.length - zs.length=0 by omega] at hm hb
    rw [List.take_zero] at hm
    cases hm
    rw [List.drop_zero] at hb
    walk_at "r"
    exact q x' H2 (s1.trans s2) hb
noncomputable def Nw:Sp:=fun vs H Q _=>∃(wd:Str)(m:Nat),vs=[.str wd]/\Bo wd=some m/\∀(H':Hp),Same H H'->Q (.int m) H'
theorem Zma:Aw ["_law_word"] ["_law_word"] (Aj L6):=by walk_at "sc"
theorem Zmq {f:Addr}{fd:FuncData}(F:Fun K "_law_many" "_law_many" L6 f fd)(T:Txt K mg):FnOk P w K mg base An 1 f fd ["_law_word"] Nw:=by
 refine F.okq Zma (fun vs H Q E h=>?_) (fun cdv A outer s H vs Q E hr h=>?_)
 ·obtain ⟨a,m,rfl,_⟩:=h
  rfl
 ·obtain ⟨wd,m,rfl,hm,q⟩:=h
  refine ⟨_,Ae (Aq (Au (Dr K) (qv 0) (A3 (K7 (xs:=[.str "plus",.str "minus",.str "less",.str "call",.str "let"]) rfl)) (by rfl)) (Ad (Ah Ac)) Ar)
   (Ae (Aq (Au (A5 K hr.u200) (qv 0) Ao (Av _)) (Ad (Ah Ac)) Ar)
   (Ad (Ah (G7 Zhh (by rfl) T.int (by decide +kernel) (Aa (Cm (Dr K) (qv 0) (A3 (Aa Ao (Aa Ao Ab))) (by rfl)) Ab))))),?_⟩
  obtain ⟨e1,e2,e3,e4,_⟩:=Ha hm
  walk_at "r"
  refine ⟨sz5,fun p1 h1=>?_⟩
  refine Dc (.inr (SqT.of Ag)) rfl rfl ?_
  have s1:=Same.upd (o:=.tup [.str "plus",.str "minus",.str "less",.str "call",.str "let"]) h1
  rw [if_neg Ov,e1]
  walk_at "r"
  refine A0 (fun h=>?_) (fun h=>?_)
  ·have h:m=2:=of_decide_eq_true h
   subst h
   walk_at "r"
   exact q _ s1
  have n2:m≠2:=fun x=>h (decide_eq_true x)
  walk_at "r"
  rw [Cv,e2]
  refine A0 (fun h=>?_) (fun h=>?_)
  ·have h:m=3:=of_decide_eq_true h
   subst h
   walk_at "r"
   exact q _ s1
  have n3:m≠3:=fun x=>h (decide_eq_true x)
  walk_at "r"
  refine ⟨Bl,fun p2 h2=>?_⟩
  refine Dc (.inr (SqT.of Ag)) rfl rfl ?_
  rw [if_neg Ov,e3]
  walk_at "r"
  have q':=q _ (s1.put (o:=.tup [.str "fn",.str "rec"]) h2)
  by_cases z:m=1
  ·subst z
   exact q'
  ·have z0:m=0:=by omega
   subst z0
   exact q'
noncomputable def BoxAt (H:Hp)(b:Addr):Prop:=∃ i j:Int,H b=some (.lst [.int i,.int j])/\0<=j/\j < 2147483648
theorem BoxAt.same {H H':Hp}{b:Addr}(h:BoxAt H b)(e:Same H H'):BoxAt H' b:=by
 obtain ⟨i,j,h1,h2⟩:=h
 exact ⟨i,j,e _ _ h1,h2⟩
theorem BoxAt.ne {H:Hp}{b x:Addr}(h:BoxAt H b)(hx:H x=none):x≠b:=fun z=>by
 obtain ⟨i,j,h1,_⟩:=h
 rw [<- z,hx] at h1
 cases h1
theorem BoxAt.off {H:Hp}{b x:Addr}{o:HO}(h:BoxAt H b)(hx:x≠b):BoxAt (upd H x o) b:=by
 obtain ⟨i,j,h1,h2⟩:=h
 exact ⟨i,j,by rw [Ay hx.symm];exact h1,h2⟩
theorem _root_.L2.Same.b {H H':Hp}(e:Same H H')(a:Addr):SameB a H H':=fun b o _ h=>e b o h
theorem SameB.trans {a:Addr}{H H1 H2:Hp}(e:SameB a H H1)(e':SameB a H1 H2):SameB a H H2:=fun b o hb h=>e' b o hb (e b o hb h)
theorem SameB.over {b x:Addr}{H H':Hp}{o:HO}(e:SameB b H H')(h:H x=none):SameB b H (upd H' x o):=fun c o' hc hs=>by
 have:c≠x:=fun z=>by rw [z,h] at hs;cases hs
 rw [Ay this];exact e c o' hc hs
theorem SameB.self {b:Addr}{H:Hp}{o:HO}:SameB b H (upd H b o):=fun c o' hc hs=>by rw [Ay hc];exact hs
theorem SameB.t {b:Addr}{H H':Hp}(e:SameB b H H')(h:BoxAt H b):SameT H H':=fun c=>by
 obtain ⟨i,j,h1,_⟩:=h
 exact ⟨fun xs hx=>e c _ (fun z=>by rw [z,h1] at hx;cases hx) hx,fun o u hx=>e c _ (fun z=>by rw [z,h1] at hx;cases hx) hx⟩
theorem SameB.free {b x:Addr}{H H':Hp}(e:SameB b H H')(hb:x≠b)(h:H' x=none):H x=none:=by
 cases q:H x with
 | none=>rfl
 | some o=>rw [e x o hb q] at h;cases h
noncomputable def E2:Sp:=fun vs H Q _=>∃(b:Addr)(m:Int),vs=[.ref b,.int m]/\BoxAt H b/\0 < m/\m<=10 ^ 18/\∀(d:Int)(H':Hp),SameB b H H'->BoxAt H' b->0<=d->d < m->Q (.int d) H'
theorem sc_law_digit:Aw ["_law_box_here", "_law_many_here", "_law_digit_here", "_law_mixed"] ["_law_box_here", "_law_many_here"] (Aj K9):=by walk_at "sc"
theorem Zkh {f:Addr}{fd:FuncData}(F:Fun K "_law_digit" "_law_digit" K9 f fd)(T:Txt K mg):FnOk P w K mg base An 1 f fd ["_law_box_here", "_law_many_here"] E2:=by
 refine F.okq sc_law_digit (fun vs H Q E h=>?_) (fun cdv A outer s H vs Q E hr h=>?_)
 ·obtain ⟨b,m,rfl,_⟩:=h
  rfl
 ·obtain ⟨b,m,rfl,⟨i,j,eb,j0,j1⟩,m0,m1,q⟩:=h
  refine ⟨_,Ae (Aq (Au (Ld K) (Ai K (qv 0) Ac) (A3 (Aa Ac (Aa (Hs Ix Ac) Ab))) (by rfl)) (Ae (G2 (A8 Zrj (by rfl) T.divmod (by decide +kernel) (Aa (Ai K (qv 0) Ac) (Aa (qv 1) Ab))) (Gn K (n:=2) rfl (C4 (M9 (qv 0) Ac Oe) (C4 (Bc (i:=2) sc_law_digit.nd rfl (Or.inl rfl)) (Gx)))))
   (Ad (Ah (qv 2)))) Ar)
   (Ae (G2 (A2 Ei (A2 (Bp K) (A2 Ff (Ai K (qv 0) Ac) Ac) Ac) Ac) (M9 (qv 0) Ac Oe))
   (Ae (Az 3 sc_law_digit (A2 Ei (A2 Ff (Ai K (qv 0) Ac) (A2 (Bp K) (A2 Ei (Ai K (qv 0) Ac) Ac) Ac)) Ac))
   (Ae (Aq (Au Fx (qv 1) (A2 Zad Ac Ac) (Av _)) (Ad (Az 3 sc_law_digit (A2 Ff (A2 Ff (qv 3) (qv 3)) (qv 3)))) Ar)
   (Ad (Ah (A2 Ei (qv 3) (qv 1))))))),?_⟩
  walk_at "r"
  refine Cy (SqL.of eb) (v:=.int i) rfl ?_
  walk_at "r"
  refine ⟨Bl,fun p hp=>?_⟩
  have s1:=Same.upd (o:=.tup [.int 0,.int (-1)]) hp
  refine Dc (.inr (SqT.of Ag)) rfl rfl ?_
  have eb1:=s1 _ _ eb
  revert s1 eb1
  generalize upd H p _=H1
  intro s1 eb1
  walk_at "r"
  refine A0 (fun _=>?_) (fun _=>?_)
  ·walk_at "r"
   refine Cy (SqL.of eb1) (v:=.int i) rfl ?_
   walk_at "r"
   refine ⟨i,m,rfl,m0,m1,fun p2 h2=>?_⟩
   have s2:=Same.upd (o:=.tup [.int (i / m),.int (i % m)]) h2
   refine Gq (SqT.of Ag) rfl ?_
   walk_at "r"
   refine Nr (s2 _ _ eb1) (j:=0) rfl ?_
   walk_at "r"
   exact q _ _ (((s1.trans s2).b b).trans SameB.self) ⟨_,_,Ag,j0,j1⟩ (Q2 _ (by omega)) (Q1 _ m0)
  walk_at "r"
  refine Cy (SqL.of eb1) (v:=.int j) rfl ?_
  walk_at "r"
  refine Nr eb1 (j:=1) rfl ?_
  have j2:=Q2 (j * 69621+104729) (b:=2147483587) (by decide)
  have j3:=Q1 (j * 69621+104729) (b:=2147483587) (by decide)
  have eb2:upd H1 b (.lst ([.int i,.int j].set 1 (.int ((j * 69621+104729) % 2147483587)))) b=some (.lst [.int i,.int ((j * 69621+104729) % 2147483587)]):=Ag
  have sb2:SameB b H (upd H1 b (.lst ([.int i,.int j].set 1 (.int ((j * 69621+104729) % 2147483587))))):=(s1.b b).trans SameB.self
  revert eb2 sb2 j2 j3
  generalize upd H1 b _=H2
  generalize (j * 69621+104729) % 2147483587=j'
  intro j2 j3 eb2 sb2
  walk_at "r"
  refine Cy (SqL.of eb2) (v:=.int j') rfl ?_
  walk_at "r"
  refine Cy (SqL.of eb2) (v:=.int j') rfl ?_
  walk_at "r"
  refine s_mul_l (by omega) (by omega) ?_
  walk_at "r"
  have k2:=Q2 (j' * (j' % 16807+1)) (b:=2147483579) (by decide)
  have k3:=Q1 (j' * (j' % 16807+1)) (b:=2147483579) (by decide)
  revert k2 k3
  generalize j' * (j' % 16807+1) % 2147483579=k
  intro k2 k3
  refine A0 (fun _=>?_) (fun _=>?_)
  ·walk_at "r"
   refine s_mul_l (by omega) (by omega) ?_
   walk_at "r"
   refine s_mul_r (by omega) (by omega) ?_
   walk_at "r"
   refine s_rI m0 ?_
   exact q _ _ sb2 ⟨_,_,eb2,j2,by omega⟩ (Q2 _ (by omega)) (Q1 _ m0)
  ·walk_at "r"
   refine s_rI m0 ?_
   exact q _ _ sb2 ⟨_,_,eb2,j2,by omega⟩ (Q2 _ (by omega)) (Q1 _ m0)
theorem Zc4 {ns:List Int}{i:Int}(h0:0<=i)(h1:i < (ns.length:Nat)):∃ y:Int,Bh (ns.map V.int) i=some (.int y):=by
 obtain ⟨v,hv,m⟩:=Ht (xs:=ns.map V.int) (i:=i) h0 (by rw [Pl];exact h1)
 obtain ⟨y,_,rfl⟩:=List.mem_map.mp m
 exact ⟨y,hv⟩
noncomputable def Zhm (K:On):Sp:=fun vs H Q _=>∃(a:Addr)(k:Int),vs=[.ref a,.int k]/\Script K H a/\0<=k/\k<=3/\∀(b:Addr)(H':Hp),Same H H'->H b=none->BoxAt H' b->Q (.ref b) H'
theorem sc_law_box:Aw ["_law_script", "_law_k", "_law_many_here", "_law_mixed", "_law_j", "_law_cell"] ["_law_script", "_law_k"] (Aj Ln):=by walk_at "sc"
theorem Znx {f:Addr}{fd:FuncData}(F:Fun K "_law_box" "_law_box" Ln f fd)(T:Txt K mg):FnOk P w K mg base An 1 f fd ["_law_script", "_law_k"] (Zhm K):=by
 refine F.okq sc_law_box (fun vs H Q E h=>?_) (fun cdv A outer s H vs Q E hr h=>?_)
 ·obtain ⟨a,k,rfl,_⟩:=h
  rfl
 ·obtain ⟨a,k,rfl,⟨ns,hS,hn⟩,k0,k1,q⟩:=h
  refine ⟨_,Ae (Az 2 sc_law_box (A8 (Cd K) (by rfl) T.len (by decide +kernel) (Aa (qv 0) Ab)))
   (Ae (Az 3 sc_law_box (A2 (Bp K) (A2 Ff Ac (qv 2)) (A2 Ff Ac (qv 1))))
   (Ae (Dw Pw rfl (Fh rfl T.range (Aa (A8 (Zuo rfl) (by rfl) T.min (by decide +kernel) (Aa (qv 2) (Aa Ac Ab))) Ab)) (Bc (i:=4) sc_law_box.nd rfl (Or.inl rfl)) (Ae (Az 5 sc_law_box (A2 Ei (Ai K (qv 0) (A2 Ei (A2 (Bp K) (A2 Ff Ac (qv 1)) (qv 4)) (qv 2))) Ac))
   (Ae (Az 3 sc_law_box (A2 (Bp K) (A2 Ff (qv 3) Ac) (A2 Ff (qv 5) (A2 (Bp K) (qv 4) Ac))))
   (Ad (Az 3 sc_law_box (A2 Ei (A2 Ff (qv 3) (A2 (Bp K) (A2 Ei (qv 3) Ac) Ac)) Ac))))))
   (Ae (Aq (QW.qt (Es (Au Fx (qv 2) Ac (Av _)) (Ey (Au (A5 K hr.u200) (A2 Ei (Ai K (qv 0) Ac) Ac) Ac (Av _))))) (Ad (Ah (B6 (Aa (A2 Zk9 (Ai K (qv 0) (A2 Ei (qv 1) (qv 2))) Ac) (Aa (qv 3) Ab))))) Ar)
   (Ad (Ah (B6 (Aa Ac (Aa (qv 3) Ab)))))))),?_⟩
  have bg:=Ce
  have hl:(ns.map V.int).length=ns.length:=Pl ..
  walk_at "r"
  refine Hc hS ?_
  rw [hl]
  walk_at "r"
  refine ⟨_,_,rfl,?_⟩
  have mn:∃ z:Nat,(if (8:Int) < (ns.length:Nat) then (8:Int) else (ns.length:Nat))=(z:Nat)/\z<=ns.length:=by
   by_cases h:(8:Int) < (ns.length:Nat)
   ·exact ⟨8,by rw [if_pos h];rfl,by omega⟩
   ·exact ⟨ns.length,by rw [if_neg h],Oq _⟩
  obtain ⟨z,ez,hz⟩:=mn
  rw [ez]
  walk_at "r"
  refine ⟨by omega,by omega,?_⟩
  refine Zbq (n:=((z:Nat):Int).toNat) (fun i σ' H'=>∃(x:Int)(v4 v5:Option V),σ'=[some (.ref a),some (.int k),some (.int (ns.length:Nat)),some (.int x),v4,v5]/\H'=H/\0<=x/\x < 2147483648) ⟨_,_,_,rfl,rfl,by omega,by omega⟩ ?_ ?_
  ·rintro i σ' H' hi ⟨x,v4,v5,rfl,rfl,x0,x1⟩
   have hp:0 < ns.length:=by omega
   walk_at "r"
   refine s_rI (by omega) ?_
   obtain ⟨y,hy⟩:=Zc4 (ns:=ns) (i:=(11 * k+(0+(i:Int))) % ((ns.length:Nat):Int)) (Q2 _ (by omega)) (Q1 _ (by omega))
   refine Cy hS hy ?_
   walk_at "r"
   have y2:=Q2 y (b:=2147483647) (by decide)
   have y3:=Q1 y (b:=2147483647) (by decide)
   revert y2 y3
   generalize y % 2147483647=y'
   intro y2 y3
   refine s_mul_l (by omega) (by omega) ?_
   walk_at "r"
   generalize x * 48271+y' * (0+(i:Int)+2)=c
   refine s_mul_r (by omega) (by omega) ?_
   walk_at "r"
   exact ⟨_,_,_,rfl,rfl,Q2 _ (by decide),by have:=Q1 (c * (c % 104729+1)) (b:=2147483587) (by decide);omega⟩
  ·rintro σ' H' ⟨x,v4,v5,rfl,rfl,x0,x1⟩
   have fin:∀ y:Int,([V.int y,.int x]:List V).length<=sizeLine/\∀ p,H' p=none->Q (.ref p) (upd H' p (.lst [.int y,.int x])):=fun y=>⟨Bl,fun p hp=>q p _ (Same.upd hp) hp ⟨y,x,Ag,x0,x1⟩⟩
   walk_at "r"
   by_cases hp:0 < ns.length
   ·rw [decide_eq_true (show (0:Int) < ((ns.length:Nat):Int) by omega)]
    walk_at "r"
    obtain ⟨y,hy⟩:=Zc4 (ns:=ns) (i:=0) (by omega) (by omega)
    refine Cy hS hy ?_
    walk_at "r"
    refine A0 (fun _=>?_) (fun _=>?_)
    ·walk_at "r"
     refine s_rI (by omega) ?_
     obtain ⟨y',hy'⟩:=Zc4 (ns:=ns) (i:=k % ((ns.length:Nat):Int)) (Q2 _ (by omega)) (Q1 _ (by omega))
     refine Cy hS hy' ?_
     walk_at "r"
     exact fin _
    ·walk_at "r"
     exact fin _
   ·rw [decide_eq_false (show ¬ (0:Int) < ((ns.length:Nat):Int) by omega)]
    walk_at "r"
    exact fin _
end
theorem Zph:LET.cps.toList.length=27:=by decide +kernel
theorem Zjy:LET.length<=sizeLine:=by decide +kernel
theorem Zd9 (u v:Str):(u++v).length=u.length+v.length:=by
 show (u.cps++v.cps).size=_
 simp [Str.length]
theorem Oc (t u:Str):(t++u).cps.toList=t.cps.toList++u.cps.toList:=by
 show (t.cps++u.cps).toList=_
 simp
theorem Zek (cs:List Nat):Txt.join "" (cs.map fun k=>(⟨#[k]⟩:Str))=⟨cs.toArray⟩:=by
 have e:("" : Str)=⟨#[]⟩:=by decide +kernel
 unfold Txt.join
 rw [PySem.StrLaws.glued_eq_join,e,PyProof.Rows.join_ones]
theorem Zhz (cs:List Nat):((cs.map fun k=>(⟨#[k]⟩:Str)).map (·.length)).sum=cs.length:=by
 induction cs with
 | nil=>rfl
 | cons c r ih=>rw [Q6,Q6,List.sum_cons,ih,Ph];show 1+_=_;omega
theorem e0:(Px "").length=0:=by decide +kernel
theorem Zb4 {t s:Str}{d:Nat}(h:d∈t.cps.toList)(hs:¬ d∈s.cps.toList):Bs t s=false:=by
 cases e:Bs t s with
 | false=>rfl
 | true=>exact absurd (of_decide_eq_true (Pj.mp e d h)) hs
theorem N1 {t s:Str}(h:∀ c∈t.cps.toList,c∈s.cps.toList):Bs t s=true:=Pj.mpr fun c hc=>decide_eq_true (h c hc)
noncomputable def SIG91:Str := "!\"#$&'*+,-./0123456789:;<=>?@ABCDEFGHIJKLMNOPQRSTUVWXYZ[\\]^_`abcdefghijklmnopqrstuvwxyz{|}~"
theorem Zn7:SIG91.cps.toList.length=91:=by decide +kernel
theorem Zpa:SIG91.length<=sizeLine:=by decide +kernel
theorem Zka:SIG91.cps.toList.all Dv=true:=by decide +kernel
theorem Zkf (x:Str)(l u:Option Int):(Qg x l u).length<=(Tw l u 1 x.length).length:=by
 unfold Qg
 split
 ·rename_i h
  simp at h
  omega
 ·show (List.toArray _).size<=_
  rw [Ou]
  exact List.length_filterMap_le ..
theorem Zi3 (t:Str):(Qg t (some 1) none).length+1<=t.length\/(Qg t (some 1) none).length=0:=by
 have h2:=Zkf t (some 1) none
 have h3:(Tw (some 1) none 1 t.length).length+1<=t.length\/(Tw (some 1) none 1 t.length).length=0:=by
  unfold Tw sliceRange
  simp only [show (1:Int) > 0 by decide,if_true,Pl,List.length_range]
  (repeat' split) <;> (try simp only [Int.ediv_one]) <;> omega
 omega
section
variable {P:Program}{w:World}{K:On}{mg:Str->Option Value}{base:Heap}
theorem in9 (t:Str):Cf (.str t) [.str "let",.str "in",.str "if",.str "then",.str "else",.str "fn",.str "rec",.str "yes",.str "no"]=Ca t W9:=by
 have:=F9 (t:=t) (ws:=W9)
 rw [<- this]
 rfl
theorem Zim:("_" : Str).cps.toList=[95]:=by decide +kernel
theorem Zo7:95∈LET.cps.toList:=by decide +kernel
theorem Zlm:W9.all (fun t=>!decide (95∈t.cps.toList))=true:=by decide +kernel
theorem Zqw {t:Str}(h:Bs t LET=true)(h2:t.length<=7):Bg (("_" : Str)++t)=true:=by
 have l1:(Px "_").length=1:=by decide +kernel
 have m:95∈(("_" : Str)++t).cps.toList:=by rw [Oc,Zim];simp
 have a:Bs (("_" : Str)++t) LET=true:=N1 fun c hc=>by
  rw [Oc,Zim] at hc
  rcases Pu.mp hc with hc | hc
  ·rw [P5.mp hc];exact Zo7
  ·exact of_decide_eq_true (Pj.mp h c hc)
 have n:Ca (("_" : Str)++t) W9=false:=Jc fun hm=>by
  have:=Pj.mp Zlm _ hm
  simp only [Ta,decide_eq_false_iff_not] at this
  exact this m
 unfold Bg
 rw [a,n,Zd9,l1,decide_eq_true (by omega),decide_eq_true (by omega)]
 rfl
noncomputable def Zbp:Sp:=fun vs H Q _=>∃ b:Addr,vs=[.ref b]/\BoxAt H b/\∀(t:Str)(H':Hp),SameB b H H'->BoxAt H' b->Bg t=true->Q (.str t) H'
theorem Zvr:(["_law_k", "_law_box_here"]:List Str).Nodup:=by decide +kernel
theorem sc_law_name:Aw ["_law_box_here", "_law_signs", "_law_name_here"] ["_law_box_here"] (Aj Ly):=by walk_at "sc"
theorem Ztq {f:Addr}{fd:FuncData}(F:Fun K "_law_name" "_law_name" Ly f fd)(T:Txt K mg)(C__law_digit:As P w K mg base 1 "_law_digit" ["_law_box_here", "_law_many_here"] E2):FnOk P w K mg base An 2 f fd ["_law_box_here"] Zbp:=by
 refine F.okq sc_law_name (fun vs H Q E h=>?_) (fun cdv A outer s H vs Q E hr h=>?_)
 ·obtain ⟨b,rfl,_⟩:=h
  rfl
 ·obtain ⟨b,rfl,hb,q⟩:=h
  refine ⟨_,Ae (M7 (i:=1) (N:=["_law_k", "_law_box_here"]) (σ0:=Dh 1 [0]) rfl (E8 rfl (by decide +kernel) (by decide +kernel) (by decide +kernel)) (Fh rfl T.range (Aa (A2 (Bp K) Ac (Am C__law_digit hr.m (Aa (qv 0) (Aa Ac Ab)))) Ab)) (E3 rfl (by rfl)) (fun _ _ _ _=>Bc (i:=0) Zvr rfl (Or.inl rfl)) (fun _ _ _ _=>E5) (fun _ _ _ _=>J9 (Zdr K) Ao (Am C__law_digit hr.m (Aa (qv 1) (Aa Ac Ab))) (fun _ _=>rfl)) sc_law_name.nd rfl (Or.inl rfl))
   (Ae (Az 2 sc_law_name (Ea K PySem.F.plainAttrs_str PySem.F.slot_str_join PySem.F.type_str_join (Ziv K) Ao (Aa (qv 1) Ab)))
   (Ae (Aq (Au (Dr K) (qv 2) (A3 (K7 (xs:=[.str "let",.str "in",.str "if",.str "then",.str "else",.str "fn",.str "rec",.str "yes",.str "no"]) rfl)) (by rfl)) (Ad (Az 2 sc_law_name (A2 (Bp K) Ao (Hv (k_sl K) (qv 2) (Jd Ac) (Iu))))) Ar)
   (Ad (Ah (qv 2))))),?_⟩
  have bg:=Ce
  walk_at "r"
  refine ⟨b,8,rfl,hb,by decide,by decide,fun d H1 s1 b1 d0 d1=>?_⟩
  walk_at "r"
  refine ⟨by omega,by omega,fun D hD=>?_⟩
  have nD:=b1.ne hD
  refine Hn (n:=(1+d).toNat) (Pv:=fun i ys σ' H'=>∃ kv cs,σ'=[kv,some (.ref b)]/\ys=(cs.map fun k=>(⟨#[k]⟩:Str)).map V.str/\cs.length=i/\(∀ c∈cs,c∈LET.cps.toList)/\BoxAt H' b/\SameB b H1 H') ⟨none,[],rfl,rfl,rfl,(fun c h=>nomatch h),b1.off nD,(Same.upd hD).b b⟩ ?_ ?_
  ·rintro i ys σ' H' hi hys ⟨kv,cs,rfl,rfl,hl,hc,bb,sb⟩
   walk_at "r"
   refine ⟨b,27,rfl,bb,by decide,by decide,fun e H2 s2 b2 e0 e1=>?_⟩
   obtain ⟨c,hc1,hcm⟩:=Ht (xs:=LET.cps.toList) (i:=e) e0 (by rw [Zph];exact e1)
   refine Og Zjy hc1 ?_
   walk_at "r"
   have ey:=s2 _ _ nD hys
   refine ⟨_,ey,by rw [Pl,Pl];omega,_,Ag,?_⟩
   refine ⟨_,cs++[c],rfl,by simp,by simp [hl],fun c' h'=>?_,b2.off nD,(sb.trans s2).over hD⟩
   rcases Pu.mp h' with h' | h'
   ·exact hc c' h'
   ·rw [P5.mp h'];exact hcm
  ·rintro ys σ' H2 hys ⟨kv,cs,rfl,rfl,hl,hc,bb,sb⟩
   walk_at "r"
   refine ⟨rfl,?_⟩
   walk_at "r"
   refine Zhj (K:=K) (SqL.of hys) (by rw [Zhz,e0];omega) ?_
   rw [Zek]
   have al:Bs (⟨cs.toArray⟩:Str) LET=true:=N1 fun c h=>hc c (by simpa using h)
   have ln:(⟨cs.toArray⟩:Str).length=cs.length:=by show cs.toArray.size=_;simp
   generalize (⟨cs.toArray⟩:Str)=t at al ln
   walk_at "r"
   refine ⟨sz9,fun p3 h3=>?_⟩
   have n3:=bb.ne h3
   have s3:=Same.upd (o:=.tup [.str "let",.str "in",.str "if",.str "then",.str "else",.str "fn",.str "rec",.str "yes",.str "no"]) h3
   refine Dc (.inr (SqT.of Ag)) rfl rfl ?_
   rw [if_neg Ov,in9]
   have sF:=s1.trans (sb.trans (s3.b b))
   have bF:=bb.same s3
   cases hw:Ca t W9 with
   | false =>
    walk_at "r"
    refine q t _ sF bF ?_
    unfold Bg
    rw [al,hw,decide_eq_true (by omega),decide_eq_true (by omega)]
    rfl
   | true =>
    walk_at "r"
    refine Zjl (by omega) ?_
    refine Zf2 (by have:=Zi3 t;have l1:(Px "_").length=1:=(by decide +kernel);omega) ?_
    walk_at "r"
    exact q _ _ sF bF (Zqw (N1 fun c h=>of_decide_eq_true (Pj.mp al c (Zj4 h))) (by have:=Zi3 t;omega))
noncomputable def PoolAt (H:Hp)(p:Addr):Prop:=∃ t0 t1 t2:Str,H p=some (.lst [.str t0,.str t1,.str t2])/\Bg t0=true/\Bg t1=true/\Bg t2=true
theorem PoolAt.sameB {H H':Hp}{p b:Addr}(h:PoolAt H p)(n:p≠b)(e:SameB b H H'):PoolAt H' p:=by
 obtain ⟨t0,t1,t2,h1,h2⟩:=h
 exact ⟨t0,t1,t2,e _ _ n h1,h2⟩
theorem Zl3 {t0 t1 t2:Str}(n0:Bg t0=true)(n1:Bg t1=true)(n2:Bg t2=true){e:Int}(h0:0<=e)(h1:e < 3):∃ t:Str,Bh ([.str t0,.str t1,.str t2]:List V) e=some (.str t)/\Bg t=true:=by
 obtain ⟨v,hv,m⟩:=Ht (xs:=([.str t0,.str t1,.str t2]:List V)) (i:=e) h0 h1
 simp only [O1,Pk,or_false] at m
 rcases m with h | h | h <;> exact ⟨_,by rw [hv,h],by assumption⟩
noncomputable def Zh2:Sp:=fun vs H Q _=>∃ b p:Addr,vs=[.ref b,.ref p]/\BoxAt H b/\PoolAt H p/\p≠b/\∀(t:Str)(H':Hp),SameB b H H'->BoxAt H' b->Bg t=true->Q (.str t) H'
theorem Zk6:Aw ["_law_box_here", "_law_pool"] ["_law_box_here", "_law_pool"] (Aj Kb):=by walk_at "sc"
theorem Zp6 {f:Addr}{fd:FuncData}(F:Fun K "_law_one_of" "_law_one_of" Kb f fd)(T:Txt K mg)(C__law_digit:As P w K mg base 1 "_law_digit" ["_law_box_here", "_law_many_here"] E2)(C__law_name:As P w K mg base 2 "_law_name" ["_law_box_here"] Zbp):FnOk P w K mg base An 3 f fd ["_law_box_here", "_law_pool"] Zh2:=by
 refine F.okq Zk6 (fun vs H Q E h=>?_) (fun cdv A outer s H vs Q E hr h=>?_)
 ·obtain ⟨b,p,rfl,_⟩:=h
  rfl
 ·obtain ⟨b,p,rfl,hb,hp,np,q⟩:=h
  refine ⟨_,Ae (Aq (Au Fx (Am C__law_digit hr.m (Aa (qv 0) (Aa Ac Ab))) Ac (Av _)) (Ad (Ah (Ai K (qv 1) (Am C__law_digit hr.m (Aa (qv 0) (Aa Ac Ab)))))) Ar)
   (Ad (Ah (Am C__law_name hr.m (Aa (qv 0) Ab)))),?_⟩
  walk_at "r"
  refine ⟨b,4,rfl,hb,by decide,by decide,fun d H1 s1 b1 d0 d1=>?_⟩
  have hp1:=hp.sameB np s1
  walk_at "r"
  refine A0 (fun _=>?_) (fun _=>?_)
  ·walk_at "r"
   refine ⟨b,3,rfl,b1,by decide,by decide,fun e H2 s2 b2 e0 e1=>?_⟩
   obtain ⟨t0,t1,t2,hq,n0,n1,n2⟩:=hp1.sameB np s2
   obtain ⟨t,ht,hn⟩:=Zl3 n0 n1 n2 e0 e1
   refine Cy (SqL.of hq) ht ?_
   exact q t H2 (s1.trans s2) b2 hn
  ·walk_at "r"
   exact ⟨b,rfl,b1,fun t H2 s2 b2 hn=>q t H2 (s1.trans s2) b2 hn⟩
noncomputable def Zci:Sp:=fun vs H Q _=>∃ t u:Str,vs=[.str t,.str u]/\t.length<=1000/\u.length<=1000/\Q (.bl (Bs t u)) H
theorem sc_law_all_of:Aw ["_law_text", "_law_signs", "_law_sign"] ["_law_text", "_law_signs"] (Aj Me):=by walk_at "sc"
theorem Zq0 {f:Addr}{fd:FuncData}(F:Fun K "_law_all_of" "_law_all_of" Me f fd)(T:Txt K mg):FnOk P w K mg base An 1 f fd ["_law_text", "_law_signs"] Zci:=by
 refine F.okq sc_law_all_of (fun vs H Q E h=>?_) (fun cdv A outer s H vs Q E hr h=>?_)
 ·obtain ⟨t,u,rfl,_⟩:=h
  rfl
 ·obtain ⟨t,u,rfl,hl,hu,q⟩:=h
  refine ⟨_,Ae (Dw Pw rfl (Fs K (qv 0)) (Bc (i:=2) sc_law_all_of.nd rfl (Or.inl rfl)) (Ad (Aq (Au (Ld K) (qv 2) (qv 1) (by rfl)) (Ad (Ah Bt)) Ar)))
   (Ad (Ah Bt)),?_⟩
  have bg:=Ce
  walk_at "r"
  refine .inr (.inr ⟨t,rfl,?_⟩)
  refine Zku (z:=t) (fun i σ' H'=>∃ v2,σ'=[some (.str t),some (.str u),v2]/\H'=H/\∀ c∈t.cps.toList.take i,c∈u.cps.toList) ⟨_,rfl,rfl,by simp⟩ ?_ ?_
  ·rintro i c σ' H' hc ⟨v2,rfl,rfl,ha⟩
   walk_at "r"
   refine .inr ⟨c,u,rfl,rfl,?_⟩
   rw [if_pos rfl]
   by_cases h:c∈u.cps.toList
   ·rw [decide_eq_true h]
    walk_at "r"
    refine ⟨_,rfl,rfl,fun d hd=>?_⟩
    rw [Vk,hc] at hd
    rcases Pu.mp hd with hd | hd
    ·exact ha d hd
    ·have:d=c:=by simpa using hd
     rw [this];exact h
   ·rw [decide_eq_false h]
    walk_at "r"
    rw [Zb4 (Pd hc) h] at q
    exact q
  ·rintro σ' H' ⟨v2,rfl,rfl,ha⟩
   walk_at "r"
   rw [Rt (by simp)] at ha
   rw [N1 ha] at q
   exact q
theorem in3 (t:Str):Cf (.str t) [.str "in",.str "then",.str "else"]=Ca t W3:=by
 have:=F9 (t:=t) (ws:=W3)
 rw [<- this]
 rfl
theorem in4 (t:Str):Cf (.str t) [.str "?",.str "+",.str "-",.str "<"]=Ca t S4:=by
 have:=F9 (t:=t) (ws:=S4)
 rw [<- this]
 rfl
theorem Zfx:("!" : Str).cps.toList=[33]:=by decide +kernel
theorem Zmf:(!decide (33∈LET.cps.toList) && !decide (33∈DIG.cps.toList) && W10.all fun x=>!decide (33∈x.cps.toList))=true:=by decide +kernel
theorem Zri {t:Str}(h2:t.length<=59)(ho:∀ c∈t.cps.toList,Dv c=true):Et (t++("!" : Str))=true:=by
 have hn:=Zmf
 simp only [Pt,Ta,decide_eq_false_iff_not] at hn
 obtain ⟨⟨n1,n2⟩,n3⟩:=hn
 have hd:33∈(t++("!" : Str)).cps.toList:=by rw [Oc,Zfx];simp
 have l1:(Px "!").length=1:=by decide +kernel
 have hl:(t++("!" : Str)).length=t.length+1:=by rw [Zd9,l1]
 have o:(t++("!" : Str)).cps.toList.all Dv=true:=Pj.mpr fun c hc=>by
  rw [Oc,Zfx] at hc
  rcases Pu.mp hc with hc | hc
  ·exact ho c hc
  ·rw [P5.mp hc];decide +kernel
 unfold Et Bg Gz
 rw [Zb4 hd n1,Zb4 hd n2,decide_eq_true (show 1<=(t++("!" : Str)).length by omega),decide_eq_true (show (t++("!" : Str)).length<=60 by omega),o,Jc (t:=t++("!" : Str)) (ws:=W10) (fun m=>by
  have:=Pj.mp n3 _ m
  simp only [Ta,decide_eq_false_iff_not] at this
  exact this hd)]
 simp
theorem Zlw:W3.all Et=true:=by decide +kernel
theorem Zkj:W10.all (fun t=>(decide (t.length<=8) && Bs t LET) || Ca t S4)=true:=by decide +kernel
theorem Zqa {t:Str}(h1:1<=t.length)(h2:t.length<=60)(ho:∀ c∈t.cps.toList,Dv c=true)(a:¬ (t.length<=8/\Bs t LET=true))(b:¬ (t.length<=18/\Bs t DIG=true/\(t = "0" \/ He t=false)))(c:Ca t S4=false):Et t=true:=by
 have n:Bg t=false:=by
  cases e:Bg t with
  | false=>rfl
  | true=>exact absurd ⟨(Hw e).2,(Hw e).1⟩ a
 have f:Gz t=false:=by
  cases e:Gz t with
  | false=>rfl
  | true =>
   unfold Gz at e
   simp only [Pt,Ue,decide_eq_true_eq,beq_iff_eq,Ta] at e
   exact absurd ⟨e.1.1.2,e.1.2,e.2⟩ b
 have w:Ca t W10=false:=Jc fun m=>by
  have:=Pj.mp Zkj t m
  simp only [Ue,Pt,decide_eq_true_eq,c] at this
  rcases this with h | h
  ·exact a h
  ·cases h
 unfold Et
 rw [n,f,w,decide_eq_true h1,decide_eq_true h2,Pj.mpr ho]
 rfl
theorem Zva:S4.all (fun t=>decide (t.length<=8))=true:=by decide +kernel
noncomputable def Zgm:Sp:=fun vs H Q _=>∃ b:Addr,vs=[.ref b]/\BoxAt H b/\∀(t:Str)(H':Hp),SameB b H H'->BoxAt H' b->Et t=true->t.length<=60->Q (.str t) H'
theorem Zr3:(["_law_k", "_law_signs", "_law_box_here"]:List Str).Nodup:=by decide +kernel
theorem sc_law_odd:Aw ["_law_box_here", "_law_signs", "_law_many_here", "_law_text"] ["_law_box_here"] (Aj Jx):=by walk_at "sc"
theorem Zse {f:Addr}{fd:FuncData}(F:Fun K "_law_odd" "_law_odd" Jx f fd)(T:Txt K mg)(C__law_digit:As P w K mg base 1 "_law_digit" ["_law_box_here", "_law_many_here"] E2)(C__law_all_of:As P w K mg base 1 "_law_all_of" ["_law_text", "_law_signs"] Zci):FnOk P w K mg base An 2 f fd ["_law_box_here"] Zgm:=by
 refine F.okq sc_law_odd (fun vs H Q E h=>?_) (fun cdv A outer s H vs Q E hr h=>?_)
 ·obtain ⟨b,rfl,_⟩:=h
  rfl
 ·obtain ⟨b,rfl,hb,q⟩:=h
  refine ⟨_,Ae (Zc6 (i:=1) sc_law_odd.nd rfl (Or.inr rfl) Ao)
   (Ae (Az 2 sc_law_odd (A2 (Bp K) Ac (Am C__law_digit hr.m (Aa (qv 0) (Aa (Ai K (B6 (Aa Ac (Aa Ac Ab))) (G7 Zhh (by rfl) T.int (by decide +kernel) (Aa (Cm Fx (Am C__law_digit hr.m (Aa (qv 0) (Aa Ac Ab))) Ac (Av _)) Ab))) Ab)))))
   (Ae (Az 3 sc_law_odd (Ea K PySem.F.plainAttrs_str PySem.F.slot_str_join PySem.F.type_str_join (Ziv K) Ao (Aa (Ik (N:=["_law_k", "_law_signs", "_law_box_here"]) (σ0:=Dh 1 [1,0]) rfl (E8 rfl (by decide +kernel) (by decide +kernel) (by decide +kernel)) (Fh rfl T.range (Aa (qv 2) Ab)) (E3 rfl (by rfl)) (fun _ _ _ _=>Bc (i:=0) Zr3 rfl (Or.inl rfl)) (fun _ _ _ _=>E5) (fun _ _ _ _=>J9 (Zdr K) (qv 1) (Am C__law_digit hr.m (Aa (qv 2) (Aa Ac Ab))) (fun _ _=>rfl))) Ab)))
   (Ae (Aq (Au (Dr K) (qv 3) (A3 (Aa Ao (Aa Ao (Aa Ao Ab)))) (by rfl)) (Ad (Ah (qv 3))) Ar)
   (Ae (Aq (QW.qt (Es (Au Eb (A8 (Cd K) (by rfl) T.len (by decide +kernel) (Aa (qv 3) Ab)) Ac (Av _)) (Ey (Bu (Am C__law_all_of hr.m (Aa (qv 3) (Aa Ao Ab))))))) (Ad (Ah (A2 (Bp K) (qv 3) Ao))) Ar)
   (Ae (Aq (QW.qt (Es (Au Eb (A8 (Cd K) (by rfl) T.len (by decide +kernel) (Aa (qv 3) Ab)) Ac (Av _)) (Es (Bu (Am C__law_all_of hr.m (Aa (qv 3) (Aa Ao Ab)))) (Ey (QW.qt (Di (Au (A5 K hr.u200) (qv 3) Ao (Av _)) (Dx (Au (C8 K hr.u200) (Ai K (qv 3) Ac) Ao (Av _))))))))) (Ad (Ah (A2 (Bp K) (qv 3) Ao))) Ar)
   (Ae (Aq (Au (Dr K) (qv 3) (A3 (K7 (xs:=[.str "?",.str "+",.str "-",.str "<"]) rfl)) (by rfl)) (Ad (Ah (A2 (Bp K) (qv 3) Ao))) Ar)
   (Ad (Ah (qv 3))))))))),?_⟩
  have bg:=Ce
  walk_at "r"
  refine ⟨Bl,fun p hp=>?_⟩
  have np:=hb.ne hp
  have b0:=hb.off (o:=.lst [.int 60,.int 6]) np
  have s0:=(Same.upd (o:=.lst [.int 60,.int 6]) hp).b b
  have e0':upd H p (.lst [.int 60,.int 6]) p=some (.lst [.int 60,.int 6]):=Ag
  revert b0 s0 e0'
  generalize upd H p (.lst [.int 60,.int 6])=G
  intro b0 s0 ep
  walk_at "r"
  refine ⟨b,4,rfl,b0,by decide,by decide,fun d H1 s1 b1 d0 d1=>?_⟩
  walk_at "r"
  have pick:∃ m:Int,Bh ([.int 60,.int 6]:List V) (if decide (0 < d)=true then 1 else 0)=some (.int m)/\0 < m/\m<=60:=by
   cases decide (0 < d)
   ·exact ⟨60,rfl,by decide,by decide⟩
   ·exact ⟨6,rfl,by decide,by decide⟩
  obtain ⟨m,hm,m0,m1⟩:=pick
  refine Cy (SqL.of (s1 _ _ np ep)) hm ?_
  walk_at "r"
  refine ⟨b,m,rfl,b1,m0,by omega,fun k H2 s2 b2 k0 k1=>?_⟩
  walk_at "r"
  refine ⟨rfl,?_⟩
  walk_at "r"
  refine ⟨by omega,by omega,fun D hD=>?_⟩
  have nD:=b2.ne hD
  refine Hn (n:=(1+k).toNat) (Pv:=fun i ys σ' H'=>∃ kv cs,σ'=[kv,some (.str SIG91),some (.ref b)]/\ys=(cs.map fun k=>(⟨#[k]⟩:Str)).map V.str/\cs.length=i/\(∀ c∈cs,Dv c=true)/\BoxAt H' b/\SameB b H2 H') ⟨none,[],rfl,rfl,rfl,(fun c h=>nomatch h),b2.off nD,(Same.upd hD).b b⟩ ?_ ?_
  ·rintro i ys σ' H' hi hys ⟨kv,cs,rfl,rfl,hl,hc,bb,sb⟩
   walk_at "r"
   refine ⟨b,91,rfl,bb,by decide,by decide,fun e H3 s3 b3 e0 e1=>?_⟩
   obtain ⟨c,hc1,hcm⟩:=Ht (xs:=SIG91.cps.toList) (i:=e) e0 (by rw [Zn7];exact e1)
   refine Og Zpa hc1 ?_
   walk_at "r"
   have ey:=s3 _ _ nD hys
   refine ⟨_,ey,by rw [Pl,Pl];omega,_,Ag,?_⟩
   refine ⟨_,cs++[c],rfl,by simp,by simp [hl],fun c' h'=>?_,b3.off nD,(sb.trans s3).over hD⟩
   rcases Pu.mp h' with h' | h'
   ·exact hc c' h'
   ·rw [P5.mp h'];exact Pj.mp Zka c hcm
  ·rintro ys σ' H3 hys ⟨kv,cs,rfl,rfl,hl,hc,bb,sb⟩
   walk_at "r"
   refine Zhj (K:=K) (SqL.of hys) (by rw [Zhz,e0];omega) ?_
   rw [Zek]
   have al:∀ c∈(⟨cs.toArray⟩:Str).cps.toList,Dv c=true:=fun c h=>hc c (by simpa using h)
   have ln:(⟨cs.toArray⟩:Str).length=cs.length:=by show cs.toArray.size=_;simp
   have hd:Bh (⟨cs.toArray⟩:Str).cps.toList 0=(⟨cs.toArray⟩:Str).cps.toList.head?:=by
    cases cs with
    | nil=>rfl
    | cons x r=>show Bh (x::r) ((0:Nat):Int)=some x;exact Iz rfl
   generalize (⟨cs.toArray⟩:Str)=t at al ln hd
   have t1:1<=t.length:=by omega
   have t2:t.length<=60:=by omega
   have sb:=s0.trans (s1.trans (s2.trans sb))
   clear hl hc hys ln
   have bang:t.length<=59->∀ H4,Same H3 H4->E9 K (.str t) (.str "!") H4 fun x H'=>Q x H':=fun h59 H4 s4 =>
    Zf2 (by have l1:(Px "!").length=1:=(by decide +kernel);omega) (q _ _ (sb.trans (s4.b b)) (bb.same s4) (Zri h59 al) (by have l1:(Px "!").length=1:=(by decide +kernel);rw [Zd9,l1];omega))
   have w2:∀ H4,Same H3 H4->¬ (t.length<=8/\Bs t LET=true)->¬ (t.length<=18/\Bs t DIG=true/\(t = "0" \/ He t=false))->(Hg (Gr (Er (Bv (G6 K false) (Bz 3) (Gf (K4 [.str "?",.str "+",.str "-",.str "<"])))) (E4 (Bv (E9 K) (Bz 3) (tC (.str "!")))) Ip) (E4 (Bz 3))) { nx:=fun _ H'=>Q V.non H',rt:=Q } [some (.ref b),some (.str SIG91),some (.int (1+k)),some (.str t)] H4:=by
    intro H4 s4 na nb
    walk_at "r"
    refine ⟨sz4,fun p5 h5=>?_⟩
    have s5:=s4.put (o:=.tup [.str "?",.str "+",.str "-",.str "<"]) h5
    refine Dc (.inr (SqT.of Ag)) rfl rfl ?_
    rw [if_neg Ov,in4]
    cases hs:Ca t S4 with
    | true =>
     walk_at "r"
     refine bang ?_ _ s5
     have:=Pj.mp Zva t (Zae hs)
     have:=of_decide_eq_true this
     omega
    | false =>
     walk_at "r"
     exact q t _ (sb.trans (s5.b b)) (bb.same s5) (Zqa t1 t2 al na nb hs) t2
   have w1:∀ H4,Same H3 H4->¬ (t.length<=8/\Bs t LET=true)->(Hg (Gr (Jg (Er (Bv Oj (Gc (G3 K) (B9 (Bz 3) C2)) (tC (V.int 18)))) (Jg (tB (Ex Zci [] E0 (B9 (Bz 3) (B9 (tC (V.str "0123456789")) C2)))) (tOr (Er (Bv (Im K) (Bz 3) (tC (V.str "0")))) (Er (Bv (Js K) (Bv (Fz K) (Bz 3) (tC (V.int 0))) (tC (V.str "0"))))))) (E4 (Bv (E9 K) (Bz 3) (tC (.str "!")))) Ip) (Hg (Gr (Er (Bv (G6 K false) (Bz 3) (Gf (K4 [.str "?",.str "+",.str "-",.str "<"])))) (E4 (Bv (E9 K) (Bz 3) (tC (.str "!")))) Ip) (E4 (Bz 3)))) { nx:=fun _ H'=>Q V.non H',rt:=Q } [some (.ref b),some (.str SIG91),some (.int (1+k)),some (.str t)] H4:=by
    intro H4 s4 na
    walk_at "r"
    refine Lq (by omega) ?_
    walk_at "r"
    by_cases h18:t.length<=18
    ·rw [decide_eq_true (show ((t.length:Nat):Int)<=18 by omega)]
     walk_at "r"
     refine ⟨t,DIG,rfl,by omega,by decide +kernel,?_⟩
     refine ⟨_,rfl,?_⟩
     cases hdg:Bs t DIG with
     | false =>
      (repeat with_reducible refine iteF ?_);refine s_next ?_
      exact w2 H4 s4 na (fun z=>by rw [hdg] at z;cases z.2.1)
     | true =>
      walk_at "r"
      by_cases h0:t = "0"
      ·subst h0
       rw [decide_eq_true (Eq.refl _)]
       walk_at "r"
       exact bang (by omega) H4 s4
      ·rw [decide_eq_false (fun z=>h0 (V.str.inj z))]
       walk_at "r"
       obtain ⟨c0,hc0⟩:∃ c0,t.cps.toList.head?=some c0:=by
        cases e:t.cps.toList with
        | nil=>exact absurd t1 (by show ¬ 1<=t.cps.size;rw [<- R7,e];decide)
        | cons x r=>exact ⟨x,rfl⟩
       refine Og (by omega) (hd.trans hc0) ?_
       walk_at "r"
       by_cases hz:c0=48
       ·subst hz
        have ec:(⟨#[48]⟩:Str) = "0" := by decide +kernel
        rw [ec,decide_eq_true (Eq.refl _)]
        (repeat with_reducible refine iteF ?_);refine s_next ?_
        refine w2 H4 s4 na (fun z=>?_)
        rcases z.2.2 with z | z
        ·exact h0 z
        ·unfold He at z;rw [hc0] at z;cases z
       ·rw [decide_eq_false (fun z=>hz (by
         have z:=V.str.inj z
         have:(⟨#[c0]⟩:Str).cps.toList=("0" : Str).cps.toList:=by rw [z]
         rw [show ("0" : Str).cps.toList=[48] by decide +kernel] at this
         simpa using this))]
        walk_at "r"
        exact bang (by omega) H4 s4
    ·rw [decide_eq_false (show ¬ ((t.length:Nat):Int)<=18 by omega)]
     (repeat with_reducible refine iteF ?_);refine s_next ?_
     exact w2 H4 s4 na (fun z=>h18 z.1)
   walk_at "r"
   refine ⟨B0,fun p4 h4=>?_⟩
   have s4:=Same.upd (o:=.tup [.str "in",.str "then",.str "else"]) h4
   refine Dc (.inr (SqT.of Ag)) rfl rfl ?_
   rw [if_neg Ov,in3]
   cases hw:Ca t W3 with
   | true =>
    walk_at "r"
    exact q t _ (sb.trans (s4.b b)) (bb.same s4) (Pj.mp Zlw t (Zae hw)) t2
   | false =>
   walk_at "r"
   refine Lq (by omega) ?_
   walk_at "r"
   by_cases h8:t.length<=8
   ·rw [decide_eq_true (show ((t.length:Nat):Int)<=8 by omega)]
    walk_at "r"
    refine ⟨t,LET,rfl,by omega,by decide +kernel,?_⟩
    refine ⟨_,rfl,?_⟩
    cases hlt:Bs t LET with
    | false =>
     (repeat with_reducible refine iteF ?_);refine s_next ?_
     exact w1 _ s4 (fun z=>by rw [hlt] at z;cases z.2)
    | true =>
     walk_at "r"
     exact bang (by omega) _ s4
   ·rw [decide_eq_false (show ¬ ((t.length:Nat):Int)<=8 by omega)]
    (repeat with_reducible refine iteF ?_);refine s_next ?_
    exact w1 _ s4 (fun z=>h8 z.1)
theorem Zt2 {wd:Str}:Cf (.str wd) [.str "name",.str "fn",.str "let"]=decide (wd∈(["name", "fn", "let"]:List Str)):=by
 have:=F9 (t:=wd) (ws:=["name", "fn", "let"])
 rw [show ([V.str "name",V.str "fn",V.str "let"]:List V)=(["name", "fn", "let"]:List Str).map V.str from rfl,this]
 by_cases hm:wd∈(["name", "fn", "let"]:List Str)
 ·rw [decide_eq_true hm,Zd6 hm]
 ·rw [decide_eq_false hm,Jc hm]
noncomputable def Za6 (K:On):Sp:=fun vs H Q _=>∃(wd:Str)(b p:Addr),vs=[.str wd,.ref b,.ref p]/\BoxAt H b/\PoolAt H p/\p≠b/\∀(note:V)(n:Dt)(nt:Nt)(H':Hp),SameB b H H'->BoxAt H' b->IsN K H' note n->Dm n nt->Bj wd nt=true->Q note H'
theorem Zju:Aw ["_law_word", "_law_box_here", "_law_pool"] ["_law_word", "_law_box_here", "_law_pool"] (Aj Lc):=by walk_at "sc"
theorem Zlr {f:Addr}{fd:FuncData}(F:Fun K "_law_remark" "_law_remark" Lc f fd)(T:Txt K mg)(C__law_digit:As P w K mg base 1 "_law_digit" ["_law_box_here", "_law_many_here"] E2)(C__law_odd:As P w K mg base 2 "_law_odd" ["_law_box_here"] Zgm)(C__law_one_of:As P w K mg base 3 "_law_one_of" ["_law_box_here", "_law_pool"] Zh2):FnOk P w K mg base An 4 f fd ["_law_word", "_law_box_here", "_law_pool"] (Za6 K):=by
 refine F.okq Zju (fun vs H Q E h=>?_) (fun cdv A outer s H vs Q E hr h=>?_)
 ·obtain ⟨wd,b,p,rfl,_⟩:=h
  rfl
 ·obtain ⟨wd,b,p,rfl,hb,hp,np,q⟩:=h
  refine ⟨_,Ae (Aq (Au (A5 K hr.u200) (qv 0) Ao (Av _)) (Ad (Ah (Am C__law_odd hr.m (Aa (qv 1) Ab)))) Ar)
   (Ae (Aq (Au (A5 K hr.u200) (qv 0) Ao (Av _)) (Ad (Ah (Am C__law_digit hr.m (Aa (qv 1) (Aa (Ai K (B6 (Aa (A2 Zad Ac Ac) (Aa Ac Ab))) (Am C__law_digit hr.m (Aa (qv 1) (Aa Ac Ab)))) Ab))))) Ar)
   (Ae (Aq (Au (A5 K hr.u200) (qv 0) Ao (Av _)) (Ad (Ah (Cm (A5 K hr.u200) (Am C__law_digit hr.m (Aa (qv 1) (Aa Ac Ab))) Ac (Av _)))) Ar)
   (Ae (Aq (Au (Dr K) (qv 0) (A3 (Aa Ao (Aa Ao (Aa Ao Ab)))) (by rfl)) (Ad (Ah (Am C__law_one_of hr.m (Aa (qv 1) (Aa (qv 2) Ab))))) Ar)
   (Ae (Aq (Au (A5 K hr.u200) (qv 0) Ao (Av _)) (Ad (Ah (A3 (Aa (Am C__law_one_of hr.m (Aa (qv 1) (Aa (qv 2) Ab))) (Aa (Am C__law_one_of hr.m (Aa (qv 1) (Aa (qv 2) Ab))) Ab))))) Ar)
   (Ad (Ah D4)))))),?_⟩
  have bg:=Ce
  have nb:∀ nt,Bj wd nt=(if wd = "odd" then Fn nt else if wd = "num" then En nt else if wd = "truth" then F2 nt else if wd∈(["name", "fn", "let"]:List Str) then Hr nt else if wd = "rec" then twoN nt else Go nt):=fun _=>rfl
  walk_at "r"
  rw [Cv]
  refine A0 (fun h=>?_) (fun h=>?_)
  ·walk_at "r"
   refine ⟨b,rfl,hb,fun t H1 s1 b1 ho hl=>?_⟩
   exact q _ _ _ H1 s1 b1 (.inl ⟨rfl,rfl⟩) (.fl (show t.length<=1000 by omega)) (by rw [nb,if_pos (of_decide_eq_true h)];exact ho)
  have g1:¬ wd = "odd" := fun x=>h (decide_eq_true x)
  walk_at "r"
  rw [Cv]
  refine A0 (fun h=>?_) (fun h=>?_)
  ·walk_at "r"
   rw [show (10:Int) ^ Int.toNat 18=1000000000000000000 by decide]
   refine ⟨Bl,fun p1 h1=>?_⟩
   have n1:=hb.ne h1
   have s1:=Same.upd (o:=.lst [.int 1000000000000000000,.int 4]) h1
   have b1:=hb.same s1
   have sb1:=s1.b b
   have e1:upd H p1 (.lst [.int 1000000000000000000,.int 4]) p1=some (.lst [.int 1000000000000000000,.int 4]):=Ag
   revert b1 sb1 e1
   generalize upd H p1 _=H1
   intro b1 sb1 e1
   walk_at "r"
   refine ⟨b,2,rfl,b1,by decide,by decide,fun e H2 s2 b2 e0 e2=>?_⟩
   have pick:∃ m:Int,Bh ([.int 1000000000000000000,.int 4]:List V) e=some (.int m)/\0 < m/\m<=10 ^ 18:=by
    obtain rfl | rfl:e=0\/e=1:=by omega
    ·exact ⟨1000000000000000000,rfl,by decide,by decide⟩
    ·exact ⟨4,rfl,by decide,by decide⟩
   obtain ⟨m,hm,m0,m1⟩:=pick
   refine Cy (SqL.of (s2 _ _ n1 e1)) hm ?_
   walk_at "r"
   refine ⟨b,m,rfl,b2,m0,m1,fun d H3 s3 b3 d0 d1=>?_⟩
   exact q _ _ _ H3 (sb1.trans (s2.trans s3)) b3 (.inl ⟨rfl,rfl⟩) (.fl (v:=.int d) trivial) (by rw [nb,if_neg g1,if_pos (of_decide_eq_true h)];show (decide (0<=d) && decide (d < 10 ^ 18))=true;rw [decide_eq_true d0,decide_eq_true (show d < 10 ^ 18 by omega)];rfl)
  have g2:¬ wd = "num" := fun x=>h (decide_eq_true x)
  walk_at "r"
  rw [Cv]
  refine A0 (fun h=>?_) (fun h=>?_)
  ·walk_at "r"
   refine ⟨b,2,rfl,hb,by decide,by decide,fun d H1 s1 b1 d0 d1=>?_⟩
   walk_at "r"
   exact q _ _ _ H1 s1 b1 (.inl ⟨rfl,rfl⟩) (.fl (v:=.bl _) trivial) (by rw [nb,if_neg g1,if_neg g2,if_pos (of_decide_eq_true h)];rfl)
  have g3:¬ wd = "truth" := fun x=>h (decide_eq_true x)
  walk_at "r"
  refine ⟨B0,fun p4 h4=>?_⟩
  refine Dc (.inr (SqT.of Ag)) rfl rfl ?_
  have s4:=Same.upd (o:=.tup [.str "name",.str "fn",.str "let"]) h4
  rw [if_neg Ov,Zt2]
  have b4:=hb.same s4
  have p4':=hp.sameB np (s4.b b)
  have sb4:=s4.b b
  revert b4 p4' sb4
  generalize upd H p4 _=H4
  intro b4 hp4 sb4
  walk_at "r"
  refine A0 (fun h=>?_) (fun h=>?_)
  ·walk_at "r"
   refine ⟨b,p,rfl,b4,hp4,np,fun t H1 s1 b1 hnt=>?_⟩
   exact q _ _ _ H1 (sb4.trans s1) b1 (.inl ⟨rfl,rfl⟩) (.fl (show t.length<=1000 by have:=(Hw hnt).2;omega)) (by rw [nb,if_neg g1,if_neg g2,if_neg g3,if_pos (of_decide_eq_true h)];exact hnt)
  have g4:¬ wd∈(["name", "fn", "let"]:List Str):=fun x=>h (decide_eq_true x)
  walk_at "r"
  rw [Cv]
  refine A0 (fun h=>?_) (fun h=>?_)
  ·walk_at "r"
   refine ⟨b,p,rfl,b4,hp4,np,fun t H1 s1 b1 hnt=>?_⟩
   walk_at "r"
   refine ⟨b,p,rfl,b1,hp4.sameB np s1,np,fun u H2 s2 b2 hnu=>?_⟩
   walk_at "r"
   refine ⟨Bl,fun p5 h5=>?_⟩
   have s5:=Same.upd (o:=.tup [.str t,.str u]) h5
   have l1:=(Hw hnt).2
   have l2:=(Hw hnu).2
   refine q _ _ _ _ (sb4.trans (s1.trans (s2.trans (s5.b b)))) (b2.same s5) (.inr ⟨p5,[.str t,.str u],rfl,SqT.of Ag,rfl,rfl⟩) (.tp (fun v hv=>?_)) (by rw [nb,if_neg g1,if_neg g2,if_neg g3,if_neg g4,if_pos (of_decide_eq_true h)];show (Bg t && Bg u)=true;rw [hnt,hnu];rfl)
   simp only [O1,Pk,or_false] at hv
   rcases hv with rfl | rfl
   ·show t.length<=1000
    omega
   ·show u.length<=1000
    omega
  ·have g5:¬ wd = "rec" := fun x=>h (decide_eq_true x)
   walk_at "r"
   exact q _ _ _ _ sb4 b4 (.inl ⟨rfl,rfl⟩) (.fl (v:=.non) trivial) (by rw [nb,if_neg g1,if_neg g2,if_neg g3,if_neg g4,if_neg g5];rfl)
noncomputable def K1:List V:=[.str "odd",.str "num",.str "truth",.str "name",.str "plus",.str "minus",.str "less",.str "call",.str "if",.str "fn",.str "rec",.str "let"]
noncomputable def Kt (K:On):Sp:=fun vs H Q _=>∃(b p:Addr)(j:Int),vs=[.ref b,.ref p,.int j]/\(j=0\/j=4)/\BoxAt H b/\PoolAt H p/\p≠b /\
 ∀(a:Addr)(wd:Str)(note:V)(n:Dt)(nt:Nt)(H':Hp),SameB b H H'->BoxAt H' b->SqT K H' a [.str wd,note]->IsN K H' note n->(Bo wd).isSome=true->wd ≠ "gap" -> Dm n nt->Bj wd nt=true->(j=4->∃ k,Bo wd=some (k+1))->Q (.ref a) H'
theorem Znb {n:Nat}(h:n < 12):∃ t:Str,Bh K1 (n:Int)=some (.str t)/\(Bo t).isSome=true/\t ≠ "gap" /\ (4<=n->∃ k,Bo t=some (k+1)):=by
 have:n=0\/n=1\/n=2\/n=3\/n=4\/n=5\/n=6\/n=7\/n=8\/n=9\/n=10\/n=11:=by omega
 rcases this with rfl | rfl | rfl | rfl | rfl | rfl | rfl | rfl | rfl | rfl | rfl | rfl <;> refine ⟨_,rfl,by decide +kernel,by decide +kernel,fun h=>?_⟩ <;> first | (exfalso;revert h;decide) | exact ⟨0,by decide +kernel⟩ | exact ⟨1,by decide +kernel⟩ | exact ⟨2,by decide +kernel⟩
theorem Zcq:Aw ["_law_box_here", "_law_pool", "_law_first", "_law_heads", "_law_word"] ["_law_box_here", "_law_pool", "_law_first"] (Aj Li):=by walk_at "sc"
theorem Zjw {f:Addr}{fd:FuncData}(F:Fun K "_law_head" "_law_head" Li f fd)(T:Txt K mg)(C__law_digit:As P w K mg base 1 "_law_digit" ["_law_box_here", "_law_many_here"] E2)(C__law_remark:As P w K mg base 4 "_law_remark" ["_law_word", "_law_box_here", "_law_pool"] (Za6 K)):FnOk P w K mg base An 5 f fd ["_law_box_here", "_law_pool", "_law_first"] (Kt K):=by
 refine F.okq Zcq (fun vs H Q E h=>?_) (fun cdv A outer s H vs Q E hr h=>?_)
 ·obtain ⟨b,p,j,rfl,_⟩:=h
  rfl
 ·obtain ⟨b,p,j,rfl,hj,hb,hp,np,q⟩:=h
  refine ⟨_,Ae (Az 3 Zcq (B6 (K7 (xs:=[.str "odd",.str "num",.str "truth",.str "name",.str "plus",.str "minus",.str "less",.str "call",.str "if",.str "fn",.str "rec",.str "let"]) rfl)))
   (Ae (Az 4 Zcq (Ai K (qv 3) (A2 (Bp K) (qv 2) (Am C__law_digit hr.m (Aa (qv 0) (Aa (A2 Zbv Ac (qv 2)) Ab))))))
   (Ad (Ah (A3 (Aa (qv 4) (Aa (Am C__law_remark hr.m (Aa (qv 4) (Aa (qv 0) (Aa (qv 1) Ab)))) Ab)))))),?_⟩
  walk_at "r"
  refine ⟨sz12,fun p1 h1=>?_⟩
  have s1:=Same.upd (o:=.lst K1) h1
  have n1:=hb.ne h1
  have e1:upd H p1 (.lst K1) p1=some (.lst K1):=Ag
  have b1:=hb.same s1
  have hp1:=hp.sameB np (s1.b b)
  have sb1:=s1.b b
  revert e1 b1 hp1 sb1
  unfold K1
  generalize upd H p1 _=H1
  intro e1 b1 hp1 sb1
  walk_at "r"
  refine ⟨b,_,rfl,b1,by omega,by omega,fun d H2 s2 b2 d0 d1=>?_⟩
  walk_at "r"
  obtain ⟨n,hn⟩:∃ n:Nat,j+d=(n:Nat):=⟨(j+d).toNat,by omega⟩
  obtain ⟨wd,hv,hps,hng,hq4⟩:=Znb (n:=n) (by omega)
  rw [<- hn] at hv
  refine Cy (SqL.of (s2 _ _ n1 e1)) hv ?_
  walk_at "r"
  refine ⟨wd,b,p,rfl,b2,hp1.sameB np s2,np,fun note n nt H3 s3 b3 hn hd hnb=>?_⟩
  walk_at "r"
  refine ⟨Bl,fun p4 h4=>?_⟩
  have s4:=Same.upd (o:=.tup [.str wd,note]) h4
  exact q p4 wd note n nt _ (sb1.trans (s2.trans (s3.trans (s4.b b)))) (b3.same s4) (SqT.of Ag) (hn.same s4.t) hps hng hd hnb (fun z=>hq4 (by omega))
noncomputable def Zbg (K:On):Sp:=fun vs H Q _=>∃(a:Addr)(wd:Str)(note:V)(n:Dt)(k:Nat),vs=[.ref a]/\SqT K H a [.str wd,note]/\IsN K H note n/\Bo wd=some k/\∀(r pp:Addr)(us:List V)(H':Hp),Same H H'->SqT K H' r [.str wd,note,.ref pp]->SqT K H' pp us->us.length=k->(∀ u∈us,TrAt K H' u gapT)->Q (.ref r) H'
theorem Zsq:(["_law_k"]:List Str).Nodup:=by decide +kernel
theorem Ztx:Aw ["_law_head_here"] ["_law_head_here"] (Aj Kz):=by walk_at "sc"
theorem Ztu {f:Addr}{fd:FuncData}(F:Fun K "_law_bare" "_law_bare" Kz f fd)(T:Txt K mg)(C__law_many:As P w K mg base 1 "_law_many" ["_law_word"] Nw):FnOk P w K mg base An 2 f fd ["_law_head_here"] (Zbg K):=by
 refine F.okq Ztx (fun vs H Q E h=>?_) (fun cdv A outer s H vs Q E hr h=>?_)
 ·obtain ⟨a,wd,note,n,k,rfl,_⟩:=h
  rfl
 ·obtain ⟨a,wd,note,n,k,rfl,qa,hn,hk,q⟩:=h
  refine ⟨_,Ad (Ah (A3 (Aa (Ai K (qv 0) Ac) (Aa (Ai K (qv 0) Ac) (Aa (G7 (Mw K) (by rfl) T.tuple (by decide +kernel) (Aa (Ik (N:=["_law_k"]) (σ0:=Dh 1 []) rfl (E8 rfl (by decide +kernel) (by decide +kernel) (by decide +kernel)) (Fh rfl T.range (Aa (Am C__law_many hr.m (Aa (Ai K (qv 0) Ac) Ab)) Ab)) (E3 rfl (by rfl)) (fun _ _ _ _=>Bc (i:=0) Zsq rfl (Or.inl rfl)) (fun _ _ _ _=>E5) (fun _ _ _ _=>A3 (Aa Ao (Aa D4 (Aa (A3 Ab) Ab))))) Ab)) Ab))))),?_⟩
  have bg:=Ce
  have k3:=(Ha hk).2.2.2.1
  walk_at "r"
  refine Af qa rfl ?_
  walk_at "r"
  refine Af qa rfl ?_
  walk_at "r"
  refine Af qa rfl ?_
  walk_at "r"
  refine ⟨wd,k,rfl,hk,fun H1 s1=>?_⟩
  walk_at "r"
  refine ⟨by omega,by omega,fun D hD=>?_⟩
  refine Hn (n:=((k:Nat):Int).toNat) (Pv:=fun i ys σ' H'=>∃ kv,σ'=[kv]/\ys.length=i/\(∀ u∈ys,TrAt K H' u gapT)/\Same H H') ⟨none,rfl,rfl,(fun u h=>nomatch h),s1.put hD⟩ ?_ ?_
  ·rintro i ys σ' H' hi hys ⟨kv,rfl,hl,hg,sm⟩
   walk_at "r"
   refine ⟨Ez,fun p2 h2=>?_⟩
   have s2:=Same.upd (o:=.tup []) h2
   walk_at "r"
   refine ⟨B0,fun p3 h3=>?_⟩
   have s3:=Same.upd (o:=.tup [.str "gap",.non,.ref p2]) h3
   have s23:=s2.trans s3
   have gp:=TrAt.gap (K:=K) (SqT.of Ag) (s3.tup (SqT.of Ag))
   have ey:=s23 _ _ hys
   revert s23 gp ey
   generalize upd (upd H' p2 (.tup [])) p3 (.tup [.str "gap",.non,.ref p2])=H3
   intro s23 gp ey
   walk_at "r"
   refine ⟨_,ey,by omega,_,Ag,?_⟩
   have st:=SameT.set (o:=.lst (ys++[.ref p3])) ey
   refine ⟨_,rfl,by simp [hl],fun u hu=>?_,(sm.trans s23).over (s1.free hD)⟩
   rcases Pu.mp hu with hu | hu
   ·exact (hg u hu).sameT (s23.t.trans st)
   ·rw [P5.mp hu];exact gp.sameT st
  ·rintro ys σ' H2 hys ⟨kv,rfl,hl,hg,sm⟩
   walk_at "r"
   refine M6 (SqL.of hys) fun p5 h5=>?_
   have s5:=Same.upd (o:=.tup ys) h5
   walk_at "r"
   refine ⟨B0,fun p6 h6=>?_⟩
   have s6:=Same.upd (o:=.tup [.str wd,note,.ref p5]) h6
   exact q p6 p5 ys _ (sm.trans (s5.trans s6)) (SqT.of Ag) (s6.tup (SqT.of Ag)) (by omega) fun u hu=>(hg u hu).same (s5.trans s6)
noncomputable def Np (K:On):Sp:=fun vs H Q _=>∃(b p:Addr)(m:Nat),vs=[.ref b,.ref p,.int (m:Nat)]/\m<=10/\BoxAt H b/\PoolAt H p/\p≠b /\
 ∀(v:V)(t:Tr)(H':Hp),SameB b H H'->BoxAt H' b->TrAt K H' v t->TrOk t->t.size<=1+5 * m->A6 t<=1+2 * m->Q v H'
theorem Al.set {α:Type}{R:V->α->Prop}{vs:List V}{xs:List α}{j:Nat}{v:V}{x:α}(h:Al R vs xs)(r:R v x):Al R (vs.set j v) (xs.set j x):=by
 refine ⟨by rw [P0,P0];exact h.1,fun i y z e1 e2=>?_⟩
 by_cases e:j=i
 ·subst e
  by_cases hl:j < vs.length
  ·rw [Qy hl] at e1
   rw [Qy (by rw [<- h.1];exact hl)] at e2
   cases e1
   cases e2
   exact r
  ·rw [List.getElem?_eq_none (by rw [P0];omega)] at e1
   cases e1
 ·rw [R6 e] at e1 e2
  exact h.2 i y z e1 e2
theorem Zgo (n:Nat):Ax (Oy n gapT)=n:=by
 induction n with
 | zero=>rw [List.replicate_zero,Ax]
 | succ n ih=>rw [Q0,Ax,ih,Zca];omega
theorem Zf9 (n:Nat):A9 (Oy n gapT)<=1:=by
 induction n with
 | zero=>rw [List.replicate_zero,A9];omega
 | succ n ih=>rw [Q0,A9,Zdg];omega
theorem Zrb {ts:List Tr}{j:Nat}{t u:Tr}(h:ts[j]?=some t):Ax (ts.set j u)+t.size=Ax ts+u.size:=by
 induction ts generalizing j with
 | nil=>simp at h
 | cons x r ih =>
  cases j with
  | zero =>
   have h:x=t:=by simpa using h
   subst h
   rw [Vf,Ax,Ax]
   omega
  | succ j =>
   have:=ih (j:=j) (by simpa using h)
   rw [Vg,Ax,Ax]
   omega
theorem Zmx {n j:Nat}(h:j < n):C7 n ((j:Nat):Int)=some j:=by
 unfold C7
 rw [if_pos (by omega),if_pos (by omega)]
 simp
structure TJ (K:On)(H:Hp)(b pl:Addr)(lt:List Tr)(H':Hp):Prop where
 box:BoxAt H' b
 sb:SameB b H H'
 ex:∃ lv,H' pl=some (.lst lv)/\Al (TrAt K H') lv lt
 ok:∀ t∈lt,TrOk t
theorem sc_law_tree:Aw ["_law_box_here", "_law_pool", "_law_most", "_law_left", "_law_j", "_law_form_here", "_law_parts", "_law_k", "_law_tree_here"] ["_law_box_here", "_law_pool", "_law_most"] (Aj La):=by walk_at "sc"
theorem Zut {f:Addr}{fd:FuncData}(F:Fun K "_law_tree" "_law_tree" La f fd)(T:Txt K mg)(C__law_digit:As P w K mg base 1 "_law_digit" ["_law_box_here", "_law_many_here"] E2)(C__law_head:As P w K mg base 5 "_law_head" ["_law_box_here", "_law_pool", "_law_first"] (Kt K))(C__law_bare:As P w K mg base 2 "_law_bare" ["_law_head_here"] (Zbg K)):FnOk P w K mg base An 6 f fd ["_law_box_here", "_law_pool", "_law_most"] (Np K):=by
 refine F.okq sc_law_tree (fun vs H Q E h=>?_) (fun cdv A outer s H vs Q E hr h=>?_)
 ·obtain ⟨b,p,m,rfl,_⟩:=h
  rfl
 ·obtain ⟨b,p,m,rfl,hm,hb,hp,np,q⟩:=h
  refine ⟨_,Ae (Az 3 sc_law_tree (B6 Ab))
   (Ae (Dw Pw rfl (Fh rfl T.range (Aa (Am C__law_digit hr.m (Aa (qv 0) (Aa (A2 (Bp K) (qv 2) Ac) Ab))) Ab)) (Bc (i:=4) sc_law_tree.nd rfl (Or.inl rfl)) (Ae (Az 5 sc_law_tree (Am C__law_bare hr.m (Aa (Am C__law_head hr.m (Aa (qv 0) (Aa (qv 1) (Aa Ac Ab)))) Ab)))
   (Ae (Az 6 sc_law_tree (G7 (Zni K) (by rfl) T.list (by decide +kernel) (Aa (Ai K (qv 5) Ac) Ab)))
   (Ae (Dw Pw rfl (Zu1 rfl T.reversed rfl T.range (Aa (A8 (Cd K) (by rfl) T.len (by decide +kernel) (Aa (qv 6) Ab)) Ab)) (Bc (i:=7) sc_law_tree.nd rfl (Or.inl rfl)) (Ad (Aq (QW.qt (Es (Au Fx (A8 (Cd K) (by rfl) T.len (by decide +kernel) (Aa (qv 3) Ab)) Ac (Av _)) (Ey (Au Fx (Am C__law_digit hr.m (Aa (qv 0) (Aa Ac Ab))) Ac (Av _))))) (Ad (G2 (Hz K Ps Sn So Ko (qv 3)) (M9 (qv 6) (qv 7) Oe))) Ar)))
   (Ad (Cc (Ea K Ps Qw Qx E1 (qv 3) (Aa (A3 (Aa (Ai K (qv 5) Ac) (Aa (Ai K (qv 5) Ac) (Aa (G7 (Mw K) (by rfl) T.tuple (by decide +kernel) (Aa (qv 6) Ab)) Ab)))) Ab))))))))
   (Ae (Az 8 sc_law_tree (A3 (Aa Ao (Aa D4 (Aa (A3 Ab) Ab)))))
   (Ae (Aq (Au Fx (A8 (Cd K) (by rfl) T.len (by decide +kernel) (Aa (qv 3) Ab)) Ac (Av _)) (Ad (Az 8 sc_law_tree (Hz K Ps Sn So Ko (qv 3)))) Ar)
   (Ae (Zc3 Pw (Au Fx (A8 (Cd K) (by rfl) T.len (by decide +kernel) (Aa (qv 3) Ab)) Ac (Av _)) (Ad (Az 8 sc_law_tree (A3 (Aa Ao (Aa D4 (Aa (A3 (Aa (Hz K Ps Sn So Ko (qv 3)) (Aa (qv 8) Ab))) Ab)))))))
   (Ad (Ah (qv 8))))))),?_⟩
  have bg:=Ce
  walk_at "r"
  refine ⟨Ez,fun pl hpl=>?_⟩
  have npl:=hb.ne hpl
  have s0:=Same.upd (o:=.lst []) hpl
  walk_at "r"
  refine ⟨b,_,rfl,hb.same s0,by omega,by omega,fun d H1 s1 b1 d0 d1=>?_⟩
  walk_at "r"
  refine ⟨by omega,by omega,?_⟩
  refine Zbq (n:=d.toNat) (fun i σ' H'=>∃(v4 v5 v6 v7 v8:Option V)(lt:List Tr),σ'=[some (.ref b),some (.ref p),some (.int (m:Nat)),some (.ref pl),v4,v5,v6,v7,v8]/\TJ K H b pl lt H'/\Ax lt<=4 * i/\lt.length<=i/\A9 lt<=i+1)
   ⟨_,_,_,_,_,[],rfl,⟨b1,(s0.b b).trans s1,⟨[],s1 _ _ npl Ag,.nil⟩,(fun t h=>nomatch h)⟩,by rw [Ax];omega,by simp,by rw [Zao];omega⟩ ?_ ?_
  ·rintro i σ' H2 hi ⟨v4,v5,v6,v7,v8,lt,rfl,J,hz,hl,hd⟩
   walk_at "r"
   refine ⟨b,p,0,rfl,.inl rfl,J.box,hp.sameB np J.sb,np,fun ha wd note n nt H3 s3 b3 qa hn hps hng hdn hnb _=>?_⟩
   obtain ⟨k,hk⟩:=Rs.mp hps
   have k3:=(Ha hk).2.2.2.1
   walk_at "r"
   refine ⟨ha,wd,note,n,k,rfl,qa,hn,hk,fun r pp us H4 s4 qr qpp hul hug=>?_⟩
   walk_at "r"
   refine Af qr rfl ?_
   walk_at "r"
   refine ⟨pp,us,rfl,.inr qpp,fun ps hps=>?_⟩
   have b4:=b3.same s4
   have nps:=b4.ne hps
   have sb4:=J.sb.trans (s3.trans (s4.b b))
   obtain ⟨lv,el,al⟩:=J.ex
   have el4:=s4 _ _ (s3 _ _ npl el)
   have nlp:pl≠ps:=Cq el4 hps
   have hps0:H ps=none:=sb4.free nps hps
   have s5:=Same.upd (o:=.lst us) hps
   have t24:SameT H2 H4:=(s3.t J.box).trans s4.t
   have al5:=TrAt.al al (t24.trans s5.t)
   have alp:Al (TrAt K (upd H4 ps (.lst us))) us (Oy k gapT):=⟨by rw [P4];exact hul,fun j v t e1 e2=>by rw [Rf (Pd e2)];exact (hug v (Pd e1)).same s5⟩
   have el5:=s5 _ _ el4
   have ep5:upd H4 ps (.lst us) ps=some (.lst us):=Ag
   have b5:=b4.same s5
   have sb5:=sb4.trans (s5.b b)
   have t5:=s5.t
   revert al5 alp el5 ep5 b5 sb5 t5
   generalize upd H4 ps (.lst us)=H5
   intro al5 alp el5 ep5 b5 sb5 t5
   walk_at "r"
   refine Zu7 ?_
   walk_at "r"
   refine Hc (SqL.of ep5) ?_
   walk_at "r"
   refine ⟨_,rfl,by omega,?_⟩
   refine Ze4 (n:=us.length) (fun j σ6 H6=>∃(v7:Option V)(lv6 pv6:List V)(lt6 pt6:List Tr),σ6=[some (.ref b),some (.ref p),some (.int (m:Nat)),some (.ref pl),some (.int (0+(i:Int))),some (.ref r),some (.ref ps),v7,v8]/\H6 pl=some (.lst lv6)/\H6 ps=some (.lst pv6)/\Al (TrAt K H6) lv6 lt6/\Al (TrAt K H6) pv6 pt6/\pt6.length=k/\(∀ t∈lt6,TrOk t)/\(∀ t∈pt6,TrOk t)/\Ax lt6+Ax pt6<=Ax lt+k/\lt6.length<=i/\A9 lt6<=i+1/\A9 pt6<=i+1/\BoxAt H6 b/\SameB b H H6/\SameT H4 H6)
    ⟨_,lv,us,lt,Oy k gapT,rfl,el5,ep5,al5,alp,P4 ..,J.ok,(fun t ht=>by rw [Rf ht];exact TrOk.gap),by rw [Zgo];omega,hl,hd,by have:=Zf9 k;omega,b5,sb5,t5⟩ ?_ ?_
   ·rintro j σ6 H6 hj ⟨v7',lv6,pv6,lt6,pt6,rfl,e6l,e6p,al6,ap6,hpt,ok6,okp,hs6,hl6,hd6,hq6,b6,sb6,t6⟩
    have hki:(us.length:Int) - 1 - (j:Int)=((us.length - 1 - j:Nat):Int):=by omega
    rw [hki]
    walk_at "r"
    refine Hc (SqL.of e6l) ?_
    walk_at "r"
    by_cases hlv:lv6=[]
    ·subst hlv
     refine iteF ?_
     walk_at "r"
     exact ⟨_,[],pv6,lt6,pt6,rfl,e6l,e6p,al6,ap6,hpt,ok6,okp,hs6,hl6,hd6,hq6,b6,sb6,t6⟩
    have hne:decide ((0:Int) < (lv6.length:Int))=true:=decide_eq_true (by have:0 < lv6.length:=Vc.mpr hlv;omega)
    rw [hne]
    walk_at "r"
    refine ⟨b,4,rfl,b6,by decide,by decide,fun e H7 s7 b7 e0 e1=>?_⟩
    have t67:=s7.t b6
    have e7l:=s7 _ _ npl e6l
    have e7p:=s7 _ _ nps e6p
    have al7:=TrAt.al al6 t67
    have ap7:=TrAt.al ap6 t67
    walk_at "r"
    refine A0 (fun _=>?_) (fun _=>?_)
    ·obtain ⟨lv8,x8,lt8,t8,rfl,rfl,al8,hx8⟩:=al7.last hlv
     walk_at "r"
     refine Dg (SqL.of e7l) ?_
     refine Ji e7l ?_
     have e8p:upd H7 pl (.lst lv8) ps=some (.lst pv6):=by rw [Ay nlp.symm];exact e7p
     have hpv:pv6.length=us.length:=by rw [ap7.1,hpt,hul]
     have hjk:us.length - 1 - j < pt6.length:=by omega
     walk_at "r"
     refine Nr e8p (j:=us.length - 1 - j) (Zmx (by omega)) ?_
     have t8':SameT H7 (upd (upd H7 pl (.lst lv8)) ps (.lst (pv6.set (us.length - 1 - j) x8))):=(SameT.set e7l).trans (SameT.set e8p)
     have hs8:Ax (lt8++[t8])=Ax lt8+t8.size:=by rw [Hk,Ax,Ax];omega
     have hst:=Zrb (u:=t8) (Ow hjk)
     have hds:=Zbw pt6 (us.length - 1 - j) t8
     have hg1:1<=(pt6[us.length - 1 - j]).size:=by have:=Tr.size_eq pt6[us.length - 1 - j];omega
     rw [Na] at hd6
     refine ⟨_,lv8,_,lt8,pt6.set (us.length - 1 - j) t8,rfl,by rw [Ay nlp,Ag],Ag,TrAt.al al8 t8',Al.set (TrAt.al ap7 t8') (hx8.sameT t8'),by rw [P0];exact hpt,fun t ht=>ok6 t (R5 _ ht),fun t ht=>?_,by omega,by rw [Pb,Qj] at hl6;omega,by omega,by omega,(b7.off npl).off nps,((sb6.trans s7).over hpl).over hps0,t6.trans (t67.trans t8')⟩
     rcases Uy ht with ht | rfl
     ·exact okp t ht
     ·exact ok6 _ (by simp)
    ·walk_at "r"
     exact ⟨_,lv6,pv6,lt6,pt6,rfl,e7l,e7p,al7,ap7,hpt,ok6,okp,hs6,hl6,hd6,hq6,b7,sb6.trans s7,t6.trans t67⟩
   ·rintro σ6 H6 ⟨v7',lv6,pv6,lt6,pt6,rfl,e6l,e6p,al6,ap6,hpt,ok6,okp,hs6,hl6,hd6,hq6,b6,sb6,t6⟩
    walk_at "r"
    refine Dg (SqL.of e6l) ?_
    walk_at "r"
    refine Af (t6.tup qr) rfl ?_
    walk_at "r"
    refine Af (t6.tup qr) rfl ?_
    walk_at "r"
    refine M6 (SqL.of e6p) fun pq hpq=>?_
    have s7:=Same.upd (o:=.tup pv6) hpq
    walk_at "r"
    refine ⟨B0,fun pr hpr=>?_⟩
    have s8:=Same.upd (o:=.tup [.str wd,note,.ref pq]) hpr
    have s78:=s7.trans s8
    have e8l:=s78 _ _ e6l
    walk_at "r"
    have hll:lv6.length<=i:=by rw [al6.1];exact hl6
    have st:=SameT.set (o:=.lst (lv6++[.ref pr])) e8l
    have t69:=s78.t.trans st
    refine G8 e8l (by omega) ?_
    have ap9:=TrAt.al ap6 t69
    refine ⟨_,_,_,_,_,lt6++[.mk wd n pt6],rfl,⟨(b6.same s78).off npl,(sb6.trans (s78.b b)).over hpl,⟨_,Ag,(TrAt.al al6 t69).snoc (.mk (st.tup (SqT.of Ag)) ((hn.same s4.t).same (t6.trans t69)) ((s8.t.trans st).tup (SqT.of Ag)) ap9.1 ap9.2)⟩,Zng ok6 (.mk (by rw [hpt];exact hk) hdn hnb okp)⟩,?_,by rw [Pb,Qj];omega,by rw [Na,Ej];omega⟩
    rw [Hk,Ax,Ax,Tr.size]
    omega
  ·rintro σ' H2 ⟨v4,v5,v6,v7,v8,lt,rfl,J,hz,hl,hd⟩
   obtain ⟨lv,el,al⟩:=J.ex
   walk_at "r"
   refine ⟨Ez,fun pa hpa=>?_⟩
   have s3:=Same.upd (o:=.tup []) hpa
   walk_at "r"
   refine ⟨B0,fun pb hpb=>?_⟩
   have s4:=Same.upd (o:=.tup [.str "gap",.non,.ref pa]) hpb
   have s34:=s3.trans s4
   have gp:=TrAt.gap (K:=K) (SqT.of Ag) (s4.tup (SqT.of Ag))
   have el4:=s34 _ _ el
   have al4:=TrAt.al al s34.t
   have b4:=J.box.same s34
   have sb4:=J.sb.trans (s34.b b)
   revert gp el4 al4 b4 sb4
   generalize upd (upd H2 pa (.tup [])) pb (.tup [.str "gap",.non,.ref pa])=H4
   intro gp el4 al4 b4 sb4
   have hdm:d.toNat<=m:=by omega
   have fin:∀(tv:V)(t:Tr)(lv5:List V)(lt5:List Tr)(H5:Hp),H5 pl=some (.lst lv5)->Al (TrAt K H5) lv5 lt5->TrAt K H5 tv t->TrOk t->(∀ t∈lt5,TrOk t)->BoxAt H5 b->SameB b H H5->lt5.length<=d.toNat->A9 lt5<=d.toNat+1->A6 t+lt5.length<=2 * d.toNat+1->t.size+Ax lt5+lt5.length<=1+5 * d.toNat ->
     Hg (Zei (Er (Bv (Ds fun i j=>V.bl (decide (j < i))) (Gc (G3 K) (B9 (Bz 3) C2)) (tC (V.int 0)))) (Fl (Gf (B9 (tC (V.str "call")) (B9 (tC .non) (B9 (Gf (B9 (Kr K "list" Zbf (Bz 3)) (B9 (Bz 8) C2))) C2)))) (Ft 8))) (E4 (Bz 8)) { nx:=fun _ H'=>Q V.non H',rt:=Q } [some (.ref b),some (.ref p),some (.int (m:Nat)),some (.ref pl),v4,v5,v6,v7,some tv] H5:=by
    intro tv t lv5 lt5 H5 e5 al5 htv okt ok5 b5 sb5 h1 h2 h3 h4
    refine s_seq ?_
    refine ⟨fun mm σ6 H6=>∃(tv:V)(t:Tr)(lv5:List V)(lt5:List Tr),σ6=[some (.ref b),some (.ref p),some (.int (m:Nat)),some (.ref pl),v4,v5,v6,v7,some tv]/\mm=lt5.length/\H6 pl=some (.lst lv5)/\Al (TrAt K H6) lv5 lt5/\TrAt K H6 tv t/\TrOk t/\(∀ t∈lt5,TrOk t)/\BoxAt H6 b/\SameB b H H6/\lt5.length<=d.toNat/\A9 lt5<=d.toNat+1/\A6 t+lt5.length<=2 * d.toNat+1/\t.size+Ax lt5+lt5.length<=1+5 * d.toNat,⟨_,tv,t,lv5,lt5,rfl,rfl,e5,al5,htv,okt,ok5,b5,sb5,h1,h2,h3,h4⟩,?_⟩
    clear tv t lv5 lt5 H5 e5 al5 htv okt ok5 b5 sb5 h1 h2 h3 h4
    rintro mm σ6 H6 ⟨tv,t,lv5,lt5,rfl,rfl,e5,al5,htv,okt,ok5,b5,sb5,h1,h2,h3,h4⟩
    walk_at "r"
    refine Hc (SqL.of e5) ?_
    walk_at "r"
    by_cases hlv:lv5=[]
    ·subst hlv
     have hlt:lt5=[]:=R3 al5.1.symm
     subst hlt
     refine iteF ?_
     walk_at "r"
     rw [Ax,Vx] at h4
     exact q tv t H6 sb5 b5 htv okt (by omega) (by rw [Vx] at h3;omega)
    have hne:decide ((0:Int) < (lv5.length:Int))=true:=decide_eq_true (by have:0 < lv5.length:=Vc.mpr hlv;omega)
    rw [hne]
    obtain ⟨lv8,x8,lt8,t8,rfl,rfl,al8,hx8⟩:=al5.last hlv
    refine iteT ?_
    refine ⟨fun σ2 H2=>∃ m',m' < (lt8++[t8]).length/\∃(tv:V)(t:Tr)(lv5:List V)(lt5:List Tr),σ2=[some (.ref b),some (.ref p),some (.int (m:Nat)),some (.ref pl),v4,v5,v6,v7,some tv]/\m'=lt5.length/\H2 pl=some (.lst lv5)/\Al (TrAt K H2) lv5 lt5/\TrAt K H2 tv t/\TrOk t/\(∀ t∈lt5,TrOk t)/\BoxAt H2 b/\SameB b H H2/\lt5.length<=d.toNat/\A9 lt5<=d.toNat+1/\A6 t+lt5.length<=2 * d.toNat+1/\t.size+Ax lt5+lt5.length<=1+5 * d.toNat,fun _ _ h=>h,?_⟩
    walk_at "r"
    refine Dg (SqL.of e5) ?_
    refine Ji e5 ?_
    have st:=SameT.set (o:=.lst lv8) e5
    have e6:upd H6 pl (.lst lv8) pl=some (.lst lv8):=Ag
    have b6:=b5.off (o:=.lst lv8) npl
    have sb6:=sb5.over (o:=.lst lv8) hpl
    revert st e6 b6 sb6
    generalize upd H6 pl (.lst lv8)=H7
    intro st e7 b7 sb7
    walk_at "r"
    refine ⟨Bl,fun p8 h8=>?_⟩
    have s8:=Same.upd (o:=.tup [x8,tv]) h8
    walk_at "r"
    refine ⟨B0,fun p9 h9=>?_⟩
    have s9:=Same.upd (o:=.tup [.str "call",.non,.ref p8]) h9
    have s89:=s8.trans s9
    have t69:=st.trans s89.t
    walk_at "r"
    rw [Pb,Qj] at h1 h3 h4 ⊢
    rw [Na] at h2
    rw [Hk,Ax,Ax] at h4
    refine ⟨lt8.length,by omega,.ref p9,.mk "call" (.flat .non) [t8,t],lv8,lt8,rfl,rfl,s89 _ _ e7,TrAt.al al8 t69,.mk (SqT.of Ag) (.inl ⟨rfl,rfl⟩) (s9.tup (SqT.of Ag)) rfl fun j v y f1 f2=>?_,TrOk.call (ok5 t8 (by simp)) okt,fun x hx=>ok5 x (R5 _ hx),b7.same s89,sb7.trans (s89.b b),by omega,by omega,by rw [Ej,Zgw,Zgw,Zao];omega,by rw [Tr.size,Ax,Ax,Ax];omega⟩
    match j,f1,f2 with
    | 0,f1,f2=>cases f1;cases f2;exact hx8.sameT t69
    | 1,f1,f2=>cases f1;cases f2;exact htv.sameT t69
   walk_at "r"
   refine Hc (SqL.of el4) ?_
   walk_at "r"
   by_cases hlv:lv=[]
   ·subst hlv
    have hlt:lt=[]:=R3 al.1.symm
    subst hlt
    refine iteF ?_
    refine s_next ?_
    exact fin (.ref pb) gapT [] [] H4 el4 al4 gp TrOk.gap J.ok b4 sb4 (by simp) (by rw [Zao];omega) (by rw [Zdg];simp) (by rw [Zca,Ax];simp)
   have hne:decide ((0:Int) < (lv.length:Int))=true:=decide_eq_true (by have:0 < lv.length:=Vc.mpr hlv;omega)
   rw [hne]
   obtain ⟨lv8,x8,lt8,t8,rfl,rfl,al8,hx8⟩:=al4.last hlv
   refine iteT ?_
   refine s_asg ?_
   walk_at "r1"
   walk_at "r1"
   refine Dg (SqL.of el4) ?_
   refine Ji el4 ?_
   refine s_gname ?_
   have st:=SameT.set (o:=.lst lv8) el4
   rw [Hk,Ax,Ax] at hz
   rw [Pb,Qj] at hl
   rw [Na] at hd
   exact fin x8 t8 lv8 lt8 _ Ag (TrAt.al al8 st) (hx8.sameT st) (J.ok t8 (by simp)) (fun x hx=>J.ok x (R5 _ hx)) (b4.off npl) (sb4.over hpl) (by omega) (by omega) (by omega) (by omega)
noncomputable def Zgh (K:On):Sp:=fun vs H Q _=>∃(b:Addr)(v:V)(t:Tr),vs=[.ref b,v]/\BoxAt H b/\TrAt K H v t/\t.size<=2000/\∀(r:V)(x:List Nat×Tr)(H':Hp),SameB b H H'->BoxAt H' b->RowAt K H' r x->At t x.1 x.2->Q r H'
theorem Zfd:Aw ["_law_box_here", "_law_tree_here", "_law_rows"] ["_law_box_here", "_law_tree_here"] (Aj Kw):=by walk_at "sc"
theorem Zno {f:Addr}{fd:FuncData}(F:Fun K "_law_picked" "_law_picked" Kw f fd)(T:Txt K mg)(C__law_digit:As P w K mg base 1 "_law_digit" ["_law_box_here", "_law_many_here"] E2)(C__law_walk:As P w K mg base 1 "_law_walk" ["_law_tree_here"] (Zg3 K)):FnOk P w K mg base An 2 f fd ["_law_box_here", "_law_tree_here"] (Zgh K):=by
 refine F.okq Zfd (fun vs H Q E h=>?_) (fun cdv A outer s H vs Q E hr h=>?_)
 ·obtain ⟨b,v,t,rfl,_⟩:=h
  rfl
 ·obtain ⟨b,v,t,rfl,hb,ht,hz,q⟩:=h
  refine ⟨_,Ae (Az 2 Zfd (Am C__law_walk hr.m (Aa (qv 1) Ab)))
   (Ad (Ah (Ai K (qv 2) (Am C__law_digit hr.m (Aa (qv 0) (Aa (A8 (Cd K) (by rfl) T.len (by decide +kernel) (Aa (qv 2) Ab)) Ab)))))),?_⟩
  walk_at "r"
  refine ⟨v,t,rfl,ht,hz,fun pr rows H1 s1 hpr er al=>?_⟩
  have npr:=hb.ne hpr
  have hrl:rows.length=t.size:=by rw [al.1,Ib]
  have h1:1<=t.size:=by have:=t.size_eq;omega
  walk_at "r"
  refine Hc (SqL.of er) ?_
  walk_at "r"
  refine ⟨b,_,rfl,hb.same s1,by omega,by omega,fun d H2 s2 b2 d0 d1=>?_⟩
  obtain ⟨w0,hw0,hm0⟩:=Ht (xs:=rows) (i:=d) d0 d1
  obtain ⟨k,hk⟩:=List.getElem?_of_mem hm0
  obtain ⟨x,hx,hrow⟩:=al.get hk
  refine Cy (SqL.of (s2 _ _ npr er)) hw0 ?_
  exact q w0 x H2 ((s1.b b).trans s2) b2 (RowAt.same (s2.t (hb.same s1)) _ _ hrow) (Zix t _ (Pd hx))
noncomputable def F3 (t:Tr):Prop:=TrOk t/\t.size<=11/\A6 t<=5
noncomputable def Hj (s:Str)(d:Dt)(n:Nat):Tr:=.mk s d (Oy n gapT)
noncomputable def Mu (w:Str)(n:Dt)(nt:Nt):Prop:=Dm n nt/\Bj w nt=true
theorem Kq {w:Str}{n:Dt}{nt:Nt}{k:Nat}(h:Mu w n nt)(hk:Bo w=some k):F3 (Hj w n k):=by
 have k3:=(Ha hk).2.2.2.1
 have:=Zgo k
 have:=Zf9 k
 refine ⟨.mk (by rw [P4];exact hk) h.1 h.2 fun x hx=>?_,?_,?_⟩
 ·rw [Rf hx];exact TrOk.gap
 ·rw [Hj,Tr.size];omega
 ·rw [Hj,Ej];omega
noncomputable def Zeu (K:On):Sp:=fun vs H Q _=>∃(b p:Addr),vs=[.ref b,.ref p]/\BoxAt H b/\PoolAt H p/\p≠b /\
 ∀(v:V)(t:Tr)(H':Hp),SameB b H H'->BoxAt H' b->TrAt K H' v t->F3 t->t.wd ≠ "gap" -> Q v H'
theorem Zhr:Aw ["_law_box_here", "_law_pool", "_law_tree_here"] ["_law_box_here", "_law_pool"] (Aj Mc):=by walk_at "sc"
theorem Zr8 {f:Addr}{fd:FuncData}(F:Fun K "_law_small" "_law_small" Mc f fd)(T:Txt K mg)(C__law_tree:As P w K mg base 6 "_law_tree" ["_law_box_here", "_law_pool", "_law_most"] (Np K))(C__law_head:As P w K mg base 5 "_law_head" ["_law_box_here", "_law_pool", "_law_first"] (Kt K))(C__law_bare:As P w K mg base 2 "_law_bare" ["_law_head_here"] (Zbg K)):FnOk P w K mg base An 7 f fd ["_law_box_here", "_law_pool"] (Zeu K):=by
 refine F.okq Zhr (fun vs H Q E h=>?_) (fun cdv A outer s H vs Q E hr h=>?_)
 ·obtain ⟨b,p,rfl,_⟩:=h
  rfl
 ·obtain ⟨b,p,rfl,hb,hp,np,q⟩:=h
  refine ⟨_,Ae (Az 2 Zhr (Am C__law_tree hr.m (Aa (qv 0) (Aa (qv 1) (Aa Ac Ab)))))
   (Ae (Aq (Au (A5 K hr.u200) (Ai K (qv 2) Ac) Ao (Av _)) (Ad (Ah (Am C__law_bare hr.m (Aa (Am C__law_head hr.m (Aa (qv 0) (Aa (qv 1) (Aa Ac Ab)))) Ab)))) Ar)
   (Ad (Ah (qv 2)))),?_⟩
  walk_at "r"
  refine ⟨b,p,2,rfl,by decide,hb,hp,np,fun v t H1 s1 b1 hv okt szt dpt=>?_⟩
  obtain ⟨va,vp,vn,rfl,qv⟩:=Cn hv
  walk_at "r"
  refine Af qv rfl ?_
  walk_at "r"
  by_cases hw:t.wd = "gap"
  ·rw [hw,decide_eq_true (Eq.refl _)]
   walk_at "r"
   refine ⟨b,p,0,rfl,.inl rfl,b1,hp.sameB np s1,np,fun ha wd note n nt H3 s3 b3 qa hn hps hng hdn hnb _=>?_⟩
   obtain ⟨k,hk⟩:=Rs.mp hps
   walk_at "r"
   refine ⟨ha,wd,note,n,k,rfl,qa,hn,hk,fun rr rp us H7 s7 qr qrp hul hug=>?_⟩
   have hg7:TrAt K H7 (.ref rr) (Hj wd n k):=.mk qr (hn.same s7.t) qrp (by rw [P4];exact hul) fun j v t e1 e2=>by rw [Rf (Pd e2)];exact hug v (Pd e1)
   exact q _ _ H7 (s1.trans (s3.trans (s7.b b))) (b3.same s7) hg7 (Kq ⟨hdn,hnb⟩ hk) hng
  ·rw [decide_eq_false (fun h=>hw (V.str.inj h))]
   walk_at "r"
   exact q _ t H1 s1 b1 hv ⟨okt,szt,dpt⟩ hw
theorem Zax {t:Str}{ws:List Str}:Cf (.str t) (ws.map V.str)=decide (t∈ws):=by
 rw [F9]
 by_cases hm:t∈ws
 ·rw [decide_eq_true hm,Zd6 hm]
 ·rw [decide_eq_false hm,Jc hm]
noncomputable def Df (s:Str):Str:=if s∈(["fn", "let"]:List Str) then "name" else if s∈(["odd", "num", "truth", "name", "rec"]:List Str) then s else ""
noncomputable def Ic (nt:Nt):Str:=if Fn nt=true then "odd" else if En nt=true then "num" else if F2 nt=true then "truth" else if Hr nt=true then "name" else if twoN nt=true then "rec" else ""
theorem Zvn {s:Str}(h:Et s=true):Bg s=false:=by
 unfold Et at h
 simp only [Pt,Ta] at h
 exact h.1.1.2
theorem Zip {s:Str}{nt:Nt}(h:Bj s nt=true):Df s=Ic nt:=by
 unfold Bj at h
 split at h
 ·rename_i e
  subst e
  unfold Ic
  rw [if_pos h]
  decide +kernel
 split at h
 ·rename_i e
  subst e
  have h1:Fn nt=false:=by
   unfold En at h
   split at h
   ·rfl
   ·cases h
  unfold Ic
  rw [h1,if_neg Ov,if_pos h]
  decide +kernel
 split at h
 ·rename_i e
  subst e
  have h1:Fn nt=false/\En nt=false:=by
   unfold F2 at h
   split at h
   ·exact ⟨rfl,rfl⟩
   ·cases h
  unfold Ic
  rw [h1.1,h1.2,if_neg Ov,if_neg Ov,if_pos h]
  decide +kernel
 split at h
 ·rename_i e
  have h1:Fn nt=false/\En nt=false/\F2 nt=false:=by
   unfold Hr at h
   split at h
   ·rename_i v
    cases v with
    | str z =>
     refine ⟨?_,rfl,rfl⟩
     show Et z=false
     cases hz:Et z with
     | false=>rfl
     | true=>have:=Zvn hz;rw [show Em (.str z)=Bg z from rfl,this] at h;cases h
    | _=>cases h
   ·cases h
  have e2:Df s = "name" := by
   simp only [O1,Pk,or_false] at e
   rcases e with rfl | rfl | rfl <;> decide +kernel
  unfold Ic
  rw [h1.1,h1.2.1,h1.2.2,if_neg Ov,if_neg Ov,if_neg Ov,if_pos h]
  exact e2
 split at h
 ·rename_i e
  subst e
  have h1:Fn nt=false/\En nt=false/\F2 nt=false/\Hr nt=false:=by
   unfold twoN at h
   split at h
   ·exact ⟨rfl,rfl,rfl,rfl⟩
   ·cases h
  unfold Ic
  rw [h1.1,h1.2.1,h1.2.2.1,h1.2.2.2,if_neg Ov,if_neg Ov,if_neg Ov,if_neg Ov,if_pos h]
  decide +kernel
 ·rename_i g1 g2 g3 g4 g5
  have e:=Zen h
  subst e
  unfold Df
  simp only [O1,Pk,or_false,not_or] at g4
  rw [if_neg (by simp [g4]),if_neg (by simp [g1,g2,g3,g4,g5])]
  decide +kernel
noncomputable def Zi2:Sp:=fun vs H Q _=>∃ s:Str,vs=[.str s]/\∀ H',Same H H'->Q (.str (Df s)) H'
theorem Zsh:Aw ["_law_word"] ["_law_word"] (Aj L7):=by walk_at "sc"
theorem Zlg {f:Addr}{fd:FuncData}(F:Fun K "_law_sort" "_law_sort" L7 f fd)(T:Txt K mg):FnOk P w K mg base An 1 f fd ["_law_word"] Zi2:=by
 refine F.okq Zsh (fun vs H Q E h=>?_) (fun cdv A outer s H vs Q E hr h=>?_)
 ·obtain ⟨z,rfl,_⟩:=h
  rfl
 ·obtain ⟨z,rfl,q⟩:=h
  refine ⟨_,Ae (Aq (Au (Dr K) (qv 0) (B6 (Aa Ao (Aa Ao Ab))) (by rfl)) (Ad (Ah Ao)) Ar)
   (Ae (Aq (Au (Dr K) (qv 0) (B6 (K7 (xs:=[.str "odd",.str "num",.str "truth",.str "name",.str "rec"]) rfl)) (by rfl)) (Ad (Ah (qv 0))) Ar)
   (Ad (Ah Ao))),?_⟩
  walk_at "r"
  refine ⟨Bl,fun p1 h1=>?_⟩
  refine Dc (.inl (SqL.of Ag)) rfl rfl ?_
  have s1:=Same.upd (o:=.lst [.str "fn",.str "let"]) h1
  rw [if_neg Ov,show Cf (.str z) [.str "fn",.str "let"]=decide (z∈(["fn", "let"]:List Str)) from Zax (ws:=["fn", "let"])]
  walk_at "r"
  have e:Df z=if z∈(["fn", "let"]:List Str) then ("name" : Str) else if z∈(["odd", "num", "truth", "name", "rec"]:List Str) then z else "" := rfl
  refine A0 (fun h=>?_) (fun h=>?_)
  ·rw [if_pos (of_decide_eq_true h)] at e
   walk_at "r"
   rw [<- e]
   exact q _ s1
  have h:¬ z∈(["fn", "let"]:List Str):=fun x=>h (decide_eq_true x)
  rw [if_neg h] at e
  walk_at "r"
  refine ⟨sz5,fun p2 h2=>?_⟩
  refine Dc (.inl (SqL.of Ag)) rfl rfl ?_
  have s2:=s1.put (o:=.lst [.str "odd",.str "num",.str "truth",.str "name",.str "rec"]) h2
  rw [if_neg Ov,show Cf (.str z) [.str "odd",.str "num",.str "truth",.str "name",.str "rec"]=decide (z∈(["odd", "num", "truth", "name", "rec"]:List Str)) from Zax (ws:=["odd", "num", "truth", "name", "rec"])]
  walk_at "r"
  refine A0 (fun h=>?_) (fun h=>?_)
  ·rw [if_pos (of_decide_eq_true h)] at e
   walk_at "r"
   have q2:=q _ s2
   rw [e] at q2
   exact q2
  have h:¬ z∈(["odd", "num", "truth", "name", "rec"]:List Str):=fun x=>h (decide_eq_true x)
  rw [if_neg h] at e
  walk_at "r"
  have q2:=q _ s2
  rw [e] at q2
  exact q2
end
noncomputable def Dd.ok:Dd->Prop
 | .put t=>F3 t
 | .fill t=>F3 t
 | .wrap t i=>F3 t/\i < t.ps.length
 | .note n nt=>Dm n nt
 | .chg t=>F3 t
 | _=>True
theorem Zej {d:Dd}{t u:Tr}(h:d.ok)(ok:TrOk t)(e:Bb t d=some u):TrOk u/\u.size<=t.size+11/\A6 u<=A6 t+4:=by
 have hd:=Zoy t
 have hz:1<=t.size:=by have:=t.size_eq;omega
 cases d with
 | deed=>cases e;exact ⟨ok,by omega,by omega⟩
 | put p =>
  have e:(if t.wd = "gap" then some p else none)=some u:=e
  split at e <;> cases e
  exact ⟨h.1,by have:=h.2.1;omega,by have:=h.2.2;omega⟩
 | fill p =>
  have e:(if t.wd = "gap" then some p else none)=some u:=e
  split at e <;> cases e
  exact ⟨h.1,by have:=h.2.1;omega,by have:=h.2.2;omega⟩
 | cut =>
  have e:(if t.wd = "gap" then none else some gapT)=some u:=e
  split at e <;> cases e
  exact ⟨TrOk.gap,by rw [Zca];omega,by rw [Zdg];omega⟩
 | wrap p i =>
  cases e
  obtain ⟨⟨okp,szp,dpp⟩,hi⟩:=h
  cases p with
  | mk w n ts =>
  have hi:i < ts.length:=hi
  have h1:=Zi6 (u:=t) (Ow hi)
  have h2:=Zbw ts i t
  rw [Tr.size] at szp
  rw [Ej] at dpp
  refine ⟨?_,by show (Tr.mk w n (ts.set i t)).size<=_;rw [Tr.size];omega,by show A6 (Tr.mk w n (ts.set i t))<=_;rw [Ej];omega⟩
  cases okp with
  | mk hp hd hb hs =>
   refine .mk (by rw [P0];exact hp) hd hb fun x hx=>?_
   rcases Uy hx with hx | rfl
   ·exact hs x hx
   ·exact ok
 | keep i =>
  have e:(if 0<=i/\i < (t.ps.length:Int) then t.ps[i.toNat]? else none)=some u:=e
  split at e
  ·refine ⟨Ziz ok u (Pd e),?_,?_⟩
   ·have:=Jn e;have:=t.size_eq;omega
   ·have:=Nu e
    have:A6 t=1+A9 t.ps:=by cases t;rw [Ej];rfl
    omega
  ·cases e
 | note n nt =>
  have e:(if Bj t.wd nt=true then some (Tr.mk t.wd n t.ps) else none)=some u:=e
  split at e
  ·rename_i hb
   cases e
   cases t with
   | mk w n0 ts =>
   cases ok with
   | mk hp _ _ hs=>exact ⟨.mk hp h hb hs,by show (Tr.mk w n ts).size<=_;rw [Tr.size,Tr.size];omega,by show A6 (Tr.mk w n ts)<=_;rw [Ej,Ej];omega⟩
  ·cases e
 | chg p=>cases e;exact ⟨h.1,by have:=h.2.1;omega,by have:=h.2.2;omega⟩
inductive Sc where
 | put (w:Str) (n:Dt) (nt:Nt) (k:Nat)
 | cut
 | fill (t:Tr)
 | wrap (w:Str) (n:Dt) (nt:Nt) (k i:Nat)
 | keep (i:Int)
 | note (n:Dt) (nt:Nt) (w:Str)
 | chg (t:Tr)
 | deed
noncomputable def Sc.dd:Sc->Dd
 | .put w n _ k=>.put (Hj w n k)
 | .cut=>.cut
 | .fill t=>.fill t
 | .wrap w n _ k i=>.wrap (Hj w n k) i
 | .keep i=>.keep i
 | .note n nt _=>.note n nt
 | .chg t=>.chg t
 | .deed=>.deed
noncomputable def Sc.good:Sc->Prop
 | .put w n nt k=>Mu w n nt/\Bo w=some k/\w ≠ "gap"
 | .fill t=>F3 t/\t.wd ≠ "gap"
 | .wrap w n nt k i=>Mu w n nt/\Bo w=some k/\i < k
 | .keep i=>-1<=i/\i<=3
 | .note n nt w=>Mu w n nt
 | .chg t=>F3 t
 | _=>True
noncomputable def ScAt (K:On)(H:Hp)(a:Addr):Sc->Prop
 | .put w n _ _=>∃ nv,SqT K H a [.str "put",.str w,nv]/\IsN K H nv n
 | .cut=>SqT K H a [.str "cut"]
 | .fill t=>∃ v,SqT K H a [.str "fill",v]/\TrAt K H v t
 | .wrap w n _ _ i=>∃ nv,SqT K H a [.str "wrap",.str w,nv,.int (i:Nat)]/\IsN K H nv n
 | .keep i=>SqT K H a [.str "keep",.int i]
 | .note n _ w=>∃ nv,SqT K H a [.str "note",nv,.str w]/\IsN K H nv n
 | .chg t=>∃ v,SqT K H a [.str "change",v]/\TrAt K H v t
 | .deed=>SqT K H a [.str "deed"]
theorem ScAt.same {K:On}{H H':Hp}{a:Addr}{s:Sc}(h:ScAt K H a s)(e:SameT H H'):ScAt K H' a s:=by
 cases s with
 | put w n nt k=>obtain ⟨v,h1,h2⟩:=h;exact ⟨v,e.tup h1,h2.same e⟩
 | cut=>exact e.tup h
 | fill t=>obtain ⟨v,h1,h2⟩:=h;exact ⟨v,e.tup h1,h2.sameT e⟩
 | wrap w n nt k i=>obtain ⟨v,h1,h2⟩:=h;exact ⟨v,e.tup h1,h2.same e⟩
 | keep i=>exact e.tup h
 | note n nt w=>obtain ⟨v,h1,h2⟩:=h;exact ⟨v,e.tup h1,h2.same e⟩
 | chg t=>obtain ⟨v,h1,h2⟩:=h;exact ⟨v,e.tup h1,h2.sameT e⟩
 | deed=>exact e.tup h
theorem Sc.good.ok {s:Sc}(h:s.good):s.dd.ok:=by
 cases s with
 | put w n nt k=>exact Kq h.1 h.2.1
 | cut=>trivial
 | fill t=>exact h.1
 | wrap w n nt k i=>exact ⟨Kq h.1 h.2.1,by show i < (Oy k gapT).length;rw [P4];exact h.2.2⟩
 | keep i=>trivial
 | note n nt w=>exact h.1
 | chg t=>exact h
 | deed=>trivial
theorem Sc.good.fine {s:Sc}(h:s.good):s.dd.fine:=by
 cases s with
 | put w n nt k=>exact ⟨(Kq h.1 h.2.1).1,h.2.2⟩
 | cut=>trivial
 | fill t=>exact ⟨h.1.1,h.2⟩
 | wrap w n nt k i=>exact ⟨(Kq h.1 h.2.1).1,by show i < (Oy k gapT).length;rw [P4];exact h.2.2⟩
 | keep i=>trivial
 | note n nt w=>exact h.1
 | chg t=>exact h.1
 | deed=>trivial
theorem DdAt.sameB {K:On}{c:Cs}{H H':Hp}{x:V}{d:Dd}{b:Addr}(h:DdAt K c H x d)(e:SameB b H H')(hb:BoxAt H b):DdAt K c H' x d:=by
 obtain ⟨a,dx,fs,h1,h2,h3⟩:=h
 have na:a≠b:=fun z=>by
  obtain ⟨i,j,h4,_⟩:=hb
  rw [z,h4] at h2
  cases h2
 exact ⟨a,dx,fs,h1,e _ _ na h2,h3.same (e.t hb)⟩
theorem PairAt.sameB {K:On}{c:Cs}{H H':Hp}{b:Addr}(e:SameB b H H')(hb:BoxAt H b)(v:V)(x:List Nat×Dd)(h:PairAt K c H v x):PairAt K c H' v x:=by
 obtain ⟨a,q,y,h1,h2,h3,h4⟩:=h
 exact ⟨a,q,y,h1,(e.t hb).tup h2,(e.t hb).tup h3,h4.sameB e hb⟩
section
variable {P:Program}{w:World}{K:On}{mg:Str->Option Value}{base:Heap}
noncomputable def Zem (K:On):Sp:=fun vs H Q _=>∃(b:Addr)(fv:V)(t:Tr)(p:Addr),vs=[.ref b,fv,.ref p]/\BoxAt H b/\TrAt K H fv t/\TrOk t/\PoolAt H p/\p≠b /\
 ∀(a:Addr)(s:Sc)(H':Hp),SameB b H H'->BoxAt H' b->ScAt K H' a s->s.good->Q (.ref a) H'
theorem viaS {t:TS}{X:St->Hp->Prop}{rt:VK}{bk ct:St->Hp->Prop}{σ:St}{H:Hp}(R:St->Hp->Prop)(h2:∀ σ' H',R σ' H'->X σ' H')(h1:∀ Y:St->Hp->Prop,(∀ σ' H',R σ' H'->Y σ' H')->t ⟨Y,rt,bk,ct⟩ σ H):t ⟨X,rt,bk,ct⟩ σ H:=h1 X h2
theorem sc_law_spec:Aw ["_law_box_here", "_law_form_here", "_law_pool", "_law_turn", "_law_head_here", "_law_word", "_law_remark_here"] ["_law_box_here", "_law_form_here", "_law_pool"] (Aj J6):=by walk_at "sc"
theorem Zs8 {f:Addr}{fd:FuncData}(F:Fun K "_law_spec" "_law_spec" J6 f fd)(T:Txt K mg)(C__law_digit:As P w K mg base 1 "_law_digit" ["_law_box_here", "_law_many_here"] E2)(C__law_head:As P w K mg base 5 "_law_head" ["_law_box_here", "_law_pool", "_law_first"] (Kt K))(C__law_many:As P w K mg base 1 "_law_many" ["_law_word"] Nw)(C__law_small:As P w K mg base 7 "_law_small" ["_law_box_here", "_law_pool"] (Zeu K))(C__law_remark:As P w K mg base 4 "_law_remark" ["_law_word", "_law_box_here", "_law_pool"] (Za6 K))(C__law_tree:As P w K mg base 6 "_law_tree" ["_law_box_here", "_law_pool", "_law_most"] (Np K)):FnOk P w K mg base An 8 f fd ["_law_box_here", "_law_form_here", "_law_pool"] (Zem K):=by
 refine F.okq sc_law_spec (fun vs H Q E h=>?_) (fun cdv A outer s H vs Q E hr h=>?_)
 ·obtain ⟨b,fv,t,p,rfl,_⟩:=h
  rfl
 ·obtain ⟨b,fv,t,p,rfl,hb,ht,okt,hp,np,q⟩:=h
  refine ⟨_,Ae (Az 3 sc_law_spec (Am C__law_digit hr.m (Aa (qv 0) (Aa Ac Ab))))
   (Ae (Aq (QW.qt (Di (Au (A5 K hr.u200) (qv 3) Ac (Av _)) (Dx (QW.qt (Es (Au (A5 K hr.u200) (qv 3) Ac (Av _)) (Ey (Au (A5 K hr.u200) (Ai K (qv 1) Ac) Ao (Av _)))))))) (Ad (Ah (A2 (Bp K) (A3 (Aa Ao Ab)) (Am C__law_head hr.m (Aa (qv 0) (Aa (qv 2) (Aa Ac Ab))))))) Ar)
   (Ae (Aq (Au Nf (qv 3) Ac (Av _)) (Ad (Ah (A3 (Aa Ao Ab)))) Ar)
   (Ae (Aq (Au (A5 K hr.u200) (qv 3) Ac (Av _)) (Ad (Ah (A3 (Aa Ao (Aa (Am C__law_small hr.m (Aa (qv 0) (Aa (qv 2) Ab))) Ab))))) Ar)
   (Ae (Aq (Au (A5 K hr.u200) (qv 3) Ac (Av _)) (Ae (Az 4 sc_law_spec (Am C__law_head hr.m (Aa (qv 0) (Aa (qv 2) (Aa Ac Ab)))))
   (Ad (Ah (A2 (Bp K) (A2 (Bp K) (A3 (Aa Ao Ab)) (qv 4)) (A3 (Aa (Am C__law_digit hr.m (Aa (qv 0) (Aa (Am C__law_many hr.m (Aa (Ai K (qv 4) Ac) Ab)) Ab))) Ab)))))) Ar)
   (Ae (Aq (Au (A5 K hr.u200) (qv 3) Ac (Av _)) (Ad (Ah (A3 (Aa Ao (Aa (A2 Zbv (Am C__law_digit hr.m (Aa (qv 0) (Aa Ac Ab))) Ac) Ab))))) Ar)
   (Ae (Aq (Au (A5 K hr.u200) (qv 3) Ac (Av _)) (Ae (G2 (Am C__law_head hr.m (Aa (qv 0) (Aa (qv 2) (Aa Ac Ab)))) (Gn K (n:=2) rfl (C4 (Bc (i:=5) sc_law_spec.nd rfl (Or.inl rfl)) (C4 (Bc (i:=6) sc_law_spec.nd rfl (Or.inl rfl)) (Gx)))))
   (Ad (Ah (A3 (Aa Ao (Aa (qv 6) (Aa (qv 5) Ab))))))) Ar)
   (Ae (Aq (Au (A5 K hr.u200) (qv 3) Ac (Av _)) (Ad (Ah (A3 (Aa Ao (Aa (Am C__law_remark hr.m (Aa (Ai K (qv 1) Ac) (Aa (qv 0) (Aa (qv 2) Ab)))) (Aa (Ai K (qv 1) Ac) Ab)))))) Ar)
   (Ae (Aq (Au (A5 K hr.u200) (qv 3) Ac (Av _)) (Ad (Ah (A3 (Aa Ao (Aa (Am C__law_tree hr.m (Aa (qv 0) (Aa (qv 2) (Aa Ac Ab)))) Ab))))) Ar)
   (Ad (Ah (A3 (Aa Ao Ab)))))))))))),?_⟩
  walk_at "r"
  refine ⟨b,_,rfl,hb,by decide,by decide,fun d H1 s1 b1 d0 d1=>?_⟩
  have hp1:=hp.sameB np s1
  obtain ⟨af,pf,nf,rfl,qf⟩:=Cn (ht.sameT (s1.t hb))
  refine s_gname ?_
  have t1:=s1.t hb
  have put:∀(wd:Str)(note:V)(n:Dt)(nt:Nt)(H3:Hp),SameB b H1 H3->BoxAt H3 b->IsN K H3 note n->(Bo wd).isSome=true->wd ≠ "gap" -> Dm n nt->Bj wd nt=true->∀(r:Addr)(H4:Hp),Same H3 H4->SqT K H4 r [.str "put",.str wd,note]->Q (.ref r) H4:=fun wd note n nt H3 s3 b3 hn hps hng hdn hnb r H4 s4 qr=>by
   obtain ⟨k,hk⟩:=Rs.mp hps
   exact q r (.put wd n nt k) H4 (s1.trans (s3.trans (s4.b b))) (b3.same s4) ⟨note,qr,hn.same s4.t⟩ ⟨⟨hdn,hnb⟩,hk,hng⟩
  with_reducible refine s_seq ?_
  refine viaS (t:=Gr _ _ _) (R:=fun σ' H'=>σ'=[some (.ref b),some (.ref af),some (.ref p),some (.int d),none,none,none]/\H'=H1) ?_ (fun Y hY=>?_)
  rotate_left
  ·have go:(E4 (Bv (E9 K) (Gf (B9 (tC (V.str "put")) C2)) (Ex (Kt K) [] E0 (B9 (Bz 0) (B9 (Bz 2) (B9 (tC (V.int 0)) C2)))))) ⟨Y,Q,fun _ _=>False,fun _ _=>False⟩ [some (.ref b),some (.ref af),some (.ref p),some (.int d),none,none,none] H1:=by
    walk_at "r"
    refine ⟨Cu,fun p2 h2=>?_⟩
    have s2:=Same.upd (o:=.tup [.str "put"]) h2
    walk_at "r"
    refine ⟨b,p,0,rfl,.inl rfl,b1.same s2,hp1.sameB np (s2.b b),np,fun ha wd note n nt H3 s3 b3 qa hn hps hng hdn hnb _=>?_⟩
    refine F1 ((s3.t (b1.same s2)).tup (SqT.of Ag)) qa B0 fun r H4 s4 qr=>?_
    exact put wd note n nt H3 ((s2.b b).trans s3) b3 hn hps hng hdn hnb r H4 s4 qr
   walk_at "r"
   refine A0 (fun h=>?_) (fun h0=>?_)
   ·exact go
   walk_at "r"
   refine A0 (fun h=>?_) (fun h0=>?_)
   ·walk_at "r"
    refine Af qf rfl ?_
    walk_at "r"
    refine A0 (fun h=>?_) (fun h=>?_)
    ·exact go
    ·walk_at "r"
     exact hY _ _ ⟨rfl,rfl⟩
   ·walk_at "r"
    exact hY _ _ ⟨rfl,rfl⟩
  rintro σ' H' ⟨rfl,rfl⟩
  have b1':=b1
  walk_at "r"
  refine A0 (fun h=>?_) (fun h=>?_)
  ·walk_at "r"
   exact ⟨Cu,fun p4 h4=>q p4 .cut _ (s1.trans ((Same.upd h4).b b)) (b1.same (Same.upd h4)) (SqT.of Ag) trivial⟩
  walk_at "r"
  refine A0 (fun h=>?_) (fun h=>?_)
  ·walk_at "r"
   refine ⟨b,p,rfl,b1,hp1,np,fun v u H3 s3 b3 hv fu gu=>?_⟩
   walk_at "r"
   exact ⟨Bl,fun p4 h4=>q p4 (.fill u) _ (s1.trans (s3.trans ((Same.upd h4).b b))) (b3.same (Same.upd h4)) ⟨v,SqT.of Ag,hv.same (Same.upd h4)⟩ ⟨fu,gu⟩⟩
  walk_at "r"
  refine A0 (fun h=>?_) (fun h=>?_)
  ·walk_at "r"
   refine ⟨b,p,4,rfl,.inr rfl,b1,hp1,np,fun ha wd note n nt H3 s3 b3 qa hn hps hng hdn hnb hk4=>?_⟩
   obtain ⟨k,hk⟩:=hk4 rfl
   have k3:=Ls hk
   refine s_gname ?_
   walk_at "r"
   refine ⟨Cu,fun p4 h4=>?_⟩
   have s4:=Same.upd (o:=.tup [.str "wrap"]) h4
   walk_at "r"
   refine F1 (SqT.of Ag) (s4.tup qa) B0 fun r5 H5 s5 q5=>?_
   have s35:=s4.trans s5
   walk_at "r"
   refine Af (s35.tup qa) rfl ?_
   walk_at "r"
   refine ⟨wd,k+1,rfl,hk,fun H6 s6=>?_⟩
   have b6:=b3.same (s35.trans s6)
   walk_at "r"
   refine ⟨b,_,rfl,b6,by omega,by omega,fun e H7 s7 b7 e0 e1=>?_⟩
   obtain ⟨i,rfl⟩:∃ i:Nat,e=(i:Nat):=⟨e.toNat,by omega⟩
   walk_at "r"
   refine ⟨Cu,fun p8 h8=>?_⟩
   have s8:=Same.upd (o:=.tup [.int (i:Nat)]) h8
   have t58:=s6.t.trans ((s7.t b6).trans s8.t)
   refine F1 (t58.tup q5) (SqT.of Ag) sz4 fun r9 H9 s9 q9=>?_
   exact q r9 (.wrap wd n nt (k+1) i) H9 (s1.trans (s3.trans (((s35.trans s6).b b).trans (s7.trans ((s8.trans s9).b b))))) (b7.same (s8.trans s9)) ⟨note,q9,hn.same (s35.t.trans (t58.trans s9.t))⟩ ⟨⟨hdn,hnb⟩,hk,by omega⟩
  walk_at "r"
  refine A0 (fun h=>?_) (fun h=>?_)
  ·walk_at "r"
   refine ⟨b,5,rfl,b1,by decide,by decide,fun e H3 s3 b3 e0 e1=>?_⟩
   walk_at "r"
   exact ⟨Bl,fun p4 h4=>q p4 (.keep (e - 1)) _ (s1.trans (s3.trans ((Same.upd h4).b b))) (b3.same (Same.upd h4)) (SqT.of Ag) ⟨by omega,by omega⟩⟩
  walk_at "r"
  refine A0 (fun h=>?_) (fun h=>?_)
  ·walk_at "r"
   refine ⟨b,p,0,rfl,.inl rfl,b1,hp1,np,fun ha wd note n nt H3 s3 b3 qa hn hps hng hdn hnb _=>?_⟩
   refine Gq qa rfl ?_
   walk_at "r"
   exact ⟨B0,fun p4 h4=>q p4 (.note n nt wd) _ (s1.trans (s3.trans ((Same.upd h4).b b))) (b3.same (Same.upd h4)) ⟨note,SqT.of Ag,hn.same (SameT.new h4)⟩ ⟨hdn,hnb⟩⟩
  walk_at "r"
  refine A0 (fun h=>?_) (fun h=>?_)
  ·walk_at "r"
   refine Af qf rfl ?_
   walk_at "r"
   refine ⟨t.wd,b,p,rfl,b1,hp1,np,fun note n nt H3 s3 b3 hn hd hnb=>?_⟩
   walk_at "r"
   refine Af ((s3.t b1).tup qf) rfl ?_
   walk_at "r"
   exact ⟨B0,fun p4 h4=>q p4 (.note n nt t.wd) _ (s1.trans (s3.trans ((Same.upd h4).b b))) (b3.same (Same.upd h4)) ⟨note,SqT.of Ag,hn.same (SameT.new h4)⟩ ⟨hd,hnb⟩⟩
  walk_at "r"
  refine A0 (fun h=>?_) (fun h=>?_)
  ·walk_at "r"
   refine ⟨b,p,2,rfl,by decide,b1,hp1,np,fun v u H3 s3 b3 hv oku szu dpu=>?_⟩
   walk_at "r"
   exact ⟨Bl,fun p4 h4=>q p4 (.chg u) _ (s1.trans (s3.trans ((Same.upd h4).b b))) (b3.same (Same.upd h4)) ⟨v,SqT.of Ag,hv.same (Same.upd h4)⟩ ⟨oku,szu,dpu⟩⟩
  walk_at "r"
  exact ⟨Cu,fun p4 h4=>q p4 .deed _ (s1.trans ((Same.upd h4).b b)) (b1.same (Same.upd h4)) (SqT.of Ag) trivial⟩
noncomputable def N0 (K:On):Sp:=fun vs H Q _=>∃(a:Addr)(s:Sc)(fv:V)(t:Tr),vs=[.ref a,fv]/\ScAt K H a s/\s.good/\TrAt K H fv t/\TrOk t /\
 (∀ u,Bb t s.dd=some u->∀ v H',Same H H'->TrAt K H' v u->Q v H')/\(Bb t s.dd=none->∀ H',Same H H'->Q .non H')
theorem A1 {b:Bool}{X Y:Prop}(h:b=false)(y:Y):if b=true then X else Y:=by rw [if_neg (by rw [h];exact Ov)];exact y
theorem Cj {b:Bool}{X Y:Prop}(h:b=true)(x:X):if b=true then X else Y:=by rw [if_pos h];exact x
noncomputable def Sc.kw:Sc->Str
 | .put _ _ _ _ => "put"
 | .cut => "cut"
 | .fill _ => "fill"
 | .wrap _ _ _ _ _ => "wrap"
 | .keep _ => "keep"
 | .note _ _ _ => "note"
 | .chg _ => "change"
 | .deed => "deed"
theorem ScAt.kw {K:On}{H:Hp}{a:Addr}{s:Sc}(h:ScAt K H a s):∃ xs,SqT K H a (.str s.kw::xs):=by
 cases s with
 | put w n nt k=>obtain ⟨v,h1,h2⟩:=h;exact ⟨_,h1⟩
 | cut=>exact ⟨_,h⟩
 | fill t=>obtain ⟨v,h1,h2⟩:=h;exact ⟨_,h1⟩
 | wrap w n nt k i=>obtain ⟨v,h1,h2⟩:=h;exact ⟨_,h1⟩
 | keep i=>exact ⟨_,h⟩
 | note n nt w=>obtain ⟨v,h1,h2⟩:=h;exact ⟨_,h1⟩
 | chg t=>obtain ⟨v,h1,h2⟩:=h;exact ⟨_,h1⟩
 | deed=>exact ⟨_,h⟩
theorem Zl4 {s:Sc}{t:Tr}(h:s.kw∈(["put", "fill"]:List Str))(g:t.wd ≠ "gap"):Bb t s.dd=none:=by
 cases s with
 | put w n nt k=>exact if_neg g
 | fill u=>exact if_neg g
 | cut=>exact absurd h (by show ¬ ("cut" : Str)∈(["put", "fill"]:List Str);decide +kernel)
 | wrap w n nt k i=>exact absurd h (by show ¬ ("wrap" : Str)∈(["put", "fill"]:List Str);decide +kernel)
 | keep i=>exact absurd h (by show ¬ ("keep" : Str)∈(["put", "fill"]:List Str);decide +kernel)
 | note n nt w=>exact absurd h (by show ¬ ("note" : Str)∈(["put", "fill"]:List Str);decide +kernel)
 | chg u=>exact absurd h (by show ¬ ("change" : Str)∈(["put", "fill"]:List Str);decide +kernel)
 | deed=>exact absurd h (by decide +kernel)
theorem Zjs {s:Sc}{t:Tr}(h:s.kw = "cut")(g:t.wd = "gap"):Bb t s.dd=none:=by
 cases s with
 | cut=>exact if_pos g
 | put w n nt k=>exact absurd h (by show ("put" : Str) ≠ "cut";decide +kernel)
 | fill u=>exact absurd h (by show ("fill" : Str) ≠ "cut";decide +kernel)
 | wrap w n nt k i=>exact absurd h (by show ("wrap" : Str) ≠ "cut";decide +kernel)
 | keep i=>exact absurd h (by show ("keep" : Str) ≠ "cut";decide +kernel)
 | note n nt w=>exact absurd h (by show ("note" : Str) ≠ "cut";decide +kernel)
 | chg u=>exact absurd h (by show ("change" : Str) ≠ "cut";decide +kernel)
 | deed=>exact absurd h (by decide +kernel)
theorem Zij (s:Str)(nt:Nt):Bj s nt=Bj (Df s) nt:=by
 by_cases h:s∈(["fn", "let"]:List Str)
 ·simp only [O1,Pk,or_false] at h
  rcases h with rfl | rfl <;> rfl
 by_cases h2:s∈(["odd", "num", "truth", "name", "rec"]:List Str)
 ·rw [show Df s=s by unfold Df;rw [if_neg h,if_pos h2]]
 ·rw [show Df s = "" by unfold Df;rw [if_neg h,if_neg h2]]
  simp only [O1,Pk,or_false,not_or] at h h2
  show (if s = "odd" then Fn nt else if s = "num" then En nt else if s = "truth" then F2 nt else if s∈(["name", "fn", "let"]:List Str) then Hr nt else if s = "rec" then twoN nt else Go nt)=Go nt
  rw [if_neg h2.1,if_neg h2.2.1,if_neg h2.2.2.1,if_neg (by simp only [O1,Pk,or_false,not_or];exact ⟨h2.2.2.2.1,h.1,h.2⟩),if_neg h2.2.2.2.2]
theorem at0 {v:V}{xs:List V}:Bh (v::xs) 0=some v:=Iz (j:=0) rfl
theorem Zjx {K:On}{H:Hp}{us:List V}{n i:Nat}{v:V}{t:Tr}(hl:us.length=n)(hg:∀ u∈us,TrAt K H u gapT)(hv:TrAt K H v t):∀(j:Nat)(u:V)(x:Tr),(us.set i v)[j]?=some u->((Oy n gapT).set i t)[j]?=some x->TrAt K H u x:=by
 intro j u x h1 h2
 rw [List.getElem?_set] at h1 h2
 by_cases e:i=j
 ·rw [if_pos e] at h1 h2
  split at h1
  ·split at h2
   ·cases h1;cases h2;exact hv
   ·cases h2
  ·cases h1
 ·rw [if_neg e] at h1 h2
  rw [Rf (Pd h2)]
  exact hg u (Pd h1)
theorem Zkd:(["_law_k"]:List Str).Nodup:=by decide +kernel
theorem Zpl:(["_law_k"]:List Str).Nodup:=by decide +kernel
theorem sc_law_after:Aw ["_law_spec_here", "_law_form_here", "_law_parts"] ["_law_spec_here", "_law_form_here"] (Aj Kg):=by walk_at "sc"
theorem Zvx {f:Addr}{fd:FuncData}(F:Fun K "_law_after" "_law_after" Kg f fd)(T:Txt K mg)(C__law_many:As P w K mg base 1 "_law_many" ["_law_word"] Nw)(C__law_sort:As P w K mg base 1 "_law_sort" ["_law_word"] Zi2):FnOk P w K mg base An 2 f fd ["_law_spec_here", "_law_form_here"] (N0 K):=by
 refine F.okq sc_law_after (fun vs H Q E h=>?_) (fun cdv A outer s H vs Q E hr h=>?_)
 ·obtain ⟨a,s,fv,t,rfl,_⟩:=h
  rfl
 ·obtain ⟨a,sc,fv,t,rfl,hs,hg,ht,okt,q,x⟩:=h
  refine ⟨_,Ae (Aq (QW.qt (Di (QW.qt (Es (Au (Dr K) (Ai K (qv 0) Ac) (B6 (Aa Ao (Aa Ao Ab))) (by rfl)) (Ey (Au (C8 K hr.u200) (Ai K (qv 1) Ac) Ao (Av _))))) (Dx (QW.qt (Es (Au (A5 K hr.u200) (Ai K (qv 0) Ac) Ao (Av _)) (Ey (Au (A5 K hr.u200) (Ai K (qv 1) Ac) Ao (Av _)))))))) (Ad (Ah D4)) Ar)
   (Ae (Aq (Au (A5 K hr.u200) (Ai K (qv 0) Ac) Ao (Av _)) (Ad (Ah (A3 (Aa (Ai K (qv 0) Ac) (Aa (Ai K (qv 0) Ac) (Aa (G7 (Mw K) (by rfl) T.tuple (by decide +kernel) (Aa (Ik (N:=["_law_k"]) (σ0:=Dh 1 []) rfl (E8 rfl (by decide +kernel) (by decide +kernel) (by decide +kernel)) (Fh rfl T.range (Aa (Am C__law_many hr.m (Aa (Ai K (qv 0) Ac) Ab)) Ab)) (E3 rfl (by rfl)) (fun _ _ _ _=>Bc (i:=0) Zkd rfl (Or.inl rfl)) (fun _ _ _ _=>E5) (fun _ _ _ _=>A3 (Aa Ao (Aa D4 (Aa (A3 Ab) Ab))))) Ab)) Ab)))))) Ar)
   (Ae (Aq (Au (A5 K hr.u200) (Ai K (qv 0) Ac) Ao (Av _)) (Ad (Ah (A3 (Aa Ao (Aa D4 (Aa (A3 Ab) Ab)))))) Ar)
   (Ae (Aq (Au (A5 K hr.u200) (Ai K (qv 0) Ac) Ao (Av _)) (Ae (M7 (i:=2) (N:=["_law_k"]) (σ0:=Dh 1 []) rfl (E8 rfl (by decide +kernel) (by decide +kernel) (by decide +kernel)) (Fh rfl T.range (Aa (Am C__law_many hr.m (Aa (Ai K (qv 0) Ac) Ab)) Ab)) (E3 rfl (by rfl)) (fun _ _ _ _=>Bc (i:=0) Zpl rfl (Or.inl rfl)) (fun _ _ _ _=>E5) (fun _ _ _ _=>A3 (Aa Ao (Aa D4 (Aa (A3 Ab) Ab)))) sc_law_after.nd rfl (Or.inl rfl))
   (Ae (G2 (qv 1) (M9 (qv 2) (Ai K (qv 0) Ac) Oe))
   (Ad (Ah (A3 (Aa (Ai K (qv 0) Ac) (Aa (Ai K (qv 0) Ac) (Aa (G7 (Mw K) (by rfl) T.tuple (by decide +kernel) (Aa (qv 2) Ab)) Ab)))))))) Ar)
   (Ae (Aq (Au (A5 K hr.u200) (Ai K (qv 0) Ac) Ao (Av _)) (Ae (Aq (QW.qt (Di (Au Nf (Ai K (qv 0) Ac) Ac (Av _)) (Dx (Au Zp3 (Ai K (qv 0) Ac) (A8 (Cd K) (by rfl) T.len (by decide +kernel) (Aa (Ai K (qv 1) Ac) Ab)) (Av _))))) (Ad (Ah D4)) Ar)
   (Ad (Ah (Ai K (Ai K (qv 1) Ac) (Ai K (qv 0) Ac))))) Ar)
   (Ae (Aq (Au (A5 K hr.u200) (Ai K (qv 0) Ac) Ao (Av _)) (Ae (Aq (Au (C8 K hr.u200) (Am C__law_sort hr.m (Aa (Ai K (qv 0) Ac) Ab)) (Am C__law_sort hr.m (Aa (Ai K (qv 1) Ac) Ab)) (Av _)) (Ad (Ah D4)) Ar)
   (Ad (Ah (A3 (Aa (Ai K (qv 1) Ac) (Aa (Ai K (qv 0) Ac) (Aa (Ai K (qv 1) Ac) Ab))))))) Ar)
   (Ae (Aq (Au (A5 K hr.u200) (Ai K (qv 0) Ac) Ao (Av _)) (Ad (Ah (qv 1))) Ar)
   (Ad (Ah (Ai K (qv 0) Ac))))))))),?_⟩
  have bg:=Ce
  obtain ⟨xs,qh⟩:=hs.kw
  obtain ⟨af,pf,nf,rfl,qf⟩:=Cn ht
  with_reducible refine s_seq ?_
  refine viaS (t:=Gr _ _ _) (R:=fun σ' H'=>σ'=[some (.ref a),some (.ref af),none]/\Same H H'/\(sc.kw∈(["put", "fill"]:List Str)->t.wd = "gap")/\(sc.kw = "cut" -> t.wd ≠ "gap")) ?_ (fun Y hY=>?_)
  rotate_left
  ·walk_at "r"
   refine Af qh at0 ?_
   walk_at "r"
   refine ⟨Bl,fun p1 h1=>?_⟩
   have s1:=Same.upd (o:=.lst [.str "put",.str "fill"]) h1
   refine Dc (.inl (SqL.of Ag)) rfl rfl ?_
   rw [if_neg Ov,show Cf (.str sc.kw) [.str "put",.str "fill"]=decide (sc.kw∈(["put", "fill"]:List Str)) from Zax (ws:=["put", "fill"])]
   revert s1
   generalize upd H p1 _=H1
   intro s1
   walk_at "r"
   refine A0 (fun h=>?_) (fun h=>?_)
   ·walk_at "r"
    refine Af (s1.tup qf) rfl ?_
    walk_at "r"
    rw [Cv]
    refine A0 (fun h2=>?_) (fun h2=>?_)
    ·walk_at "r"
     exact x (Zl4 (of_decide_eq_true h) (by simpa using h2)) _ s1
    ·have hgap:t.wd = "gap" := by simpa using h2
     have nc:sc.kw ≠ "cut" := fun z=>by rw [z] at h;revert h;decide +kernel
     walk_at "r"
     refine Af (s1.tup qh) at0 ?_
     walk_at "r"
     rw [Cv]
     refine A1 (decide_eq_false nc) ?_
     walk_at "r"
     exact hY _ _ ⟨rfl,s1,fun _=>hgap,fun z=>absurd z nc⟩
   ·have np:¬ sc.kw∈(["put", "fill"]:List Str):=fun z=>h (decide_eq_true z)
    walk_at "r"
    refine Af (s1.tup qh) at0 ?_
    walk_at "r"
    rw [Cv]
    refine A0 (fun h=>?_) (fun h=>?_)
    ·walk_at "r"
     refine Af (s1.tup qf) rfl ?_
     walk_at "r"
     rw [Cv]
     refine A0 (fun h2=>?_) (fun h2=>?_)
     ·walk_at "r"
      exact x (Zjs (of_decide_eq_true h) (of_decide_eq_true h2)) _ s1
     ·walk_at "r"
      exact hY _ _ ⟨rfl,s1,fun z=>absurd z np,fun _ z=>h2 (decide_eq_true z)⟩
    ·walk_at "r"
     exact hY _ _ ⟨rfl,s1,fun z=>absurd z np,fun z=>absurd (decide_eq_true z) h⟩
  rintro σ' H1 ⟨rfl,s1,hpf,hct⟩
  replace hs:=hs.same s1.t
  replace ht:=ht.same s1
  replace qf:=s1.tup qf
  replace q:=fun u h v H' (s:Same H1 H')=>q u h v H' (s1.trans s)
  replace x:=fun h H' (s:Same H1 H')=>x h H' (s1.trans s)
  clear qh
  cases sc with
  | put w n nt k =>
   obtain ⟨nv,qa,hn⟩:=hs
   obtain ⟨hno,hk,hng⟩:=hg
   have k3:=Ls hk
   walk_at "r"
   refine Af qa rfl ?_
   walk_at "r"
   refine Cj (by decide +kernel) ?_
   walk_at "r"
   refine Af qa rfl ?_
   walk_at "r"
   refine Af qa rfl ?_
   walk_at "r"
   refine Af qa rfl ?_
   walk_at "r"
   refine ⟨w,k,rfl,hk,fun H2 s2=>?_⟩
   walk_at "r"
   refine ⟨by omega,by omega,fun D hD=>?_⟩
   refine Hn (n:=((k:Nat):Int).toNat) (Pv:=fun i ys σ' H'=>∃ kv,σ'=[kv]/\ys.length=i/\(∀ u∈ys,TrAt K H' u gapT)/\Same H1 H') ⟨none,rfl,rfl,(fun u h=>nomatch h),s2.put hD⟩ ?_ ?_
   ·rintro i ys σ' H' hi hys ⟨kv,rfl,hl,hg,sm⟩
    walk_at "r"
    refine ⟨Ez,fun p2 h2=>?_⟩
    have s3:=Same.upd (o:=.tup []) h2
    walk_at "r"
    refine ⟨B0,fun p3 h3=>?_⟩
    have s4:=Same.upd (o:=.tup [.str "gap",.non,.ref p2]) h3
    have s34:=s3.trans s4
    have gp:=TrAt.gap (K:=K) (SqT.of Ag) (s4.tup (SqT.of Ag))
    have ey:=s34 _ _ hys
    revert s34 gp ey
    generalize upd (upd H' p2 (.tup [])) p3 (.tup [.str "gap",.non,.ref p2])=H3
    intro s34 gp ey
    walk_at "r"
    refine ⟨_,ey,by omega,_,Ag,?_⟩
    have st:=SameT.set (o:=.lst (ys++[.ref p3])) ey
    refine ⟨_,rfl,by simp [hl],fun u hu=>?_,(sm.trans s34).over (s2.free hD)⟩
    rcases Pu.mp hu with hu | hu
    ·exact (hg u hu).sameT (s34.t.trans st)
    ·rw [P5.mp hu];exact gp.sameT st
   ·rintro ys σ' H2 hys ⟨kv,rfl,hl,hg,sm⟩
    walk_at "r"
    refine M6 (SqL.of hys) fun p5 h5=>?_
    have s5:=Same.upd (o:=.tup ys) h5
    walk_at "r"
    refine ⟨B0,fun p6 h6=>?_⟩
    have s6:=Same.upd (o:=.tup [.str w,nv,.ref p5]) h6
    have s56:=s5.trans s6
    refine q (Hj w n k) (if_pos (hpf (by show ("put" : Str)∈(["put", "fill"]:List Str);decide +kernel))) _ _ (sm.trans s56) (.mk (SqT.of Ag) (hn.same (sm.t.trans s56.t)) (s6.tup (SqT.of Ag)) (by rw [P4];omega) fun j u y h1 h2=>?_)
    rw [Rf (Pd h2)]
    exact (hg u (Pd h1)).same s56
  | cut =>
   have qa:=hs
   walk_at "r"
   refine Af qa rfl ?_
   walk_at "r"
   refine A1 (by decide +kernel) ?_
   walk_at "r"
   refine Af qa rfl ?_
   walk_at "r"
   refine Cj (by decide +kernel) ?_
   walk_at "r"
   refine ⟨Ez,fun p2 h2=>?_⟩
   have s3:=Same.upd (o:=.tup []) h2
   walk_at "r"
   refine ⟨B0,fun p3 h3=>?_⟩
   have s4:=Same.upd (o:=.tup [.str "gap",.non,.ref p2]) h3
   exact q gapT (if_neg (hct rfl)) _ _ (s3.trans s4) (TrAt.gap (K:=K) (SqT.of Ag) (s4.tup (SqT.of Ag)))
  | fill u =>
   obtain ⟨v,qa,hv⟩:=hs
   walk_at "r"
   refine Af qa rfl ?_
   walk_at "r"
   refine A1 (by decide +kernel) ?_
   walk_at "r"
   refine Af qa rfl ?_
   walk_at "r"
   refine A1 (by decide +kernel) ?_
   walk_at "r"
   refine Af qa rfl ?_
   walk_at "r"
   refine A1 (by decide +kernel) ?_
   walk_at "r"
   refine Af qa rfl ?_
   walk_at "r"
   refine A1 (by decide +kernel) ?_
   walk_at "r"
   refine Af qa rfl ?_
   walk_at "r"
   refine A1 (by decide +kernel) ?_
   walk_at "r"
   refine Af qa rfl ?_
   walk_at "r"
   refine A1 (by decide +kernel) ?_
   walk_at "r"
   refine Af qa rfl ?_
   exact q u (if_pos (hpf (by show ("fill" : Str)∈(["put", "fill"]:List Str);decide +kernel))) v _ (Same.refl _) hv
  | wrap w n nt k i =>
   obtain ⟨nv,qa,hn⟩:=hs
   obtain ⟨hno,hk,hik⟩:=hg
   have k3:=Ls hk
   walk_at "r"
   refine Af qa rfl ?_
   walk_at "r"
   refine A1 (by decide +kernel) ?_
   walk_at "r"
   refine Af qa rfl ?_
   walk_at "r"
   refine A1 (by decide +kernel) ?_
   walk_at "r"
   refine Af qa rfl ?_
   walk_at "r"
   refine Cj (by decide +kernel) ?_
   walk_at "r"
   refine Af qa rfl ?_
   walk_at "r"
   refine ⟨w,k,rfl,hk,fun H2 s2=>?_⟩
   walk_at "r"
   refine ⟨by omega,by omega,fun D hD=>?_⟩
   refine Hn (n:=((k:Nat):Int).toNat) (Pv:=fun i ys σ' H'=>∃ kv,σ'=[kv]/\ys.length=i/\(∀ u∈ys,TrAt K H' u gapT)/\Same H1 H') ⟨none,rfl,rfl,(fun u h=>nomatch h),s2.put hD⟩ ?_ ?_
   ·rintro i ys σ' H' hi hys ⟨kv,rfl,hl,hg,sm⟩
    walk_at "r"
    refine ⟨Ez,fun p2 h2=>?_⟩
    have s3:=Same.upd (o:=.tup []) h2
    walk_at "r"
    refine ⟨B0,fun p3 h3=>?_⟩
    have s4:=Same.upd (o:=.tup [.str "gap",.non,.ref p2]) h3
    have s34:=s3.trans s4
    have gp:=TrAt.gap (K:=K) (SqT.of Ag) (s4.tup (SqT.of Ag))
    have ey:=s34 _ _ hys
    revert s34 gp ey
    generalize upd (upd H' p2 (.tup [])) p3 (.tup [.str "gap",.non,.ref p2])=H3
    intro s34 gp ey
    walk_at "r"
    refine ⟨_,ey,by omega,_,Ag,?_⟩
    have st:=SameT.set (o:=.lst (ys++[.ref p3])) ey
    refine ⟨_,rfl,by simp [hl],fun u hu=>?_,(sm.trans s34).over (s2.free hD)⟩
    rcases Pu.mp hu with hu | hu
    ·exact (hg u hu).sameT (s34.t.trans st)
    ·rw [P5.mp hu];exact gp.sameT st
   ·rintro ys σ' H2 hys ⟨kv,rfl,hl,hg,sm⟩
    refine s_gname ?_
    walk_at "r"
    refine Af (sm.tup qa) rfl ?_
    have hz:ys.length=k:=by omega
    have hix:C7 ys.length ((i:Nat):Int)=some i:=by
     unfold C7
     rw [if_pos (by omega),if_pos (by omega)]
     congr 1
    refine Nr hys (j:=i) hix ?_
    have st:=SameT.set (o:=.lst (ys.set i (.ref af))) hys
    have sm2:=(sm.over (s2.free hD):Same H1 (upd H2 D (.lst (ys.set i (.ref af)))))
    have al:=Zjx (K:=K) (i:=i) (v:=.ref af) (t:=t) hz (fun u hu=>(hg u hu).sameT st) (ht.same sm2)
    have eD:upd H2 D (.lst (ys.set i (.ref af))) D=some (.lst (ys.set i (.ref af))):=Ag
    revert eD sm2 al
    generalize upd H2 D _=H3
    intro sm2 al eD
    walk_at "r"
    refine Af (sm2.tup qa) rfl ?_
    walk_at "r"
    refine Af (sm2.tup qa) rfl ?_
    walk_at "r"
    refine M6 (SqL.of eD) fun p5 h5=>?_
    have s5:=Same.upd (o:=.tup (ys.set i (.ref af))) h5
    walk_at "r"
    refine ⟨B0,fun p6 h6=>?_⟩
    have s6:=Same.upd (o:=.tup [.str w,nv,.ref p5]) h6
    have s56:=s5.trans s6
    exact q (.mk w n ((Oy k gapT).set i t)) rfl _ _ (sm2.trans s56) (.mk (SqT.of Ag) (hn.same (sm2.t.trans s56.t)) (s6.tup (SqT.of Ag)) (by rw [P0,P0,P4];omega) fun j u y h1 h2=>(al j u y h1 h2).same s56)
  | keep i =>
   have qa:=hs
   walk_at "r"
   refine Af qa rfl ?_
   walk_at "r"
   refine A1 (by decide +kernel) ?_
   walk_at "r"
   refine Af qa rfl ?_
   walk_at "r"
   refine A1 (by decide +kernel) ?_
   walk_at "r"
   refine Af qa rfl ?_
   walk_at "r"
   refine A1 (by decide +kernel) ?_
   walk_at "r"
   refine Af qa rfl ?_
   walk_at "r"
   refine Cj (by decide +kernel) ?_
   walk_at "r"
   refine Af qa rfl ?_
   walk_at "r"
   have hd:Bb t (.keep i)=if 0<=i/\i < (t.ps.length:Int) then t.ps[i.toNat]? else none:=rfl
   cases ht with
   | @mk af pf wd nv n vs ts qf' hn' qp hl hc =>
   refine A0 (fun h=>?_) (fun h=>?_)
   ·have h:=of_decide_eq_true h
    walk_at "r"
    exact x (by show Bb _ (.keep i)=none;rw [hd,if_neg (by omega)]) _ (Same.refl _)
   have h:¬ i < 0:=fun z=>h (decide_eq_true z)
   walk_at "r"
   refine Af qa rfl ?_
   walk_at "r"
   refine Af qf' rfl ?_
   walk_at "r"
   refine Gp qp ?_
   refine ⟨_,_,rfl,rfl,?_⟩
   refine ⟨_,rfl,?_⟩
   refine A0 (fun h2=>?_) (fun h2=>?_)
   ·have h2:=of_decide_eq_true h2
    walk_at "r"
    refine x ?_ _ (Same.refl _)
    show Bb _ (.keep i)=none
    rw [hd,if_neg]
    intro z
    have z2:i < (ts.length:Int):=z.2
    omega
   ·have h2:¬ (vs.length:Int)<=i:=fun z=>h2 (decide_eq_true z)
    obtain ⟨j,rfl⟩:∃ j:Nat,i=(j:Nat):=⟨i.toNat,by omega⟩
    have hj:j < vs.length:=by omega
    have hj2:j < ts.length:=by omega
    walk_at "r"
    refine Af qf' rfl ?_
    walk_at "r"
    refine Af qa rfl ?_
    walk_at "r"
    refine Af qp (Iz (Ow hj)) ?_
    refine q ts[j] ?_ _ _ (Same.refl _) (hc j _ _ (Ow hj) (Ow hj2))
    show Bb _ (.keep j)=_
    rw [hd,if_pos ⟨by omega,show ((j:Nat):Int) < ts.length by omega⟩]
    exact Ow hj2
  | note n nt w =>
   obtain ⟨nv,qa,hn⟩:=hs
   walk_at "r"
   refine Af qa rfl ?_
   walk_at "r"
   refine A1 (by decide +kernel) ?_
   walk_at "r"
   refine Af qa rfl ?_
   walk_at "r"
   refine A1 (by decide +kernel) ?_
   walk_at "r"
   refine Af qa rfl ?_
   walk_at "r"
   refine A1 (by decide +kernel) ?_
   walk_at "r"
   refine Af qa rfl ?_
   walk_at "r"
   refine A1 (by decide +kernel) ?_
   walk_at "r"
   refine Af qa rfl ?_
   walk_at "r"
   refine Cj (by decide +kernel) ?_
   walk_at "r"
   refine Af qa rfl ?_
   walk_at "r"
   refine ⟨w,rfl,fun H2 s2=>?_⟩
   walk_at "r"
   refine Af (s2.tup qf) rfl ?_
   walk_at "r"
   refine ⟨t.wd,rfl,fun H3 s3=>?_⟩
   have s23:=s2.trans s3
   have hd:Bb t (.note n nt)=if Bj t.wd nt=true then some (.mk t.wd n t.ps) else none:=rfl
   walk_at "r"
   rw [Cv]
   refine A0 (fun h=>?_) (fun h=>?_)
   ·walk_at "r"
    refine x ?_ _ s23
    show Bb t (.note n nt)=none
    rw [hd,if_neg]
    intro z
    have e:=(Zip hg.2).trans (Zip z).symm
    rw [e] at h
    simp at h
   ·walk_at "r"
    have e:Df t.wd=Df w:=by simpa using (Eq.symm (by simpa using h:Df w=Df t.wd))
    have hb:Bj t.wd nt=true:=by rw [Zij,e,<- Zij];exact hg.2
    cases ht with
    | @mk af pf wd nv2 n2 vs ts qf' hn' qp hl hc =>
    refine Af (s23.tup qf') rfl ?_
    walk_at "r"
    refine Af (s23.tup qa) rfl ?_
    walk_at "r"
    refine Af (s23.tup qf') rfl ?_
    walk_at "r"
    refine ⟨B0,fun p6 h6=>?_⟩
    have s6:=s23.put (o:=.tup [.str wd,nv,.ref pf]) h6
    exact q (.mk wd n ts) (hd.trans (if_pos hb)) _ _ s6 (.mk (SqT.of Ag) (hn.same s6.t) (s6.tup qp) hl fun j u y h1 h2=>(hc j u y h1 h2).same s6)
  | chg u =>
   obtain ⟨v,qa,hv⟩:=hs
   walk_at "r"
   refine Af qa rfl ?_
   walk_at "r"
   refine A1 (by decide +kernel) ?_
   walk_at "r"
   refine Af qa rfl ?_
   walk_at "r"
   refine A1 (by decide +kernel) ?_
   walk_at "r"
   refine Af qa rfl ?_
   walk_at "r"
   refine A1 (by decide +kernel) ?_
   walk_at "r"
   refine Af qa rfl ?_
   walk_at "r"
   refine A1 (by decide +kernel) ?_
   walk_at "r"
   refine Af qa rfl ?_
   walk_at "r"
   refine A1 (by decide +kernel) ?_
   walk_at "r"
   refine Af qa rfl ?_
   walk_at "r"
   refine A1 (by decide +kernel) ?_
   walk_at "r"
   refine Af qa rfl ?_
   exact q u rfl v _ (Same.refl _) hv
  | deed =>
   have qa:=hs
   walk_at "r"
   refine Af qa rfl ?_
   walk_at "r"
   refine A1 (by decide +kernel) ?_
   walk_at "r"
   refine Af qa rfl ?_
   walk_at "r"
   refine A1 (by decide +kernel) ?_
   walk_at "r"
   refine Af qa rfl ?_
   walk_at "r"
   refine A1 (by decide +kernel) ?_
   walk_at "r"
   refine Af qa rfl ?_
   walk_at "r"
   refine A1 (by decide +kernel) ?_
   walk_at "r"
   refine Af qa rfl ?_
   walk_at "r"
   refine A1 (by decide +kernel) ?_
   walk_at "r"
   refine Af qa rfl ?_
   walk_at "r"
   refine Cj (by decide +kernel) ?_
   walk_at "r"
   exact q t rfl _ _ (Same.refl _) ht
noncomputable def M5 {α:Type}:List α->List α->List α
 | [a,b],[n]=>[a,b,n]
 | _,_=>[]
noncomputable def N8 {α:Type}:List α->List α->List α
 | [a],[b]=>[a,b]
 | _,_=>[]
noncomputable def Za8:List V->List V->List V
 | [a,b],[c]=>[a,b,.non,c]
 | _,_=>[]
noncomputable def Zgl (K:On)(c:Cs):Sp:=fun vs H Q _=>∃(a:Addr)(s:Sc),vs=[.ref a]/\ScAt K H a s/\s.good/\∀ x H',Same H H'->DdAt K c H' x s.dd->Q x H'
theorem Zlo:Aw ["_law_spec_here"] ["_law_spec_here"] (Aj L8):=by walk_at "sc"
theorem Zks {c:Cs}{ag:Addr}{f:Addr}{fd:FuncData}(F:Fun K "_law_make" "_law_make" L8 f fd)(T:Txt K mg)(GA:Kf K ag)(MK_Put_1:B5 An P w K mg base 5 "Put" c.p ["self", "word", "note"] [] (fun vs _=>vs++[.non]) (F4 K c ag))(MK_Put_1_note:B5 An P w K mg base 5 "Put" c.p ["self", "word", "note"] ["note"] M5 (F4 K c ag))(MK_Put_2:B5 An P w K mg base 5 "Put" c.p ["self", "word", "note"] [] (fun vs _=>vs) (F4 K c ag))(MK_Fill:Ee An P w K mg base 7 "Fill" c.f ["self", "form"] (Mz K c))(MK_Cut:Gk K mg "Cut" c.c)
  (MK_Wrap_1_at:B5 An P w K mg base 5 "Wrap" c.w ["self", "word", "note", "at"] ["at"] Za8 (F5 K c ag)) (MK_Wrap_2:B5 An P w K mg base 5 "Wrap" c.w ["self", "word", "note", "at"] [] (fun vs _=>vs++[.int 0]) (F5 K c ag)) (MK_Wrap_3:B5 An P w K mg base 5 "Wrap" c.w ["self", "word", "note", "at"] [] (fun vs _=>vs) (F5 K c ag)) (MK_Keep_0:B5 An P w K mg base 1 "Keep" c.k ["self", "at"] [] (fun vs _=>vs++[.int 0]) (Fi K c)) (MK_Keep_0_at:B5 An P w K mg base 1 "Keep" c.k ["self", "at"] ["at"] N8 (Fi K c)) (MK_Keep_1:B5 An P w K mg base 1 "Keep" c.k ["self", "at"] [] (fun vs _=>vs) (Fi K c)) (MK_Note:Ee An P w K mg base 1 "Note" c.n ["self", "note"] (Nd K c)) (MK_Change:Ee An P w K mg base 7 "Change" c.g ["self", "form"] (K3 K c)) (MK_Deed:Gk K mg "Deed" c.d):FnOk P w K mg base An 9 f fd ["_law_spec_here"] (Zgl K c):=by
 refine F.okq Zlo (fun vs H Q E h=>?_) (fun cdv A outer s H vs Q E hr h=>?_)
 ·obtain ⟨a,s,rfl,_⟩:=h
  rfl
 ·obtain ⟨a,sc,rfl,hs,hg,q⟩:=h
  refine ⟨_,Ae (Aq (Au (A5 K hr.u200) (Ai K (qv 0) Ac) Ao (Av _)) (Ae (Aq (Ij (Mg (Ai K (qv 0) Ac))) (Ad (Ah (Gh MK_Put_1 hr.m Cb (Aa (Ai K (qv 0) Ac) Ab) (Fg)))) Ar)
   (Ae (Aq (Au (Dr K) (Ai K (qv 0) Ac) (B6 (Aa Ao (Aa Ao (Aa Ao Ab)))) (by rfl)) (Ad (Ah (Gh MK_Put_1_note hr.m Cb (Aa (Ai K (qv 0) Ac) Ab) (Zdl (Ai K (qv 0) Ac) Fg)))) Ar)
   (Ad (Ah (Gh MK_Put_2 hr.m Cb (Aa (Ai K (qv 0) Ac) (Aa (Ai K (qv 0) Ac) Ab)) (Fg)))))) Ar)
   (Ae (Aq (Au (A5 K hr.u200) (Ai K (qv 0) Ac) Ao (Av _)) (Ad (Ah (G5 MK_Fill hr.m Cb (Aa (Ai K (qv 0) Ac) Ab)))) Ar)
   (Ae (Aq (Au (A5 K hr.u200) (Ai K (qv 0) Ac) Ao (Av _)) (Ad (Ah (Jv MK_Cut))) Ar)
   (Ae (Aq (Au (A5 K hr.u200) (Ai K (qv 0) Ac) Ao (Av _)) (Ae (Aq (Ij (Mg (Ai K (qv 0) Ac))) (Ad (Ah (Gh MK_Wrap_1_at hr.m Cb (Aa (Ai K (qv 0) Ac) Ab) (Zdl (Ai K (qv 0) Ac) Fg)))) Ar)
   (Ae (Aq (Au (A5 K hr.u200) (Ai K (qv 0) Ac) Ac (Av _)) (Ad (Ah (Gh MK_Wrap_2 hr.m Cb (Aa (Ai K (qv 0) Ac) (Aa (Ai K (qv 0) Ac) Ab)) (Fg)))) Ar)
   (Ad (Ah (Gh MK_Wrap_3 hr.m Cb (Aa (Ai K (qv 0) Ac) (Aa (Ai K (qv 0) Ac) (Aa (Ai K (qv 0) Ac) Ab))) (Fg)))))) Ar)
   (Ae (Aq (Au (A5 K hr.u200) (Ai K (qv 0) Ac) Ao (Av _)) (Ae (Aq (Au (A5 K hr.u200) (Ai K (qv 0) Ac) Ac (Av _)) (Ad (Ah (Zhp MK_Keep_0 hr.m Cb (Fg)))) Ar)
   (Ae (Aq (Au (A5 K hr.u200) (Ai K (qv 0) Ac) Ac (Av _)) (Ad (Ah (Zhp MK_Keep_0_at hr.m Cb (Zdl (Ai K (qv 0) Ac) Fg)))) Ar)
   (Ad (Ah (Gh MK_Keep_1 hr.m Cb (Aa (Ai K (qv 0) Ac) Ab) (Fg)))))) Ar)
   (Ae (Aq (Au (A5 K hr.u200) (Ai K (qv 0) Ac) Ao (Av _)) (Ad (Ah (G5 MK_Note hr.m Cb (Aa (Ai K (qv 0) Ac) Ab)))) Ar)
   (Ae (Aq (Au (A5 K hr.u200) (Ai K (qv 0) Ac) Ao (Av _)) (Ad (Ah (G5 MK_Change hr.m Cb (Aa (Ai K (qv 0) Ac) Ab)))) Ar)
   (Ad (Ah (Jv MK_Deed))))))))),?_⟩
  cases sc with
  | put w n nt k =>
   obtain ⟨nv,qa,hn⟩:=hs
   obtain ⟨⟨hdn,hnb⟩,hk,hng⟩:=hg
   have hnt:=IsN.nt hn hdn
   have hw:=(Ha hk).2.2.2.2
   have key:∀ H1,Same H H1->∀ x dx,H1 x=none->H1 dx=none->dx≠x->F4 K c ag [.ref x,.str w,nv] (upd (upd H1 dx (.own x)) x (.ins c.p dx [])) (fun v H3=>v=.non/\Q (.ref x) H3) E0:=by
    intro H1 s1 a1 d1 h1 h2 h3
    have s3:=Same.made (C:=c.p) (fs:=[]) h1 h2 h3
    have s13:=s1.trans s3
    refine ⟨a1,d1,w,nv,nt,k,rfl,Ag,⟨_,.str _ (by omega)⟩,hnt.same s13,hk,hnb,hng,fun r H4 sb e4 hb4=>⟨rfl,?_⟩⟩
    have s4:=s1.trans (sb.made h1 h2)
    exact q _ _ s4 ⟨a1,d1,_,rfl,e4,.ref r,rfl,hb4.tr GA (hn.same s4.t)⟩
   walk_at "r"
   refine Af qa rfl ?_
   walk_at "r"
   refine Cj (by decide +kernel) ?_
   walk_at "r"
   refine Af qa rfl ?_
   walk_at "r"
   refine A0 (fun h=>?_) (fun h=>?_)
   ·have h:=of_decide_eq_true h
    subst h
    walk_at "r"
    unfold Eu
    walk_at "r"
    refine Af qa rfl ?_
    walk_at "r"
    exact key H (Same.refl _)
   walk_at "r"
   refine Af qa rfl ?_
   walk_at "r"
   refine ⟨B0,fun p1 h1=>?_⟩
   have s1:=Same.upd (o:=.lst [.str "num",.str "let",.str "rec"]) h1
   refine Dc (.inl (SqL.of Ag)) rfl rfl ?_
   walk_at "r"
   refine A0 (fun h=>?_) (fun h=>?_)
   ·walk_at "r"
    unfold Eu
    walk_at "r"
    refine Af (s1.tup qa) rfl ?_
    walk_at "r"
    refine Af (s1.tup qa) rfl ?_
    walk_at "r"
    exact key _ s1
   ·walk_at "r"
    unfold Eu
    walk_at "r"
    refine Af (s1.tup qa) rfl ?_
    walk_at "r"
    refine Af (s1.tup qa) rfl ?_
    walk_at "r"
    exact key _ s1
  | cut =>
   have qa:=hs
   walk_at "r"
   refine Af qa rfl ?_
   walk_at "r"
   refine A1 (by decide +kernel) ?_
   walk_at "r"
   refine Af qa rfl ?_
   walk_at "r"
   refine A1 (by decide +kernel) ?_
   walk_at "r"
   refine Af qa rfl ?_
   walk_at "r"
   refine Cj (by decide +kernel) ?_
   walk_at "r"
   intro a1 d1 h1 h2 h3
   exact q _ _ (Same.made h1 h2 h3) ⟨a1,d1,[],rfl,Ag,rfl⟩
  | fill t =>
   obtain ⟨v,qa,hv⟩:=hs
   obtain ⟨⟨ok,sz,dp⟩,hng⟩:=hg
   walk_at "r"
   refine Af qa rfl ?_
   walk_at "r"
   refine A1 (by decide +kernel) ?_
   walk_at "r"
   refine Af qa rfl ?_
   walk_at "r"
   refine Cj (by decide +kernel) ?_
   walk_at "r"
   unfold Jz
   walk_at "r"
   refine Af qa rfl ?_
   walk_at "r"
   intro a1 d1 h1 h2 h3
   have s3:=Same.made (C:=c.f) (fs:=[]) h1 h2 h3
   refine ⟨a1,d1,v,t,rfl,Ag,hv.same s3,ok,by omega,hng,fun H4 sb e4=>⟨rfl,?_⟩⟩
   have s4:=sb.made h1 h2
   exact q _ _ s4 ⟨a1,d1,_,rfl,e4,v,rfl,hv.same s4⟩
  | wrap w n nt k i =>
   obtain ⟨nv,qa,hn⟩:=hs
   obtain ⟨⟨hdn,hnb⟩,hk,hik⟩:=hg
   have hnt:=IsN.nt hn hdn
   have hw:=(Ha hk).2.2.2.2
   have k3:=Ls hk
   have key:∀ H1,Same H H1->∀ x dx,H1 x=none->H1 dx=none->dx≠x->F5 K c ag [.ref x,.str w,nv,.int (i:Nat)] (upd (upd H1 dx (.own x)) x (.ins c.w dx [])) (fun v H3=>v=.non/\Q (.ref x) H3) E0:=by
    intro H1 s1 a1 d1 h1 h2 h3
    have s3:=Same.made (C:=c.w) (fs:=[]) h1 h2 h3
    have s13:=s1.trans s3
    refine ⟨a1,d1,w,nv,nt,k,i,rfl,Ag,⟨_,.str _ (by omega)⟩,hnt.same s13,hk,hnb,hik,⟨n,hn.same s13.t⟩,fun r H4 sb e4 hb4=>⟨rfl,?_⟩⟩
    have s4:=s1.trans (sb.made h1 h2)
    exact q _ _ s4 ⟨a1,d1,_,rfl,e4,.ref r,rfl,hb4.tr GA (hn.same s4.t),by show i < (Oy k gapT).length;rw [P4];exact hik,by show (Oy k gapT).length<=3;rw [P4];exact k3⟩
   walk_at "r"
   refine Af qa rfl ?_
   walk_at "r"
   refine A1 (by decide +kernel) ?_
   walk_at "r"
   refine Af qa rfl ?_
   walk_at "r"
   refine A1 (by decide +kernel) ?_
   walk_at "r"
   refine Af qa rfl ?_
   walk_at "r"
   refine A1 (by decide +kernel) ?_
   walk_at "r"
   refine Af qa rfl ?_
   walk_at "r"
   refine Cj (by decide +kernel) ?_
   walk_at "r"
   refine Af qa rfl ?_
   walk_at "r"
   refine A0 (fun h=>?_) (fun h=>?_)
   ·have h:=of_decide_eq_true h
    subst h
    walk_at "r"
    unfold Eu
    walk_at "r"
    refine Af qa rfl ?_
    walk_at "r"
    refine Af qa rfl ?_
    walk_at "r"
    exact key H (Same.refl _)
   walk_at "r"
   refine Af qa rfl ?_
   walk_at "r"
   refine A0 (fun h=>?_) (fun h=>?_)
   ·have h:=of_decide_eq_true h
    injection h with h
    obtain rfl:i=0:=by omega
    walk_at "r"
    unfold Eu
    walk_at "r"
    refine Af qa rfl ?_
    walk_at "r"
    refine Af qa rfl ?_
    walk_at "r"
    exact key H (Same.refl _)
   ·walk_at "r"
    unfold Eu
    walk_at "r"
    refine Af qa rfl ?_
    walk_at "r"
    refine Af qa rfl ?_
    walk_at "r"
    refine Af qa rfl ?_
    walk_at "r"
    exact key H (Same.refl _)
  | keep i =>
   have qa:=hs
   have key:∀ x dx,H x=none->H dx=none->dx≠x->Fi K c [.ref x,.int i] (upd (upd H dx (.own x)) x (.ins c.k dx [])) (fun v H3=>v=.non/\Q (.ref x) H3) E0:=by
    intro a1 d1 h1 h2 h3
    refine ⟨a1,d1,_,rfl,Ag,rfl,?_⟩
    refine q _ _ ((Same.made h1 h2 h3).over h1) ⟨a1,d1,_,rfl,Ag,rfl⟩
   walk_at "r"
   refine Af qa rfl ?_
   walk_at "r"
   refine A1 (by decide +kernel) ?_
   walk_at "r"
   refine Af qa rfl ?_
   walk_at "r"
   refine A1 (by decide +kernel) ?_
   walk_at "r"
   refine Af qa rfl ?_
   walk_at "r"
   refine A1 (by decide +kernel) ?_
   walk_at "r"
   refine Af qa rfl ?_
   walk_at "r"
   refine A1 (by decide +kernel) ?_
   walk_at "r"
   refine Af qa rfl ?_
   walk_at "r"
   refine Cj (by decide +kernel) ?_
   walk_at "r"
   refine Af qa rfl ?_
   walk_at "r"
   refine A0 (fun h=>?_) (fun h=>?_)
   ·have h:=of_decide_eq_true h
    injection h with h
    subst h
    walk_at "r"
    unfold Eu
    walk_at "r"
    exact key
   walk_at "r"
   refine Af qa rfl ?_
   walk_at "r"
   refine A0 (fun h=>?_) (fun h=>?_)
   ·walk_at "r"
    unfold Eu
    walk_at "r"
    refine Af qa rfl ?_
    walk_at "r"
    exact key
   ·walk_at "r"
    unfold Eu
    walk_at "r"
    refine Af qa rfl ?_
    walk_at "r"
    exact key
  | note n nt w =>
   obtain ⟨nv,qa,hn⟩:=hs
   walk_at "r"
   refine Af qa rfl ?_
   walk_at "r"
   refine A1 (by decide +kernel) ?_
   walk_at "r"
   refine Af qa rfl ?_
   walk_at "r"
   refine A1 (by decide +kernel) ?_
   walk_at "r"
   refine Af qa rfl ?_
   walk_at "r"
   refine A1 (by decide +kernel) ?_
   walk_at "r"
   refine Af qa rfl ?_
   walk_at "r"
   refine A1 (by decide +kernel) ?_
   walk_at "r"
   refine Af qa rfl ?_
   walk_at "r"
   refine A1 (by decide +kernel) ?_
   walk_at "r"
   refine Af qa rfl ?_
   walk_at "r"
   refine Cj (by decide +kernel) ?_
   walk_at "r"
   unfold Jz
   walk_at "r"
   refine Af qa rfl ?_
   walk_at "r"
   intro a1 d1 h1 h2 h3
   refine ⟨a1,d1,_,rfl,Ag,rfl,?_⟩
   have s4:=(Same.made (C:=c.n) (fs:=[]) h1 h2 h3).over (o:=.ins c.n d1 [("note",nv)]) h1
   exact q _ _ s4 ⟨a1,d1,_,rfl,Ag,nv,rfl,hn.same s4.t,hg.1⟩
  | chg t =>
   obtain ⟨v,qa,hv⟩:=hs
   obtain ⟨ok,sz,dp⟩:=hg
   walk_at "r"
   refine Af qa rfl ?_
   walk_at "r"
   refine A1 (by decide +kernel) ?_
   walk_at "r"
   refine Af qa rfl ?_
   walk_at "r"
   refine A1 (by decide +kernel) ?_
   walk_at "r"
   refine Af qa rfl ?_
   walk_at "r"
   refine A1 (by decide +kernel) ?_
   walk_at "r"
   refine Af qa rfl ?_
   walk_at "r"
   refine A1 (by decide +kernel) ?_
   walk_at "r"
   refine Af qa rfl ?_
   walk_at "r"
   refine A1 (by decide +kernel) ?_
   walk_at "r"
   refine Af qa rfl ?_
   walk_at "r"
   refine A1 (by decide +kernel) ?_
   walk_at "r"
   refine Af qa rfl ?_
   walk_at "r"
   refine Cj (by decide +kernel) ?_
   walk_at "r"
   unfold Jz
   walk_at "r"
   refine Af qa rfl ?_
   walk_at "r"
   intro a1 d1 h1 h2 h3
   have s3:=Same.made (C:=c.g) (fs:=[]) h1 h2 h3
   refine ⟨a1,d1,v,t,rfl,Ag,hv.same s3,ok,by omega,fun H4 sb e4=>⟨rfl,?_⟩⟩
   have s4:=sb.made h1 h2
   exact q _ _ s4 ⟨a1,d1,_,rfl,e4,v,rfl,hv.same s4⟩
  | deed =>
   have qa:=hs
   walk_at "r"
   refine Af qa rfl ?_
   walk_at "r"
   refine A1 (by decide +kernel) ?_
   walk_at "r"
   refine Af qa rfl ?_
   walk_at "r"
   refine A1 (by decide +kernel) ?_
   walk_at "r"
   refine Af qa rfl ?_
   walk_at "r"
   refine A1 (by decide +kernel) ?_
   walk_at "r"
   refine Af qa rfl ?_
   walk_at "r"
   refine A1 (by decide +kernel) ?_
   walk_at "r"
   refine Af qa rfl ?_
   walk_at "r"
   refine A1 (by decide +kernel) ?_
   walk_at "r"
   refine Af qa rfl ?_
   walk_at "r"
   refine A1 (by decide +kernel) ?_
   walk_at "r"
   refine Af qa rfl ?_
   walk_at "r"
   refine A1 (by decide +kernel) ?_
   walk_at "r"
   intro a1 d1 h1 h2 h3
   exact q _ _ (Same.made h1 h2 h3) ⟨a1,d1,[],rfl,Ag,rfl⟩
noncomputable def Zcn (K:On)(ND:Addr):Sp:=fun vs H Q _=>∃(a:Addr),vs=[.ref a]/\H a=some (Fw a (.ref ND) none)/\∀(p:Addr)(H':Hp),Same H H'->H' p=some (.lst [.bl true,.str "deed"])->Q (.ref p) H'
theorem Zg5:Aw ["_law_e", "_law_found"] ["_law_e"] (Aj Jm):=by walk_at "sc"
theorem Zgs {K:On}{C:Addr}:O0 K (.ref C) (.ref C)=some true:=by unfold O0;rw [if_pos (by simp)]
structure KdC (K:On)(mg:Str->Option Value)(NF ND NP:Addr):Prop where
 nD:ExN K ND
 gF:mg "NoForm" = some (.ref NF)
 gD:mg "NoDeed" = some (.ref ND)
 gP:mg "NoPlace" = some (.ref NP)
 vD:O0 K (.ref ND) (.type "ValueError")=some true
 dF:O0 K (.ref ND) (.ref NF)=some false
 dP:O0 K (.ref ND) (.ref NP)=some false
theorem Zu6 {N_NoForm N_NoDeed N_NoPlace:Addr}{f:Addr}{fd:FuncData}(F:Fun K "_law_class" "_law_class" Jm f fd)(T:Txt K mg)(D:KdC K mg N_NoForm N_NoDeed N_NoPlace):Iv P w K mg base 1 f fd ["_law_e"] (Zcn K N_NoDeed):=by
 have G_NoForm:=D.gF
 have G_NoDeed:=D.gD
 have G_NoPlace:=D.gP
 refine F.okN Zg5 (fun vs H Q E h=>?_) (fun cdv A outer s H vs Q E hr h=>?_)
 ·obtain ⟨a,rfl,_⟩:=h
  rfl
 ·obtain ⟨a,rfl,e,q⟩:=h
  obtain ⟨od,eo⟩:∃ od:Option Addr,od=none:=⟨_,rfl⟩
  rw [<- eo] at e
  have hd:∀ d,od=some d->∃ fs,H d=some (.xd fs):=fun d h=>by rw [eo] at h;cases h
  refine ⟨_,Ae (Az 1 Zg5 (B6 (Aa (A8 (Zvf (K:=K) "ValueError") (by rfl) T.isinstance (by decide +kernel) (Aa (qv 0) (Aa (D7 (v:=.ty "ValueError") (by rfl) T.ValueError (by decide +kernel) rfl) Ab))) Ab)))
   (Ae (Aq (Bu (A8 (Zb8 (K:=K)) (by rfl) T.isinstance (by decide +kernel) (Aa (qv 0) (Aa (K6 (v:=.ref N_NoForm) (by rfl) G_NoForm rfl) Ab)))) (Ad (Cc (Ea K Ps Qw Qx E1 (qv 1) (Aa Ao Ab)))) Ar)
   (Ae (Aq (Bu (A8 (Zb8 (K:=K)) (by rfl) T.isinstance (by decide +kernel) (Aa (qv 0) (Aa (K6 (v:=.ref N_NoDeed) (by rfl) G_NoDeed rfl) Ab)))) (Ad (Cc (Ea K Ps Qw Qx E1 (qv 1) (Aa Ao Ab)))) Ar)
   (Ae (Aq (Bu (A8 (Zb8 (K:=K)) (by rfl) T.isinstance (by decide +kernel) (Aa (qv 0) (Aa (K6 (v:=.ref N_NoPlace) (by rfl) G_NoPlace rfl) Ab)))) (Ad (Cc (Ea K Ps Qw Qx E1 (qv 1) (Aa Ao Ab)))) Ar)
   (Ad (Ah (qv 1)))))),?_⟩
  walk_at "r"
  refine ⟨a,_,od,_,rfl,e,hd,D.nD,D.vD,?_⟩
  walk_at "r"
  refine ⟨Cu,fun p hp=>?_⟩
  have s1:=Same.upd (o:=.lst [.bl true]) hp
  have e1:upd H p (.lst [.bl true]) p=some (.lst [.bl true]):=Ag
  have q1:∀(H':Hp),Same H H'->H' p=some (.lst [.bl true,.str "deed"])->Q (.ref p) H':=fun H' h=>q p H' h
  have hd1:∀ d,od=some d->∃ fs,upd H p (.lst [.bl true]) d=some (.xd fs):=fun d h=>by obtain ⟨fs,z⟩:=hd d h;exact ⟨fs,s1 _ _ z⟩
  walk_at "r"
  refine ⟨a,_,_,od,false,rfl,s1 _ _ e,hd1,D.nD,D.dF,?_⟩
  walk_at "r"
  refine ⟨a,_,_,od,true,rfl,s1 _ _ e,hd1,D.nD,Zgs,?_⟩
  walk_at "r"
  refine Dg (SqL.of e1) ?_
  walk_at "r"
  refine G8 e1 (by decide) ?_
  have s2:Same H (upd (upd H p (.lst [.bl true])) p (.lst ([.bl true]++[.str "deed"]))):=s1.over hp
  have hd2:∀ d,od=some d->∃ fs,upd (upd H p (.lst [.bl true])) p (.lst ([.bl true]++[.str "deed"])) d=some (.xd fs):=fun d h=>by obtain ⟨fs,z⟩:=hd d h;exact ⟨fs,s2 _ _ z⟩
  walk_at "r"
  refine ⟨a,_,_,od,false,rfl,s2 _ _ e,hd2,D.nD,D.dP,?_⟩
  walk_at "r"
  exact q1 _ s2 Ag
noncomputable def Told (H:Hp)(v:V):Prop:=∃ p,v=.ref p/\H p=some (.lst [.bl true,.str "deed"])
theorem Told.same {H H':Hp}{v:V}(h:Told H v)(e:Same H H'):Told H' v:=by
 obtain ⟨p,h1,h2⟩:=h
 exact ⟨p,h1,e _ _ h2⟩
noncomputable def noD:Dt:=.lst [.flat (.bl true),.flat (.str "deed")]
theorem Ia {K:On}{H:Hp}{p:Addr}{n:Nat}(h:H p=some (.lst [.bl true,.str "deed"])):IsD K H (n+1) (.ref p) noD:=by
 refine .lst (SqL.of h) rfl fun j v d h1 h2=>?_
 match j,h1,h2 with
 | 0,h1,h2=>cases h1;cases h2;exact .flat rfl
 | 1,h1,h2=>cases h1;cases h2;exact .flat rfl
noncomputable def Lm (K:On)(c:Cs):Sp:=fun vs H Q _=>∃ x d y t,vs=[x,y]/\DdAt K c H x d/\TrAt K H y t/\TrOk t/\(∀ u,Bb t d=some u->∀ v H',Same H H'->TrAt K H' v u->Q v H')/\(Bb t d=none->∀ v H',Same H H'->Told H' v->Q v H')
theorem sc_law_done:Aw ["_law_deed", "_law_form_here", "_law_told", "_law_e"] ["_law_deed", "_law_form_here"] (Aj Ma):=by walk_at "sc"
theorem Zsm {c:Cs}{N_NoDeed N_GapError:Addr}{f:Addr}{fd:FuncData}(F:Fun K "_law_done" "_law_done" Ma f fd)(T:Txt K mg)(M:∀ d:Dd,Co (A4 P w) P w K mg base 7 (d.cls c) "done" ["self", "form"] (C1 K c N_NoDeed (d.cls c)))(C__law_class:Lz P w K mg base 1 "_law_class" ["_law_e"] (Zcn K N_NoDeed))
  (X_GapError:Mo K N_GapError) (G_GapError:mg "GapError" = some (.ref N_GapError)) (hsub:Pe K (.ref N_NoDeed) (.ref N_GapError)=some true):FnOk P w K mg base An 8 f fd ["_law_deed", "_law_form_here"] (Lm K c):=by
 refine F.okq sc_law_done (fun vs H Q E h=>?_) (fun cdv A outer s H vs Q E hr h=>?_)
 ·obtain ⟨x,d,y,t,rfl,_⟩:=h
  rfl
 ·obtain ⟨x,d,y,t,rfl,hx,hy,oky,q,e⟩:=h
  have hx':=hx
  obtain ⟨a,dx,fs,rfl,ha,hfs⟩:=hx
  refine ⟨_,Ae (Az 2 sc_law_done D4)
   (Ae (Zf7 (i:=3) sc_law_done.nd rfl rfl X_GapError G_GapError rfl rfl (Zio (i:=2) sc_law_done.nd rfl (Or.inl rfl) (Zg4 (k:=7) K ["self", "form"] (fun _=>qv 0) hr.m (fun _=>Aa (qv 1) Ab))) (fun _ _=>Ad (Az 2 sc_law_done (Zh7 C__law_class (RoomN.mark (RoomN.mono (Room.n hr) (by decide)) _) (Aa (qv 3) Ab)))))
   (Ad (Ah (qv 2)))),?_⟩
  walk_at "r"
  refine ⟨_,rfl,a,d.cls c,dx,_,_,rfl,ha,hfs.nd,M d,?_⟩
  refine ⟨_,rfl,?_⟩
  refine ⟨_,d,y,t,rfl,hx',rfl,hy,oky,fun u hv v H1 s1 tv=>?_,fun hv H0 s0=>⟨⟨N_NoDeed,rfl,hsub⟩,fun a1 ha1=>?_⟩⟩
  ·walk_at "r"
   exact q u hv v H1 s1 tv
  ·walk_at "r"
   refine ⟨a1,rfl,Ag,fun p1 H1 s1 f1=>?_⟩
   walk_at "r"
   dsimp only [Ends.gone]
   walk_at "r"
   exact e hv _ _ (s0.trans ((Same.upd ha1).trans s1)) ⟨p1,rfl,f1⟩
noncomputable def N7 (K:On)(c:Cs):Sp:=fun vs H Q _=>∃ x d y t,vs=[x,y]/\DdAt K c H x d/\TrAt K H y t/\TrOk t/\t.size<=1000/\(∀ u,Bb t d=some u->∀ x' H',Same H H'->DdAt K c H' x' (Dk t d)->Q x' H')/\(Bb t d=none->∀ v H',Same H H'->Told H' v->Q v H')
theorem sc_law_back:Aw ["_law_deed", "_law_form_here", "_law_told", "_law_e"] ["_law_deed", "_law_form_here"] (Aj Ll):=by walk_at "sc"
theorem Ztl {c:Cs}{N_NoDeed N_GapError:Addr}{f:Addr}{fd:FuncData}(F:Fun K "_law_back" "_law_back" Ll f fd)(T:Txt K mg)(M:∀ d:Dd,Co (A4 P w) P w K mg base 9 (d.cls c) "back" ["self", "form"] (Ev K c N_NoDeed (d.cls c)))(C__law_class:Lz P w K mg base 1 "_law_class" ["_law_e"] (Zcn K N_NoDeed))
  (X_GapError:Mo K N_GapError) (G_GapError:mg "GapError" = some (.ref N_GapError)) (hsub:Pe K (.ref N_NoDeed) (.ref N_GapError)=some true):FnOk P w K mg base An 10 f fd ["_law_deed", "_law_form_here"] (N7 K c):=by
 refine F.okq sc_law_back (fun vs H Q E h=>?_) (fun cdv A outer s H vs Q E hr h=>?_)
 ·obtain ⟨x,d,y,t,rfl,_⟩:=h
  rfl
 ·obtain ⟨x,d,y,t,rfl,hx,hy,oky,hz,q,e⟩:=h
  have hx':=hx
  obtain ⟨a,dx,fs,rfl,ha,hfs⟩:=hx
  refine ⟨_,Ae (Az 2 sc_law_back D4)
   (Ae (Zf7 (i:=3) sc_law_back.nd rfl rfl X_GapError G_GapError rfl rfl (Zio (i:=2) sc_law_back.nd rfl (Or.inl rfl) (Zg4 (k:=9) K ["self", "form"] (fun _=>qv 0) hr.m (fun _=>Aa (qv 1) Ab))) (fun _ _=>Ad (Az 2 sc_law_back (Zh7 C__law_class (RoomN.mark (RoomN.mono (Room.n hr) (by decide)) _) (Aa (qv 3) Ab)))))
   (Ad (Ah (qv 2)))),?_⟩
  walk_at "r"
  refine ⟨_,rfl,a,d.cls c,dx,_,_,rfl,ha,hfs.nb,M d,?_⟩
  refine ⟨_,rfl,?_⟩
  refine ⟨_,d,y,t,rfl,hx',rfl,hy,oky,hz,fun u hv v H1 s1 tv=>?_,fun hv H0 s0=>⟨⟨N_NoDeed,rfl,hsub⟩,fun a1 ha1=>?_⟩⟩
  ·walk_at "r"
   exact q u hv v H1 s1 tv
  ·walk_at "r"
   refine ⟨a1,rfl,Ag,fun p1 H1 s1 f1=>?_⟩
   walk_at "r"
   dsimp only [Ends.gone]
   walk_at "r"
   exact e hv _ _ (s0.trans ((Same.upd ha1).trans s1)) ⟨p1,rfl,f1⟩
noncomputable def BackAt (K:On)(c:Cs)(H:Hp)(x:V)(t:Tr)(d:Dd):Prop:=(∃ u,Bb t d=some u/\DdAt K c H x (Dk t d))\/(Bb t d=none/\Told H x)
noncomputable def MadeAt (K:On)(H:Hp)(x:V)(t:Tr)(d:Dd):Prop:=(∃ u,Bb t d=some u/\TrAt K H x u)\/(Bb t d=none/\Told H x)
theorem BackAt.same {K:On}{c:Cs}{H H':Hp}{x:V}{t:Tr}{d:Dd}(h:BackAt K c H x t d)(e:Same H H'):BackAt K c H' x t d:=by
 rcases h with ⟨u,h1,h2⟩ | ⟨h1,h2⟩
 ·exact .inl ⟨u,h1,h2.same e⟩
 ·exact .inr ⟨h1,h2.same e⟩
theorem MadeAt.same {K:On}{H H':Hp}{x:V}{t:Tr}{d:Dd}(h:MadeAt K H x t d)(e:Same H H'):MadeAt K H' x t d:=by
 rcases h with ⟨u,h1,h2⟩ | ⟨h1,h2⟩
 ·exact .inl ⟨u,h1,h2.same e⟩
 ·exact .inr ⟨h1,h2.same e⟩
theorem Zef {K:On}{c:Cs}{vs:List V}{H:Hp}{Q:VK}{E:XK}(h:∃ x d y t,vs=[x,y]/\DdAt K c H x d/\TrAt K H y t/\TrOk t/\∀ v H',Same H H'->MadeAt K H' v t d->Q v H'):Lm K c vs H Q E:=by
 obtain ⟨x,d,y,t,h1,h2,h3,h4,q⟩:=h
 exact ⟨x,d,y,t,h1,h2,h3,h4,fun u hu v H' s hv=>q v H' s (.inl ⟨u,hu,hv⟩),fun hn v H' s hv=>q v H' s (.inr ⟨hn,hv⟩)⟩
theorem Zgd {K:On}{c:Cs}{vs:List V}{H:Hp}{Q:VK}{E:XK}(h:∃ x d y t,vs=[x,y]/\DdAt K c H x d/\TrAt K H y t/\TrOk t/\t.size<=1000/\∀ v H',Same H H'->BackAt K c H' v t d->Q v H'):N7 K c vs H Q E:=by
 obtain ⟨x,d,y,t,h1,h2,h3,h4,h5,q⟩:=h
 exact ⟨x,d,y,t,h1,h2,h3,h4,h5,fun u hu v H' s hv=>q v H' s (.inl ⟨u,hu,hv⟩),fun hn v H' s hv=>q v H' s (.inr ⟨hn,hv⟩)⟩
noncomputable def Zi0 (K:On)(c:Cs):Sp:=fun vs H Q _=>∃ x d y t n,vs=[x,y,.int n]/\DdAt K c H x d/\TrAt K H y t/\TrOk t/\t.size<=1000/\0<=n/\n < 2/\∀(r:Addr)(xb xm:V)(H':Hp),Same H H'->SqT K H' r [xb,xm]->BackAt K c H' xb t d->MadeAt K H' xm t d->Q (.ref r) H'
theorem K0:Aw ["_law_deed", "_law_form_here", "_law_cell", "_law_back_here", "_law_made"] ["_law_deed", "_law_form_here", "_law_cell"] (Aj Ka):=by walk_at "sc"
theorem Ztm {c:Cs}{f:Addr}{fd:FuncData}(F:Fun K "_law_step" "_law_step" Ka f fd)(T:Txt K mg)(C__law_done:As P w K mg base 8 "_law_done" ["_law_deed", "_law_form_here"] (Lm K c))(C__law_back:As P w K mg base 10 "_law_back" ["_law_deed", "_law_form_here"] (N7 K c)):FnOk P w K mg base An 11 f fd ["_law_deed", "_law_form_here", "_law_cell"] (Zi0 K c):=by
 refine F.okq K0 (fun vs H Q E h=>?_) (fun cdv A outer s H vs Q E hr h=>?_)
 ·obtain ⟨x,d,y,t,n,rfl,_⟩:=h
  rfl
 ·obtain ⟨x,d,y,t,n,rfl,hx,hy,oky,hz,n0,n1,q⟩:=h
  refine ⟨_,Ae (Az 3 K0 D4)
   (Ae (Aq (Au (A5 K hr.u200) (A2 Ei (qv 2) Ac) Ac (Av _)) (Ad (Az 3 K0 (Am C__law_back hr.m (Aa (qv 0) (Aa (qv 1) Ab))))) Ar)
   (Ae (Az 4 K0 (Am C__law_done hr.m (Aa (qv 0) (Aa (qv 1) Ab))))
   (Ae (Aq (Au (A5 K hr.u200) (A2 Ei (qv 2) Ac) Ac (Av _)) (Ad (Az 3 K0 (Am C__law_back hr.m (Aa (qv 0) (Aa (qv 1) Ab))))) Ar)
   (Ad (Ah (A3 (Aa (qv 3) (Aa (qv 4) Ab)))))))),?_⟩
  obtain rfl | rfl:n=0\/n=1:=by omega
  ·walk_at "r"
   refine Cj (by decide +kernel) ?_
   walk_at "r"
   refine Zgd ⟨x,d,y,t,rfl,hx,hy,oky,hz,fun xb H1 s1 hb=>?_⟩
   walk_at "r"
   refine Zef ⟨x,d,y,t,rfl,hx.same s1,hy.same s1,oky,fun xm H2 s2 hm=>?_⟩
   walk_at "r"
   refine A1 (by decide +kernel) ?_
   walk_at "r"
   refine ⟨Bl,fun p3 h3=>?_⟩
   have s3:=Same.upd (o:=.tup [xb,xm]) h3
   exact q p3 xb xm _ (s1.trans (s2.trans s3)) (SqT.of Ag) ((hb.same s2).same s3) (hm.same s3)
  ·walk_at "r"
   refine A1 (by decide +kernel) ?_
   walk_at "r"
   refine Zef ⟨x,d,y,t,rfl,hx,hy,oky,fun xm H1 s1 hm=>?_⟩
   walk_at "r"
   refine Cj (by decide +kernel) ?_
   walk_at "r"
   refine Zgd ⟨x,d,y,t,rfl,hx.same s1,hy.same s1,oky,hz,fun xb H2 s2 hb=>?_⟩
   walk_at "r"
   refine ⟨Bl,fun p3 h3=>?_⟩
   have s3:=Same.upd (o:=.tup [xb,xm]) h3
   exact q p3 xb xm _ (s1.trans (s2.trans s3)) (SqT.of Ag) (hb.same s3) ((hm.same s2).same s3)
noncomputable def AftAt (K:On)(H:Hp)(v:V):Option Tr->Prop
 | some u=>TrAt K H v u
 | none=>v=.non
theorem AftAt.same {K:On}{H H':Hp}{v:V}{o:Option Tr}(h:AftAt K H v o)(e:Same H H'):AftAt K H' v o:=by
 cases o with
 | none=>exact h
 | some u=>exact TrAt.same h e
theorem Zfv {K:On}{vs:List V}{H:Hp}{Q:VK}{E:XK}(h:∃(a:Addr)(s:Sc)(fv:V)(t:Tr),vs=[.ref a,fv]/\ScAt K H a s/\s.good/\TrAt K H fv t/\TrOk t/\∀ v H',Same H H'->AftAt K H' v (Bb t s.dd)->Q v H'):N0 K vs H Q E:=by
 obtain ⟨a,s,fv,t,h1,h2,h3,h4,h5,q⟩:=h
 exact ⟨a,s,fv,t,h1,h2,h3,h4,h5,fun u hu v H' s1 hv=>q v H' s1 (by rw [hu];exact hv),fun hu H' s1=>q .non H' s1 (by rw [hu];rfl)⟩
noncomputable def Ze7 (K:On)(c:Cs):Sp:=fun vs H Q _=>∃(x:V)(a:Addr)(s:Sc)(o:V)(to_:Tr)(y:V)(t:Tr)(due:V),vs=[x,.ref a,o,y,due]/\DdAt K c H x s.dd/\ScAt K H a s/\s.good/\TrAt K H o to_/\TrOk to_/\TrAt K H y t/\TrOk t/\AftAt K H due (Bb t s.dd)/\A6 to_<=90/\A6 t<=90/\∀ H',Same H H'->Q (.bl true) H'
theorem sc_law_turned:Aw ["_law_deed", "_law_spec_here", "_law_other", "_law_form_here", "_law_due", "_law_there", "_law_pair", "_law_found"] ["_law_deed", "_law_spec_here", "_law_other", "_law_form_here", "_law_due"] (Aj Lu):=by walk_at "sc"
theorem Zsv {c:Cs}{f:Addr}{fd:FuncData}(F:Fun K "_law_turned" "_law_turned" Lu f fd)(T:Txt K mg)(C__law_after:As P w K mg base 2 "_law_after" ["_law_spec_here", "_law_form_here"] (N0 K))(C__law_done:As P w K mg base 8 "_law_done" ["_law_deed", "_law_form_here"] (Lm K c)):FnOk P w K mg base An 9 f fd ["_law_deed", "_law_spec_here", "_law_other", "_law_form_here", "_law_due"] (Ze7 K c):=by
 refine F.okq sc_law_turned (fun vs H Q E h=>?_) (fun cdv A outer s H vs Q E hr h=>?_)
 ·obtain ⟨x,a,s,o,to_,y,t,due,rfl,_⟩:=h
  rfl
 ·obtain ⟨x,a,sc,o,to_,y,t,due,rfl,hx,hs,hg,ho,oko,hy,okt,hd,dpo,dpt,q⟩:=h
  refine ⟨_,Ae (Az 5 sc_law_turned (Am C__law_after hr.m (Aa (qv 1) (Aa (qv 2) Ab))))
   (Ae (Dw Pw rfl (Fs K (B6 (Aa (A3 (Aa (qv 2) (Aa (qv 5) Ab))) (Aa (A3 (Aa (qv 3) (Aa (qv 4) Ab))) Ab)))) (Bc (i:=6) sc_law_turned.nd rfl (Or.inl rfl)) (Ae (Az 7 sc_law_turned (Am C__law_done hr.m (Aa (qv 0) (Aa (Ai K (qv 6) Ac) Ab))))
   (Ae (Aq (QW.qt (Es (Ij (Mg (Ai K (qv 6) Ac))) (Ey (Au (C8 K hr.u200) (qv 7) (B6 (Aa Bt (Aa Ao Ab))) (Av _))))) (Ad (Ah Bt)) Ar)
   (Ad (Aq (QW.qt (Es (Ij (Zfj (Ai K (qv 6) Ac))) (Ey (Au (C8 K hr.u200) (qv 7) (Ai K (qv 6) Ac) (Av _))))) (Ad (Ah Bt)) Ar)))))
   (Ad (Ah Bt))),?_⟩
  walk_at "r"
  refine Zfv ⟨a,sc,o,to_,rfl,hs,hg,ho,oko,fun th H1 s1 h1=>?_⟩
  walk_at "r"
  refine ⟨Bl,fun p2 h2=>?_⟩
  have s2:=Same.upd (o:=.tup [o,th]) h2
  walk_at "r"
  refine ⟨Bl,fun p3 h3=>?_⟩
  have s3:=Same.upd (o:=.tup [y,due]) h3
  walk_at "r"
  refine ⟨Bl,fun p4 h4=>?_⟩
  have s4:=Same.upd (o:=.lst [.ref p2,.ref p3]) h4
  have e4:upd (upd (upd H1 p2 (.tup [o,th])) p3 (.tup [y,due])) p4 (.lst [.ref p2,.ref p3]) p4=some (.lst [.ref p2,.ref p3]):=Ag
  have q2:SqT K (upd (upd (upd H1 p2 (.tup [o,th])) p3 (.tup [y,due])) p4 (.lst [.ref p2,.ref p3])) p2 [o,th]:=s4.tup (s3.tup (SqT.of Ag))
  have q3:SqT K (upd (upd (upd H1 p2 (.tup [o,th])) p3 (.tup [y,due])) p4 (.lst [.ref p2,.ref p3])) p3 [y,due]:=s4.tup (SqT.of Ag)
  have s14:=s2.trans (s3.trans s4)
  have h4':=h1.same s14
  revert e4 q2 q3 s14 h4'
  generalize upd (upd (upd H1 p2 (.tup [o,th])) p3 (.tup [y,due])) p4 (.lst [.ref p2,.ref p3])=H4
  intro e4 q2 q3 s14 hth
  have s04:=s1.trans s14
  have hall:∀(i:Nat)(v:V),([V.ref p2,V.ref p3]:List V)[i]?=some (v:V)->∃(p:Addr)(z u:V)(tz:Tr),v=V.ref p/\SqT K H4 p [z,u]/\TrAt K H4 z tz/\TrOk tz/\AftAt K H4 u (Bb tz sc.dd)/\A6 tz<=90:=fun i v h=>by
   match i,h with
   | 0,h=>cases h;exact ⟨p2,o,th,to_,rfl,q2,ho.same s04,oko,hth,dpo⟩
   | 1,h=>cases h;exact ⟨p3,y,due,t,rfl,q3,hy.same s04,okt,hd.same s04,dpt⟩
  have hx4:=hx.same s04
  walk_at "r"
  refine .inl ⟨p4,rfl,⟨_,SqL.of e4⟩,?_⟩
  refine Zdh (K:=K) (a:=p4) (xs:=([.ref p2,.ref p3]:List V)) (fun i σ' H'=>∃ v6 v7,σ'=[some x,some (.ref a),some o,some y,some due,some th,v6,v7]/\Same H4 H') ⟨_,_,rfl,Same.refl _⟩ ?_ ?_ ?_
  ·rintro i σ' H' _ ⟨_,_,_,sm⟩
   exact sm.seq (SqL.of e4)
  ·rintro i v σ' H' hv ⟨v6,v7,rfl,sm⟩
   obtain ⟨pp,z,u,tz,rfl,qp,hz,okz,hu,dpz⟩:=hall i v hv
   have qp':=sm.tup qp
   have hu':=hu.same sm
   walk_at "r"
   refine Af qp' rfl ?_
   walk_at "r"
   refine Zef ⟨x,sc.dd,z,tz,rfl,hx4.same sm,hz.same sm,okz,fun xm H5 s5 hm=>?_⟩
   have qp5:=s5.tup qp'
   have hu5:=hu'.same s5
   walk_at "r"
   refine Af qp5 rfl ?_
   rcases hm with ⟨g,hg2,hm⟩ | ⟨hn,pt,rfl,et⟩
   ·rw [hg2] at hu5
    obtain ⟨ua,up,un,rfl,qu⟩:=Cn hu5
    obtain ⟨ma,mp,mn,rfl,qm⟩:=Cn hm
    have dg:=(Zej hg.ok okz hg2).2.2
    walk_at "r"
    refine A1 rfl ?_
    walk_at "r"
    refine Af qp5 rfl ?_
    walk_at "r"
    refine Cj rfl ?_
    walk_at "r"
    refine Af qp5 rfl ?_
    walk_at "r"
    refine F7 (n:=190) (Oq _) (Cw hm (by omega)) (Cw hu5 (by omega)) ?_
    walk_at "r"
    exact ⟨_,_,rfl,sm.trans s5⟩
   ·rw [hn] at hu5
    obtain rfl:u=.non:=hu5
    walk_at "r"
    refine Cj rfl ?_
    walk_at "r"
    refine ⟨Bl,fun p6 h6=>?_⟩
    have s6:=Same.upd (o:=.lst [.bl true,.str "deed"]) h6
    refine F7 (n:=1) (by decide) (Ia (s6 _ _ et)) (Ia Ag) ?_
    have qp6:=s6.tup qp5
    have s56:=s5.trans s6
    revert qp6 s56
    generalize upd H5 p6 _=H6
    intro qp6 s56
    walk_at "r"
    refine Af qp6 rfl ?_
    walk_at "r"
    refine A1 rfl ?_
    walk_at "r"
    exact ⟨_,_,rfl,sm.trans s56⟩
  ·rintro σ' H' ⟨v6,v7,rfl,sm⟩
   walk_at "r"
   exact q H' (s04.trans sm)
noncomputable def Zgy (K:On)(c:Cs):Sp:=fun vs H Q _=>∃ x b y t z u,vs=[x,y,z]/\DdAt K c H x b/\b.fine/\TrAt K H y t/\TrAt K H z u/\TrOk t/\TrOk u/\u.size<=1000/\A6 t<=95/\A6 u<=95/\Bb u b=some t/\∀ H',Same H H'->Q (.bl true) H'
theorem Zi7:Aw ["_law_back_here", "_law_form_here", "_law_due", "_law_twice"] ["_law_back_here", "_law_form_here", "_law_due"] (Aj Kn):=by walk_at "sc"
theorem Znn {c:Cs}{f:Addr}{fd:FuncData}(F:Fun K "_law_good_back" "_law_good_back" Kn f fd)(T:Txt K mg)(L:Kl K mg c)(C__law_done:As P w K mg base 8 "_law_done" ["_law_deed", "_law_form_here"] (Lm K c))(C__law_back:As P w K mg base 10 "_law_back" ["_law_deed", "_law_form_here"] (N7 K c)):FnOk P w K mg base An 11 f fd ["_law_back_here", "_law_form_here", "_law_due"] (Zgy K c):=by
 refine F.okq Zi7 (fun vs H Q E h=>?_) (fun cdv A outer s H vs Q E hr h=>?_)
 ·obtain ⟨x,b,y,t,z,u,rfl,_⟩:=h
  rfl
 ·obtain ⟨x,b,y,t,z,u,rfl,hx,fb,hy,hz,okt,oku,szu,dpt,dpu,hd,q⟩:=h
  obtain ⟨N_Deed,eD⟩:∃ N,N=c.d:=⟨_,rfl⟩
  have G_Deed:mg "Deed" = some (.ref N_Deed):=by rw [eD];exact L.gd
  have kd:∀ d:Dd,O0 K (.ref (d.cls c)) (.ref N_Deed)=some true:=fun d=>by rw [eD];exact L.deed d
  have hd2:=Zdb fb oku hd
  obtain ⟨ya,yp,yn,rfl,_⟩:=Cn hy
  obtain ⟨za,zp,zn,rfl,_⟩:=Cn hz
  refine ⟨_,Ae (Aq (QW.qt (Di (B3 (Bu (A8 (Zh8 (K:=K)) (by rfl) T.isinstance (by decide +kernel) (Aa (qv 0) (Aa (K6 (v:=.ref N_Deed) (by rfl) G_Deed rfl) Ab))))) (Dx (Au (C8 K hr.u200) (Am C__law_done hr.m (Aa (qv 0) (Aa (qv 2) Ab))) (qv 1) (Av _))))) (Ad (Ah Bt)) Ar)
   (Ae (Az 3 Zi7 (Am C__law_back hr.m (Aa (qv 0) (Aa (qv 2) Ab))))
   (Ad (Ah (De (A8 (Zh8 (K:=K)) (by rfl) T.isinstance (by decide +kernel) (Aa (qv 3) (Aa (K6 (v:=.ref N_Deed) (by rfl) G_Deed rfl) Ab))) (De (Cm (A5 K hr.u200) (Am C__law_done hr.m (Aa (qv 3) (Aa (qv 1) Ab))) (qv 2) (Av _)) (Eg (Cm (A5 K hr.u200) (Am C__law_done hr.m (Aa (qv 0) (Aa (qv 2) Ab))) (qv 1) (Av _)))))))),?_⟩
  walk_at "r"
  refine Zgj (b:=true) (L.at hx) (kd b) ?_
  walk_at "r"
  refine ⟨x,b,_,u,rfl,hx,hz,oku,fun u' e' v H1 s1 hv=>?_,fun e'=>by rw [hd] at e';cases e'⟩
  rw [hd] at e'
  cases e'
  obtain ⟨va,vp,vn,rfl,_⟩:=Cn hv
  walk_at "r"
  refine F7 (n:=190) (Oq _) (Cw hv (by omega)) (Cw (hy.same s1) (by omega)) ?_
  walk_at "r"
  refine ⟨x,b,_,u,rfl,hx.same s1,hz.same s1,oku,szu,fun u' e' x2 H2 s2 hx2=>?_,fun e'=>by rw [hd] at e';cases e'⟩
  have s12:=s1.trans s2
  walk_at "r"
  refine Zgj (b:=true) (L.at hx2) (kd _) ?_
  walk_at "r"
  refine ⟨x2,_,_,t,rfl,hx2,hy.same s12,okt,fun u' e' v3 H3 s3 hv3=>?_,fun e'=>by rw [hd2] at e';cases e'⟩
  rw [hd2] at e'
  cases e'
  have s13:=s12.trans s3
  obtain ⟨va3,vp3,vn3,rfl,_⟩:=Cn hv3
  walk_at "r"
  refine Zab (n:=190) (Oq _) (Cw hv3 (by omega)) (Cw (hz.same s13) (by omega)) ?_
  walk_at "r"
  refine ⟨x,b,_,u,rfl,hx.same s13,hz.same s13,oku,fun u' e' v4 H4 s4 hv4=>?_,fun e'=>by rw [hd] at e';cases e'⟩
  rw [hd] at e'
  cases e'
  have s14:=s13.trans s4
  obtain ⟨va4,vp4,vn4,rfl,_⟩:=Cn hv4
  walk_at "r"
  refine Zab (n:=190) (Oq _) (Cw hv4 (by omega)) (Cw (hy.same s14) (by omega)) ?_
  exact q H4 s14
theorem Zso {K:On}{c:Cs}{C:Addr}(ND:Addr)(vs:List V)(H:Hp)(Q:VK)(E:XK)(h:N3 K c C vs H Q E):C1 K c ND C vs H Q E0:=by
 obtain ⟨x,d,y,t,u,h1,h2,h3,h4,h5,h6,q⟩:=h
 exact ⟨x,d,y,t,h1,h2,h3,h4,h5,(fun u' e v H' s hv=>q v H' s (by rw [h6] at e;cases e;exact hv)),fun e=>by rw [h6] at e;cases e⟩
theorem Ztj {K:On}{c:Cs}{C:Addr}(ND:Addr)(vs:List V)(H:Hp)(Q:VK)(E:XK)(h:Zcz K c C vs H Q E):Ev K c ND C vs H Q E0:=by
 obtain ⟨x,d,y,t,u,h1,h2,h3,h4,h5,hz,h6,q⟩:=h
 exact ⟨x,d,y,t,h1,h2,h3,h4,h5,hz,(fun u' e v H' s hv=>q v H' s hv),fun e=>by rw [h6] at e;cases e⟩
theorem Zb7 {α:Type}{R:V->α->Prop}:∀{vs:List V}{xs:List α},Al R vs xs->Al R vs.reverse xs.reverse
 | [],xs,h=>by
  obtain rfl:xs=[]:=R3 h.1.symm
  exact .nil
 | v::vs,[],h=>by cases h.1
 | v::vs,x::xs,h=>by
  rw [Sy,Sy]
  have t:Al R vs xs:=⟨by have:=h.1;simpa using this,fun j a b e1 e2=>h.2 (j+1) a b (by simpa using e1) (by simpa using e2)⟩
  exact (Zb7 t).snoc (h.2 0 v x rfl rfl)
noncomputable def Zho (K:On)(c:Cs):Sp:=fun vs H Q _=>∃(v v':V)(p:Addr)(t0 t:Tr)(r:Rw),vs=[v,v',.ref p]/\TrAt K H v t0/\TrAt K H v' t/\TrOk t0/\TrOk t/\t0.size<=1000/\t.size<=1000/\A6 t0<=95/\A6 t<=95/\Zi8 K c H p r/\Bk t r.reverse t0/\(∀ x∈r,x.2.fine)/\r.length<=1000/\∀ H',Q (.bl true) H'
theorem sc_law_led_back:Aw ["_law_first", "_law_tree_here", "_law_steps", "_law_row", "_law_again", "_law_here", "_law_place", "_law_back_here", "_law_form_here"] ["_law_first", "_law_tree_here", "_law_steps"] (Aj Jl):=by walk_at "sc"
theorem Zou {c:Cs}{f:Addr}{fd:FuncData}(F:Fun K "_law_led_back" "_law_led_back" Jl f fd)(T:Txt K mg)(C__law_form:As P w K mg base 1 "_law_form" ["_law_tree_here", "_law_place"] (Zc1 K))(C__law_with:As P w K mg base 2 "_law_with" ["_law_tree_here", "_law_place", "_law_form_here"] (Zbd K))(C_behind:As P w K mg base 8 "behind" ["tree", "row"] (Zia K c))(M:∀ d:Dd,Co An P w K mg base 7 (d.cls c) "done" ["self", "form"] (N3 K c (d.cls c)))(B:∀ d:Dd,Co An P w K mg base 9 (d.cls c) "back" ["self", "form"] (Zcz K c (d.cls c))):FnOk P w K mg base An 10 f fd ["_law_first", "_law_tree_here", "_law_steps"] (Zho K c):=by
 refine F.okq sc_law_led_back (fun vs H Q E h=>?_) (fun cdv A outer s H vs Q E hr h=>?_)
 ·obtain ⟨v,v',p,t0,t,r,rfl,_⟩:=h
  rfl
 ·obtain ⟨v,v',p,t0,t,r,rfl,hv,hv',ok0,okt,szf0,szt,dp0,dpt,⟨ds,ed,al⟩,hbk,hfi,hrl,q⟩:=h
  refine ⟨_,Ae (Az 3 sc_law_led_back (Zpm K (by rfl) T.list (by rfl) T.reversed (Aa (qv 2) Ab)))
   (Ae (Az 4 sc_law_led_back (B6 Ab))
   (Ae (Az 5 sc_law_led_back (qv 1))
   (Ae (Dw Pw rfl (Fs K (qv 3)) (Gn K (n:=2) rfl (C4 (Bc (i:=6) sc_law_led_back.nd rfl (Or.inl rfl)) (C4 (Bc (i:=7) sc_law_led_back.nd rfl (Or.inl rfl)) (Gx)))) (Ae (Az 8 sc_law_led_back (Am C__law_form hr.m (Aa (qv 5) (Aa (qv 6) Ab))))
   (Ae (Cc (Ea K Ps Qw Qx E1 (qv 4) (Aa (A3 (Aa (qv 6) (Aa (Gj (k:=9) K An ["self", "form"] (qv 7) hr.m Cb (Aa (qv 8) Ab)) Ab))) Ab)))
   (Ad (Az 5 sc_law_led_back (Am C__law_with hr.m (Aa (qv 5) (Aa (qv 6) (Aa (Gj (k:=7) K An ["self", "form"] (qv 7) hr.m Cb (Aa (qv 8) Ab)) Ab)))))))))
   (Ae (Aq (QW.qt (Di (Au (C8 K hr.u200) (qv 5) (qv 0) (Av _)) (Dx (Au (C8 K hr.u200) (Am C_behind hr.m (Aa (qv 1) (Aa (qv 3) Ab))) (qv 0) (Av _))))) (Ad (Ah Bt)) Ar)
   (Ae (Cc (Hz K Ps PySem.F.slot_list_reverse PySem.F.type_list_reverse Znw (qv 4)))
   (Ad (Ah (Cm (A5 K hr.u200) (Am C_behind hr.m (Aa (qv 0) (Aa (qv 4) Ab))) (qv 1) (Av _))))))))),?_⟩
  have bg:=Ce
  have hdl:ds.length=r.length:=al.1
  walk_at "r"
  refine ⟨p,ds,rfl,ed,fun S H1 hS s1 eS=>?_⟩
  walk_at "r"
  refine ⟨Ez,fun pa hpa=>?_⟩
  have nS:S≠pa:=Cq eS hpa
  have s2:=Same.upd (o:=.lst []) hpa
  have s02:=s1.trans s2
  have e2:upd H1 pa (.lst []) pa=some (.lst []):=Ag
  have eS2:=s2 _ _ eS
  have hpa0:H pa=none:=s1.free hpa
  have al2:Al (PairAt K c (upd H1 pa (.lst []))) ds.reverse r.reverse:=Zb7 (al.mono (PairAt.same s02))
  have hS2:SqL K (upd H1 pa (.lst [])) S ds.reverse:=SqL.of eS2
  revert s02 e2 eS2 al2 hS2
  generalize upd H1 pa (.lst [])=H2
  intro s02 e2 eS2 al2 hS2
  walk_at "r"
  refine .inl ⟨S,rfl,⟨_,hS2⟩,?_⟩
  refine Zdh (K:=K) (a:=S) (xs:=ds.reverse) (fun i σ' H'=>∃(v6 v7 v8:Option V)(h:V)(th:Tr)(av:List V)(ar:Rw),σ'=[some v,some v',some (.ref p),some (.ref S),some (.ref pa),some h,v6,v7,v8]/\TrAt K H' h th/\TrOk th/\th.size<=1000/\Bk th (r.reverse.drop i) t0/\H' pa=some (.lst av)/\Al (PairAt K c H') av ar/\Bk th ar.reverse t/\ar.length=i/\Same H H'/\H' S=some (.lst ds.reverse)/\Al (PairAt K c H') ds.reverse r.reverse)
   ⟨_,_,_,v',t,[],[],rfl,hv'.same s02,okt,szt,hbk,e2,.nil,.nil _,rfl,s02,eS2,al2⟩ ?_ ?_ ?_
  ·rintro i σ' H' _ ⟨_,_,_,_,_,_,_,_,_,_,_,_,_,_,_,_,_,e,_⟩
   exact SqL.of e
  ·rintro i x σ' H' hx ⟨v6,v7,v8,h,th,av,ar,rfl,hh,okh,szh,hb1,ea,ala,hb2,hal,sm,eS',al'⟩
   obtain ⟨⟨pl,d⟩,hg,hdo⟩:=al'.get hx
   have hi:=(Pa.mp hg).1
   have hdr:r.reverse.drop i=(pl,d)::r.reverse.drop (i+1):=by
    rw [Qq hi]
    rw [Ow hi] at hg
    rw [Pi hg]
   have fd_:d.fine:=hfi (pl,d) (List.mem_reverse.mp (Pd hg))
   rw [R8] at hi
   rw [hdr] at hb1
   obtain ⟨a,qp,y,rfl,qa,qq,hdd⟩:=id hdo
   obtain ⟨oa,dx,fs,rfl,ho,hfs⟩:=id hdd
   cases hb1 with
   | @ok _ f g _ _ _ _ hat hd og hz2 hs =>
   have okf:=hat.ok okh
   have hb3:=Bk.back hat hd fd_ okh szh hb2
   refine Gq qa rfl ?_
   walk_at "r"
   refine ⟨h,qp,th,f,pl,rfl,hh,qq,hat,fun fv hfv=>?_⟩
   walk_at "r"
   refine Dg (SqL.of ea) ?_
   walk_at "r"
   refine ⟨_,rfl,oa,d.cls c,dx,fs,_,rfl,ho,hfs.nb,B d,?_⟩
   walk_at "r"
   refine ⟨_,d,fv,f,g,rfl,hdd,rfl,hfv,okf.1,by omega,hd,fun x' H3 s3 hx'=>?_⟩
   walk_at "r"
   refine ⟨Bl,fun p4 h4=>?_⟩
   have s4:=Same.upd (o:=.tup [.ref qp,x']) h4
   have s34:=s3.trans s4
   have ea4:=s34 _ _ ea
   have pr4:PairAt K c (upd H3 p4 (.tup [.ref qp,x'])) (.ref p4) (pl,Dk f d):=⟨p4,qp,x',rfl,SqT.of Ag,s34.tup qq,hx'.same s4⟩
   revert s34 ea4 pr4
   generalize upd H3 p4 (.tup [.ref qp,x'])=H4
   intro s34 ea4 pr4
   walk_at "r"
   refine G8 ea4 (by have:=ala.1;omega) ?_
   have al4:Al (PairAt K c (upd H4 pa (.lst (av++[.ref p4])))) (av++[.ref p4]) (ar++[(pl,Dk f d)]):=((ala.mono (PairAt.same s34)).snoc pr4).mono (PairAt.off ea4)
   have al5:Al (PairAt K c (upd H4 pa (.lst (av++[.ref p4])))) ds.reverse r.reverse:=(al'.mono (PairAt.same s34)).mono (PairAt.off ea4)
   have t5:=s34.t.trans (SameT.set (o:=.lst (av++[.ref p4])) ea4)
   have sm5:Same H (upd H4 pa (.lst (av++[.ref p4]))):=(sm.trans s34).over hpa0
   have e5:upd H4 pa (.lst (av++[.ref p4])) pa=some (.lst (av++[.ref p4])):=Ag
   have eS5:upd H4 pa (.lst (av++[.ref p4])) S=some (.lst ds.reverse):=by rw [Ay nS];exact s34 _ _ eS'
   have hdd5:=(hdd.same s34).off (o:=.lst (av++[.ref p4])) ea4
   revert al4 al5 t5 sm5 e5 eS5 hdd5
   generalize upd H4 pa (.lst (av++[.ref p4]))=H5
   intro al4 al5 t5 sm5 e5 eS5 hdd5
   obtain ⟨oa',dx',fs',eo,ho5,hfs5⟩:=id hdd5
   cases eo
   walk_at "r"
   refine ⟨_,rfl,oa,d.cls c,dx',fs',_,rfl,ho5,hfs5.nd,M d,?_⟩
   walk_at "r"
   refine ⟨_,d,fv,f,g,rfl,hdd5,rfl,hfv.sameT t5,okf.1,hd,fun v2 H6 s6 hv2=>?_⟩
   walk_at "r"
   refine ⟨h,qp,v2,th,f,g,pl,rfl,(hh.sameT t5).same s6,szh,s6.tup (t5.tup qq),hat,hv2,fun v7 H7 s7 h7=>?_⟩
   have s67:=s6.trans s7
   walk_at "r"
   exact ⟨_,_,_,v7,_,_,ar++[(pl,Dk f d)],rfl,h7,hat.okw okh og,hz2,hs,s67 _ _ e5,al4.mono (PairAt.same s67),by rw [Ss];exact hb3,by simp [hal],sm5.trans s67,s67 _ _ eS5,al5.mono (PairAt.same s67)⟩
  ·rintro σ' H' ⟨v6,v7,v8,h,th,av,ar,rfl,hh,okh,szh,hb1,ea,ala,hb2,hal,sm,eS',al'⟩
   rw [R8,hdl,show r.reverse.drop r.length=[] from List.drop_eq_nil_of_le (by rw [R8];exact Oq _)] at hb1
   cases hb1
   obtain ⟨ha,hp_,hn_,rfl,_⟩:=Cn hh
   obtain ⟨v0,vp,vn,rfl,_⟩:=Cn hv
   obtain ⟨v1,vp1,vn1,rfl,_⟩:=Cn hv'
   walk_at "r"
   refine F7 (n:=190) (Oq _) (Cw hh (by omega)) (Cw (hv.same sm) (by omega)) ?_
   walk_at "r"
   refine ⟨_,S,t,t0,r.reverse,rfl,hv'.same sm,okt,szt,⟨_,SqL.of eS',al'⟩,hbk,fun v3 H3 s3 hv3=>?_⟩
   obtain ⟨v3a,v3p,v3n,rfl,_⟩:=Cn hv3
   walk_at "r"
   refine F7 (n:=190) (Oq _) (Cw hv3 (by omega)) (Cw ((hv.same sm).same s3) (by omega)) ?_
   walk_at "r"
   have ea3:=s3 _ _ ea
   have al3:=ala.mono (PairAt.same s3)
   refine Dg (SqL.of ea3) ?_
   refine ⟨pa,av,rfl,rfl,ea3,?_⟩
   have t4:=SameT.set (o:=.lst av.reverse) ea3
   have al4:Al (PairAt K c (upd H3 pa (.lst av.reverse))) av.reverse ar.reverse:=Zb7 (al3.mono (PairAt.off ea3))
   walk_at "r"
   refine ⟨_,pa,t0,t,ar.reverse,rfl,((hv.same sm).same s3).sameT t4,ok0,szf0,⟨_,SqL.of Ag,al4⟩,hb2,fun v5 H5 s5 hv5=>?_⟩
   obtain ⟨v5a,v5p,v5n,rfl,_⟩:=Cn hv5
   walk_at "r"
   refine Zab (n:=190) (Oq _) (Cw hv5 (by omega)) (Cw ((((hv'.same sm).same s3).sameT t4).same s5) (by omega)) ?_
   exact q _
noncomputable def dB:Dt->Bool
 | .flat (.bl _)=>true
 | _=>false
theorem Zus {K:On}{H:Hp}{v:V}{d:Dt}{nt:Nt}(h:IsN K H v d)(hd:Dm d nt):∃ t,TyN K H v t/\Cz t "bool" = dB d:=by
 rcases h with ⟨hf,rfl⟩ | ⟨a,vs,rfl,q,_,rfl⟩
 ·cases hd with
  | fl hs =>
   cases v with
   | non=>exact ⟨_,.non,rfl⟩
   | bl b=>exact ⟨_,.bl b,rfl⟩
   | int i=>exact ⟨_,.int i,rfl⟩
   | str z=>exact ⟨_,.str z hs,rfl⟩
   | _=>cases hf
 ·exact ⟨_,.tup q,rfl⟩
theorem Ziy {K:On}{H:Hp}{v:V}{t:Tr}(h:TrAt K H v t)(ok:TrOk t):∃(a p:Addr)(n:V)(ty:String),v=.ref a/\SqT K H a [.str t.wd,n,.ref p]/\TyN K H n ty/\Cz ty "bool" = dB t.note:=by
 cases h with
 | mk q hn qp l hs =>
  cases ok with
  | mk _ hd _ _ =>
   obtain ⟨ty,h1,h2⟩:=Zus hn hd
   exact ⟨_,_,_,ty,rfl,q,h1,h2⟩
theorem Told.sameB {H H':Hp}{v:V}{b:Addr}(h:Told H v)(e:SameB b H H')(hb:BoxAt H b):Told H' v:=by
 obtain ⟨p,h1,h2⟩:=h
 refine ⟨p,h1,e _ _ (fun z=>?_) h2⟩
 obtain ⟨i,j,h3,_⟩:=hb
 rw [z,h3] at h2
 injection h2 with h2
 injection h2 with h2
 injection h2 with h2
 cases h2
theorem BackAt.sameB {K:On}{c:Cs}{H H':Hp}{x:V}{t:Tr}{d:Dd}{b:Addr}(h:BackAt K c H x t d)(e:SameB b H H')(hb:BoxAt H b):BackAt K c H' x t d:=by
 rcases h with ⟨u,h1,h2⟩ | ⟨h1,h2⟩
 ·exact .inl ⟨u,h1,h2.sameB e hb⟩
 ·exact .inr ⟨h1,h2.sameB e hb⟩
theorem MadeAt.sameB {K:On}{H H':Hp}{x:V}{t:Tr}{d:Dd}{b:Addr}(h:MadeAt K H x t d)(e:SameB b H H')(hb:BoxAt H b):MadeAt K H' x t d:=by
 rcases h with ⟨u,h1,h2⟩ | ⟨h1,h2⟩
 ·exact .inl ⟨u,h1,h2.sameT (e.t hb)⟩
 ·exact .inr ⟨h1,h2.sameB e hb⟩
theorem AftAt.sameT {K:On}{H H':Hp}{v:V}{o:Option Tr}(h:AftAt K H v o)(e:SameT H H'):AftAt K H' v o:=by
 cases o with
 | none=>exact h
 | some u=>exact TrAt.sameT h e
theorem At.dp {t u:Tr}{pl:List Nat}(h:At t pl u):A6 u<=A6 t:=by
 induction h with
 | nil t=>exact Oq _
 | cons e _ ih=>have:=Nu e;rw [Ej];omega
noncomputable def Zg6 (K:On):Sp:=fun vs H Q _=>∃(v:V)(b p:Addr)(t:Tr),vs=[v,.ref b,.ref p]/\TrAt K H v t/\TrOk t/\t.size<=51/\A6 t<=21/\BoxAt H b/\PoolAt H p/\p≠b/\∀ H',Q (.bl true) H'
theorem sc_law_all:Aw ["_law_first", "_law_box_here", "_law_pool", "_law_tree_here", "_law_steps", "_law_j", "_law_place", "_law_form_here", "_law_spec_here", "_law_due", "_law_deed", "_law_back_here", "_law_made"] ["_law_first", "_law_box_here", "_law_pool"] (Aj Jk):=by walk_at "sc"
theorem Zs1 {c:Cs}{f:Addr}{fd:FuncData}(F:Fun K "_law_all" "_law_all" Jk f fd)(T:Txt K mg)(C__law_digit:As P w K mg base 1 "_law_digit" ["_law_box_here", "_law_many_here"] E2)(C__law_picked:As P w K mg base 2 "_law_picked" ["_law_box_here", "_law_tree_here"] (Zgh K))(C__law_spec:As P w K mg base 8 "_law_spec" ["_law_box_here", "_law_form_here", "_law_pool"] (Zem K))(C__law_after:As P w K mg base 2 "_law_after" ["_law_spec_here", "_law_form_here"] (N0 K))(C__law_make:As P w K mg base 9 "_law_make" ["_law_spec_here"] (Zgl K c))(C__law_step:As P w K mg base 11 "_law_step" ["_law_deed", "_law_form_here", "_law_cell"] (Zi0 K c))(C__law_turned:As P w K mg base 9 "_law_turned" ["_law_deed", "_law_spec_here", "_law_other", "_law_form_here", "_law_due"] (Ze7 K c))(C__law_good_back:As P w K mg base 11 "_law_good_back" ["_law_back_here", "_law_form_here", "_law_due"] (Zgy K c))(C__law_with:As P w K mg base 2 "_law_with" ["_law_tree_here", "_law_place", "_law_form_here"] (Zbd K))(C__law_led_back:As P w K mg base 10 "_law_led_back" ["_law_first", "_law_tree_here", "_law_steps"] (Zho K c)):FnOk P w K mg base An 12 f fd ["_law_first", "_law_box_here", "_law_pool"] (Zg6 K):=by
 refine F.okq sc_law_all (fun vs H Q E h=>?_) (fun cdv A outer s H vs Q E hr h=>?_)
 ·obtain ⟨v,b,p,t,rfl,_⟩:=h
  rfl
 ·obtain ⟨v,b,p,t,rfl,hv,okt,szt,dpt,hb,hp,np,q⟩:=h
  refine ⟨_,Ae (Az 3 sc_law_all (qv 0))
   (Ae (Az 4 sc_law_all (B6 Ab))
   (Ae (Dw Pw rfl (Fh rfl T.range (Aa (Am C__law_digit hr.m (Aa (qv 1) (Aa Ac Ab))) Ab)) (Bc (i:=5) sc_law_all.nd rfl (Or.inl rfl)) (Ae (G2 (Am C__law_picked hr.m (Aa (qv 1) (Aa (qv 3) Ab))) (Gn K (n:=2) rfl (C4 (Bc (i:=6) sc_law_all.nd rfl (Or.inl rfl)) (C4 (Bc (i:=7) sc_law_all.nd rfl (Or.inl rfl)) (Gx)))))
   (Ae (Az 8 sc_law_all (Am C__law_spec hr.m (Aa (qv 1) (Aa (qv 7) (Aa (qv 2) Ab)))))
   (Ae (Az 9 sc_law_all (Am C__law_after hr.m (Aa (qv 8) (Aa (qv 7) Ab))))
   (Ae (Az 10 sc_law_all (Am C__law_make hr.m (Aa (qv 8) Ab)))
   (Ae (G2 (Am C__law_step hr.m (Aa (qv 10) (Aa (qv 7) (Aa (Am C__law_digit hr.m (Aa (qv 1) (Aa Ac Ab))) Ab)))) (Gn K (n:=2) rfl (C4 (Bc (i:=11) sc_law_all.nd rfl (Or.inl rfl)) (C4 (Bc (i:=12) sc_law_all.nd rfl (Or.inl rfl)) (Gx)))))
   (Ae (Aq (B3 (Bu (Am C__law_turned hr.m (Aa (qv 10) (Aa (qv 8) (Aa (Ai K (Am C__law_picked hr.m (Aa (qv 1) (Aa (qv 3) Ab))) Ac) (Aa (qv 7) (Aa (qv 9) Ab)))))))) (Ad (Ah Bt)) Ar)
   (Ae (Aq (QW.qt (Es (Ij (Mg (qv 9))) (Ey (QW.qt (Di (Au (C8 K hr.u200) (qv 11) (B6 (Aa Bt (Aa Ao Ab))) (Av _)) (Dx (Au (C8 K hr.u200) (qv 12) (B6 (Aa Bt (Aa Ao Ab))) (Av _)))))))) (Ad (Ah Bt)) Ar)
   (Ad (Aq (Ij (Zfj (qv 9))) (Ae (Aq (QW.qt (Di (B3 (Bu (A8 (Ew K "tuple") (by rfl) T.isinstance (by decide +kernel) (Aa (qv 12) (Aa (D7 (v:=.ty "tuple") (by rfl) T.tuple (by decide +kernel) rfl) Ab))))) (Di (Au (C8 K hr.u200) (qv 12) (qv 9) (Av _)) (Dx (B3 (Bu (Am C__law_good_back hr.m (Aa (qv 11) (Aa (qv 7) (Aa (qv 9) Ab)))))))))) (Ad (Ah Bt)) Ar)
   (Ae (Aq (Au (C8 K hr.u200) (A8 (Ew K "bool") (by rfl) T.isinstance (by decide +kernel) (Aa (Ai K (qv 12) Ac) (Aa (D7 (v:=.ty "bool") (by rfl) T.bool (by decide +kernel) rfl) Ab))) (A8 (Ew K "bool") (by rfl) T.isinstance (by decide +kernel) (Aa (Ai K (qv 9) Ac) (Aa (D7 (v:=.ty "bool") (by rfl) T.bool (by decide +kernel) rfl) Ab))) (Av _)) (Ad (Ah Bt)) Ar)
   (Ae (Cc (Ea K Ps Qw Qx E1 (qv 4) (Aa (A3 (Aa (qv 6) (Aa (qv 11) Ab))) Ab)))
   (Ad (Az 3 sc_law_all (Am C__law_with hr.m (Aa (qv 3) (Aa (qv 6) (Aa (qv 9) Ab))))))))) Ar))))))))))
   (Ad (Ah (Am C__law_led_back hr.m (Aa (qv 0) (Aa (qv 3) (Aa (qv 4) Ab)))))))),?_⟩
  have bg:=Ce
  walk_at "r"
  refine ⟨Ez,fun ps hps=>?_⟩
  have nps:=hb.ne hps
  have s0:=Same.upd (o:=.lst []) hps
  have e0:upd H ps (.lst []) ps=some (.lst []):=Ag
  revert s0 e0
  generalize upd H ps (.lst [])=H0
  intro s0 e0
  walk_at "r"
  refine ⟨b,17,rfl,hb.same s0,by decide,by decide,fun m H1 s1 b1 m0 m1=>?_⟩
  walk_at "r"
  refine ⟨by omega,by omega,?_⟩
  refine Zbq (n:=m.toNat) (fun i σ' H'=>∃(w5 w6 w7 w8 w9 wa wb wc:Option V)(h:V)(th:Tr)(sv:List V)(r:Rw),σ'=[some v,some (.ref b),some (.ref p),some h,some (.ref ps),w5,w6,w7,w8,w9,wa,wb,wc]/\TrAt K H' h th/\TrOk th/\th.size<=51+11 * i/\A6 th<=21+4 * i/\H' ps=some (.lst sv)/\Al (PairAt K c H') sv r/\Bk th r.reverse t/\(∀ x∈r,x.2.fine)/\r.length<=i/\BoxAt H' b/\SameB b H H')
   ⟨_,_,_,_,_,_,_,_,v,t,[],[],rfl,(hv.same s0).sameT (s1.t (hb.same s0)),okt,by omega,by omega,s1 _ _ nps e0,.nil,.nil _,(fun x hx=>nomatch hx),by simp,b1,(s0.b b).trans s1⟩ ?_ ?_
  ·rintro i σ' H2 hi ⟨w5,w6,w7,w8,w9,wa,wb,wc,h,th,sv,r,rfl,hh,okh,szh,dph,es,als,hbk,hfi,hrl,b2,sb2⟩
   walk_at "r"
   refine ⟨b,h,th,rfl,b2,hh,by omega,fun row x H3 s3 b3 hrow hat=>?_⟩
   obtain ⟨pl,fx⟩:=x
   obtain ⟨ra,pp,fv,rfl,qa,qp,hf⟩:=hrow
   have okf:TrOk fx:=(hat.ok okh).1
   have szf:fx.size<=th.size:=(hat.ok okh).2
   have dpf:A6 fx<=A6 th:=hat.dp
   have hh3:=hh.sameT (s3.t b2)
   have als3:=als.mono (PairAt.sameB s3 b2)
   have es3:=s3 _ _ nps es
   have sb3:=sb2.trans s3
   refine Gq qa rfl ?_
   walk_at "r"
   refine ⟨b,fv,fx,p,rfl,b3,hf,okf,hp.sameB np sb3,np,fun a sc H4 s4 b4 hs hg=>?_⟩
   have t34:=s4.t b3
   have als4:=als3.mono (PairAt.sameB s4 b3)
   have es4:=s4 _ _ nps es3
   have sb4:=sb3.trans s4
   have hh4:=hh3.sameT t34
   have hf4:=hf.sameT t34
   have qp4:=t34.tup qp
   clear hh3 als3 es3 sb3 hf qp s3 s4 t34 qa
   walk_at "r"
   refine Zfv ⟨a,sc,fv,fx,rfl,hs,hg,hf4,okf,fun due H5 s5 hdue=>?_⟩
   walk_at "r"
   refine ⟨a,sc,rfl,hs.same s5.t,hg,fun xd H6 s6 hxd=>?_⟩
   have s46:=s5.trans s6
   walk_at "r"
   refine ⟨b,2,rfl,b4.same s46,by decide,by decide,fun e H7 s7 b7 e0 e1=>?_⟩
   have s47:=(s46.b b).trans s7
   have t47:=s46.t.trans (s7.t (b4.same s46))
   have hxd7:=hxd.sameB s7 (b4.same s46)
   walk_at "r"
   refine ⟨xd,sc.dd,fv,fx,e,rfl,hxd7,hf4.sameT t47,okf,by omega,e0,e1,fun r8 xb xm H8 s8 q8 hxb hxm=>?_⟩
   refine Gq q8 rfl ?_
   have s48:=s47.trans (s8.b b)
   have t48:=t47.trans s8.t
   have b8:=b7.same s8
   have hdue8:AftAt K H8 due (Bb fx sc.dd):=((hdue.same s6).sameT (s7.t (b4.same s46))).same s8
   have als8:=als4.mono (fun v x h=>PairAt.same s8 v x (PairAt.sameB s7 (b4.same s46) v x (PairAt.same s46 v x h)))
   have es8:=s48 _ _ nps es4
   walk_at "r"
   refine ⟨b,h,th,rfl,b8,hh4.sameT t48,by omega,fun row2 x2 H9 s9 b9 hrow2 hat2=>?_⟩
   obtain ⟨pl2,fo⟩:=x2
   obtain ⟨ra2,pp2,fv2,rfl,qa2,qp2,hf2⟩:=hrow2
   have dpo:A6 fo<=A6 th:=hat2.dp
   have oko:TrOk fo:=(hat2.ok okh).1
   have t89:=s9.t b8
   have hdue9:=hdue8.sameT t89
   have t49:=t48.trans t89
   have hxb9:BackAt K c H9 xb fx sc.dd:=hxb.sameB s9 b8
   have hxm9:MadeAt K H9 xm fx sc.dd:=hxm.sameB s9 b8
   have hxd9:=(hxd7.same s8).sameB s9 b8
   have als9:=als8.mono (PairAt.sameB s9 b8)
   have es9:=s9 _ _ nps es8
   have sb9:=sb4.trans (s48.trans s9)
   clear als8 es8 hdue8 hxd7 als4 es4 hxb hxm q8
   refine Af qa2 rfl ?_
   walk_at "r"
   refine ⟨xd,a,sc,fv2,fo,fv,fx,due,rfl,hxd9,hs.same t49,hg,hf2,oko,hf4.sameT t49,okf,hdue9,by omega,by omega,fun H10 s10=>?_⟩
   have hdue10:=hdue9.same s10
   have b10:=b9.same s10
   have t410:=t49.trans s10.t
   have als10:=als9.mono (PairAt.same s10)
   have es10:=s10 _ _ es9
   have sb10:=sb9.trans (s10.b b)
   have hxb10:=hxb9.same s10
   have hxm10:=hxm9.same s10
   clear als9 es9 hdue9 hxd9 hxb9 hxm9 qa2
   walk_at "r"
   rcases hxm10 with ⟨g,hd,hm⟩ | ⟨hn,pm,rfl,em⟩
   ·rw [hd] at hdue10
    have hdue10:TrAt K H10 due g:=hdue10
    obtain ⟨okg,szg,dpg⟩:=Zej hg.ok okf hd
    have hb10:DdAt K c H10 xb (Dk fx sc.dd):=by
     rcases hxb10 with ⟨_,_,h⟩ | ⟨h,_⟩
     ·exact h
     ·rw [hd] at h;cases h
    obtain ⟨da,dp_,dn,ty2,rfl,qd,hd1,hd2⟩:=Ziy hdue10 okg
    obtain ⟨ma,mp,mn,ty1,rfl,qm,hm1,hm2⟩:=Ziy hm okg
    refine A1 rfl ?_
    walk_at "r"
    refine Cj rfl ?_
    walk_at "r"
    refine Zd1 (b:=true) qm M4 ?_
    walk_at "r"
    refine F7 (n:=190) (Oq _) (Cw hm (by omega)) (Cw hdue10 (by omega)) ?_
    walk_at "r"
    refine ⟨xb,_,fv,fx,_,g,rfl,hb10,Zey okf hd,hf4.sameT t410,hdue10,okf,okg,by omega,by omega,by omega,Zdb hg.fine okf hd,fun H11 s11=>?_⟩
    walk_at "r"
    refine Af (s11.tup qm) rfl ?_
    walk_at "r"
    refine Fu (hm1.same s11) (by simp) ?_
    walk_at "r"
    refine Af (s11.tup qd) rfl ?_
    walk_at "r"
    refine Fu (hd1.same s11) (by simp) ?_
    walk_at "r"
    rw [hm2,hd2,decide_eq_true (Eq.refl _)]
    walk_at "r"
    have es11:=s11 _ _ es10
    refine Dg (SqL.of es11) ?_
    walk_at "r"
    refine ⟨Bl,fun p12 h12=>?_⟩
    have s12:=Same.upd (o:=.tup [.ref pp,xb]) h12
    have s112:=s11.trans s12
    have es12:=s12 _ _ es11
    have pr12:PairAt K c (upd H11 p12 (.tup [.ref pp,xb])) (.ref p12) (pl,Dk fx sc.dd):=⟨p12,pp,xb,rfl,SqT.of Ag,(t410.trans s112.t).tup qp4,hb10.same s112⟩
    revert s112 es12 pr12
    generalize upd H11 p12 (.tup [.ref pp,xb])=H12
    intro s112 es12 pr12
    walk_at "r"
    refine G8 es12 (by have:=als.1;omega) ?_
    have al13:Al (PairAt K c (upd H12 ps (.lst (sv++[.ref p12])))) (sv++[.ref p12]) (r++[(pl,Dk fx sc.dd)]):=((als10.mono (PairAt.same s112)).snoc pr12).mono (PairAt.off es12)
    have t13:=s112.t.trans (SameT.set (o:=.lst (sv++[.ref p12])) es12)
    have t413:=t410.trans t13
    have e13:upd H12 ps (.lst (sv++[.ref p12])) ps=some (.lst (sv++[.ref p12])):=Ag
    have b13:=(b10.same s112).off (o:=.lst (sv++[.ref p12])) nps
    have sb13:=(sb10.trans (s112.b b)).over (o:=.lst (sv++[.ref p12])) hps
    revert al13 t413 t13 e13 b13 sb13
    generalize upd H12 ps (.lst (sv++[.ref p12]))=H13
    intro al13 t13 t413 e13 b13 sb13
    have hsz:(Bf th pl g).size+fx.size=th.size+g.size:=hat.size (f:=g)
    have hdw:A6 (Bf th pl g)<=A6 th+4:=hat.depw 4 dpg
    have hbk2:=Bk.back hat hd hg.fine okh (by omega) hbk
    walk_at "r"
    refine ⟨h,pp,_,th,fx,g,pl,rfl,hh4.sameT t413,by omega,t413.tup qp4,hat,hdue10.sameT t13,fun v14 H14 s14 h14=>?_⟩
    walk_at "r"
    refine ⟨_,_,_,_,_,_,_,_,v14,_,_,r++[(pl,Dk fx sc.dd)],rfl,h14,hat.okw okh okg,by omega,by omega,s14 _ _ e13,al13.mono (PairAt.same s14),by rw [Ss];exact hbk2,fun y hy=>?_,by rw [Pb];show r.length+1<=_;omega,b13.same s14,sb13.trans (s14.b b)⟩
    rcases Pu.mp hy with hy | hy
    ·exact hfi y hy
    ·rw [P5.mp hy];exact Zey okf hd
   ·rw [hn] at hdue10
    obtain rfl:due=.non:=hdue10
    obtain ⟨pb,rfl,eb⟩:Told H10 xb:=by
     rcases hxb10 with ⟨u,h,_⟩ | ⟨_,h⟩
     ·rw [hn] at h;cases h
     ·exact h
    refine Cj rfl ?_
    walk_at "r"
    refine ⟨Bl,fun p11 h11=>?_⟩
    have s11:=Same.upd (o:=.lst [.bl true,.str "deed"]) h11
    refine F7 (n:=1) (by decide) (Ia (s11 _ _ eb)) (Ia Ag) ?_
    have em11:=s11 _ _ em
    revert s11 em11
    generalize upd H10 p11 _=H11
    intro s11 em11
    walk_at "r"
    refine ⟨Bl,fun p12 h12=>?_⟩
    have s12:=Same.upd (o:=.lst [.bl true,.str "deed"]) h12
    refine F7 (n:=1) (by decide) (Ia (s12 _ _ em11)) (Ia Ag) ?_
    have s112:=s11.trans s12
    revert s112
    generalize upd H11 p12 _=H12
    intro s112
    walk_at "r"
    refine A1 rfl ?_
    walk_at "r"
    exact ⟨_,_,_,_,_,_,_,_,h,th,sv,r,rfl,(hh4.sameT t410).same s112,okh,by omega,by omega,s112 _ _ es10,als10.mono (PairAt.same s112),hbk,hfi,by omega,b10.same s112,sb10.trans (s112.b b)⟩
  ·rintro σ' H2 ⟨w5,w6,w7,w8,w9,wa,wb,wc,h,th,sv,r,rfl,hh,okh,szh,dph,es,als,hbk,hfi,hrl,b2,sb2⟩
   walk_at "r"
   exact ⟨v,h,ps,t,th,r,rfl,hv.sameT (sb2.t hb),hh,okt,okh,by omega,by omega,by omega,by omega,⟨_,SqL.of es,als⟩,hbk,hfi,by omega,q⟩
theorem SameB.old {b:Addr}{H0 H1 H2:Hp}(e:SameB b H1 H2)(s:Same H0 H1)(h:H0 b=none):Same H0 H2:=fun c o hc=>e c o (fun z=>by rw [z,h] at hc;cases hc) (s c o hc)
noncomputable def Zgu (K:On):Sp:=fun vs H Q _=>∃(a:Addr)(ns:List Int),vs=[.ref a]/\SqL K H a (ns.map V.int)/\ns.length<=63/\∀ H',Q (.bl true) H'
theorem Ztk:(["_law_k", "_law_box_here"]:List Str).Nodup:=by decide +kernel
theorem sc_law:Aw ["_law_script", "_law_box_here", "_law_pool"] ["_law_script"] (Aj Ms):=by walk_at "sc"
theorem Zuk {f:Addr}{fd:FuncData}(F:Fun K "law" "law" Ms f fd)(T:Txt K mg)(C__law_box:As P w K mg base 1 "_law_box" ["_law_script", "_law_k"] (Zhm K))(C__law_name:As P w K mg base 2 "_law_name" ["_law_box_here"] Zbp)(C__law_tree:As P w K mg base 6 "_law_tree" ["_law_box_here", "_law_pool", "_law_most"] (Np K))(C__law_all:As P w K mg base 12 "_law_all" ["_law_first", "_law_box_here", "_law_pool"] (Zg6 K)):FnOk P w K mg base An 13 f fd ["_law_script"] (Zgu K):=by
 refine F.okq sc_law (fun vs H Q E h=>?_) (fun cdv A outer s H vs Q E hr h=>?_)
 ·obtain ⟨a,ns,rfl,_⟩:=h
  rfl
 ·obtain ⟨a,ns,rfl,hS,hn,q⟩:=h
  have S:Script K H a:=⟨ns,hS,hn⟩
  refine ⟨_,Ae (Zc6 (i:=1) sc_law.nd rfl (Or.inr rfl) (Am C__law_box hr.m (Aa (qv 0) (Aa Ac Ab))))
   (Ae (M7 (i:=2) (N:=["_law_k", "_law_box_here"]) (σ0:=Dh 1 [1]) rfl (E8 rfl (by decide +kernel) (by decide +kernel) (by decide +kernel)) (Fh rfl T.range (Aa Ac Ab)) (E3 rfl (by rfl)) (fun _ _ _ _=>Bc (i:=0) Ztk rfl (Or.inl rfl)) (fun _ _ _ _=>E5) (fun _ _ _ _=>Am C__law_name hr.m (Aa (qv 1) Ab)) sc_law.nd rfl (Or.inl rfl))
   (Ad (Ah (Am C__law_all hr.m (Aa (Am C__law_tree hr.m (Aa (Am C__law_box hr.m (Aa (qv 0) (Aa Ac Ab))) (Aa (qv 2) (Aa Ac Ab)))) (Aa (Am C__law_box hr.m (Aa (qv 0) (Aa Ac Ab))) (Aa (qv 2) Ab))))))),?_⟩
  have bg:=Ce
  walk_at "r"
  refine ⟨a,1,rfl,S,by decide,by decide,fun b H1 s1 hb0 b1=>?_⟩
  walk_at "r"
  refine ⟨by decide,by decide,fun D hD=>?_⟩
  have nD:=b1.ne hD
  refine Hn (n:=Int.toNat 3) (Pv:=fun i ys σ' H'=>∃ kv ts,σ'=[kv,some (.ref b)]/\ys=(ts:List Str).map V.str/\ts.length=i/\(∀ t∈ts,Bg t=true)/\BoxAt H' b/\SameB b H1 H') ⟨none,[],rfl,rfl,rfl,(fun t h=>nomatch h),b1.off nD,(Same.upd hD).b b⟩ ?_ ?_
  ·rintro i ys σ' H' hi hys ⟨kv,ts,rfl,rfl,hl,hc,bb,sb⟩
   walk_at "r"
   refine ⟨b,rfl,bb,fun t H2 s2 b2 hnt=>?_⟩
   walk_at "r"
   have ey:=s2 _ _ nD hys
   refine ⟨_,ey,by rw [Pl];omega,_,Ag,?_⟩
   refine ⟨_,ts++[t],rfl,by simp,by simp [hl],fun t' h'=>?_,b2.off nD,(sb.trans s2).over hD⟩
   rcases Pu.mp h' with h' | h'
   ·exact hc t' h'
   ·rw [P5.mp h'];exact hnt
  rintro ys σ' H2 hys ⟨kv,ts,rfl,rfl,hl,hc,b2,sb2⟩
  have pool:PoolAt H2 D:=by
   match ts,hl with
   | [t0,t1,t2],_=>exact ⟨t0,t1,t2,hys,hc t0 (by simp),hc t1 (by simp),hc t2 (by simp)⟩
  have s02:=sb2.old s1 hb0
  clear hys hc hl sb2
  walk_at "r"
  refine ⟨a,2,rfl,S.same s02,by decide,by decide,fun bx H3 s3 hx0 bx3=>?_⟩
  have nDx:D≠bx:=by
   obtain ⟨_,_,_,h,_⟩:=pool
   exact Cq h hx0
  walk_at "r"
  refine ⟨bx,D,10,rfl,by decide,bx3,by obtain ⟨t0,t1,t2,h1,h2⟩:=pool;exact ⟨t0,t1,t2,s3 _ _ h1,h2⟩,nDx,fun v t H4 s4 b4 hv okt szt dpt=>?_⟩
  have s24:=s4.old s3 hx0
  have s04:=s02.trans s24
  have pool4:PoolAt H4 D:=by obtain ⟨t0,t1,t2,h1,h2⟩:=pool;exact ⟨t0,t1,t2,s24 _ _ h1,h2⟩
  walk_at "r"
  refine ⟨a,3,rfl,S.same s04,by decide,by decide,fun by_ H6 s6 hy0 by6=>?_⟩
  have nDy:D≠by_:=by
   obtain ⟨_,_,_,h,_⟩:=pool4
   exact Cq h hy0
  walk_at "r"
  exact ⟨v,by_,D,t,rfl,hv.same s6,okt,szt,dpt,by6,by obtain ⟨t0,t1,t2,h1,h2⟩:=pool4;exact ⟨t0,t1,t2,s6 _ _ h1,h2⟩,nDy,q⟩
end
end K24
namespace K24
open PySem L2
local macro_rules | `(tactic| walk_at "zA")=>`(tactic| exact (let +zeta a:=_; let +zeta b:=_; let +zeta c:=_; have +usedOnly q:(‹Stmt›:Stmt)=.Assign a b c:=rfl; .Assign a b c))
local macro_rules | `(tactic| walk_at "zC")=>`(tactic| exact (let +zeta a:=_; let +zeta b:=_; let +zeta c:=_; let +zeta d:=_; let +zeta e:=_; let +zeta f:=_; let +zeta g:=_; let +zeta h:=_; let +zeta i:=_; let +zeta j:=_; let +zeta k:=_; have +usedOnly q:(‹Stmt›:Stmt)=.ClassDef a b c d e f g h i j k:=rfl; .ClassDef a b c d e f g h i j k))
local macro_rules | `(tactic| walk_at "zF")=>`(tactic| exact (let +zeta a:=_; let +zeta b:=_; let +zeta c:=_; let +zeta d:=_; let +zeta e:=_; let +zeta f:=_; let +zeta g:=_; let +zeta h:=_; let +zeta i:=_; let +zeta j:=_; have +usedOnly q:(‹Stmt›:Stmt)=.FunctionDef a b c d e f g h i j:=rfl; .FunctionDef a b c d e f g h i j))
noncomputable def w0:Stmt:=by let +zeta s:=top 0;walk_at "zA"
noncomputable def w1:Stmt:=by let +zeta s:=top 1;walk_at "zC"
noncomputable def w2:Stmt:=by let +zeta s:=top 2;walk_at "zC"
noncomputable def w3:Stmt:=by let +zeta s:=top 3;walk_at "zC"
noncomputable def w4:Stmt:=by let +zeta s:=top 4;walk_at "zC"
noncomputable def w5:Stmt:=by let +zeta s:=top 5;walk_at "zA"
noncomputable def w6:Stmt:=by let +zeta s:=top 6;walk_at "zA"
noncomputable def w7:Stmt:=by let +zeta s:=top 7;walk_at "zA"
noncomputable def w8:Stmt:=by let +zeta s:=top 8;walk_at "zA"
noncomputable def w9:Stmt:=by let +zeta s:=top 9;walk_at "zA"
noncomputable def w10:Stmt:=by let +zeta s:=top 10;walk_at "zA"
noncomputable def w11:Stmt:=by let +zeta s:=top 11;walk_at "zA"
noncomputable def w12:Stmt:=by let +zeta s:=top 12;walk_at "zF"
noncomputable def w13:Stmt:=by let +zeta s:=top 13;walk_at "zF"
noncomputable def w14:Stmt:=by let +zeta s:=top 14;walk_at "zF"
noncomputable def w15:Stmt:=by let +zeta s:=top 15;walk_at "zF"
noncomputable def w16:Stmt:=by let +zeta s:=top 16;walk_at "zF"
noncomputable def w17:Stmt:=by let +zeta s:=top 17;walk_at "zF"
noncomputable def w18:Stmt:=by let +zeta s:=top 18;walk_at "zF"
noncomputable def w19:Stmt:=by let +zeta s:=top 19;walk_at "zF"
noncomputable def w20:Stmt:=by let +zeta s:=top 20;walk_at "zF"
noncomputable def w21:Stmt:=by let +zeta s:=top 21;walk_at "zF"
noncomputable def w22:Stmt:=by let +zeta s:=top 22;walk_at "zF"
noncomputable def w23:Stmt:=by let +zeta s:=top 23;walk_at "zF"
noncomputable def w24:Stmt:=by let +zeta s:=top 24;walk_at "zA"
noncomputable def w25:Stmt:=by let +zeta s:=top 25;walk_at "zF"
noncomputable def w26:Stmt:=by let +zeta s:=top 26;walk_at "zF"
noncomputable def w27:Stmt:=by let +zeta s:=top 27;walk_at "zF"
noncomputable def w28:Stmt:=by let +zeta s:=top 28;walk_at "zF"
noncomputable def w29:Stmt:=by let +zeta s:=top 29;walk_at "zF"
noncomputable def w30:Stmt:=by let +zeta s:=top 30;walk_at "zA"
noncomputable def w31:Stmt:=by let +zeta s:=top 31;walk_at "zF"
noncomputable def w32:Stmt:=by let +zeta s:=top 32;walk_at "zF"
noncomputable def w33:Stmt:=by let +zeta s:=top 33;walk_at "zC"
noncomputable def Zsn:Stmt:=by let +zeta s:=(A7 34 0);walk_at "zF"
noncomputable def Zlt:Stmt:=by let +zeta s:=(A7 34 1);walk_at "zF"
noncomputable def Zop:Stmt:=by let +zeta s:=(A7 34 2);walk_at "zF"
noncomputable def w34:Stmt:=let +zeta a:=_;let +zeta b:=_;let +zeta c:=_;let +zeta d:=_;let +zeta e:=_;let +zeta f:=_;let +zeta g:=_;let +zeta h:=_;let +zeta i:=_;let +zeta j:=_;let +zeta k:=_;have +usedOnly q:top 34=.ClassDef a b c d e f g h i j k:=rfl;.ClassDef a b c [Zsn,Zlt,Zop] e f g h i j k
noncomputable def Zrw:Stmt:=by let +zeta s:=(A7 35 0);walk_at "zF"
noncomputable def Zvy:Stmt:=by let +zeta s:=(A7 35 1);walk_at "zF"
noncomputable def Zul:Stmt:=by let +zeta s:=(A7 35 2);walk_at "zF"
noncomputable def w35:Stmt:=let +zeta a:=_;let +zeta b:=_;let +zeta c:=_;let +zeta d:=_;let +zeta e:=_;let +zeta f:=_;let +zeta g:=_;let +zeta h:=_;let +zeta i:=_;let +zeta j:=_;let +zeta k:=_;have +usedOnly q:top 35=.ClassDef a b c d e f g h i j k:=rfl;.ClassDef a b c [Zrw,Zvy,Zul] e f g h i j k
noncomputable def w36:Stmt:=by let +zeta s:=top 36;walk_at "zC"
noncomputable def Zki:Stmt:=by let +zeta s:=(A7 37 0);walk_at "zF"
noncomputable def Zpw:Stmt:=by let +zeta s:=(A7 37 1);walk_at "zF"
noncomputable def Zrm:Stmt:=by let +zeta s:=(A7 37 2);walk_at "zF"
noncomputable def w37:Stmt:=let +zeta a:=_;let +zeta b:=_;let +zeta c:=_;let +zeta d:=_;let +zeta e:=_;let +zeta f:=_;let +zeta g:=_;let +zeta h:=_;let +zeta i:=_;let +zeta j:=_;let +zeta k:=_;have +usedOnly q:top 37=.ClassDef a b c d e f g h i j k:=rfl;.ClassDef a b c [Zki,Zpw,Zrm] e f g h i j k
noncomputable def Zne:Stmt:=by let +zeta s:=(A7 38 0);walk_at "zF"
noncomputable def Zvp:Stmt:=by let +zeta s:=(A7 38 1);walk_at "zF"
noncomputable def Zqk:Stmt:=by let +zeta s:=(A7 38 2);walk_at "zF"
noncomputable def w38:Stmt:=let +zeta a:=_;let +zeta b:=_;let +zeta c:=_;let +zeta d:=_;let +zeta e:=_;let +zeta f:=_;let +zeta g:=_;let +zeta h:=_;let +zeta i:=_;let +zeta j:=_;let +zeta k:=_;have +usedOnly q:top 38=.ClassDef a b c d e f g h i j k:=rfl;.ClassDef a b c [Zne,Zvp,Zqk] e f g h i j k
noncomputable def Zm3:Stmt:=by let +zeta s:=(A7 39 0);walk_at "zF"
noncomputable def Zrx:Stmt:=by let +zeta s:=(A7 39 1);walk_at "zF"
noncomputable def Zq8:Stmt:=by let +zeta s:=(A7 39 2);walk_at "zF"
noncomputable def w39:Stmt:=let +zeta a:=_;let +zeta b:=_;let +zeta c:=_;let +zeta d:=_;let +zeta e:=_;let +zeta f:=_;let +zeta g:=_;let +zeta h:=_;let +zeta i:=_;let +zeta j:=_;let +zeta k:=_;have +usedOnly q:top 39=.ClassDef a b c d e f g h i j k:=rfl;.ClassDef a b c [Zm3,Zrx,Zq8] e f g h i j k
noncomputable def Zn2:Stmt:=by let +zeta s:=(A7 40 0);walk_at "zF"
noncomputable def Znp:Stmt:=by let +zeta s:=(A7 40 1);walk_at "zF"
noncomputable def Zp7:Stmt:=by let +zeta s:=(A7 40 2);walk_at "zF"
noncomputable def w40:Stmt:=let +zeta a:=_;let +zeta b:=_;let +zeta c:=_;let +zeta d:=_;let +zeta e:=_;let +zeta f:=_;let +zeta g:=_;let +zeta h:=_;let +zeta i:=_;let +zeta j:=_;let +zeta k:=_;have +usedOnly q:top 40=.ClassDef a b c d e f g h i j k:=rfl;.ClassDef a b c [Zn2,Znp,Zp7] e f g h i j k
noncomputable def w41:Stmt:=by let +zeta s:=top 41;walk_at "zA"
noncomputable def w42:Stmt:=by let +zeta s:=top 42;walk_at "zF"
noncomputable def w43:Stmt:=by let +zeta s:=top 43;walk_at "zA"
noncomputable def w44:Stmt:=by let +zeta s:=top 44;walk_at "zF"
noncomputable def w45:Stmt:=by let +zeta s:=top 45;walk_at "zF"
noncomputable def w46:Stmt:=by let +zeta s:=top 46;walk_at "zF"
noncomputable def w47:Stmt:=by let +zeta s:=top 47;walk_at "zF"
noncomputable def w48:Stmt:=by let +zeta s:=top 48;walk_at "zF"
noncomputable def w49:Stmt:=by let +zeta s:=top 49;walk_at "zF"
noncomputable def w50:Stmt:=by let +zeta s:=top 50;walk_at "zF"
noncomputable def w51:Stmt:=by let +zeta s:=top 51;walk_at "zF"
noncomputable def w52:Stmt:=by let +zeta s:=top 52;walk_at "zF"
noncomputable def w53:Stmt:=by let +zeta s:=top 53;walk_at "zF"
noncomputable def w54:Stmt:=by let +zeta s:=top 54;walk_at "zF"
noncomputable def w55:Stmt:=by let +zeta s:=top 55;walk_at "zF"
noncomputable def w56:Stmt:=by let +zeta s:=top 56;walk_at "zF"
noncomputable def w57:Stmt:=by let +zeta s:=top 57;walk_at "zF"
noncomputable def w58:Stmt:=by let +zeta s:=top 58;walk_at "zF"
noncomputable def w59:Stmt:=by let +zeta s:=top 59;walk_at "zF"
noncomputable def w60:Stmt:=by let +zeta s:=top 60;walk_at "zF"
noncomputable def w61:Stmt:=by let +zeta s:=top 61;walk_at "zF"
noncomputable def w62:Stmt:=by let +zeta s:=top 62;walk_at "zF"
noncomputable def w63:Stmt:=by let +zeta s:=top 63;walk_at "zF"
noncomputable def w64:Stmt:=by let +zeta s:=top 64;walk_at "zF"
noncomputable def w65:Stmt:=by let +zeta s:=top 65;walk_at "zF"
noncomputable def w66:Stmt:=by let +zeta s:=top 66;walk_at "zF"
noncomputable def w67:Stmt:=by let +zeta s:=top 67;walk_at "zF"
noncomputable def w68:Stmt:=by let +zeta s:=top 68;walk_at "zF"
noncomputable def w69:Stmt:=by let +zeta s:=top 69;walk_at "zF"
noncomputable def w70:Stmt:=by let +zeta s:=top 70;walk_at "zF"
noncomputable def w71:Stmt:=by let +zeta s:=top 71;walk_at "zF"
noncomputable def w72:Stmt:=by let +zeta s:=top 72;walk_at "zF"
noncomputable def PWc:Program:=let +zeta a:=_;let +zeta b:=_;let +zeta c:=_;let +zeta d:=_;let +zeta e:=_;let +zeta f:=_;let +zeta g:=_;let +zeta h:=_;let +zeta i:=_;let +zeta j:=_;have +usedOnly q:R0=⟨⟨a,b,c,d,e⟩,f,g,h,i,j⟩:=rfl;⟨⟨[w0,w1,w2,w3,w4,w5,w6,w7,w8,w9,w10,w11,w12,w13,w14,w15,w16,w17,w18,w19,w20,w21,w22,w23,w24,w25,w26,w27,w28,w29,w30,w31,w32,w33,w34,w35,w36,w37,w38,w39,w40,w41,w42,w43,w44,w45,w46,w47,w48,w49,w50,w51,w52,w53,w54,w55,w56,w57,w58,w59,w60,w61,w62,w63,w64,w65,w66,w67,w68,w69,w70,w71,w72],b,c,d,e⟩,f,g,h,i,j⟩
theorem e_PW:PWc=PWc:=rfl
name_quick x_PW for K24.PWc by K24.e_PW
end K24
noncomputable def PySem.W.Fast.tw16893215774389060587:PySem.Program:=PySem.W.Fast.tw755010270367689113
theorem PySem.W.Fast.te16893215774389060587:R0=PySem.W.Fast.tw16893215774389060587:=(rfl:R0=K24.PWc).trans PySem.W.Fast.te755010270367689113
namespace K24
open PySem L2
noncomputable def VWc:Program:={ R0 with main:={ R0.main with body:=[w1,w2,w3,w4,w6,w7,w8,w9,w10,w11,w12,w13,w14,w15,w16,w17,w18,w19,w20,w21,w22,w23,w25,w26,w27,w28,w29,w31,w32,w33,w34,w35,w36,w37,w38,w39,w40,w42,w44,w45,w46,w47,w48,w49,w50,w51,w52,w53,w54,w55,w56,w57,w58,w59,w60,w61,w62,w63,w64,w65,w66,w67,w68,w69,w70,w71,w72] } }
noncomputable def S0:List Stmt:=[w36]
noncomputable def S1:List Stmt:=[w70,w71,w72]
noncomputable def S2:List Stmt:=[w17,w18,w19,w20,w21,w22,w23,w24,w25,w26,w27,w28,w29,w30]
noncomputable def S3:List Stmt:=[w37]
noncomputable def S4:List Stmt:=[w45,w46,w47,w48,w49,w50,w51,w52,w53,w54,w55,w56,w57]
noncomputable def S5:List Stmt:=[w38]
noncomputable def S6:List Stmt:=[w0,w1]
noncomputable def S7:List Stmt:=[w7,w8,w9,w10,w11,w12,w13,w14,w15,w16]
noncomputable def S8:List Stmt:=[w3]
noncomputable def S9:List Stmt:=[w40,w41,w42,w43,w44]
noncomputable def S10:List Stmt:=[w4,w5,w6]
noncomputable def S11:List Stmt:=[w35]
noncomputable def S12:List Stmt:=[w34]
noncomputable def S13:List Stmt:=[w2]
noncomputable def S14:List Stmt:=[w58,w59,w60,w61,w62,w63,w64,w65,w66,w67,w68,w69]
noncomputable def S15:List Stmt:=[w31,w32,w33]
noncomputable def S16:List Stmt:=[w39]
noncomputable def SB:Program×List (List Stmt):=(VWc,[S0,S1,S2,S3,S4,S5,S6,S7,S8,S9,S10,S11,S12,S13,S14,S15,S16])
theorem e_SB:SB=SB:=rfl
name_quick x_SB for K24.SB by K24.e_SB
end K24
noncomputable def PySem.W.Fast.tw9712313692731687880:PySem.Program:=PySem.W.Fast.tw12859792312998879823
theorem PySem.W.Fast.te9712313692731687880:K24.VWc=PySem.W.Fast.tw9712313692731687880:=PySem.W.Fast.te12859792312998879823
noncomputable def PySem.W.Fast.tw7175994998517651684:List Pr:=PySem.W.Fast.tw10696643795990583363
theorem PySem.W.Fast.te7175994998517651684:K24.S0=PySem.W.Fast.tw7175994998517651684:=PySem.W.Fast.te10696643795990583363
noncomputable def PySem.W.Fast.tw12073033750179095558:List Pr:=PySem.W.Fast.tw18373084437227575198
theorem PySem.W.Fast.te12073033750179095558:K24.S1=PySem.W.Fast.tw12073033750179095558:=PySem.W.Fast.te18373084437227575198
noncomputable def PySem.W.Fast.tw14026416981414370854:List Pr:=PySem.W.Fast.tw9843296039508042937
theorem PySem.W.Fast.te14026416981414370854:K24.S2=PySem.W.Fast.tw14026416981414370854:=PySem.W.Fast.te9843296039508042937
noncomputable def PySem.W.Fast.tw17676209755456711398:List Pr:=PySem.W.Fast.tw11112266681061175903
theorem PySem.W.Fast.te17676209755456711398:K24.S3=PySem.W.Fast.tw17676209755456711398:=PySem.W.Fast.te11112266681061175903
noncomputable def PySem.W.Fast.tw9970707748926951145:List Pr:=PySem.W.Fast.tw1180494192336917578
theorem PySem.W.Fast.te9970707748926951145:K24.S4=PySem.W.Fast.tw9970707748926951145:=PySem.W.Fast.te1180494192336917578
noncomputable def PySem.W.Fast.tw14636043144192905868:List Pr:=PySem.W.Fast.tw6173050398877811122
theorem PySem.W.Fast.te14636043144192905868:K24.S5=PySem.W.Fast.tw14636043144192905868:=PySem.W.Fast.te6173050398877811122
noncomputable def PySem.W.Fast.tw17065752522050449100:List Pr:=PySem.W.Fast.tw12577851281640904363
theorem PySem.W.Fast.te17065752522050449100:K24.S6=PySem.W.Fast.tw17065752522050449100:=PySem.W.Fast.te12577851281640904363
noncomputable def PySem.W.Fast.tw4065369080087663565:List Pr:=PySem.W.Fast.tw15943315921327954219
theorem PySem.W.Fast.te4065369080087663565:K24.S7=PySem.W.Fast.tw4065369080087663565:=PySem.W.Fast.te15943315921327954219
noncomputable def PySem.W.Fast.tw4495919932859220238:List Pr:=PySem.W.Fast.tw13534787764012092532
theorem PySem.W.Fast.te4495919932859220238:K24.S8=PySem.W.Fast.tw4495919932859220238:=PySem.W.Fast.te13534787764012092532
noncomputable def PySem.W.Fast.tw13198555549981907183:List Pr:=PySem.W.Fast.tw7350563436876141583
theorem PySem.W.Fast.te13198555549981907183:K24.S9=PySem.W.Fast.tw13198555549981907183:=PySem.W.Fast.te7350563436876141583
noncomputable def PySem.W.Fast.tw477604391288350100:List Pr:=PySem.W.Fast.tw7007756911740332426
theorem PySem.W.Fast.te477604391288350100:K24.S10=PySem.W.Fast.tw477604391288350100:=PySem.W.Fast.te7007756911740332426
noncomputable def PySem.W.Fast.tw13020828025158731188:List Pr:=PySem.W.Fast.tw6392448522213534039
theorem PySem.W.Fast.te13020828025158731188:K24.S11=PySem.W.Fast.tw13020828025158731188:=PySem.W.Fast.te6392448522213534039
noncomputable def PySem.W.Fast.tw1766960272583775128:List Pr:=PySem.W.Fast.tw585013482348470186
theorem PySem.W.Fast.te1766960272583775128:K24.S12=PySem.W.Fast.tw1766960272583775128:=PySem.W.Fast.te585013482348470186
noncomputable def PySem.W.Fast.tw11876391539487327773:List Pr:=PySem.W.Fast.tw10105006237163317598
theorem PySem.W.Fast.te11876391539487327773:K24.S13=PySem.W.Fast.tw11876391539487327773:=PySem.W.Fast.te10105006237163317598
noncomputable def PySem.W.Fast.tw10774880534297934142:List Pr:=PySem.W.Fast.tw10136845228178239265
theorem PySem.W.Fast.te10774880534297934142:K24.S14=PySem.W.Fast.tw10774880534297934142:=PySem.W.Fast.te10136845228178239265
noncomputable def PySem.W.Fast.tw15169410082735650590:List Pr:=PySem.W.Fast.tw5921231153166163429
theorem PySem.W.Fast.te15169410082735650590:K24.S15=PySem.W.Fast.tw15169410082735650590:=PySem.W.Fast.te5921231153166163429
noncomputable def PySem.W.Fast.tw2037882642433193471:List Pr:=PySem.W.Fast.tw17753469944266176922
theorem PySem.W.Fast.te2037882642433193471:K24.S16=PySem.W.Fast.tw2037882642433193471:=PySem.W.Fast.te17753469944266176922
namespace K24
open PySem L2 PySem.W
noncomputable def zs (i j:Nat):Stmt:=match top i with | .ClassDef _ _ _ b _ _ _ _ _ _ _=>b.getD j (.Pass ⟨0,0,0,0⟩) | s=>s
noncomputable def ze (P:Params)(s:Str)(t:Tok)(v:Value):DictEntry:=⟨PyData.keyHash P s,.str s t,v⟩
noncomputable abbrev B:=Pn
noncomputable def evb (l:List Obj):Bool->List Obj:=@List.rec Obj (fun _=>Bool->List Obj) (fun _=>[]) (fun a _ ih b=>@Bool.rec (fun _=>List Obj) (ih true) (a::ih false) b) l
noncomputable def tO (l:List Obj):B:=@Nat.rec (fun _=>List Obj->B) (fun _=>.nil) (fun _ ih l=>@List.rec Obj (fun _=>B) .nil (fun x r _=>.node x (ih (evb r true)) (ih (evb r false))) l) 12 l
noncomputable def zv:List (Str×Tok)->List Value
 | []=>[]
 | (a,b)::t=>.str a b::zv t
noncomputable def zu (l:List (Str×Tok)):Obj:=⟨.type "tuple",none,.seq ⟨zv l⟩,#[]⟩
noncomputable def zt (c:String)(d:Data):Obj:=⟨.type c,none,d,#[]⟩
noncomputable def zf (n q:Str)(s:Stmt)(m:Str)(t:Tok)(c:Addr):Obj:=⟨.type "function",none,.func (O6 n q (Bm s) (Be s) (Aj s) .none .none .none (.str m t) none (.ref c) .none),#[]⟩
noncomputable def zh (n q:Str)(s:Stmt):Obj:=⟨.none,none,.func ⟨n,q,Bm s,.stmts (Be s),Aj s,0,[],.none,.none,.none,.none,none,.none,.none,0⟩,#[]⟩
noncomputable def zk (n q:Str)(t:Tok)(l a g:Int)(r:Addr)(b:Bool)(x:Value)(u:Int)(v:Tok):Obj:=⟨.type "code",none,.fields #[.str n t,.str q (t+1),.str "/claim/cut.py" (t+2),.int l 0,.int a 0,.int 0 0,.int 0 0,.int g 0,.ref r,.bool b,.int 181 0,.ref (r+1),.none,.none,.none,x,.int u 0,.int l 0,.str "/claim/cut.py" v],#[]⟩
noncomputable def zw:List (Int×Int×Addr)->List Value
 | []=>[]
 | (a,b,c)::t=>.int a 0::.int b 0::.ref c::zw t
noncomputable def zy (l:List (Int×Int×Addr)):Obj:=⟨.none,none,.fields ⟨zw l⟩,#[]⟩
noncomputable def zc (n q:Str)(t:Tok)(l a g:Int)(r:Addr)(u:Int)(v:Tok):Obj:=⟨.type "code",none,.fields #[.str n t,.str q (t+1),.str "/claim/cut.py" (t+2),.int l 0,.int a 0,.int 0 0,.int 0 0,.int g 0,.ref r,.bool true,.int 181 0,.ref (r+1),.none,.ref (r+2),.ref (r+3),.ref (r+4),.int u 0,.int l 0,.str "/claim/cut.py" v],#[]⟩
noncomputable def zb (n:Str):=zc n n
noncomputable def zi (n:Str):=zf n n
noncomputable def zj (n:Str):=zh n n
noncomputable section
def d0 (P:Params):=[ze P "__name__" 165 (.str "gapscribe.errors" 187),ze P "__doc__" 166 .none,ze P "__package__" 167 .none,ze P "__loader__" 168 (.builtin "__main__.__loader__#opaque"),ze P "__spec__" 169 .none,ze P "__annotations__" 170 (.ref 6),ze P "__builtins__" 171 (.ref 4),ze P "__file__" 173 (.str "/claim/cut.py" 172),ze P "__cached__" 174 .none,ze P "GapError" 206 (.ref 24),ze P "NoForm" 222 (.ref 37)]
def z0 (P:Params):=zt "dict" (.dict ⟨d0 P⟩ 11)
def z1:=zt "tuple" (.seq #[])
noncomputable def y0:List (Int×Int×Addr):=[(2,0,20),(4,0,33)]
def z2:=zy y0
def z3:=zk "<module>" "<module>" 182 1 0 0 11 false .none 185 186
noncomputable def Dz (x0:Nat)(x1:Nat)(x2:Str)(x3:Nat):Obj:=Obj.mk (.type "frame") none Data.plain #[some (.ref x0),some (.ref 3),some (.ref x1),none,some (.str x2 x3),none,some (.ref 0)]
def z4:=Dz 13 3 "__main__" 164
def z5:=zt "tuple" (.seq #[.type "ValueError"])
def h0_0 (P:Params)(t:List Obj):=(boot_o_0 P)::(boot_o_1 P)::(boot_o_2 P)::(z0 P)::(boot_o_4 P)::(boot_o_5 P)::(boot_o_6 P)::(boot_o_7 P)::(boot_o_8 P)::(boot_o_9 P)::(boot_o_10 P)::z1::z2::z3::z4::z5::t
def z6:=zt "builtin_function_or_method" (.fields #[.builtin "type.__prepare__",.type "type"])
def zq1 (P:Params)(x0:Nat)(x1:Str)(x2:Int)(x3:Nat):Obj:=zt "dict" (.dict #[ze P "__module__" x0 (.str "gapscribe.errors" 187),ze P "__qualname__" (x0+2) (.str x1 (x0+1)),ze P "__firstlineno__" (x0+4) (.int x2 (x0+3)),ze P "__static_attributes__" (x0+5) (.ref x3)] 4)
def z7 (P:Params):=zq1 P 196 "GapError" 2 22
noncomputable def z8:=Obj.mk .none none (.fields #[]) #[]
def z9:=zk "GapError" "GapError" 191 2 0 0 18 false .none 194 195
def z10:=Dz 20 17 "gapscribe.errors" 187
def z11 (P:Params):=zt "dict" (.dict #[ze P "__module__" 196 (.str "gapscribe.errors" 187),ze P "__firstlineno__" 200 (.int 2 199),ze P "__static_attributes__" 201 (.ref 22),ze P "__weakref__" 203 (.ref 25),ze P "__doc__" 204 .none] 3)
noncomputable def zq2 (x0:List Value):Obj:=Obj.mk (.type "type") none (.cls (ClassData.mk "GapError" [.type "ValueError"] [.ref 24,.type "ValueError",.type "Exception",.type "BaseException",.type "object"] 23 "GapError" true [] x0 false none false)) #[some (.ref 15),none,some (.str "GapError" 189),some (.str "GapError" 197),some (.builtin "ValueError.__new__"),some (.bool true)]
def z12:=zq2 [.ref 37]
def z13:=zt "getset_descriptor" (.fields #[.str "__weakref__" 202,.ref 24,.builtin "ExceptionGroup.__weakref__",.none])
def z14:=zt "super" (.fields #[.ref 24,.ref 24,.ref 24])
def D9 (x0:Nat):Obj:=zt "builtin_function_or_method" (.fields #[.builtin "object.__init_subclass__",.ref x0])
def z15:=D9 24
def z16:=zt "tuple" (.seq #[.ref 24])
def z17 (P:Params):=zq1 P 214 "NoForm" 4 35
def h1_0 (P:Params)(t:List Obj):=z6::(z7 P)::z1::z8::z9::z10::z1::(z11 P)::z12::z13::z14::z15::z16::z6::(z17 P)::z1::t
def z18:=zk "NoForm" "NoForm" 209 4 0 0 31 false .none 212 213
def z19:=Dz 33 30 "gapscribe.errors" 187
def z20 (P:Params):=zt "dict" (.dict #[ze P "__module__" 214 (.str "gapscribe.errors" 187),ze P "__firstlineno__" 218 (.int 4 217),ze P "__static_attributes__" 219 (.ref 35),ze P "__doc__" 220 .none] 2)
noncomputable def zq4 (x0:Str)(x1:Nat)(x2:Nat)(x3:Nat)(x4:Nat):Obj:=Obj.mk (.type "type") none (.cls (ClassData.mk x0 [.ref 24] [.ref x1,.ref 24,.type "ValueError",.type "Exception",.type "BaseException",.type "object"] x2 x0 true [] [] false none false)) #[some (.ref x3),none,some (.str x0 x4),some (.str x0 (x4+8)),some (.builtin "ValueError.__new__"),some (.bool true)]
def z21:=zq4 "NoForm" 37 36 28 207
def z22:=zt "super" (.fields #[.ref 37,.ref 37,.ref 37])
def z23:=D9 37
def h2_0 (P:Params)(t:List Obj):=z8::z18::z19::z1::(z20 P)::z21::z22::z23::t
def Rtree_78:Params->B:=fun P=>tO (h0_0 P (h1_0 P (h2_0 P [])))
def d1 (P:Params):=d0 P++[ze P "NoDeed" 238 (.ref 49)]
def z24 (P:Params):=zt "dict" (.dict ⟨d1 P⟩ 12)
def y1:List (Int×Int×Addr):=y0++[(6,0,45)]
def z25:=zy y1
def C9 (P:Params)(x0 x1:Obj)(t:List Obj):List Obj:=(boot_o_0 P)::(boot_o_1 P)::(boot_o_2 P)::x0::(boot_o_4 P)::(boot_o_5 P)::(boot_o_6 P)::(boot_o_7 P)::(boot_o_8 P)::(boot_o_9 P)::(boot_o_10 P)::z1::x1::z3::z4::z5::t
def h3_0 (P:Params)(t:List Obj):=C9 P (z24 P) z25 t
def z26:=zq2 [.ref 37,.ref 49]
def h4_0 (P:Params)(t:List Obj):=z6::(z7 P)::z1::z8::z9::z10::z1::(z11 P)::z26::z13::z14::z15::z16::z6::(z17 P)::z1::t
def z27 (P:Params):=zq1 P 230 "NoDeed" 6 47
def z28:=zk "NoDeed" "NoDeed" 225 6 0 0 43 false .none 228 229
def z29:=Dz 45 42 "gapscribe.errors" 187
def C3 (P:Params)(t:List Obj):List Obj:=z8::z18::z19::z1::(z20 P)::z21::z22::z23::z16::z6::(z27 P)::z1::z8::z28::z29::z1::t
def z30 (P:Params):=zt "dict" (.dict #[ze P "__module__" 230 (.str "gapscribe.errors" 187),ze P "__firstlineno__" 234 (.int 6 233),ze P "__static_attributes__" 235 (.ref 47),ze P "__doc__" 236 .none] 2)
def z31:=zq4 "NoDeed" 49 48 40 223
def z32:=zt "super" (.fields #[.ref 49,.ref 49,.ref 49])
def z33:=D9 49
def h6_0 (P:Params)(t:List Obj):=(z30 P)::z31::z32::z33::t
def Rtree_93:Params->B:=fun P=>tO (h3_0 P (h4_0 P (C3 P (h6_0 P []))))
def d2 (P:Params):=[ze P "__name__" 165 (.str "gapscribe.forms" 264),ze P "__doc__" 166 .none,ze P "__package__" 167 .none,ze P "__loader__" 168 (.builtin "__main__.__loader__#opaque"),ze P "__spec__" 169 .none,ze P "__annotations__" 170 (.ref 6),ze P "__builtins__" 171 (.ref 4),ze P "__file__" 173 (.str "/claim/cut.py" 172),ze P "__cached__" 174 .none,ze P "GapError" 206 (.ref 24),ze P "NoForm" 222 (.ref 37),ze P "NoDeed" 238 (.ref 49),ze P "NoPlace" 263 (.ref 68),ze P "GAP" 267 (.ref 72)]
def z34 (P:Params):=zt "dict" (.dict ⟨d2 P⟩ 14)
def y2:List (Int×Int×Addr):=y1++[(8,0,57)]
def z35:=zy y2
def h7_0 (P:Params)(t:List Obj):=C9 P (z34 P) z35 t
def z36:=zq2 [.ref 37,.ref 49,.ref 68]
def C6 (P:Params)(t:List Obj):List Obj:=z6::(z7 P)::z1::z8::z9::z10::z1::(z11 P)::z36::z13::z14::z15::z16::z6::(z17 P)::z1::t
def d3 (P:Params):=[ze P "__module__" 246 (.str "gapscribe.errors" 187),ze P "__qualname__" 248 (.str "NoPlace" 247),ze P "__firstlineno__" 250 (.int 8 249),ze P "__init__" 258 (.ref 65),ze P "__static_attributes__" 260 (.ref 66)]
def z37 (P:Params):=zt "dict" (.dict ⟨d3 P⟩ 5)
noncomputable def y3:List (Int×Int×Addr):=[(10,4,64)]
def z38:=zy y3
def z39:=zk "NoPlace" "NoPlace" 241 8 0 0 55 false .none 244 245
def z40:=Dz 57 54 "gapscribe.errors" 187
def z41:=zu [("self",254),("place",255)]
def z42:=zh "__init__" "NoPlace.__init__" (A7 4 0)
def Da (P:Params)(t:List Obj):List Obj:=(z30 P)::z31::z32::z33::z16::z6::(z37 P)::z1::z38::z39::z40::z1::z8::z41::z1::z42::t
def z43:=zc "__init__" "NoPlace.__init__" 251 10 2 3 59 256 257
def z44:=zf "__init__" "NoPlace.__init__" (A7 4 0) "gapscribe.errors" 187 64
def z45:=zu [("place",259)]
def z46 (P:Params):=zt "dict" (.dict #[ze P "__module__" 246 (.str "gapscribe.errors" 187),ze P "__firstlineno__" 250 (.int 8 249),ze P "__init__" 258 (.ref 65),ze P "__static_attributes__" 260 (.ref 66),ze P "__doc__" 261 .none] 2)
def z47:=zq4 "NoPlace" 68 67 52 239
def z48:=zt "super" (.fields #[.ref 68,.ref 68,.ref 68])
def z49:=D9 68
def z50:=zt "tuple" (.seq #[.str "gap" 266,.none,.ref 71])
def Zsc (P:Params)(t:List Obj):List Obj:=z43::z44::z45::(z46 P)::z47::z48::z49::z1::z50::t
def Rtree_117:Params->B:=fun P=>tO (h7_0 P (C6 P (C3 P (Da P (Zsc P [])))))
def d4 (P:Params):=d2 P++[ze P "PARTS_OF_WORDS" 307 (.ref 73),ze P "NAME_SIGNS" 309 (.str "abcdefghijklmnopqrstuvwxyz_" 308),ze P "FIGURES" 311 (.str "0123456789" 310),ze P "WORDS_NO_NAMES" 321 (.ref 74),ze P "WORDS_NOT_ODD" 332 (.ref 75),ze P "is_whole" 339 (.ref 82),ze P "is_name" 345 (.ref 87),ze P "is_figures" 351 (.ref 92),ze P "is_odd_sign" 358 (.ref 99),ze P "is_odd" 364 (.ref 104)]
def z51 (P:Params):=zt "dict" (.dict ⟨d4 P⟩ 24)
def y4:List (Int×Int×Addr):=y2++[(19,0,81),(21,0,86),(25,0,91),(29,0,98),(31,0,103)]
def z52:=zy y4
def Zok (P:Params)(t:List Obj):List Obj:=C9 P (z51 P) z52 t
def d5 (P:Params):=[ze P "gap" 268 (.int 0 269),ze P "odd" 270 (.int 0 271),ze P "num" 272 (.int 0 273),ze P "truth" 274 (.int 0 275),ze P "name" 276 (.int 0 277),ze P "plus" 278 (.int 2 279),ze P "minus" 280 (.int 2 281),ze P "less" 282 (.int 2 283),ze P "call" 284 (.int 2 285),ze P "if" 286 (.int 3 287),ze P "fn" 288 (.int 1 289),ze P "rec" 290 (.int 1 291),ze P "let" 292 (.int 2 293)]
def z53 (P:Params):=zt "dict" (.dict ⟨d5 P⟩ 13)
def z54:=zu [("let",312),("in",313),("if",314),("then",315),("else",316),("fn",317),("rec",318),("yes",319),("no",320)]
def z55:=zu [("let",322),("if",323),("fn",324),("rec",325),("yes",326),("no",327),("?",328),("+",329),("-",330),("<",331)]
def z56:=zu [("thing",336)]
def Dj (P:Params)(t:List Obj):List Obj:=z43::z44::z45::(z46 P)::z47::z48::z49::z1::z50::(z53 P)::z54::z55::z1::z8::z56::z1::t
def z57:=zj "is_whole" Lg
def z58:=zb "is_whole" 333 19 1 3 76 337 338
def z59:=zi "is_whole" Lg "gapscribe.forms" 264 81
def z60:=zj "is_name" Mq
def z61:=zk "is_name" "is_name" 340 21 1 3 83 true (.ref 85) 343 344
def z62:=zi "is_name" Mq "gapscribe.forms" 264 86
def z63:=zj "is_figures" Jo
def z64:=zk "is_figures" "is_figures" 346 25 1 3 88 true (.ref 90) 349 350
def z65:=zi "is_figures" Jo "gapscribe.forms" 264 91
def z66:=zu [("sign",355)]
def Dn (P:Params)(t:List Obj):List Obj:=z57::z58::z59::z1::z8::z60::z61::z62::z1::z8::z63::z64::z65::z1::z8::z66::t
def z67:=zj "is_odd_sign" Lp
def z68:=zb "is_odd_sign" 352 29 1 3 93 356 357
def z69:=zi "is_odd_sign" Lp "gapscribe.forms" 264 98
def z70:=zj "is_odd" Ki
def z71:=zk "is_odd" "is_odd" 359 31 1 3 100 true (.ref 102) 362 363
def z72:=zi "is_odd" Ki "gapscribe.forms" 264 103
def Zml (P:Params)(t:List Obj):List Obj:=z1::z67::z68::z69::z1::z8::z70::z71::z72::t
def Rtree_151:Params->B:=fun P=>tO (Zok P (C6 P (C3 P (Da P (Dj P (Dn P (Zml P [])))))))
def d6 (P:Params):=[ze P "__name__" 165 (.str "gapscribe.deeds" 469),ze P "__doc__" 166 .none,ze P "__package__" 167 .none,ze P "__loader__" 168 (.builtin "__main__.__loader__#opaque"),ze P "__spec__" 169 .none,ze P "__annotations__" 170 (.ref 6),ze P "__builtins__" 171 (.ref 4),ze P "__file__" 173 (.str "/claim/cut.py" 172),ze P "__cached__" 174 .none,ze P "GapError" 206 (.ref 24),ze P "NoForm" 222 (.ref 37),ze P "NoDeed" 238 (.ref 49),ze P "NoPlace" 263 (.ref 68),ze P "GAP" 267 (.ref 72),ze P "PARTS_OF_WORDS" 307 (.ref 73),ze P "NAME_SIGNS" 309 (.str "abcdefghijklmnopqrstuvwxyz_" 308),ze P "FIGURES" 311 (.str "0123456789" 310),ze P "WORDS_NO_NAMES" 321 (.ref 74),ze P "WORDS_NOT_ODD" 332 (.ref 75),ze P "is_whole" 339 (.ref 82),ze P "is_name" 345 (.ref 87),ze P "is_figures" 351 (.ref 92),ze P "is_odd_sign" 358 (.ref 99),ze P "is_odd" 364 (.ref 104),ze P "is_word" 371 (.ref 111),ze P "is_two_names" 378 (.ref 118),ze P "is_note" 386 (.ref 125),ze P "is_top_of_form" 393 (.ref 132),ze P "is_form" 402 (.ref 139),ze P "many_parts" 409 (.ref 146),ze P "bare" 418 (.ref 153),ze P "has_part" 428 (.ref 160),ze P "forms_down_to" 438 (.ref 167),ze P "form_at" 446 (.ref 174),ze P "with_part" 456 (.ref 181),ze P "with_at" 468 (.ref 188)]
def z73 (P:Params):=zt "dict" (.dict ⟨d6 P⟩ 36)
def y5:List (Int×Int×Addr):=y4++[(37,0,110),(39,0,117),(41,0,124),(53,0,131),(59,0,138),(67,0,145),(71,0,152),(77,0,159),(79,0,166),(86,0,173),(88,0,180),(91,0,187)]
def z74:=zy y5
def Zj9 (P:Params)(t:List Obj):List Obj:=C9 P (z73 P) z74 t
def z75:=zu [("thing",368)]
def z76:=zj "is_word" Ks
def z77:=zb "is_word" 365 37 1 3 105 369 370
def z78:=zi "is_word" Ks "gapscribe.forms" 264 110
def D6 (P:Params)(t:List Obj):List Obj:=z1::z67::z68::z69::z1::z8::z70::z71::z72::z1::z8::z75::z1::z76::z77::z78::t
def z79:=zu [("thing",375)]
def z80:=zj "is_two_names" Kj
def z81:=zb "is_two_names" 372 39 1 3 112 376 377
def z82:=zi "is_two_names" Kj "gapscribe.forms" 264 117
def z83:=zu [("word",382),("note",383)]
def z84:=zj "is_note" Mf
def z85:=zb "is_note" 379 41 2 3 119 384 385
def z86:=zi "is_note" Mf "gapscribe.forms" 264 124
def Dp (P:Params)(t:List Obj):List Obj:=z1::z8::z79::z1::z80::z81::z82::z1::z8::z83::z1::z84::z85::z86::z1::z8::t
def z87:=zu [("thing",390)]
def z88:=zj "is_top_of_form" Mb
def z89:=zb "is_top_of_form" 387 53 1 3 126 391 392
def z90:=zi "is_top_of_form" Mb "gapscribe.forms" 264 131
def z91:=zu [("thing",397),("waiting",398),("top",399)]
def z92:=zj "is_form" Jj
def z93:=zb "is_form" 394 59 1 3 133 400 401
def z94:=zi "is_form" Jj "gapscribe.forms" 264 138
def z95:=zu [("word",406)]
def D3 (P:Params)(t:List Obj):List Obj:=z87::z1::z88::z89::z90::z1::z8::z91::z1::z92::z93::z94::z1::z8::z95::z1::t
def z96:=zj "many_parts" Ju
def z97:=zb "many_parts" 403 67 1 3 140 407 408
def z98:=zi "many_parts" Ju "gapscribe.forms" 264 145
def z99:=zu [("word",413),("note",414),("many",415)]
def z100:=zj "bare" Lh
def z101:=zb "bare" 410 71 2 3 147 416 417
def z102:=zi "bare" Lh "gapscribe.forms" 264 152
def z103:=zu [("form",424),("number",425)]
def z104:=zj "has_part" Ke
def z105:=zb "has_part" 421 77 2 3 154 426 427
def D5 (P:Params)(t:List Obj):List Obj:=z96::z97::z98::z1::z8::z99::z1::z100::z101::z102::z1::z8::z103::z1::z104::z105::t
def z106:=zi "has_part" Ke "gapscribe.places" 419 159
def z107:=zu [("tree",432),("place",433),("passed",434),("number",435)]
def z108:=zj "forms_down_to" Mt
def z109:=zb "forms_down_to" 429 79 2 3 161 436 437
def z110:=zi "forms_down_to" Mt "gapscribe.places" 419 166
def z111:=zu [("tree",442),("place",443)]
def z112:=zj "form_at" Jt
def z113:=zb "form_at" 439 86 2 3 168 444 445
def z114:=zi "form_at" Jt "gapscribe.places" 419 173
def Dy (P:Params)(t:List Obj):List Obj:=z106::z1::z8::z107::z1::z108::z109::z110::z1::z8::z111::z1::z112::z113::z114::z1::t
def z115:=zu [("form",450),("number",451),("part",452),("parts",453)]
def z116:=zj "with_part" Mh
def Zcu:Obj:=zb "with_part" 447 88 3 3 175 454 455
def Zbz:Obj:=zi "with_part" Mh "gapscribe.places" 419 180
def z119:=zu [("tree",460),("place",461),("form",462),("made",463),("number",464),("above",465)]
def z120:=zj "with_at" Lf
def Zb5:Obj:=zb "with_at" 457 91 3 3 182 466 467
def Zap:Obj:=zi "with_at" Lf "gapscribe.places" 419 187
def Zr5 (P:Params)(t:List Obj):List Obj:=z8::z115::z1::z116::Zcu::Zbz::z1::z8::z119::z1::z120::Zb5::Zap::t
def Rtree_239:Params->B:=fun P=>tO (Zj9 P (C6 P (C3 P (Da P (Dj P (Dn P (D6 P (Dp P (D3 P (D5 P (Dy P (Zr5 P []))))))))))))
def d7 (P:Params):=d6 P++[ze P "refuse_no_form" 477 (.ref 195),ze P "refuse_no_gap" 484 (.ref 202),ze P "Deed" 520 (.ref 226)]
def z123 (P:Params):=zt "dict" (.dict ⟨d7 P⟩ 39)
def y6:List (Int×Int×Addr):=y5++[(97,0,194),(100,0,201),(103,0,208)]
def z124:=zy y6
def Zmm (P:Params)(t:List Obj):List Obj:=C9 P (z123 P) z124 t
def z125:=zu [("thing",474)]
def Ef (P:Params)(t:List Obj):List Obj:=z8::z115::z1::z116::Zcu::Zbz::z1::z8::z119::z1::z120::Zb5::Zap::z1::z8::z125::t
def z126:=zj "refuse_no_form" Kd
def z127:=zb "refuse_no_form" 471 97 1 3 189 475 476
def z128:=zi "refuse_no_form" Kd "gapscribe.deeds" 469 194
def z129:=zu [("form",481)]
def z130:=zj "refuse_no_gap" J4
def z131:=zb "refuse_no_gap" 478 100 1 3 196 482 483
def z132:=zi "refuse_no_gap" J4 "gapscribe.deeds" 469 201
def d8 (P:Params):=[ze P "__module__" 492 (.str "gapscribe.deeds" 469),ze P "__qualname__" 494 (.str "Deed" 493),ze P "__firstlineno__" 496 (.int 103 495),ze P "done" 504 (.ref 216),ze P "back" 512 (.ref 223),ze P "__static_attributes__" 513 (.ref 224)]
def z133 (P:Params):=zt "dict" (.dict ⟨d8 P⟩ 6)
noncomputable def y7:List (Int×Int×Addr):=[(105,4,215),(108,4,222)]
def z134:=zy y7
def Ec (P:Params)(t:List Obj):List Obj:=z1::z126::z127::z128::z1::z8::z129::z1::z130::z131::z132::z1::z6::(z133 P)::z1::z134::t
def z135:=zk "Deed" "Deed" 487 103 0 0 206 false .none 490 491
def z136:=Dz 208 205 "gapscribe.deeds" 469
def z137:=zu [("self",500),("form",501)]
def z138:=zh "done" "Deed.done" Jq
def z139:=zc "done" "Deed.done" 497 105 2 3 210 502 503
def z140:=zf "done" "Deed.done" Jq "gapscribe.deeds" 469 215
def z141:=zu [("self",508),("form",509)]
def z142:=zh "back" "Deed.back" Ky
def z143:=zc "back" "Deed.back" 505 108 2 3 217 510 511
def z144:=zf "back" "Deed.back" Ky "gapscribe.deeds" 469 222
def D8 (P:Params)(t:List Obj):List Obj:=z135::z136::z1::z8::z137::z1::z138::z139::z140::z1::z8::z141::z1::z142::z143::z144::t
def d9 (P:Params):=[ze P "__module__" 492 (.str "gapscribe.deeds" 469),ze P "__firstlineno__" 496 (.int 103 495),ze P "done" 504 (.ref 216),ze P "back" 512 (.ref 223),ze P "__static_attributes__" 513 (.ref 224),ze P "__dict__" 515 (.ref 227),ze P "__weakref__" 517 (.ref 228),ze P "__doc__" 518 .none]
def Nb (P:Params):Obj:=zt "dict" (.dict ⟨d9 P⟩ 4)
noncomputable def Ge (x0:List Value):Obj:=Obj.mk (.type "type") none (.cls (ClassData.mk "Deed" [.type "object"] [.ref 226,.type "object"] 225 "Deed" true [] x0 false none false)) #[none,none,some (.str "Deed" 485),some (.str "Deed" 493),some (.builtin "object.__new__"),some (.bool true)]
def z146:=Ge []
def Zau:Obj:=zt "getset_descriptor" (.fields #[.str "__dict__" 514,.ref 226,.builtin "function.__dict__",.builtin "function.__dict__#set"])
def Zaz:Obj:=zt "getset_descriptor" (.fields #[.str "__weakref__" 516,.ref 226,.builtin "ExceptionGroup.__weakref__",.none])
def Zd2:Obj:=zt "super" (.fields #[.ref 226,.ref 226,.ref 226])
def Zec:Obj:=D9 226
def Zqg (P:Params)(t:List Obj):List Obj:=z1::(Nb P)::z146::Zau::Zaz::Zd2::Zec::t
def Rtree_283:Params->B:=fun P=>tO (Zmm P (C6 P (C3 P (Da P (Dj P (Dn P (D6 P (Dp P (D3 P (D5 P (Dy P (Ef P (Ec P (D8 P (Zqg P [])))))))))))))))
def d10 (P:Params):=d7 P++[ze P "Put" 562 (.ref 262)]
def z151 (P:Params):=zt "dict" (.dict ⟨d10 P⟩ 40)
def y8:List (Int×Int×Addr):=y6++[(110,0,236)]
def z152:=zy y8
def Zlk (P:Params)(t:List Obj):List Obj:=C9 P (z151 P) z152 t
def z153:=Ge [.ref 262]
def Ga:Obj:=zt "tuple" (.seq #[.ref 226])
def d11 (P:Params):=[ze P "__module__" 528 (.str "gapscribe.deeds" 469),ze P "__qualname__" 530 (.str "Put" 529),ze P "__firstlineno__" 532 (.int 110 531),ze P "__init__" 541 (.ref 245),ze P "done" 549 (.ref 252),ze P "back" 557 (.ref 259),ze P "__static_attributes__" 559 (.ref 260)]
def z155 (P:Params):=zt "dict" (.dict ⟨d11 P⟩ 7)
noncomputable def y9:List (Int×Int×Addr):=[(112,4,244),(117,4,251),(121,4,258)]
def z156:=zy y9
def z157:=zk "Put" "Put" 523 110 0 0 234 false .none 526 527
def z158:=Dz 236 233 "gapscribe.deeds" 469
def Zd3:Obj:=zt "tuple" (.seq #[.none])
def Zrf (P:Params)(t:List Obj):List Obj:=z1::(Nb P)::z153::Zau::Zaz::Zd2::Zec::Ga::z6::(z155 P)::z1::z156::z157::z158::Zd3::z1::t
def z160:=zu [("self",536),("word",537),("note",538)]
def z161:=zh "__init__" "Put.__init__" Cg
def z162:=zc "__init__" "Put.__init__" 533 112 3 3 239 539 540
noncomputable def z163:=Obj.mk (Value.type "function") none (.func ⟨"__init__", "Put.__init__",Bm Cg,.stmts (Be Cg),Aj Cg,3,[],.ref 238,.none,.none,.str "gapscribe.deeds" 469,none,.ref 244,.none,0⟩) #[]
def z164:=zu [("self",545),("form",546)]
def z165:=zh "done" "Put.done" Mp
def z166:=zc "done" "Put.done" 542 117 2 3 246 547 548
def z167:=zf "done" "Put.done" Mp "gapscribe.deeds" 469 251
def z168:=zu [("self",553),("form",554)]
def Ep (P:Params)(t:List Obj):List Obj:=z8::z160::z1::z161::z162::z163::z1::z8::z164::z1::z165::z166::z167::z1::z8::z168::t
def z169:=zh "back" "Put.back" Km
def Zcd:Obj:=zc "back" "Put.back" 550 121 2 3 253 555 556
def Zcs:Obj:=zf "back" "Put.back" Km "gapscribe.deeds" 469 258
def z172:=zu [("form",558)]
def d12 (P:Params):=[ze P "__module__" 528 (.str "gapscribe.deeds" 469),ze P "__firstlineno__" 532 (.int 110 531),ze P "__init__" 541 (.ref 245),ze P "done" 549 (.ref 252),ze P "back" 557 (.ref 259),ze P "__static_attributes__" 559 (.ref 260),ze P "__doc__" 560 .none]
def Zdy (P:Params):Obj:=zt "dict" (.dict ⟨d12 P⟩ 2)
noncomputable def Hh (x0:Str)(x1:Nat)(x2:Nat)(x3:Nat)(x4:Nat):Obj:=Obj.mk (.type "type") none (.cls (ClassData.mk x0 [.ref 226] [.ref x1,.ref 226,.type "object"] x2 x0 true [] [] false none false)) #[some (.ref x3),none,some (.str x0 x4),some (.str x0 (x4+8)),some (.builtin "object.__new__"),some (.bool true)]
def Zc8:Obj:=Hh "Put" 262 261 231 521
def z175:=zt "super" (.fields #[.ref 262,.ref 262,.ref 262])
def z176:=D9 262
def Zjm (P:Params)(t:List Obj):List Obj:=z1::z169::Zcd::Zcs::z172::(Zdy P)::Zc8::z175::z176::t
def Rtree_320:Params->B:=fun P=>tO (Zlk P (C6 P (C3 P (Da P (Dj P (Dn P (D6 P (Dp P (D3 P (D5 P (Dy P (Ef P (Ec P (D8 P (Zrf P (Ep P (Zjm P [])))))))))))))))))
def d13 (P:Params):=d10 P++[ze P "Fill" 603 (.ref 295)]
def z177 (P:Params):=zt "dict" (.dict ⟨d13 P⟩ 41)
def y10:List (Int×Int×Addr):=y8++[(124,0,270)]
def z178:=zy y10
def Zqd (P:Params)(t:List Obj):List Obj:=C9 P (z177 P) z178 t
def z179:=Ge [.ref 262,.ref 295]
def Ir (P:Params)(x0:Obj)(t:List Obj):List Obj:=z1::(Nb P)::x0::Zau::Zaz::Zd2::Zec::Ga::z6::(z155 P)::z1::z156::z157::z158::Zd3::z1::t
def Zov (P:Params)(t:List Obj):List Obj:=Ir P z179 t
def d14 (P:Params):=[ze P "__module__" 570 (.str "gapscribe.deeds" 469),ze P "__qualname__" 572 (.str "Fill" 571),ze P "__firstlineno__" 574 (.int 124 573),ze P "__init__" 582 (.ref 278),ze P "done" 590 (.ref 285),ze P "back" 598 (.ref 292),ze P "__static_attributes__" 600 (.ref 293)]
def z180 (P:Params):=zt "dict" (.dict ⟨d14 P⟩ 7)
noncomputable def y11:List (Int×Int×Addr):=[(126,4,277),(132,4,284),(136,4,291)]
def z181:=zy y11
def z182:=zk "Fill" "Fill" 565 124 0 0 268 false .none 568 569
def z183:=Dz 270 267 "gapscribe.deeds" 469
def Fe (P:Params)(t:List Obj):List Obj:=z1::z169::Zcd::Zcs::z172::(Zdy P)::Zc8::z175::z176::Ga::z6::(z180 P)::z1::z181::z182::z183::t
def z184:=zu [("self",578),("form",579)]
def z185:=zh "__init__" "Fill.__init__" Lv
def z186:=zc "__init__" "Fill.__init__" 575 126 2 3 272 580 581
def z187:=zf "__init__" "Fill.__init__" Lv "gapscribe.deeds" 469 277
def z188:=zu [("self",586),("form",587)]
def z189:=zh "done" "Fill.done" Le
def z190:=zc "done" "Fill.done" 583 132 2 3 279 588 589
def z191:=zf "done" "Fill.done" Le "gapscribe.deeds" 469 284
def Fa (P:Params)(t:List Obj):List Obj:=z1::z8::z184::z1::z185::z186::z187::z1::z8::z188::z1::z189::z190::z191::z1::z8::t
def z192:=zu [("self",594),("form",595)]
def z193:=zh "back" "Fill.back" Lj
def Zeg:Obj:=zc "back" "Fill.back" 591 136 2 3 286 596 597
def Zdz:Obj:=zf "back" "Fill.back" Lj "gapscribe.deeds" 469 291
def z196:=zu [("form",599)]
def d15 (P:Params):=[ze P "__module__" 570 (.str "gapscribe.deeds" 469),ze P "__firstlineno__" 574 (.int 124 573),ze P "__init__" 582 (.ref 278),ze P "done" 590 (.ref 285),ze P "back" 598 (.ref 292),ze P "__static_attributes__" 600 (.ref 293),ze P "__doc__" 601 .none]
def Zcy (P:Params):Obj:=zt "dict" (.dict ⟨d15 P⟩ 2)
def Zdp:Obj:=Hh "Fill" 295 294 265 563
def z199:=zt "super" (.fields #[.ref 295,.ref 295,.ref 295])
def z200:=D9 295
def Zvg (P:Params)(t:List Obj):List Obj:=z192::z1::z193::Zeg::Zdz::z196::(Zcy P)::Zdp::z199::z200::t
def Rtree_356:Params->B:=fun P=>tO (Zqd P (C6 P (C3 P (Da P (Dj P (Dn P (D6 P (Dp P (D3 P (D5 P (Dy P (Ef P (Ec P (D8 P (Zov P (Ep P (Fe P (Fa P (Zvg P [])))))))))))))))))))
def d16 (P:Params):=d13 P++[ze P "Cut" 635 (.ref 321)]
def z201 (P:Params):=zt "dict" (.dict ⟨d16 P⟩ 42)
def y12:List (Int×Int×Addr):=y10++[(139,0,303)]
def z202:=zy y12
def Zor (P:Params)(t:List Obj):List Obj:=C9 P (z201 P) z202 t
def z203:=Ge [.ref 262,.ref 295,.ref 321]
def Zjv (P:Params)(t:List Obj):List Obj:=Ir P z203 t
def d17 (P:Params):=[ze P "__module__" 611 (.str "gapscribe.deeds" 469),ze P "__qualname__" 613 (.str "Cut" 612),ze P "__firstlineno__" 615 (.int 139 614),ze P "done" 623 (.ref 311),ze P "back" 631 (.ref 318),ze P "__static_attributes__" 632 (.ref 319)]
def z204 (P:Params):=zt "dict" (.dict ⟨d17 P⟩ 6)
noncomputable def y13:List (Int×Int×Addr):=[(141,4,310),(146,4,317)]
def z205:=zy y13
def z206:=zk "Cut" "Cut" 606 139 0 0 301 false .none 609 610
def Fy (P:Params)(t:List Obj):List Obj:=z192::z1::z193::Zeg::Zdz::z196::(Zcy P)::Zdp::z199::z200::Ga::z6::(z204 P)::z1::z205::z206::t
def z207:=Dz 303 300 "gapscribe.deeds" 469
def z208:=zu [("self",619),("form",620)]
def z209:=zh "done" "Cut.done" Kc
def z210:=zc "done" "Cut.done" 616 141 2 3 305 621 622
def z211:=zf "done" "Cut.done" Kc "gapscribe.deeds" 469 310
def z212:=zu [("self",627),("form",628)]
def z213:=zh "back" "Cut.back" L9
def z214:=zc "back" "Cut.back" 624 146 2 3 312 629 630
def z215:=zf "back" "Cut.back" L9 "gapscribe.deeds" 469 317
def Fj (P:Params)(t:List Obj):List Obj:=z207::z1::z8::z208::z1::z209::z210::z211::z1::z8::z212::z1::z213::z214::z215::z1::t
def d18 (P:Params):=[ze P "__module__" 611 (.str "gapscribe.deeds" 469),ze P "__firstlineno__" 615 (.int 139 614),ze P "done" 623 (.ref 311),ze P "back" 631 (.ref 318),ze P "__static_attributes__" 632 (.ref 319),ze P "__doc__" 633 .none]
def Zdo (P:Params):Obj:=zt "dict" (.dict ⟨d18 P⟩ 2)
def Zcr:Obj:=Hh "Cut" 321 320 298 604
def z218:=zt "super" (.fields #[.ref 321,.ref 321,.ref 321])
def z219:=D9 321
def Zsr (P:Params)(t:List Obj):List Obj:=(Zdo P)::Zcr::z218::z219::t
def Rtree_385:Params->B:=fun P=>tO (Zor P (C6 P (C3 P (Da P (Dj P (Dn P (D6 P (Dp P (D3 P (D5 P (Dy P (Ef P (Ec P (D8 P (Zjv P (Ep P (Fe P (Fa P (Fy P (Fj P (Zsr P [])))))))))))))))))))))
def d19 (P:Params):=d16 P++[ze P "Wrap" 680 (.ref 355)]
def z220 (P:Params):=zt "dict" (.dict ⟨d19 P⟩ 43)
def y14:List (Int×Int×Addr):=y12++[(149,0,329)]
def z221:=zy y14
def Zsf (P:Params)(t:List Obj):List Obj:=C9 P (z220 P) z221 t
def z222:=Ge [.ref 262,.ref 295,.ref 321,.ref 355]
def Zvb (P:Params)(t:List Obj):List Obj:=Ir P z222 t
def d20 (P:Params):=[ze P "__module__" 643 (.str "gapscribe.deeds" 469),ze P "__qualname__" 645 (.str "Wrap" 644),ze P "__firstlineno__" 647 (.int 149 646),ze P "__init__" 658 (.ref 338),ze P "done" 666 (.ref 345),ze P "back" 674 (.ref 352),ze P "__static_attributes__" 677 (.ref 353)]
def z223 (P:Params):=zt "dict" (.dict ⟨d20 P⟩ 7)
noncomputable def y15:List (Int×Int×Addr):=[(151,4,337),(157,4,344),(160,4,351)]
def z224:=zy y15
def z225:=zk "Wrap" "Wrap" 638 149 0 0 327 false .none 641 642
def z226:=Dz 329 326 "gapscribe.deeds" 469
def z227:=zt "tuple" (.seq #[.none,.int 0 648])
def z228:=zu [("self",652),("word",653),("note",654),("at",655)]
def Gg (P:Params)(t:List Obj):List Obj:=(Zdo P)::Zcr::z218::z219::Ga::z6::(z223 P)::z1::z224::z225::z226::z227::z1::z8::z228::z1::t
def z229:=zh "__init__" "Wrap.__init__" Ck
def z230:=zc "__init__" "Wrap.__init__" 649 151 4 3 332 656 657
noncomputable def z231:=Obj.mk (Value.type "function") none (.func ⟨"__init__", "Wrap.__init__",Bm Ck,.stmts (Be Ck),Aj Ck,3,[],.ref 331,.none,.none,.str "gapscribe.deeds" 469,none,.ref 337,.none,0⟩) #[]
def z232:=zu [("self",662),("form",663)]
def z233:=zh "done" "Wrap.done" Mm
def z234:=zc "done" "Wrap.done" 659 157 2 3 339 664 665
def z235:=zf "done" "Wrap.done" Mm "gapscribe.deeds" 469 344
def z236:=zu [("self",670),("form",671)]
def z237:=zh "back" "Wrap.back" Jp
def z238:=zc "back" "Wrap.back" 667 160 2 3 346 672 673
def F6 (P:Params)(t:List Obj):List Obj:=z229::z230::z231::z1::z8::z232::z1::z233::z234::z235::z1::z8::z236::z1::z237::z238::t
def Zco:Obj:=zf "back" "Wrap.back" Jp "gapscribe.deeds" 469 351
def z240:=zu [("at",675),("form",676)]
def d21 (P:Params):=[ze P "__module__" 643 (.str "gapscribe.deeds" 469),ze P "__firstlineno__" 647 (.int 149 646),ze P "__init__" 658 (.ref 338),ze P "done" 666 (.ref 345),ze P "back" 674 (.ref 352),ze P "__static_attributes__" 677 (.ref 353),ze P "__doc__" 678 .none]
def Zbu (P:Params):Obj:=zt "dict" (.dict ⟨d21 P⟩ 2)
def Za4:Obj:=Hh "Wrap" 355 354 324 636
def z243:=zt "super" (.fields #[.ref 355,.ref 355,.ref 355])
def z244:=D9 355
def Zm8 (P:Params)(t:List Obj):List Obj:=Zco::z240::(Zbu P)::Za4::z243::z244::t
def Rtree_422:Params->B:=fun P=>tO (Zsf P (C6 P (C3 P (Da P (Dj P (Dn P (D6 P (Dp P (D3 P (D5 P (Dy P (Ef P (Ec P (D8 P (Zvb P (Ep P (Fe P (Fa P (Fy P (Fj P (Gg P (F6 P (Zm8 P [])))))))))))))))))))))))
def d22 (P:Params):=d19 P++[ze P "Keep" 722 (.ref 389)]
def z245 (P:Params):=zt "dict" (.dict ⟨d22 P⟩ 44)
def y16:List (Int×Int×Addr):=y14++[(162,0,363)]
def z246:=zy y16
def Zkb (P:Params)(t:List Obj):List Obj:=C9 P (z245 P) z246 t
def z247:=Ge [.ref 262,.ref 295,.ref 321,.ref 355,.ref 389]
def Zlf (P:Params)(t:List Obj):List Obj:=Ir P z247 t
def d23 (P:Params):=[ze P "__module__" 688 (.str "gapscribe.deeds" 469),ze P "__qualname__" 690 (.str "Keep" 689),ze P "__firstlineno__" 692 (.int 162 691),ze P "__init__" 701 (.ref 372),ze P "done" 709 (.ref 379),ze P "back" 717 (.ref 386),ze P "__static_attributes__" 719 (.ref 387)]
def z248 (P:Params):=zt "dict" (.dict ⟨d23 P⟩ 7)
noncomputable def y17:List (Int×Int×Addr):=[(164,4,371),(167,4,378),(172,4,385)]
def z249:=zy y17
def z250:=zk "Keep" "Keep" 683 162 0 0 361 false .none 686 687
def z251:=Dz 363 360 "gapscribe.deeds" 469
def z252:=zt "tuple" (.seq #[.int 0 693])
def Hd (P:Params)(t:List Obj):List Obj:=Zco::z240::(Zbu P)::Za4::z243::z244::Ga::z6::(z248 P)::z1::z249::z250::z251::z252::z1::z8::t
def z253:=zu [("self",697),("at",698)]
def z254:=zh "__init__" "Keep.__init__" Ci
def z255:=zc "__init__" "Keep.__init__" 694 164 2 3 366 699 700
noncomputable def z256:=Obj.mk (Value.type "function") none (.func ⟨"__init__", "Keep.__init__",Bm Ci,.stmts (Be Ci),Aj Ci,3,[],.ref 365,.none,.none,.str "gapscribe.deeds" 469,none,.ref 371,.none,0⟩) #[]
def z257:=zu [("self",705),("form",706)]
def z258:=zh "done" "Keep.done" Mn
def z259:=zc "done" "Keep.done" 702 167 2 3 373 707 708
def z260:=zf "done" "Keep.done" Mn "gapscribe.deeds" 469 378
def z261:=zu [("self",713),("form",714)]
def Hq (P:Params)(t:List Obj):List Obj:=z253::z1::z254::z255::z256::z1::z8::z257::z1::z258::z259::z260::z1::z8::z261::z1::t
def z262:=zh "back" "Keep.back" Lb
def Zc5:Obj:=zc "back" "Keep.back" 710 172 2 3 380 715 716
def Zcb:Obj:=zf "back" "Keep.back" Lb "gapscribe.deeds" 469 385
def z265:=zu [("at",718)]
def d24 (P:Params):=[ze P "__module__" 688 (.str "gapscribe.deeds" 469),ze P "__firstlineno__" 692 (.int 162 691),ze P "__init__" 701 (.ref 372),ze P "done" 709 (.ref 379),ze P "back" 717 (.ref 386),ze P "__static_attributes__" 719 (.ref 387),ze P "__doc__" 720 .none]
def Zdi (P:Params):Obj:=zt "dict" (.dict ⟨d24 P⟩ 2)
def Zdv:Obj:=Hh "Keep" 389 388 358 681
def z268:=zt "super" (.fields #[.ref 389,.ref 389,.ref 389])
def z269:=D9 389
def Zpe (P:Params)(t:List Obj):List Obj:=z262::Zc5::Zcb::z265::(Zdi P)::Zdv::z268::z269::t
def Rtree_459:Params->B:=fun P=>tO (Zkb P (C6 P (C3 P (Da P (Dj P (Dn P (D6 P (Dp P (D3 P (D5 P (Dy P (Ef P (Ec P (D8 P (Zlf P (Ep P (Fe P (Fa P (Fy P (Fj P (Gg P (F6 P (Hd P (Hq P (Zpe P [])))))))))))))))))))))))))
def d25 (P:Params):=d22 P++[ze P "Note" 763 (.ref 422)]
def z270 (P:Params):=zt "dict" (.dict ⟨d25 P⟩ 45)
def y18:List (Int×Int×Addr):=y16++[(175,0,397)]
def z271:=zy y18
def Zuu (P:Params)(t:List Obj):List Obj:=C9 P (z270 P) z271 t
def z272:=Ge [.ref 262,.ref 295,.ref 321,.ref 355,.ref 389,.ref 422]
def Zqn (P:Params)(t:List Obj):List Obj:=Ir P z272 t
def d26 (P:Params):=[ze P "__module__" 730 (.str "gapscribe.deeds" 469),ze P "__qualname__" 732 (.str "Note" 731),ze P "__firstlineno__" 734 (.int 175 733),ze P "__init__" 742 (.ref 405),ze P "done" 750 (.ref 412),ze P "back" 758 (.ref 419),ze P "__static_attributes__" 760 (.ref 420)]
def z273 (P:Params):=zt "dict" (.dict ⟨d26 P⟩ 7)
noncomputable def y19:List (Int×Int×Addr):=[(177,4,404),(180,4,411),(185,4,418)]
def z274:=zy y19
def z275:=zk "Note" "Note" 725 175 0 0 395 false .none 728 729
def z276:=Dz 397 394 "gapscribe.deeds" 469
def Ii (P:Params)(t:List Obj):List Obj:=z262::Zc5::Zcb::z265::(Zdi P)::Zdv::z268::z269::Ga::z6::(z273 P)::z1::z274::z275::z276::z1::t
def z277:=zu [("self",738),("note",739)]
def z278:=zh "__init__" "Note.__init__" Mi
def z279:=zc "__init__" "Note.__init__" 735 177 2 3 399 740 741
def z280:=zf "__init__" "Note.__init__" Mi "gapscribe.deeds" 469 404
def z281:=zu [("self",746),("form",747)]
def z282:=zh "done" "Note.done" Jw
def z283:=zc "done" "Note.done" 743 180 2 3 406 748 749
def z284:=zf "done" "Note.done" Jw "gapscribe.deeds" 469 411
def z285:=zu [("self",754),("form",755)]
def Io (P:Params)(t:List Obj):List Obj:=z8::z277::z1::z278::z279::z280::z1::z8::z281::z1::z282::z283::z284::z1::z8::z285::t
def z286:=zh "back" "Note.back" J8
def Za7:Obj:=zc "back" "Note.back" 751 185 2 3 413 756 757
def Zc0:Obj:=zf "back" "Note.back" J8 "gapscribe.deeds" 469 418
def z289:=zu [("note",759)]
def d27 (P:Params):=[ze P "__module__" 730 (.str "gapscribe.deeds" 469),ze P "__firstlineno__" 734 (.int 175 733),ze P "__init__" 742 (.ref 405),ze P "done" 750 (.ref 412),ze P "back" 758 (.ref 419),ze P "__static_attributes__" 760 (.ref 420),ze P "__doc__" 761 .none]
def Zb0 (P:Params):Obj:=zt "dict" (.dict ⟨d27 P⟩ 2)
def Zc9:Obj:=Hh "Note" 422 421 392 723
def z292:=zt "super" (.fields #[.ref 422,.ref 422,.ref 422])
def z293:=D9 422
def Zs6 (P:Params)(t:List Obj):List Obj:=z1::z286::Za7::Zc0::z289::(Zb0 P)::Zc9::z292::z293::t
def Rtree_495:Params->B:=fun P=>tO (Zuu P (C6 P (C3 P (Da P (Dj P (Dn P (D6 P (Dp P (D3 P (D5 P (Dy P (Ef P (Ec P (D8 P (Zqn P (Ep P (Fe P (Fa P (Fy P (Fj P (Gg P (F6 P (Hd P (Hq P (Ii P (Io P (Zs6 P [])))))))))))))))))))))))))))
def d28 (P:Params):=[ze P "__name__" 165 (.str "law_gapscribe_k24_whole_taken_back" 818),ze P "__doc__" 166 .none,ze P "__package__" 167 .none,ze P "__loader__" 168 (.builtin "__main__.__loader__#opaque"),ze P "__spec__" 169 .none,ze P "__annotations__" 170 (.ref 6),ze P "__builtins__" 171 (.ref 4),ze P "__file__" 173 (.str "/claim/cut.py" 172),ze P "__cached__" 174 .none,ze P "GapError" 206 (.ref 24),ze P "NoForm" 222 (.ref 37),ze P "NoDeed" 238 (.ref 49),ze P "NoPlace" 263 (.ref 68),ze P "GAP" 267 (.ref 72),ze P "PARTS_OF_WORDS" 307 (.ref 73),ze P "NAME_SIGNS" 309 (.str "abcdefghijklmnopqrstuvwxyz_" 308),ze P "FIGURES" 311 (.str "0123456789" 310),ze P "WORDS_NO_NAMES" 321 (.ref 74),ze P "WORDS_NOT_ODD" 332 (.ref 75),ze P "is_whole" 339 (.ref 82),ze P "is_name" 345 (.ref 87),ze P "is_figures" 351 (.ref 92),ze P "is_odd_sign" 358 (.ref 99),ze P "is_odd" 364 (.ref 104),ze P "is_word" 371 (.ref 111),ze P "is_two_names" 378 (.ref 118),ze P "is_note" 386 (.ref 125),ze P "is_top_of_form" 393 (.ref 132),ze P "is_form" 402 (.ref 139),ze P "many_parts" 409 (.ref 146),ze P "bare" 418 (.ref 153),ze P "has_part" 428 (.ref 160),ze P "forms_down_to" 438 (.ref 167),ze P "form_at" 446 (.ref 174),ze P "with_part" 456 (.ref 181),ze P "with_at" 468 (.ref 188),ze P "refuse_no_form" 477 (.ref 195),ze P "refuse_no_gap" 484 (.ref 202),ze P "Deed" 520 (.ref 226),ze P "Put" 562 (.ref 262),ze P "Fill" 603 (.ref 295),ze P "Cut" 635 (.ref 321),ze P "Wrap" 680 (.ref 355),ze P "Keep" 722 (.ref 389),ze P "Note" 763 (.ref 422),ze P "Change" 804 (.ref 455),ze P "behind" 817 (.ref 464),ze P "_law_digit" 829 (.ref 471)]
def z294 (P:Params):=zt "dict" (.dict ⟨d28 P⟩ 48)
def y20:List (Int×Int×Addr):=y18++[(188,0,430),(200,0,463),(206,0,470)]
def z295:=zy y20
def Zuc (P:Params)(t:List Obj):List Obj:=C9 P (z294 P) z295 t
def z296:=Ge [.ref 262,.ref 295,.ref 321,.ref 355,.ref 389,.ref 422,.ref 455]
def Kk (P:Params)(t:List Obj):List Obj:=Ir P z296 t
def d29 (P:Params):=[ze P "__module__" 771 (.str "gapscribe.deeds" 469),ze P "__qualname__" 773 (.str "Change" 772),ze P "__firstlineno__" 775 (.int 188 774),ze P "__init__" 783 (.ref 438),ze P "done" 791 (.ref 445),ze P "back" 799 (.ref 452),ze P "__static_attributes__" 801 (.ref 453)]
def z297 (P:Params):=zt "dict" (.dict ⟨d29 P⟩ 7)
noncomputable def y21:List (Int×Int×Addr):=[(190,4,437),(194,4,444),(197,4,451)]
def z298:=zy y21
def z299:=zk "Change" "Change" 766 188 0 0 428 false .none 769 770
def z300:=Dz 430 427 "gapscribe.deeds" 469
def Lx (P:Params)(t:List Obj):List Obj:=z1::z286::Za7::Zc0::z289::(Zb0 P)::Zc9::z292::z293::Ga::z6::(z297 P)::z1::z298::z299::z300::t
def z301:=zu [("self",779),("form",780)]
def z302:=zh "__init__" "Change.__init__" Lw
def z303:=zc "__init__" "Change.__init__" 776 190 2 3 432 781 782
def z304:=zf "__init__" "Change.__init__" Lw "gapscribe.deeds" 469 437
def z305:=zu [("self",787),("form",788)]
def z306:=zh "done" "Change.done" Kp
def z307:=zc "done" "Change.done" 784 194 2 3 439 789 790
def z308:=zf "done" "Change.done" Kp "gapscribe.deeds" 469 444
def Jy (P:Params)(t:List Obj):List Obj:=z1::z8::z301::z1::z302::z303::z304::z1::z8::z305::z1::z306::z307::z308::z1::z8::t
def z309:=zu [("self",795),("form",796)]
def z310:=zh "back" "Change.back" Kx
def z311:=zc "back" "Change.back" 792 197 2 3 446 797 798
def z312:=zf "back" "Change.back" Kx "gapscribe.deeds" 469 451
def z313:=zu [("form",800)]
def d30 (P:Params):=[ze P "__module__" 771 (.str "gapscribe.deeds" 469),ze P "__firstlineno__" 775 (.int 188 774),ze P "__init__" 783 (.ref 438),ze P "done" 791 (.ref 445),ze P "back" 799 (.ref 452),ze P "__static_attributes__" 801 (.ref 453),ze P "__doc__" 802 .none]
def z314 (P:Params):=zt "dict" (.dict ⟨d30 P⟩ 2)
def z315:=Hh "Change" 455 454 425 764
def z316:=zt "super" (.fields #[.ref 455,.ref 455,.ref 455])
def z317:=D9 455
def z318:=zu [("tree",810),("row",811),("made",812),("place",813),("deed",814)]
def z319:=zj "behind" Kv
def z320:=zb "behind" 807 200 2 3 458 815 816
def J1 (P:Params)(t:List Obj):List Obj:=z309::z1::z310::z311::z312::z313::(z314 P)::z315::z316::z317::z1::z8::z318::z1::z319::z320::t
def Zaq:Obj:=zi "behind" Kv "gapscribe.ways" 805 463
def z322:=zu [("_law_box_here",823),("_law_many_here",824),("_law_digit_here",825),("_law_mixed",826)]
def z323:=zj "_law_digit" K9
def Zd8:Obj:=zb "_law_digit" 820 206 2 3 465 827 828
def Zcj:Obj:=zi "_law_digit" K9 "law_gapscribe_k24_whole_taken_back" 818 470
def Zs5 (P:Params)(t:List Obj):List Obj:=Zaq::z1::z8::z322::z1::z323::Zd8::Zcj::t
def Rtree_545:Params->B:=fun P=>tO (Zuc P (C6 P (C3 P (Da P (Dj P (Dn P (D6 P (Dp P (D3 P (D5 P (Dy P (Ef P (Ec P (D8 P (Kk P (Ep P (Fe P (Fa P (Fy P (Fj P (Gg P (F6 P (Hd P (Hq P (Ii P (Io P (Lx P (Jy P (J1 P (Zs5 P []))))))))))))))))))))))))))))))
def d31 (P:Params):=d28 P++[ze P "_law_box" 841 (.ref 478),ze P "_law_name" 847 (.ref 483),ze P "_law_one_of" 855 (.ref 490),ze P "_law_all_of" 864 (.ref 497),ze P "_law_odd" 870 (.ref 502),ze P "_law_remark" 879 (.ref 509),ze P "_law_head" 890 (.ref 516),ze P "_law_many" 897 (.ref 523),ze P "_law_bare" 903 (.ref 528),ze P "_law_tree" 918 (.ref 535),ze P "_law_small" 927 (.ref 542),ze P "_law_walk" 939 (.ref 549),ze P "_law_picked" 948 (.ref 556)]
def z326 (P:Params):=zt "dict" (.dict ⟨d31 P⟩ 61)
def y22:List (Int×Int×Addr):=y20++[(215,0,477),(225,0,482),(231,0,489),(235,0,496),(240,0,501),(253,0,508),(265,0,515),(269,0,522),(275,0,527),(277,0,534),(292,0,541),(297,0,548),(306,0,555)]
def z327:=zy y22
def Zo5 (P:Params)(t:List Obj):List Obj:=C9 P (z326 P) z327 t
def z328:=zu [("_law_script",833),("_law_k",834),("_law_many_here",835),("_law_mixed",836),("_law_j",837),("_law_cell",838)]
def z329:=zj "_law_box" Ln
def z330:=zb "_law_box" 830 215 2 3 472 839 840
def z331:=zi "_law_box" Ln "law_gapscribe_k24_whole_taken_back" 818 477
def My (P:Params)(t:List Obj):List Obj:=Zaq::z1::z8::z322::z1::z323::Zd8::Zcj::z1::z8::z328::z1::z329::z330::z331::z1::t
def z332:=zj "_law_name" Ly
def z333:=zk "_law_name" "_law_name" 842 225 1 3 479 true (.ref 481) 845 846
def z334:=zi "_law_name" Ly "law_gapscribe_k24_whole_taken_back" 818 482
def z335:=zu [("_law_box_here",851),("_law_pool",852)]
def z336:=zj "_law_one_of" Kb
def z337:=zb "_law_one_of" 848 231 2 3 484 853 854
def z338:=zi "_law_one_of" Kb "law_gapscribe_k24_whole_taken_back" 818 489
def z339:=zu [("_law_text",859),("_law_signs",860),("_law_sign",861)]
def z340:=zj "_law_all_of" Me
def Nv (P:Params)(t:List Obj):List Obj:=z8::z332::z333::z334::z1::z8::z335::z1::z336::z337::z338::z1::z8::z339::z1::z340::t
def z341:=zb "_law_all_of" 856 235 2 3 491 862 863
def z342:=zi "_law_all_of" Me "law_gapscribe_k24_whole_taken_back" 818 496
def z343:=zj "_law_odd" Jx
def z344:=zk "_law_odd" "_law_odd" 865 240 1 3 498 true (.ref 500) 868 869
def z345:=zi "_law_odd" Jx "law_gapscribe_k24_whole_taken_back" 818 501
def z346:=zu [("_law_word",874),("_law_box_here",875),("_law_pool",876)]
def z347:=zj "_law_remark" Lc
def z348:=zb "_law_remark" 871 253 3 3 503 877 878
def z349:=zi "_law_remark" Lc "law_gapscribe_k24_whole_taken_back" 818 508
def Ng (P:Params)(t:List Obj):List Obj:=z341::z342::z1::z8::z343::z344::z345::z1::z8::z346::z1::z347::z348::z349::z1::z8::t
def z350:=zu [("_law_box_here",883),("_law_pool",884),("_law_first",885),("_law_heads",886),("_law_word",887)]
def z351:=zj "_law_head" Li
def z352:=zb "_law_head" 880 265 3 3 510 888 889
def z353:=zi "_law_head" Li "law_gapscribe_k24_whole_taken_back" 818 515
def z354:=zu [("_law_word",894)]
def z355:=zj "_law_many" L6
def z356:=zb "_law_many" 891 269 1 3 517 895 896
def z357:=zi "_law_many" L6 "law_gapscribe_k24_whole_taken_back" 818 522
def z358:=zj "_law_bare" Kz
def z359:=zk "_law_bare" "_law_bare" 898 275 1 3 524 true (.ref 526) 901 902
def M8 (P:Params)(t:List Obj):List Obj:=z350::z1::z351::z352::z353::z1::z8::z354::z1::z355::z356::z357::z1::z8::z358::z359::t
def z360:=zi "_law_bare" Kz "law_gapscribe_k24_whole_taken_back" 818 527
def z361:=zu [("_law_box_here",907),("_law_pool",908),("_law_most",909),("_law_left",910),("_law_j",911),("_law_form_here",912),("_law_parts",913),("_law_k",914),("_law_tree_here",915)]
def z362:=zj "_law_tree" La
def z363:=zb "_law_tree" 904 277 3 3 529 916 917
def z364:=zi "_law_tree" La "law_gapscribe_k24_whole_taken_back" 818 534
def z365:=zu [("_law_box_here",922),("_law_pool",923),("_law_tree_here",924)]
def z366:=zj "_law_small" Mc
def z367:=zb "_law_small" 919 292 2 3 536 925 926
def z368:=zi "_law_small" Mc "law_gapscribe_k24_whole_taken_back" 818 541
def Of (P:Params)(t:List Obj):List Obj:=z360::z1::z8::z361::z1::z362::z363::z364::z1::z8::z365::z1::z366::z367::z368::z1::t
def z369:=zu [("_law_tree_here",931),("_law_rows",932),("_law_left",933),("_law_place",934),("_law_form_here",935),("_law_k",936)]
def z370:=zj "_law_walk" Jh
def Zda:Obj:=zb "_law_walk" 928 297 1 3 543 937 938
def Zch:Obj:=zi "_law_walk" Jh "law_gapscribe_k24_whole_taken_back" 818 548
def z373:=zu [("_law_box_here",943),("_law_tree_here",944),("_law_rows",945)]
def z374:=zj "_law_picked" Kw
def Zbm:Obj:=zb "_law_picked" 940 306 2 3 550 946 947
def Zav:Obj:=zi "_law_picked" Kw "law_gapscribe_k24_whole_taken_back" 818 555
def Zp9 (P:Params)(t:List Obj):List Obj:=z8::z369::z1::z370::Zda::Zch::z1::z8::z373::z1::z374::Zbm::Zav::t
def Rtree_632:Params->B:=fun P=>tO (Zo5 P (C6 P (C3 P (Da P (Dj P (Dn P (D6 P (Dp P (D3 P (D5 P (Dy P (Ef P (Ec P (D8 P (Kk P (Ep P (Fe P (Fa P (Fy P (Fj P (Gg P (F6 P (Hd P (Hq P (Ii P (Io P (Lx P (Jy P (J1 P (My P (Nv P (Ng P (M8 P (Of P (Zp9 P [])))))))))))))))))))))))))))))))))))
def d32 (P:Params):=d31 P++[ze P "_law_form" 958 (.ref 563),ze P "_law_with" 964 (.ref 568),ze P "_law_sort" 971 (.ref 575),ze P "_law_spec" 984 (.ref 582),ze P "_law_after" 990 (.ref 587),ze P "_law_make" 997 (.ref 594),ze P "_law_class" 1005 (.ref 601),ze P "_law_done" 1015 (.ref 608),ze P "_law_back" 1025 (.ref 615),ze P "_law_step" 1036 (.ref 622),ze P "_law_turned" 1050 (.ref 629),ze P "_law_good_back" 1060 (.ref 636)]
def z377 (P:Params):=zt "dict" (.dict ⟨d32 P⟩ 73)
def y23:List (Int×Int×Addr):=y22++[(309,0,562),(314,0,567),(321,0,574),(327,0,581),(348,0,586),(370,0,593),(398,0,600),(407,0,607),(414,0,614),(421,0,621),(429,0,628),(438,0,635)]
def z378:=zy y23
def Zj7 (P:Params)(t:List Obj):List Obj:=C9 P (z377 P) z378 t
def z379:=zu [("_law_tree_here",952),("_law_place",953),("_law_form_here",954),("_law_k",955)]
def Zb3 (P:Params)(t:List Obj):List Obj:=z8::z369::z1::z370::Zda::Zch::z1::z8::z373::z1::z374::Zbm::Zav::z1::z8::z379::t
def z380:=zj "_law_form" Mj
def z381:=zb "_law_form" 949 309 2 3 557 956 957
def z382:=zi "_law_form" Mj "law_gapscribe_k24_whole_taken_back" 818 562
def z383:=zj "_law_with" Lo
def z384:=zk "_law_with" "_law_with" 959 314 3 3 564 true (.ref 566) 962 963
def z385:=zi "_law_with" Lo "law_gapscribe_k24_whole_taken_back" 818 567
def z386:=zu [("_law_word",968)]
def z387:=zj "_law_sort" L7
def z388:=zb "_law_sort" 965 321 1 3 569 969 970
def z389:=zi "_law_sort" L7 "law_gapscribe_k24_whole_taken_back" 818 574
def Zcp (P:Params)(t:List Obj):List Obj:=z1::z380::z381::z382::z1::z8::z383::z384::z385::z1::z8::z386::z1::z387::z388::z389::t
def z390:=zu [("_law_box_here",975),("_law_form_here",976),("_law_pool",977),("_law_turn",978),("_law_head_here",979),("_law_word",980),("_law_remark_here",981)]
def z391:=zj "_law_spec" J6
def z392:=zb "_law_spec" 972 327 3 3 576 982 983
def z393:=zi "_law_spec" J6 "law_gapscribe_k24_whole_taken_back" 818 581
def z394:=zj "_law_after" Kg
def z395:=zk "_law_after" "_law_after" 985 348 2 3 583 true (.ref 585) 988 989
def z396:=zi "_law_after" Kg "law_gapscribe_k24_whole_taken_back" 818 586
def z397:=zu [("_law_spec_here",994)]
def Zai (P:Params)(t:List Obj):List Obj:=z1::z8::z390::z1::z391::z392::z393::z1::z8::z394::z395::z396::z1::z8::z397::z1::t
def z398:=zj "_law_make" L8
def z399:=zb "_law_make" 991 370 1 3 588 995 996
def z400:=zi "_law_make" L8 "law_gapscribe_k24_whole_taken_back" 818 593
def z401:=zu [("_law_e",1001),("_law_found",1002)]
def z402:=zj "_law_class" Jm
def z403:=zb "_law_class" 998 398 1 3 595 1003 1004
def z404:=zi "_law_class" Jm "law_gapscribe_k24_whole_taken_back" 818 600
def z405:=zu [("_law_deed",1009),("_law_form_here",1010),("_law_told",1011),("_law_e",1012)]
def z406:=zj "_law_done" Ma
def z407:=zb "_law_done" 1006 407 2 3 602 1013 1014
def Zdx (P:Params)(t:List Obj):List Obj:=z398::z399::z400::z1::z8::z401::z1::z402::z403::z404::z1::z8::z405::z1::z406::z407::t
def z408:=zi "_law_done" Ma "law_gapscribe_k24_whole_taken_back" 818 607
def z409:=zu [("_law_deed",1019),("_law_form_here",1020),("_law_told",1021),("_law_e",1022)]
def z410:=zj "_law_back" Ll
def z411:=zb "_law_back" 1016 414 2 3 609 1023 1024
def z412:=zi "_law_back" Ll "law_gapscribe_k24_whole_taken_back" 818 614
def z413:=zu [("_law_deed",1029),("_law_form_here",1030),("_law_cell",1031),("_law_back_here",1032),("_law_made",1033)]
def z414:=zj "_law_step" Ka
def z415:=zb "_law_step" 1026 421 3 3 616 1034 1035
def z416:=zi "_law_step" Ka "law_gapscribe_k24_whole_taken_back" 818 621
def Zc7 (P:Params)(t:List Obj):List Obj:=z408::z1::z8::z409::z1::z410::z411::z412::z1::z8::z413::z1::z414::z415::z416::z1::t
def z417:=zu [("_law_deed",1040),("_law_spec_here",1041),("_law_other",1042),("_law_form_here",1043),("_law_due",1044),("_law_there",1045),("_law_pair",1046),("_law_found",1047)]
def z418:=zj "_law_turned" Lu
def Ol:Obj:=zb "_law_turned" 1037 429 5 3 623 1048 1049
def Zd0:Obj:=zi "_law_turned" Lu "law_gapscribe_k24_whole_taken_back" 818 628
def z421:=zu [("_law_back_here",1054),("_law_form_here",1055),("_law_due",1056),("_law_twice",1057)]
def z422:=zj "_law_good_back" Kn
def Zck:Obj:=zb "_law_good_back" 1051 438 3 3 630 1058 1059
def Zbr:Obj:=zi "_law_good_back" Kn "law_gapscribe_k24_whole_taken_back" 818 635
def Zk3 (P:Params)(t:List Obj):List Obj:=z8::z417::z1::z418::Ol::Zd0::z1::z8::z421::z1::z422::Zck::Zbr::t
def Rtree_714:Params->B:=fun P=>tO (Zj7 P (C6 P (C3 P (Da P (Dj P (Dn P (D6 P (Dp P (D3 P (D5 P (Dy P (Ef P (Ec P (D8 P (Kk P (Ep P (Fe P (Fa P (Fy P (Fj P (Gg P (F6 P (Hd P (Hq P (Ii P (Io P (Lx P (Jy P (J1 P (My P (Nv P (Ng P (M8 P (Of P (Zb3 P (Zcp P (Zai P (Zdx P (Zc7 P (Zk3 P []))))))))))))))))))))))))))))))))))))))))
def d33 (P:Params):=d32 P++[ze P "_law_led_back" 1075 (.ref 643),ze P "_law_all" 1094 (.ref 650),ze P "law" 1100 (.ref 655)]
def z425 (P:Params):=zt "dict" (.dict ⟨d33 P⟩ 76)
def y24:List (Int×Int×Addr):=y23++[(443,0,642),(455,0,649),(476,0,654)]
def z426:=zy y24
def Zft (P:Params)(t:List Obj):List Obj:=C9 P (z425 P) z426 t
def z427:=zu [("_law_first",1064),("_law_tree_here",1065),("_law_steps",1066),("_law_row",1067),("_law_again",1068),("_law_here",1069),("_law_place",1070),("_law_back_here",1071),("_law_form_here",1072)]
def Zgv (P:Params)(t:List Obj):List Obj:=z8::z417::z1::z418::Ol::Zd0::z1::z8::z421::z1::z422::Zck::Zbr::z1::z8::z427::t
def z428:=zj "_law_led_back" Jl
def z429:=zb "_law_led_back" 1061 443 3 3 637 1073 1074
def z430:=zi "_law_led_back" Jl "law_gapscribe_k24_whole_taken_back" 818 642
def z431:=zu [("_law_first",1079),("_law_box_here",1080),("_law_pool",1081),("_law_tree_here",1082),("_law_steps",1083),("_law_j",1084),("_law_place",1085),("_law_form_here",1086),("_law_spec_here",1087),("_law_due",1088),("_law_deed",1089),("_law_back_here",1090),("_law_made",1091)]
def z432:=zj "_law_all" Jk
def z433:=zb "_law_all" 1076 455 3 3 644 1092 1093
def z434:=zi "_law_all" Jk "law_gapscribe_k24_whole_taken_back" 818 649
def z435:=zj "law" Ms
def z436:=zk "law" "law" 1095 476 1 3 651 true (.ref 653) 1098 1099
def z437:=zi "law" Ms "law_gapscribe_k24_whole_taken_back" 818 654
def Zhk (P:Params)(t:List Obj):List Obj:=z1::z428::z429::z430::z1::z8::z431::z1::z432::z433::z434::z1::z8::z435::z436::z437::t
def Rtree_735:Params->B:=fun P=>tO (Zft P (C6 P (C3 P (Da P (Dj P (Dn P (D6 P (Dp P (D3 P (D5 P (Dy P (Ef P (Ec P (D8 P (Kk P (Ep P (Fe P (Fa P (Fy P (Fj P (Gg P (F6 P (Hd P (Hq P (Ii P (Io P (Lx P (Jy P (J1 P (My P (Nv P (Ng P (M8 P (Of P (Zb3 P (Zcp P (Zai P (Zdx P (Zc7 P (Zgv P (Zhk P [])))))))))))))))))))))))))))))))))))))))))
def Rheap_736:Params->Heap:=fun P=>⟨⟨Zft P (C6 P (C3 P (Da P (Dj P (Dn P (D6 P (Dp P (D3 P (D5 P (Dy P (Ef P (Ec P (D8 P (Kk P (Ep P (Fe P (Fa P (Fy P (Fj P (Gg P (F6 P (Hd P (Hq P (Ii P (Io P (Lx P (Jy P (J1 P (My P (Nv P (Ng P (M8 P (Of P (Zb3 P (Zcp P (Zai P (Zdx P (Zc7 P (Zgv P (Zhk P []))))))))))))))))))))))))))))))))))))))))⟩,Life.mk [] [] [] 0 [] [] false #[] [] 0 false false false 0 [2000,10,10] false 0 true [] [] 0 false⟩
end
noncomputable def KK:Params->On:=fun P=>(nat_lit 2,boot_o_2 P)::(nat_lit 3,z425 P)::(nat_lit 23,z11 P)::(nat_lit 24,z36)::(nat_lit 36,z20 P)::(nat_lit 37,z21)::(nat_lit 48,z30 P)::(nat_lit 49,z31)::(nat_lit 67,z46 P)::(nat_lit 68,z47)::(nat_lit 71,z1)::(nat_lit 72,z50)::(nat_lit 73,z53 P)::(nat_lit 74,z54)::(nat_lit 75,z55)::(nat_lit 81,z58)::(nat_lit 82,z59)::(nat_lit 86,z61)::(nat_lit 87,z62)::(nat_lit 91,z64)::(nat_lit 92,z65)::(nat_lit 98,z68)::(nat_lit 99,z69)::(nat_lit 103,z71)::(nat_lit 104,z72)::(nat_lit 110,z77)::(nat_lit 111,z78)::(nat_lit 117,z81)::(nat_lit 118,z82)::(nat_lit 124,z85)::(nat_lit 125,z86)::(nat_lit 131,z89)::(nat_lit 132,z90)::(nat_lit 138,z93)::(nat_lit 139,z94)::(nat_lit 145,z97)::(nat_lit 146,z98)::(nat_lit 152,z101)::(nat_lit 153,z102)::(nat_lit 159,z105)::(nat_lit 160,z106)::(nat_lit 166,z109)::(nat_lit 167,z110)::(nat_lit 173,z113)::(nat_lit 174,z114)::(nat_lit 180,Zcu)::(nat_lit 181,Zbz)::(nat_lit 187,Zb5)::(nat_lit 188,Zap)::(nat_lit 194,z127)::(nat_lit 195,z128)::(nat_lit 201,z131)::(nat_lit 202,z132)::(nat_lit 215,z139)::(nat_lit 216,z140)::(nat_lit 222,z143)::(nat_lit 223,z144)::(nat_lit 225,Nb P)::(nat_lit 226,z296)::(nat_lit 238,Zd3)::(nat_lit 244,z162)::(nat_lit 245,z163)::(nat_lit 251,z166)::(nat_lit 252,z167)::(nat_lit 258,Zcd)::(nat_lit 259,Zcs)::(nat_lit 261,Zdy P)::(nat_lit 262,Zc8)::(nat_lit 277,z186)::(nat_lit 278,z187)::(nat_lit 284,z190)::(nat_lit 285,z191)::(nat_lit 291,Zeg)::(nat_lit 292,Zdz)::(nat_lit 294,Zcy P)::(nat_lit 295,Zdp)::(nat_lit 310,z210)::(nat_lit 311,z211)::(nat_lit 317,z214)::(nat_lit 318,z215)::(nat_lit 320,Zdo P)::(nat_lit 321,Zcr)::(nat_lit 331,z227)::(nat_lit 337,z230)::(nat_lit 338,z231)::(nat_lit 344,z234)::(nat_lit 345,z235)::(nat_lit 351,z238)::(nat_lit 352,Zco)::(nat_lit 354,Zbu P)::(nat_lit 355,Za4)::(nat_lit 365,z252)::(nat_lit 371,z255)::(nat_lit 372,z256)::(nat_lit 378,z259)::(nat_lit 379,z260)::(nat_lit 385,Zc5)::(nat_lit 386,Zcb)::(nat_lit 388,Zdi P)::(nat_lit 389,Zdv)::(nat_lit 404,z279)::(nat_lit 405,z280)::(nat_lit 411,z283)::(nat_lit 412,z284)::(nat_lit 418,Za7)::(nat_lit 419,Zc0)::(nat_lit 421,Zb0 P)::(nat_lit 422,Zc9)::(nat_lit 437,z303)::(nat_lit 438,z304)::(nat_lit 444,z307)::(nat_lit 445,z308)::(nat_lit 451,z311)::(nat_lit 452,z312)::(nat_lit 454,z314 P)::(nat_lit 455,z315)::(nat_lit 463,z320)::(nat_lit 464,Zaq)::(nat_lit 470,Zd8)::(nat_lit 471,Zcj)::(nat_lit 477,z330)::(nat_lit 478,z331)::(nat_lit 482,z333)::(nat_lit 483,z334)::(nat_lit 489,z337)::(nat_lit 490,z338)::(nat_lit 496,z341)::(nat_lit 497,z342)::(nat_lit 501,z344)::(nat_lit 502,z345)::(nat_lit 508,z348)::(nat_lit 509,z349)::(nat_lit 515,z352)::(nat_lit 516,z353)::(nat_lit 522,z356)::(nat_lit 523,z357)::(nat_lit 527,z359)::(nat_lit 528,z360)::(nat_lit 534,z363)::(nat_lit 535,z364)::(nat_lit 541,z367)::(nat_lit 542,z368)::(nat_lit 548,Zda)::(nat_lit 549,Zch)::(nat_lit 555,Zbm)::(nat_lit 556,Zav)::(nat_lit 562,z381)::(nat_lit 563,z382)::(nat_lit 567,z384)::(nat_lit 568,z385)::(nat_lit 574,z388)::(nat_lit 575,z389)::(nat_lit 581,z392)::(nat_lit 582,z393)::(nat_lit 586,z395)::(nat_lit 587,z396)::(nat_lit 593,z399)::(nat_lit 594,z400)::(nat_lit 600,z403)::(nat_lit 601,z404)::(nat_lit 607,z407)::(nat_lit 608,z408)::(nat_lit 614,z411)::(nat_lit 615,z412)::(nat_lit 621,z415)::(nat_lit 622,z416)::(nat_lit 628,Ol)::(nat_lit 629,Zd0)::(nat_lit 635,Zck)::(nat_lit 636,Zbr)::(nat_lit 642,z429)::(nat_lit 643,z430)::(nat_lit 649,z433)::(nat_lit 650,z434)::(nat_lit 654,z436)::(nat_lit 655,z437)::[]
noncomputable def KA:List Addr:=[2,3,23,24,36,37,48,49,67,68,71,72,73,74,75,81,82,86,87,91,92,98,99,103,104,110,111,117,118,124,125,131,132,138,139,145,146,152,153,159,160,166,167,173,174,180,181,187,188,194,195,201,202,215,216,222,223,225,226,238,244,245,251,252,258,259,261,262,277,278,284,285,291,292,294,295,310,311,317,318,320,321,331,337,338,344,345,351,352,354,355,365,371,372,378,379,385,386,388,389,404,405,411,412,418,419,421,422,437,438,444,445,451,452,454,455,463,464,470,471,477,478,482,483,489,490,496,497,501,502,508,509,515,516,522,523,527,528,534,535,541,542,548,549,555,556,562,563,567,568,574,575,581,582,586,587,593,594,600,601,607,608,614,615,621,622,628,629,635,636,642,643,649,650,654,655]
noncomputable def RB (P:Params):List Pn×List Heap:=([Rtree_78 P,Rtree_93 P,Rtree_117 P,Rtree_151 P,Rtree_239 P,Rtree_283 P,Rtree_320 P,Rtree_356 P,Rtree_385 P,Rtree_422 P,Rtree_459 P,Rtree_495 P,Rtree_545 P,Rtree_632 P,Rtree_714 P,Rtree_735 P],[Rheap_736 P])
theorem e_RB:RB=RB:=rfl
name_quick x_RB for K24.RB by K24.e_RB
end K24
namespace PySem.W.Fast
noncomputable def tw6018795938097005324:Pq->Pn:=tw10428914722565282171
theorem te6018795938097005324:K24.Rtree_78=tw6018795938097005324:=te10428914722565282171
noncomputable def tw17248887092197000646:Pq->Pn:=tw5094176171750903798
theorem te17248887092197000646:K24.Rtree_93=tw17248887092197000646:=te5094176171750903798
noncomputable def tw503712291892642691:Pq->Pn:=tw9451897052430857118
theorem te503712291892642691:K24.Rtree_117=tw503712291892642691:=te9451897052430857118
noncomputable def tw14861397608532245834:Pq->Pn:=tw14998591027248917308
theorem te14861397608532245834:K24.Rtree_151=tw14861397608532245834:=te14998591027248917308
noncomputable def tw9129153130277907340:Pq->Pn:=tw14496274460174406037
theorem te9129153130277907340:K24.Rtree_239=tw9129153130277907340:=te14496274460174406037
noncomputable def tw11691953472088586308:Pq->Pn:=tw7257873550065896643
theorem te11691953472088586308:K24.Rtree_283=tw11691953472088586308:=te7257873550065896643
noncomputable def tw10984666775862518017:Pq->Pn:=tw9456804124160726999
theorem te10984666775862518017:K24.Rtree_320=tw10984666775862518017:=te9456804124160726999
noncomputable def tw354897183537796798:Pq->Pn:=tw17525046432615020352
theorem te354897183537796798:K24.Rtree_356=tw354897183537796798:=te17525046432615020352
noncomputable def tw18093802060166447418:Pq->Pn:=tw11046544989312789258
theorem te18093802060166447418:K24.Rtree_385=tw18093802060166447418:=te11046544989312789258
noncomputable def tw17222491356761613145:Pq->Pn:=tw7235398589490342717
theorem te17222491356761613145:K24.Rtree_422=tw17222491356761613145:=te7235398589490342717
noncomputable def tw18155981933306105681:Pq->Pn:=tw8194167276355969053
theorem te18155981933306105681:K24.Rtree_459=tw18155981933306105681:=te8194167276355969053
noncomputable def tw331601101827827284:Pq->Pn:=tw60335432724560615
theorem te331601101827827284:K24.Rtree_495=tw331601101827827284:=te60335432724560615
noncomputable def tw14028605297365034633:Pq->Pn:=tw5452154048931364767
theorem te14028605297365034633:K24.Rtree_545=tw14028605297365034633:=te5452154048931364767
noncomputable def tw5480919807717951758:Pq->Pn:=tw12794377800715022681
theorem te5480919807717951758:K24.Rtree_632=tw5480919807717951758:=te12794377800715022681
noncomputable def tw7748442607847899313:Pq->Pn:=tw17884068577347063025
theorem te7748442607847899313:K24.Rtree_714=tw7748442607847899313:=te17884068577347063025
noncomputable def tw1898732583184919574:Pq->Pn:=tw7291352958604135298
theorem te1898732583184919574:K24.Rtree_735=tw1898732583184919574:=te7291352958604135298
noncomputable def tw7055209647509999219:Pq->PySem.Heap:=tw6135572275331060497
theorem te7055209647509999219:K24.Rheap_736=tw7055209647509999219:=te6135572275331060497
end PySem.W.Fast
local macro_rules | `(tactic| walk_at "gd")=>`(tactic| (refine' ⟨?ka,_,L2.fun_mk ?kl ?kc ?kk⟩; (case ka=>k_is); (case kl=>k_is); (case kc=>k_is); (case kk=>k_is)))
local macro_rules | `(tactic| walk_at "gm")=>`(tactic| (refine' ⟨?ka,?ki,_,L2.fun_mk ?kl ?kc ?kk⟩; (case ka=>k_is); (case ki=>k_is); (case kl=>k_is); (case kc=>k_is); (case kk=>k_is)))
namespace K24
open PySem L2 K10 K19
noncomputable abbrev Zdw:=Zgu
theorem all1 {α:Type}{P:List α->Prop}(h:∀ a,P [a]):∀ us:List α,us.length=1->P us
 | [a],_=>h a
theorem all2 {α:Type}{P:List α->Prop}(h:∀ a b,P [a,b]):∀ us:List α,us.length=2->P us
 | [a,b],_=>h a b
theorem all3 {α:Type}{P:List α->Prop}(h:∀ a b c,P [a,b,c]):∀ us:List α,us.length=3->P us
 | [a,b,c],_=>h a b c
theorem all5 {α:Type}{P:List α->Prop}(h:∀ a b c d e,P [a,b,c,d,e]):∀ us:List α,us.length=5->P us
 | [a,b,c,d,e],_=>h a b c d e
local macro_rules | `(tactic| walk_at "bi")=>`(tactic| first | exact fun _ _ _ _ _ _=>K24.all1 fun _=>rfl | exact fun _ _ _ _ _ _=>K24.all2 fun _ _=>rfl | exact fun _ _ _ _ _ _=>K24.all3 fun _ _ _=>rfl | exact fun _ _ _ _ _ _=>K24.all4 fun _ _ _ _=>rfl | exact fun _ _ _ _ _ _=>K24.all5 fun _ _ _ _ _=>rfl)
theorem Zpf {K:On}{GE:Addr}{ddG:Option Addr}{cdG:ClassData}{slG:Array (Option Value)}{cG:Value}(ho:K.lookup GE=some ⟨cG,ddG,.cls cdG,slG⟩)(hok:Sb K cdG.ns=true)(hni:Oz K cdG.ns "__init__" = some none):Ro K VE (.ref GE::VE)=true/\(Q8 K GE).isSome=true:=by
 have e:Ro K VE VE=true:=by unfold Ro;rfl
 refine ⟨?_,by unfold Q8;rw [ho];rfl⟩
 unfold Ro
 dsimp only
 rw [ho]
 dsimp only
 rw [hok,hni,e]
 simp
theorem Zol {K:On}{C GE:Addr}{ddC:Option Addr}{cdC:ClassData}{slC:Array (Option Value)}{k0 k1 k2 k3 k5:Option Value}(hC:K.lookup C=some ⟨.type "type",ddC,.cls cdC,slC⟩)(hm:cdC.mro=.ref C::.ref GE::VE)(hs:slC.toList=[k0,k1,k2,k3,some (.builtin "ValueError.__new__"),k5])(hd:cdC.hasDel=false)(h:Ro K VE (.ref GE::VE)=true):ExcI K C/\((Q8 K C).any fun cd=>Ig cd.mro)=true:=by
 refine ⟨?_,?_⟩
 ·obtain ⟨nm,bs,mro,ns,qn,hd',sn,sub,ab,col,del⟩:=cdC
  obtain ⟨l⟩:=slC
  dsimp only at hm hd hs
  subst hm hd hs
  exact ⟨_,_,_,_,_,_,_,_,_,_,_,_,_,_,_,_,hC,h⟩
 ·unfold Q8
  rw [hC]
  dsimp only
  show Ig cdC.mro=true
  rw [hm]
  show Ig VE=true
  decide
theorem Fo {K:On}{C X:Addr}{b:Bool}{c:Value}{dd:Option Addr}{cd:ClassData}{sl:Array (Option Value)}(hX:K.lookup X=some ⟨c,dd,.cls cd,sl⟩)(ht:Q4 K (.ref X)=some (.type "type"))(hs:Pe K (.ref C) (.ref X)=some b)(hn:b=false->(C == X)=false):O0 K (.ref C) (.ref X)=some b:=by
 unfold O0
 by_cases h:((Value.ref C) == (Value.ref X))=true
 ·rw [if_pos h]
  have e:=beq_iff_eq.mp h
  injection e with e
  subst e
  cases b with
  | true=>rfl
  | false=>have:=hn rfl;simp at this
 ·rw [if_neg h]
  unfold PySem.W.kitCls
  dsimp only
  rw [if_pos]
  ·exact hs
  ·rw [ht]
   unfold Q8
   rw [hX]
   simp
theorem Zm6 {K:On}{C:Addr}(hs:Pe K (.ref C) (.type "ValueError")=some true):O0 K (.ref C) (.type "ValueError")=some true:=by
 unfold O0
 rw [if_neg (by intro h;have:=beq_iff_eq.mp h;cases this)]
 unfold PySem.W.kitCls
 dsimp only
 rw [if_pos (by rfl)]
 exact hs
theorem Zvc {K:On}{C GE:Addr}{ddC:Option Addr}{cdC:ClassData}{slC:Array (Option Value)}{k0 k1 k2 k3 k5:Option Value}(hC:K.lookup C=some ⟨.type "type",ddC,.cls cdC,slC⟩)(hm:cdC.mro=.ref C::.ref GE::VE)(hs:slC.toList=[k0,k1,k2,k3,some (.builtin "ValueError.__new__"),k5])(hd:cdC.hasDel=false)(h:Ro K VE (.ref GE::VE)=true)(hok:Sb K cdC.ns=true)(hni:Oz K cdC.ns "__init__" = some none):G9 K C:=by
 obtain ⟨nm,bs,mro,ns,qn,hd',sn,sub,ab,col,del⟩:=cdC
 obtain ⟨l⟩:=slC
 dsimp only at hm hd hok hni hs
 subst hm hd hs
 exact ⟨_,_,_,_,_,_,_,_,_,_,_,_,_,_,_,_,hC,h,hok,hni⟩
theorem Zpj {K:On}{a e:Addr}{od:Option Addr}{its:Array Value}{n:Nat}{sl:Array (Option Value)}{tk:Tok}(l:K.lookup a=some ⟨.type "tuple",od,.seq its n,sl⟩)(h:its.toList=[.str "gap" tk,.none,.ref e]):∀ H,SqT K H a [.str "gap",.non,.ref e]:=fun H=>by
 have v:Vals [.str "gap",.non,.ref e] its.toList:=by rw [h];exact .cons ⟨tk,rfl⟩ (.cons rfl (.cons rfl .nil))
 refine .inr ⟨_,its,n,l,rfl,rfl,?_,v⟩
 have b:1000<=sizeLine:=by decide
 have e2:its.toList.length=its.size:=R7
 have e3:its.toList.length=3:=by rw [h];rfl
 omega
theorem calm {P:Program}{w:World}{K:On}{mg:Str->Option Value}{base:Heap}{k:Nat}{f:Addr}{fd:FuncData}{ps:List Str}{sp:Sp}(F:FnOk P w K mg base (A4 P w) k f fd ps sp):FnOk P w K mg base An k f fd ps (fun vs H Q _=>sp vs H Q E0):=by
 refine ⟨fun vs H Q E h=>F.len vs H Q E0 h,fun A outer s H args us vs Q E hr he hb hv h=>Rp (F.run A outer s H args us vs Q E0 hr he hb hv h) fun r s' hq=>?_⟩
 cases r with
 | error e =>
  obtain ⟨_,_,_,_,_,_,_,_,_,_,_,_,_,_,_,x⟩:=hq
  exact x.elim
 | ok fl =>
  cases fl with
  | ret u=>exact hq
  | _=>exact hq.elim
noncomputable def Zk7:List Value->List Value->List Value
 | [a,b],[c]=>[a,b,.none,c]
 | _,_=>[]
section
variable {K:On}{TD:Addr}{o1:Option Addr}{n1:Nat}{s1:Array (Option Value)}{tk:Tok}{kV doc pm cdv ct:Value}{an:Option Addr}
theorem kbK1 (ho:K.lookup TD=some ⟨.type "tuple",o1,.seq #[.int 0 tk] n1,s1⟩):El K (O6 "__init__" "Keep.__init__" (Bm Ci) (Be Ci) (Aj Ci) (.ref TD) kV doc pm an cdv ct) ["self", "at"] [] (fun us _=>us) (fun vs _=>vs) :=
 ⟨fun s us ws X hl=>by
  match us,(show us.length=2 by simpa using hl) with
  | [a,b],_=>exact Q3 X rfl ho rfl rfl rfl,fun h _=>h⟩
theorem kbK0 (ho:K.lookup TD=some ⟨.type "tuple",o1,.seq #[.int 0 tk] n1,s1⟩):El K (O6 "__init__" "Keep.__init__" (Bm Ci) (Be Ci) (Aj Ci) (.ref TD) kV doc pm an cdv ct) ["self", "at"] [] (fun us _=>us++[.int 0 tk]) (fun vs _=>vs++[.int 0]) :=
 ⟨fun s us ws X hl=>by
  match us,(show us.length=1 by simpa using hl) with
  | [a],_=>exact Q3 X rfl ho rfl rfl rfl,fun h _=>h.append (.cons ⟨_,rfl⟩ .nil)⟩
theorem kbKa (ho:K.lookup TD=some ⟨.type "tuple",o1,.seq #[.int 0 tk] n1,s1⟩):El K (O6 "__init__" "Keep.__init__" (Bm Ci) (Be Ci) (Aj Ci) (.ref TD) kV doc pm an cdv ct) ["self", "at"] ["at"] N8 N8 :=
 ⟨fun s us ws X hl=>by
  match us,ws,hl with
  | [a],[b],_=>exact Q3 X rfl ho rfl rfl rfl,fun h1 h2=>by
  cases h1 with
  | nil=>exact .nil
  | cons r0 t0 =>
   cases t0 with
   | cons _ _=>exact .nil
   | nil =>
    cases h2 with
    | nil=>exact .nil
    | cons w0 u0 =>
     cases u0 with
     | cons _ _=>exact .nil
     | nil=>exact .cons r0 (.cons w0 .nil)⟩
theorem kbP1 (ho:K.lookup TD=some ⟨.type "tuple",o1,.seq #[.none] n1,s1⟩):El K (O6 "__init__" "Put.__init__" (Bm Cg) (Be Cg) (Aj Cg) (.ref TD) kV doc pm an cdv ct) ["self", "word", "note"] [] (fun us _=>us++[.none]) (fun vs _=>vs++[.non]) :=
 ⟨fun s us ws X hl=>by
  match us,(show us.length=2 by simpa using hl) with
  | [a,b],_=>exact Q3 X rfl ho rfl rfl rfl,fun h _=>h.append (.cons rfl .nil)⟩
theorem kbPn (ho:K.lookup TD=some ⟨.type "tuple",o1,.seq #[.none] n1,s1⟩):El K (O6 "__init__" "Put.__init__" (Bm Cg) (Be Cg) (Aj Cg) (.ref TD) kV doc pm an cdv ct) ["self", "word", "note"] ["note"] M5 M5 :=
 ⟨fun s us ws X hl=>by
  match us,ws,hl with
  | [a,b],[c],_=>exact Q3 X rfl ho rfl rfl rfl,fun h1 h2=>by
  cases h1 with
  | nil=>exact .nil
  | cons r0 t0 =>
   cases t0 with
   | nil=>exact .nil
   | cons r1 t1 =>
    cases t1 with
    | cons _ _=>exact .nil
    | nil =>
     cases h2 with
     | nil=>exact .nil
     | cons w0 u0 =>
      cases u0 with
      | cons _ _=>exact .nil
      | nil=>exact .cons r0 (.cons r1 (.cons w0 .nil))⟩
theorem kbW3 (ho:K.lookup TD=some ⟨.type "tuple",o1,.seq #[.none,.int 0 tk] n1,s1⟩):El K (O6 "__init__" "Wrap.__init__" (Bm Ck) (Be Ck) (Aj Ck) (.ref TD) kV doc pm an cdv ct) ["self", "word", "note", "at"] [] (fun us _=>us) (fun vs _=>vs) :=
 ⟨fun s us ws X hl=>by
  match us,(show us.length=4 by simpa using hl) with
  | [a,b,c,d],_=>exact Q3 X rfl ho rfl rfl rfl,fun h _=>h⟩
theorem kbW2 (ho:K.lookup TD=some ⟨.type "tuple",o1,.seq #[.none,.int 0 tk] n1,s1⟩):El K (O6 "__init__" "Wrap.__init__" (Bm Ck) (Be Ck) (Aj Ck) (.ref TD) kV doc pm an cdv ct) ["self", "word", "note", "at"] [] (fun us _=>us++[.int 0 tk]) (fun vs _=>vs++[.int 0]) :=
 ⟨fun s us ws X hl=>by
  match us,(show us.length=3 by simpa using hl) with
  | [a,b,c],_=>exact Q3 X rfl ho rfl rfl rfl,fun h _=>h.append (.cons ⟨_,rfl⟩ .nil)⟩
theorem kbWa (ho:K.lookup TD=some ⟨.type "tuple",o1,.seq #[.none,.int 0 tk] n1,s1⟩):El K (O6 "__init__" "Wrap.__init__" (Bm Ck) (Be Ck) (Aj Ck) (.ref TD) kV doc pm an cdv ct) ["self", "word", "note", "at"] ["at"] Zk7 Za8 :=
 ⟨fun s us ws X hl=>by
  match us,ws,hl with
  | [a,b],[c],_=>exact Q3 X rfl ho rfl rfl rfl,fun h1 h2=>by
  cases h1 with
  | nil=>exact .nil
  | cons r0 t0 =>
   cases t0 with
   | nil=>exact .nil
   | cons r1 t1 =>
    cases t1 with
    | cons _ _=>exact .nil
    | nil =>
     cases h2 with
     | nil=>exact .nil
     | cons w0 u0 =>
      cases u0 with
      | cons _ _=>exact .nil
      | nil=>exact .cons r0 (.cons r1 (.cons rfl (.cons w0 .nil)))⟩
theorem kbP2 (ho:K.lookup TD=some ⟨.type "tuple",o1,.seq #[.none] n1,s1⟩):El K (O6 "__init__" "Put.__init__" (Bm Cg) (Be Cg) (Aj Cg) (.ref TD) kV doc pm an cdv ct) ["self", "word", "note"] [] (fun us _=>us) (fun vs _=>vs) :=
 ⟨fun s us ws X hl=>by
  match us,(show us.length=3 by simpa using hl) with
  | [a,b,c],_=>exact Q3 X rfl ho rfl rfl rfl,fun h _=>h⟩
end
noncomputable abbrev Gd (K:On)(n:Str)(st:Stmt)(f:Addr):Prop:=Oz K mainGlobals n=some (some (.ref f))/\∃ fd,Fun K n n st f fd
noncomputable abbrev Gm (K:On)(C:Addr)(n q:Str)(st:Stmt)(f:Addr):Prop:=Os K (.ref C) n=some (some (.ref f))/\Rz K (.ref f)=true/\∃ fd,Fun K n q st f fd
noncomputable abbrev Bi (n q:Str)(st:Stmt)(ps:List Str):Prop:=∀(kV doc pm:Value)(an:Option Addr)(cdv ct:Value)(us:List Value),us.length=ps.length->bindArgs (O6 n q (Bm st) (Be st) (Aj st) .none kV doc pm an cdv ct) ⟨us,[]⟩=pure (ps.zip us)
section
variable {P:Program}{w:World}{K:On}{mg:Str->Option Value}{base h:Heap}(X:K.In h)(G:h.Ns mainGlobals mg){n q:Str}{st:Stmt}{f C:Addr}{k:Nat}{ps:List Str}{sp:Sp}
include X G
theorem cal (g:Gd K n st f)(ok:∀ fd,Fun K n n st f fd->FnOk P w K mg base An k f fd ps sp)(b:Bi n n st ps:=by walk_at "bi"):As P w K mg base k n ps sp:=by
 obtain ⟨a,fd,F⟩:=g
 exact Zn5 (ok fd F) (Tl X G a) F.kp (F.binds b)
theorem calx (g:Gd K n st f)(ok:∀ fd,Fun K n n st f fd->FnOk P w K mg base (A4 P w) k f fd ps sp)(b:Bi n n st ps:=by walk_at "bi"):J7 P w K mg base k n ps sp:=by
 obtain ⟨a,fd,F⟩:=g
 exact Zu9 (ok fd F) (Tl X G a) F.kp (F.binds b)
theorem caln (g:Gd K n st f)(ok:∀ fd,Fun K n n st f fd->Iv P w K mg base k f fd ps sp)(b:Bi n n st ps:=by walk_at "bi"):Lz P w K mg base k n ps sp:=by
 obtain ⟨a,fd,F⟩:=g
 exact Zr1 (ok fd F) (Tl X G a) F.kp (F.binds b)
omit X G
theorem C0 {CX:B2}(cl:Cls K C)(g:Gm K C n q st f)(ok:∀ fd,Fun K n q st f fd->FnOk P w K mg base CX k f fd ps sp)(b:Bi n q st ps:=by walk_at "bi"):Co CX P w K mg base k C n ps sp:=by
 obtain ⟨a,i,fd,F⟩:=g
 exact ⟨f,fd,ok fd F,cl,⟨a,i,F.kp⟩,F.binds b⟩
theorem Zf8 {sp':Sp}(M:Co (A4 P w) P w K mg base k C n ps sp)(h:∀ vs H Q E,sp' vs H Q E->sp vs H Q E0):Co An P w K mg base k C n ps sp':=by
 obtain ⟨g,fd,F,c⟩:=M.ex
 exact ⟨g,fd,(calm F).imp h,c⟩
theorem mkM {CX:B2}(x:Str)(mk:P8 K C=true)(kp:O4 K (.ref C)=true)(at_:mg x=some (.ref C))(g:Gm K C "__init__" q st f)(ok:∀ fd,Fun K "__init__" q st f fd->FnOk P w K mg base CX k f fd ps sp)(b:Bi "__init__" q st ps:=by walk_at "bi"):Ee CX P w K mg base k x C ps sp:=by
 obtain ⟨a,i,fd,F⟩:=g
 exact ⟨f,fd,ok fd F,⟨mk,a,i,kp⟩,at_,F.binds b⟩
end
theorem all_mk {l:Vt}{w:World}{K:On}{h:Heap}{mg:Str->Option Value}{fa f1 f2 f3 f4 f5 f6 f7 f8 f9 f10 f11 f12 f13 f14 f15 f16 f17 f18 f19 f20 f21 f22 f23 f24 f25 f26 f27 f28 f29 f30 f31 f32 f33 f34 f35 f36 f37 f38 f39 f40 f41 f42 f43 f44 f45 f46 f47 f48 f49:Addr}(X:K.In h)(G:h.Ns mainGlobals mg)(hfa:mg "law" = some (.ref fa))
  (a1:Gd K "is_whole" Lg f1) (a2:Gd K "is_name" Mq f2) (a3:Gd K "is_figures" Jo f3) (a4:Gd K "is_odd_sign" Lp f4) (a5:Gd K "is_odd" Ki f5) (a6:Gd K "is_word" Ks f6) (a7:Gd K "is_two_names" Kj f7) (a8:Gd K "is_note" Mf f8) (a9:Gd K "is_top_of_form" Mb f9) (a10:Gd K "is_form" Jj f10) (a11:Gd K "many_parts" Ju f11) (a12:Gd K "bare" Lh f12) (a13:Gd K "has_part" Ke f13) (a14:Gd K "forms_down_to" Mt f14) (a15:Gd K "form_at" Jt f15) (a16:Gd K "with_part" Mh f16)
  (a17:Gd K "with_at" Lf f17) (a18:Gd K "refuse_no_form" Kd f18) (a19:Gd K "refuse_no_gap" J4 f19) (a20:Gd K "behind" Kv f20) (a21:Gd K "_law_digit" K9 f21) (a22:Gd K "_law_box" Ln f22) (a23:Gd K "_law_name" Ly f23) (a24:Gd K "_law_one_of" Kb f24) (a25:Gd K "_law_all_of" Me f25) (a26:Gd K "_law_odd" Jx f26) (a27:Gd K "_law_remark" Lc f27) (a28:Gd K "_law_head" Li f28) (a29:Gd K "_law_many" L6 f29) (a30:Gd K "_law_bare" Kz f30) (a31:Gd K "_law_tree" La f31)
  (a32:Gd K "_law_small" Mc f32) (a33:Gd K "_law_walk" Jh f33) (a34:Gd K "_law_picked" Kw f34) (a35:Gd K "_law_form" Mj f35) (a36:Gd K "_law_with" Lo f36) (a37:Gd K "_law_sort" L7 f37) (a38:Gd K "_law_spec" J6 f38) (a39:Gd K "_law_after" Kg f39) (a40:Gd K "_law_make" L8 f40) (a41:Gd K "_law_class" Jm f41) (a42:Gd K "_law_done" Ma f42) (a43:Gd K "_law_back" Ll f43) (a44:Gd K "_law_step" Ka f44) (a45:Gd K "_law_turned" Lu f45) (a46:Gd K "_law_good_back" Kn f46)
  (a47:Gd K "_law_led_back" Jl f47) (a48:Gd K "_law_all" Jk f48) (a49:Gd K "law" Ms f49) (z1:Oz K mainGlobals "isinstance" = some none) (z2:Oz K mainGlobals "int" = some none) (z3:Oz K mainGlobals "bool" = some none) (z4:Oz K mainGlobals "str" = some none) (z5:Oz K mainGlobals "len" = some none) (z6:Oz K mainGlobals "all" = some none) (z7:Oz K mainGlobals "tuple" = some none) (z8:Oz K mainGlobals "reversed" = some none) (z9:Oz K mainGlobals "list" = some none)
  (z10:Oz K mainGlobals "zip" = some none) (z11:Oz K mainGlobals "divmod" = some none) (z12:Oz K mainGlobals "range" = some none) (z13:Oz K mainGlobals "min" = some none) (z14:Oz K mainGlobals "ValueError" = some none) {u1 u2 gt:Tok} (b1:Oz K mainGlobals "NAME_SIGNS" = some (some (.str LET u1))) (b2:Oz K mainGlobals "FIGURES" = some (some (.str DIG u2))) {wa wb pa ga ge:Addr} {wo wp go ho:Option Addr} {wi wj gi hi:Array Value} {wn wm pn gn hn:Nat} {ws wt gs hs:Array (Option Value)} {pi:Array DictEntry}
  (b3:Oz K mainGlobals "WORDS_NO_NAMES" = some (some (.ref wa))) (b4:K.lookup wa=some ⟨.type "tuple",wo,.seq wi wn,ws⟩) (b5:G4 wi.toList=some (W9.map V.str)) (b6:Oz K mainGlobals "WORDS_NOT_ODD" = some (some (.ref wb))) (b7:K.lookup wb=some ⟨.type "tuple",wp,.seq wj wm,wt⟩) (b8:G4 wj.toList=some (W10.map V.str)) (c1:Oz K mainGlobals "PARTS_OF_WORDS" = some (some (.ref pa))) (c2:K.lookup pa=some ⟨.type "dict",none,.dict pi pn,#[]⟩) (c3:(pa == sysModules)=false) (c4:Ents w.params pi.toList Hy) (v1:Oz K mainGlobals "GAP" = some (some (.ref ga)))
  (v2:K.lookup ga=some ⟨.type "tuple",go,.seq gi gn,gs⟩) (v3:gi.toList=[.str "gap" gt,.none,.ref ge]) (v4:K.lookup ge=some ⟨.type "tuple",ho,.seq hi hn,hs⟩) (v5:G4 hi.toList=some []) {GE NF NP ND:Addr} {cG cN cQ cF cP:Value} {dG dN dP dD dQ dF:Option Addr} {kG kP kD kF:ClassData} {lG lN lP lD lQ lF:Array (Option Value)} {eN eQ:Array DictEntry} {nN nQ:Nat} {q0 q1 q2 q3 q5:Option Value} (x1:Oz K mainGlobals "GapError" = some (some (.ref GE))) (x2:K.lookup GE=some ⟨cG,dG,.cls kG,lG⟩) (x3:K.lookup kG.ns=some ⟨cN,dN,.dict eN nN,lN⟩)
  (x4:(eN.toList.all fun e=>match e.key with | .str _ _=>true | _=>false)=true) (x5:Oz K kG.ns "__init__" = some none) (x6:Q4 K (.ref GE)=some (.type "type")) (x7:Pe K (.ref GE) (.type "BaseException")=some true) (x8:Vi K (.builtin "object.__class__") "__get__" = some (some (.builtin "getset_descriptor.__get__"))) (x9:Vr K (.builtin "object.__class__")=some true) (n1:Oz K mainGlobals "NoForm" = some (some (.ref NF))) (n2:K.lookup NF=some ⟨cF,dF,.cls kF,lF⟩) (n3:Q4 K (.ref NF)=some (.type "type"))
  (p1:Oz K mainGlobals "NoPlace" = some (some (.ref NP))) (d1:Oz K mainGlobals "NoDeed" = some (some (.ref ND))) (p2:K.lookup NP=some ⟨cP,dP,.cls kP,lP⟩) (p9:Q4 K (.ref NP)=some (.type "type")) (d2:K.lookup ND=some ⟨.type "type",dD,.cls kD,lD⟩) (d3:kD.mro=.ref ND::.ref GE::VE) (d4:lD.toList=[q0,q1,q2,q3,some (.builtin "ValueError.__new__"),q5]) (d5:kD.hasDel=false) (d9:Q4 K (.ref ND)=some (.type "type")) (da':P6 K ND=true) (db:Os K (.ref ND) "__getattribute__" = some (some (.builtin "BaseException.__getattribute__")))
  (dc:Os K (.ref ND) "__getattr__" = some none) (dd:Os K (.ref ND) "__setattr__" = some (some (.builtin "object.__setattr__"))) (de:Os K (.ref ND) "__class__" = some (some (.builtin "object.__class__"))) (df:Pe K (.ref ND) (.type "BaseException")=some true) (dg:Pe K (.ref ND) (.type "ValueError")=some true) (dh:Pe K (.ref ND) (.ref GE)=some true) (dj':Pe K (.ref ND) (.ref NP)=some false) (dk:Pe K (.ref ND) (.ref NF)=some false) (dl':(ND == NF)=false) (dmm:(ND == NP)=false)
  (d6:K.lookup kD.ns=some ⟨cQ,dQ,.dict eQ nQ,lQ⟩) (d7:(eQ.toList.all fun e=>match e.key with | .str _ _=>true | _=>false)=true) (d8:Oz K kD.ns "__init__" = some none) {tkW tkK:Tok} {AD rD:Addr} (yD1:Oz K mainGlobals "Deed" = some (some (.ref AD))) (yD2:Qd K AD Rb=true) (yD3:P6 K AD=true) (yD4:Qs K AD=true) (yD5:Os K (.ref AD) "__setattr__" = some (some (.builtin "object.__setattr__"))) (yD6:P8 K AD=true) (yD7:O4 K (.ref AD)=true) (yD8:Os K (.ref AD) "form" = some none)
  (yD9:Os K (.ref AD) "at" = some none) (yD0:Os K (.ref AD) "note" = some none) (yDc:Os K (.ref AD) "__class__" = some (some (.builtin "object.__class__"))) (yDm:Q7 K AD (.type "object")=some true) {cY':Value} {dY':Option Addr} {kY':ClassData} {lY':Array (Option Value)} (yDl:K.lookup AD=some ⟨cY',dY',.cls kY',lY'⟩) (yDt:Q4 K (.ref AD)=some (.type "type")) {bD:Addr} (wD:Gm K AD "back" "Deed.back" Ky bD) (mD:Gm K AD "done" "Deed.done" Jq rD) (iD:Os K (.ref AD) "__init__" = some (some (.builtin "object.__init__")))
  {AP rP:Addr} (yP1:Oz K mainGlobals "Put" = some (some (.ref AP))) (yP2:Qd K AP Rb=true) (yP3:P6 K AP=true) (yP4:Qs K AP=true) (yP5:Os K (.ref AP) "__setattr__" = some (some (.builtin "object.__setattr__"))) (yP6:P8 K AP=true) (yP7:O4 K (.ref AP)=true) (yP8:Os K (.ref AP) "form" = some none) (yP9:Os K (.ref AP) "at" = some none) (yP0:Os K (.ref AP) "note" = some none) (yPc:Os K (.ref AP) "__class__" = some (some (.builtin "object.__class__")))
  (yPm:Q7 K AP (.type "object")=some true) (yPs:Pe K (.ref AP) (.ref AD)=some true) {bP:Addr} (wP:Gm K AP "back" "Put.back" Km bP) (mP:Gm K AP "done" "Put.done" Mp rP) {tP TP:Addr} {cTP cUP cVP cWP cXP cYP:Value} {oTP ouP anP:Option Addr} {sTP suP:Array (Option Value)} {nTP:Nat} (iP1:Os K (.ref AP) "__init__" = some (some (.ref tP))) (iP2:Rz K (.ref tP)=true) (iP3:K.lookup tP=some ⟨cTP,ouP,.func (O6 "__init__" "Put.__init__" (Bm Cg) (Be Cg) (Aj Cg) (.ref TP) cUP cVP cWP anP cXP cYP),suP⟩)
  (iP4:Q5 K cXP "Put.__init__" = true) (iP5:O4 K (.ref tP)=true) (iP6:K.lookup TP=some ⟨.type "tuple",oTP,.seq #[.none] nTP,sTP⟩) {AF rF:Addr} (yF1:Oz K mainGlobals "Fill" = some (some (.ref AF))) (yF2:Qd K AF Rb=true) (yF3:P6 K AF=true) (yF4:Qs K AF=true) (yF5:Os K (.ref AF) "__setattr__" = some (some (.builtin "object.__setattr__"))) (yF6:P8 K AF=true) (yF7:O4 K (.ref AF)=true) (yF8:Os K (.ref AF) "form" = some none) (yF9:Os K (.ref AF) "at" = some none)
  (yF0:Os K (.ref AF) "note" = some none) (yFc:Os K (.ref AF) "__class__" = some (some (.builtin "object.__class__"))) (yFm:Q7 K AF (.type "object")=some true) (yFs:Pe K (.ref AF) (.ref AD)=some true) {bF:Addr} (wF:Gm K AF "back" "Fill.back" Lj bF) (mF:Gm K AF "done" "Fill.done" Le rF) {tF:Addr} (iF:Gm K AF "__init__" "Fill.__init__" Lv tF) {AC rC:Addr} (yC1:Oz K mainGlobals "Cut" = some (some (.ref AC))) (yC2:Qd K AC Rb=true) (yC3:P6 K AC=true)
  (yC4:Qs K AC=true) (yC5:Os K (.ref AC) "__setattr__" = some (some (.builtin "object.__setattr__"))) (yC6:P8 K AC=true) (yC7:O4 K (.ref AC)=true) (yC8:Os K (.ref AC) "form" = some none) (yC9:Os K (.ref AC) "at" = some none) (yC0:Os K (.ref AC) "note" = some none) (yCc:Os K (.ref AC) "__class__" = some (some (.builtin "object.__class__"))) (yCm:Q7 K AC (.type "object")=some true) (yCs:Pe K (.ref AC) (.ref AD)=some true) {bC:Addr} (wC:Gm K AC "back" "Cut.back" L9 bC)
  (mC:Gm K AC "done" "Cut.done" Kc rC) (iC:Os K (.ref AC) "__init__" = some (some (.builtin "object.__init__"))) {AW rW:Addr} (yW1:Oz K mainGlobals "Wrap" = some (some (.ref AW))) (yW2:Qd K AW Rb=true) (yW3:P6 K AW=true) (yW4:Qs K AW=true) (yW5:Os K (.ref AW) "__setattr__" = some (some (.builtin "object.__setattr__"))) (yW6:P8 K AW=true) (yW7:O4 K (.ref AW)=true) (yW8:Os K (.ref AW) "form" = some none) (yW9:Os K (.ref AW) "at" = some none)
  (yW0:Os K (.ref AW) "note" = some none) (yWc:Os K (.ref AW) "__class__" = some (some (.builtin "object.__class__"))) (yWm:Q7 K AW (.type "object")=some true) (yWs:Pe K (.ref AW) (.ref AD)=some true) {bW:Addr} (wW:Gm K AW "back" "Wrap.back" Jp bW) (mW:Gm K AW "done" "Wrap.done" Mm rW) {tW TW:Addr} {cTW cUW cVW cWW cXW cYW:Value} {oTW ouW anW:Option Addr} {sTW suW:Array (Option Value)} {nTW:Nat} (iW1:Os K (.ref AW) "__init__" = some (some (.ref tW))) (iW2:Rz K (.ref tW)=true)
  (iW3:K.lookup tW=some ⟨cTW,ouW,.func (O6 "__init__" "Wrap.__init__" (Bm Ck) (Be Ck) (Aj Ck) (.ref TW) cUW cVW cWW anW cXW cYW),suW⟩) (iW4:Q5 K cXW "Wrap.__init__" = true) (iW5:O4 K (.ref tW)=true) (iW6:K.lookup TW=some ⟨.type "tuple",oTW,.seq #[.none,.int 0 tkW] nTW,sTW⟩) {AK rK:Addr} (yK1:Oz K mainGlobals "Keep" = some (some (.ref AK))) (yK2:Qd K AK Rb=true) (yK3:P6 K AK=true) (yK4:Qs K AK=true) (yK5:Os K (.ref AK) "__setattr__" = some (some (.builtin "object.__setattr__")))
  (yK6:P8 K AK=true) (yK7:O4 K (.ref AK)=true) (yK8:Os K (.ref AK) "form" = some none) (yK9:Os K (.ref AK) "at" = some none) (yK0:Os K (.ref AK) "note" = some none) (yKc:Os K (.ref AK) "__class__" = some (some (.builtin "object.__class__"))) (yKm:Q7 K AK (.type "object")=some true) (yKs:Pe K (.ref AK) (.ref AD)=some true) {bK:Addr} (wK:Gm K AK "back" "Keep.back" Lb bK) (mK:Gm K AK "done" "Keep.done" Mn rK) {tK TK:Addr} {cTK cUK cVK cWK cXK cYK:Value}
  {oTK ouK anK:Option Addr} {sTK suK:Array (Option Value)} {nTK:Nat} (iK1:Os K (.ref AK) "__init__" = some (some (.ref tK))) (iK2:Rz K (.ref tK)=true) (iK3:K.lookup tK=some ⟨cTK,ouK,.func (O6 "__init__" "Keep.__init__" (Bm Ci) (Be Ci) (Aj Ci) (.ref TK) cUK cVK cWK anK cXK cYK),suK⟩) (iK4:Q5 K cXK "Keep.__init__" = true) (iK5:O4 K (.ref tK)=true) (iK6:K.lookup TK=some ⟨.type "tuple",oTK,.seq #[.int 0 tkK] nTK,sTK⟩) {AN rN:Addr} (yN1:Oz K mainGlobals "Note" = some (some (.ref AN)))
  (yN2:Qd K AN Rb=true) (yN3:P6 K AN=true) (yN4:Qs K AN=true) (yN5:Os K (.ref AN) "__setattr__" = some (some (.builtin "object.__setattr__"))) (yN6:P8 K AN=true) (yN7:O4 K (.ref AN)=true) (yN8:Os K (.ref AN) "form" = some none) (yN9:Os K (.ref AN) "at" = some none) (yN0:Os K (.ref AN) "note" = some none) (yNc:Os K (.ref AN) "__class__" = some (some (.builtin "object.__class__"))) (yNm:Q7 K AN (.type "object")=some true)
  (yNs:Pe K (.ref AN) (.ref AD)=some true) {bN:Addr} (wN:Gm K AN "back" "Note.back" J8 bN) (mN:Gm K AN "done" "Note.done" Jw rN) {tN:Addr} (iN:Gm K AN "__init__" "Note.__init__" Mi tN) {AG rG:Addr} (yG1:Oz K mainGlobals "Change" = some (some (.ref AG))) (yG2:Qd K AG Rb=true) (yG3:P6 K AG=true) (yG4:Qs K AG=true) (yG5:Os K (.ref AG) "__setattr__" = some (some (.builtin "object.__setattr__"))) (yG6:P8 K AG=true) (yG7:O4 K (.ref AG)=true)
  (yG8:Os K (.ref AG) "form" = some none) (yG9:Os K (.ref AG) "at" = some none) (yG0:Os K (.ref AG) "note" = some none) (yGc:Os K (.ref AG) "__class__" = some (some (.builtin "object.__class__"))) (yGm:Q7 K AG (.type "object")=some true) (yGs:Pe K (.ref AG) (.ref AD)=some true) {bG:Addr} (wG:Gm K AG "back" "Change.back" Kx bG) (mG:Gm K AG "done" "Change.done" Kp rG) {tG:Addr} (iG:Gm K AG "__init__" "Change.__init__" Lw tG) (ap:[AD,AP,AF,AC,AW,AK,AN,AG].Nodup) :
  ∃ fd:FuncData,(∀(s:Shared)(v:Value),BindsTo s fd ⟨[v],[]⟩ [("_law_script",v)])/\∀ base:Heap,K.In base->base.Ns mainGlobals mg->FnOk l.prog w K mg base An 13 fa fd ["_law_script"] (Zdw K):=by
 obtain ⟨aL,fd,FL⟩:=a49
 have e:=hfa.symm.trans (Tl X G aL)
 cases e
 have FX:=FL
 obtain ⟨_,_,kV,doc,pm,an,cdv,ct,_,ef,_,_⟩:=FL.ex
 refine ⟨fd,fun s v=>by rw [ef];exact .of_eq rfl,fun base _ _=>?_⟩
 have gl:=fun {n v}=>@Tl K h mg n v X G
 have no:=fun {n}=>@PySem.W.mg_none_of K h mg n X G
 have T:Txt K mg:=⟨no z1,no z2,no z3,no z4,no z5,no z6,no z7,no z8,no z9,no z10,no z11,no z12,no z13,no z14⟩
 have G_GAP:Fc mg "GAP" (.ref ga):=⟨_,gl v1,rfl⟩
 have gA:=Zpj (K:=K) v2 v3
 have gB:=Zbb (K:=K) v4 v5 (by decide)
 have GA:Kf K ga:=⟨fun H=>TrAt.gap (gA H) (gB H)⟩
 have GS:Gs l.prog w K mg:=⟨⟨_,gl b1,⟨_,rfl⟩⟩,⟨_,gl b2,⟨_,rfl⟩⟩,⟨wa,⟨_,gl b3,rfl⟩,Zbb b4 b5 (by decide)⟩,⟨wb,⟨_,gl b6,rfl⟩,Zbb b7 b8 (by decide)⟩,⟨pa,⟨_,gl c1,rfl⟩,Zkv c2 c3 c4 (by decide +kernel)⟩,⟨ga,ge,G_GAP,gA,gB⟩⟩
 obtain ⟨tG',iG'⟩:=Zpf x2 (by unfold Sb;rw [x3];show (eN.all fun e=>match e.key with | .str _ _=>true | _=>false)=true;rw [<- Array.all_toList];exact x4) x5
 have gG:=gl x1
 have gND:=gl d1
 have XG:Mo K GE:=⟨x6,iG',x7⟩
 have xD:ExC K ND:=⟨(Zol d2 d3 d4 d5 tG').2,da',db,dc,dd,d9⟩
 have rND:=Zvc d2 d3 d4 d5 tG' (by unfold Sb;rw [d6];show (eQ.all fun e=>match e.key with | .str _ _=>true | _=>false)=true;rw [<- Array.all_toList];exact d7) d8
 have KD:KdC K mg NF ND NP:={ nD:={ toExC:=xD,ca:=de,cg:=x8,ct:=x9 },gF:=gl n1,gD:=gND,gP:=gl p1,vD:=Zm6 dg,dF:=Fo n2 n3 dk fun _=>dl',dP:=Fo p2 p9 dj' fun _=>dmm }
 have oD:B1 K mg "Deed" AD:=⟨⟨yD2,yD3,yD4,yD5⟩,gl yD1,yD8,yD9,yD0⟩
 have oP:B1 K mg "Put" AP:=⟨⟨yP2,yP3,yP4,yP5⟩,gl yP1,yP8,yP9,yP0⟩
 have oF:B1 K mg "Fill" AF:=⟨⟨yF2,yF3,yF4,yF5⟩,gl yF1,yF8,yF9,yF0⟩
 have oC:B1 K mg "Cut" AC:=⟨⟨yC2,yC3,yC4,yC5⟩,gl yC1,yC8,yC9,yC0⟩
 have oW:B1 K mg "Wrap" AW:=⟨⟨yW2,yW3,yW4,yW5⟩,gl yW1,yW8,yW9,yW0⟩
 have oK:B1 K mg "Keep" AK:=⟨⟨yK2,yK3,yK4,yK5⟩,gl yK1,yK8,yK9,yK0⟩
 have oN:B1 K mg "Note" AN:=⟨⟨yN2,yN3,yN4,yN5⟩,gl yN1,yN8,yN9,yN0⟩
 have oG:B1 K mg "Change" AG:=⟨⟨yG2,yG3,yG4,yG5⟩,gl yG1,yG8,yG9,yG0⟩
 have yXD:(∀{H:Hp}{a dx:Addr}{fs:List (Str×V)},H a=some (.ins AD dx fs)->Ct K H (.ref a) (.ref AD))/\O0 K (.ref AD) (.ref AD)=some true:=⟨fun e=>.ty (.ins e oD.cl yDc x8 x9 yDm),Zgs⟩
 have yXP:(∀{H:Hp}{a dx:Addr}{fs:List (Str×V)},H a=some (.ins AP dx fs)->Ct K H (.ref a) (.ref AP))/\O0 K (.ref AP) (.ref AD)=some true:=⟨fun e=>.ty (.ins e oP.cl yPc x8 x9 yPm),Fo yDl yDt yPs (fun h=>nomatch h)⟩
 have yXF:(∀{H:Hp}{a dx:Addr}{fs:List (Str×V)},H a=some (.ins AF dx fs)->Ct K H (.ref a) (.ref AF))/\O0 K (.ref AF) (.ref AD)=some true:=⟨fun e=>.ty (.ins e oF.cl yFc x8 x9 yFm),Fo yDl yDt yFs (fun h=>nomatch h)⟩
 have yXC:(∀{H:Hp}{a dx:Addr}{fs:List (Str×V)},H a=some (.ins AC dx fs)->Ct K H (.ref a) (.ref AC))/\O0 K (.ref AC) (.ref AD)=some true:=⟨fun e=>.ty (.ins e oC.cl yCc x8 x9 yCm),Fo yDl yDt yCs (fun h=>nomatch h)⟩
 have yXW:(∀{H:Hp}{a dx:Addr}{fs:List (Str×V)},H a=some (.ins AW dx fs)->Ct K H (.ref a) (.ref AW))/\O0 K (.ref AW) (.ref AD)=some true:=⟨fun e=>.ty (.ins e oW.cl yWc x8 x9 yWm),Fo yDl yDt yWs (fun h=>nomatch h)⟩
 have yXK:(∀{H:Hp}{a dx:Addr}{fs:List (Str×V)},H a=some (.ins AK dx fs)->Ct K H (.ref a) (.ref AK))/\O0 K (.ref AK) (.ref AD)=some true:=⟨fun e=>.ty (.ins e oK.cl yKc x8 x9 yKm),Fo yDl yDt yKs (fun h=>nomatch h)⟩
 have yXN:(∀{H:Hp}{a dx:Addr}{fs:List (Str×V)},H a=some (.ins AN dx fs)->Ct K H (.ref a) (.ref AN))/\O0 K (.ref AN) (.ref AD)=some true:=⟨fun e=>.ty (.ins e oN.cl yNc x8 x9 yNm),Fo yDl yDt yNs (fun h=>nomatch h)⟩
 have yXG:(∀{H:Hp}{a dx:Addr}{fs:List (Str×V)},H a=some (.ins AG dx fs)->Ct K H (.ref a) (.ref AG))/\O0 K (.ref AG) (.ref AD)=some true:=⟨fun e=>.ty (.ins e oG.cl yGc x8 x9 yGm),Fo yDl yDt yGs (fun h=>nomatch h)⟩
 obtain ⟨c,ec⟩:∃ c:Cs,c=⟨AD,AP,AF,AC,AW,AK,AN,AG⟩:=⟨_,rfl⟩
 have Ap:c.Apart:=by rw [ec];exact ap
 have eD:c.d=AD:=by rw [ec]
 rw [<- eD] at oD mD wD yD6 yD7 yXD iD
 have eP:c.p=AP:=by rw [ec]
 rw [<- eP] at oP mP wP yP6 yP7 yXP iP1
 have eF:c.f=AF:=by rw [ec]
 rw [<- eF] at oF mF wF yF6 yF7 yXF iF
 have eC:c.c=AC:=by rw [ec]
 rw [<- eC] at oC mC wC yC6 yC7 yXC iC
 have eW:c.w=AW:=by rw [ec]
 rw [<- eW] at oW mW wW yW6 yW7 yXW iW1
 have eK:c.k=AK:=by rw [ec]
 rw [<- eK] at oK mK wK yK6 yK7 yXK iK1
 have eN:c.n=AN:=by rw [ec]
 rw [<- eN] at oN mN wN yN6 yN7 yXN iN
 have eG:c.g=AG:=by rw [ec]
 rw [<- eG] at oG mG wG yG6 yG7 yXG iG
 have MkC:Gk K mg "Cut" c.c:=⟨yC6,iC,yC7,oC.at_⟩
 have MkD:Gk K mg "Deed" c.d:=⟨yD6,iD,yD7,oD.at_⟩
 have KL:Kl K mg c:=⟨oD.at_,(fun d=>by cases d;exact yXD.1;exact yXP.1;exact yXF.1;exact yXC.1;exact yXW.1;exact yXK.1;exact yXN.1;exact yXG.1),(fun d=>by cases d;exact yXD.2;rw [eD];exact yXP.2;rw [eD];exact yXF.2;rw [eD];exact yXC.2;rw [eD];exact yXW.2;rw [eD];exact yXK.2;rw [eD];exact yXN.2;rw [eD];exact yXG.2)⟩
 have ca:=fun {k n st f ps sp}=>@cal l.prog w K mg base h X G n st f k ps sp
 have cx:=fun {k n st f ps sp}=>@calx l.prog w K mg base h X G n st f k ps sp
 have cn:=fun {k n st f ps sp}=>@caln l.prog w K mg base h X G n st f k ps sp
 have C_is_whole:=ca a1 fun _ F=>Zk4 F T
 have C_is_name:=ca a2 fun _ F=>Zs0 F T GS
 have C_is_figures:=ca a3 fun _ F=>Zlu F T GS
 have C_is_odd_sign:=ca a4 fun _ F=>Zk0 F T
 have C_is_odd:=ca a5 fun _ F=>Zmj F T GS C_is_odd_sign C_is_name C_is_figures
 have C_is_word:=ca a6 fun _ F=>Zvv F T GS
 have C_is_two_names:=ca a7 fun _ F=>Zos F T C_is_name
 have C_is_note:=ca a8 fun _ F=>Zuz F T C_is_whole C_is_name C_is_odd C_is_two_names
 have C_is_top_of_form:=ca a9 fun _ F=>Zom F T GS C_is_word C_is_note
 have C_is_form:=ca a10 fun _ F=>Zld F T C_is_top_of_form
 have C_many_parts:=ca a11 fun _ F=>Zs3 F T GS C_is_word
 have C_bare:=ca a12 fun _ F=>Zly F T G_GAP C_many_parts C_is_note
 have C_has_part:=ca a13 fun _ F=>Zn8 F T C_is_whole
 have C_forms_down_to:=ca a14 fun _ F=>Znk F T C_has_part
 have C_form_at:=ca a15 fun _ F=>Zqq F T C_forms_down_to
 have C_with_part:=ca a16 fun _ F=>Zrp F T
 have C_with_at:=ca a17 fun _ F=>Zt6 F T C_forms_down_to C_with_part
 have C_refuse_no_form:=ca a18 fun _ F=>Zmk F T C_is_form
 have C_refuse_no_gap:=cx a19 fun _ F=>Zvq F T rND gND
 have okP:=calm (Zli (base:=base) (P:=l.prog) (w:=w) (Za0 (st:=Cg) iP3 iP4 iP5) T oP C_bare)
 have okW:=calm (Zvt (base:=base) (P:=l.prog) (w:=w) (Za0 (st:=Ck) iW3 iW4 iW5) T oW GA C_bare C_has_part)
 have okK:=calm (Zr9 (base:=base) (P:=l.prog) (w:=w) (Za0 (st:=Ci) iK3 iK4 iK5) T oK)
 have mkP:Mk K c.p tP:=⟨yP6,iP1,iP2,yP7⟩
 have mkW:Mk K c.w tW:=⟨yW6,iW1,iW2,yW7⟩
 have mkK:Mk K c.k tK:=⟨yK6,iK1,iK2,yK7⟩
 have MkP1:B5 An l.prog w K mg base 5 "Put" c.p ["self", "word", "note"] [] (fun vs _=>vs++[.non]) (F4 K c ga):=⟨tP,_,_,okP,mkP,oP.at_,kbP1 iP6⟩
 have MkPn:B5 An l.prog w K mg base 5 "Put" c.p ["self", "word", "note"] ["note"] M5 (F4 K c ga):=⟨tP,_,_,okP,mkP,oP.at_,kbPn iP6⟩
 have MkP2:B5 An l.prog w K mg base 5 "Put" c.p ["self", "word", "note"] [] (fun vs _=>vs) (F4 K c ga):=⟨tP,_,_,okP,mkP,oP.at_,kbP2 iP6⟩
 have MkW3:B5 An l.prog w K mg base 5 "Wrap" c.w ["self", "word", "note", "at"] [] (fun vs _=>vs) (F5 K c ga):=⟨tW,_,_,okW,mkW,oW.at_,kbW3 iW6⟩
 have MkW2:B5 An l.prog w K mg base 5 "Wrap" c.w ["self", "word", "note", "at"] [] (fun vs _=>vs++[.int 0]) (F5 K c ga):=⟨tW,_,_,okW,mkW,oW.at_,kbW2 iW6⟩
 have MkWa:B5 An l.prog w K mg base 5 "Wrap" c.w ["self", "word", "note", "at"] ["at"] Za8 (F5 K c ga):=⟨tW,_,_,okW,mkW,oW.at_,kbWa iW6⟩
 have MkK1:B5 An l.prog w K mg base 1 "Keep" c.k ["self", "at"] [] (fun vs _=>vs) (Fi K c):=⟨tK,_,_,okK,mkK,oK.at_,kbK1 iK6⟩
 have MkK0:B5 An l.prog w K mg base 1 "Keep" c.k ["self", "at"] [] (fun vs _=>vs++[.int 0]) (Fi K c):=⟨tK,_,_,okK,mkK,oK.at_,kbK0 iK6⟩
 have MkKa:B5 An l.prog w K mg base 1 "Keep" c.k ["self", "at"] ["at"] N8 (Fi K c):=⟨tK,_,_,okK,mkK,oK.at_,kbKa iK6⟩
 have MkF:Ee An l.prog w K mg base 7 "Fill" c.f ["self", "form"] (Mz K c):=mkM "Fill" yF6 yF7 oF.at_ iF fun _ F=>Ztw F T oF C_refuse_no_form
 have MkG:Ee An l.prog w K mg base 7 "Change" c.g ["self", "form"] (K3 K c):=mkM "Change" yG6 yG7 oG.at_ iG fun _ F=>Zoj F T oG C_refuse_no_form
 have MkN:Ee An l.prog w K mg base 1 "Note" c.n ["self", "note"] (Nd K c):=mkM "Note" yN6 yN7 oN.at_ iN fun _ F=>Zny F T oN
 have MD:∀ d:Dd,Co (A4 l.prog w) l.prog w K mg base 7 (d.cls c) "done" ["self", "form"] (C1 K c ND (d.cls c)):=fun d=>by
  cases d with
  | deed=>exact C0 oD.cl mD fun _ F=>Zmo Ap F T oD
  | put t=>exact C0 oP.cl mP fun _ F=>Zj6 Ap F T oP C_refuse_no_gap
  | fill t=>exact C0 oF.cl mF fun _ F=>Zlh Ap F T oF C_refuse_no_gap
  | cut=>exact C0 oC.cl mC fun _ F=>Zoh Ap F T oC G_GAP GA rND gND
  | wrap t i=>exact C0 oW.cl mW fun _ F=>Zmd Ap F T oW C_with_part
  | keep i=>exact C0 oK.cl mK fun _ F=>Zmy Ap F T oK C_has_part rND gND
  | note n nt=>exact C0 oN.cl mN fun _ F=>Zvm Ap F T oN C_is_note rND gND
  | chg t=>exact C0 oG.cl mG fun _ F=>Znq Ap F T oG
 have MB:∀ d:Dd,Co (A4 l.prog w) l.prog w K mg base 9 (d.cls c) "back" ["self", "form"] (Ev K c ND (d.cls c)):=fun d=>by
  have md:=MD d
  cases d with
  | deed=>exact C0 oD.cl wD fun _ F=>Zq4 Ap F T MkD
  | put t=>exact C0 oP.cl wP fun _ F=>Zqy Ap F T md MkC
  | fill t=>exact C0 oF.cl wF fun _ F=>Zow Ap F T md MkC
  | cut=>exact C0 oC.cl wC fun _ F=>Zq2 Ap F T md MkF
  | wrap t i=>exact C0 oW.cl wW fun _ F=>Zq3 Ap F T oW MkK1
  | keep i=>exact C0 oK.cl wK fun _ F=>Zui Ap F T md MkG
  | note n nt=>exact C0 oN.cl wN fun _ F=>Zpb Ap F T md MkN
  | chg t=>exact C0 oG.cl wG fun _ F=>Zm0 Ap F T MkG
 have MC:∀ d:Dd,Co An l.prog w K mg base 7 (d.cls c) "done" ["self", "form"] (N3 K c (d.cls c)):=fun d=>Zf8 (MD d) (Zso ND)
 have BC:∀ d:Dd,Co An l.prog w K mg base 9 (d.cls c) "back" ["self", "form"] (Zcz K c (d.cls c)):=fun d=>Zf8 (MB d) (Ztj ND)
 have C_behind:=ca a20 fun _ F=>Ztt (c:=c) F T C_form_at C_with_at MC
 have C__law_digit:=ca a21 fun _ F=>Zkh F T
 have C__law_box:=ca a22 fun _ F=>Znx F T
 have C__law_name:=ca a23 fun _ F=>Ztq F T C__law_digit
 have C__law_one_of:=ca a24 fun _ F=>Zp6 F T C__law_digit C__law_name
 have C__law_all_of:=ca a25 fun _ F=>Zq0 F T
 have C__law_odd:=ca a26 fun _ F=>Zse F T C__law_digit C__law_all_of
 have C__law_remark:=ca a27 fun _ F=>Zlr F T C__law_digit C__law_odd C__law_one_of
 have C__law_head:=ca a28 fun _ F=>Zjw F T C__law_digit C__law_remark
 have C__law_many:=ca a29 fun _ F=>Zmq F T
 have C__law_bare:=ca a30 fun _ F=>Ztu F T C__law_many
 have C__law_tree:=ca a31 fun _ F=>Zut F T C__law_digit C__law_head C__law_bare
 have C__law_small:=ca a32 fun _ F=>Zr8 F T C__law_tree C__law_head C__law_bare
 have C__law_walk:=ca a33 fun _ F=>Zuv F T
 have C__law_picked:=ca a34 fun _ F=>Zno F T C__law_digit C__law_walk
 have C__law_form:=ca a35 fun _ F=>Zvo F T
 have C__law_with:=ca a36 fun _ F=>Zj5 F T C__law_form
 have C__law_sort:=ca a37 fun _ F=>Zlg F T
 have C__law_spec:=ca a38 fun _ F=>Zs8 F T C__law_digit C__law_head C__law_many C__law_small C__law_remark C__law_tree
 have C__law_after:=ca a39 fun _ F=>Zvx F T C__law_many C__law_sort
 have C__law_make:=ca a40 fun _ F=>Zks F T GA MkP1 MkPn MkP2 MkF MkC MkWa MkW2 MkW3 MkK0 MkKa MkK1 MkN MkG MkD
 have C__law_class:=cn a41 fun _ F=>Zu6 F T KD
 have C__law_done:=ca a42 fun _ F=>Zsm F T MD C__law_class XG gG dh
 have C__law_back:=ca a43 fun _ F=>Ztl F T MB C__law_class XG gG dh
 have C__law_step:=ca a44 fun _ F=>Ztm F T C__law_done C__law_back
 have C__law_turned:=ca a45 fun _ F=>Zsv F T C__law_after C__law_done
 have C__law_good_back:=ca a46 fun _ F=>Znn F T KL C__law_done C__law_back
 have C__law_led_back:=ca a47 fun _ F=>Zou F T C__law_form C__law_with C_behind MC BC
 have C__law_all:=ca a48 fun _ F=>Zs1 F T C__law_digit C__law_picked C__law_spec C__law_after C__law_make C__law_step C__law_turned C__law_good_back C__law_with C__law_led_back
 exact Zuk FX T C__law_box C__law_name C__law_tree C__law_all
theorem walk {l:Vt}{q:Program}{loose:List Str}{XP:(Str->Option Value)->Heap->Prop}{YP:World->Heap->Prop}{d:DefRec}{K:Params->On}(hn:l.most=some 63)(hdf:d.params.defaults=[])
  (hY:∀(w:World)(h:Heap),YP w h->(K w.params).In h)
  (F:∀(w:World)(mg:Str->Option Value)(fa:Addr)(h:Heap),(K w.params).In h->h.Ns mainGlobals mg->mg d.name=some (.ref fa) ->
   ∃ fd:FuncData,(∀(s:Shared)(u:Value),BindsTo s fd ⟨[u],[]⟩ [("_law_script",u)])/\∀ base:Heap,(K w.params).In base->base.Ns mainGlobals mg->FnOk l.prog w (K w.params) mg base An 13 fa fd ["_law_script"] (Zdw (K w.params))) :
  PySem.W.WalkO q loose XP YP l.row.toRowW d [] (fun f vs=>PySem.call f vs) :=
 L2.walk_of (n:=63) (k:=13) (x := "_law_script") (CX:=fun _=>An) (sp:=fun w=>Zdw (K w.params)) hn (by decide) hdf ⟨rfl,by decide,by decide⟩ hY F (fun _ _ a ns hl _ hS=>⟨a,ns,rfl,hS,hl,fun _=>rfl⟩) fun _ _ _ _ _ z=>z
end K24
open PySem PySem.W PyProof.Rows
set_option maxRecDepth 100000 in
set_option maxHeartbeats 0 in
theorem PySem.Challenge.cw_gapscribe_k24_whole_taken_back_holds : PySem.Challenge.rw_gapscribe_k24_whole_taken_back.Holds := by
 w_on; o_law; o_head (PySem.W.kHook K24.KK K24.KA (fun _=>by kernel_rfl)); (case hw=>w_witness2)
 k_fill
 refine K24.walk (l:=PySem.Challenge.rw_gapscribe_k24_whole_taken_back) rfl rfl (fun w h Y=>PySem.W.kIn_of Y) ?F
 case F =>
  intro w mg fa h KX G hmg
  refine' K24.all_mk KX G hmg ?a1 ?a2 ?a3 ?a4 ?a5 ?a6 ?a7 ?a8 ?a9 ?a10 ?a11 ?a12 ?a13 ?a14 ?a15 ?a16 ?a17 ?a18 ?a19 ?a20 ?a21 ?a22 ?a23 ?a24 ?a25 ?a26 ?a27 ?a28 ?a29 ?a30 ?a31 ?a32 ?a33 ?a34 ?a35 ?a36 ?a37 ?a38 ?a39 ?a40 ?a41 ?a42 ?a43 ?a44 ?a45 ?a46 ?a47 ?a48 ?a49 ?z1 ?z2 ?z3 ?z4 ?z5 ?z6 ?z7 ?z8 ?z9 ?z10 ?z11 ?z12 ?z13 ?z14 ?b1 ?b2 ?b3 ?b4 ?b5 ?b6 ?b7 ?b8 ?c1 ?c2 ?c3 ?c4 ?v1 ?v2 ?v3 ?v4 ?v5 ?x1 ?x2 ?x3 ?x4 ?x5 ?x6 ?x7 ?x8 ?x9 ?n1 ?n2 ?n3 ?p1 ?d1 ?p2 ?p9 ?d2 ?d3 ?d4 ?d5 ?d9 ?da' ?db ?dc ?dd ?de ?df ?dg ?dh ?dj' ?dk ?dl' ?dmm ?d6 ?d7 ?d8 ?yD1 ?yD2 ?yD3 ?yD4 ?yD5 ?yD6 ?yD7 ?yD8 ?yD9 ?yD0 ?yDc ?yDm ?yDl ?yDt ?wD ?mD ?iD ?yP1 ?yP2 ?yP3 ?yP4 ?yP5 ?yP6 ?yP7 ?yP8 ?yP9 ?yP0 ?yPc ?yPm ?yPs ?wP ?mP ?iP1 ?iP2 ?iP3 ?iP4 ?iP5 ?iP6 ?yF1 ?yF2 ?yF3 ?yF4 ?yF5 ?yF6 ?yF7 ?yF8 ?yF9 ?yF0 ?yFc ?yFm ?yFs ?wF ?mF ?iF ?yC1 ?yC2 ?yC3 ?yC4 ?yC5 ?yC6 ?yC7 ?yC8 ?yC9 ?yC0 ?yCc ?yCm ?yCs ?wC ?mC ?iC ?yW1 ?yW2 ?yW3 ?yW4 ?yW5 ?yW6 ?yW7 ?yW8 ?yW9 ?yW0 ?yWc ?yWm ?yWs ?wW ?mW ?iW1 ?iW2 ?iW3 ?iW4 ?iW5 ?iW6 ?yK1 ?yK2 ?yK3 ?yK4 ?yK5 ?yK6 ?yK7 ?yK8 ?yK9 ?yK0 ?yKc ?yKm ?yKs ?wK ?mK ?iK1 ?iK2 ?iK3 ?iK4 ?iK5 ?iK6 ?yN1 ?yN2 ?yN3 ?yN4 ?yN5 ?yN6 ?yN7 ?yN8 ?yN9 ?yN0 ?yNc ?yNm ?yNs ?wN ?mN ?iN ?yG1 ?yG2 ?yG3 ?yG4 ?yG5 ?yG6 ?yG7 ?yG8 ?yG9 ?yG0 ?yGc ?yGm ?yGs ?wG ?mG ?iG ?ap
  (case a1=>walk_at "gd")
  (case a2=>walk_at "gd")
  (case a3=>walk_at "gd")
  (case a4=>walk_at "gd")
  (case a5=>walk_at "gd")
  (case a6=>walk_at "gd")
  (case a7=>walk_at "gd")
  (case a8=>walk_at "gd")
  (case a9=>walk_at "gd")
  (case a10=>walk_at "gd")
  (case a11=>walk_at "gd")
  (case a12=>walk_at "gd")
  (case a13=>walk_at "gd")
  (case a14=>walk_at "gd")
  (case a15=>walk_at "gd")
  (case a16=>walk_at "gd")
  (case a17=>walk_at "gd")
  (case a18=>walk_at "gd")
  (case a19=>walk_at "gd")
  (case a20=>walk_at "gd")
  (case a21=>walk_at "gd")
  (case a22=>walk_at "gd")
  (case a23=>walk_at "gd")
  (case a24=>walk_at "gd")
  (case a25=>walk_at "gd")
  (case a26=>walk_at "gd")
  (case a27=>walk_at "gd")
  (case a28=>walk_at "gd")
  (case a29=>walk_at "gd")
  (case a30=>walk_at "gd")
  (case a31=>walk_at "gd")
  (case a32=>walk_at "gd")
  (case a33=>walk_at "gd")
  (case a34=>walk_at "gd")
  (case a35=>walk_at "gd")
  (case a36=>walk_at "gd")
  (case a37=>walk_at "gd")
  (case a38=>walk_at "gd")
  (case a39=>walk_at "gd")
  (case a40=>walk_at "gd")
  (case a41=>walk_at "gd")
  (case a42=>walk_at "gd")
  (case a43=>walk_at "gd")
  (case a44=>walk_at "gd")
  (case a45=>walk_at "gd")
  (case a46=>walk_at "gd")
  (case a47=>walk_at "gd")
  (case a48=>walk_at "gd")
  (case a49=>walk_at "gd")
  (case z1=>k_is)
  (case z2=>k_is)
  (case z3=>k_is)
  (case z4=>k_is)
  (case z5=>k_is)
  (case z6=>k_is)
  (case z7=>k_is)
  (case z8=>k_is)
  (case z9=>k_is)
  (case z10=>k_is)
  (case z11=>k_is)
  (case z12=>k_is)
  (case z13=>k_is)
  (case z14=>k_is)
  (case b1=>k_is)
  (case b2=>k_is)
  (case b3=>k_is)
  (case b4=>k_is)
  (case b5=>rfl)
  (case b6=>k_is)
  (case b7=>k_is)
  (case b8=>rfl)
  (case c1=>k_is)
  (case c2=>k_is)
  (case c3=>rfl)
  (case c4=>(repeat (first | exact .nil | refine .cons ⟨_,rfl⟩ ?_)))
  (case v1=>k_is)
  (case v2=>k_is)
  (case v3=>rfl)
  (case v4=>k_is)
  (case v5=>rfl)
  (case x1=>k_is)
  (case x2=>k_is)
  (case x3=>k_is)
  (case x4=>rfl)
  (case x5=>k_is)
  (case x6=>k_is)
  (case x7=>k_is)
  (case x8=>k_is)
  (case x9=>k_is)
  (case n1=>k_is)
  (case n2=>k_is)
  (case n3=>k_is)
  (case p1=>k_is)
  (case d1=>k_is)
  (case p2=>k_is)
  (case p9=>k_is)
  (case d2=>k_is)
  (case d3=>rfl)
  (case d4=>rfl)
  (case d5=>rfl)
  (case d9=>k_is)
  (case da'=>k_is)
  (case db=>k_is)
  (case dc=>k_is)
  (case dd=>k_is)
  (case de=>k_is)
  (case df=>k_is)
  (case dg=>k_is)
  (case dh=>k_is)
  (case dj'=>k_is)
  (case dk=>k_is)
  (case dl'=>rfl)
  (case dmm=>rfl)
  (case d6=>k_is)
  (case d7=>rfl)
  (case d8=>k_is)
  (case yD1=>k_is)
  (case yD2=>k_is)
  (case yD3=>k_is)
  (case yD4=>k_is)
  (case yD5=>k_is)
  (case yD6=>k_is)
  (case yD7=>k_is)
  (case yD8=>k_is)
  (case yD9=>k_is)
  (case yD0=>k_is)
  (case yDc=>k_is)
  (case yDm=>k_is)
  (case yDl=>k_is)
  (case yDt=>k_is)
  (case wD=>walk_at "gm")
  (case mD=>walk_at "gm")
  (case iD=>k_is)
  (case yP1=>k_is)
  (case yP2=>k_is)
  (case yP3=>k_is)
  (case yP4=>k_is)
  (case yP5=>k_is)
  (case yP6=>k_is)
  (case yP7=>k_is)
  (case yP8=>k_is)
  (case yP9=>k_is)
  (case yP0=>k_is)
  (case yPc=>k_is)
  (case yPm=>k_is)
  (case yPs=>k_is)
  (case wP=>walk_at "gm")
  (case mP=>walk_at "gm")
  (case iP1=>k_is)
  (case iP2=>k_is)
  (case iP3=>k_is)
  (case iP4=>k_is)
  (case iP5=>k_is)
  (case iP6=>k_is)
  (case yF1=>k_is)
  (case yF2=>k_is)
  (case yF3=>k_is)
  (case yF4=>k_is)
  (case yF5=>k_is)
  (case yF6=>k_is)
  (case yF7=>k_is)
  (case yF8=>k_is)
  (case yF9=>k_is)
  (case yF0=>k_is)
  (case yFc=>k_is)
  (case yFm=>k_is)
  (case yFs=>k_is)
  (case wF=>walk_at "gm")
  (case mF=>walk_at "gm")
  (case iF=>walk_at "gm")
  (case yC1=>k_is)
  (case yC2=>k_is)
  (case yC3=>k_is)
  (case yC4=>k_is)
  (case yC5=>k_is)
  (case yC6=>k_is)
  (case yC7=>k_is)
  (case yC8=>k_is)
  (case yC9=>k_is)
  (case yC0=>k_is)
  (case yCc=>k_is)
  (case yCm=>k_is)
  (case yCs=>k_is)
  (case wC=>walk_at "gm")
  (case mC=>walk_at "gm")
  (case iC=>k_is)
  (case yW1=>k_is)
  (case yW2=>k_is)
  (case yW3=>k_is)
  (case yW4=>k_is)
  (case yW5=>k_is)
  (case yW6=>k_is)
  (case yW7=>k_is)
  (case yW8=>k_is)
  (case yW9=>k_is)
  (case yW0=>k_is)
  (case yWc=>k_is)
  (case yWm=>k_is)
  (case yWs=>k_is)
  (case wW=>walk_at "gm")
  (case mW=>walk_at "gm")
  (case iW1=>k_is)
  (case iW2=>k_is)
  (case iW3=>k_is)
  (case iW4=>k_is)
  (case iW5=>k_is)
  (case iW6=>k_is)
  (case yK1=>k_is)
  (case yK2=>k_is)
  (case yK3=>k_is)
  (case yK4=>k_is)
  (case yK5=>k_is)
  (case yK6=>k_is)
  (case yK7=>k_is)
  (case yK8=>k_is)
  (case yK9=>k_is)
  (case yK0=>k_is)
  (case yKc=>k_is)
  (case yKm=>k_is)
  (case yKs=>k_is)
  (case wK=>walk_at "gm")
  (case mK=>walk_at "gm")
  (case iK1=>k_is)
  (case iK2=>k_is)
  (case iK3=>k_is)
  (case iK4=>k_is)
  (case iK5=>k_is)
  (case iK6=>k_is)
  (case yN1=>k_is)
  (case yN2=>k_is)
  (case yN3=>k_is)
  (case yN4=>k_is)
  (case yN5=>k_is)
  (case yN6=>k_is)
  (case yN7=>k_is)
  (case yN8=>k_is)
  (case yN9=>k_is)
  (case yN0=>k_is)
  (case yNc=>k_is)
  (case yNm=>k_is)
  (case yNs=>k_is)
  (case wN=>walk_at "gm")
  (case mN=>walk_at "gm")
  (case iN=>walk_at "gm")
  (case yG1=>k_is)
  (case yG2=>k_is)
  (case yG3=>k_is)
  (case yG4=>k_is)
  (case yG5=>k_is)
  (case yG6=>k_is)
  (case yG7=>k_is)
  (case yG8=>k_is)
  (case yG9=>k_is)
  (case yG0=>k_is)
  (case yGc=>k_is)
  (case yGm=>k_is)
  (case yGs=>k_is)
  (case wG=>walk_at "gm")
  (case mG=>walk_at "gm")
  (case iG=>walk_at "gm")
  (case ap=>decide +kernel)
#print axioms PySem.Challenge.cw_gapscribe_k24_whole_taken_back_holds
