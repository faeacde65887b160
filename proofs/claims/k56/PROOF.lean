import PyProof.Rows.All
import Wide.All
import OpenK.AllK
import Wide.FinOn
import Lean
import PyProof.EqAt
import PyProof.EqKinds
import PyProof.TupleCall
import PyProof.StrBlock2
import KE.KDictOf
import PyProof.AttrMissHeap
import KE.KRevSl
import KE.RegMulBits
import KE.IntBitsLaws
import PySem.Challenge.RW_gapscribe_k56_refused_fillings
set_option compiler.extract_closed false
set_option bootstrap.genMatcherCode false
set_option genSizeOfSpec false
set_option Elab.async false
set_option linter.all false
set_option maxRecDepth 100000
open Array renaming getElem?_eq_some_iff->Ub,length_toList->Uv,all_toList->Wh
open Bool renaming false_ne_true->Pd,false_eq_true->Q6,and_eq_true->Ro,eq_iff_iff->Tq
open False renaming elim->Pt
open Int renaming emod_nonneg->Qk,emod_lt_of_pos->Rm,toNat_natCast->R7
open List renaming getElem?_eq_getElem->O5,size_toArray->O7,getElem?_eq_some_iff->Ph,length_append->O9,length_map->Pa,mem_cons->Pb,length_take->Pq,length_singleton->Pz,length_cons->Ps,replicate->Pn,getElem?_append_left->Qd,getElem?_append_right->Qw,take_of_length_le->Qi,map_append->P4,mem_singleton->Qe,not_mem_nil->P5,mem_of_getElem?->Qr,range->Pp,eq_nil_of_length_eq_zero->Rw,mem_append_right->Qy,drop_of_length_le->Q4,getElem?_map->Qj,drop_eq_getElem_cons->R0,mem_cons_of_mem->Q5,map_cons->Qa,append_nil->Qs,find?_cons->Qt,length_drop->Q0,append_assoc->Q9,take_add_one->Ra,lookup_cons->Rb,mem_map->Qp,all_cons->Q2,getElem?_cons_succ->Tb,reverse_append->Sj,getElem?_set_self->Tc,getD_eq_getElem?_getD->Uc,append_inj'->R9,mem_cons_self->Sl,mem_append->Sa,replicate_succ->Tg,all_eq_true->Sn,reverse_singleton->Uo,lookup->Rh,reverse_cons->Tj,getElem?_set_ne->Ut,cons_append->To,take_length->Tp,filterMap_cons->Uu,length_reverse->Uw,nil_append->Ts,forIn_cons->Tt,map_singleton->U0,flatten_cons->U1,singleton_append->Vz,any_cons->Tx,dropLast_concat_getLast->Wy,mem_filter->U7,nodup_cons->U8,length->Sw,length_nil->Vc,getElem?_take->V5,forIn_nil->Ve,getElem_mem->We,of_mem_zip->Wl,map_nil->Vl,foldl->T4
open List.cons renaming injEq->Wq
open Nat renaming le_refl->O4,lt_of_lt_of_le->Pk,ne_of_lt->Pg,le_trans->Px,zero_le->Pw,ne_of_gt->Qb,lt_irrefl->Qn,sub_self->Rt,min_eq_left->Sq,le_of_lt->Su,lt_succ_self->U3,le_add_right->U5,min_eq_right->U6,sub_zero->T1,le_succ->T2,succ_pos->Vn,zero_add->Vo,not_lt->T6
open Ne renaming symm->Pc
open Option renaming map_eq_some_iff->R3,isSome_iff_exists->Ta,bind_some->R8,map_some->Tv,toList_some->Uz
open Option.some renaming inj->P6
open PyProof.Rows renaming callWith_type1->Ry,slot_tuple_getitem->Sg
open PySem renaming wpAny_bind->O2,wpAny_pure->O3,wpAny_field->Pj,wpAny_callSpecial?_slot->Qx,wpAny_holding->P9,wpAny_setField_rec->Qz,wpAny_mono->Py,wpAny_call_entry->Q1,wpAny_truthy_bool->Q7,wpAny_seqItems->Qu,mem_of_lookup->R5,wpAny_newObj_type->Rn,wpAny_execs_nil->Rc,wpAny_Call_Name_kw->Sm,wpAny_attempt->Rg,builtinLookup_eq_fast->Te,wpAny_passesOwn->Sb,wpAny_getItem_str_slice->Uj,wpAny_loadPart->Sc,wpAny_pyIter_tuple->Ti,codeAny_builtin->So,codeAny_handlers_test->Uq,Params->Ru,call_meets->Q3,wpAny_pyIter_list->Tk,wpAny_handleBy_cons->Ux,codeAny_mono->Se,Stmt->Ri,plainId_quiet->Sr,typeLookup_type->Tu,plainObj_wpAny_Assign_Attribute->Wv,wpAny_call->Rv,wpAny_setField->Tw,wpAny_typeOf->Sv,wpAny_execs_cons->U2,noFill_tuple_add->U4,wpAny_updateSeq_pair->V0,codeAny_call_builtin->V2,post_val_or_str->U9,wpAny_updateSeq->Va,wpAny_ite_false->Vb,Within->Tz,slot_list_getitem->Wb,wpAny_rule->Sy,wpAny_loadPart_at->Wc,seq_tuple_add->Vg,wpAny_standAt->Vh,wpAny_onRaise->Vi,wpAny_isInstance->Wf,wpAny_Try_except->Wg,concat_meets->Vk,wpAny_specialOf->Wo,typeIs_int->T3,sizeLine_eq->Vp,wpAny_letGo->Vq
open PySem.Around renaming under_plainId->Sh
open PySem.AutoSeq1 renaming wpAny_loadPart'->T9
open PySem.Builtin.List renaming listTooLong->Uh,listExtendWith->Vr
open PySem.Builtin.Slice renaming slicePlaces->Ud,sliceAdjust->Vs
open PySem.Builtin.SmallTypes renaming ownedTupleIsFree->Qv,nextOf->Qg,ownedTupleHandOut->Wr
open PySem.Builtin.Tuple renaming tupleExact->Ug
open PySem.Calls renaming spliced_cons->V4,spliced_nil->Wa
open PySem.Challenge renaming pw_gapscribe_k56_refused_fillings->Sf
open PySem.F renaming plainAttrs_list->Pr,slot_list_append->P0,type_list_append->P3,slot_zip_next->Rl,slot_tuple_iterator_next->T8,excBase_ValueError->Sz,slot_enumerate_next->Ua,slot_tuple_mul->Td,plain_extend_loop->Ue,args_tuple_add_2->Uf,entry_tuple_add->Ui,args_zip_next_1->Uk,attr_ValueError->Ul,slot_tuple_add->Um,entry_zip_next->Up,slot_list_pop->Ur,type_list_pop->Us,args_tuple_mul_2->Vt,slot_list_getattribute->Vu,slot_list_extend->Vv,type_list_extend->Vw,args_tuple_iterator_next_1->Ws,entry_tuple_iterator_next->Wu,entry_tuple_mul->Vx,args_enumerate_next_1->Ww,entry_enumerate_next->Wx
open PySem.Heap renaming get?_push_of_some->O6,get?_push_size->Pe,lt_size->O8,SameBut->Pl,get?_update_other->Qh,size_push->P8,get?_update_self->Rk,get?_none_of_le->R4,ExtBut->Sx,dictOf_iff->Wp
open PySem.Obj renaming mapSeq->Qq,data_mapFields->Uy,mapFields->Ss,isFreed_of_fields->Vy
open PySem.Paired renaming length->Vf
open PySem.PassesOwn renaming never->Re,leaving->Wd
open PySem.SeqAt renaming EqAt->Po
open PySem.SeqAt.EqAt renaming same->Wm
open PySem.Str renaming ofString->Qc
open PySem.Txt renaming slice_le->Vm,slice->T7
open PySem.W renaming Frag->O1,findIn->Pf,subIn->Pi,nsIn->Pm,kitOne->Pu,kia_one->P7,typeIn->Ql,keepIn->Qm,Looks->Qf,emptyDict->Q8,clsIn->Qo,hasDictIn->R6,instObj->Rp,looks_subIn->Sk,InstAt->Rq,tailIn->Rr,nsOkIn->Sd,callWith_K->Th,fnOf->Rs,plainGet->Tl,BT->Rj,looks_typeIn->V1,plainGet_of->V3,isFn->T0,lookIn->Vd,methodObj->V6,plainOver->V7,specialIn->V8,kitx_list->V9,mg_of->Vj,takerIn->Wi,makesIn->Wj,takesIn->Wk,OpenLaw->Wn
namespace L2
open PySem PySem.Spec PyProof.Rows
noncomputable abbrev An:=Sum Int Str
noncomputable def Hk:An->Value->Bool
 | .inl k,v=>Value.isInt k v
 | .inr x,v=>Value.isStrOf x v
noncomputable def keyH (w:World):An->Int
 | .inl k=>hashInt k
 | .inr x=>hashStr w x
theorem Fe:∀{k:An}{v:Value},Hk k v=true->(∃ i t,k=Sum.inl i/\v=Value.int i t)\/(∃ x t,k=Sum.inr x/\v=Value.str x t)
 | .inl i,v,h=>by
  obtain ⟨t,e⟩:=Value.isInt_shape (k:=i) (v:=v) h
  exact .inl ⟨i,t,rfl,e⟩
 | .inr x,v,h=>by
  obtain ⟨t,e⟩:=Value.isStrOf_shape (x:=x) (v:=v) h
  exact .inr ⟨x,t,rfl,e⟩
theorem Zjg (i:Int)(t:Tok):Hk (.inl i) (.int i t)=true:=by simp [Hk,Value.isInt]
theorem Zmn (x:Str)(t:Tok):Hk (.inr x) (.str x t)=true:=by simp [Hk,Value.isStrOf]
theorem Zj1 (a b:Int):decide ((Sum.inl a:An)=Sum.inl b)=(a == b):=by
 by_cases e:a=b
 ·subst e;simp
 ·have h:¬ (Sum.inl a:An)=Sum.inl b:=fun q=>e (Sum.inl.inj q)
  rw [decide_eq_false h]
  exact (beq_eq_false_iff_ne.mpr e).symm
theorem Zk5 (a b:Str):decide ((Sum.inr a:An)=Sum.inr b)=decide (a=b):=by
 by_cases e:a=b
 ·subst e;simp
 ·have h:¬ (Sum.inr a:An)=Sum.inr b:=fun q=>e (Sum.inr.inj q)
  rw [decide_eq_false h,decide_eq_false e]
theorem Zi5 (a:Int)(b:Str):decide ((Sum.inl a:An)=Sum.inr b)=false:=decide_eq_false (fun q=>nomatch q)
theorem Zjm (a:Str)(b:Int):decide ((Sum.inr a:An)=Sum.inl b)=false:=decide_eq_false (fun q=>nomatch q)
noncomputable def Da (prog:Program)(w:World):PySem.KeyKind prog w An where
 is:=Hk
 hash:=keyH w
 inj:=fun v a b ha hb=>by
  rcases Fe ha with ⟨i,t,rfl,rfl⟩ | ⟨x,t,rfl,rfl⟩
  ·rcases Fe hb with ⟨j,u,rfl,e⟩ | ⟨y,u,rfl,e⟩
   ·injection e with e1 _;rw [e1]
   ·exact nomatch e
  ·rcases Fe hb with ⟨j,u,rfl,e⟩ | ⟨y,u,rfl,e⟩
   ·exact nomatch e
   ·injection e with e1 _;rw [e1]
 byValue:=fun k v h=>by
  rcases Fe h with ⟨i,t,rfl,rfl⟩ | ⟨x,t,rfl,rfl⟩ <;> rfl
 pyHash:=fun hv h=>by
  rcases Fe hv with ⟨i,t,rfl,rfl⟩ | ⟨x,t,rfl,rfl⟩
  ·exact wpAny_pyHash_int h
  ·exact wpAny_pyHash_str h
 eqBool:=fun hu hv h=>by
  rcases Fe hu with ⟨i,t,rfl,rfl⟩ | ⟨x,t,rfl,rfl⟩
  ·rcases Fe hv with ⟨j,u,rfl,rfl⟩ | ⟨y,u,rfl,rfl⟩
   ·rw [Zj1] at h;exact wpAny_eqBool_int h
   ·rw [Zi5] at h;exact Po.int_str i t y u _ _ _ _ h
  ·rcases Fe hv with ⟨j,u,rfl,rfl⟩ | ⟨y,u,rfl,rfl⟩
   ·rw [Zjm] at h;exact Po.str_int x t j u _ _ _ _ h
   ·rw [Zk5] at h;exact wpAny_eqBool_str h
 «strs»:=fun k x t v h=>by
  rcases Fe h with ⟨i,u,rfl,e⟩ | ⟨y,u,rfl,e⟩
  ·exact nomatch e
  ·injection e with e1 _
   subst e1
   cases v <;> rfl
theorem Zqp (prog:Program)(w:World)(i:Int)(t:Tok):(Da prog w).is (.inl i) (.int i t)=true:=Zjg i t
theorem Zms (prog:Program)(w:World)(x:Str)(t:Tok):(Da prog w).is (.inr x) (.str x t)=true:=Zmn x t
inductive V where
 | non | bl (b:Bool) | int (i:Int) | str (x:Str) | byt (b:Array UInt8) | flt (b:UInt64) | ref (a:Addr) | ty (n:String)
 deriving DecidableEq
noncomputable def RelV:V->Value->Prop
 | .non,u=>u=Value.none
 | .bl b,u=>u=Value.bool b
 | .int i,u=>∃ t,u=Value.int i t
 | .str x,u=>∃ t,u=Value.str x t
 | .byt b,u=>∃ t,u=Value.bytes b t
 | .flt b,u=>∃ t,u=Value.float b t
 | .ref a,u=>u=Value.ref a
 | .ty n,u=>u=Value.type n
noncomputable abbrev Vals:List V->List Value->Prop:=Paired RelV
theorem Vals.length {xs:List V}{us:List Value}(r:Vals xs us):xs.length=us.length:=Vf r
theorem Vals.get:∀{xs:List V}{us:List Value}{i:Nat}{x:V},Vals xs us->xs[i]?=some x->∃ u,us[i]?=some u/\RelV x u
 | _,_,_,_,.nil,e=>by simp at e
 | _,_,0,_,.cons r _,e=>by simp at e;subst e;exact ⟨_,rfl,r⟩
 | _,_,i+1,x,.cons _ t,e=>by
  obtain ⟨u,h1,h2⟩:=Vals.get (i:=i) (x:=x) t (by simpa using e)
  exact ⟨u,by simpa using h1,h2⟩
theorem Vals.append:∀{xs ys:List V}{us ws:List Value},Vals xs us->Vals ys ws->Vals (xs++ys) (us++ws)
 | _,_,_,_,.nil,s=>s
 | _,_,_,_,.cons r t,s=>.cons r (Vals.append t s)
theorem Vals.take:∀{xs:List V}{us:List Value}(n:Nat),Vals xs us->Vals (xs.take n) (us.take n)
 | _,_,0,_=>.nil
 | _,_,_+1,.nil=>.nil
 | _,_,n+1,.cons r t=>.cons r (Vals.take n t)
theorem Vals.drop:∀{xs:List V}{us:List Value}(n:Nat),Vals xs us->Vals (xs.drop n) (us.drop n)
 | _,_,0,r=>r
 | _,_,_+1,.nil=>.nil
 | _,_,n+1,.cons _ t=>Vals.drop n t
noncomputable def RelO:Option V->Option Value->Prop
 | some v,some u=>RelV v u
 | none,none=>True
 | _,_=>False
noncomputable def KV {κ:Type}:List (κ×V)->List (κ×Value)->Prop:=Paired fun (p:κ×V) (q:κ×Value)=>p.1=q.1/\RelV p.2 q.2
noncomputable def kV:An->V
 | .inl i=>.int i
 | .inr x=>.str x
inductive HO where
  | lst (xs:List V)
  | tup (xs:List V)
  | dK (kvs:List (An×V)) | dT (kvs:List (List An×V))
  | set (S:Int->Bool) (n:Nat)
  | ins (C dx:Addr) (fs:List (Str×V))
  | own (x:Addr)
  | xd (fs:List (Str×V))
  | met (f x:Addr)
  | rng (lo hi:Int)
  | frz (o:Obj) (u:HO)
  | tbl (ps:Array Value)
  | ext (φ:Heap->Prop)
noncomputable abbrev Hp:=Addr->Option HO
noncomputable def upd (H:Hp)(a:Addr)(o:HO):Hp:=fun b=>if b=a then some o else H b
theorem Ad {H:Hp}{a:Addr}{o:HO}:upd H a o a=some o:=by unfold upd;rw [if_pos rfl]
theorem Af {H:Hp}{a b:Addr}{o:HO}(h:b≠a):upd H a o b=H b:=by unfold upd;rw [if_neg h]
theorem Gn {H:Hp}{a:Addr}{o u:HO}:upd (upd H a o) a u=upd H a u:=by
 funext b;unfold upd;split <;> rfl
theorem Df {H:Hp}{a b:Addr}{o u:HO}(h:H a=some o)(h':H b=some u)(d:o≠u):a≠b:=by
 intro e;subst e;rw [h] at h';exact d (P6 h')
theorem B8 {H:Hp}{a b:Addr}{o:HO}(h:H a=some o)(h':H b=none):a≠b:=by
 intro e;subst e;rw [h] at h';cases h'
section
variable (P:Program)(w:World)
noncomputable def ObjOk (H:Hp)(h:Heap)(a:Addr):HO->Prop
 | .lst xs=>xs.length<=sizeLine/\∃(its:List Value)(n:Nat),Vals xs its/\h.get? a=some { cls:=.type "list",data:=.seq its.toArray n }
 | .tup xs=>xs.length<=sizeLine/\∃ its:List Value,Vals xs its/\IsTup h a its.toArray
 | .dK kvs=>kvs.length<=sizeLine/\(a == sysModules)=false/\∃ vs,KV kvs vs/\h.DictOf (Da P w) a vs
 | .dT kvs=>kvs.length<=sizeLine/\(a == sysModules)=false/\∃ xs:List (List An×Addr×Value),
   Paired (fun (p:List An×V) (q:List An×Addr×Value)=>p.1=q.1/\H q.2.1=some (.tup (p.1.map kV))/\RelV p.2 q.2.2) kvs xs /\
   ∃ o es ep,h.get? a=some o/\o.ExactDict/\o.data=.dict es ep/\es.toList=xs.map (entryOfKey (tupleKind (Da P w)))/\(xs.map (·.1)).Nodup
 | .set S n=>h.SetOf (intKind P w) a S n
 | .ins C dx fs=>H dx=some (.own a)/\fs.length<=1000/\dx≠a/\h.get? a=some (Rp C dx) /\
   ∃ mA,h.Ns1 dx mA/\(∀ f,RelO (fs.lookup f) (mA f))/\Tz mA (fs.map (·.1))
 | .own _=>∃ o,h.get? a=some o
 | .xd fs=>∃ mA,h.Ns1 a mA/\∀ f,RelO (fs.lookup f) (mA f)
 | .rng lo hi=>∃ t u v,h.get? a=some { cls:=.type "range",data:=.fields #[.int lo t,.int hi u,.int 1 v] }
 | .frz o u=>h.get? a=some o/\ObjOk H h a u
 | .tbl ps=>h.get? a=some { cls:=.none,data:=.fields ps }
 | .met f x=>h.get? a=some (V6 (.ref f) (.ref x))
 | .ext φ=>φ h/\(∃ o,h.get? a=some o)/\∀ h1 h2:Heap,φ h1->(∀ o,h1.get? a=some o->h2.get? a=some o)->φ h2
noncomputable def HOk (H:Hp)(h:Heap):Prop:=∀ a o,H a=some o->ObjOk P w H h a o
end
section
variable {P:Program}{w:World}{H H':Hp}{h h':Heap}{a:Addr}{o:HO}
theorem ObjOk.lt (x:ObjOk P w H h a o):a < h.objs.size:=by
 cases o with
 | lst xs=>obtain ⟨_,_,_,_,e⟩:=x;exact O8 e
 | tup xs=>obtain ⟨_,_,_,p⟩:=x;exact p.lt
 | dK kvs=>obtain ⟨_,_,_,_,o,_,_,e,_⟩:=x;exact O8 e
 | dT kvs=>obtain ⟨_,_,_,_,o,_,_,e,_⟩:=x;exact O8 e
 | set S n=>obtain ⟨o,_,_,_,e,_⟩:=x;exact O8 e
 | ins C dx fs=>obtain ⟨_,_,_,e,_⟩:=x;exact O8 e
 | own y=>obtain ⟨_,e⟩:=x;exact O8 e
 | xd fs=>obtain ⟨_,⟨_,_,_,e,_⟩,_⟩:=x;exact O8 e
 | rng lo hi=>obtain ⟨_,_,_,e⟩:=x;exact O8 e
 | frz ob u=>obtain ⟨e,_⟩:=x;exact O8 e
 | tbl ps=>exact O8 (show h.get? a=some _ from x)
 | met f y=>exact O8 (show h.get? a=some _ from x)
 | ext φ=>obtain ⟨_,⟨_,e⟩,_⟩:=x;exact O8 e
theorem Paired.mapP {α β:Type}{F G:α->β->Prop}:∀{l₁:List α}{l₂:List β},Paired F l₁ l₂->(∀ a b,F a b->G a b)->Paired G l₁ l₂
 | _,_,.nil,_=>.nil
 | _,_,.cons r t,f=>.cons (f _ _ r) (Paired.mapP t f)
theorem ObjOk.stay (x:ObjOk P w H h a o)(k:∀ b u,(b=a\/H b=some (.own a))->h.get? b=some u->h'.get? b=some u)
  (ho:∀ b,H b=some (.own a)->H' b=some (.own a)) (ht:∀ b xs,H b=some (.tup xs)->H' b=some (.tup xs)):ObjOk P w H' h' a o:=by
 induction o with
 | lst xs=>obtain ⟨z,its,n,r,e⟩:=x;exact ⟨z,its,n,r,k _ _ (.inl rfl) e⟩
 | tup xs=>obtain ⟨z,its,r,ob,e,c⟩:=x;exact ⟨z,its,r,ob,k _ _ (.inl rfl) e,c⟩
 | dK kvs=>obtain ⟨z,y,vs,r,ob,es,ep,e,c⟩:=x;exact ⟨z,y,vs,r,ob,es,ep,k _ _ (.inl rfl) e,c⟩
 | dT kvs =>
  obtain ⟨z,y,xs,r,ob,es,ep,e,c⟩:=x
  exact ⟨z,y,xs,Paired.mapP r fun p q z=>⟨z.1,ht _ _ z.2.1,z.2.2⟩,ob,es,ep,k _ _ (.inl rfl) e,c⟩
 | set S n=>obtain ⟨ob,es,ep,t,e,c⟩:=x;exact ⟨ob,es,ep,t,k _ _ (.inl rfl) e,c⟩
 | ins C dx fs =>
  obtain ⟨d,z,ne,e,mA,⟨od,es,ep,e2,c⟩,r⟩:=x
  exact ⟨ho _ d,z,ne,k _ _ (.inl rfl) e,mA,⟨od,es,ep,k _ _ (.inr d) e2,c⟩,r⟩
 | own y=>obtain ⟨ob,e⟩:=x;exact ⟨ob,k _ _ (.inl rfl) e⟩
 | xd fs=>obtain ⟨mA,⟨od,es,ep,e,c⟩,r⟩:=x;exact ⟨mA,⟨od,es,ep,k _ _ (.inl rfl) e,c⟩,r⟩
 | rng lo hi=>obtain ⟨t,u,v,e⟩:=x;exact ⟨t,u,v,k _ _ (.inl rfl) e⟩
 | frz ob u ih=>obtain ⟨e,q⟩:=x;exact ⟨k _ _ (.inl rfl) e,ih q⟩
 | tbl ps =>
  have e:h.get? a=some { cls:=.none,data:=.fields ps }:=x
  show h'.get? a=some { cls:=.none,data:=.fields ps }
  exact k a _ (.inl rfl) e
 | met f y =>
  have e:h.get? a=some (V6 (.ref f) (.ref y)):=x
  show h'.get? a=some (V6 (.ref f) (.ref y))
  exact k a _ (.inl rfl) e
 | ext φ=>obtain ⟨p,⟨o,e⟩,st⟩:=x;exact ⟨st _ _ p fun o q=>k _ _ (.inl rfl) q,⟨o,k _ _ (.inl rfl) e⟩,st⟩
theorem HOk.lt (x:HOk P w H h)(e:H a=some o):a < h.objs.size:=(x a o e).lt
theorem HOk.fresh (x:HOk P w H h)(e:h.objs.size<=a):H a=none:=by
 cases q:H a with
 | none=>rfl
 | some u=>exact absurd (Pk (x.lt q) e) (Qn _)
theorem HOk.kept (x:HOk P w H h)(k:∀ b u,h.get? b=some u->h'.get? b=some u):HOk P w H h':=fun a o e =>
 (x a o e).stay (fun b u _ q=>k b u q) (fun _ q=>q) fun _ _ q=>q
theorem HOk.laid (x:HOk P w H h)(k:∀ b u,h.get? b=some u->h'.get? b=some u)(hp:h.objs.size<=a)(new:ObjOk P w (upd H a o) h' a o):HOk P w (upd H a o) h':=fun b u e=>by
 have hn:=x.fresh hp
 by_cases hb:b=a
 ·subst hb;rw [Ad] at e;cases e;exact new
 ·rw [Af hb] at e
  exact (x b u e).stay (fun c v _ q=>k c v q) (fun c q=>by rw [Af (B8 q hn)];exact q) fun c xs q=>by rw [Af (B8 q hn)];exact q
end
noncomputable def Rd (H:Hp)(a:Addr)(u:HO):Prop:=H a=some u\/∃ o,H a=some (.frz o u)
theorem Rd.ok {P:Program}{w:World}{H:Hp}{h:Heap}{a:Addr}{u:HO}(r:Rd H a u)(x:HOk P w H h):ObjOk P w H h a u:=by
 rcases r with r | ⟨o,r⟩
 ·exact x a u r
 ·obtain ⟨_,q⟩:=x a _ r
  exact q
noncomputable def Mut:Option HO->Prop
 | some (.lst _)=>True
 | some (.dK _)=>True
 | some (.dT _)=>True
 | some (.set _ _)=>True
 | some (.ins _ _ _)=>True
 | some (.ext _)=>True
 | _=>False
section
variable {P:Program}{w:World}{H:Hp}{h h':Heap}{x e:Addr}{o':HO}
theorem HOk.write (ok:HOk P w H h)(mu:Mut (H x))(he:e=x\/H e=some (.own x))(k:∀ b u,b≠e->h.get? b=some u->h'.get? b=some u)(heo:∃ u,h'.get? e=some u)
  (new:ObjOk P w (upd H x o') h' x o'):HOk P w (upd H x o') h':=fun b u q=>by
 have nown:∀ c y,H c=some (.own y)->c≠x:=fun c y r z=>by subst z;rw [r] at mu;exact mu
 have ntup:∀ c xs,H c=some (.tup xs)->c≠x:=fun c xs r z=>by subst z;rw [r] at mu;exact mu
 by_cases hb:b=x
 ·subst hb;rw [Ad] at q;cases q;exact new
 ·rw [Af hb] at q
  by_cases hbe:b=e
  ·have q':H b=some (.own x):=by
    rcases he with z | z
    ·exact absurd (hbe.trans z) hb
    ·rw [hbe];exact z
   rw [q] at q';cases q'
   obtain ⟨v,hv⟩:=heo
   exact ⟨v,by rw [hbe];exact hv⟩
  ·refine (ok b u q).stay (fun c v hc r=>k c v ?_ r) (fun c r=>by rw [Af (nown c b r)];exact r) fun c xs r=>by rw [Af (ntup c xs r)];exact r
   rcases hc with rfl | hc
   ·exact hbe
   ·rintro rfl
    rcases he with z | z
    ·exact nown c b hc z
    ·rw [hc] at z;cases z;exact hb rfl
end
structure Un (fs ex:List Addr)(H H':Hp)(h h':Heap):Prop where
 keep:∀ b o,h.get? b=some o->H b=none->b ∉ fs->b ∉ ex->h'.get? b=some o
 slot:∀ b o,h.get? b=some o->H b=none->b∈fs->b ∉ ex->∃ sl,h'.get? b=some { o with slots:=sl }
 free:∀ b o,h.get? b=some o->H b=none->b ∉ ex->H' b=none
 there:∀ b o,h.get? b=some o->b ∉ ex->∃ o',h'.get? b=some o'
 tups:∀ b xs,H b=some (.tup xs)->H' b=some (.tup xs)
 frzs:∀ b o u,H b=some (.frz o u)->H' b=some (.frz o u)
 tbls:∀ b ps,H b=some (.tbl ps)->∃ more,H' b=some (.tbl (ps++more))
section
variable {fs fs' ex ex':List Addr}{H H1 H2:Hp}{h h1 h2 h':Heap}{a x e:Addr}{o:HO}
theorem Un.any (u:Un fs ex H H1 h h1){b:Addr}{ob:Obj}(q:h.get? b=some ob)(n:H b=none)(hx:b ∉ ex):∃ sl,h1.get? b=some { ob with slots:=sl }:=by
 by_cases hb:b∈fs
 ·exact u.slot b ob q n hb hx
 ·exact ⟨ob.slots,u.keep b ob q n hb hx⟩
theorem Un.kept (k:∀ b u,h.get? b=some u->h'.get? b=some u):Un fs ex H H h h' :=
 ⟨fun b ob q _ _ _=>k b ob q,fun b ob q _ _ _=>⟨ob.slots,k b ob q⟩,fun _ _ _ n _=>n,fun b ob q _=>⟨ob,k b ob q⟩,fun _ _ q=>q,fun _ _ _ q=>q,fun _ ps q=>⟨#[],by rw [q];simp⟩⟩
theorem Un.refl:Un fs ex H H h h:=Un.kept fun _ _ q=>q
theorem Un.laid (k:∀ b u,h.get? b=some u->h'.get? b=some u)(hp:h.objs.size<=a)(hn:H a=none):Un fs ex H (upd H a o) h h' where
 keep:=fun b u q _ _ _=>k b u q
 slot:=fun b u q _ _ _=>⟨u.slots,k b u q⟩
 free:=fun b u q n _=>by rw [Af (Pg (Pk (O8 q) hp))];exact n
 there:=fun b u q _=>⟨u,k b u q⟩
 tups:=fun b xs q=>by rw [Af (B8 q hn)];exact q
 frzs:=fun b u xs q=>by rw [Af (B8 q hn)];exact q
 tbls:=fun b ps q=>⟨#[],by rw [Af (B8 q hn),q];simp⟩
theorem Un.write (mu:Mut (H x))(he:e=x\/H e=some (.own x))(k:∀ b u,b≠e->h.get? b=some u->h'.get? b=some u)(heo:∃ u,h'.get? e=some u):Un fs ex H (upd H x o) h h':=by
 have hx:∀ b,H b=none->b≠x:=fun b n z=>by subst z;rw [n] at mu;exact mu
 have hb:∀ b,H b=none->b≠e:=fun b n z=>by
  subst z
  rcases he with r | r
  ·exact hx b n r
  ·rw [n] at r;cases r
 have hm:∀ b u,H b=some u->¬ Mut (some u)->b≠x:=fun b u q nm z=>by subst z;rw [q] at mu;exact nm mu
 refine ⟨fun b u q n _ _=>k b u (hb b n) q,fun b u q n _ _=>⟨u.slots,k b u (hb b n) q⟩,fun b u q n _=>by rw [Af (hx b n)];exact n,fun b u q _=>?_,
  fun b xs q=>by rw [Af (hm b _ q fun z=>z)];exact q,fun b u xs q=>by rw [Af (hm b _ q fun z=>z)];exact q,fun b ps q=>⟨#[],by rw [Af (hm b _ q fun z=>z),q];simp⟩⟩
 by_cases hbe:b=e
 ·subst hbe;exact heo
 ·exact ⟨u,k b u hbe q⟩
end
noncomputable def trk (h:Heap)(H:Hp):List Addr:=(Pp h.objs.size).filter fun a=>(H a).isSome
noncomputable def E4 (h:Heap)(H:Hp):Heap:=PySem.W.hideAll h (trk h H)
theorem Zi4 (h:Heap)(H:Hp):(E4 h H).objs.size=h.objs.size:=PySem.W.hideAll_size _ _
theorem Zmj {h:Heap}{H:Hp}{b:Addr}{o:Obj}(e:h.get? b=some o)(n:H b=none):(E4 h H).get? b=some o :=
 PySem.W.hideAll_get _ e fun hm=>by
  have q:(H b).isSome=true:=(U7.mp hm).2
  rw [n] at q;simp at q
theorem Zqq {h:Heap}{H:Hp}{b:Addr}{o:Obj}(e:(E4 h H).get? b=some o):h.get? b=some o/\H b=none:=by
 have e':h.get? b=some o:=PySem.W.of_hideAll (trk h H) e
 refine ⟨e',?_⟩
 cases q:H b with
 | none=>rfl
 | some x =>
  have hm:b∈trk h H:=U7.mpr ⟨List.mem_range.mpr (O8 e'),by simp [q]⟩
  have z:(E4 h H).get? b=none:=PySem.W.hideAll_none (trk h H) hm
  rw [z] at e;cases e
structure Mod (K:O1)(mg:Str->Option Value)(base:Heap):Prop where
 kin:K.In base
 glob:base.Ns mainGlobals mg
 blt:∃ mb,base.Ns builtinsNs mb/\∀ x:Str,x ≠ "__name__" -> mb x=bootBuiltins x
 nolimit:base.NoLimit
structure Cx where
 prog:Program
 w:World
 K:O1
 mg:Str->Option Value
 base:Heap
 A:Around
 N:List Str
 s₀:Shared
 H₀:Hp
 env:Env
 outer:List Env
 stack:List Env
 ex:List Addr
 fn:Str->Bool
 calm:Bool
 pn:List (Addr×Obj)
 xe:Value->Shared->Prop
noncomputable def A6 (l:List Env):List Addr:=l.filterMap (·.frame)
noncomputable abbrev Cx.fs (X:Cx):List Addr:=A6 X.outer
noncomputable def Vis (sc:Scope)(x:Str):Prop:=sc.names.lookup x=some .local\/sc.names.lookup x=some .cell\/sc.names.lookup x=some .free
noncomputable def Eu (sc:Scope)(x:Str):Prop:=sc.names.lookup x=some .local\/sc.names.lookup x=some .cell
noncomputable def Look (env:Env)(h:Heap)(m:Str->Option Value)(x:Str)(u:Value):Prop :=
 (env.kindOf x=some .local/\m x=some u)\/((env.kindOf x=some .cell\/env.kindOf x=some .free)/\∃ c,env.cells.lookup x=some c/\h.IsCell c (some u))
structure Cx.Ok (X:Cx):Prop where
 mod:Mod X.K X.mg X.base
 kind:X.env.scope.kind=.function
 glob:X.env.globals=mainGlobals
 blt:X.env.builtins=builtinsNs
 above:X.s₀.heap.objs.size<=X.env.locals
 inj:∀ x y c,X.env.cells.lookup x=some c->X.env.cells.lookup y=some c->x=y
 has:∀ x,(X.env.kindOf x=some .cell\/X.env.kindOf x=some .free)->∃ c,X.env.cells.lookup x=some c
 cab:∀ x c,X.fn x=true->X.env.cells.lookup x=some c->X.s₀.heap.objs.size<=c
 hd:X.calm=true->X.A.handled=none
 frames:X.A.frames=some X.stack
 stk:X.stack=X.outer\/(X.stack=X.env::X.outer/\X.env.frame=some X.env.locals)
 exf:∀ b∈X.ex,b≠X.env.locals/\∀ x c,X.env.cells.lookup x=some c->c≠b
 bs:∀ b o,X.base.get? b=some o->X.s₀.heap.get? b=some o/\X.H₀ b=none
 bsz:X.base.objs.size<=X.s₀.heap.objs.size
 noex:∀ b o,X.base.get? b=some o->b ∉ X.ex
 exfs:∀ b∈X.ex,b ∉ X.fs
 funs:X.s₀.heap.FunFrames X.base X.outer
 frf:∀ b∈X.fs,X.H₀ b=none
structure Inv (X:Cx)(pins:List (Addr×Obj))(σ:List (Option V))(H:Hp)(s:Shared):Prop where
 ok:X.Ok
 os:s.os=X.s₀.os
 bare:AllBare s.gens
 base:Un X.fs X.ex X.H₀ H X.s₀.heap s.heap
 loc:∃ m,s.heap.Ns X.env.locals m/\∀(i:Nat)(x:Str)(v:V),X.N[i]?=some x->σ[i]?=some (some v)->Vis X.env.scope x->∃ u,RelV v u/\Look X.env s.heap m x u
 cell:∀ x c,X.env.cells.lookup x=some c->∃ v,s.heap.IsCell c v
 free:H X.env.locals=none
 freeC:∀ x c,X.env.cells.lookup x=some c->H c=none
 pin:∀ p∈X.pn++pins,s.heap.get? p.1=some p.2/\H p.1=none/\p.1≠X.env.locals/\p.1 ∉ X.fs/\∀ v,p.2.data≠.cell v
 hok:HOk X.prog X.w H s.heap
 len:σ.length=X.N.length
section
variable {X:Cx}{pins:List (Addr×Obj)}{σ:List (Option V)}{H H':Hp}{s:Shared}{h':Heap}
theorem Cx.Ok.nofr (ok:X.Ok){b:Addr}{o:Obj}(e:X.base.get? b=some o):b ∉ X.fs:=fun hb=>by
 have:=(ok.funs.mem hb).1
 rw [e] at this;cases this
theorem Inv.bs (I:Inv X pins σ H s):∀ b o,X.base.get? b=some o->s.heap.get? b=some o/\H b=none:=fun b o e =>
 ⟨I.base.keep b o (I.ok.bs b o e).1 (I.ok.bs b o e).2 (I.ok.nofr e) (I.ok.noex b o e),I.base.free b o (I.ok.bs b o e).1 (I.ok.bs b o e).2 (I.ok.noex b o e)⟩
theorem Inv.bk (I:Inv X pins σ H s):∀ b o,X.base.get? b=some o->s.heap.get? b=some o:=fun b o e=>(I.bs b o e).1
theorem Inv.mod (I:Inv X pins σ H s):Mod X.K X.mg X.base:=I.ok.mod
theorem Inv.kIn (I:Inv X pins σ H s):X.K.In s.heap:=I.ok.mod.kin.keeps I.bk
theorem Inv.lt (I:Inv X pins σ H s):X.env.locals < s.heap.objs.size:=let ⟨_,hn,_⟩:=I.loc;hn.lt
theorem Inv.sz (I:Inv X pins σ H s):X.s₀.heap.objs.size<=s.heap.objs.size:=Px I.ok.above (Su I.lt)
theorem Inv.nofs (I:Inv X pins σ H s){a:Addr}(h:s.heap.objs.size<=a):a ∉ X.fs:=fun hb=>by
 obtain ⟨_,o,ho,_⟩:=I.ok.funs.mem hb
 exact absurd (Pk (O8 ho) (Px I.sz h)) (Qn _)
theorem Inv.cne (I:Inv X pins σ H s):∀ x c,X.env.cells.lookup x=some c->c≠X.env.locals:=fun x c e z=>by
 obtain ⟨v,o,ho,hd⟩:=I.cell x c e
 obtain ⟨m,⟨o',es,ep,ho',hd',_⟩,_⟩:=I.loc
 rw [z,ho'] at ho;cases ho;rw [hd'] at hd;cases hd
theorem Inv.funs (I:Inv X pins σ H s):s.heap.FunFrames X.base X.outer:=by
 have all:∀(l:List Env),(∀ b∈A6 l,b∈X.fs)->X.s₀.heap.FunFrames X.base l->s.heap.FunFrames X.base l:=by
  intro l
  induction l with
  | nil=>intro _ _;trivial
  | cons env r ih =>
   intro hs hl
   obtain ⟨hk,⟨L,o,hf,hn,ho,hd⟩,hr⟩:=hl
   have hL:L∈X.fs:=hs L (by unfold A6;rw [Uu,hf];exact Sl)
   obtain ⟨sl,e⟩:=I.base.slot L o ho (I.ok.frf L hL) hL fun z=>I.ok.exfs L z hL
   exact ⟨hk,⟨L,_,hf,hn,e,hd⟩,ih (fun b hb=>hs b (by unfold A6;rw [Uu,hf];exact Q5 _ hb)) hr⟩
 exact all X.outer (fun _ hb=>hb) I.ok.funs
theorem Inv.stack (I:Inv X pins σ H s):s.heap.FunFrames X.base X.stack:=by
 rcases I.ok.stk with e | ⟨e,hf⟩
 ·rw [e];exact I.funs
 ·rw [e]
  obtain ⟨m,hn,_⟩:=I.loc
  refine .cons (by rw [I.ok.kind];decide) hf hn ?_ I.funs
  exact R4 (Px I.ok.bsz I.ok.above)
theorem Inv.stkSub (I:Inv X pins σ H s):∀ b∈A6 X.stack,b∈X.env.locals::X.fs:=fun b hb=>by
 rcases I.ok.stk with e | ⟨e,hf⟩
 ·rw [e] at hb;exact Q5 _ hb
 ·rw [e] at hb
  unfold A6 at hb
  rw [Uu,hf] at hb
  exact hb
theorem Inv.stkFree (I:Inv X pins σ H s):∀ b∈A6 X.stack,H b=none:=fun b hb=>by
 rcases Pb.mp (I.stkSub b hb) with e | hb
 ·rw [e];exact I.free
 ·obtain ⟨_,o,ho,_⟩:=I.ok.funs.mem hb
  exact I.base.free b o ho (I.ok.frf b hb) fun z=>I.ok.exfs b z hb
theorem Inv.step {g':Array GenState}{t':Nat}{d':Drawn}{ch:List Addr}(I:Inv X pins σ H s)
  (hch:∀ b∈ch,(b∈X.ex\/X.s₀.heap.objs.size<=b)/\b≠X.env.locals/\(∀ x c,X.env.cells.lookup x=some c->c≠b)/\∀ p∈X.pn++pins,p.1≠b)
  (keep:∀ b o,b≠X.env.locals->b ∉ X.fs->b ∉ ch->s.heap.get? b=some o->H b=none->h'.get? b=some o)
  (slot:∀ b o,b≠X.env.locals->b∈X.fs->b ∉ ch->s.heap.get? b=some o->H b=none->∃ sl,h'.get? b=some { o with slots:=sl }) (free:∀ b o,b ∉ ch->s.heap.get? b=some o->H b=none->H' b=none)
  (there:∀ b o,b ∉ ch->s.heap.get? b=some o->∃ o',h'.get? b=some o')
  (tups:∀ b xs,H b=some (.tup xs)->H' b=some (.tup xs)) (frzs:∀ b o u,H b=some (.frz o u)->H' b=some (.frz o u)) (tbls:∀ b ps,H b=some (.tbl ps)->∃ more,H' b=some (.tbl (ps++more)))
  (ns:∀ m,s.heap.Ns X.env.locals m->h'.Ns X.env.locals m) (hok:HOk X.prog X.w H' h') (hg:AllBare g') :
  Inv X pins σ H' { s with heap:=h',gens:=g',drawn:=d',toks:=t' }:=by
 have neL:∀ b o,X.s₀.heap.get? b=some o->b≠X.env.locals:=fun b o e=>Pg (Pk (O8 e) I.ok.above)
 have neC:∀ b o,X.s₀.heap.get? b=some o->b ∉ X.ex->b ∉ ch:=fun b o e hx hb=>by
  rcases (hch b hb).1 with z | z
  ·exact hx z
  ·exact absurd (Pk (O8 e) z) (Qn _)
 have cellK:∀ x c,X.env.cells.lookup x=some c->∀ v,s.heap.IsCell c v->h'.IsCell c v:=fun x c e v ⟨o,ho,hd⟩=>by
  have nch:c ∉ ch:=fun z=>(hch c z).2.2.1 x c e rfl
  by_cases hc:c∈X.fs
  ·obtain ⟨sl,q⟩:=slot c o (I.cne x c e) hc nch ho (I.freeC x c e)
   exact ⟨_,q,hd⟩
  ·exact ⟨o,keep c o (I.cne x c e) hc nch ho (I.freeC x c e),hd⟩
 refine ⟨I.ok,I.os,hg,⟨fun b o e n hb hx=>?_,fun b o e n hb hx=>?_,fun b o e n hx=>?_,fun b o e hx=>?_,fun b xs e=>tups b xs (I.base.tups b xs e),fun b o xs e=>frzs b o xs (I.base.frzs b o xs e),fun b ps e=>?_⟩,?_,fun x c e=>?_,?_,fun x c e=>?_,fun p hp=>?_,hok,I.len⟩
 ·exact keep b o (neL b o e) hb (neC b o e hx) (I.base.keep b o e n hb hx) (I.base.free b o e n hx)
 ·obtain ⟨sl,e1⟩:=I.base.slot b o e n hb hx
  obtain ⟨sl',e2⟩:=slot b _ (neL b o e) hb (neC b o e hx) e1 (I.base.free b o e n hx)
  exact ⟨sl',e2⟩
 ·obtain ⟨o',e1⟩:=I.base.there b o e hx
  exact free b o' (neC b o e hx) e1 (I.base.free b o e n hx)
 ·obtain ⟨o',e1⟩:=I.base.there b o e hx
  exact there b o' (neC b o e hx) e1
 ·obtain ⟨m1,e1⟩:=I.base.tbls b ps e
  obtain ⟨m2,e2⟩:=tbls b _ e1
  exact ⟨m1++m2,by rw [e2,Array.append_assoc]⟩
 ·obtain ⟨m,hn,hl⟩:=I.loc
  refine ⟨m,ns m hn,fun i x v e1 e2 e3=>?_⟩
  obtain ⟨u,r,l⟩:=hl i x v e1 e2 e3
  refine ⟨u,r,?_⟩
  rcases l with l | ⟨k,c,e,z⟩
  ·exact .inl l
  ·exact .inr ⟨k,c,e,cellK x c e _ z⟩
 ·obtain ⟨v,z⟩:=I.cell x c e
  exact ⟨v,cellK x c e v z⟩
 ·obtain ⟨m,⟨o,_,_,ho,_⟩,_⟩:=I.loc
  exact free _ o (fun z=>(hch _ z).2.1 rfl) ho I.free
 ·obtain ⟨v,o,ho,hd⟩:=I.cell x c e
  exact free c o (fun z=>(hch c z).2.2.1 x c e rfl) ho (I.freeC x c e)
 ·obtain ⟨e,n,ne,nf,d⟩:=I.pin p hp
  have nch:p.1 ∉ ch:=fun z=>(hch p.1 z).2.2.2 p hp rfl
  exact ⟨keep p.1 p.2 ne nf nch e n,free p.1 p.2 nch e n,ne,nf,d⟩
theorem Inv.un {t':Nat}(I:Inv X pins σ H s)(u:Un X.fs [] H H' s.heap h')(hok:HOk X.prog X.w H' h'):Inv X pins σ H' { s with heap:=h',toks:=t' }:=by
 obtain ⟨m,⟨o,es,ep,ho,r⟩,_⟩:=id I.loc
 obtain ⟨sl,hL⟩:=u.any ho I.free (by simp)
 exact I.step (g':=s.gens) (d':=s.drawn) (ch:=[]) (fun _ z=>nomatch z) (fun b o _ hb _ e n=>u.keep b o e n hb (by simp)) (fun b o _ hb _ e n=>u.slot b o e n hb (by simp)) (fun b o _ e n=>u.free b o e n (by simp)) (fun b o _ e=>u.there b o e (by simp)) u.tups u.frzs u.tbls (fun m' hm=>by
  obtain ⟨o',es',ep',ho',r'⟩:=hm
  rw [ho] at ho';cases ho'
  exact ⟨_,es',ep',hL,r'⟩) hok I.bare
theorem Inv.call {g':Array GenState}{t':Nat}{d':Drawn}{ch:List Addr}(I:Inv X pins σ H s)(u:Un (A6 X.stack) ch H H' s.heap h')(hok:HOk X.prog X.w H' h')(hg:AllBare g')
  (hch:∀ b∈ch,(b∈X.ex\/X.s₀.heap.objs.size<=b)/\b≠X.env.locals/\(∀ x c,X.env.cells.lookup x=some c->c≠b)/\∀ p∈X.pn++pins,p.1≠b) :
  Inv X pins σ H' { s with heap:=h',gens:=g',drawn:=d',toks:=t' }:=by
 obtain ⟨m,⟨o,es,ep,ho,r⟩,_⟩:=id I.loc
 obtain ⟨sl,hL⟩:=u.any ho I.free fun z=>(hch _ z).2.1 rfl
 exact I.step (ch:=ch) hch (fun b o hL hb hc e n=>u.keep b o e n (fun z=>(Pb.mp (I.stkSub b z)).elim hL hb) hc) (fun b o _ _ hc e n=>u.any e n hc) (fun b o hc e n=>u.free b o e n hc) (fun b o hc e=>u.there b o e hc) u.tups u.frzs u.tbls (fun m' hm=>by
  obtain ⟨o',es',ep',ho',r'⟩:=hm
  rw [ho] at ho';cases ho'
  exact ⟨_,es',ep',hL,r'⟩) hok hg
theorem Inv.turned {t':Nat}{it:Addr}(I:Inv X pins σ H s)(k:∀ b o,b≠it->s.heap.get? b=some o->h'.get? b=some o)(hn:H it=none)(hL:it≠X.env.locals)
  (h1:it∈X.ex\/X.s₀.heap.objs.size<=it) (h2:∀ x c,X.env.cells.lookup x=some c->c≠it) (h3:∀ p∈X.pn++pins,p.1≠it):Inv X pins σ H { s with heap:=h',toks:=t' }:=by
 have nit:∀ b u,H b=some u->b≠it:=fun b u e z=>by rw [z,hn] at e;cases e
 refine I.step (g':=s.gens) (d':=s.drawn) (ch:=[it]) (fun b hb=>?_) (fun b o _ _ hc e _=>k b o (fun z=>hc (by simp [z])) e) (fun b o _ _ hc e _=>⟨o.slots,k b o (fun z=>hc (by simp [z])) e⟩) (fun _ _ _ _ n=>n)
  (fun b o hc e=>⟨o,k b o (fun z=>hc (by simp [z])) e⟩) (fun _ _ e=>e) (fun _ _ _ e=>e) (fun b ps e=>⟨#[],by rw [e];simp⟩) (fun m hm=>?_) (fun b u e=>?_) I.bare
 ·have e:b=it:=by simpa using hb
  subst e
  exact ⟨h1,hL,h2,h3⟩
 ·obtain ⟨o,es,ep,ho,r⟩:=hm
  exact ⟨o,es,ep,k _ o (Pc hL) ho,r⟩
 ·refine (I.hok b u e).stay (fun c v hc q=>k c v ?_ q) (fun _ q=>q) fun _ _ q=>q
  rcases hc with z | z
  ·rw [z];exact nit b u e
  ·exact nit c _ z
theorem Inv.tok (I:Inv X pins σ H s)(t:Nat):Inv X pins σ H { s with toks:=t }:=I.un (h':=s.heap) (t':=t) Un.refl I.hok
theorem Inv.kept {t':Nat}(I:Inv X pins σ H s)(k:∀ b u,s.heap.get? b=some u->h'.get? b=some u):Inv X pins σ H { s with heap:=h',toks:=t' }:=I.un (Un.kept k) (I.hok.kept k)
theorem Inv.laid {a:Addr}{o:HO}{t':Nat}(I:Inv X pins σ H s)(k:∀ b u,s.heap.get? b=some u->h'.get? b=some u)(hp:s.heap.objs.size<=a)(new:ObjOk X.prog X.w (upd H a o) h' a o) :
  Inv X pins σ (upd H a o) { s with heap:=h',toks:=t' }:=I.un (Un.laid k hp (I.hok.fresh hp)) (I.hok.laid k hp new)
theorem Inv.write {x e:Addr}{o:HO}{t':Nat}(I:Inv X pins σ H s)(mu:Mut (H x))(he:e=x\/H e=some (.own x))(k:∀ b u,b≠e->s.heap.get? b=some u->h'.get? b=some u)(heo:∃ u,h'.get? e=some u)
  (new:ObjOk X.prog X.w (upd H x o) h' x o):Inv X pins σ (upd H x o) { s with heap:=h',toks:=t' }:=I.un (Un.write mu he k heo) (I.hok.write mu he k heo new)
theorem Inv.pins_of {pins':List (Addr×Obj)}(I:Inv X pins σ H s)(h:∀ p∈pins',s.heap.get? p.1=some p.2/\H p.1=none/\p.1≠X.env.locals/\p.1 ∉ X.fs/\∀ v,p.2.data≠.cell v):Inv X pins' σ H s :=
 ⟨I.ok,I.os,I.bare,I.base,I.loc,I.cell,I.free,I.freeC,fun p hp=>(Sa.mp hp).elim (fun z=>I.pin p (List.mem_append_left _ z)) (h p),I.hok,I.len⟩
theorem Za6 {N:List Str}(hN:N.Nodup){i j:Nat}{x:Str}(a:N[i]?=some x)(b:N[j]?=some x):i=j:=by
 obtain ⟨h1,e1⟩:=Ph.mp a
 obtain ⟨h2,e2⟩:=Ph.mp b
 exact (List.getElem_inj hN).mp (e1.trans e2.symm)
theorem Zhg {M:Model}{A:Around}{E:Value->Shared->Prop}{i:Nat}{x:Str}{v:V}{u:Value}{Q:Unit->Shared->Prop}(I:Inv X pins σ H s)(hN:X.N.Nodup)(hi:X.N[i]?=some x)(hx:Eu X.env.scope x)(r:RelV v u)
  (h:∀ s',Inv X pins (σ.set i (some v)) H s'->(∃ a,Pl a s.heap s'.heap/\(a=X.env.locals\/X.env.cells.lookup x=some a))->Q () s') (hf:X.fn x=true\/X.env.scope.names.lookup x=some .local:=by first | exact .inl rfl | exact .inr rfl | assumption):wpAny M A (storeName X.env x u) Q E s:=by
 obtain ⟨m,hn,hl⟩:=id I.loc
 have hcls:(X.env.scope.kind == .class || (X.env.scope.kind == .module && X.env.locals != X.env.globals))=false:=by rw [I.ok.kind];rfl
 have hiσ:i < σ.length:=by rw [I.len];exact (Ph.mp hi).1
 have cne:=I.cne
 have tracked:∀{a:Addr}{h':Heap},(∃ o,s.heap.get? a=some o/\H a=none)->Pl a s.heap h'->HOk X.prog X.w H h':=fun {a h'} ha hs b ob e=>by
  obtain ⟨_,_,hfree⟩:=ha
  refine (I.hok b ob e).stay (fun c w' hc q=>(hs.2 c ?_).trans q) (fun _ q=>q) fun _ _ q=>q
  rintro rfl
  rcases hc with rfl | hc
  ·rw [hfree] at e;cases e
  ·rw [hfree] at hc;cases hc
 rcases hx with hk | hk
 ·refine wpAny_storeName_local hk hn (fun h' hn' hs=>?_) hcls
  obtain ⟨oL,_,_,hoL,_⟩:=id hn
  refine h _ ⟨I.ok,I.os,I.bare,⟨fun b o e n hb hx=>?_,fun b o e n hb hx=>?_,I.base.free,fun b o e hx=>?_,I.base.tups,I.base.frzs,I.base.tbls⟩,⟨_,hn',fun j y v' e1 e2 e3=>?_⟩,fun y c e=>?_,I.free,I.freeC,fun p hp=>?_,tracked ⟨oL,hoL,I.free⟩ hs,by simpa using I.len⟩ ⟨_,hs,.inl rfl⟩
  ·exact (hs.2 b (Pg (Pk (O8 e) I.ok.above))).trans (I.base.keep b o e n hb hx)
  ·obtain ⟨sl,e1⟩:=I.base.slot b o e n hb hx
   exact ⟨sl,(hs.2 b (Pg (Pk (O8 e) I.ok.above))).trans e1⟩
  ·obtain ⟨o',e1⟩:=I.base.there b o e hx
   exact ⟨o',(hs.2 b (Pg (Pk (O8 e) I.ok.above))).trans e1⟩
  ·by_cases hj:j=i
   ·subst hj
    rw [hi] at e1;cases e1
    rw [Tc hiσ] at e2
    cases e2
    exact ⟨u,r,.inl ⟨hk,by simp⟩⟩
   ·rw [Ut (Pc hj)] at e2
    obtain ⟨u',r',q⟩:=hl j y v' e1 e2 e3
    refine ⟨u',r',?_⟩
    rcases q with ⟨k,e⟩ | ⟨k,c,e,z⟩
    ·refine .inl ⟨k,?_⟩
     have:y≠x:=fun e=>hj (Za6 hN e1 (e ▸ hi))
     simp [this,e]
    ·exact .inr ⟨k,c,e,z.sameBut hs (cne y c e)⟩
  ·obtain ⟨w',z⟩:=I.cell y c e
   exact ⟨w',z.sameBut hs (cne y c e)⟩
  ·obtain ⟨e,n,ne,nf,d⟩:=I.pin p hp
   exact ⟨(hs.2 p.1 ne).trans e,n,ne,nf,d⟩
 ·have hfn:X.fn x=true:=by
   rcases hf with z | z
   ·exact z
   ·rw [z] at hk;cases hk
  obtain ⟨c,hc⟩:=I.ok.has x (.inl hk)
  obtain ⟨w',z⟩:=I.cell x c hc
  refine wpAny_storeName_cell I.ok.kind hk hc z (fun h' hc' hs=>?_)
  obtain ⟨oc,hoc,hocd⟩:=id z
  refine h { s with heap:=h' } ⟨I.ok,I.os,I.bare,⟨fun b o e n hb hx=>?_,fun b o e n hb hx=>?_,I.base.free,fun b o e hx=>?_,I.base.tups,I.base.frzs,I.base.tbls⟩,⟨m,hn.sameBut hs (Pc (cne x c hc)),fun j y v' e1 e2 e3=>?_⟩,fun y c' e=>?_,I.free,I.freeC,fun p hp=>?_,tracked ⟨oc,hoc,I.freeC x c hc⟩ hs,by simpa using I.len⟩ ⟨c,hs,.inr hc⟩
  ·exact (hs.2 b (Pg (Pk (O8 e) (I.ok.cab x c hfn hc)))).trans (I.base.keep b o e n hb hx)
  ·obtain ⟨sl,e1⟩:=I.base.slot b o e n hb hx
   exact ⟨sl,(hs.2 b (Pg (Pk (O8 e) (I.ok.cab x c hfn hc)))).trans e1⟩
  ·obtain ⟨o',e1⟩:=I.base.there b o e hx
   exact ⟨o',(hs.2 b (Pg (Pk (O8 e) (I.ok.cab x c hfn hc)))).trans e1⟩
  ·by_cases hj:j=i
   ·subst hj
    rw [hi] at e1;cases e1
    rw [Tc hiσ] at e2
    cases e2
    exact ⟨u,r,.inr ⟨.inl hk,c,hc,hc'⟩⟩
   ·rw [Ut (Pc hj)] at e2
    obtain ⟨u',r',q⟩:=hl j y v' e1 e2 e3
    refine ⟨u',r',?_⟩
    rcases q with q | ⟨k,c',e,z'⟩
    ·exact .inl q
    ·refine .inr ⟨k,c',e,z'.sameBut hs ?_⟩
     rintro rfl
     exact hj (Za6 hN e1 (I.ok.inj _ _ _ e hc ▸ hi))
  ·by_cases hcc:c'=c
   ·subst hcc;exact ⟨_,hc'⟩
   ·obtain ⟨w2,z2⟩:=I.cell y c' e
    exact ⟨w2,z2.sameBut hs hcc⟩
  ·obtain ⟨e,n,ne,nf,d⟩:=I.pin p hp
   refine ⟨(hs.2 p.1 ?_).trans e,n,ne,nf,d⟩
   intro q
   rw [q,hoc] at e
   have q':oc=p.2:=P6 e
   exact d w' (by rw [<- q'];exact hocd)
theorem Jv {M:Model}{A:Around}{E:Value->Shared->Prop}{i:Nat}{x:Str}{v:V}{u:Value}{Q:Unit->Shared->Prop}(I:Inv X pins σ H s)(hN:X.N.Nodup)(hi:X.N[i]?=some x)(hx:Eu X.env.scope x)(r:RelV v u)
  (h:∀ s',Inv X pins (σ.set i (some v)) H s'->Q () s') (hf:X.fn x=true\/X.env.scope.names.lookup x=some .local:=by first | exact .inl rfl | exact .inr rfl | assumption):wpAny M A (storeName X.env x u) Q E s :=
 Zhg I hN hi hx r (fun s' I' _=>h s' I') hf
theorem Inv.call' {s':Shared}{ch:List Addr}(I:Inv X pins σ H s)(ho:s'.os=s.os)(u:Un (A6 X.stack) ch H H' s.heap s'.heap)(hok:HOk X.prog X.w H' s'.heap)(hg:AllBare s'.gens)
  (hch:∀ b∈ch,(b∈X.ex\/X.s₀.heap.objs.size<=b)/\b≠X.env.locals/\(∀ x c,X.env.cells.lookup x=some c->c≠b)/\∀ p∈X.pn++pins,p.1≠b):Inv X pins σ H' s':=by
 obtain ⟨h',g',d',t',o'⟩:=s'
 have e:o'=s.os:=ho
 subst e
 exact I.call (g':=g') (t':=t') (d':=d') u hok hg hch
end
noncomputable abbrev XK:=Value->Option Addr->Hp->Prop
noncomputable abbrev St:=List (Option V)
noncomputable abbrev VK:=V->Hp->Prop
noncomputable abbrev TE:=St->Hp->VK->Prop
noncomputable abbrev TT:=St->Hp->(Bool->Hp->Prop)->Prop
noncomputable abbrev TA:=St->Hp->(List V->Hp->Prop)->Prop
structure Ends where
 nx:St->Hp->Prop
 rt:VK
 bk:St->Hp->Prop:=fun _ _=>False
 ct:St->Hp->Prop:=fun _ _=>False
noncomputable abbrev TS:=Ends->St->Hp->Prop
noncomputable def EP (X:Cx)(pins:List (Addr×Obj))(σ:St)(Q:VK)(u:Value)(s':Shared):Prop:=∃ v H',Inv X pins σ H' s'/\RelV v u/\Q v H'
noncomputable def TP (X:Cx)(pins:List (Addr×Obj))(σ:St)(Q:Bool->Hp->Prop)(b:Bool)(s':Shared):Prop:=∃ H',Inv X pins σ H' s'/\Q b H'
noncomputable def AP (X:Cx)(pins:List (Addr×Obj))(σ:St)(Q:List V->Hp->Prop)(us:List Value)(s':Shared):Prop:=∃ vs H',Inv X pins σ H' s'/\Vals vs us/\Q vs H'
noncomputable def SP (X:Cx)(pins:List (Addr×Obj))(D:Ends)(f:Flow)(s':Shared):Prop :=
 match f with
 | .next=>∃ σ' H',Inv X pins σ' H' s'/\D.nx σ' H'
 | .brk=>∃ σ' H',Inv X pins σ' H' s'/\D.bk σ' H'
 | .cont=>∃ σ' H',Inv X pins σ' H' s'/\D.ct σ' H'
 | .ret u=>∃ v σ' H',Inv X pins σ' H' s'/\RelV v u/\D.rt v H'
noncomputable def PE (X:Cx)(e:Expr)(t:TE):Prop :=
 ∀(pins:List (Addr×Obj))(s:Shared)(σ:St)(H:Hp)(Q:VK),Inv X pins σ H s->t σ H Q->wpAny (model X.prog X.w) X.A (eval e X.env) (EP X pins σ Q) X.xe s
noncomputable def PT (X:Cx)(e:Expr)(t:TT):Prop :=
 ∀(pins:List (Addr×Obj))(s:Shared)(σ:St)(H:Hp)(Q:Bool->Hp->Prop),Inv X pins σ H s->t σ H Q->wpAny (model X.prog X.w) X.A (isTrue e X.env (eval e X.env)) (TP X pins σ Q) X.xe s
noncomputable def PW (X:Cx)(e:Expr)(t:TT):Prop :=
 ∀(whole:Sem Value)(pins:List (Addr×Obj))(s:Shared)(σ:St)(H:Hp)(Q:Bool->Hp->Prop),Inv X pins σ H s->t σ H Q->wpAny (model X.prog X.w) X.A (isTrue e X.env whole) (TP X pins σ Q) X.xe s
theorem PW.pt {X:Cx}{e:Expr}{t:TT}(h:PW X e t):PT X e t:=h _
noncomputable def PA (X:Cx)(es:List Expr)(t:TA):Prop :=
 ∀(pos:Pos)(pins:List (Addr×Obj))(s:Shared)(σ:St)(H:Hp)(Q:List V->Hp->Prop),Inv X pins σ H s->t σ H Q->wpAny (model X.prog X.w) X.A (spliced (backTo pos (starEach es X.env))) (AP X pins σ Q) X.xe s
noncomputable def PS (X:Cx)(st:Stmt)(t:TS):Prop :=
 ∀(pins:List (Addr×Obj))(s:Shared)(σ:St)(H:Hp)(D:Ends),Inv X pins σ H s->t D σ H->wpAny (model X.prog X.w) X.A (exec st X.env) (SP X pins D) X.xe s
noncomputable def PSs (X:Cx)(st:List Stmt)(t:TS):Prop :=
 ∀(pins:List (Addr×Obj))(s:Shared)(σ:St)(H:Hp)(D:Ends),Inv X pins σ H s->t D σ H->wpAny (model X.prog X.w) X.A (execs st X.env) (SP X pins D) X.xe s
theorem Aj {α:Type}{t:Sem α}{Q Q':α->Shared->Prop}{M:Model}{A:Around}{E:Value->Shared->Prop}{s:Shared}(h:wpAny M A t Q E s)(hQ:∀ a s,Q a s->Q' a s):wpAny M A t Q' E s:=Py h hQ fun _ _ x=>x
section
variable {X:Cx}
noncomputable def Zan (i:Nat):TE:=fun σ H Q=>∃ v,σ[i]?=some (some v)/\Q v H
noncomputable def tC (v:V):TE:=fun _ H Q=>Q v H
theorem Zkl {i:Nat}{x:Str}{pos:Pos}(hN:X.N[i]?=some x)(hv:Vis X.env.scope x)(hd:(x == ("__debug__" : Str))=false:=by decide)(hcd:(x == ("__classdict__" : Str))=false:=by decide):PE X (.Name x pos) (Zan i):=by
 intro pins s σ H Q I h
 obtain ⟨v,e,h⟩:=h
 obtain ⟨m,hn,hl⟩:=I.loc
 obtain ⟨u,r,l⟩:=hl i x v hN e hv
 have fin:EP X pins σ Q u s:=⟨v,H,I,r,h⟩
 rcases l with ⟨hk,hm⟩ | ⟨hk,c,hc,hcell⟩
 ·exact wpAny_Name (wpAny_loadName_local I.ok.kind hk hn hm fin) hd
 ·rcases hk with hk | hk
  ·exact wpAny_Name (wpAny_loadName_cell I.ok.kind hk hc hcell fin) hd
  ·exact wpAny_Name (wpAny_loadName_free I.ok.kind hk hc hcell fin hcd) hd
theorem Zew {i j pos}:PE X (.Constant (.int i) j pos) (tC (.int i)):=fun _ _ _ H _ I h=>wpAny_Constant_int ⟨.int i,H,I.tok _,⟨_,rfl⟩,h⟩
theorem Zfa {b j pos}:PE X (.Constant (.bool b) j pos) (tC (.bl b)):=fun _ _ _ H _ I h=>Constant_bool ⟨.bl b,H,I,rfl,h⟩
theorem Zg1 {j pos}:PE X (.Constant .none j pos) (tC .non):=fun _ _ _ H _ I h=>Constant_none ⟨.non,H,I,rfl,h⟩
theorem Zea {x j pos}:PE X (.Constant (.str x) j pos) (tC (.str x)):=fun _ _ _ H _ I h=>Calls.Constant_str ⟨.str x,H,I.tok _,⟨_,rfl⟩,h⟩
noncomputable def Gl (X:Cx)(x:Str):Prop:=X.env.kindOf x=some .globalImplicit
theorem Ez {E:Value->Shared->Prop}{pins:List (Addr×Obj)}{s:Shared}{σ:St}{H:Hp}{x:Str}{u:Value}{pos:Pos}{Q:Value->Shared->Prop}(I:Inv X pins σ H s)(hg:Gl X x)(hm:X.mg x=some u)(h:Q u s)
  (hd:(x == ("__debug__" : Str))=false:=by decide):wpAny (model X.prog X.w) X.A (eval (.Name x pos) X.env) Q E s :=
 Calls.Name_function_global I.ok.kind hg (Calls.loadGlobal_global (by rw [I.ok.glob];exact I.mod.glob.keeps I.bk) hm h) hd
theorem Fg {E:Value->Shared->Prop}{pins:List (Addr×Obj)}{s:Shared}{σ:St}{H:Hp}{x:Str}{u:Value}{pos:Pos}{Q:Value->Shared->Prop}(I:Inv X pins σ H s)(hg:Gl X x)(hm:X.mg x=none)(hv:bootBuiltins x=some u)(h:Q u s)
  (hn:x ≠ "__name__" := by decide) (hd:(x == ("__debug__" : Str))=false:=by decide):wpAny (model X.prog X.w) X.A (eval (.Name x pos) X.env) Q E s:=by
 obtain ⟨mb,h1,h2⟩:=I.mod.blt
 exact Calls.Name_function_global I.ok.kind hg (Calls.loadGlobal_builtin (by rw [I.ok.glob];exact I.mod.glob.keeps I.bk) hm (by rw [I.ok.blt];exact h1.keeps I.bk) ((h2 x hn).trans hv) h) hd
theorem Zg3 {x:Str}{v:V}{u:Value}{pos:Pos}(hg:Gl X x)(hm:X.mg x=some u)(r:RelV v u)(hd:(x == ("__debug__" : Str))=false:=by decide):PE X (.Name x pos) (tC v) :=
 fun _ _ _ H _ I h=>Ez I hg hm ⟨v,H,I,r,h⟩ hd
theorem Zlw {x:Str}{v:V}{u:Value}{pos:Pos}(hg:Gl X x)(hm:X.mg x=none)(hv:bootBuiltins x=some u)(r:RelV v u)(hn:x ≠ "__name__" := by decide)(hd:(x == ("__debug__" : Str))=false:=by decide):PE X (.Name x pos) (tC v) :=
 fun _ _ _ H _ I h=>Fg I hg hm hv ⟨v,H,I,r,h⟩ hn hd
variable {a b:Expr}{ta tb:TE}{pos:Pos}
noncomputable def PC (X:Cx)(op:CmpOp)(a b:Expr)(t:TE):Prop :=
 ∀(pins:List (Addr×Obj))(s:Shared)(σ:St)(H:Hp)(Q:VK),Inv X pins σ H s->t σ H Q ->
  wpAny (model X.prog X.w) X.A (eval a X.env) (fun v s₁=>wpAny (model X.prog X.w) X.A (eval b X.env) (fun u s₂=>wpAny (model X.prog X.w) X.A (compareOp op v u) (EP X pins σ Q) X.xe s₂) X.xe s₁) X.xe s
theorem Lo (b:Expr){op:CmpOp}(h:op≠.In)(h2:op≠.NotIn):behindInMarks op b=false:=by
 have e1:(op == CmpOp.In)=false:=by cases op <;> first | rfl | exact absurd rfl h
 have e2:(op == CmpOp.NotIn)=false:=by cases op <;> first | rfl | exact absurd rfl h2
 cases b <;> simp [behindInMarks,e1,e2]
noncomputable def N3 (ta:TE):TE:=fun σ H Q=>ta σ H fun x H1=>Q (.bl (decide (x=.non))) H1
theorem RelV.none_iff {x:V}{v:Value}(r:RelV x v):(v == Value.none)=decide (x=.non):=by
 cases x with
 | non=>cases r;rfl
 | bl _=>cases r;rfl
 | int _=>obtain ⟨t,rfl⟩:=r;rfl
 | str _=>obtain ⟨t,rfl⟩:=r;rfl
 | byt _=>obtain ⟨t,rfl⟩:=r;rfl
 | flt _=>obtain ⟨t,rfl⟩:=r;rfl
 | ref _=>cases r;rfl
 | ty _=>cases r;rfl
theorem Zl2 {j pos'}(ha:PE X a ta):PC X .Is a (.Constant .none j pos') (N3 ta):=by
 intro pins s σ H Q I h
 refine Aj (ha pins s σ H _ I h) fun v s1 zq=>?_
 obtain ⟨x,H1,I1,r1,q1⟩:=zq
 exact Constant_none (is_none_gen ⟨.bl _,H1,I1,by rw [r1.none_iff];rfl,q1⟩)
noncomputable def tB (t:TE):TT:=fun σ H Q=>t σ H fun x H1=>∃ c,x=.bl c/\Q c H1
theorem Zky {op:CmpOp}{t:TE}(h:PC X op a b t)(h1:behindInMarks op b=false:=by first | exact Lo _ (by decide) (by decide) | rfl):PE X (.Compare a [op] [b] pos) t:=fun pins s σ H Q I hw=>wpAny_Compare1 (h pins s σ H Q I hw) h1
theorem Zne {op:CmpOp}{t:TE}(h:PC X op a b t)(h1:behindInMarks op b=false:=by first | exact Lo _ (by decide) (by decide) | rfl):PT X (.Compare a [op] [b] pos) (tB t):=by
 intro pins s σ H Q I hw
 refine wpAny_isTrue_Compare1 (Aj (h pins s σ H _ I hw) fun v s1 h1=>Aj h1 fun u s2 h2=>Aj h2 fun c s3 zq=>?_) h1
 obtain ⟨x,H1,I1,r1,q1⟩:=zq
 obtain ⟨d,rfl,q⟩:=q1
 cases r1
 exact Q7 ⟨H1,I1,q⟩
theorem Zk7 {e:Expr}{t:TE}(h:PE X e t)(he:∀ whole,isTrue e X.env whole=(do let v <- whole;standAt e.pos;holding [v] (truthy v)):=by intro _;rfl):PT X e (tB t):=by
 intro pins s σ H Q I hw
 refine isTrue_plain (Aj (h pins s σ H _ I hw) fun v s1 zq=>?_) (he _)
 obtain ⟨x,H1,I1,r1,q1⟩:=zq
 obtain ⟨d,rfl,q⟩:=q1
 cases r1
 exact Q7 ⟨H1,I1,q⟩
variable {tA tB':TT}{rest:List Expr}
noncomputable def Nq (t u:TT):TT:=fun σ H Q=>t σ H fun c H1=>if c=true then u σ H1 Q else Q false H1
noncomputable def tOr (t u:TT):TT:=fun σ H Q=>t σ H fun c H1=>if c=true then Q true H1 else u σ H1 Q
noncomputable def Ou (t:TT):TT:=fun σ H Q=>t σ H fun c H1=>Q (!c) H1
theorem pw_and1 (ha:PT X a tA):PW X (.BoolOp .And [a] pos) tA:=by
 intro wh pins s σ H Q I h
 refine isTrue_and (Aj (ha pins s σ H Q I h) fun c s1 e=>?_)
 cases c with
 | true=>exact isTrue_and_nil e
 | false=>exact e
theorem pw_or1 (ha:PT X a tA):PW X (.BoolOp .Or [a] pos) tA:=by
 intro wh pins s σ H Q I h
 refine isTrue_or (Aj (ha pins s σ H Q I h) fun c s1 e=>?_)
 cases c with
 | false=>exact isTrue_or_nil e
 | true=>exact e
theorem pw_and (ha:PT X a tA)(hb:PW X (.BoolOp .And (b::rest) pos) tB'):PW X (.BoolOp .And (a::b::rest) pos) (Nq tA tB'):=by
 intro wh pins s σ H Q I h
 refine isTrue_and (Aj (ha pins s σ H _ I h) fun c s1 zq=>?_)
 obtain ⟨H1,I1,q1⟩:=zq
 cases c with
 | true=>exact hb wh pins s1 σ H1 Q I1 q1
 | false=>exact ⟨H1,I1,q1⟩
theorem pw_or (ha:PT X a tA)(hb:PW X (.BoolOp .Or (b::rest) pos) tB'):PW X (.BoolOp .Or (a::b::rest) pos) (tOr tA tB'):=by
 intro wh pins s σ H Q I h
 refine isTrue_or (Aj (ha pins s σ H _ I h) fun c s1 zq=>?_)
 obtain ⟨H1,I1,q1⟩:=zq
 cases c with
 | true=>exact ⟨H1,I1,q1⟩
 | false=>exact hb wh pins s1 σ H1 Q I1 q1
theorem Zof (ha:PT X a tA):PT X (.UnaryOp .Not a pos) (Ou tA):=by
 intro pins s σ H Q I h
 exact isTrue_not (ha pins s σ H (fun c H1=>Q (!c) H1) I h)
noncomputable def Zay (ta tb:TE):TE:=fun σ H Q=>ta σ H fun x H1=>∃ c,x=.bl c/\if c=true then tb σ H1 Q else Q (.bl false) H1
noncomputable def Zb0 (ta tb:TE):TE:=fun σ H Q=>ta σ H fun x H1=>∃ c,x=.bl c/\if c=true then Q (.bl true) H1 else tb σ H1 Q
noncomputable def Nh (ta:TE):TE:=fun σ H Q=>ta σ H fun x H1=>∃ c,x=.bl c/\Q (.bl (!c)) H1
theorem Zsq {op}{t:TE}(h:PE X a t):PE X (.BoolOp op [a] pos) t:=fun pins s σ H Q I hw=>BoolOp_one (h pins s σ H Q I hw)
theorem Zio (ha:PE X a ta)(hb:PE X (.BoolOp .And (b::rest) pos) tb):PE X (.BoolOp .And (a::b::rest) pos) (Zay ta tb):=by
 intro pins s σ H Q I h
 refine BoolOp_and (Aj (ha pins s σ H _ I h) fun v s1 zq=>?_)
 obtain ⟨x,H1,I1,r1,q1⟩:=zq
 obtain ⟨c,rfl,q1⟩:=q1
 cases r1
 refine Q7 ?_
 cases c with
 | true=>exact hb pins s1 σ H1 Q I1 q1
 | false=>exact ⟨.bl false,H1,I1,rfl,q1⟩
theorem Zn2 (ha:PE X a ta)(hb:PE X (.BoolOp .Or (b::rest) pos) tb):PE X (.BoolOp .Or (a::b::rest) pos) (Zb0 ta tb):=by
 intro pins s σ H Q I h
 refine BoolOp_or (Aj (ha pins s σ H _ I h) fun v s1 zq=>?_)
 obtain ⟨x,H1,I1,r1,q1⟩:=zq
 obtain ⟨c,rfl,q1⟩:=q1
 cases r1
 refine Q7 ?_
 cases c with
 | false=>exact hb pins s1 σ H1 Q I1 q1
 | true=>exact ⟨.bl true,H1,I1,rfl,q1⟩
theorem Zh1 (ha:PE X a ta):PE X (.UnaryOp .Not a pos) (Nh ta):=by
 intro pins s σ H Q I h
 refine UnaryOp_ (Aj (ha pins s σ H _ I h) fun v s1 zq=>?_)
 obtain ⟨x,H1,I1,r1,q1⟩:=zq
 obtain ⟨c,rfl,q1⟩:=q1
 cases r1
 exact not_of (Q7 ⟨.bl (!c),H1,I1,rfl,q1⟩)
noncomputable def Hm (t:TT)(ta tb:TE):TE:=fun σ H Q=>t σ H fun c H1=>if c=true then ta σ H1 Q else tb σ H1 Q
theorem Zpo {c:Expr}(hc:PT X c tA)(ha:PE X a ta)(hb:PE X b tb):PE X (.IfExp c a b pos) (Hm tA ta tb):=by
 intro pins s σ H Q I h
 refine wpAny_IfExp (Aj (hc pins s σ H _ I h) fun d s1 zq=>?_)
 obtain ⟨H1,I1,q1⟩:=zq
 cases d with
 | true=>exact ha pins s1 σ H1 Q I1 q1
 | false=>exact hb pins s1 σ H1 Q I1 q1
end
noncomputable def SqL (K:O1)(H:Hp)(a:Addr)(xs:List V):Prop :=
 Rd H a (.lst xs) \/
  ∃(o:Obj)(its:Array Value)(n:Nat),K.lookup a=some o/\o.cls=.type "list" /\ o.dict=none/\o.data=.seq its n/\its.size<=sizeLine/\Vals xs its.toList
noncomputable def SqT (K:O1)(H:Hp)(a:Addr)(xs:List V):Prop :=
 Rd H a (.tup xs) \/
  ∃(o:Obj)(its:Array Value)(n:Nat),K.lookup a=some o/\o.cls=.type "tuple" /\ o.data=.seq its n/\its.size<=sizeLine/\Vals xs its.toList
noncomputable def Lr:Value->Option V
 | .none=>some .non
 | .bool b=>some (.bl b)
 | .int i _=>some (.int i)
 | .str x _=>some (.str x)
 | .bytes b _=>some (.byt b)
 | .float b _=>some (.flt b)
 | .ref a=>some (.ref a)
 | .type n=>some (.ty n)
 | _=>none
theorem RelV.abs {x:V}{u:Value}(r:RelV x u):Lr u=some x:=by
 cases x with
 | non=>cases r;rfl
 | bl _=>cases r;rfl
 | int _=>obtain ⟨t,rfl⟩:=r;rfl
 | str _=>obtain ⟨t,rfl⟩:=r;rfl
 | byt _=>obtain ⟨t,rfl⟩:=r;rfl
 | flt _=>obtain ⟨t,rfl⟩:=r;rfl
 | ref _=>cases r;rfl
 | ty _=>cases r;rfl
theorem RelV.inj {x y:V}{u:Value}(r:RelV x u)(q:RelV y u):x=y:=P6 (r.abs.symm.trans q.abs)
theorem Vals.inj:∀{xs ys:List V}{us:List Value},Vals xs us->Vals ys us->xs=ys
 | _,_,_,.nil,.nil=>rfl
 | _,_,_,.cons r t,.cons r' t'=>by rw [r.inj r',Vals.inj t t']
section
variable {X:Cx}{pins:List (Addr×Obj)}{σ:St}{H:Hp}{s:Shared}{a:Addr}{xs ys:List V}
theorem SqL.of {K:O1}(h:H a=some (.lst xs)):SqL K H a xs:=.inl (.inl h)
theorem SqT.of {K:O1}(h:H a=some (.tup xs)):SqT K H a xs:=.inl (.inl h)
theorem Inv.list (I:Inv X pins σ H s)(h:SqL X.K H a xs):∃ its:List Value,Vals xs its/\PlainL s.heap a its.toArray/\xs.length<=sizeLine:=by
 rcases h with h | ⟨o,its,n,hk,hc,hd,hs,hz,r⟩
 ·obtain ⟨z,its,n,r,e⟩:=h.ok I.hok
  exact ⟨its,r,⟨_,n,e,rfl,rfl,rfl⟩,z⟩
 ·refine ⟨its.toList,r,⟨o,n,I.kIn a o hk,hc,hd,by simpa using hs⟩,?_⟩
  have e:=r.length
  simp only [Uv] at e
  omega
theorem Inv.tuple (I:Inv X pins σ H s)(h:SqT X.K H a xs):∃ its:List Value,Vals xs its/\IsTup s.heap a its.toArray/\xs.length<=sizeLine:=by
 rcases h with h | ⟨o,its,n,hk,hc,hs,hz,r⟩
 ·obtain ⟨z,its,r,p⟩:=h.ok I.hok
  exact ⟨its,r,p,z⟩
 ·refine ⟨its.toList,r,⟨o,I.kIn a o hk,hc,n,by simpa using hs⟩,?_⟩
  have e:=r.length
  simp only [Uv] at e
  omega
theorem Inv.list_inj (I:Inv X pins σ H s)(h:SqL X.K H a xs)(h':SqL X.K H a ys):xs=ys:=by
 obtain ⟨its,r,⟨o,n,e,_,_,d⟩,_⟩:=I.list h
 obtain ⟨its',r',⟨o',n',e',_,_,d'⟩,_⟩:=I.list h'
 rw [e] at e';cases e'
 rw [d] at d'
 injection d' with d1 _
 have:its=its':=by simpa using congrArg Array.toList d1
 subst this
 exact r.inj r'
theorem Inv.tuple_inj (I:Inv X pins σ H s)(h:SqT X.K H a xs)(h':SqT X.K H a ys):xs=ys:=by
 obtain ⟨its,r,⟨o,e,_,n,d⟩,_⟩:=I.tuple h
 obtain ⟨its',r',⟨o',e',_,n',d'⟩,_⟩:=I.tuple h'
 rw [e] at e';cases e'
 rw [d] at d'
 injection d' with d1 _
 have:its=its':=by simpa using congrArg Array.toList d1
 subst this
 exact r.inj r'
end
noncomputable abbrev Cx.wish (X:Cx)(E:Value->Shared->Prop):Cx:={ X with xe:=E }
noncomputable abbrev Cx.nox (X:Cx):Cx:=X.wish fun _ _=>False
theorem Cx.Ok.wish {X:Cx}(ok:X.Ok)(E:Value->Shared->Prop):(X.wish E).Ok :=
 ⟨ok.mod,ok.kind,ok.glob,ok.blt,ok.above,ok.inj,ok.has,ok.cab,ok.hd,ok.frames,ok.stk,ok.exf,ok.bs,ok.bsz,ok.noex,ok.exfs,ok.funs,ok.frf⟩
theorem Cx.Ok.unwish {X:Cx}{E:Value->Shared->Prop}(ok:(X.wish E).Ok):X.Ok :=
 ⟨ok.mod,ok.kind,ok.glob,ok.blt,ok.above,ok.inj,ok.has,ok.cab,ok.hd,ok.frames,ok.stk,ok.exf,ok.bs,ok.bsz,ok.noex,ok.exfs,ok.funs,ok.frf⟩
section
variable {X:Cx}{pins:List (Addr×Obj)}{σ:St}{H:Hp}{s:Shared}{E:Value->Shared->Prop}
theorem Inv.wish (I:Inv X pins σ H s)(E:Value->Shared->Prop):Inv (X.wish E) pins σ H s:=⟨I.ok.wish E,I.os,I.bare,I.base,I.loc,I.cell,I.free,I.freeC,I.pin,I.hok,I.len⟩
theorem Inv.unwish (I:Inv (X.wish E) pins σ H s):Inv X pins σ H s:=⟨I.ok.unwish,I.os,I.bare,I.base,I.loc,I.cell,I.free,I.freeC,I.pin,I.hok,I.len⟩
theorem SP.unwish {D:Ends}{f:Flow}{s':Shared}(h:SP (X.wish E) pins D f s'):SP X pins D f s':=by
 cases f with
 | next=>obtain ⟨σ',H',I,q⟩:=h;exact ⟨σ',H',I.unwish,q⟩
 | brk=>obtain ⟨σ',H',I,q⟩:=h;exact ⟨σ',H',I.unwish,q⟩
 | cont=>obtain ⟨σ',H',I,q⟩:=h;exact ⟨σ',H',I.unwish,q⟩
 | ret u=>obtain ⟨v,σ',H',I,r,q⟩:=h;exact ⟨v,σ',H',I.unwish,r,q⟩
theorem PSs.nox {st:List Stmt}{t:TS}(h:PSs X.nox st t):PSs X st t:=fun pins s σ H D I hw =>
 Py (h pins s σ H D (I.wish _) hw) (fun _ _ q=>q.unwish) fun _ _ z=>Pt z
end
section
variable {X:Cx}{st:Stmt}{rest:List Stmt}{t u:TS}{e:Expr}{te:TE}{pos:Pos}
noncomputable def N8:TS:=fun D σ H=>D.nx σ H
noncomputable def Mm (t u:TS):TS:=fun D σ H=>t { D with nx:=u D } σ H
theorem Zjx:PSs X [] N8:=fun _ _ σ H _ I h=>Rc ⟨σ,H,I,h⟩
theorem Zlo (h1:PS X st t)(h2:PSs X rest u):PSs X (st::rest) (Mm t u):=by
 intro pins s σ H D I h
 refine U2 (Aj (h1 pins s σ H { D with nx:=u D } I h) fun f s1 q=>?_)
 cases f with
 | next =>
  obtain ⟨σ',H',I',q⟩:=q
  exact h2 pins s1 σ' H' D I' q
 | ret v=>exact q
 | brk=>exact q
 | cont=>exact q
theorem Zlk (h1:PS X st t):PSs X [st] t:=by
 intro pins s σ H D I h
 refine U2 (Aj (h1 pins s σ H D I h) fun f s1 q=>?_)
 cases f with
 | next=>exact Rc q
 | ret v=>exact q
 | brk=>exact q
 | cont=>exact q
theorem Inv.quiet {pins:List (Addr×Obj)}{σ:St}{H:Hp}{s:Shared}(I:Inv X pins σ H s):interactive X.env=false:=by simp [interactive,I.ok.kind]
noncomputable def Oo (te:TE):TS:=fun D σ H=>te σ H fun _ H1=>D.nx σ H1
theorem Zlg (he:PE X e te)(hs:swapsWith e none pos.line X.env=pure false:=by rfl):PS X (.Expr e pos) (Oo te):=by
 intro pins s σ H D I h
 exact wpAny_Expr_any (Aj (he pins s σ H _ I h) fun v s1 ⟨x,H1,I1,r1,q1⟩=>⟨σ,H1,I1,q1⟩) I.quiet hs
noncomputable def Zbm (te:TE):TS:=fun D σ H=>te σ H D.rt
theorem Zh6 (he:PE X e te):PS X (.Return (some e) pos) (Zbm te):=by
 intro pins s σ H D I h
 exact wpAny_Return_some (Aj (he pins s σ H _ I h) fun v s1 ⟨x,H1,I1,r1,q1⟩=>⟨x,σ,H1,I1,r1,q1⟩)
noncomputable def Cm (c:TT)(t u:TS):TS:=fun D σ H=>c σ H fun b H1=>if b=true then t D σ H1 else u D σ H1
theorem Zhs {c:Expr}{a b:List Stmt}{tc:TT}(hc:PT X c tc)(ha:PSs X a t)(hb:PSs X b u):PS X (.If c a b pos) (Cm tc t u):=by
 intro pins s σ H D I h
 refine wpAny_If (Aj (hc pins s σ H _ I h) fun d s1 zq=>?_)
 obtain ⟨H1,I1,q1⟩:=zq
 cases d with
 | true=>exact ha pins s1 σ H1 D I1 q1
 | false=>exact hb pins s1 σ H1 D I1 q1
end
noncomputable abbrev TG:=V->St->Hp->(St->Hp->Prop)->Prop
noncomputable abbrev Ds:=List V->St->Hp->(St->Hp->Prop)->Prop
noncomputable def PG (X:Cx)(target:Expr)(t:TG):Prop :=
 ∀(pins:List (Addr×Obj))(s:Shared)(σ:St)(H:Hp)(v:V)(u:Value)(Q:St->Hp->Prop),Inv X pins σ H s->RelV v u->t v σ H Q ->
  wpAny (model X.prog X.w) X.A (assign target X.env u) (fun _ s'=>∃ σ' H',Inv X pins σ' H' s'/\Q σ' H') X.xe s
noncomputable def PGs (X:Cx)(ts:List Expr)(t:Ds):Prop :=
 ∀(pins:List (Addr×Obj))(s:Shared)(σ:St)(H:Hp)(vs:List V)(us:List Value)(Q:St->Hp->Prop),Inv X pins σ H s->Vals vs us->t vs σ H Q ->
  wpAny (model X.prog X.w) X.A (assignInOrder ((assignEach ts X.env).map (·.2)) us) (fun _ s'=>∃ σ' H',Inv X pins σ' H' s'/\Q σ' H') X.xe s
section
variable {X:Cx}{pos:Pos}
noncomputable def Fs (i:Nat):TG:=fun v σ H Q=>Q (σ.set i (some v)) H
theorem Zrp {i:Nat}{x:Str}(hN:X.N.Nodup)(hi:X.N[i]?=some x)(hx:Eu X.env.scope x)(hf:X.fn x=true\/X.env.scope.names.lookup x=some .local:=by first | exact .inl rfl | exact .inr rfl | assumption):PG X (.Name x pos) (Fs i):=by
 intro pins s σ H v u Q I r h
 exact wpAny_assign_Name (Jv I hN hi hx r (fun s' I'=>⟨_,H,I',h⟩) hf)
noncomputable def Zbr:Ds:=fun vs σ H Q=>vs=[]/\Q σ H
noncomputable def Za7 (t:TG)(u:Ds):Ds:=fun vs σ H Q=>∃ v r,vs=v::r/\t v σ H fun σ' H'=>u r σ' H' Q
theorem Zjp:PGs X [] Zbr:=by
 intro pins s σ H vs us Q I r h
 obtain ⟨e,h⟩:=h
 subst e
 cases r
 exact assignInOrder_nil ⟨σ,H,I,h⟩
theorem Zqy {e:Expr}{es:List Expr}{t:TG}{u:Ds}(h1:PG X e t)(h2:PGs X es u)
  (hs:(assignEach (e::es) X.env).map (·.2)=assign e X.env::(assignEach es X.env).map (·.2):=by rfl):PGs X (e::es) (Za7 t u):=by
 intro pins s σ H vs us Q I r h
 obtain ⟨v,vr,e1,h⟩:=h
 subst e1
 cases r with
 | cons r rr =>
  rw [hs]
  refine assignInOrder_cons (Aj (h1 pins s σ H _ _ _ I r h) fun _ s1 zq=>?_)
  obtain ⟨σ1,H1,I1,q1⟩:=zq
  exact h2 pins s1 σ1 H1 _ _ Q I1 rr q1
noncomputable def Lg (K:O1)(n:Nat)(t:Ds):TG:=fun v σ H Q=>∃ a xs,v=.ref a/\SqT K H a xs/\xs.length=n/\t xs σ H Q
theorem Zhz {es:List Expr}{k:Nat}{t:Ds}{n:Nat}(hc:X.calm=true)(h:PGs X es t)
  (hn:(assignEach es X.env).length=n:=by rfl) (hst:(assignEach es X.env).findIdx? (·.1)=none:=by rfl):PG X (.Tuple es k pos) (Lg X.K n t):=by
 intro pins s σ H v u Q I r hw
 obtain ⟨a,xs,e1,hq,hl,hw⟩:=hw
 subst e1
 cases r
 obtain ⟨its,rv,ht,hz⟩:=I.tuple hq
 refine assign_Tuple_tuple (I.ok.hd hc) ht (by simp [hn,<- hl,rv.length]) hst fun h' hx=>?_
 have I1:Inv X pins σ H { s with heap:=h' }:=I.kept (t':=s.toks) fun b o e=>hx b o (Pg (O8 e)) e
 exact h pins _ σ H xs _ Q I1 (by simpa using rv) hw
noncomputable def F6 (te:TE)(g:TG):TS:=fun D σ H=>te σ H fun x H1=>g x σ H1 D.nx
theorem Zrz {tg e:Expr}{te:TE}{g:TG}(he:PE X e te)(hg:PG X tg g)(hs:swapsWithSole [tg] e pos.line X.env=pure false:=by rfl)(hw:swappedStores [tg] e X.env=pure none:=by rfl)
  (h1:(assignEach [tg] X.env).map (·.2)=[assign tg X.env]:=by rfl):PS X (.Assign [tg] e pos) (F6 te g):=by
 intro pins s σ H D I h
 refine wpAny_Assign_stores (Aj (he pins s σ H _ I h) fun v s1 zq=>?_) hs hw
 obtain ⟨x,H1,I1,r1,q1⟩:=zq
 rw [h1]
 exact Aj (hg pins s1 σ H1 x v _ I1 r1 q1) fun _ s2 q=>q
theorem Zkm {i:Nat}{x:Str}{e:Expr}{te:TE}{pos':Pos}(hN:X.N.Nodup)(hi:X.N[i]?=some x)(hx:Eu X.env.scope x)(he:PE X e te)(hs:swapsWith e (some (.Name x pos')) pos.line X.env=pure false:=by rfl)(hf:X.fn x=true\/X.env.scope.names.lookup x=some .local:=by first | exact .inl rfl | exact .inr rfl | assumption) :
  PS X (.Assign [.Name x pos'] e pos) (F6 te (Fs i)):=by
 intro pins s σ H D I h
 refine wpAny_Assign_Name (Aj (he pins s σ H _ I h) fun v s1 zq=>?_) hs
 obtain ⟨y,H1,I1,r1,q1⟩:=zq
 exact Jv I1 hN hi hx r1 (fun s2 I2=>⟨_,H1,I2,q1⟩) hf
end
section
variable {X:Cx}{pos:Pos}
noncomputable def Ze0 (c:TT)(tb:TS):TS:=fun D σ H=>∃ W:Nat->St->Hp->Prop,(∃ m,W m σ H)/\∀ m σ H,W m σ H ->
 c σ H fun b H1=>if b=true then ∃ N:St->Hp->Prop,(∀ σ' H',N σ' H'->∃ m',m' < m/\W m' σ' H')/\tb { D with nx:=N,ct:=N,bk:=D.nx } σ H1 else D.nx σ H1
theorem Zjt {c:Expr}{body:List Stmt}{tc:TT}{tb:TS}(hp:PassesOwn (model X.prog X.w) X.A X.env X.xe)(hc:PT X c tc)(hb:PSs X body tb):PS X (.While c body [] pos) (Ze0 tc tb):=by
 intro pins s σ H D I h
 obtain ⟨W,⟨m0,w0⟩,turn⟩:=h
 refine wpAny_While (codeAny_whileLoop (fun n s'=>∃ σ' H',Inv X pins σ' H' s'/\W n σ' H') ?_ m0 ⟨σ,H,I,w0⟩)
 rintro n s1 ⟨σ1,H1,I1,w1⟩
 refine Sb hp (Aj (hc pins s1 σ1 H1 _ I1 (turn n σ1 H1 w1)) fun b s2 zq=>?_)
 obtain ⟨H2,I2,q2⟩:=zq
 cases b with
 | true =>
  obtain ⟨N,hN,q2⟩:=q2
  rw [if_pos rfl]
  refine Sb hp (Aj (hb pins s2 σ1 H2 _ I2 q2) fun f s3 q3=>?_)
  cases f with
  | next =>
   obtain ⟨σ3,H3,I3,n3⟩:=q3
   obtain ⟨m',hm,w3⟩:=hN σ3 H3 n3
   exact ⟨m',hm,σ3,H3,I3,w3⟩
  | cont =>
   obtain ⟨σ3,H3,I3,n3⟩:=q3
   obtain ⟨m',hm,w3⟩:=hN σ3 H3 n3
   exact ⟨m',hm,σ3,H3,I3,w3⟩
  | brk=>exact q3
  | ret v=>exact q3
 | false =>
  rw [if_neg Pd]
  exact Rc ⟨σ1,H2,I2,q2⟩
end
structure It where
 go:Nat->Hp->Prop
 yld:Nat->Hp->V->Hp->Prop
 stop:Nat->Hp->Prop
noncomputable def FpOk (X:Cx)(pins:List (Addr×Obj))(H:Hp)(b:Addr):Prop :=
 H b=none/\b≠X.env.locals/\b ∉ X.fs/\(b∈X.ex\/X.s₀.heap.objs.size<=b)/\(∀ x c,X.env.cells.lookup x=some c->c≠b)/\∀ p∈X.pn++pins,p.1≠b
theorem Inv.fpOk {X:Cx}{pins:List (Addr×Obj)}{σ:St}{H H':Hp}{s:Shared}{b:Addr}(I:Inv X pins σ H s)(hb:s.heap.objs.size<=b)(hn:H' b=none):FpOk X pins H' b:=by
 refine ⟨hn,Qb (Pk I.lt hb),I.nofs hb,.inr (Px I.sz hb),fun x c e z=>?_,fun p hp z=>?_⟩
 ·obtain ⟨v,q⟩:=I.cell x c e
  exact absurd (Pk q.lt (by rw [z];exact hb)) (Qn _)
 ·exact absurd (Pk (O8 (I.pin p hp).1) (by rw [z];exact hb)) (Qn _)
structure G6 (P:Program)(w:World)(K:O1)(tg:Expr)(J:It)(fp:List Addr)(it:Addr)(tn:Nat->Heap->Prop):Prop where
 mem:it∈fp
 obj:∀ i h,tn i h->∀ b∈fp,∃ o,h.get? b=some o/\∀ v,o.data≠.cell v
 keep:∀ i h h',tn i h->(∀ b∈fp,∀ o,h.get? b=some o->h'.get? b=some o)->tn i h'
 item:∀(X:Cx),X.prog=P->X.w=w->X.K=K->X.calm=true->∀(i:Nat)(pins:List (Addr×Obj))(s:Shared)(σ:St)(H:Hp)(E:Value->Shared->Prop),Inv X pins σ H s->(∀ b∈fp,FpOk X pins H b)->tn i s.heap->J.go i H ->
  wpAny (model P w) X.A (pyNext (.ref it)) (fun r s1=>∃ u,r=some u /\
   wpAny (model P w) X.A (letOwnedTupleGo tg (.ref it) u) (fun _ s2=>∃ x H',Inv X pins σ H' s2/\RelV x u/\J.yld i H x H'/\tn (i+1) s2.heap/\∀ b∈fp,H' b=none) E s1) E s
 done:∀(X:Cx),X.prog=P->X.w=w->X.K=K->X.calm=true->∀(i:Nat)(pins:List (Addr×Obj))(s:Shared)(σ:St)(H:Hp)(E:Value->Shared->Prop),Inv X pins σ H s->(∀ b∈fp,FpOk X pins H b)->tn i s.heap->J.stop i H ->
  wpAny (model P w) X.A (pyNext (.ref it)) (fun r s1=>r=none/\Inv X pins σ H s1) E s
 self:∀(A:Around)(i:Nat)(s:Shared)(Q:Value->Shared->Prop)(E:Value->Shared->Prop),tn i s.heap->Q (.ref it) s->wpAny (model P w) A (pyIter (.ref it)) Q E s
noncomputable abbrev TI:=St->Hp->(It->Hp->Prop)->Prop
noncomputable def PIE (X:Cx)(pins:List (Addr×Obj))(σ:St)(tg:Expr)(R:It->Hp->Prop)(itv:Value)(s2:Shared):Prop :=
 ∃(it:Addr)(fp:List Addr)(tn:Nat->Heap->Prop)(J:It)(H':Hp),itv=.ref it/\Inv X pins σ H' s2/\G6 X.prog X.w X.K tg J fp it tn/\tn 0 s2.heap/\(∀ b∈fp,FpOk X pins H' b)/\R J H'
noncomputable def PI (X:Cx)(tg iter:Expr)(wi:TI):Prop :=
 ∀(pins:List (Addr×Obj))(s:Shared)(σ:St)(H:Hp)(R:It->Hp->Prop),Inv X pins σ H s->wi σ H R ->
  wpAny (model X.prog X.w) X.A (eval iter X.env) (fun v s1=>wpAny (model X.prog X.w) X.A (pyIter v) (PIE X pins σ tg R) X.xe s1) X.xe s
theorem J0 {M:Model}{A:Around}{E:Value->Shared->Prop}{s:Shared}{tg:Expr}{it:Addr}{u:Value}{o:Obj}{n:String}{vs:Array Value}{Q:Unit->Shared->Prop}(ho:s.heap.get? it=some o)(hc:o.cls=.type n)(hd:o.data=.fields vs)
  (hn:["enumerate", "zip", "dict_itemiterator", "dict_reverseitemiterator", "odict_iterator", "itertools.zip_longest", "itertools.pairwise"].contains n=false) (hQ:Q () s):wpAny M A (letOwnedTupleGo tg (.ref it) u) Q E s:=by
 unfold letOwnedTupleGo
 cases tg <;> first
  | exact O3 hQ
  | (cases u <;> first
    | exact O3 hQ
    | (refine O2 (wpAny_load ho ?_)
       rw [hc,hd]
       show wpAny M A (if (["enumerate", "zip", "dict_itemiterator", "dict_reverseitemiterator", "odict_iterator", "itertools.zip_longest", "itertools.pairwise"].contains n && vs[0]? == some (rawInt _))=true then _ else _) Q E s
       rw [if_neg (by intro h;rw [hn,Bool.false_and] at h;cases h)]
       exact O3 hQ))
noncomputable def Hd (K:O1)(a:Addr):It :=
 ⟨fun i H=>∃ xs x,SqL K H a xs/\xs[i]?=some x,fun i H x H'=>H'=H/\∀ xs,SqL K H a xs->xs[i]?=some x,fun i H=>∃ xs,SqL K H a xs/\xs.length<=i⟩
noncomputable def Go (K:O1)(a:Addr):It :=
 ⟨fun i H=>∃ xs x,SqT K H a xs/\xs[i]?=some x,fun i H x H'=>H'=H/\∀ xs,SqT K H a xs->xs[i]?=some x,fun i H=>∃ xs,SqT K H a xs/\xs.length<=i⟩
noncomputable def Gb (lo:Int)(n:Nat):It:=⟨fun i _=>i < n,fun i H x H'=>H'=H/\x=.int (lo+i),fun i _=>n<=i⟩
theorem Zqc {P:Program}{w:World}{K:O1}{tg:Expr}(a it:Addr):G6 P w K tg (Hd K a) [it] it (fun i h=>h.IsListIter it a i) where
 mem:=by simp
 obj:=fun i h st b hb=>by
  have e:b=it:=by simpa using hb
  subst e
  obtain ⟨o,e,c,d⟩:=st
  exact ⟨o,e,fun v z=>by rw [d] at z;cases z⟩
 keep:=fun i h h' st k=>st.at fun o e=>k it (by simp) o e
 item:=by
  intro X hP hw hK hc i pins s σ H E I hf st hg
  subst hP hw hK
  obtain ⟨xs,x,hq,hx⟩:=hg
  obtain ⟨its,rv,p,hz⟩:=I.list hq
  obtain ⟨u,hu,ru⟩:=rv.get hx
  obtain ⟨f0,f1,f2,f3,f4,f5⟩:=hf it (by simp)
  refine wpAny_pyNext_list_item st p.isList (x:=u) (by simpa using hu) fun h' st' sb=>?_
  have I1:Inv X pins σ H { s with heap:=h' }:=I.turned (t':=s.toks) (fun b o hb e=>(sb.2 b hb).trans e) f0 f1 f3 f4 f5
  obtain ⟨o,e,c,d⟩:=id st'
  exact ⟨u,rfl,J0 (s:={ s with heap:=h' }) e c d (by decide) ⟨x,H,I1,ru,⟨rfl,fun ys hy=>by rw [I.list_inj hy hq];exact hx⟩,st',fun b hb=>(hf b hb).1⟩⟩
 done:=by
  intro X hP hw hK hc i pins s σ H E I hf st hg
  subst hP hw hK
  obtain ⟨xs,hq,hx⟩:=hg
  obtain ⟨its,rv,p,hz⟩:=I.list hq
  obtain ⟨f0,f1,f2,f3,f4,f5⟩:=hf it (by simp)
  have hl:=rv.length
  exact wpAny_pyNext_list_end (I.ok.hd hc) st p.isList (by simp;omega) fun h' eb=>⟨rfl,I.turned (t':=s.toks) (fun b o hb e=>eb b o hb e) f0 f1 f3 f4 f5⟩
 self:=fun _ _ _ _ _ st h=>wpAny_pyIter_listiter st h
theorem Zk4 {P:Program}{w:World}{K:O1}{tg:Expr}(a it:Addr):G6 P w K tg (Go K a) [it] it (fun i h=>h.IsTupleIter it a i) where
 mem:=by simp
 obj:=fun i h st b hb=>by
  have e:b=it:=by simpa using hb
  subst e
  obtain ⟨o,e,c,d⟩:=st
  exact ⟨o,e,fun v z=>by rw [d] at z;cases z⟩
 keep:=fun i h h' st k=>st.at fun o e=>k it (by simp) o e
 item:=by
  intro X hP hw hK hc i pins s σ H E I hf st hg
  subst hP hw hK
  obtain ⟨xs,x,hq,hx⟩:=hg
  obtain ⟨its,rv,p,hz⟩:=I.tuple hq
  obtain ⟨u,hu,ru⟩:=rv.get hx
  obtain ⟨f0,f1,f2,f3,f4,f5⟩:=hf it (by simp)
  refine wpAny_pyNext_tuple_item st (show s.heap.IsTuple a its.toArray from p) (x:=u) (by simpa using hu) fun h' st' sb=>?_
  have I1:Inv X pins σ H { s with heap:=h' }:=I.turned (t':=s.toks) (fun b o hb e=>(sb.2 b hb).trans e) f0 f1 f3 f4 f5
  obtain ⟨o,e,c,d⟩:=id st'
  exact ⟨u,rfl,J0 (s:={ s with heap:=h' }) e c d (by decide) ⟨x,H,I1,ru,⟨rfl,fun ys hy=>by rw [I.tuple_inj hy hq];exact hx⟩,st',fun b hb=>(hf b hb).1⟩⟩
 done:=by
  intro X hP hw hK hc i pins s σ H E I hf st hg
  subst hP hw hK
  obtain ⟨xs,hq,hx⟩:=hg
  obtain ⟨its,rv,p,hz⟩:=I.tuple hq
  obtain ⟨f0,f1,f2,f3,f4,f5⟩:=hf it (by simp)
  have hl:=rv.length
  exact wpAny_pyNext_tuple_end (I.ok.hd hc) st (show s.heap.IsTuple a its.toArray from p) (by simp;omega) fun h' eb=>⟨rfl,I.turned (t':=s.toks) (fun b o hb e=>eb b o hb e) f0 f1 f3 f4 f5⟩
 self:=fun _ _ _ _ _ st h=>wpAny_pyIter_tupleiter st h
theorem Zrh {P:Program}{w:World}{K:O1}{tg:Expr}(it:Addr)(lo:Int)(n:Nat):G6 P w K tg (Gb lo n) [it] it (fun i h=>IsRangeIter h it (lo+(i:Nat) * 1) ((n:Int) - (i:Nat)) 1) where
 mem:=by simp
 obj:=fun i h st b hb=>by
  have e:b=it:=by simpa using hb
  subst e
  exact ⟨_,st,fun v z=>by
   have z':Data.fields _=Data.cell v:=z
   cases z'⟩
 keep:=fun i h h' st k=>k it (by simp) _ st
 item:=by
  intro X hP hw hK hc i pins s σ H E I hf st hg
  subst hP hw hK
  obtain ⟨f0,f1,f2,f3,f4,f5⟩:=hf it (by simp)
  have W:=Walks.range (prog:=X.prog) (w:=X.w) (I.ok.hd hc) it lo 1 n
  refine W.item i s _ _ hg st fun v h' tk hv st' kk=>?_
  obtain ⟨t,rfl⟩:=hv
  have I1:Inv X pins σ H { s with heap:=h',toks:=tk }:=I.turned (fun b o hb e=>kk b o (by simpa using hb) e) f0 f1 f3 f4 f5
  refine ⟨_,rfl,J0 (s:={ s with heap:=h',toks:=tk }) (n := "range_iterator") st' rfl rfl (by decide) ⟨.int (lo+i),H,I1,⟨t,?_⟩,⟨rfl,rfl⟩,st',fun b hb=>(hf b hb).1⟩⟩
  rw [Int.mul_one]
 done:=by
  intro X hP hw hK hc i pins s σ H E I hf st hg
  subst hP hw hK
  obtain ⟨f0,f1,f2,f3,f4,f5⟩:=hf it (by simp)
  exact wpAny_pyNext_range_end (I.ok.hd hc) st (by have:n<=i:=hg;omega) fun h' eb=>⟨rfl,I.turned (t':=s.toks) (fun b o hb e=>eb b o hb e) f0 f1 f3 f4 f5⟩
 self:=fun _ _ _ _ _ st h=>wpAny_pyIter_rangeiter st h
section
variable {X:Cx}{tg:Expr}
theorem Zo9 {pins:List (Addr×Obj)}{σ:St}{H:Hp}{s:Shared}{R:It->Hp->Prop}{E:Value->Shared->Prop}{lo hi:Int}{t u v:Tok}{tk:Nat}(I:Inv X pins σ H s)(h1:-(2 ^ 62)<=lo)(h2:lo < 2 ^ 62)(h3:-(2 ^ 62)<=hi)(h4:hi < 2 ^ 62)
  (q:R (Gb lo (hi - lo).toNat) H):wpAny (model X.prog X.w) X.A (pyIter (.ref s.heap.objs.size)) (PIE X pins σ tg R) E { s with heap:=s.heap.push { cls:=.type "range",data:=.fields #[.int lo t,.int hi u,.int 1 v] },toks:=tk }:=by
 refine wpAny_pyIter_range (IsRange.new ..) (small_one h1 h2 h3 h4) ?_
 have I1:Inv X pins σ H { s with heap:=s.heap.push { cls:=.type "range",data:=.fields #[.int lo t,.int hi u,.int 1 v] },toks:=tk }:=I.kept fun b o e=>O6 _ e
 refine ⟨(s.heap.push { cls:=.type "range",data:=.fields #[.int lo t,.int hi u,.int 1 v] }).objs.size,[(s.heap.push { cls:=.type "range",data:=.fields #[.int lo t,.int hi u,.int 1 v] }).objs.size],_,_,H,rfl,
  I1.kept (t':=tk) fun b o e=>O6 _ e,Zrh _ lo (hi - lo).toNat,?_,fun b hb=>?_,q⟩
 ·have e1:lo+((0:Nat):Int) * 1=lo:=by simp
  have e2:(((hi - lo).toNat:Nat):Int) - ((0:Nat):Int)=Builtin.Range.rangeSize lo hi 1:=by rw [rangeSize_one];split <;> omega
  show IsRangeIter _ _ (lo+((0:Nat):Int) * 1) ((((hi - lo).toNat:Nat):Int) - ((0:Nat):Int)) 1
  rw [e1,e2]
  exact Pe _ rfl
 ·have e:b=(s.heap.push { cls:=.type "range",data:=.fields #[.int lo t,.int hi u,.int 1 v] }).objs.size:=by simpa using hb
  subst e
  exact I1.fpOk (O4 _) (I1.hok.fresh (O4 _))
noncomputable def Zb2 (ta:TA):TI:=fun σ H R=>ta σ H fun vs H1=>∃ j:Int,vs=[.int j]/\-(2 ^ 62)<=j/\j < 2 ^ 62/\R (Gb 0 j.toNat) H1
theorem Zlz {a:Expr}{ta:TA}{p pos:Pos}(hg:Gl X "range")(hm:X.mg "range" = none)(ha:PA X [a] ta)(hs:starEach [a] X.env=[(false,eval a X.env)]:=by rfl):PI X tg (.Call (.Name "range" p) [a] [] pos) (Zb2 ta):=by
 intro pins s σ H R I h
 refine Call_ (Fg I hg hm boot_range (Ry (Aj (ha pos pins s σ H _ I h) fun us s1 zq=>?_) hs rfl))
 obtain ⟨vs,H1,I1,r1,q1⟩:=zq
 obtain ⟨j,e,q1,q2,q⟩:=q1
 subst e
 cases r1 with
 | cons r rr =>
  cases rr
  obtain ⟨t,rfl⟩:=r
  exact call_range_1 (Zo9 I1 (by omega) (by omega) q1 q2 (by simpa using q))
noncomputable def Og (wi:TI)(g:TG)(tb:TS):TS:=fun D σ H=>wi σ H fun J H1=>∃ W:Nat->Nat->St->Hp->Prop,(∃ m,W 0 m σ H1)/\∀ i m σ H,W i m σ H ->
 (J.stop i H/\D.nx σ H)\/(J.go i H/\∃ N:St->Hp->Prop,(∀ σ' H',N σ' H'->∃ m',m' < m/\W (i+1) m' σ' H')/\∀ x H',J.yld i H x H'->g x σ H' fun σ2 H2=>tb { D with nx:=N,ct:=N,bk:=D.nx } σ2 H2)
noncomputable def Kk (fp:List Addr)(h:Heap):List (Addr×Obj):=fp.filterMap fun b=>(h.get? b).map fun o=>(b,o)
theorem Lw {fp:List Addr}{h:Heap}{b:Addr}{o:Obj}(hb:b∈fp)(e:h.get? b=some o):(b,o)∈Kk fp h:=List.mem_filterMap.mpr ⟨b,hb,by rw [e];rfl⟩
theorem Zqm {fp:List Addr}{h:Heap}{p:Addr×Obj}(hp:p∈Kk fp h):p.1∈fp/\h.get? p.1=some p.2:=by
 obtain ⟨b,hb,e⟩:=List.mem_filterMap.mp hp
 cases q:h.get? b with
 | none=>rw [q] at e;cases e
 | some o =>
  rw [q] at e
  have e':(b,o)=p:=P6 e
  subst e'
  exact ⟨hb,q⟩
theorem Inv.pinned {pins:List (Addr×Obj)}{σ:St}{H:Hp}{s:Shared}{fp:List Addr}(I:Inv X pins σ H s)(hf:∀ b∈fp,FpOk X pins H b)(ho:∀ b∈fp,∃ o,s.heap.get? b=some o/\∀ v,o.data≠.cell v):Inv X (pins++Kk fp s.heap) σ H s :=
 I.pins_of fun p hp=>(Sa.mp hp).elim (fun z=>I.pin p (Qy _ z)) fun z=>by
  obtain ⟨hb,e⟩:=Zqm z
  obtain ⟨f0,f1,f2,_⟩:=hf p.1 hb
  obtain ⟨o,e',d⟩:=ho p.1 hb
  rw [e] at e';cases e'
  exact ⟨e,f0,f1,f2,d⟩
theorem Inv.unpinned {pins pl:List (Addr×Obj)}{σ:St}{H:Hp}{s:Shared}(I:Inv X (pins++pl) σ H s):Inv X pins σ H s:=I.pins_of fun p hp=>I.pin p (Qy _ (List.mem_append_left _ hp))
theorem Zlq {iter:Expr}{body:List Stmt}{wi:TI}{g:TG}{tb:TS}{pos:Pos}(hp:PassesOwn (model X.prog X.w) X.A X.env X.xe)(hc:X.calm=true)(hi:PI X tg iter wi)(hg:PG X tg g)(hb:PSs X body tb)
  (hs:∀ x,foldedSetIterable iter X.env x=pure x:=by intro _;rfl):PS X (.For tg iter body [] pos) (Og wi g tb):=by
 intro pins s σ H D I h
 refine wpAny_For (Aj (hi pins s σ H _ I h) fun v s1 h1=>Aj h1 fun itv s2 h2=>?_) hs
 obtain ⟨it,fp,tn,J,H2,e,I2,T,st2,f2,W,⟨m0,w0⟩,turn⟩:=h2
 subst e
 have stat:∀{H':Hp},(∀ b∈fp,H' b=none)->∀ b∈fp,FpOk X pins H' b:=fun hn b hb=>⟨hn b hb,(f2 b hb).2⟩
 refine codeAny_forLoop_any (fun n s'=>∃ i σ' H',Inv X pins σ' H' s'/\tn i s'.heap/\(∀ b∈fp,H' b=none)/\W i n σ' H') ?_ m0 ⟨0,σ,H2,I2,st2,fun b hb=>(f2 b hb).1,w0⟩
 rintro n s3 ⟨i,σ3,H3,I3,st3,fr3,w3⟩
 rcases turn i n σ3 H3 w3 with ⟨stop,qn⟩ | ⟨go,N,hN,step⟩
 ·refine Sb hp (Aj (T.done X rfl rfl rfl hc i pins s3 σ3 H3 X.xe I3 (stat fr3) st3 stop) fun r s4 zq=>?_)
  obtain ⟨hr,I4⟩:=zq
  subst hr
  exact Rc ⟨σ3,H3,I4,qn⟩
 ·refine Sb hp (Aj (T.item X rfl rfl rfl hc i pins s3 σ3 H3 X.xe I3 (stat fr3) st3 go) fun r s4 zq=>?_)
  obtain ⟨u,hr,h4⟩:=zq
  subst hr
  refine Sb hp (Aj h4 fun _ s5 zq=>?_)
  obtain ⟨x,H5,I5,r5,y5,st5,fr5⟩:=zq
  have I5':=I5.pinned (stat fr5) (T.obj _ _ st5)
  refine Sb hp (Aj (hg _ s5 σ3 H5 x u _ I5' r5 (step x H5 y5)) fun _ s6 zq=>?_)
  obtain ⟨σ6,H6,I6,q6⟩:=zq
  refine Sb hp (Aj (hb _ s6 σ6 H6 _ I6 q6) fun f s7 q7=>?_)
  have again:∀{σ7:St}{H7:Hp},Inv X (pins++Kk fp s5.heap) σ7 H7 s7->N σ7 H7->∃ m,m < n/\∃ i σ' H',Inv X pins σ' H' s7/\tn i s7.heap/\(∀ b∈fp,H' b=none)/\W i m σ' H':=fun {σ7 H7} I7 n7=>by
   obtain ⟨m',hm,w7⟩:=hN σ7 H7 n7
   refine ⟨m',hm,i+1,σ7,H7,I7.unpinned,T.keep _ _ _ st5 fun b hb o e=>(I7.pin (b,o) (Qy _ (Qy _ (Lw hb e)))).1,fun b hb=>?_,w7⟩
   obtain ⟨o,e,d⟩:=T.obj _ _ st5 b hb
   exact (I7.pin (b,o) (Qy _ (Qy _ (Lw hb e)))).2.1
  cases f with
  | next=>obtain ⟨σ7,H7,I7,n7⟩:=q7;exact again I7 n7
  | cont=>obtain ⟨σ7,H7,I7,n7⟩:=q7;exact again I7 n7
  | brk=>obtain ⟨σ7,H7,I7,q7⟩:=q7;exact ⟨σ7,H7,I7.unpinned,q7⟩
  | ret v=>obtain ⟨x7,σ7,H7,I7,r7,q7⟩:=q7;exact ⟨x7,σ7,H7,I7.unpinned,r7,q7⟩
end
theorem Zka {K:O1}{a:Addr}{xs:List V}{g:TG}{tb:TS}{D:Ends}{σ:St}{H:Hp}(Pv:Nat->St->Hp->Prop)(h0:Pv 0 σ H)(hl:∀ i σ H,i<=xs.length->Pv i σ H->SqL K H a xs)
  (hs:∀ i x σ H,xs[i]?=some x->Pv i σ H->g x σ H fun σ2 H2=>tb { D with nx:=Pv (i+1),ct:=Pv (i+1),bk:=D.nx } σ2 H2) (hd:∀ σ H,Pv xs.length σ H->D.nx σ H) :
  ∃ W:Nat->Nat->St->Hp->Prop,(∃ m,W 0 m σ H)/\∀ i m σ H,W i m σ H ->
   ((Hd K a).stop i H/\D.nx σ H)\/((Hd K a).go i H/\∃ N:St->Hp->Prop,(∀ σ' H',N σ' H'->∃ m',m' < m/\W (i+1) m' σ' H')/\∀ x H',(Hd K a).yld i H x H'->g x σ H' fun σ2 H2=>tb { D with nx:=N,ct:=N,bk:=D.nx } σ2 H2):=by
 refine ⟨fun i m σ H=>m=xs.length - i/\i<=xs.length/\Pv i σ H,⟨xs.length,by simp,Pw _,h0⟩,?_⟩
 rintro i m σ H ⟨rfl,hi,p⟩
 have q:=hl i σ H hi p
 by_cases hlt:i < xs.length
 ·refine .inr ⟨⟨xs,xs[i],q,by simp [hlt]⟩,Pv (i+1),fun σ' H' p'=>⟨xs.length - (i+1),by omega,rfl,hlt,p'⟩,fun x H' y=>?_⟩
  obtain ⟨e,y⟩:=y
  subst e
  exact hs i x σ _ (y xs q) p
 ·have e:i=xs.length:=by omega
  subst e
  exact .inl ⟨⟨xs,q,O4 _⟩,hd σ H p⟩
theorem Zdi {K:O1}{a:Addr}{xs:List V}{g:TG}{tb:TS}{D:Ends}{σ:St}{H:Hp}(Pv:Nat->St->Hp->Prop)(h0:Pv 0 σ H)(hl:∀ i σ H,i<=xs.length->Pv i σ H->SqT K H a xs)
  (hs:∀ i x σ H,xs[i]?=some x->Pv i σ H->g x σ H fun σ2 H2=>tb { D with nx:=Pv (i+1),ct:=Pv (i+1),bk:=D.nx } σ2 H2) (hd:∀ σ H,Pv xs.length σ H->D.nx σ H) :
  ∃ W:Nat->Nat->St->Hp->Prop,(∃ m,W 0 m σ H)/\∀ i m σ H,W i m σ H ->
   ((Go K a).stop i H/\D.nx σ H)\/((Go K a).go i H/\∃ N:St->Hp->Prop,(∀ σ' H',N σ' H'->∃ m',m' < m/\W (i+1) m' σ' H')/\∀ x H',(Go K a).yld i H x H'->g x σ H' fun σ2 H2=>tb { D with nx:=N,ct:=N,bk:=D.nx } σ2 H2):=by
 refine ⟨fun i m σ H=>m=xs.length - i/\i<=xs.length/\Pv i σ H,⟨xs.length,by simp,Pw _,h0⟩,?_⟩
 rintro i m σ H ⟨rfl,hi,p⟩
 have q:=hl i σ H hi p
 by_cases hlt:i < xs.length
 ·refine .inr ⟨⟨xs,xs[i],q,by simp [hlt]⟩,Pv (i+1),fun σ' H' p'=>⟨xs.length - (i+1),by omega,rfl,hlt,p'⟩,fun x H' y=>?_⟩
  obtain ⟨e,y⟩:=y
  subst e
  exact hs i x σ _ (y xs q) p
 ·have e:i=xs.length:=by omega
  subst e
  exact .inl ⟨⟨xs,q,O4 _⟩,hd σ H p⟩
theorem Ig {lo:Int}{n:Nat}{g:TG}{tb:TS}{D:Ends}{σ:St}{H:Hp}(Pv:Nat->St->Hp->Prop)(h0:Pv 0 σ H)
  (hs:∀ i σ H,i < n->Pv i σ H->g (.int (lo+i)) σ H fun σ2 H2=>tb { D with nx:=Pv (i+1),ct:=Pv (i+1),bk:=D.nx } σ2 H2) (hd:∀ σ H,Pv n σ H->D.nx σ H) :
  ∃ W:Nat->Nat->St->Hp->Prop,(∃ m,W 0 m σ H)/\∀ i m σ H,W i m σ H ->
   ((Gb lo n).stop i H/\D.nx σ H)\/((Gb lo n).go i H/\∃ N:St->Hp->Prop,(∀ σ' H',N σ' H'->∃ m',m' < m/\W (i+1) m' σ' H')/\∀ x H',(Gb lo n).yld i H x H'->g x σ H' fun σ2 H2=>tb { D with nx:=N,ct:=N,bk:=D.nx } σ2 H2):=by
 refine ⟨fun i m σ H=>m=n - i/\i<=n/\Pv i σ H,⟨n,by simp,Pw _,h0⟩,?_⟩
 rintro i m σ H ⟨rfl,hi,p⟩
 by_cases hlt:i < n
 ·refine .inr ⟨hlt,Pv (i+1),fun σ' H' p'=>⟨n - (i+1),by omega,rfl,hlt,p'⟩,fun x H' y=>?_⟩
  obtain ⟨e,y⟩:=y
  subst e y
  exact hs i σ _ hlt p
 ·have e:i=n:=by omega
  subst e
  exact .inl ⟨O4 _,hd σ H p⟩
noncomputable abbrev R2:=V->V->Hp->VK->Prop
noncomputable def OpR (X:Cx)(f:Value->Value->Sem Value)(r:R2):Prop :=
 ∀(pins:List (Addr×Obj))(s:Shared)(σ:St)(H:Hp)(x y:V)(v u:Value)(Q:VK),Inv X pins σ H s->RelV x v->RelV y u->r x y H Q ->
  wpAny (model X.prog X.w) X.A (f v u) (EP X pins σ Q) X.xe s
noncomputable def UnR (X:Cx)(f:Value->Sem Value)(r:V->Hp->VK->Prop):Prop :=
 ∀(pins:List (Addr×Obj))(s:Shared)(σ:St)(H:Hp)(x:V)(v:Value)(Q:VK),Inv X pins σ H s->RelV x v->r x H Q ->
  wpAny (model X.prog X.w) X.A (f v) (EP X pins σ Q) X.xe s
noncomputable def Cb (X:Cx)(f:Value)(r:List V->Hp->VK->Prop):Prop :=
 ∀(pins:List (Addr×Obj))(s:Shared)(σ:St)(H:Hp)(xs:List V)(us:List Value)(Q:VK),Inv X pins σ H s->Vals xs us->r xs H Q ->
  wpAny (model X.prog X.w) X.A (call f us) (EP X pins σ Q) X.xe s
noncomputable def TruR (X:Cx)(r:V->Hp->(Bool->Hp->Prop)->Prop):Prop :=
 ∀(pins:List (Addr×Obj))(s:Shared)(σ:St)(H:Hp)(x:V)(v:Value)(Q:Bool->Hp->Prop),Inv X pins σ H s->RelV x v->r x H Q ->
  wpAny (model X.prog X.w) X.A (truthy v) (TP X pins σ Q) X.xe s
noncomputable def Ey (r:R2)(ta tb:TE):TE:=fun σ H Q=>ta σ H fun x H1=>tb σ H1 fun y H2=>r x y H2 Q
noncomputable def tUn (r:V->Hp->VK->Prop)(ta:TE):TE:=fun σ H Q=>ta σ H fun x H1=>r x H1 Q
noncomputable def rI (C:Int->Int->Prop)(g:Int->Int->V):R2:=fun x y H Q=>∃ i j,x=.int i/\y=.int j/\C i j/\Q (g i j) H
noncomputable def Eg (g:Int->Int->V):R2:=fun x y H Q=>∃ i j,x=.int i/\y=.int j/\Q (g i j) H
noncomputable def rU (g:Int->V):V->Hp->VK->Prop:=fun x H Q=>∃ i,x=.int i/\Q (g i) H
section
variable {X:Cx}{a b c:Expr}{ta tb tc:TE}{pos:Pos}
theorem Zat (ha:PE X a ta)(hb:PE X b tb){pins:List (Addr×Obj)}{s:Shared}{σ:St}{H:Hp}{R:V->V->Hp->Prop}(I:Inv X pins σ H s)
  (h:ta σ H fun x H1=>tb σ H1 fun y H2=>R x y H2) {Q:Value->Shared->Prop} {f:Value->Value->Sem Value}
  (hf:∀ v u s2 x y H2,Inv X pins σ H2 s2->RelV x v->RelV y u->R x y H2->wpAny (model X.prog X.w) X.A (f v u) Q X.xe s2) :
  wpAny (model X.prog X.w) X.A (eval a X.env) (fun v s₁=>wpAny (model X.prog X.w) X.A (eval b X.env) (fun u s₂=>wpAny (model X.prog X.w) X.A (f v u) Q X.xe s₂) X.xe s₁) X.xe s:=by
 refine Aj (ha pins s σ H _ I h) fun v s1 zq=>?_
 obtain ⟨x,H1,I1,r1,q1⟩:=zq
 refine Aj (hb pins s1 σ H1 _ I1 q1) fun u s2 zq=>?_
 obtain ⟨y,H2,I2,r2,q2⟩:=zq
 exact hf v u s2 x y H2 I2 r1 r2 q2
theorem Zr8 {op:Operator}{r:R2}(ho:OpR X (binaryOp op) r)(ha:PE X a ta)(hb:PE X b tb):PE X (.BinOp a op b pos) (Ey r ta tb):=by
 intro pins s σ H Q I h
 exact wpAny_BinOp (Zat ha hb I h fun v u s2 x y H2 I2 rx ry q=>ho pins s2 σ H2 x y v u Q I2 rx ry q)
theorem Zjc {op:UnaryOp}{r:V->Hp->VK->Prop}(ho:UnR X (unaryOp op) r)(ha:PE X a ta):PE X (.UnaryOp op a pos) (tUn r ta):=by
 intro pins s σ H Q I h
 exact UnaryOp_ (Aj (ha pins s σ H _ I h) fun v s1 ⟨x,H1,I1,r1,q1⟩=>ho pins s1 σ H1 x v Q I1 r1 q1)
theorem opI {f:Value->Value->Sem Value}{C:Int->Int->Prop}{g:Int->Int->Int}
  (rule:∀(i j:Int)(t u:Tok)(s:Shared)(Q:Value->Shared->Prop)(E:Value->Shared->Prop),C i j->Q (.int (g i j) s.toks) { s with toks:=s.toks+1 }->wpAny (model X.prog X.w) X.A (f (.int i t) (.int j u)) Q E s) :
  OpR X f (rI C fun i j=>.int (g i j)):=by
 intro pins s σ H x y v u Q I rx ry h
 obtain ⟨i,j,rfl,rfl,hc,q⟩:=h
 obtain ⟨t,rfl⟩:=rx
 obtain ⟨t',rfl⟩:=ry
 exact rule i j t t' s _ _ hc ⟨.int (g i j),H,I.tok _,⟨_,rfl⟩,q⟩
theorem opI0 {f:Value->Value->Sem Value}{g:Int->Int->Int}
  (rule:∀(i j:Int)(t u:Tok)(s:Shared)(Q:Value->Shared->Prop)(E:Value->Shared->Prop),Q (.int (g i j) s.toks) { s with toks:=s.toks+1 }->wpAny (model X.prog X.w) X.A (f (.int i t) (.int j u)) Q E s) :
  OpR X f (Eg fun i j=>.int (g i j)):=by
 intro pins s σ H x y v u Q I rx ry h
 obtain ⟨i,j,rfl,rfl,q⟩:=h
 obtain ⟨t,rfl⟩:=rx
 obtain ⟨t',rfl⟩:=ry
 exact rule i j t t' s _ _ ⟨.int (g i j),H,I.tok _,⟨_,rfl⟩,q⟩
theorem On {f:Value->Value->Sem Value}{g:Int->Int->Bool}
  (rule:∀(i j:Int)(t u:Tok)(s:Shared)(Q:Value->Shared->Prop)(E:Value->Shared->Prop),Q (.bool (g i j)) s->wpAny (model X.prog X.w) X.A (f (.int i t) (.int j u)) Q E s) :
  OpR X f (Eg fun i j=>.bl (g i j)):=by
 intro pins s σ H x y v u Q I rx ry h
 obtain ⟨i,j,rfl,rfl,q⟩:=h
 obtain ⟨t,rfl⟩:=rx
 obtain ⟨t',rfl⟩:=ry
 exact rule i j t t' s _ _ ⟨.bl (g i j),H,I,rfl,q⟩
noncomputable def CDiv (i j:Int):Prop:=0 < j/\j < 1073741824
noncomputable def CPow (i j:Int):Prop:=0<=j/\j<=1000000/\i.natAbs < 2 ^ 64
noncomputable def CMul (i j:Int):Prop:=(-(2 ^ 64) < i/\i < 2 ^ 64)\/(-(2 ^ 64) < j/\j < 2 ^ 64)
theorem CMul.ok {i j:Int}(h:CMul i j):IntMulOk i j:=by
 rcases h with ⟨h1,h2⟩ | ⟨h1,h2⟩
 ·exact .of_left (intBits_le_64 h1 h2)
 ·exact .of_right (intBits_le_64 h1 h2)
theorem op_add:OpR X (binaryOp .Add) (Eg fun i j=>.int (i+j)):=opI0 fun _ _ _ _ _ _ _ q=>add_int q
theorem Dx:OpR X (binaryOp .Sub) (Eg fun i j=>.int (i - j)):=opI0 fun _ _ _ _ _ _ _ q=>sub_int q
theorem op_mul:OpR X (binaryOp .Mult) (rI CMul fun i j=>.int (i * j)):=opI fun _ _ _ _ _ _ _ hc q=>mul_int q hc.ok
theorem B7:OpR X (binaryOp .FloorDiv) (rI CDiv fun i j=>.int (i / j)):=opI fun i j _ _ _ _ _ hc q=>by
 have h1:(0:Int) < j:=hc.1
 have h2:j < 1073741824:=hc.2
 exact floordiv_int (by omega) (by rw [Int.fdiv_eq_ediv_of_nonneg i (by omega)];exact q) (.inl (PyProof.noPylong_small (by omega)))
theorem Bk:OpR X (binaryOp .Mod) (rI (fun _ j=>0 < j) fun i j=>.int (i % j)):=opI fun i j _ _ _ _ _ hc q=>by
 have h1:(0:Int) < j:=hc
 exact mod_int' (by omega) (by rw [Int.fmod_eq_emod_of_nonneg i (by omega)];exact q)
theorem Zg4:OpR X (binaryOp .Pow) (rI CPow fun i j=>.int (i ^ j.toNat)):=opI fun _ _ _ _ _ _ _ hc q=>pow_int_small hc.1 hc.2.1 hc.2.2 q
theorem unI {f:Value->Sem Value}{g:Int->Int}
  (rule:∀(i:Int)(t:Tok)(s:Shared)(Q:Value->Shared->Prop)(E:Value->Shared->Prop),Q (.int (g i) s.toks) { s with toks:=s.toks+1 }->wpAny (model X.prog X.w) X.A (f (.int i t)) Q E s) :
  UnR X f (rU fun i=>.int (g i)):=by
 intro pins s σ H x v Q I rx h
 obtain ⟨i,rfl,q⟩:=h
 obtain ⟨t,rfl⟩:=rx
 exact rule i t s _ _ ⟨.int (g i),H,I.tok _,⟨_,rfl⟩,q⟩
theorem Ep:UnR X (unaryOp .USub) (rU fun i=>.int (-i)):=unI fun _ _ _ _ _ q=>neg_int q
end
noncomputable def Mo:V->V->Bool
 | .non,.non=>true | .non,.int _=>true | .int _,.non=>true | .non,.bl _=>true | .bl _,.non=>true | .non,.str _=>true | .str _,.non=>true
 | .int _,.int _=>true | .bl _,.bl _=>true | .str _,.str _=>true | .byt _,.byt _=>true
 | .int _,.str _=>true | .str _,.int _=>true | .bl _,.str _=>true | .str _,.bl _=>true
 | _,_=>false
noncomputable def rEq:R2:=fun x y H Q=>Mo x y=true/\Q (.bl (decide (x=y))) H
noncomputable def rNe:R2:=fun x y H Q=>Mo x y=true/\Q (.bl (!decide (x=y))) H
theorem Zec {i j:Int}:decide (V.int i=V.int j)=(i == j):=by
 rw [Tq]
 simp
theorem Zdx {i j:Bool}:decide (V.bl i=V.bl j)=(i == j):=by
 rw [Tq]
 simp
theorem Bo {i j:Str}:decide (V.str i=V.str j)=(i == j):=by
 rw [Tq]
 simp
theorem Zfv {i j:Array UInt8}:decide (V.byt i=V.byt j)=(i.toList == j.toList):=by
 rw [Tq]
 cases i
 cases j
 simp
section
variable {X:Cx}{a b c:Expr}{ta tb tc:TE}{pos:Pos}
theorem Bl {pins:List (Addr×Obj)}{σ:St}{H:Hp}{s:Shared}{Q:VK}{k k':Bool}(I:Inv X pins σ H s)(q:Q (.bl k) H)(e:k=k'):EP X pins σ Q (.bool k') s:=by
 subst e
 exact ⟨.bl k,H,I,rfl,q⟩
theorem op_eq:OpR X (compareOp .Eq) rEq:=by
 intro pins s σ H x y v u Q I rx ry h
 obtain ⟨hs,q⟩:=h
 cases x with
 | non =>
  cases rx
  cases y with
  | non=>cases ry;exact PySem.EqNone.eq_none_none (Bl I q (by simp))
  | bl j=>cases ry;exact PySem.EqNone.eq_none_bool (Bl I q (by simp))
  | int j=>obtain ⟨t',rfl⟩:=ry;exact PySem.EqNone.eq_none_int (Bl I q (by simp))
  | str j=>obtain ⟨t',rfl⟩:=ry;exact PySem.EqNone.eq_none_str (Bl I q (by simp))
  | _=>exact absurd (show false=true from hs) Pd
 | bl i =>
  cases rx
  cases y with
  | non=>cases ry;exact PySem.EqNone.eq_bool_none (Bl I q (by simp))
  | bl j=>cases ry;exact eq_bool (Bl I q Zdx)
  | str j=>obtain ⟨t',rfl⟩:=ry;exact PySem.EqMixed.eq_bool_str (Bl I q (by simp))
  | _=>exact absurd (show false=true from hs) Pd
 | int i =>
  obtain ⟨t,rfl⟩:=rx
  cases y with
  | non=>cases ry;exact PySem.EqNone.eq_int_none (Bl I q (by simp))
  | int j=>obtain ⟨t',rfl⟩:=ry;exact eq_int (Bl I q Zec)
  | str j=>obtain ⟨t',rfl⟩:=ry;exact PySem.EqMixed.eq_int_str (Bl I q (by simp))
  | _=>exact absurd (show false=true from hs) Pd
 | str i =>
  obtain ⟨t,rfl⟩:=rx
  cases y with
  | non=>cases ry;exact PySem.EqNone.eq_str_none (Bl I q (by simp))
  | bl j=>cases ry;exact PySem.EqMixed.eq_str_bool (Bl I q (by simp))
  | int j=>obtain ⟨t',rfl⟩:=ry;exact PySem.EqMixed.eq_str_int (Bl I q (by simp))
  | str j=>obtain ⟨t',rfl⟩:=ry;exact eq_str (Bl I q Bo)
  | _=>exact absurd (show false=true from hs) Pd
 | byt i =>
  obtain ⟨t,rfl⟩:=rx
  cases y with
  | byt j=>obtain ⟨t',rfl⟩:=ry;exact PySem.W.eq_bytes (Bl I q Zfv)
  | _=>exact absurd (show false=true from hs) Pd
 | _=>cases y <;> exact absurd (show false=true from hs) Pd
theorem op_ne:OpR X (compareOp .NotEq) rNe:=by
 intro pins s σ H x y v u Q I rx ry h
 obtain ⟨hs,q⟩:=h
 cases x with
 | non =>
  cases rx
  cases y with
  | non=>cases ry;exact PySem.EqNone.ne_none_none (Bl I q (by simp))
  | bl j=>cases ry;exact PySem.EqNone.ne_none_bool (Bl I q (by simp))
  | int j=>obtain ⟨t',rfl⟩:=ry;exact PySem.EqNone.ne_none_int (Bl I q (by simp))
  | str j=>obtain ⟨t',rfl⟩:=ry;exact PySem.EqNone.ne_none_str (Bl I q (by simp))
  | _=>exact absurd (show false=true from hs) Pd
 | bl i =>
  cases rx
  cases y with
  | non=>cases ry;exact PySem.EqNone.ne_bool_none (Bl I q (by simp))
  | bl j=>cases ry;exact ne_bool (Bl I q (congrArg not Zdx))
  | str j=>obtain ⟨t',rfl⟩:=ry;exact PySem.EqMixed.ne_bool_str (Bl I q (by simp))
  | _=>exact absurd (show false=true from hs) Pd
 | int i =>
  obtain ⟨t,rfl⟩:=rx
  cases y with
  | non=>cases ry;exact PySem.EqNone.ne_int_none (Bl I q (by simp))
  | int j=>obtain ⟨t',rfl⟩:=ry;exact ne_int (Bl I q (congrArg not Zec))
  | str j=>obtain ⟨t',rfl⟩:=ry;exact PySem.EqMixed.ne_int_str (Bl I q (by simp))
  | _=>exact absurd (show false=true from hs) Pd
 | str i =>
  obtain ⟨t,rfl⟩:=rx
  cases y with
  | non=>cases ry;exact PySem.EqNone.ne_str_none (Bl I q (by simp))
  | bl j=>cases ry;exact PySem.EqMixed.ne_str_bool (Bl I q (by simp))
  | int j=>obtain ⟨t',rfl⟩:=ry;exact PySem.EqMixed.ne_str_int (Bl I q (by simp))
  | str j=>obtain ⟨t',rfl⟩:=ry;exact ne_str (Bl I q (congrArg not Bo))
  | _=>exact absurd (show false=true from hs) Pd
 | byt i =>
  obtain ⟨t,rfl⟩:=rx
  cases y with
  | byt j=>obtain ⟨t',rfl⟩:=ry;exact PySem.W.ne_bytes (Bl I q (congrArg not Zfv))
  | _=>exact absurd (show false=true from hs) Pd
 | _=>cases y <;> exact absurd (show false=true from hs) Pd
theorem op_lt:OpR X (compareOp .Lt) (Eg fun i j=>.bl (decide (i < j))):=On fun _ _ _ _ _ _ _ q=>lt_int q
theorem op_le:OpR X (compareOp .LtE) (Eg fun i j=>.bl (decide (i<=j))):=On fun _ _ _ _ _ _ _ q=>le_int q
theorem Ho:OpR X (compareOp .Gt) (Eg fun i j=>.bl (decide (j < i))):=On fun _ _ _ _ _ _ _ q=>gt_int q
theorem Zjl:OpR X (compareOp .Lt) (fun x y H Q=>∃ i j,x=.str i/\y=.str j/\Q (.bl (decide (i.cps.toList < j.cps.toList))) H):=by
 intro pins s σ H x y v u Q I rx ry h
 obtain ⟨i,j,rfl,rfl,q⟩:=h
 obtain ⟨t,rfl⟩:=rx
 obtain ⟨t',rfl⟩:=ry
 exact lt_str (Bl I q rfl)
theorem Znp:OpR X (compareOp .In) (fun x y H Q=>∃ i j,x=.str i/\y=.str j/\Q (.bl (!(Builtin.Str.occurrences j i 0 j.length 1).isEmpty)) H):=by
 intro pins s σ H x y v u Q I rx ry h
 obtain ⟨i,j,rfl,rfl,q⟩:=h
 obtain ⟨t,rfl⟩:=rx
 obtain ⟨t',rfl⟩:=ry
 exact in_str (Bl I q rfl)
theorem OpR.or {f:Value->Value->Sem Value}{r r':R2}(h:OpR X f r)(h':OpR X f r'):OpR X f (fun x y H Q=>r x y H Q\/r' x y H Q):=by
 intro pins s σ H x y v u Q I rx ry q
 rcases q with q | q
 ·exact h pins s σ H x y v u Q I rx ry q
 ·exact h' pins s σ H x y v u Q I rx ry q
theorem Av (b:Expr){op:CmpOp}(h:op≠.In:=by decide)(h2:op≠.NotIn:=by decide):behindInMarks op b=false:=by
 have e1:(op == CmpOp.In)=false:=by cases op <;> first | rfl | exact absurd rfl h
 have e2:(op == CmpOp.NotIn)=false:=by cases op <;> first | rfl | exact absurd rfl h2
 cases b <;> simp [behindInMarks,e1,e2]
theorem Zjb {op:CmpOp}{r:R2}(ho:OpR X (compareOp op) r)(ha:PE X a ta)(hb:PE X b tb)(hm:behindInMarks op b=false):PE X (.Compare a [op] [b] pos) (Ey r ta tb):=by
 intro pins s σ H Q I h
 exact wpAny_Compare1 (Zat ha hb I h fun v u s2 x y H2 I2 rx ry q=>ho pins s2 σ H2 x y v u Q I2 rx ry q) hm
noncomputable def Oi (t:TE):TT:=fun σ H Q=>t σ H fun x H'=>∃ k,x=.bl k/\Q k H'
theorem Zsh {op:CmpOp}{r:R2}(ho:OpR X (compareOp op) r)(ha:PE X a ta)(hb:PE X b tb)(hm:behindInMarks op b=false):PT X (.Compare a [op] [b] pos) (Oi (Ey r ta tb)):=by
 intro pins s σ H Q I h
 refine wpAny_isTrue_Compare1 (Aj (ha pins s σ H _ I h) fun v s1 ⟨x,H1,I1,r1,q1⟩=>Aj (hb pins s1 σ H1 _ I1 q1) fun u s2 ⟨y,H2,I2,r2,q2⟩ =>
  Aj (ho pins s2 σ H2 x y v u _ I2 r1 r2 q2) fun c s3 ⟨z,H3,I3,r3,k,e,q3⟩=>?_) hm
 subst e
 cases r3
 exact Q7 ⟨H3,I3,q3⟩
noncomputable def Ot (r r':R2)(ta tb tc:TE):TE:=fun σ H Q=>ta σ H fun x H1=>tb σ H1 fun y H2=>r x y H2 fun z H3=>∃ k,z=.bl k /\
 (if k=true then tc σ H3 fun w' H4=>r' y w' H4 Q else Q (.bl false) H3)
theorem Zja {op op':CmpOp}{r r':R2}(ho:OpR X (compareOp op) r)(ho':OpR X (compareOp op') r')(ha:PE X a ta)(hb:PE X b tb)(hc:PE X c tc)
  (hm:lastMarks [op,op'] [b,c]=false:=by with_unfolding_all rfl):PE X (.Compare a [op,op'] [b,c] pos) (Ot r r' ta tb tc):=by
 intro pins s σ H Q I h
 refine Compare_chain (Aj (ha pins s σ H _ I h) fun v s1 ⟨x,H1,I1,r1,q1⟩=>chain_link (Aj (hb pins s1 σ H1 _ I1 q1) fun u s2 ⟨y,H2,I2,r2,q2⟩ =>
  Aj (ho pins s2 σ H2 x y v u _ I2 r1 r2 q2) fun d s3 ⟨z,H3,I3,r3,k,e,q3⟩=>?_)) hm
 subst e
 cases r3
 refine Q7 ?_
 cases k with
 | false=>exact ite_ff ⟨.bl false,H3,I3,rfl,q3⟩
 | true=>exact ite_tt (chain_last (Aj (hc pins s3 σ H3 _ I3 q3) fun w' s4 ⟨z',H4,I4,r4,q4⟩=>ho' pins s4 σ H4 y z' u w' Q I4 r2 r4 q4))
noncomputable def J3 (K:O1)(x:V)(H:Hp)(k:Bool):Prop :=
 match x with
 | .non=>k=false
 | .bl b=>k=b
 | .int i=>k=(i != 0)
 | .str y=>y.length<=sizeLine/\k=((y.length:Int) != 0)
 | .byt y=>y.size<=sizeLine/\k=((y.size:Int) != 0)
 | .ref p=>(∃ xs,SqL K H p xs/\k=!xs.isEmpty)\/(∃ xs,SqT K H p xs/\k=!xs.isEmpty)\/∃ kvs,H p=some (.dK kvs)/\k=!kvs.isEmpty
 | _=>False
theorem Zks {κ:Type}{kvs:List (κ×V)}{vs:List (κ×Value)}(r:KV kvs vs):(!vs.isEmpty)=!kvs.isEmpty:=by
 cases r <;> rfl
theorem Zcz {xs:List V}{its:List Value}(r:Vals xs its):(!its.toArray.isEmpty)=!xs.isEmpty:=by
 cases r <;> simp
theorem K6:(sizeLine:Nat) < 2 ^ 63:=by rw [Vp];decide
theorem Znk:TruR X (fun x H Q=>∃ k,J3 X.K x H k/\Q k H):=by
 intro pins s σ H x v Q I rx h
 obtain ⟨k,e,q⟩:=h
 have hl:=K6
 have hs:sizeLine=16777216:=Vp
 cases x with
 | non =>
  cases rx
  have e':k=false:=e
  subst e'
  exact truthy_none ⟨H,I,q⟩
 | bl b =>
  cases rx
  have e':k=b:=e
  subst e'
  exact Q7 ⟨H,I,q⟩
 | int i =>
  obtain ⟨t,rfl⟩:=rx
  have e':k=(i != 0):=e
  subst e'
  exact PySem.P.truthy_int ⟨H,I,q⟩
 | str y =>
  obtain ⟨t,rfl⟩:=rx
  obtain ⟨hy,e'⟩:y.length<=sizeLine/\k=((y.length:Int) != 0):=e
  subst e'
  exact PySem.P.truthy_str (by omega) ⟨H,I.tok _,q⟩
 | byt y =>
  obtain ⟨t,rfl⟩:=rx
  obtain ⟨hy,e'⟩:y.size<=sizeLine/\k=((y.size:Int) != 0):=e
  subst e'
  exact PySem.W.truthy_bytes (by omega) ⟨H,I.tok _,q⟩
 | ref p =>
  cases rx
  have e':(∃ xs,SqL X.K H p xs/\k=!xs.isEmpty)\/(∃ xs,SqT X.K H p xs/\k=!xs.isEmpty)\/∃ kvs,H p=some (.dK kvs)/\k=!kvs.isEmpty:=e
  rcases e' with ⟨xs,hx,e'⟩ | ⟨xs,hx,e'⟩ | ⟨kvs,hx,e'⟩
  ·subst e'
   obtain ⟨its,r,pl,hz⟩:=I.list hx
   have hlen:=r.length
   exact wpAny_truthy_list pl.isList (by simp only [O7];omega) ⟨H,I.tok _,by rw [Zcz r];exact q⟩
  ·subst e'
   obtain ⟨its,r,pl,hz⟩:=I.tuple hx
   have hlen:=r.length
   exact truthy_tuple pl (by simp only [O7];omega) ⟨H,I.tok _,by rw [Zcz r];exact q⟩
  ·subst e'
   obtain ⟨hz,hS,vs,r,m⟩:kvs.length<=sizeLine/\(p == sysModules)=false/\∃ vs,KV kvs vs/\s.heap.DictOf (Da X.prog X.w) p vs:=I.hok p _ hx
   have hlen:kvs.length=vs.length:=Vf r
   exact wpAny_truthy_dict hS m (by omega) ⟨H,I.tok _,by rw [Zks r];exact q⟩
 | _=>exact (show False from e).elim
theorem Zse (ha:PE X a ta)(he:∀ whole,isTrue a X.env whole=(do let v <- whole;standAt a.pos;holding [v] (truthy v))) :
  PT X a (fun σ H Q=>ta σ H fun x H'=>∃ k,J3 X.K x H' k/\Q k H'):=by
 intro pins s σ H Q I h
 exact isTrue_plain (Aj (ha pins s σ H _ I h) fun v s1 ⟨x,H1,I1,r1,q1⟩=>Znk pins s1 σ H1 x v Q I1 r1 q1) (he _)
theorem op_add_str:OpR X (binaryOp .Add) (fun x y H Q=>∃ i j,x=.str i/\y=.str j/\i.length+j.length<=sizeLine/\Q (.str (i++j)) H):=by
 intro pins s σ H x y v u Q I rx ry h
 obtain ⟨i,j,rfl,rfl,hz,q⟩:=h
 obtain ⟨t,rfl⟩:=rx
 obtain ⟨t',rfl⟩:=ry
 exact add_str (fun t' tk=>⟨.str (i++j),H,I.tok _,⟨_,rfl⟩,q⟩) hz
theorem Ij {x:V}{us:List Value}(r:Vals [x] us):∃ u,us=[u]/\RelV x u:=by
 cases r with
 | cons r1 r2=>cases r2;exact ⟨_,rfl,r1⟩
theorem Zki:Cb X (.type "int") (fun xs H Q=>(∃ i,xs=[.int i]/\Q (.int i) H)\/∃ k,xs=[.bl k]/\Q (.int (if k then 1 else 0)) H):=by
 intro pins s σ H xs us Q I r h
 rcases h with ⟨i,rfl,q⟩ | ⟨k,rfl,q⟩
 ·obtain ⟨u,rfl,t,rfl⟩:=Ij r
  exact call_int_int ⟨.int i,H,I,⟨_,rfl⟩,q⟩
 ·obtain ⟨u,rfl,r1⟩:=Ij r
  cases r1
  exact call_int_bool ⟨.int (if k then 1 else 0),H,I.tok _,⟨_,rfl⟩,q⟩
theorem Zmc:Cb X (.type "str") (fun xs H Q=>∃ i,xs=[.int i]/\i.natAbs.log2 < 1920/\Q (.str (toString i)) H):=by
 intro pins s σ H xs us Q I r h
 obtain ⟨i,rfl,hz,q⟩:=h
 obtain ⟨u,rfl,t,rfl⟩:=Ij r
 exact PySem.P.str_of_int hz ⟨.str _,H,I.tok _,⟨_,rfl⟩,q⟩
noncomputable def LenV (K:O1)(x:V)(H:Hp)(n:Nat):Prop :=
 match x with
 | .str y=>y.length<=sizeLine/\n=y.length
 | .byt y=>y.size<=sizeLine/\n=y.size
 | .ref p=>(∃ xs,SqL K H p xs/\n=xs.length)\/∃ xs,SqT K H p xs/\n=xs.length
 | _=>False
theorem Zrv:Cb X (.builtin "len") (fun xs H Q=>∃ x n,xs=[x]/\LenV X.K x H n/\Q (.int n) H):=by
 intro pins s σ H xs us Q I r h
 obtain ⟨x,n,rfl,e,q⟩:=h
 obtain ⟨u,rfl,rx⟩:=Ij r
 have hl:=K6
 have hs:sizeLine=16777216:=Vp
 cases x with
 | str y =>
  obtain ⟨t,rfl⟩:=rx
  obtain ⟨hy,e'⟩:y.length<=sizeLine/\n=y.length:=e
  subst e'
  exact len_str (by omega) ⟨.int _,H,I.tok _,⟨_,rfl⟩,q⟩
 | byt y =>
  obtain ⟨t,rfl⟩:=rx
  obtain ⟨hy,e'⟩:y.size<=sizeLine/\n=y.size:=e
  subst e'
  exact PySem.W.len_bytes (by omega) ⟨.int _,H,I.tok _,⟨_,rfl⟩,q⟩
 | ref p =>
  cases rx
  have e':(∃ xs,SqL X.K H p xs/\n=xs.length)\/∃ xs,SqT X.K H p xs/\n=xs.length:=e
  rcases e' with ⟨xs,hx,e'⟩ | ⟨xs,hx,e'⟩
  ·subst e'
   obtain ⟨its,r',pl,hz⟩:=I.list hx
   have hlen:=r'.length
   exact Calls.call_len_list pl.isList (by simp only [O7];omega) ⟨.int xs.length,H,I.tok _,⟨_,by simp only [O7];rw [hlen]⟩,q⟩
  ·subst e'
   obtain ⟨its,r',pl,hz⟩:=I.tuple hx
   have hlen:=r'.length
   exact len_tuple pl (by simp only [O7];omega) ⟨.int xs.length,H,I.tok _,⟨_,by simp only [O7];rw [hlen]⟩,q⟩
 | _=>exact (show False from e).elim
end
structure ObjM (h:Heap)(x dx C:Addr)(mA:Str->Option Value):Prop where
 obj:h.get? x=some (Rp C dx)
 ns:h.Ns1 dx mA
 ne:dx≠x
theorem Zbh {h:Heap}{dx:Addr}{mA:Str->Option Value}(n:h.Ns1 dx mA):∃ od,h.get? dx=some od/\∀ name,Vd name od=some (mA name):=by
 obtain ⟨o,es,ep,ho,hd,hk,_,hm⟩:=n
 refine ⟨o,ho,fun name=>?_⟩
 have e:=hm name
 unfold nsFind findBy at e
 rw [<- Array.find?_toList] at e
 unfold Vd
 rw [hd]
 dsimp only
 split
 ·rename_i y q
  rw [q] at e
  exact congrArg some e
 ·rename_i q
  rw [q] at e
  have a:es.toList.any (·.refKey)=false:=by
   rw [List.any_eq_false]
   intro y hy
   obtain ⟨z,t,hkey⟩:=hk y (Array.mem_toList_iff.mp hy)
   simp [DictEntry.refKey,hkey]
  have a':¬ es.toList.any (·.refKey)=true:=by rw [a];exact Pd
  rw [if_neg a']
  exact congrArg some e
theorem ObjM.look {h:Heap}{x dx C:Addr}{mA:Str->Option Value}(I:ObjM h x dx C mA):∃ od,Rq h x (Rp C dx) C (some od)/\∀ name,Vd name od=some (mA name) :=
 let ⟨od,ho,hl⟩:=Zbh I.ns
 ⟨od,⟨I.obj,rfl,rfl,ho⟩,hl⟩
section
variable {prog:Program}{w:World}{A:Around}{E:Value->Shared->Prop}{s:Shared}{K:O1}{x dx C f:Addr}{mA:Str->Option Value}{name:Str}{v:Value}
theorem Zjq {expr:Bool}{Q:Value->Shared->Prop}(X:K.In s.heap)(I:ObjM s.heap x dx C mA)(hg:Tl K C name=true)(hh:R6 K C=true)
  (ha:Pf K (.ref C) name=some none) (hv:mA name=some v) (hv':PySem.W.handedIn v=true) (h:Q v { s with toks:=s.toks+1 }) :
  wpAny (model prog w) A (getAttr (.ref x) name expr) Q E s:=by
 obtain ⟨od,J,hl⟩:=I.look
 exact PySem.W.get_value X J (V3 hg).1 (PySem.W.findObj_own hh ha rfl (by rw [hl,hv])) hv' h
theorem Zj5 {pl:Sem Bool}{Q:Value×List Value->Shared->Prop}(X:K.In s.heap)(I:ObjM s.heap x dx C mA)(hg:Tl K C name=true)
  (hf:Pf K (.ref C) name=some (some (.ref f))) (ht:T0 K (.ref f)=true) (hv:mA name=none) (h:Q (.ref f,[.ref x]) s) :
  wpAny (model prog w) A (getMethod (.ref x) name pl) Q E s:=by
 obtain ⟨od,J,hl⟩:=I.look
 exact PySem.W.method_fn X J (V3 hg).1 (V3 hg).2 hf (beq_iff_eq.mp ht) (by show (Vd name od).map (·.isSome)=some false;rw [hl,hv];rfl) h
theorem Zpi {ns:List Str}{Q:Unit->Shared->Prop}(X:K.In s.heap)(I:ObjM s.heap x dx C mA)
  (hs:Pf K (.ref C) "__setattr__" = some (some (.builtin "object.__setattr__"))) (hp:V7 K C=true) (ht:Wi K C name=some none) (hh:R6 K C=true)
  (hw:Tz mA ns) (hsz:ns.length<=sizeLine)
  (h:∀ h',ObjM h' x dx C (fun y=>if y=name then some v else mA y)->Pl dx s.heap h'->Q () { s with heap:=h',toks:=s.toks+2 }) :
  wpAny (model prog w) A (setAttr (.ref x) name v) Q E s:=by
 obtain ⟨od,J,hl⟩:=I.look
 refine PySem.W.set_plain X J hs (PySem.W.osa_open (s:={ s with toks:=s.toks+1 }) (r:=none) X J hp ht fun b=>?_)
 obtain ⟨cd,hc,hd'⟩:=PySem.W.any_some hh
 have hx:s.heap.get? x=some ⟨.ref C,some dx,.plain,#[]⟩:=I.obj
 refine O2 (O3 (O2 (O2 (Sc hx (O2 (Qf.here (s:={ s with toks:=s.toks+1 }) (PySem.W.looks_clsIn X hc) ?_))))))
 rw [hd']
 refine O3 (a:=some dx) (O2 (O3 (O2 ?_)))
 refine wpAny_nsSet1 (s:={ s with toks:=s.toks+1 }) I.ns fun h' hn2 hs2=>?_
 obtain ⟨oD,esD,epD,hoD,hdD,hcD⟩:=hn2.count (Tz.cons name v hw)
 refine O2 (wpAny_lookBehind hoD (by rw [hdD];exact pastItsLine_dict (Px hcD (by rw [Ps];omega))) ?_)
 exact O3 (h _ ⟨(hs2.2 _ (Pc I.ne)).trans I.obj,hn2,I.ne⟩ hs2)
theorem Zm1 {R:Result->Shared->Prop}{vs:List Value}{kw:List (Str×Value)}(X:K.In s.heap)(hm:Wj K C=true)
  (hi:Pf K (.ref C) "__init__" = some (some (.ref f))) (hf:Ql K (.ref f)=some (.type "function"))
  (h:codeAny (model prog w) (A.under (.builtin "type.__call__" ⟨.ref C::vs,kw⟩)) (.call (.ref f) ⟨.ref (s.heap.objs.size+1)::vs,kw⟩) (PySem.W.InitBack (s.heap.objs.size+1) R)
   { s with heap:=(s.heap.push Q8).push (Rp C s.heap.objs.size) }) :
  codeAny (model prog w) A (.call (.ref C) ⟨vs,kw⟩) R s:=by
 obtain ⟨hh,g,d,t,os⟩:=s
 exact PySem.W.make_core (PySem.W.makes_of X hm) (PySem.W.looks_findIn X hi) (fun self=>PySem.W.bind_fn X self hf) (.inl rfl) h
end
noncomputable def Ai (f:Str)(v:V):List (Str×V)->List (Str×V)
 | []=>[(f,v)]
 | (g,x)::r=>if g=f then (g,v)::r else (g,x)::Ai f v r
theorem Zc3 (f g:Str)(v:V):∀ fs:List (Str×V),(Ai f v fs).lookup g=if g=f then some v else fs.lookup g
 | []=>by
  show Rh g [(f,v)]=_
  by_cases h:g=f
  ·have hb:(g == f)=true:=beq_iff_eq.mpr h
   simp only [Rh,hb,if_pos h]
  ·have hb:(g == f)=false:=beq_eq_false_iff_ne.mpr h
   simp only [Rh,hb,if_neg h]
 | (k,x)::r=>by
  have ih:=Zc3 f g v r
  rw [show Ai f v ((k,x)::r)=(if k=f then (k,v)::r else (k,x)::Ai f v r) from rfl]
  by_cases hk:k=f
  ·rw [if_pos hk]
   by_cases h:g=k
   ·have hb:(g == k)=true:=beq_iff_eq.mpr h
    simp only [Rh,hb,if_pos (h.trans hk)]
   ·have hb:(g == k)=false:=beq_eq_false_iff_ne.mpr h
    simp only [Rh,hb,if_neg (fun e:g=f=>h (e.trans hk.symm))]
  ·rw [if_neg hk]
   by_cases h:g=k
   ·have hb:(g == k)=true:=beq_iff_eq.mpr h
    simp only [Rh,hb,if_neg (fun e:g=f=>hk (h.symm.trans e))]
   ·have hb:(g == k)=false:=beq_eq_false_iff_ne.mpr h
    simp only [Rh,hb]
    exact ih
theorem Za5 (f:Str)(v:V):∀ fs:List (Str×V),f∈(Ai f v fs).map (·.1)/\∀ g,g∈fs.map (·.1)->g∈(Ai f v fs).map (·.1)
 | []=>⟨by simp [Ai],fun g h=>by simp at h⟩
 | (k,x)::r=>by
  obtain ⟨i1,i2⟩:=Za5 f v r
  rw [show Ai f v ((k,x)::r)=(if k=f then (k,v)::r else (k,x)::Ai f v r) from rfl]
  by_cases hk:k=f
  ·rw [if_pos hk]
   subst hk
   exact ⟨by simp,fun g h=>by simpa using h⟩
  ·rw [if_neg hk]
   refine ⟨?_,fun g h=>?_⟩
   ·rw [Qa]
    exact Q5 _ i1
   ·rw [Qa] at h ⊢
    rcases Pb.mp h with e | e
    ·exact Pb.mpr (.inl e)
    ·exact Q5 _ (i2 g e)
theorem Zf2 (f:Str)(v:V):∀ fs:List (Str×V),(Ai f v fs).length<=fs.length+1
 | []=>by simp [Ai]
 | (k,x)::r=>by
  have ih:=Zf2 f v r
  rw [show Ai f v ((k,x)::r)=(if k=f then (k,v)::r else (k,x)::Ai f v r) from rfl]
  by_cases hk:k=f
  ·rw [if_pos hk,Ps,Ps];omega
  ·rw [if_neg hk,Ps,Ps];omega
theorem RelO.some_of {v:V}{o:Option Value}(r:RelO (some v) o):∃ u,o=some u/\RelV v u:=by
 cases o with
 | none=>exact (show False from r).elim
 | some u=>exact ⟨u,rfl,r⟩
theorem RelO.none_of {o:Option Value}(r:RelO none o):o=none:=by
 cases o with
 | none=>rfl
 | some u=>exact (show False from r).elim
theorem Zct {v:V}{u:Value}(r:RelV v u):PySem.W.handedIn u=true:=by
 cases v with
 | non=>cases (show u=Value.none from r);rfl
 | bl b=>cases (show u=Value.bool b from r);rfl
 | int i=>obtain ⟨t,e⟩:=(show ∃ t,u=Value.int i t from r);cases e;rfl
 | str x=>obtain ⟨t,e⟩:=(show ∃ t,u=Value.str x t from r);cases e;rfl
 | byt b=>obtain ⟨t,e⟩:=(show ∃ t,u=Value.bytes b t from r);cases e;rfl
 | flt b=>obtain ⟨t,e⟩:=(show ∃ t,u=Value.float b t from r);cases e;rfl
 | ref a=>cases (show u=Value.ref a from r);rfl
 | ty n=>cases (show u=Value.type n from r);rfl
section
variable {P:Program}{w:World}{H H':Hp}{h h':Heap}{a C dx:Addr}{fs fs':List (Str×V)}
theorem Mh (hok:HOk P w H h)(e:H a=some (.ins C dx fs)):∃ mA,ObjM h a dx C mA/\(∀ f,RelO (fs.lookup f) (mA f))/\Tz mA (fs.map (·.1))/\fs.length<=1000/\H dx=some (.own a):=by
 obtain ⟨d,z,ne,ob,mA,n,r,q⟩:=(show ObjOk P w H h a (.ins C dx fs) from hok a _ e)
 exact ⟨mA,⟨ob,n,ne⟩,r,q,z,d⟩
end
structure Cls (K:O1)(C:Addr):Prop where
 pg:Tl K C Str.empty=true
 hd:R6 K C=true
 po:V7 K C=true
 sa:Pf K (.ref C) "__setattr__" = some (some (.builtin "object.__setattr__"))
theorem Cls.get {K:O1}{C:Addr}(c:Cls K C)(f:Str):Tl K C f=true:=c.pg
noncomputable def NoAttr (K:O1)(C:Addr)(f:Str):Prop:=Pf K (.ref C) f=some none
theorem NoAttr.taker {K:O1}{C:Addr}{f:Str}(n:NoAttr K C f):Wi K C f=some none:=by
 unfold Wi
 rw [show Pf K (.ref C) f=some none from n]
 rfl
structure Meth (K:O1)(C:Addr)(m:Str)(f:Addr):Prop where
 at_:Pf K (.ref C) m=some (some (.ref f))
 fn:T0 K (.ref f)=true
 kp:Qm K (.ref f)=true
section
variable {X:Cx}{pins:List (Addr×Obj)}{σ:St}{H:Hp}{s:Shared}{a C dx:Addr}{fs:List (Str×V)}{f:Str}{v:V}{A:Around}{E:Value->Shared->Prop}
theorem Zdr {b:Bool}{Q:Value->Shared->Prop}(I:Inv X pins σ H s)(e:H a=some (.ins C dx fs))(c:Cls X.K C)(n:NoAttr X.K C f)(l:fs.lookup f=some v)
  (h:∀ u s',Inv X pins σ H s'->RelV v u->Q u s'):wpAny (model X.prog X.w) A (getAttr (.ref a) f b) Q E s:=by
 obtain ⟨mA,O,r,_,_,_⟩:=Mh I.hok e
 obtain ⟨u,hu,ru⟩:=RelO.some_of (v:=v) (o:=mA f) (by rw [<- l];exact r f)
 exact Zjq I.kIn O (c.get f) c.hd n hu (Zct ru) (h u _ (I.tok _) ru)
theorem Zgr {m:Str}{g:Addr}{pl:Sem Bool}{Q:Value×List Value->Shared->Prop}(I:Inv X pins σ H s)(e:H a=some (.ins C dx fs))(c:Cls X.K C)(k:Meth X.K C m g)(l:fs.lookup m=none)
  (h:Q (.ref g,[.ref a]) s):wpAny (model X.prog X.w) A (getMethod (.ref a) m pl) Q E s:=by
 obtain ⟨mA,O,r,_,_,_⟩:=Mh I.hok e
 have hn:mA m=none:=RelO.none_of (by rw [<- l];exact r m)
 exact Zj5 I.kIn O (c.get m) k.at_ k.fn hn h
theorem Zet {y:V}{u:Value}{Q:Unit->Shared->Prop}(I:Inv X pins σ H s)(e:H a=some (.ins C dx fs))(c:Cls X.K C)(n:NoAttr X.K C f)(hl:fs.length < 1000)(ry:RelV y u)
  (h:∀ s',Inv X pins σ (upd H a (.ins C dx (Ai f y fs))) s'->Q () s'):wpAny (model X.prog X.w) A (setAttr (.ref a) f u) Q E s:=by
 obtain ⟨mA,O,r,wi,_,ho⟩:=Mh I.hok e
 have hz:(fs.map (·.1)).length<=sizeLine:=by rw [Pa,Vp];omega
 refine Zpi I.kIn O c.sa c.po n.taker c.hd wi hz fun h' O' sb=>h _ ?_
 have hd:∃ o,h'.get? dx=some o:=let ⟨o,_,_,e',_⟩:=O'.ns;⟨o,e'⟩
 refine I.write (x:=a) (e:=dx) (by rw [e];exact True.intro) (.inr ho) (fun b q hb z=>(sb.2 b hb).trans z) hd ?_
 refine ⟨by rw [Af O.ne];exact ho,?_,O.ne,O'.obj,_,O'.ns,fun g=>?_,fun g hg=>?_⟩
 ·have:=Zf2 f y fs;omega
 ·show RelO ((Ai f y fs).lookup g) (if g=f then some u else mA g)
  rw [Zc3]
  by_cases q:g=f
  ·rw [if_pos q,if_pos q];exact ry
  ·rw [if_neg q,if_neg q];exact r g
 ·by_cases q:g=f
  ·rw [q];exact (Za5 f y fs).1
  ·refine (Za5 f y fs).2 g (wi g fun z=>hg ?_)
   show (if g=f then some u else mA g)=none
   rw [if_neg q];exact z
theorem Inv.made (I:Inv X pins σ H s):Inv X pins σ (upd (upd H s.heap.objs.size (.own (s.heap.objs.size+1))) (s.heap.objs.size+1) (.ins C s.heap.objs.size []))
  { s with heap:=(s.heap.push Q8).push (Rp C s.heap.objs.size) }:=by
 have e1:(s.heap.push Q8).get? s.heap.objs.size=some Q8:=Pe s.heap rfl
 have e2:((s.heap.push Q8).push (Rp C s.heap.objs.size)).get? (s.heap.objs.size+1)=some (Rp C s.heap.objs.size):=by
  have:=Pe (s.heap.push Q8) (o:=Rp C s.heap.objs.size) rfl
  rwa [P8] at this
 have e3:(s.heap.push Q8).Ns s.heap.objs.size (fun _=>none):=⟨Q8,#[],_,e1,rfl,(fun e he=>absurd he (by simp)),fun _=>rfl⟩
 have I1:=I.laid (a:=s.heap.objs.size) (o:=.own (s.heap.objs.size+1)) (h':=s.heap.push Q8) (t':=s.toks) (fun b u q=>O6 _ q) (O4 _) ⟨_,e1⟩
 refine I1.laid (a:=s.heap.objs.size+1) (o:=.ins C s.heap.objs.size []) (t':=s.toks) (fun b u q=>O6 _ q) (Nat.le_of_eq (P8 _ _)) ?_
 have ne:s.heap.objs.size≠s.heap.objs.size+1:=Pg (U3 _)
 refine ⟨by rw [Af ne,Ad],Pw _,ne,e2,fun _=>none,(Heap.Ns1.of_empty e3).at fun o q=>O6 _ q,fun _=>True.intro,fun y hy=>absurd rfl hy⟩
theorem Zee {prog:Program}{w:World}{env:Env}{e:Expr}{f:Str}{pos:Pos}{s:Shared}{Q:Value->Shared->Prop}(hb:attributeBase e f env (eval e env)=eval e env)
  (h:wpAny (model prog w) A (eval e env) (fun o s₁=>wpAny (model prog w) A (getAttr o f true) Q E s₁) E s):wpAny (model prog w) A (eval (.Attribute e f pos) env) Q E s :=
 Attribute_any_ h (by rw [arm_eval_Attribute,hb])
end
noncomputable def Zax (K:O1)(ta:TE)(f:Str):TE:=fun σ H Q=>ta σ H fun x H1=>∃ a C dx fs v,x=.ref a/\H1 a=some (.ins C dx fs)/\Cls K C/\NoAttr K C f/\fs.lookup f=some v/\Q v H1
noncomputable def Lv (K:O1)(ta tv:TE)(f:Str):TS:=fun D σ H=>tv σ H fun y H1=>ta σ H1 fun x H2=>∃ a C dx fs,x=.ref a/\H2 a=some (.ins C dx fs)/\Cls K C/\NoAttr K C f/\fs.length < 1000 /\
 D.nx σ (upd H2 a (.ins C dx (Ai f y fs)))
noncomputable def N5 (X:Cx)(op:Operator)(rd:V->V->Hp->VK->Prop):Prop :=
 ∀(pins:List (Addr×Obj))(s:Shared)(σ:St)(H:Hp)(x y:V)(u v:Value)(Q:VK),Inv X pins σ H s->RelV x u->RelV y v->rd x y H Q->wpAny (model X.prog X.w) X.A (inplaceOp op u v) (EP X pins σ Q) X.xe s
noncomputable def Zgh (K:O1)(ta tv:TE)(rd:V->V->Hp->VK->Prop)(f:Str):TS:=fun D σ H=>ta σ H fun x H1=>∃ a C dx fs v,x=.ref a/\H1 a=some (.ins C dx fs)/\Cls K C/\NoAttr K C f/\fs.lookup f=some v /\
 tv σ H1 fun y H2=>rd v y H2 fun z H3=>∃ dx' fs',H3 a=some (.ins C dx' fs')/\fs'.length < 1000/\D.nx σ (upd H3 a (.ins C dx' (Ai f z fs')))
section
variable {X:Cx}{o e value:Expr}{f:Str}{pos pos' tpos:Pos}{ta tv:TE}
theorem Zi8 (he:PE X e ta)(hb:attributeBase e f X.env (eval e X.env)=eval e X.env):PE X (.Attribute e f pos) (Zax X.K ta f):=by
 intro pins s σ H Q I h
 refine Zee hb (Aj (he pins s σ H _ I h) fun u s1 zq=>?_)
 obtain ⟨x,H1,I1,rx,a,C,dx,fs,v,ex,ea,c,n,l,q⟩:=zq
 subst ex
 obtain rfl:u=Value.ref a:=rx
 exact Zdr I1 ea c n l fun u' s2 I2 ru=>⟨v,H1,I2,ru,q⟩
theorem Zm0 (ha:PE X o ta)(hv:PE X value tv)(hs:swapsWith value (some (.Attribute o f pos')) pos.line X.env=pure false):PS X (.Assign [.Attribute o f pos'] value pos) (Lv X.K ta tv f):=by
 intro pins s σ H D I h
 refine Wv (Aj (hv pins s σ H _ I h) fun u s1 zq=>?_) hs
 obtain ⟨y,H1,I1,ry,q⟩:=zq
 refine Aj (ha pins s1 σ H1 _ I1 q) fun ov s2 zq=>?_
 obtain ⟨x,H2,I2,rx,a,C,dx,fs,ex,ea,c,n,l,q2⟩:=zq
 subst ex
 obtain rfl:ov=Value.ref a:=rx
 exact Zet I2 ea c n l ry fun s3 I3=>⟨σ,_,I3,q2⟩
theorem Zik {op:Operator}{rd:V->V->Hp->VK->Prop}(ha:PE X o ta)(hv:PE X value tv)(hop:N5 X op rd):PS X (.AugAssign (.Attribute o f tpos) op value pos) (Zgh X.K ta tv rd f):=by
 intro pins s σ H D I h
 refine wpAny_AugAssign_AttributeAny (Aj (ha pins s σ H _ I h) fun ov s1 zq=>?_)
 obtain ⟨x,H1,I1,rx,a,C,dx,fs,v,ex,ea,c,n,l,q⟩:=zq
 subst ex
 obtain rfl:ov=Value.ref a:=rx
 refine Zdr I1 ea c n l fun u s2 I2 ru=>Aj (hv pins s2 σ H1 _ I2 q) fun w3 s3 zq=>?_
 obtain ⟨y,H2,I3,ry,q3⟩:=zq
 refine Aj (hop pins s3 σ H2 v y u w3 _ I3 ru ry q3) fun w4 s4 zq=>?_
 obtain ⟨z,H3,I4,rz,dx',fs',ea',l',q4⟩:=zq
 exact Zet I4 ea' c n l' rz fun s5 I5=>⟨σ,_,I5,q4⟩
noncomputable def rAdd:V->V->Hp->VK->Prop:=fun x y H Q=>∃ i j,x=.int i/\y=.int j/\Q (.int (i+j)) H
theorem Zc5:N5 X .Add rAdd:=by
 rintro pins s σ H x y u v Q I rx ry ⟨i,j,rfl,rfl,q⟩
 obtain ⟨t,rfl⟩:=(show ∃ t,u=Value.int i t from rx)
 obtain ⟨t',rfl⟩:=(show ∃ t',v=Value.int j t' from ry)
 exact PyProof.Rows.iadd_int ⟨.int (i+j),H,I.tok _,⟨_,rfl⟩,q⟩
end
section
variable {X:Cx}{pins:List (Addr×Obj)}{σ:St}{H:Hp}{s:Shared}{A:Around}{E:Value->Shared->Prop}{Q:Value->Shared->Prop}{c:Value}{b:Bool}
inductive Dg (K:O1)(H:Hp):V->Value->Prop where
 | non:Dg K H .non (.type "NoneType")
 | bl (x:Bool):Dg K H (.bl x) (.type "bool")
 | int (i:Int):Dg K H (.int i) (.type "int")
 | str (x:Str):Dg K H (.str x) (.type "str")
 | flt (x:UInt64):Dg K H (.flt x) (.type "float")
 | lst {a:Addr} {xs:List V} (e:H a=some (.lst xs)):Dg K H (.ref a) (.type "list")
 | frz {a:Addr} {o:Obj} {xs:List V} (e:H a=some (.frz o (.lst xs))):Dg K H (.ref a) (.type "list")
 | tup {a:Addr} {xs:List V} (e:H a=some (.tup xs)):Dg K H (.ref a) (.type "tuple")
 | dK {a:Addr} {kvs:List (An×V)} (e:H a=some (.dK kvs)):Dg K H (.ref a) (.type "dict")
 | dT {a:Addr} {kvs:List (List An×V)} (e:H a=some (.dT kvs)):Dg K H (.ref a) (.type "dict")
 | ins {a C dx:Addr} {fs:List (Str×V)} (e:H a=some (.ins C dx fs)) (cl:Cls K C) (ha:Pf K (.ref C) "__class__" = some (some (.builtin "object.__class__")))
   (hn:V8 K (.builtin "object.__class__") "__get__" = some (some (.builtin "getset_descriptor.__get__"))) (htk:Wk K (.builtin "object.__class__")=some true)
   (hm:PySem.W.mroIn K C (.type "object")=some true):Dg K H (.ref a) (.ref C)
theorem Zsk {x:V}{u t:Value}(I:Inv X pins σ H s)(rx:RelV x u)(ty:Dg X.K H x t)(e:Pu X.K t c=some b)(h:∀ tk,Q (.bool b) { s with toks:=tk }) :
  wpAny (model X.prog X.w) A (call (.builtin "isinstance") [u,c]) Q E s:=by
 cases ty with
 | non=>cases (show u=Value.none from rx);exact P7 PySem.W.kitx_none I.kIn True.intro e (fun z=>nomatch z) h
 | bl y=>cases (show u=Value.bool y from rx);exact P7 PySem.W.kitx_bool I.kIn True.intro e (fun z=>nomatch z) h
 | int i=>obtain ⟨t,q⟩:=(show ∃ t,u=Value.int i t from rx);cases q;exact P7 PySem.W.kitx_int I.kIn True.intro e (fun z=>nomatch z) h
 | str y=>obtain ⟨t,q⟩:=(show ∃ t,u=Value.str y t from rx);cases q;exact P7 PySem.W.kitx_str I.kIn True.intro e (fun z=>nomatch z) h
 | flt y=>obtain ⟨t,q⟩:=(show ∃ t,u=Value.float y t from rx);cases q;exact P7 PySem.W.kitx_float I.kIn True.intro e (fun z=>nomatch z) h
 | @lst a xs ea =>
  cases (show u=Value.ref a from rx)
  obtain ⟨_,_,n,_,h1⟩:=(show ObjOk X.prog X.w H s.heap a (.lst xs) from I.hok a _ ea)
  exact P7 V9 I.kIn ⟨_,h1,rfl⟩ e (fun z=>nomatch z) h
 | @frz a ob xs ea =>
  cases (show u=Value.ref a from rx)
  obtain ⟨_,_,_,n,_,h1⟩:=(show ObjOk X.prog X.w H s.heap a (.frz ob (.lst xs)) from I.hok a _ ea)
  exact P7 V9 I.kIn ⟨_,h1,rfl⟩ e (fun z=>nomatch z) h
 | @tup a xs ea =>
  cases (show u=Value.ref a from rx)
  obtain ⟨_,_,_,p⟩:=(show ObjOk X.prog X.w H s.heap a (.tup xs) from I.hok a _ ea)
  obtain ⟨o,h1,h2,_⟩:=p
  exact P7 PySem.W.kitx_tuple I.kIn ⟨o,h1,h2⟩ e (fun z=>nomatch z) h
 | @dK a kvs ea =>
  cases (show u=Value.ref a from rx)
  obtain ⟨_,_,vs,_,p⟩:=(show ObjOk X.prog X.w H s.heap a (.dK kvs) from I.hok a _ ea)
  obtain ⟨o,es,ep,h1,h2,_⟩:=p
  exact P7 PySem.W.kitx_dict I.kIn ⟨o,h1,h2.1⟩ e (fun z=>nomatch z) h
 | @dT a kvs ea =>
  cases (show u=Value.ref a from rx)
  obtain ⟨_,_,xs,_,o,es,ep,h1,h2,_⟩:=(show ObjOk X.prog X.w H s.heap a (.dT kvs) from I.hok a _ ea)
  exact P7 PySem.W.kitx_dict I.kIn ⟨o,h1,h2.1⟩ e (fun z=>nomatch z) h
 | @ins a C dx fs ea cl ha hn htk hm =>
  cases (show u=Value.ref a from rx)
  obtain ⟨mA,O,_⟩:=Mh I.hok ea
  obtain ⟨od,J,_⟩:=O.look
  exact P7 (PySem.W.kitx_own (cl.get _) cl.hd ha hn htk hm) I.kIn J e (fun z=>nomatch z) h
end
structure Room (k:Nat)(A:Around):Prop where
 hd:A.handled=none
 dp:A.depth+3 * k+5 < recursionLimit
 un:A.units+16 * k+200 < cLine
theorem Room.mono {j k:Nat}{A:Around}(r:Room k A)(h:j<=k):Room j A:=⟨r.hd,by have:=r.dp;omega,by have:=r.un;omega⟩
theorem Room.deeper {k:Nat}{A:Around}(r:Room (k+1) A)(env:Env):Room k (A.deeper env) :=
 ⟨r.hd,by have:=r.dp;show A.depth+1+3 * k+5 < _;omega,by have:=r.un;show A.units+3+16 * k+200 < _;omega⟩
theorem Zl3 {A:Around}{C:Addr}{us:List Value}{kw:List (Str×Value)}:(A.under (.builtin "type.__call__" ⟨.ref C::us,kw⟩)).depth=A.depth+1:=by
 first | rfl | simp [Around.under,Code.weight,Code.isCreation,Code.isGuard,Code.isCaller,Code.frames,Code.isFrame,guardIds]
theorem Zon {A:Around}{C:Addr}{us:List Value}{kw:List (Str×Value)}:(A.under (.builtin "type.__call__" ⟨.ref C::us,kw⟩)).units=A.units+1:=by
 first | rfl | simp [Around.under,Code.cUnits,Code.frames,Code.isFrame]
theorem Room.make {k:Nat}{A:Around}(r:Room (k+1) A)(C:Addr)(us:List Value)(kw:List (Str×Value)):Room k (A.under (.builtin "type.__call__" ⟨.ref C::us,kw⟩)) :=
 ⟨r.hd,by have:=r.dp;rw [Zl3];omega,by have:=r.un;rw [Zon];omega⟩
theorem Room.depth {k:Nat}{A:Around}(r:Room k A):A.depth < recursionLimit:=by have:=r.dp;omega
noncomputable def Gg:TA:=fun _ H Q=>Q [] H
noncomputable def Zby (ta:TE)(tr:TA):TA:=fun σ H Q=>ta σ H fun x H1=>tr σ H1 fun xs H2=>Q (x::xs) H2
section
variable {X:Cx}{e:Expr}{es:List Expr}{te:TE}{t:TA}{pos:Pos}
theorem Ze4:PA X [] Gg:=fun _ _ _ _ H Q I h=>Wa ⟨[],H,I,.nil,h⟩
theorem Zcq (ha:PE X e te)(hr:PA X es t)(hs:starEach (e::es) X.env=(false,eval e X.env)::starEach es X.env:=by rfl):PA X (e::es) (Zby te t):=by
 intro pos pins s σ H Q I h
 rw [hs]
 show wpAny _ _ (spliced ((false,eval e X.env)::backTo pos (starEach es X.env))) _ _ s
 refine V4 (Aj (ha pins s σ H _ I h) fun u s1 zq=>?_)
 obtain ⟨x,H1,I1,r1,q1⟩:=zq
 exact Aj (hr pos pins s1 σ H1 _ I1 q1) fun us s2 ⟨xs,H2,I2,r2,q2⟩=>⟨x::xs,H2,I2,.cons r1 r2,q2⟩
noncomputable def Zak (t:TA):TE:=fun σ H Q=>t σ H fun xs H1=>xs.length<=sizeLine/\∀ p,H1 p=none->Q (.ref p) (upd H1 p (.tup xs))
noncomputable def N1 (t:TA):TE:=fun σ H Q=>t σ H fun xs H1=>xs.length<=sizeLine/\∀ p,H1 p=none->Q (.ref p) (upd H1 p (.lst xs))
theorem Zqa {x1}(h:PA X es t):PE X (.Tuple es x1 pos) (Zak t):=by
 intro pins s σ H Q I hq
 refine wpAny_Tuple_spliced (Aj (h pos pins s σ H _ I hq) fun us s1 ⟨xs,H1,I1,r,z,q⟩=>⟨by rw [<- r.length];exact z,?_⟩)
 have hf:H1 s1.heap.objs.size=none:=I1.hok.fresh (O4 _)
 refine ⟨.ref s1.heap.objs.size,upd H1 s1.heap.objs.size (.tup xs),I1.laid (t':=s1.toks) (fun b u e=>O6 _ e) (O4 _) ?_,rfl,q _ hf⟩
 exact ⟨z,us,r,⟨_,Pe _ rfl,rfl,_,rfl⟩⟩
theorem Zq7 (h:PA X es t):PE X (.List es pos) (N1 t):=by
 intro pins s σ H Q I hq
 refine wpAny_List_spliced (Aj (h pos pins s σ H _ I hq) fun us s1 ⟨xs,H1,I1,r,z,q⟩=>⟨by rw [<- r.length];exact z,?_⟩)
 have hf:H1 s1.heap.objs.size=none:=I1.hok.fresh (O4 _)
 refine ⟨.ref s1.heap.objs.size,upd H1 s1.heap.objs.size (.lst xs),I1.laid (t':=s1.toks) (fun b u e=>O6 _ e) (O4 _) ?_,rfl,q _ hf⟩
 exact ⟨z,us,0,r,Pe _ rfl⟩
end
noncomputable abbrev Sp:=List V->Hp->VK->XK->Prop
noncomputable abbrev B4:=List Env->Hp->Shared->XK->Value->Shared->Prop
structure Env0 (P:Program)(w:World)(K:O1)(mg:Str->Option Value)(base:Heap)(A:Around)(outer:List Env)(s:Shared)(H:Hp):Prop where
 frames:A.frames=some outer
 mod:Mod K mg base
 bs:∀ b o,base.get? b=some o->s.heap.get? b=some o/\H b=none
 bsz:base.objs.size<=s.heap.objs.size
 funs:s.heap.FunFrames base outer
 frf:∀ b∈A6 outer,H b=none
 hok:HOk P w H s.heap
 bare:AllBare s.gens
noncomputable def CE (outer:List Env)(P:Program)(w:World)(H:Hp)(s:Shared)(Q:VK)(u:Value)(s':Shared):Prop :=
 ∃ v H',s'.os=s.os/\AllBare s'.gens/\Un (A6 outer) [] H H' s.heap s'.heap/\HOk P w H' s'.heap/\RelV v u/\Q v H'
noncomputable def CR (CX:B4)(outer:List Env)(P:Program)(w:World)(H:Hp)(s:Shared)(Q:VK)(E:XK)(r:Result)(s':Shared):Prop :=
 match r with
 | .ok (.ret u)=>CE outer P w H s Q u s'
 | .ok _=>False
 | .error e=>CX outer H s E e s'
structure FnOk (P:Program)(w:World)(K:O1)(mg:Str->Option Value)(base:Heap)(CX:B4)(k:Nat)(f:Addr)(fd:FuncData)(ps:List Str)(sp:Sp):Prop where
 len:∀ vs H Q E,sp vs H Q E->vs.length=ps.length
 run:∀(A:Around)(outer:List Env)(s:Shared)(H:Hp)(args:Args)(us:List Value)(vs:List V)(Q:VK)(E:XK),Room k A->Env0 P w K mg base A outer s H->BindsTo s fd args (ps.zip us)->Vals vs us->sp vs H Q E ->
  codeAny (model P w) A (.call (.ref f) args) (CR CX outer P w H s Q E) s
theorem FnOk.imp {P:Program}{w:World}{K:O1}{mg:Str->Option Value}{base:Heap}{CX:B4}{k:Nat}{f:Addr}{fd:FuncData}{ps:List Str}{sp sp':Sp}(F:FnOk P w K mg base CX k f fd ps sp)
  (h:∀ vs H Q E,sp' vs H Q E->sp vs H Q E):FnOk P w K mg base CX k f fd ps sp' :=
 ⟨fun vs H Q E q=>F.len vs H Q E (h _ _ _ _ q),fun A outer s H args us vs Q E hr he hb hv hs=>F.run A outer s H args us vs Q E hr he hb hv (h _ _ _ _ hs)⟩
theorem Env0.make {P:Program}{w:World}{K:O1}{mg:Str->Option Value}{base:Heap}{A:Around}{outer:List Env}{s:Shared}{H:Hp}(e:Env0 P w K mg base A outer s H)(C:Addr)(us:List Value)(kw:List (Str×Value)) :
  Env0 P w K mg base (A.under (.builtin "type.__call__" ⟨.ref C::us,kw⟩)) outer s H:=⟨by first | exact e.frames | (simpa [Around.under,Code.envs,Code.isFrame,pushEnvs] using e.frames),e.mod,e.bs,e.bsz,e.funs,e.frf,e.hok,e.bare⟩
section
variable {X:Cx}{pins:List (Addr×Obj)}{σ:St}{H:Hp}{s s':Shared}
theorem Inv.env0 (I:Inv X pins σ H s):Env0 X.prog X.w X.K X.mg X.base X.A X.stack s H :=
 ⟨I.ok.frames,I.ok.mod,I.bs,Px I.ok.bsz I.sz,I.stack,I.stkFree,I.hok,I.bare⟩
theorem Inv.after {Q:VK}{u:Value}(I:Inv X pins σ H s)(h:CE X.stack X.prog X.w H s Q u s'):EP X pins σ Q u s':=by
 obtain ⟨v,H',os,bare,un,hok,r,q⟩:=h
 obtain ⟨hh,g,d,t,os'⟩:=s'
 obtain rfl:os'=s.os:=os
 exact ⟨v,H',I.call (h':=hh) (g':=g) (d':=d) (t':=t) (ch:=[]) un hok bare (fun b z=>absurd z (by simp)),r,q⟩
end
noncomputable def Kh (sp:Sp)(dvs:List V)(E:XK)(t:TA):TE:=fun σ H Q=>t σ H fun vs H1=>sp (vs++dvs) H1 Q E
noncomputable def Binds (K:O1)(fd:FuncData)(ps:List Str)(ds:List Value):Prop :=
 ∀(s:Shared)(us:List Value),K.In s.heap->(us++ds).length=ps.length->BindsTo s fd ⟨us,[]⟩ (ps.zip (us++ds))
theorem Binds.all {K:O1}{fd:FuncData}{ps:List Str}(h:∀ us:List Value,us.length=ps.length->bindArgs fd ⟨us,[]⟩=pure (ps.zip us)):Binds K fd ps []:=fun s us _ hl=>by
 rw [Qs] at hl ⊢
 exact .of_eq (h us hl)
noncomputable def E6 (CX:B4)(X:Cx)(E:XK):Prop:=∀(pins:List (Addr×Obj))(σ:St)(H:Hp)(s:Shared)(e:Value)(s':Shared),Inv X pins σ H s->CX X.stack H s E e s'->X.xe e s'
section
variable {X:Cx}{CX:B4}{k:Nat}{f C:Addr}{fd:FuncData}{ps:List Str}{sp:Sp}{dvs:List V}{ds:List Value}{E:XK}{x m:Str}{p pos apos:Pos}{e o:Expr}{es:List Expr}{ta:TE}{t:TA}
theorem Zaa {pins:List (Addr×Obj)}{σ:St}{H:Hp}{s:Shared}{Q:VK}{us:List Value}{vs:List V}(F:FnOk X.prog X.w X.K X.mg X.base CX k f fd ps sp)(hr:Room k X.A)(hb:Binds X.K fd ps ds)(hd:Vals dvs ds)(hx:E6 CX X E)
  (I:Inv X pins σ H s) (r:Vals vs us) (h:sp (vs++dvs) H Q E):wpAny (model X.prog X.w) X.A (call (.ref f) us) (EP X pins σ Q) X.xe s:=by
 have r2:Vals (vs++dvs) (us++ds):=r.append hd
 have hl:(us++ds).length=ps.length:=by rw [<- r2.length];exact F.len _ _ _ _ h
 refine Rv (Se (F.run X.A X.stack s H ⟨us,[]⟩ (us++ds) (vs++dvs) Q E hr I.env0 (hb s us I.kIn hl) r2 h) fun r s' hq=>?_)
 cases r with
 | error e=>exact hx pins σ H s e s' I hq
 | ok fl =>
  cases fl with
  | ret u=>exact I.after hq
  | next=>exact Pt hq
  | brk=>exact Pt hq
  | cont=>exact Pt hq
theorem Zdp (F:FnOk X.prog X.w X.K X.mg X.base CX k f fd ps sp)(hr:Room k X.A)(hg:Gl X x)(hm:X.mg x=some (.ref f))(hk:Qm X.K (.ref f)=true)(hb:Binds X.K fd ps ds)(hd:Vals dvs ds)(hx:E6 CX X E)
  (ha:PA X (e::es) t) (hdb:(x == ("__debug__" : Str))=false:=by decide) (he:starEach (e::es) X.env=(false,eval e X.env)::starEach es X.env:=by rfl) (hpl:(backTo pos (starEach es X.env)).any (·.1)=false:=by rfl) :
  PE X (.Call (.Name x p) (e::es) [] pos) (Kh sp dvs E t):=by
 intro pins s σ H Q I h
 refine Sm (Ez I hg hm ?_ hdb)
 refine Th (h₀:=X.base) I.ok.mod.kin hk (Aj (ha pos pins s σ H _ I h) fun us s1 zq=>?_) he hpl
 obtain ⟨vs,H1,I1,r,q⟩:=zq
 refine ⟨I1.kIn,?_⟩
 exact Zaa F hr hb hd hx I1 r q
structure Mk (K:O1)(C f:Addr):Prop where
 makes:Wj K C=true
 init:Pf K (.ref C) "__init__" = some (some (.ref f))
 fn:T0 K (.ref f)=true
 kp:Qm K (.ref C)=true
theorem Zmb {pins:List (Addr×Obj)}{σ:St}{H:Hp}{s:Shared}{Q:VK}{us:List Value}{vs:List V}(M:Mk X.K C f)(F:FnOk X.prog X.w X.K X.mg X.base CX k f fd ps sp)(hr:Room (k+1) X.A)(hb:Binds X.K fd ps ds)(hd:Vals dvs ds)
  (hx:E6 CX X E) (I:Inv X pins σ H s) (r:Vals vs us)
  (h:∀ x dx,H x=none->H dx=none->dx≠x->sp (.ref x::(vs++dvs)) (upd (upd H dx (.own x)) x (.ins C dx [])) (fun v H2=>v=.non/\Q (.ref x) H2) E) :
  wpAny (model X.prog X.w) X.A (call (.ref C) us) (EP X pins σ Q) X.xe s:=by
 have hq:=h (s.heap.objs.size+1) s.heap.objs.size (I.hok.fresh (T2 _)) (I.hok.fresh (O4 _)) (Pg (U3 _))
 have I2:=Inv.made (C:=C) I
 have r2:Vals (V.ref (s.heap.objs.size+1)::(vs++dvs)) (Value.ref (s.heap.objs.size+1)::(us++ds)):=.cons rfl (r.append hd)
 have hl:(Value.ref (s.heap.objs.size+1)::us++ds).length=ps.length:=by
  have e:=r2.length
  rw [F.len _ _ _ _ hq] at e
  exact e.symm
 refine Rv (Zm1 (f:=f) I.kIn M.makes M.init (beq_iff_eq.mp M.fn) (Se (F.run _ X.stack _ _ ⟨Value.ref (s.heap.objs.size+1)::us,[]⟩ (Value.ref (s.heap.objs.size+1)::(us++ds)) _ _ E (hr.make C us [])
  (I2.env0.make C us []) (hb _ (Value.ref (s.heap.objs.size+1)::us) I2.kIn hl) r2 hq) fun r s' hq'=>?_))
 cases r with
 | error e=>exact hx pins σ _ _ e s' I2 hq'
 | ok fl =>
  cases fl with
  | ret u =>
   obtain ⟨v,H',I3,rv,ev,q3⟩:=I2.after hq'
   subst ev
   exact ⟨rv,⟨V.ref (s.heap.objs.size+1),H',I3,rfl,q3⟩⟩
  | next=>exact Pt hq'
  | brk=>exact Pt hq'
  | cont=>exact Pt hq'
end
section
variable {X:Cx}{CX:B4}{k:Nat}{f C:Addr}{fd:FuncData}{ps ks:List Str}{sp:Sp}{E:XK}{x m:Str}{p pos apos kpos:Pos}{e o:Expr}{es:List Expr}{kws:List Keyword}{te ta:TE}{t tk:TA}{nm:Option Str}
variable {g:List Value->List Value->List Value}{gV:List V->List V->List V}
end
structure A2 (N P:List Str)(sc:Scope):Prop where
 kind:sc.kind=.function
 co:sc.isCoroutine=false
 gen:sc.isGenerator=false
 nd:N.Nodup
 pre:N.take P.length=P
 par:∀ x∈P,sc.names.lookup x=some .local\/sc.names.lookup x=some .cell
 nofree:∀ y∈sc.names,y.2≠.free
theorem Ze8 {kindOf:Str->Option NameKind}{x:Str}:∀{binds:List (Str×Value)}{m:Str->Option Value},(∀ v,(x,v) ∉ binds)->bindL kindOf binds m x=m x
 | [],_,_=>rfl
 | (n,v)::r,m,h=>by
  unfold bindL
  rw [Ze8 fun w hw=>h w (Q5 _ hw)]
  split
  ·have:x≠n:=by rintro rfl;exact h v Sl
   simp [this]
  ·rfl
theorem Zd6 {kindOf:Str->Option NameKind}{x:Str}:∀{binds:List (Str×Value)}{m:Str->Option Value},(∀ v,(x,v) ∉ binds)->bindC kindOf binds m x=m x
 | [],_,_=>rfl
 | (n,v)::r,m,h=>by
  unfold bindC
  rw [Zd6 fun w hw=>h w (Q5 _ hw)]
  split
  ·rfl
  ·have:x≠n:=by rintro rfl;exact h v Sl
   simp [this]
theorem Zcy {kindOf:Str->Option NameKind}{x:Str}{v:Value}:∀{P:List Str}{vs:List Value}{i:Nat}{m:Str->Option Value},P.Nodup->P[i]?=some x->vs[i]?=some v->kindOf x=some .local ->
  bindL kindOf (P.zip vs) m x=some v
 | [],_,_,_,_,h,_,_=>by simp at h
 | _::_,[],_,_,_,_,h,_=>by simp at h
 | p::P,w::vs,0,m,nd,h1,h2,hk=>by
  simp at h1 h2;subst h1;subst h2
  show bindL kindOf ((p,w)::P.zip vs) m p=_
  unfold bindL
  rw [Ze8 fun v hv=>(U8.mp nd).1 (Wl hv).1,if_pos hk]
  simp
 | p::P,w::vs,i+1,m,nd,h1,h2,hk=>by
  show bindL kindOf ((p,w)::P.zip vs) m x=_
  unfold bindL
  exact Zcy (i:=i) (U8.mp nd).2 (by simpa using h1) (by simpa using h2) hk
theorem Zd0 {kindOf:Str->Option NameKind}{x:Str}{v:Value}:∀{P:List Str}{vs:List Value}{i:Nat}{m:Str->Option Value},P.Nodup->P[i]?=some x->vs[i]?=some v->kindOf x≠some .local ->
  bindC kindOf (P.zip vs) m x=some v
 | [],_,_,_,_,h,_,_=>by simp at h
 | _::_,[],_,_,_,_,h,_=>by simp at h
 | p::P,w::vs,0,m,nd,h1,h2,hk=>by
  simp at h1 h2;subst h1;subst h2
  show bindC kindOf ((p,w)::P.zip vs) m p=_
  unfold bindC
  rw [Zd6 fun v hv=>(U8.mp nd).1 (Wl hv).1,if_neg hk]
  simp
 | p::P,w::vs,i+1,m,nd,h1,h2,hk=>by
  show bindC kindOf ((p,w)::P.zip vs) m x=_
  unfold bindC
  exact Zd0 (i:=i) (U8.mp nd).2 (by simpa using h1) (by simpa using h2) hk
noncomputable def Ek (N:List Str)(vs:List V):St:=vs.map some++Pn (N.length - vs.length) none
noncomputable def Dy (CX:B4)(P:Program)(w:World)(K:O1)(mg:Str->Option Value)(base:Heap)(N:List Str)(qual:Str)(scope:Scope)(f:Addr)(cd:Value)(A:Around)(outer:List Env)(s:Shared)(H:Hp)(E:XK):Cx where
 prog:=P
 w:=w
 K:=K
 mg:=mg
 base:=base
 A:=A.deeper (envOfC qual scope s.heap.objs.size f cd)
 N:=N
 s₀:=s
 H₀:=H
 env:=envOfC qual scope s.heap.objs.size f cd
 outer:=outer
 stack:=envOfC qual scope s.heap.objs.size f cd::outer
 ex:=[]
 calm:=true
 fn:=fun _=>true
 pn:=[]
 xe:=fun e s'=>wpAny (model P w) (A.deeper (envOfC qual scope s.heap.objs.size f cd)) (leaving (envOfC qual scope s.heap.objs.size f cd) e) (fun _ s''=>CX outer H s E e s'') (fun e' s''=>CX outer H s E e' s'') s'
theorem Zbw {sc:Scope}{n:Nat}{x:Str}(h:sc.names.lookup x=some .cell):∃ c,(cellsFrom n sc.names []).lookup x=some c:=by
 have q:=PySem.W.cellsFrom_some sc.names n [] (.inl h)
 exact Ta.mp q
theorem Zqj {CX:B4}{P:Program}{w:World}{K:O1}{mg:Str->Option Value}{base:Heap}{N ps:List Str}{qual:Str}{scope:Scope}{f:Addr}{cd:Value}{A:Around}{outer:List Env}{s s1:Shared}{H:Hp}{E:XK}{us:List Value}{vs:List V}
  (S:A2 N ps scope) (hd:A.handled=none) (e0:Env0 P w K mg base A outer s H) (hl:vs.length=ps.length) (r:Vals vs us)
  (x:InCallC s s.heap.objs.size (bindL (envOfC qual scope s.heap.objs.size f cd).kindOf (ps.zip us) fun _=>none) (cellsFrom (s.heap.objs.size+1) scope.names []) (bindC (envOfC qual scope s.heap.objs.size f cd).kindOf (ps.zip us) fun _=>none) s1) :
  Inv (Dy CX P w K mg base N qual scope f cd A outer s H E) [] (Ek N vs) H s1:=by
 have hpl:ps.length<=N.length:=by have:=congrArg Sw S.pre;rw [Pq] at this;omega
 obtain ⟨h1,tk,rfl,hk⟩:=x.done
 have noA:∀ b:Addr,b ∉ (Dy CX P w K mg base N qual scope f cd A outer s H E).ex:=fun b z=>absurd (show b∈([]:List Addr) from z) (by simp)
 refine ⟨⟨e0.mod,S.kind,rfl,rfl,O4 _,fun y z c h1 h2=>?_,fun y hy=>?_,fun y c _ h=>?_,fun _=>hd,Around.frames_deeper e0.frames,.inr ⟨rfl,rfl⟩,fun b z=>absurd z (noA b),e0.bs,e0.bsz,fun b _ _=>noA b,fun b z=>absurd z (noA b),e0.funs,e0.frf⟩,
  rfl,e0.bare,Un.kept hk,⟨_,x.toInCall.ns,fun i y v h1 h2 h3=>?_⟩,fun y c h=>⟨_,x.cell y c h⟩,e0.hok.fresh (O4 _),fun y c h=>?_,fun p hp=>absurd (show p∈([]:List (Addr×Obj)) from hp) (by simp),e0.hok.kept hk,?_⟩
 ·exact name_of_addr x.apart (R5 h1) (R5 h2)
 ·have hy:scope.names.lookup y=some .cell\/scope.names.lookup y=some .free:=hy
  rcases hy with hy | hy
  ·exact Zbw hy
  ·exact absurd rfl (S.nofree _ (R5 hy))
 ·exact Su (x.above y c (R5 h))
 ·have hi:i < vs.length:=by
   unfold Ek at h2
   by_cases hi:i < vs.length
   ·exact hi
   ·rw [Qw (by simpa using hi)] at h2
    rw [List.getElem?_replicate] at h2
    split at h2 <;> cases h2
  have ha:vs[i]?=some v:=by
   unfold Ek at h2
   rw [Qd (by simpa using hi),Qj] at h2
   cases e:vs[i]? with
   | none=>rw [e] at h2;cases h2
   | some a=>rw [e] at h2;cases h2;rfl
  obtain ⟨u,hu,rv⟩:=r.get ha
  have hp:ps[i]?=some y:=by
   rw [<- S.pre,List.getElem?_take_of_lt (by omega)];exact h1
  have ndP:ps.Nodup:=by rw [<- S.pre];exact S.nd.sublist (List.take_sublist _ _)
  refine ⟨u,rv,?_⟩
  rcases S.par y (Qr hp) with k | k
  ·exact .inl ⟨k,Zcy ndP hp hu k⟩
  ·obtain ⟨c,e⟩:=Zbw (n:=s.heap.objs.size+1) k
   refine .inr ⟨.inl k,c,e,?_⟩
   have q:=x.cell y c e
   rw [Zd0 ndP hp hu (by show scope.names.lookup y≠_;rw [k];decide)] at q
   exact q
 ·exact e0.hok.fresh (Su (x.above y c (R5 h)))
 ·unfold Ek
  show _=N.length
  rw [O9,Pa,List.length_replicate]
  omega
theorem Zei {CX:B4}{P:Program}{w:World}{K:O1}{mg:Str->Option Value}{base:Heap}{k:Nat}{f:Addr}{name qual:Str}{params:Arguments}{body:List Stmt}{scope:Scope}{dV kV doc pm cdv ct oc:Value}{an od:Option Addr}
  {osl:Array (Option Value)} {N ps:List Str} {sp:Sp} (lk:K.lookup f=some ⟨oc,od,.func (Rs name qual params body scope dV kV doc pm an cdv ct),osl⟩) (hcd:PySem.W.codeIn K cdv qual=true) (S:A2 N ps scope)
  (len:∀ vs H Q E,sp vs H Q E->vs.length=ps.length)
  (hbody:∀(A:Around)(outer:List Env)(s:Shared)(H:Hp)(vs:List V)(Q:VK)(E:XK),Room k (A.deeper (envOfC qual scope s.heap.objs.size f cdv))->sp vs H Q E ->
   ∃ t,PSs (Dy CX P w K mg base N qual scope f cdv A outer s H E) body t/\t { nx:=fun _ H'=>Q .non H',rt:=Q } (Ek N vs) H) :
  FnOk P w K mg base CX (k+1) f (Rs name qual params body scope dV kV doc pm an cdv ct) ps sp:=by
 refine ⟨len,fun A outer s H args us vs Q E hr e0 hb r hsp=>?_⟩
 have hl:=len _ _ _ _ hsp
 have KX:K.In s.heap:=e0.mod.kin.keeps fun b o e=>(e0.bs b o e).1
 have lim:s.heap.NoLimit:=e0.mod.nolimit.keeps fun b o e=>(e0.bs b o e).1
 have hkind:∀ y∈ps.zip us,scope.names.lookup y.1=some .local\/(scope.names.lookup y.1=some .cell/\((cellsFrom (s.heap.objs.size+1) scope.names []).lookup y.1).isSome=true):=fun ⟨n,v⟩ hy=>by
  rcases S.par n (Wl hy).1 with q | q
  ·exact .inl q
  ·exact .inr ⟨q,PySem.W.cellsFrom_some _ _ _ (.inl q)⟩
 refine codeAny_call_function hr.depth (KX _ _ lk) rfl S.co S.gen rfl (PySem.W.codeRec_of KX hcd) (hb _ _ _ _ ?_)
 refine wpAny_newFunctionEnv_cells S.kind hkind fun env he s1 x=>?_
 subst he
 refine ⟨lim.keeps x.toInCall.keep,codeAny_func ?_⟩
 obtain ⟨t,ht,hq⟩:=hbody A outer s H vs Q E (hr.deeper _) hsp
 have I:Inv (Dy CX P w K mg base N qual scope f cdv A outer s H E) [] (Ek N vs) H s1:=Zqj S hr.hd e0 hl r x
 refine Py (ht [] s1 (Ek N vs) H _ I hq) (fun fl s' hs=>?_) fun e s' hs=>hs
 have fin:∀{σ':St}{H':Hp}{v:V}{u:Value},Inv (Dy CX P w K mg base N qual scope f cdv A outer s H E) [] σ' H' s'->RelV v u->Q v H'->CE outer P w H s Q u s' :=
  fun {σ' H' v u} J rv q=>⟨v,H',J.os,J.bare,J.base,J.hok,rv,q⟩
 cases fl with
 | ret u =>
  obtain ⟨v,σ',H',J,rv,q⟩:=hs
  exact fin J rv q
 | next =>
  obtain ⟨σ',H',J,q⟩:=hs
  exact fin (v:=V.non) (u:=Value.none) J rfl q
 | brk =>
  obtain ⟨_,_,_,q⟩:=hs
  exact Pt q
 | cont =>
  obtain ⟨_,_,_,q⟩:=hs
  exact Pt q
section
variable {X:Cx}{x:Str}{p pos:Pos}{e:Expr}{es:List Expr}{t:TA}{id T:String}{r:List V->Hp->VK->Prop}
noncomputable def tCB (r:List V->Hp->VK->Prop)(t:TA):TE:=fun σ H Q=>t σ H fun vs H1=>r vs H1 Q
theorem Zpz (hc:Cb X (.builtin id) r)(hg:Gl X x)(hm:X.mg x=none)(hv:bootBuiltins x=some (.builtin id))(ha:PA X (e::es) t)(hn:x ≠ "__name__" := by decide)(hdb:(x == ("__debug__" : Str))=false:=by decide)
  (he:starEach (e::es) X.env=(false,eval e X.env)::starEach es X.env:=by rfl) (hpl:(backTo pos (starEach es X.env)).any (·.1)=false:=by rfl):PE X (.Call (.Name x p) (e::es) [] pos) (tCB r t):=by
 intro pins s σ H Q I h
 refine Sm (Fg I hg hm hv ?_ hn hdb)
 exact PyProof.Rows.callWith_builtin1 (Aj (ha pos pins s σ H _ I h) fun us s1 ⟨vs,H1,I1,r1,q1⟩=>hc pins s1 σ H1 vs us Q I1 r1 q1) he hpl
theorem Zmp (hc:Cb X (.type T) r)(hg:Gl X x)(hm:X.mg x=none)(hv:bootBuiltins x=some (.type T))(ha:PA X (e::es) t)(hn:x ≠ "__name__" := by decide)(hdb:(x == ("__debug__" : Str))=false:=by decide)
  (he:starEach (e::es) X.env=(false,eval e X.env)::starEach es X.env:=by rfl) (hpl:(backTo pos (starEach es X.env)).any (·.1)=false:=by rfl):PE X (.Call (.Name x p) (e::es) [] pos) (tCB r t):=by
 intro pins s σ H Q I h
 refine Sm (Fg I hg hm hv ?_ hn hdb)
 exact Ry (Aj (ha pos pins s σ H _ I h) fun us s1 ⟨vs,H1,I1,r1,q1⟩=>hc pins s1 σ H1 vs us Q I1 r1 q1) he hpl
end
end L2
namespace HT
open PySem PyProof.Rows
section
open PySem.SeqAt
open PySem.AutoSeq1 (wpAny_loadPart')
open PySem.MeetsSeq PySem.MeetsSeq2 PySem.MeetsSeq3
end
section
variable {prog:Program}{w:World}{A:Around}{E:Value->Shared->Prop}{s:Shared}
theorem cat_tup {t b:Addr}{vs ws:List Value}{Q:Value->Shared->Prop}(ht:IsTup s.heap t vs.toArray)(hb:IsTup s.heap b ws.toArray)(hv:vs≠[])
  (h1:ws=[]->Q (.ref t) s) (h2:ws≠[]->Q (.ref s.heap.objs.size) { s with heap:=s.heap.push { cls:=.type "tuple",data:=.seq (vs++ws).toArray } })
  (hsz:vs.length+ws.length<=sizeLine):wpAny (model prog w) A (binaryOp .Add (.ref t) (.ref b)) Q E s:=by
 obtain ⟨⟨cls,dd,data,sl⟩,ho,hc,n,hd⟩:=id ht
 obtain ⟨⟨cls2,dd2,data2,sl2⟩,ho2,hc2,n2,hd2⟩:=id hb
 simp only at hc hd hc2 hd2
 subst hc hd hc2 hd2
 have e:vs.toArray++ws.toArray=(vs++ws).toArray:=by simp
 by_cases hw:ws=[]
 ·exact Vk ⟨_,ho,rfl⟩ ⟨_,ho2,rfl⟩ U4 Vg Um Ui (Uf _ _)
   (tuple_addW1 t b vs.toArray ws.toArray n n2 dd dd2 sl sl2 (by simpa using hv) (by simp [hw])) ⟨ho,ho2,h1 hw⟩
 ·refine Vk ⟨_,ho,rfl⟩ ⟨_,ho2,rfl⟩ U4 Vg Um Ui (Uf _ _)
   (tuple_addW2 t b vs.toArray ws.toArray n n2 dd dd2 sl sl2 (by simpa using hv) (by simpa using hw) (by rw [O7,O7];exact hsz)) ⟨ho,ho2,?_⟩
  rw [e]
  exact h2 hw
noncomputable def sIx (n d:Nat):Option Int->Nat
 | none=>d
 | some v=>if v < 0 then (v+(n:Int)).toNat else min v.toNat n
theorem sIx_none (n d:Nat):sIx n d none=d:=rfl
theorem sIx_nat (n d k:Nat):sIx n d (some (k:Int))=min k n:=by
 show (if (k:Int) < 0 then ((k:Int)+(n:Int)).toNat else min (k:Int).toNat n)=min k n
 rw [if_neg (by omega),R7]
theorem Zrq (n d:Nat)(hd:d<=n)(o:Option Int):sIx n d o<=n:=by
 cases o with
 | none=>exact hd
 | some v =>
  show (if v < 0 then (v+(n:Int)).toNat else min v.toNat n)<=n
  by_cases hv:v < 0
  ·rw [if_pos hv];omega
  ·rw [if_neg hv];exact Nat.min_le_right _ _
theorem Zed (v:Int)(n d:Nat):(if v < 0 then max (v+(n:Int)) 0 else min v (n:Int))=((sIx n d (some v):Nat):Int):=by
 show (if v < 0 then max (v+(n:Int)) 0 else min v (n:Int))=(((if v < 0 then (v+(n:Int)).toNat else min v.toNat n):Nat):Int)
 by_cases hv:v < 0
 ·simp only [if_pos hv];omega
 ·simp only [if_neg hv];omega
theorem Zpd (lo hi:Option Int)(n:Nat):Vs lo hi 1 (n:Int)=(((sIx n 0 lo:Nat):Int),((sIx n n hi:Nat):Int)):=by
 have h1:¬ ((1:Int) < 0):=by omega
 unfold Vs
 simp only [h1,if_false]
 refine Prod.ext ?_ ?_
 ·cases lo with
  | none=>rfl
  | some v=>exact Zed v n 0
 ·cases hi with
  | none=>rfl
  | some v=>exact Zed v n n
theorem Zrg (i j:Nat):Ud (i:Int) (j:Int) 1=j - i:=by
 unfold Ud
 have h1:(1:Int) > 0:=by omega
 simp only [h1,if_true,Int.ediv_one]
 split <;> omega
theorem Zge {v:Value}{o:Option Int}{Q:Option Int->Shared->Prop}(p:IsPart v o)(h:Q o s):wpAny (model prog w) A (Builtin.Slice.slicePartIndex v) Q E s:=by
 cases p with
 | none=>exact slicePart_none h
 | int i t=>exact slicePart_int h
theorem sliceApplied_gen {sl:Addr}{vl vu:Value}{lo hi:Option Int}{n:Nat}{Q:Int×Int×Nat->Shared->Prop}(hs:s.heap.IsSliceOf sl vl vu .none)(pl:IsPart vl lo)(pu:IsPart vu hi)
  (h:Q (((sIx n 0 lo:Nat):Int),1,sIx n n hi - sIx n 0 lo) s):wpAny (model prog w) A (Builtin.Slice.sliceApplied (.ref sl) (pure (n:Int))) Q E s:=by
 obtain ⟨os,hos,hcs,hds⟩:=id hs
 unfold Builtin.Slice.sliceApplied Builtin.Slice.sliceFields
 refine O2 (O2 (Pj hos hds (x:=vl) rfl (O2 (Pj hos hds (x:=vu) rfl (O2 (Pj hos hds (x:=.none) rfl (O3 ?_)))))))
 refine O2 (slicePart_none ?_)
 show wpAny _ _ (if ((1:Int) == 0)=true then _ else _) _ _ s
 rw [if_neg (by decide)]
 refine O2 (Zge pl (O2 (Zge pu (O2 (O3 ?_)))))
 show wpAny _ _ (match Vs lo hi 1 (n:Int) with | (lo,hi)=>pure (lo,(1:Int),Ud lo hi 1)) _ _ s
 rw [Zpd lo hi n]
 show wpAny _ _ (pure (((sIx n 0 lo:Nat):Int),(1:Int),Ud ((sIx n 0 lo:Nat):Int) ((sIx n n hi:Nat):Int) 1)) _ _ s
 rw [Zrg]
 exact O3 h
theorem Zml (xs:Array Value)(i k:Nat):((Pp k).filterMap fun (m:Nat)=>xs[((i:Int)+(m:Int) * 1).toNat]?).toArray=((xs.toList.drop i).take k).toArray:=by
 have e:(fun (m:Nat)=>xs[((i:Int)+(m:Int) * 1).toNat]?)=fun m=>xs[i+m]?:=by
  funext m
  have:((i:Int)+(m:Int) * 1).toNat=i+m:=by omega
  rw [this]
 rw [e]
 have:=pick_run xs i k
 rw [List.filterMap_map] at this
 have e2:((fun x=>xs[x]?) ∘ fun x=>i+x)=fun m=>xs[i+m]?:=rfl
 rw [e2] at this
 rw [this]
theorem getItem_tuple_cut {t sl:Addr}{items:Array Value}{vl vu:Value}{lo hi:Option Int}{Q:Value->Shared->Prop}(ht:IsTup s.heap t items)(hs:s.heap.IsSliceOf sl vl vu .none)(pl:IsPart vl lo)(pu:IsPart vu hi)
  (hw:¬ (sIx items.size 0 lo=0/\sIx items.size items.size hi=items.size))
  (h:Q (.ref s.heap.objs.size) { s with heap:=s.heap.push { cls:=.type "tuple",data:=.seq ((items.toList.drop (sIx items.size 0 lo)).take (sIx items.size items.size hi - sIx items.size 0 lo)).toArray } })
  (hsz:items.size<=sizeLine):wpAny (model prog w) A (getItem (.ref t) (.ref sl)) Q E s:=by
 have htake:sizeOk (.seq ((items.toList.drop (sIx items.size 0 lo)).take (sIx items.size items.size hi - sIx items.size 0 lo)).toArray):=by
  show ((items.toList.drop (sIx items.size 0 lo)).take (sIx items.size items.size hi - sIx items.size 0 lo)).toArray.size<=sizeLine
  rw [O7,Pq,Q0,Uv]
  omega
 have hj:sIx items.size items.size hi<=items.size:=Zrq _ _ (O4 _) hi
 obtain ⟨os,hos,hcs,hds⟩:=id hs
 have hTs:s.TypeIs (.ref sl) "slice" := ⟨os,hos,hcs⟩
 unfold getItem
 try with_reducible refine P9 ?_
 first | refine O2 (O3 ?_) | skip
 refine O2 (wpAny_sequenceKey ht.typeIs (by decide) ?_)
 refine O2 (Qx (name:=Qc "__getitem__") ht.typeIs Sg
  (Q1 Sg ht.typeIs entry_tuple_getitem ?_ (args_tuple_getitem _ _)))
 show wpAny _ _ (Builtin.Tuple.tupleItemsOf (.ref t) >>= _) _ _ s
 refine O2 (tupleItemsOf_ ht ?_)
 refine O2 (Sv hTs ?_)
 rw [if_pos (by decide)]
 refine O2 (sliceApplied_gen hs pl pu ?_)
 have hno:¬ ((((sIx items.size 0 lo:Nat):Int) == 0 && (1:Int) == 1 && (sIx items.size items.size hi - sIx items.size 0 lo) == items.size)=true):=by
  intro q
  rw [Ro,Ro] at q
  have q1:((sIx items.size 0 lo:Nat):Int)=0:=eq_of_beq q.1.1
  have q2:sIx items.size items.size hi - sIx items.size 0 lo=items.size:=eq_of_beq q.2
  exact hw ⟨by omega,by omega⟩
 show wpAny _ _ (if (((sIx items.size 0 lo:Nat):Int) == 0 && (1:Int) == 1 && (sIx items.size items.size hi - sIx items.size 0 lo) == items.size)=true then _ else _) _ _ s
 rw [if_neg hno,Zml]
 first
  | exact O2 (m:=Ug _) (Rn (O3 ⟨_,rfl,O3 h⟩) htake)
  | exact O2 (m:=Ug _) (Rn (O2 (O3 (O3 ⟨_,rfl,O3 h⟩))) htake)
  | exact O2 (O2 (m:=Ug _) (Rn (O3 (O3 ⟨_,rfl,O3 h⟩)) htake))
  | exact O2 (O2 (m:=Ug _) (Rn (O3 ⟨_,rfl,O3 h⟩) htake))
end
end HT
namespace L2
open PySem PySem.Spec PyProof.Rows
noncomputable abbrev TO:=St->Hp->(Option Int->Hp->Prop)->Prop
noncomputable def PO (X:Cx)(e:Option Expr)(t:TO):Prop :=
 ∀(pins:List (Addr×Obj))(s:Shared)(σ:St)(H:Hp)(Q:Option Int->Hp->Prop),Inv X pins σ H s->t σ H Q ->
  wpAny (model X.prog X.w) X.A (evalPart e X.env) (fun u s'=>∃ o H',Inv X pins σ H' s'/\IsPart u o/\Q o H') X.xe s
noncomputable def Oz:TO:=fun _ H Q=>Q none H
noncomputable def Zab (t:TE):TO:=fun σ H Q=>t σ H fun x H1=>∃ i,x=.int i/\Q (some i) H1
section
variable {X:Cx}{e:Expr}{te:TE}{lo hi:Option Expr}{tl th:TO}{pos p2:Pos}
theorem Zkd:PO X none Oz:=by
 intro pins s σ H Q I h
 rw [evalPart_none]
 exact O3 ⟨none,H,I,.none,h⟩
theorem Zig (h:PE X e te):PO X (some e) (Zab te):=by
 intro pins s σ H Q I hw
 rw [evalPart_some]
 refine Aj (h pins s σ H _ I hw) fun u s1 zq=>?_
 obtain ⟨x,H1,I1,r1,q1⟩:=zq
 obtain ⟨i,rfl,q⟩:=q1
 obtain ⟨t,rfl⟩:=r1
 exact ⟨some i,H1,I1,.int i t,q⟩
noncomputable def SlR (X:Cx)(r:V->Option Int->Option Int->Hp->VK->Prop):Prop :=
 ∀(pins:List (Addr×Obj))(s:Shared)(σ:St)(H:Hp)(x:V)(v vl vu:Value)(lo hi:Option Int)(sl:Addr)(Q:VK),Inv X pins σ H s->RelV x v->s.heap.IsSliceOf sl vl vu .none->IsPart vl lo->IsPart vu hi->r x lo hi H Q ->
  ∃ T id,typeLookup (.type T) "__getitem__" = pure (some (.builtin id))/\s.TypeIs v T/\wpAny (model X.prog X.w) X.A (getItem v (.ref sl)) (EP X pins σ Q) X.xe s
theorem SlR.or {r r':V->Option Int->Option Int->Hp->VK->Prop}(h:SlR X r)(h':SlR X r'):SlR X (fun x lo hi H Q=>r x lo hi H Q\/r' x lo hi H Q):=by
 intro pins s σ H x v vl vu lo hi sl Q I rx hs pl pu q
 rcases q with q | q
 ·exact h pins s σ H x v vl vu lo hi sl Q I rx hs pl pu q
 ·exact h' pins s σ H x v vl vu lo hi sl Q I rx hs pl pu q
noncomputable def tSl (r:V->Option Int->Option Int->Hp->VK->Prop)(te:TE)(tl th:TO):TE:=fun σ H Q=>te σ H fun x H1=>tl σ H1 fun l H2=>th σ H2 fun u H3=>r x l u H3 Q
theorem Zny {r:V->Option Int->Option Int->Hp->VK->Prop}(hr:SlR X r)(he:PE X e te)(hl:PO X lo tl)(hu:PO X hi th):PE X (.Subscript e (.Slice lo hi none p2) pos) (tSl r te tl th):=by
 intro pins s σ H Q I h
 refine Subscript_ (Aj (he pins s σ H _ I h) fun v s1 zq=>?_)
 obtain ⟨x,H1,I1,r1,q1⟩:=zq
 refine wpAny_Slice (Aj (hl pins s1 σ H1 _ I1 q1) fun vl s2 zq=>?_)
 obtain ⟨l,H2,I2,pl,q2⟩:=zq
 refine Aj (hu pins s2 σ H2 _ I2 q2) fun vu s3 zq=>?_
 obtain ⟨u,H3,I3,pu,q3⟩:=zq
 rw [evalPart_none]
 refine O3 ?_
 have I4:Inv X pins σ H3 { s3 with heap:=s3.heap.push { cls:=.type "slice",data:=.fields #[vl,vu,.none] } }:=I3.kept (t':=s3.toks) fun b ob q=>O6 _ q
 obtain ⟨T,id,hT,ht,hg⟩:=hr pins { s3 with heap:=s3.heap.push { cls:=.type "slice",data:=.fields #[vl,vu,.none] } } σ H3 x v vl vu l u s3.heap.objs.size Q I4 r1 (Heap.IsSliceOf.new ..) pl pu q3
 show wpAny (model X.prog X.w) X.A (subscriptTail e (.Slice lo hi none p2) v (.ref s3.heap.objs.size)) (EP X pins σ Q) X.xe { s3 with heap:=s3.heap.push { cls:=.type "slice",data:=.fields #[vl,vu,.none] } }
 exact tail_any (ops:=[.ref s3.heap.objs.size,v]) ht hT hg (by with_unfolding_all rfl)
noncomputable def Bz (xs:List V)(lo hi:Option Int):List V:=(xs.drop (HT.sIx xs.length 0 lo)).take (HT.sIx xs.length xs.length hi - HT.sIx xs.length 0 lo)
theorem Ze9 (xs:List V)(lo hi:Option Int):(Bz xs lo hi).length<=xs.length:=by
 unfold Bz
 rw [Pq,Q0]
 omega
noncomputable def rSlT (K:O1):V->Option Int->Option Int->Hp->VK->Prop:=fun x lo hi H Q=>∃ a xs,x=.ref a/\SqT K H a xs /\
 ¬ (HT.sIx xs.length 0 lo=0/\HT.sIx xs.length xs.length hi=xs.length)/\∀ p,H p=none->Q (.ref p) (upd H p (.tup (Bz xs lo hi)))
theorem Zdj:SlR X (rSlT X.K):=by
 intro pins s σ H x v vl vu lo hi sl Q I rx hs pl pu h
 obtain ⟨a,xs,rfl,hx,hw,q⟩:=h
 cases rx
 obtain ⟨its,r,ht,hz⟩:=I.tuple hx
 have hlen:its.toArray.size=xs.length:=by rw [O7];exact r.length.symm
 refine ⟨"tuple",_,Sg.lookup,ht.typeIs,?_⟩
 refine HT.getItem_tuple_cut ht hs pl pu (by rw [hlen];exact hw) ?_ (by rw [hlen];exact hz)
 rw [hlen]
 refine ⟨.ref s.heap.objs.size,_,I.laid (t':=s.toks) (o:=.tup (Bz xs lo hi)) (fun b ob q=>O6 _ q) (O4 _) ?_,rfl,q _ (I.hok.fresh (O4 _))⟩
 exact ⟨Px (Ze9 xs lo hi) hz,_,(r.drop (HT.sIx xs.length 0 lo)).take (HT.sIx xs.length xs.length hi - HT.sIx xs.length 0 lo),IsTup.new _ _⟩
noncomputable def Zoi (K:O1):R2:=fun x y H Q=>∃ a b xs ys,x=.ref a/\y=.ref b/\SqT K H a xs/\SqT K H b ys/\xs≠[]/\xs.length+ys.length<=sizeLine /\
 (ys=[]->Q (.ref a) H)/\(ys≠[]->∀ p,H p=none->Q (.ref p) (upd H p (.tup (xs++ys))))
theorem Vals.nil_iff {xs:List V}{us:List Value}(r:Vals xs us):us=[]↔xs=[]:=by
 cases r with
 | nil=>simp
 | cons _ _=>simp
theorem Zeq:OpR X (binaryOp .Add) (Zoi X.K):=by
 intro pins s σ H x y v u Q I rx ry h
 obtain ⟨a,b,xs,ys,rfl,rfl,ha,hb,hx,hz,q1,q2⟩:=h
 cases rx
 cases ry
 obtain ⟨its,r1,p1,_⟩:=I.tuple ha
 obtain ⟨its2,r2,p2,_⟩:=I.tuple hb
 refine HT.cat_tup p1 p2 (fun z=>hx (r1.nil_iff.mp z)) (fun z=>⟨.ref a,H,I,rfl,q1 (r2.nil_iff.mp z)⟩) (fun z=>?_) (by rw [<- r1.length,<- r2.length];exact hz)
 refine ⟨.ref s.heap.objs.size,_,I.laid (t':=s.toks) (o:=.tup (xs++ys)) (fun b ob q=>O6 _ q) (O4 _) ?_,rfl,q2 (fun w=>z (r2.nil_iff.mpr w)) _ (I.hok.fresh (O4 _))⟩
 exact ⟨by rw [O9];exact hz,_,r1.append r2,IsTup.new _ _⟩
end
noncomputable def Fu (n:Nat)(i:Int):Option Nat:=if 0<=i then (if i < n then some i.toNat else none) else if -(n:Int)<=i then some (i+n).toNat else none
noncomputable def B2 {α:Type}(xs:List α)(i:Int):Option α:=(Fu xs.length i).bind fun j=>xs[j]?
theorem Zli {n:Nat}{i:Int}{j:Nat}(h:Fu n i=some j):seqIndex? i n=some j/\j < n/\-(n:Int)<=i/\i < n:=by
 unfold Fu at h
 by_cases h0:0<=i
 ·rw [if_pos h0] at h
  by_cases h1:i < n
  ·rw [if_pos h1] at h
   have e:i.toNat=j:=P6 h
   exact ⟨by rw [seqIndex_of h0 h1,e],by omega,by omega,h1⟩
  ·rw [if_neg h1] at h;cases h
 ·rw [if_neg h0] at h
  by_cases h1:-(n:Int)<=i
  ·rw [if_pos h1] at h
   have e:(i+n).toNat=j:=P6 h
   exact ⟨by rw [seqIndex_neg (by omega) h1,e],by omega,h1,by omega⟩
  ·rw [if_neg h1] at h;cases h
theorem Ov {α:Type}{xs:List α}{i:Int}{v:α}(h:B2 xs i=some v):∃ j,seqIndex? i xs.length=some j/\xs[j]?=some v/\j < xs.length/\-(xs.length:Int)<=i/\i < xs.length:=by
 unfold B2 at h
 cases e:Fu xs.length i with
 | none=>rw [e] at h;cases h
 | some j =>
  rw [e] at h
  obtain ⟨h1,h2,h3,h4⟩:=Zli e
  exact ⟨j,h1,h,h2,h3,h4⟩
theorem Ci {α:Type}{xs:List α}{j:Nat}{v:α}(h:xs[j]?=some v):B2 xs (j:Int)=some v:=by
 have hj:j < xs.length:=(Ph.mp h).1
 have e:Fu xs.length (j:Int)=some j:=by
  unfold Fu
  rw [if_pos (by omega),if_pos (by omega)];simp
 unfold B2;rw [e];exact h
noncomputable def Zag (b:Expr):Prop:=∀ o i,subscripted b false o i=operate [o,i] (getItem o i)
noncomputable def IxR (X:Cx)(r:R2):Prop :=
 ∀(value slice:Expr)(pins:List (Addr×Obj))(s:Shared)(σ:St)(H:Hp)(x y:V)(v u:Value)(Q:VK),Inv X pins σ H s->RelV x v->RelV y u->r x y H Q ->
  subscripted slice false v u=operate [v,u] (getItem v u)->wpAny (model X.prog X.w) X.A (subscriptTail value slice v u) (EP X pins σ Q) X.xe s
noncomputable def Ja (X:Cx)(id:String)(r:V->List V->Hp->VK->Prop):Prop :=
 ∀(pins:List (Addr×Obj))(s:Shared)(σ:St)(H:Hp)(x:V)(xs:List V)(v:Value)(us:List Value)(Q:VK),Inv X pins σ H s->RelV x v->Vals xs us->r x xs H Q ->
  wpAny (model X.prog X.w) X.A (call (.builtin id) (v::us)) (EP X pins σ Q) X.xe s
section
variable {X:Cx}{a b:Expr}{ta tb:TE}{pos:Pos}
theorem IxR.or {r r':R2}(h:IxR X r)(h':IxR X r'):IxR X (fun x y H Q=>r x y H Q\/r' x y H Q):=by
 intro value slice pins s σ H x y v u Q I rx ry q hs
 rcases q with q | q
 ·exact h value slice pins s σ H x y v u Q I rx ry q hs
 ·exact h' value slice pins s σ H x y v u Q I rx ry q hs
theorem Zih {r:R2}(hr:IxR X r)(ha:PE X a ta)(hb:PE X b tb)(hs:Zag b):PE X (.Subscript a b pos) (Ey r ta tb):=by
 intro pins s σ H Q I h
 exact Subscript_ (Zat ha hb I h fun v u s2 x y H2 I2 rx ry q=>hr a b pins s2 σ H2 x y v u Q I2 rx ry q (hs _ _))
noncomputable def rIxL (K:O1):R2:=fun x y H Q=>∃ p xs i v,x=.ref p/\y=.int i/\SqL K H p xs/\B2 xs i=some v/\Q v H
noncomputable def rIxT (K:O1):R2:=fun x y H Q=>∃ p xs i v,x=.ref p/\y=.int i/\SqT K H p xs/\B2 xs i=some v/\Q v H
noncomputable def rIxS:R2:=fun x y H Q=>∃ z i c,x=.str z/\y=.int i/\z.length<=sizeLine/\B2 z.cps.toList i=some c/\Q (.str ⟨#[c]⟩) H
theorem ix_list:IxR X (rIxL X.K):=by
 intro value slice pins s σ H x y v u Q I rx ry h hs
 obtain ⟨p,xs,i,z,rfl,rfl,hq,he,q⟩:=h
 cases rx
 obtain ⟨t,rfl⟩:=ry
 obtain ⟨its,r,pl,hz⟩:=I.list hq
 obtain ⟨j,h1,h2,h3,h4,h5⟩:=Ov he
 obtain ⟨w,ew,rw'⟩:=r.get h2
 have hl:=r.length
 have hn:=K6
 have fin:EP X pins σ Q w s:=⟨z,H,I,rw',q⟩
 by_cases h0:0<=i
 ·have hj:i.toNat=j:=by
   rw [seqIndex_of h0 h5] at h1
   exact P6 h1
  exact item_listR pl.isList h0 (by omega) (by rw [hj];simpa using ew) fin hs
 ·have hj:(i+(its.toArray.size:Int)).toNat=j:=by
   rw [seqIndex_neg (by omega) h4] at h1
   rw [O7,<- hl]
   exact P6 h1
  exact subscriptTail_builtinR (x:=w) pl.isList.typeIs Wb.lookup
   (wpAny_getItem_list_neg (Q:=fun r s'=>r=w/\EP X pins σ Q r s') pl.isList (by omega) (by rw [O7] <;> omega) (by omega) (by rw [hj];simpa using ew) ⟨rfl,fin⟩) hs
theorem ix_tup:IxR X (rIxT X.K):=by
 intro value slice pins s σ H x y v u Q I rx ry h hs
 obtain ⟨p,xs,i,z,rfl,rfl,hq,he,q⟩:=h
 cases rx
 obtain ⟨t,rfl⟩:=ry
 obtain ⟨its,r,pl,hz⟩:=I.tuple hq
 obtain ⟨j,h1,h2,h3,h4,h5⟩:=Ov he
 obtain ⟨w,ew,rw'⟩:=r.get h2
 have hl:=r.length
 have hn:=K6
 have fin:EP X pins σ Q w s:=⟨z,H,I,rw',q⟩
 exact subscriptTail_builtinR (x:=w) pl.typeIs slot_tuple_getitem.lookup
  (getItem_tuple (j:=j) (Q:=fun r s'=>r=w/\EP X pins σ Q r s') pl (by omega) (by omega) (by rw [O7,<- hl];exact h1) (by simpa using ew) ⟨rfl,fin⟩) hs
theorem Zjj:IxR X rIxS:=by
 intro value slice pins s σ H x y v u Q I rx ry h hs
 obtain ⟨z,i,c,rfl,rfl,hz,he,q⟩:=h
 obtain ⟨t,rfl⟩:=rx
 obtain ⟨t',rfl⟩:=ry
 obtain ⟨j,h1,h2,h3,h4,h5⟩:=Ov he
 have hl:z.cps.toList.length=z.length:=by simp [Str.length]
 rw [hl] at h1 h4 h5
 have hn:=K6
 exact tail_any (typeIs_str s z t) slot_str_getitem.lookup (getItem_str (c:=c) (by
  have e1:decide (i < -(2 ^ 63:Int))=false:=decide_eq_false (by omega)
  have e2:decide (i ≥ 2 ^ 63)=false:=decide_eq_false (by omega)
  rw [e1,e2,Bool.or_false]) (by rw [h1];simpa using h2) ⟨.str ⟨#[c]⟩,H,I.tok _,⟨_,rfl⟩,q⟩) hs
noncomputable def Ih (K:O1):R2:=fun x y H Q=>rIxL K x y H Q\/rIxT K x y H Q\/rIxS x y H Q
theorem Ziz:IxR X (Ih X.K):=ix_list.or (ix_tup.or Zjj)
theorem Zsj (lo hi:Option Int)(n:Nat):(sliceBounds lo hi none n).1=((HT.sIx n 0 lo:Nat):Int)/\(sliceBounds lo hi none n).2.1=((HT.sIx n n hi:Nat):Int)/\(sliceBounds lo hi none n).2.2=1:=by
 refine ⟨?_,?_,rfl⟩
 ·cases lo with
  | none=>simp [sliceBounds,HT.sIx]
  | some i =>
   simp only [sliceBounds,HT.sIx,Option.getD_none,show (1:Int) > 0 by decide,if_true]
   by_cases h:i < 0
   ·simp only [h,if_true] <;> omega
   ·simp only [h,if_false] <;> omega
 ·cases hi with
  | none=>simp [sliceBounds,HT.sIx]
  | some i =>
   simp only [sliceBounds,HT.sIx,Option.getD_none,show (1:Int) > 0 by decide,if_true]
   by_cases h:i < 0
   ·simp only [h,if_true] <;> omega
   ·simp only [h,if_false] <;> omega
theorem Zq8 (its:List Value)(lo hi:Option Int):slicePick its.toArray lo hi none=((its.drop (HT.sIx its.length 0 lo)).take (HT.sIx its.length its.length hi - HT.sIx its.length 0 lo)).toArray:=by
 obtain ⟨h1,h2,h3⟩:=Zsj lo hi its.toArray.size
 unfold slicePick
 rw [h1,h2,h3]
 simp only [sliceRange_one,pick_run,O7] <;> rfl
noncomputable def Zbx (K:O1):V->Option Int->Option Int->Hp->VK->Prop:=fun x lo hi H Q=>∃ a xs,x=.ref a/\SqL K H a xs/\∀ p,H p=none->Q (.ref p) (upd H p (.lst (Bz xs lo hi)))
theorem sl_list:SlR X (Zbx X.K):=by
 intro pins s σ H x v vl vu lo hi sl Q I rx hs pl pu h
 obtain ⟨a,xs,rfl,hx,q⟩:=h
 cases rx
 obtain ⟨its,r,ht,hz⟩:=I.list hx
 have hlen:=r.length
 refine ⟨"list",_,Wb.lookup,ht.isList.typeIs,?_⟩
 refine wpAny_getItem_list_slice ht.isList hs pl pu .none (by simp) ?_ (by rw [O7] <;> omega)
 rw [Zq8,<- hlen]
 refine ⟨.ref s.heap.objs.size,_,I.laid (t':=s.toks) (o:=.lst (Bz xs lo hi)) (fun b ob q=>O6 _ q) (O4 _) ?_,rfl,q _ (I.hok.fresh (O4 _))⟩
 exact ⟨Px (Ze9 xs lo hi) hz,_,0,(r.drop (HT.sIx xs.length 0 lo)).take (HT.sIx xs.length xs.length hi - HT.sIx xs.length 0 lo),Pe _ rfl⟩
noncomputable def B3:V->Bool
 | .non=>true
 | .bl _=>true
 | .int _=>true
 | .str _=>true
 | _=>false
noncomputable def Dz:V->V->Bool
 | .non,.non=>true
 | .bl a,.bl b=>a == b
 | .bl a,.int b=>(if a then 1 else 0) == b
 | .int a,.bl b=>a == (if b then 1 else 0)
 | .int a,.int b=>a == b
 | .str a,.str b=>a == b
 | _,_=>false
theorem Oe {A:Around}{s:Shared}{y x:V}{u v:Value}(ry:RelV y u)(rx:RelV x v)(fy:B3 y=true)(fx:B3 x=true):Po A s u v (Dz y x):=by
 cases y with
 | non =>
  cases ry
  cases x with
  | non=>cases rx;exact Wm _
  | bl b=>cases rx;exact Po.none_bool b
  | int b=>obtain ⟨t,rfl⟩:=rx;exact Po.none_int b t
  | str b=>obtain ⟨t,rfl⟩:=rx;exact Po.none_str b t
  | _=>exact absurd (show false=true from fx) Pd
 | bl a =>
  cases ry
  cases x with
  | non=>cases rx;exact Po.bool_none a
  | bl b=>cases rx;exact Po.bool_bool a b
  | int b=>obtain ⟨t,rfl⟩:=rx;exact Po.bool_int a b t
  | str b=>obtain ⟨t,rfl⟩:=rx;exact Po.bool_str a b t
  | _=>exact absurd (show false=true from fx) Pd
 | int a =>
  obtain ⟨t',rfl⟩:=ry
  cases x with
  | non=>cases rx;exact Po.int_none a t'
  | bl b=>cases rx;exact Po.int_bool a t' b
  | int b=>obtain ⟨t,rfl⟩:=rx;exact Po.int_int a t' b t
  | str b=>obtain ⟨t,rfl⟩:=rx;exact Po.int_str a t' b t
  | _=>exact absurd (show false=true from fx) Pd
 | str a =>
  obtain ⟨t',rfl⟩:=ry
  cases x with
  | non=>cases rx;exact Po.str_none a t'
  | bl b=>cases rx;exact Po.str_bool a t' b
  | int b=>obtain ⟨t,rfl⟩:=rx;exact Po.str_int a t' b t
  | str b=>obtain ⟨t,rfl⟩:=rx;exact Po.str_str a t' b t
  | _=>exact absurd (show false=true from fx) Pd
 | _=>exact absurd (show false=true from fy) Pd
noncomputable def E5 (x:V)(u:Value):Bool:=match u with
 | .none=>Dz .non x
 | .bool b=>Dz (.bl b) x
 | .int i _=>Dz (.int i) x
 | .str z _=>Dz (.str z) x
 | _=>false
theorem Zfi {x y:V}{u:Value}(r:RelV y u)(f:B3 y=true):E5 x u=Dz y x:=by
 cases y with
 | non=>cases r;rfl
 | bl b=>cases r;rfl
 | int i=>obtain ⟨t,rfl⟩:=r;rfl
 | str z=>obtain ⟨t,rfl⟩:=r;rfl
 | _=>exact absurd (show false=true from f) Pd
theorem Ox {x:V}:∀{xs:List V}{us:List Value},Vals xs us->xs.all B3=true->us.any (E5 x)=xs.any fun y=>Dz y x
 | _,_,.nil,_=>rfl
 | y::xs,u::us,.cons r t,f=>by
  rw [Q2,Ro] at f
  rw [Tx,Tx,Zfi r f.1,Ox t f.2]
theorem Zbs {A:Around}{s:Shared}{x:V}{v:Value}(rx:RelV x v)(fx:B3 x=true):∀{xs:List V}{us:List Value},Vals xs us->xs.all B3=true->∀ u∈us,Po A s u v (E5 x u)
 | _,_,.nil,_=>fun u hu=>by cases hu
 | y::xs,u::us,.cons r t,f=>fun u' hu=>by
  rw [Q2,Ro] at f
  rcases Pb.mp hu with rfl | hu
  ·rw [Zfi r f.1];exact Oe r rx f.1 fx
  ·exact Zbs rx fx t f.2 u' hu
noncomputable def Ed (x:V)(xs:List V):Bool:=xs.any fun y=>Dz y x
noncomputable def rIn (K:O1)(neg:Bool):R2:=fun x y H Q=>∃ p xs,y=.ref p/\(SqL K H p xs\/SqT K H p xs)/\B3 x=true/\xs.all B3=true/\Q (.bl (if neg then !Ed x xs else Ed x xs)) H
theorem op_in_seq:OpR X (compareOp .In) (rIn X.K false):=by
 intro pins s σ H x y v u Q I rx ry h
 obtain ⟨p,xs,rfl,hq,fx,fs,q⟩:=h
 cases ry
 rcases hq with hq | hq
 ·obtain ⟨its,r,pl,hz⟩:=I.list hq
  refine SeqAt.in_listAt (E5 x) pl.isList (fun w hw=>Zbs rx fx r fs w (by simpa using hw)) ⟨.bl _,H,I,rfl,?_⟩
  rw [show its.toArray.any (E5 x)=its.any (E5 x) by simp,Ox r fs]
  exact q
 ·obtain ⟨its,r,pl,hz⟩:=I.tuple hq
  refine SeqAt.in_tupleAt (E5 x) pl (fun w hw=>Zbs rx fx r fs w (by simpa using hw)) ⟨.bl _,H,I,rfl,?_⟩
  rw [show its.toArray.any (E5 x)=its.any (E5 x) by simp,Ox r fs]
  exact q
theorem Zos:Cb X (.type "list") (fun xs H Q=>∃ p ys,xs=[.ref p]/\(SqL X.K H p ys\/SqT X.K H p ys)/\∀ l,H l=none->Q (.ref l) (upd H l (.lst ys))):=by
 intro pins s σ H xs us Q I r h
 obtain ⟨p,ys,rfl,hq,q⟩:=h
 obtain ⟨u,rfl,rx⟩:=Ij r
 cases rx
 have fin:∀(its:List Value),Vals ys its->ys.length<=sizeLine->∀(h':Heap)(c':Nat),(∀ b o',s.heap.get? b=some o'->h'.get? b=some o') ->
   h'.get? s.heap.objs.size=some { cls:=.type "list",dict:=none,data:=.seq its.toArray c',slots:=#[] }->EP X pins σ Q (.ref s.heap.objs.size) { s with heap:=h' }:=fun its r' hz h' c' kp e =>
  ⟨.ref s.heap.objs.size,_,I.laid (t':=s.toks) kp (O4 _) (show ObjOk X.prog X.w _ h' _ (.lst ys) from ⟨hz,its,c',r',e⟩),rfl,q _ (I.hok.fresh (O4 _))⟩
 rcases hq with hq | hq
 ·obtain ⟨its,r',pl,hz⟩:=I.list hq
  have hlen:=r'.length
  obtain ⟨o,ho,hc,n,hd⟩:=pl.isList
  exact call_list_seq p (.inl rfl) ho hc hd (fun h' c' kp e=>fin its r' hz h' c' kp e) (by simp only [O7] <;> omega)
 ·obtain ⟨its,r',pl,hz⟩:=I.tuple hq
  have hlen:=r'.length
  obtain ⟨o,ho,hc,n,hd⟩:=pl
  exact call_list_seq p (.inr rfl) ho hc hd (fun h' c' kp e=>fin its r' hz h' c' kp e) (by simp only [O7] <;> omega)
noncomputable def Ic (K:O1)(T:String)(x:V)(H:Hp):Prop:=match x with
 | .str _=>T = "str"
 | .int _=>T = "int"
 | .ref p=>(T = "list" /\ ∃ xs,SqL K H p xs)\/(T = "tuple" /\ ∃ o,K.lookup p=some o/\o.cls=.type "tuple" /\ o.dict=none) \/
   (T = "dict" /\ ((∃ kvs,H p=some (.dK kvs))\/∃ kvs,H p=some (.dT kvs)))\/(T = "set" /\ ∃ S n,H p=some (.set S n))
 | _=>False
theorem Zeo {pins:List (Addr×Obj)}{σ:St}{H:Hp}{s:Shared}{T:String}{x:V}{v:Value}(I:Inv X pins σ H s)(r:RelV x v)(ty:Ic X.K T x H) :
  s.TypeIs v T/\∀ a,v=.ref a->∃ ob,s.heap.get? a=some ob/\ob.dict=none:=by
 cases x with
 | str z =>
  obtain ⟨t,rfl⟩:=r
  cases (show T = "str" from ty)
  exact ⟨typeIs_str s z t,fun _ e=>nomatch e⟩
 | int i =>
  obtain ⟨t,rfl⟩:=r
  cases (show T = "int" from ty)
  exact ⟨T3 s i t,fun _ e=>nomatch e⟩
 | ref p =>
  cases r
  rcases ty with ⟨rfl,xs,hq⟩ | ⟨rfl,o,hk,hc,hd⟩ | ⟨rfl,hk⟩ | ⟨rfl,S,n,hk⟩
  ·obtain ⟨its,_,pl,_⟩:=I.list hq
   refine ⟨pl.isList.typeIs,fun a e=>?_⟩
   cases e
   obtain ⟨o,n,e,c,hd,_⟩:=pl
   exact ⟨o,e,hd⟩
  ·refine ⟨⟨o,I.kIn p o hk,hc⟩,fun a e=>?_⟩
   cases e
   exact ⟨o,I.kIn _ o hk,hd⟩
  ·have z:∃ o,s.heap.get? p=some o/\o.ExactDict:=by
    rcases hk with ⟨kvs,hk⟩ | ⟨kvs,hk⟩
    ·obtain ⟨_,_,_,_,o,_,_,e,ex,_⟩:=I.hok p _ hk
     exact ⟨o,e,ex⟩
    ·obtain ⟨_,_,_,_,o,_,_,e,ex,_⟩:=I.hok p _ hk
     exact ⟨o,e,ex⟩
   obtain ⟨o,e,ex⟩:=z
   refine ⟨⟨o,e,ex.1⟩,fun a e2=>?_⟩
   cases e2
   exact ⟨o,e,ex.2.1⟩
  ·obtain ⟨o,_,_,_,e,ex,_⟩:=I.hok p _ hk
   refine ⟨⟨o,e,ex.1⟩,fun a e2=>?_⟩
   cases e2
   exact ⟨o,e,ex.2.1⟩
 | _=>exact Pt ty
noncomputable def Mr (K:O1)(T:String)(r:V->List V->Hp->VK->Prop)(to:TE):TE:=fun σ H Q=>to σ H fun x H1=>Ic K T x H1/\r x [] H1 Q
noncomputable def tBM (K:O1)(T:String)(r:V->List V->Hp->VK->Prop)(to:TE)(t:TA):TE:=fun σ H Q=>to σ H fun x H1=>Ic K T x H1/\t σ H1 fun xs H2=>r x xs H2 Q
variable {o e:Expr}{es:List Expr}{to:TE}{t:TA}{name:Str}{apos cpos:Pos}{T id:String}{r:V->List V->Hp->VK->Prop}
theorem Zh2 (pa:PlainAttrs T)(slot:Slot T name id)(hty:typeOf (.builtin id)=pure (.type "method_descriptor"))(hm:Ja X id r)(ho:PE X o to)
  (hbase:attributeBase o name X.env (eval o X.env)=eval o X.env:=by rfl) (hline:(apos.endLine == cpos.line)=true:=by rfl):PE X (.Call (.Attribute o name apos) [] [] cpos) (Mr X.K T r to):=by
 intro pins s σ H Q I h
 refine wpAny_Call_method0_late hbase hline (Aj (ho pins s σ H _ I h) fun v s1 zq=>?_)
 obtain ⟨x,H1,I1,r1,ty,q1⟩:=zq
 obtain ⟨h1,h2⟩:=Zeo I1 r1 ty
 exact ⟨T,id,pa,slot,hty,h1,h2,Calls.callWith_builtin rfl (PySem.evalArgs_none (hm pins s1 σ H1 x [] v [] Q I1 r1 .nil q1))⟩
theorem Zo4 (pa:PlainAttrs T)(slot:Slot T name id)(hty:typeOf (.builtin id)=pure (.type "method_descriptor"))(hm:Ja X id r)(ho:PE X o to)(ha:PA X (e::es) t)
  (hbase:attributeBase o name X.env (eval o X.env)=eval o X.env:=by rfl)
  (hfew:((backTo cpos (starEach (e::es) X.env)).all (fun x=>!x.1) && (backToKw cpos (keywordEach [] X.env)).all (fun x=>x.1.isSome)
   && decide ((e::es).length+([]:List Keyword).length+(if ([]:List Keyword).isEmpty then 0 else 1) < 30))=true:=by rfl)
  (hline:(apos.endLine == cpos.line)=true:=by rfl) (hs:starEach (e::es) X.env=(false,eval e X.env)::starEach es X.env:=by rfl) (hplain:(backTo cpos (starEach es X.env)).any (·.1)=false:=by rfl) :
  PE X (.Call (.Attribute o name apos) (e::es) [] cpos) (tBM X.K T r to t):=by
 intro pins s σ H Q I h
 refine wpAny_Call_method_late hbase hfew hline rfl (Aj (ho pins s σ H _ I h) fun v s1 zq=>?_)
 obtain ⟨x,H1,I1,r1,ty,q1⟩:=zq
 obtain ⟨h1,h2⟩:=Zeo I1 r1 ty
 refine ⟨T,id,pa,slot,hty,h1,h2,?_⟩
 have hA:=ha cpos pins s1 σ H1 _ I1 q1
 rw [hs] at hA ⊢
 refine Calls.callWith_builtin (by show (false || (backTo cpos (starEach es X.env)).any (·.1))=false;rw [hplain] <;> rfl) (Calls.evalArgs_plain ?_)
 exact Aj hA fun us s2 ⟨vs,H2,I2,r2,q2⟩=>hm pins s2 σ H2 x vs v us Q I2 r1 r2 q2
end
noncomputable def MtM (X:Cx)(id:String)(r:V->List V->Hp->VK->Prop):Prop :=
 ∀(pins:List (Addr×Obj))(s:Shared)(σ:St)(H:Hp)(x:V)(xs:List V)(v:Value)(us:List Value)(Q:VK),Inv X pins σ H s->RelV x v->Vals xs us->r x xs H Q ->
  wpAny (model X.prog X.w) X.A (call (.builtin id) (v::us)) (EP X pins σ Q) X.xe s
theorem Vals.one:∀{x:V}{us:List Value},Vals [x] us->∃ u,us=[u]/\RelV x u
 := fun h=>by
 cases h with
 | cons r t =>
 cases t
 exact ⟨_,rfl,r⟩
theorem Vals.two:∀{x y:V}{us:List Value},Vals [x,y] us->∃ u v,us=[u,v]/\RelV x u/\RelV y v
 := fun h=>by
 cases h with
 | cons r t =>
 cases t with
 | cons q z =>
 cases z
 exact ⟨_,_,rfl,r,q⟩
theorem Vals.zero:∀{us:List Value},Vals [] us->us=[]
 | _,.nil=>rfl
theorem Vals.dropLast {xs:List V}{us:List Value}(h:Vals xs us):Vals xs.dropLast us.dropLast:=by
 induction h with
 | nil=>exact .nil
 | cons r t ih =>
  cases t with
  | nil=>exact .nil
  | cons q t'=>exact .cons r ih
theorem Vals.reverse {xs:List V}{us:List Value}(h:Vals xs us):Vals xs.reverse us.reverse:=by
 induction h with
 | nil=>exact .nil
 | cons r t ih=>rw [Tj,Tj];exact Vals.append ih (.cons r .nil)
theorem Vals.rep {xs:List V}{us:List Value}(h:Vals xs us):∀ k:Nat,Vals (Pn k xs).flatten (Pn k us).flatten
 | 0=>.nil
 | k+1=>by
  rw [Tg,Tg,U1,U1]
  exact Vals.append h (Vals.rep h k)
theorem Znw {α:Type}(l:List α):l.eraseIdx (l.length - 1)=l.dropLast:=by
 induction l with
 | nil=>rfl
 | cons a r ih =>
  cases r with
  | nil=>rfl
  | cons b r =>
   have e:(a::b::r).length - 1=((b::r).length - 1)+1:=by
    have h1:(a::b::r).length=r.length+2:=rfl
    have h2:(b::r).length=r.length+1:=rfl
    omega
   rw [e,List.eraseIdx_cons_succ,ih]
   all_goals rfl
theorem Zbn (its:List Value):∀(k:Nat)(acc:List Value),
  T4 (fun x1 x2=>x1++x2) acc.toArray (Pn k its.toArray)=(acc++(Pn k its).flatten).toArray
 | 0,acc=>by simp
 | k+1,acc=>by
  have e:acc.toArray++its.toArray=(acc++its).toArray:=by simp
  have e2:(acc++its)++(Pn k its).flatten=acc++(Pn (k+1) its).flatten:=by
   rw [Tg,U1,Q9]
  rw [<- e2,<- Zbn its k (acc++its),<- e,Tg,List.foldl_cons]
section
variable {X:Cx}{pins:List (Addr×Obj)}{σ:St}{H:Hp}{s:Shared}{l b:Addr}{xs ys zs:List V}
theorem Inv.lset {its its':List Value}{n:Nat}{f:Array Value->Array Value}{t':Nat}(I:Inv X pins σ H s)(hH:H l=some (.lst xs))
  (e:s.heap.get? l=some { cls:=.type "list",data:=.seq its.toArray n }) (hf:f its.toArray=its'.toArray) (hv:Vals ys its') (hz:ys.length<=sizeLine) :
  Inv X pins σ (upd H l (.lst ys)) { s with heap:=s.heap.update l (Qq f),toks:=t' }:=by
 have q:=PySem.IsL.update e f
 rw [hf] at q
 refine I.write (x:=l) (e:=l) (by rw [hH];exact trivial) (.inl rfl) (fun b' u hb hu=>(Qh s.heap (Qq f) (Pc hb)).trans hu) ⟨_,q⟩ ?_
 exact ⟨hz,its',_,hv,q⟩
theorem Inv.lnew {its:List Value}{t':Nat}(I:Inv X pins σ H s)(hv:Vals ys its)(hz:ys.length<=sizeLine) :
  Inv X pins σ (upd H s.heap.objs.size (.lst ys)) { s with heap:=s.heap.push { cls:=.type "list",data:=.seq its.toArray },toks:=t' } :=
 I.laid (fun _ _ q=>O6 _ q) (O4 _) ⟨hz,its,0,hv,Pe _ rfl⟩
theorem Inv.fresh (I:Inv X pins σ H s):H s.heap.objs.size=none:=I.hok.fresh (O4 _)
theorem Inv.lstM (I:Inv X pins σ H s)(hH:H l=some (.lst xs)):xs.length<=sizeLine/\∃(its:List Value)(n:Nat),Vals xs its/\xs.length=its.length/\s.heap.get? l=some { cls:=.type "list",data:=.seq its.toArray n }:=by
 obtain ⟨z,its,n,r,e⟩:=I.hok l _ hH
 exact ⟨z,its,n,r,r.length,e⟩
theorem Zd8 {n:Nat}(h:n<=sizeLine):Uh n=false:=by
 unfold Uh
 exact decide_eq_false (by omega)
end
section
variable {X:Cx}
noncomputable def Zc7:V->List V->Hp->VK->Prop:=fun x vs H Q=>∃ l xs y,x=.ref l/\vs=[y]/\H l=some (.lst xs)/\xs.length < sizeLine/\Q .non (upd H l (.lst (xs++[y])))
theorem Ck:MtM X "list.append" Zc7:=by
 intro pins s σ H x vs v us Q I rx rv h
 obtain ⟨l,xs,y,rfl,rfl,hH,hz,q⟩:=h
 cases rx
 obtain ⟨u,rfl,ru⟩:=rv.one
 obtain ⟨z,its,n,r,hl,e⟩:=I.lstM hH
 refine Q3 F.slot_list_append ⟨_,e,rfl⟩ F.entry_list_append (F.args_list_append_2 _ _) (PySem.list_append l its.toArray n u (by rw [O7];omega)) ⟨e,?_⟩
 refine ⟨.non,_,I.lset (its':=its++[u]) hH e (by simp) (r.append (.cons ru .nil)) ?_,rfl,q⟩
 rw [O9,Pz]
 omega
noncomputable def Zmm:V->List V->Hp->VK->Prop:=fun x vs H Q=>∃ l b xs zs,x=.ref l/\vs=[.ref b]/\H l=some (.lst xs)/\H b=some (.lst zs)/\xs.length+zs.length<=sizeLine/\Q .non (upd H l (.lst (xs++zs)))
theorem Ny:MtM X "list.extend" Zmm:=by
 intro pins s σ H x vs v us Q I rx rv h
 obtain ⟨l,b,xs,zs,rfl,rfl,hH,hB,hz,q⟩:=h
 cases rx
 obtain ⟨u,rfl,ru⟩:=rv.one
 cases ru
 obtain ⟨z,its,n,r,hl,e⟩:=I.lstM hH
 obtain ⟨z2,its2,n2,r2,hl2,e2⟩:=I.lstM hB
 have hsz:its.toArray.size+its2.toArray.size<=sizeLine:=by rw [O7,O7];omega
 have hlong:¬ (!its.toArray.isEmpty && Uh (its.toArray.size+its2.toArray.size))=true:=by
  rw [Zd8 hsz,Bool.and_false]
  exact Pd
 refine Q3 F.slot_list_extend ⟨_,e,rfl⟩ F.entry_list_extend (F.args_list_extend_2 _ _)
  (AutoSeq1.list_extend_list_list_0 l its.toArray n b its2.toArray n2 hlong (by rw [O7];omega) (by omega)) ⟨e,e2,?_⟩
 refine ⟨.non,_,I.lset (its':=its++its2) hH e (by simp) (r.append r2) ?_,rfl,q⟩
 rw [O9]
 omega
noncomputable def rPop:V->List V->Hp->VK->Prop:=fun x vs H Q=>∃ l xs y,x=.ref l/\vs=[]/\H l=some (.lst xs)/\xs[xs.length - 1]?=some y/\Q y (upd H l (.lst xs.dropLast))
theorem Lx:MtM X "list.pop" rPop:=by
 intro pins s σ H x vs v us Q I rx rv h
 obtain ⟨l,xs,y,rfl,rfl,hH,hy,q⟩:=h
 cases rx
 have hus:=rv.zero
 subst hus
 obtain ⟨z,its,n,r,hl,e⟩:=I.lstM hH
 obtain ⟨u,hu,ru⟩:=r.get hy
 have hy':its.toArray[its.toArray.size - 1]?=some u:=by
  show its.toArray[its.length - 1]?=some u
  rw [<- Array.getElem?_toList,<- hl]
  exact hu
 refine Q3 F.slot_list_pop ⟨_,e,rfl⟩ F.entry_list_pop (F.args_list_pop_1 _) (MeetsSeq.list_pop_last l its.toArray n u hy' (by rw [O7];omega)) ⟨e,?_⟩
 refine ⟨y,_,I.lset (its':=its.dropLast) hH e ?_ r.dropLast ?_,ru,q⟩
 ·show its.toArray.eraseIdxIfInBounds (its.toArray.size - 1)=its.dropLast.toArray
  rw [O7,List.eraseIdxIfInBounds_toArray,Znw]
 ·rw [List.length_dropLast]
  omega
noncomputable def rCat:R2:=fun x y H Q=>∃ l b xs zs,x=.ref l/\y=.ref b/\H l=some (.lst xs)/\H b=some (.lst zs)/\xs.length+zs.length<=sizeLine/\∀ p,H p=none->Q (.ref p) (upd H p (.lst (xs++zs)))
theorem op_cat:OpR X (binaryOp .Add) rCat:=by
 intro pins s σ H x y v u Q I rx ry h
 obtain ⟨l,b,xs,zs,rfl,rfl,hH,hB,hz,q⟩:=h
 cases rx
 cases ry
 obtain ⟨z,its,n,r,hl,e⟩:=I.lstM hH
 obtain ⟨z2,its2,n2,r2,hl2,e2⟩:=I.lstM hB
 refine PySem.P.add_list e e2 ?_ (by rw [O7,O7];omega)
 have ea:its.toArray++its2.toArray=(its++its2).toArray:=by simp
 rw [ea]
 exact ⟨.ref _,_,I.lnew (t':=s.toks) (r.append r2) (by rw [O9];omega),rfl,q _ I.fresh⟩
noncomputable def rRep:R2:=fun x y H Q=>∃ l k xs,x=.ref l/\y=.int k/\H l=some (.lst xs)/\-(2 ^ 63)<=k/\k < 2 ^ 63/\xs.length * k.toNat<=sizeLine /\
 ∀ p,H p=none->Q (.ref p) (upd H p (.lst (Pn k.toNat xs).flatten))
theorem Ms {α:Type}(xs:List α)(k:Nat):(Pn k xs).flatten.length=k * xs.length:=by
 induction k with
 | zero=>simp
 | succ k ih=>rw [Tg,U1,O9,ih,Nat.succ_mul,Nat.add_comm]
theorem Zmh:OpR X (binaryOp .Mult) rRep:=by
 intro pins s σ H x y v u Q I rx ry h
 obtain ⟨l,k,xs,rfl,rfl,hH,h1,h2,hz,q⟩:=h
 cases rx
 obtain ⟨t,rfl⟩:=ry
 obtain ⟨z,its,n,r,hl,e⟩:=I.lstM hH
 have hlen:its.toArray.size * k.toNat<=sizeLine:=by rw [O7,<- hl];exact hz
 have hcap:¬ its.toArray.size * k.toNat > (2 ^ 63 - 1) / 8:=by
  have:(sizeLine:Nat)<=(2 ^ 63 - 1) / 8:=by decide
  omega
 have hfit:¬ (!Builtin.List.listFitsIndex k)=true:=by
  rw [fitsIndex_both h1 h2]
  exact Pd
 have hlong:¬ Uh (its.toArray.size * k.toNat)=true:=by
  rw [Zd8 hlen]
  exact Pd
 have hnew:T4 (fun x1 x2=>x1++x2) #[] (Pn (if its.toArray.isEmpty=true then 0 else k.toNat) its.toArray)=(Pn k.toNat its).flatten.toArray:=by
  have f0:∀ m:Nat,T4 (fun x1 x2=>x1++x2) #[] (Pn m its.toArray)=(Pn m its).flatten.toArray:=fun m=>by
   have:=Zbn its m []
   rw [Ts] at this
   exact this
  rw [f0]
  cases its with
  | nil=>simp
  | cons a r'=>rw [if_neg (by simp)]
 refine wpAny_binaryOp_repeat_ref (T := "list") (U := "int") (by decide) ⟨_,e,rfl⟩ (fun s'=>T3 s' k t) noFill_list_mul F.fills_int_mul F.slot_int_rmul repeat_list F.slot_int_index.lookup
  (Q3 F.slot_int_rmul (T3 s k t) F.entry_int_rmul (F.args_int_rmul_2 _ _) (int___rmul___int_list k t l its.toArray n)
   ⟨e,rfl,⟨_,e,rfl⟩,Q3 F.slot_list_mul ⟨_,e,rfl⟩ F.entry_list_mul (F.args_list_mul_2 _ _) (AutoListH.list___mul___list_int_3 l its.toArray n k t hfit hcap hlong) ⟨e,?_⟩⟩)
 rw [hnew]
 exact ⟨.ref _,_,I.lnew (t':=s.toks) (r.rep k.toNat) (by rw [Ms,Nat.mul_comm];exact hz),rfl,q _ I.fresh⟩
end
section
variable {prog:Program}{w:World}{A:Around}{E:Value->Shared->Prop}{s:Shared}
end
section
variable {X:Cx}
end
end L2
namespace Att
open PySem PySem.W PySem.Calls PyProof.Rows
theorem Zqb {P:Params}{h:Heap}:∀(ns:List Int)(vs:List Value),WellAll P h vs (ns.map WData.int)->IntsAre vs ns:=by
 intro ns
 induction ns with
 | nil =>
  intro vs w
  rw [Vl] at w
  cases w
  exact .nil
 | cons n ns ih =>
  intro vs w
  rw [Qa] at w
  cases w with
  | cons a b =>
   cases a
   exact .cons _ _ (ih _ b)
theorem Zma {l:OpenLaw}{n:Nat}(hn:l.most=some n){P:Params}{h:Heap}{args:List WData}{vals:List Value}
  (hpre:l.row.toRowW.claim.pre args=true) (hwl:WellAll P h vals args) :
  ∃ a vs ns,vals=[Value.ref a]/\args=[WData.list (ns.map WData.int)]/\h.get? a=some { cls:=.type "list",data:=.seq vs.toArray }/\IntsAre vs ns/\ns.length<=n:=by
 have hsh:WShape.hasAll [] args [.list .int]=true:=(pre_splitW hpre).1
 have hc:l.pre.holds [] { args:=args }=true:=(pre_splitW hpre).2
 obtain ⟨d,r,rfl,h1,h2⟩:=hasAllW_cons hsh
 obtain rfl:=hasAllW_nil h2
 obtain ⟨xs,rfl,h3⟩:=hasW_list h1
 obtain ⟨ns,rfl⟩:=items_int h3
 have hlen:ns.length<=n:=by
  unfold OpenLaw.pre at hc
  have h4:(WTm.not (.lt (.lit (.int (n:Int))) (.len (.arg 0)))).holds [] { args:=[.list (ns.map .int)] }=true:=by
   have h4:=(holds_andW hc).1
   rw [hn] at h4
   exact h4
  have h5:=condW_of h4 (w_not (w_lt w_lit (w_len_list (w_arg rfl))))
  rw [Pa] at h5
  refine Nat.le_of_not_lt fun q=>?_
  have q':(n:Int) < ((ns.length:Nat):Int):=by omega
  first
   | (rw [decide_eq_true q'] at h5;exact absurd h5 (by decide))
   | (simp at h5;omega)
 cases hwl with
 | cons w1 w2 =>
  cases w2
  cases w1 with
  | list ho hall=>exact ⟨_,_,ns,rfl,rfl,ho,Zqb ns _ hall,hlen⟩
theorem Zkc (l:OpenLaw)(args:List WData):l.row.toRowW.claim.post args (.bool true) args=true :=
 postW_of (r:=l.row.toRowW) (X:=(true == true))
  (show WShape.has [] (.bool true) .bool=true by first | rfl | decide | simp [WShape.has,WShape.arms,WShape.armsAll])
  (show (WTm.eq .res (.lit (.bool true))).value [] { args:=args,res:=some (.bool true),after:=args }=some (.bool (true == true)) from w_eq_bool (w_res rfl) w_lit) rfl
theorem attach_call {l:OpenLaw}{n:Nat}{q:Program}{loose:List Str}{XP:(Str->Option Value)->Heap->Prop}{YP:World->Heap->Prop}{d:DefRec}
  (hn:l.most=some n) (hdf:d.params.defaults=[])
  (call:∀(w:World)(s₀ s₁:Shared)(mg mb:Str->Option Value)(fa:Addr)(o:Obj)(pm cd doc:Value)(a:Addr)(vs:List Value)(ns:List Int),
   Ground q loose [] XP w s₀ mg mb s₁.heap->YP w s₁.heap ->
   s₁.heap.get? fa=some o->o.data=.func (docDef d.name d.params d.body d.scope pm cd doc)->s₁.heap.CodeRec cd d.name->mg d.name=some (.ref fa) ->
   s₁.heap.get? a=some { cls:=.type "list",data:=.seq vs.toArray }->IntsAre vs ns->ns.length<=n->s₁.gens=#[] ->
   codeAny (model l.prog w) callerA (.call (.ref fa) ⟨[.ref a],[]⟩) (fun r s'=>r=.ok (.ret (.bool true))/\OldK s₁.heap s'.heap/\s'.os=s₁.os/\AllBare s'.gens) s₁) :
  WalkO q loose XP YP l.row.toRowW d [] (fun f vs=>PySem.call f vs):=by
 intro w s₀ s₁ mg mb G Y fa o pm cd doc dV kV ho hd hcd hD hmg hg args vals as hpre hlay hrd hwl hlo
 obtain rfl:dV=.none:=Dflts.none hD hdf
 obtain rfl:kV=.none:=Dflts.noKw hD
 obtain ⟨a,vs,ns,rfl,rfl,hobj,hints,hlen⟩:=Zma hn hpre hwl
 refine enter_call (Se (call w s₀ s₁ mg mb fa o pm cd doc a vs ns G Y ho (fd_plain hd) hcd hmg hobj hints hlen hg) fun r s' hq=>?_)
 obtain ⟨rfl,h2,h3,h4⟩:=hq
 exact ⟨.inl ⟨.bool true,.bool true,[],rfl,fun _=>rfl,.bool true,Zkc l _,fun _=>⟨List.Pairwise.nil,fun _ hm=>(nomatch hm)⟩⟩,h2,h3,h4⟩
section
variable {prog:Program}{w:World}{A:Around}{E:Value->Shared->Prop}{s:Shared}{K:Frag}
end
end Att
namespace L2
open PySem PySem.Spec PyProof.Rows
theorem Zdu:∀{vs:List Value}{ns:List Int},IntsAre vs ns->Vals (ns.map V.int) vs
 | _,_,.nil=>.nil
 | _,_,.cons n t h=>.cons ⟨t,rfl⟩ (Zdu h)
noncomputable def Nr (H:Hp):Prop:=∀ b,H b=none\/∃ o xs,H b=some (.frz o (.lst xs))
theorem Zp1 {P:Program}{w:World}{K:O1}{mg mb:Str->Option Value}{CX:B4}{k:Nat}{fa a:Addr}{fd:FuncData}{x:Str}{sp:Sp}{s₁:Shared}{vs:List Value}{ns:List Int}
  (KX:K.In s₁.heap) (hns:s₁.heap.Ns mainGlobals mg) (hb:s₁.heap.Ns builtinsNs mb) (hbb:∀ x:Str,x ≠ "__name__" -> mb x=bootBuiltins x) (hlim:s₁.heap.NoLimit) (hg:s₁.gens=#[])
  (ha:s₁.heap.get? a=some { cls:=.type "list",data:=.seq vs.toArray }) (hi:IntsAre vs ns) (hl:ns.length<=sizeLine) (hr:Room k callerA)
  (F:∀ base:Heap,K.In base->base.Ns mainGlobals mg->FnOk P w K mg base CX k fa fd [x] sp) (hbind:∀(s:Shared)(u:Value),BindsTo s fd ⟨[u],[]⟩ [(x,u)])
  (hsp:∀ H:Hp,Nr H->SqL K H a (ns.map V.int)->sp [.ref a] H (fun v _=>v=.bl true) fun _ _ _=>False)
  (hCX:∀ H e s',CX [] H s₁ (fun _ _ _=>False) e s'->False) :
  codeAny (model P w) callerA (.call (.ref fa) ⟨[.ref a],[]⟩) (fun r s'=>r=.ok (.ret (.bool true))/\OldK s₁.heap s'.heap/\s'.os=s₁.os/\AllBare s'.gens) s₁:=by
 have rv:=Zdu hi
 have lenV:=hi.length
 have core:∀ H:Hp,Nr H->SqL K H a (ns.map V.int)->HOk P w H s₁.heap->(∀ b,H b≠none->b=a)->(H a≠none->K.lookup a=none) ->
   codeAny (model P w) callerA (.call (.ref fa) ⟨[.ref a],[]⟩) (fun r s'=>r=.ok (.ret (.bool true))/\OldK s₁.heap s'.heap/\s'.os=s₁.os/\AllBare s'.gens) s₁:=by
  intro H hO hS hok hA hK
  have base_of:∀{b:Addr}{o:Obj},s₁.heap.get? b=some o->H b=none->(E4 s₁.heap H).get? b=some o:=fun e n=>Zmj e n
  have noA:∀{b:Addr}{o:Obj}{es:Array DictEntry}{ep:Nat},s₁.heap.get? b=some o->o.data=.dict es ep->H b=none:=fun {b o es ep} e d=>by
   cases q:H b with
   | none=>rfl
   | some u =>
    have e':b=a:=hA b (by rw [q];simp)
    subst e'
    rw [ha] at e;cases e
    have d':Data.seq vs.toArray _=Data.dict es ep:=d
    cases d'
  have nsK:∀{b:Addr}{m:Str->Option Value},s₁.heap.Ns b m->(E4 s₁.heap H).Ns b m:=fun {b m} ⟨o,es,ep,e,d,r⟩=>⟨o,es,ep,base_of e (noA e d),d,r⟩
  have hKb:K.In (E4 s₁.heap H):=fun b o e=>base_of (KX b o e) (by
   cases q:H b with
   | none=>rfl
   | some u =>
    have e':b=a:=hA b (by rw [q];simp)
    subst e'
    rw [hK (by rw [q];simp)] at e;cases e)
  have hM:Mod K mg (E4 s₁.heap H):=⟨hKb,nsK hns,⟨mb,nsK hb,hbb⟩,let ⟨mc,h1,h2⟩:=hlim;⟨mc,nsK h1,h2⟩⟩
  have e0:Env0 P w K mg (E4 s₁.heap H) callerA [] s₁ H:=⟨rfl,hM,fun b o e=>Zqq e,Nat.le_of_eq (Zi4 _ _),trivial,fun b hb=>absurd (show b∈([]:List Addr) from hb) (by simp),hok,.of_eq hg⟩
  refine Se ((F _ hKb (nsK hns)).run callerA [] s₁ H ⟨[.ref a],[]⟩ [.ref a] [.ref a] _ _ hr e0 (hbind s₁ (.ref a)) (.cons rfl .nil) (hsp H hO hS)) fun r s' h=>?_
  cases r with
  | error e=>exact (hCX H e s' h).elim
  | ok fl =>
   cases fl with
   | next=>exact Pt h
   | brk=>exact Pt h
   | cont=>exact Pt h
   | ret u =>
    obtain ⟨v,H',os,bare,un,hok',r',q⟩:=h
    have q':v=.bl true:=q
    subst q'
    obtain rfl:u=Value.bool true:=r'
    refine ⟨rfl,OldK.of_keep fun b o e=>?_,os,bare⟩
    cases q:H b with
    | none=>exact un.keep b o e q (by intro z;exact absurd (show b∈([]:List Addr) from z) (by simp)) (by simp)
    | some u =>
     rcases hO b with z | ⟨ob,xs,z⟩
     ·rw [q] at z;cases z
     ·have z2:=un.frzs b ob _ z
      obtain ⟨e1,_⟩:=hok b _ z
      obtain ⟨e2,_⟩:=hok' b _ z2
      rw [e] at e1;cases e1
      exact e2
 cases hk:K.lookup a with
 | some o =>
  have e:=KX a o hk
  rw [ha] at e
  cases e
  refine core (fun _=>none) (fun _=>.inl rfl) (.inr ⟨_,vs.toArray,_,hk,rfl,rfl,rfl,by rw [O7,lenV];exact hl,by simpa using rv⟩) (fun b u z=>by have z':(none:Option HO)=some u:=z;cases z') (fun b z=>absurd rfl z) fun z=>absurd rfl z
 | none =>
  refine core (fun b=>if b=a then some (.frz { cls:=.type "list",data:=.seq vs.toArray } (.lst (ns.map V.int))) else none) (fun b=>?_) (.inl (.inr ⟨{ cls:=.type "list",data:=.seq vs.toArray },if_pos rfl⟩)) (fun b u z=>?_) (fun b z=>?_) fun _=>hk
  ·by_cases hb:b=a
   ·exact .inr ⟨_,_,if_pos hb⟩
   ·exact .inl (if_neg hb)
  ·by_cases hb:b=a
   ·have z':=(if_pos hb).symm.trans z
    cases z'
    subst hb
    exact ⟨ha,by rw [Pa];exact hl,vs,_,rv,ha⟩
   ·have z':=(if_neg hb).symm.trans z
    cases z'
  ·by_cases hb:b=a
   ·exact hb
   ·exact absurd (if_neg hb) z
theorem walk_of {l:Wn}{n k:Nat}{q:Program}{loose:List Str}{XP:(Str->Option Value)->Heap->Prop}{YP:World->Heap->Prop}{d:DefRec}{K:Params->O1}{CX:World->B4}{sp:World->Sp}{x:Str}
  (hn:l.most=some n) (hn2:n<=sizeLine) (hdf:d.params.defaults=[]) (hr:Room k callerA)
  (hY:∀(w:World)(h:Heap),YP w h->(K w.params).In h)
  (F:∀(w:World)(mg:Str->Option Value)(fa:Addr)(h:Heap),(K w.params).In h->h.Ns mainGlobals mg->mg d.name=some (.ref fa) ->
   ∃ fd:FuncData,(∀(s:Shared)(u:Value),BindsTo s fd ⟨[u],[]⟩ [(x,u)]) /\
    ∀ base:Heap,(K w.params).In base->base.Ns mainGlobals mg->FnOk l.prog w (K w.params) mg base (CX w) k fa fd [x] (sp w))
  (hsp:∀(w:World)(H:Hp)(a:Addr)(ns:List Int),ns.length<=n->Nr H->SqL (K w.params) H a (ns.map V.int)->sp w [.ref a] H (fun v _=>v=.bl true) fun _ _ _=>False)
  (hCX:∀(w:World)(H:Hp)(s:Shared)(e:Value)(s':Shared),CX w [] H s (fun _ _ _=>False) e s'->False) :
  PySem.W.WalkO q loose XP YP l.row.toRowW d [] (fun f vs=>PySem.call f vs):=by
 refine Att.attach_call hn hdf fun w s₀ s₁ mg mb fa o pm cd doc a vs ns G Y ho hd hcd hmg hobj hints hlen hg=>?_
 have KX:=hY w _ Y
 obtain ⟨fd,hb,hF⟩:=F w mg fa _ KX G.T.g hmg
 exact Zp1 KX G.T.g G.T.b G.T.builtins G.T.nolimit hg hobj hints (Px hlen hn2) hr hF hb (fun H hO hS=>hsp w H a ns hlen hO hS) fun H e s'=>hCX w H s₁ e s'
noncomputable def Gu (s:Stmt):Arguments:=match s with
 | .FunctionDef _ a _ _ _ _ _ _ _ _=>a
 | _=>{ posonlyargs:=[],args:=[],vararg:=none,kwonlyargs:=[],kw_defaults:=[],kwarg:=none,defaults:=[] }
noncomputable def Et (s:Stmt):List Stmt:=match s with
 | .FunctionDef _ _ b _ _ _ _ _ _ _=>b
 | _=>[]
noncomputable def Ay (s:Stmt):Scope:=match s with
 | .FunctionDef _ _ _ _ _ _ sc _ _ _=>sc
 | _=>{ kind:=.function,names:=[],isGenerator:=false,isCoroutine:=false }
noncomputable abbrev Ao:B4:=fun _ _ _ _ _ _=>False
noncomputable abbrev E0:XK:=fun _ _ _=>False
theorem Cz {X:Cx}:E6 Ao X E0:=fun _ _ _ _ _ _ _ h=>h.elim
structure Fun (K:O1)(x qual:Str)(st:Stmt)(f:Addr)(fd:FuncData):Prop where
 ex:∃(oc:Value)(od:Option Addr)(kV doc pm:Value)(an:Option Addr)(cdv ct:Value)(osl:Array (Option Value)),
  fd=Rs x qual (Gu st) (Et st) (Ay st) .none kV doc pm an cdv ct/\K.lookup f=some ⟨oc,od,.func fd,osl⟩/\PySem.W.codeIn K cdv qual=true
 kp:Qm K (.ref f)=true
section
variable {P:Program}{w:World}{K:O1}{mg:Str->Option Value}{base:Heap}
theorem Fun.ok {x qual:Str}{st:Stmt}{f:Addr}{fd:FuncData}{N ps:List Str}{k:Nat}{sp:Sp}(F:Fun K x qual st f fd)(S:A2 N ps (Ay st))(len:∀ vs H Q E,sp vs H Q E->vs.length=ps.length)
  (hbody:∀(cdv:Value)(A:Around)(outer:List Env)(s:Shared)(H:Hp)(vs:List V)(Q:VK)(E:XK),Room k (A.deeper (envOfC qual (Ay st) s.heap.objs.size f cdv))->sp vs H Q E ->
   ∃ t,PSs (Dy Ao P w K mg base N qual (Ay st) f cdv A outer s H E).nox (Et st) t/\t { nx:=fun _ H'=>Q .non H',rt:=Q } (Ek N vs) H):FnOk P w K mg base Ao (k+1) f fd ps sp:=by
 obtain ⟨oc,od,kV,doc,pm,an,cdv,ct,osl,rfl,lk,hcd⟩:=F.ex
 refine Zei lk hcd S len fun A outer s H vs Q E hr hsp=>?_
 obtain ⟨t,h,q⟩:=hbody cdv A outer s H vs Q E hr hsp
 exact ⟨t,h.nox,q⟩
theorem Fun.binds {x qual:Str}{st:Stmt}{f:Addr}{fd:FuncData}{ps:List Str}(F:Fun K x qual st f fd)
  (h:∀(kV doc pm:Value)(an:Option Addr)(cdv ct:Value)(us:List Value),us.length=ps.length->bindArgs (Rs x qual (Gu st) (Et st) (Ay st) .none kV doc pm an cdv ct) ⟨us,[]⟩=pure (ps.zip us)):Binds K fd ps []:=by
 obtain ⟨oc,od,kV,doc,pm,an,cdv,ct,osl,rfl,lk,hcd⟩:=F.ex
 exact .all (h kV doc pm an cdv ct)
theorem fun_mk {x qual:Str}{st:Stmt}{f:Addr}{oc:Value}{od an:Option Addr}{osl:Array (Option Value)}{kV doc pm cdv ct:Value}(l:K.lookup f=some ⟨oc,od,.func (Rs x qual (Gu st) (Et st) (Ay st) .none kV doc pm an cdv ct),osl⟩)
  (c:PySem.W.codeIn K cdv qual=true) (k:Qm K (.ref f)=true):Fun K x qual st f (Rs x qual (Gu st) (Et st) (Ay st) .none kV doc pm an cdv ct):=⟨⟨oc,od,kV,doc,pm,an,cdv,ct,osl,rfl,l,c⟩,k⟩
end
section
variable {X:Cx}
end
theorem iteF {A B:Prop}(h:B):if false=true then A else B:=by
 rw [if_neg Pd]
 exact h
theorem iteT {A B:Prop}(h:A):if true=true then A else B:=by
 rw [if_pos rfl]
 exact h
theorem Bj {c A B:Prop}[Decidable c](h1:c->A)(h2:¬ c->B):if c then A else B:=by
 by_cases h:c
 ·rw [if_pos h]
  exact h1 h
 ·rw [if_neg h]
  exact h2 h
noncomputable def Same (H H':Hp):Prop:=∀ b o,H b=some o->H' b=some o
theorem Same.refl (H:Hp):Same H H:=fun _ _ h=>h
theorem Same.trans {H H1 H2:Hp}(a:Same H H1)(b:Same H1 H2):Same H H2:=fun c o h=>b c o (a c o h)
theorem Same.free {H H':Hp}(e:Same H H'){l:Addr}(h:H' l=Option.none):H l=Option.none:=by
 cases q:H l with
 | none=>rfl
 | some o =>
  rw [e l o q] at h
  cases h
theorem Same.seq {K:O1}{H H':Hp}{a:Addr}{xs:List V}(e:Same H H')(h:SqL K H a xs):SqL K H' a xs:=by
 rcases h with (h | ⟨o,h⟩) | h
 ·exact .inl (.inl (e _ _ h))
 ·exact .inl (.inr ⟨o,e _ _ h⟩)
 ·exact .inr h
end L2
set_option maxHeartbeats 8000000
namespace L2
open PySem PySem.Spec PyProof.Rows
noncomputable def Dk (env:Env):List (Str×NameKind)->List (Str×Addr)->List (Str×Addr)
 | [],acc=>acc
 | (n,k)::r,acc=>Dk env r (if k == .free then (match env.cells.lookup n with | some a=>(n,a)::acc | none=>acc) else acc)
theorem Zap {env:Env}:∀{ns:List (Str×NameKind)}{acc:List (Str×Addr)}{x:Str}{c:Addr},(∀ x c,acc.lookup x=some c->env.cells.lookup x=some c)->(Dk env ns acc).lookup x=some c->env.cells.lookup x=some c
 | [],acc,x,c,h,e=>h x c e
 | (n,k)::r,acc,x,c,h,e=>by
  refine Zap (ns:=r) ?_ e
  intro y d
  split
  ·split
   ·rename_i a ha
    intro q
    rw [Rb] at q
    split at q
    ·rename_i hy
     have hy':y=n:=by simpa using hy
     subst hy'
     rw [ha];exact q
    ·exact h y d q
   ·exact h y d
  ·exact h y d
theorem Zg5 {env:Env}:∀{ns:List (Str×NameKind)}{acc:List (Str×Addr)}{x:Str},(acc.lookup x).isSome=true->((Dk env ns acc).lookup x).isSome=true
 | [],acc,x,h=>h
 | (n,k)::r,acc,x,h=>by
  refine Zg5 (ns:=r) ?_
  split
  ·split
   ·rw [Rb]
    split
    ·rfl
    ·exact h
   ·exact h
  ·exact h
theorem Zfg {env:Env}:∀{ns:List (Str×NameKind)}{acc:List (Str×Addr)}{x:Str},(x,NameKind.free)∈ns->(env.cells.lookup x).isSome=true->((Dk env ns acc).lookup x).isSome=true
 | [],acc,x,h,_=>by cases h
 | (n,k)::r,acc,x,h,hc=>by
  rcases Pb.mp h with e | e
  ·cases e
   refine Zg5 (ns:=r) ?_
   obtain ⟨a,ha⟩:=Ta.mp hc
   rw [if_pos (by rfl),ha]
   show (Rh n ((n,a)::acc)).isSome=true
   rw [Rb]
   simp
  ·exact Zfg (ns:=r) e hc
theorem Zhd {scope:Scope}{env:Env}(h:∀ x∈scope.names,x.2=.free->(env.cells.lookup x.1).isSome=true):closureFor scope env=pure (Dk env scope.names []):=by
 have all:∀(ns:List (Str×NameKind))(acc:List (Str×Addr)),(∀ x∈ns,x.2=.free->(env.cells.lookup x.1).isSome=true) ->
   (forIn ns acc fun (x:Str×NameKind) (cs:List (Str×Addr))=>(if (x.2 == NameKind.free)=true then do let a <- cellOf env x.1;pure (ForInStep.yield ((x.1,a)::cs)) else pure (ForInStep.yield cs):Sem (ForInStep (List (Str×Addr)))))=pure (Dk env ns acc):=by
  intro ns
  induction ns with
  | nil=>intro acc _;rfl
  | cons x r ih =>
   intro acc hx
   obtain ⟨n,k⟩:=x
   rw [Tt]
   by_cases hk:(k == NameKind.free)=true
   ·obtain ⟨a,ha⟩:=Ta.mp (hx (n,k) Sl (by simpa using hk))
    have ha:env.cells.lookup n=some a:=ha
    have hcell:cellOf env n=pure a:=by unfold cellOf;rw [ha]
    simp only [hk,if_true,hcell]
    refine Eq.trans (ih ((n,a)::acc) fun y hy=>hx y (Q5 _ hy)) ?_
    conv=>rhs;unfold Dk
    simp only [hk,if_true,ha]
   ·simp only [hk]
    refine Eq.trans (ih acc fun y hy=>hx y (Q5 _ hy)) ?_
    conv=>rhs;unfold Dk
    simp only [hk]
    rfl
 unfold closureFor
 exact (by
  have:=all scope.names [] h
  first | exact this | (simp only [bind_pure] ;exact this) | simpa using this)
noncomputable def Cj (X:Cx)(scope:Scope)(C:Addr)(N:List Str)(s₀:Shared)(H₀:Hp)(ex:List Addr):Cx where
 prog:=X.prog
 w:=X.w
 K:=X.K
 mg:=X.mg
 base:=X.base
 A:=X.A
 N:=N
 s₀:=s₀
 H₀:=H₀
 env:=compEnvC scope (Dk X.env scope.names []) C X.env
 outer:=X.stack
 stack:=X.stack
 ex:=ex
 fn:=fun _=>false
 calm:=X.calm
 pn:=[]
 xe:=fun _ _=>False
structure G8 (sc:Scope)(env:Env):Prop where
 kind:sc.kind=.function
 nocell:∀ y∈sc.names,y.2≠.cell
 loc:∀ y∈sc.names,y.2=.local->sc.names.lookup y.1=some .local
 free:∀ x∈sc.names,x.2=.free->(env.cells.lookup x.1).isSome=true
theorem Lp {env:Env}:∀{names:List (Str×NameKind)}{x:Str}{k:NameKind},((names.map fun (n,k)=>if (k == NameKind.free && env.scope.kind == .function && env.kindOf n == some .cell) then (n,NameKind.cell) else (n,k)).lookup x=some k) ->
  ∃ k',names.lookup x=some k'/\(k'=k\/(k'=.free/\k=.cell))
 | [],x,k,h=>by simp at h
 | (n,q)::r,x,k,h=>by
  have ih:=@Lp env r x k
  have h:Rh x ((if (q == NameKind.free && env.scope.kind == .function && env.kindOf n == some .cell)=true then (n,NameKind.cell) else (n,q))::_)=some k:=h
  rw [Rb]
  cases hx:x == n with
  | true =>
   by_cases hc:(q == NameKind.free && env.scope.kind == .function && env.kindOf n == some .cell)=true
   ·rw [if_pos hc] at h
    simp only [Rb,hx] at h
    refine ⟨q,rfl,.inr ⟨?_,(P6 h).symm⟩⟩
    simp only [Ro] at hc
    simpa using hc.1.1
   ·rw [if_neg hc] at h
    simp only [Rb,hx] at h
    exact ⟨q,rfl,.inl (P6 h)⟩
  | false =>
   by_cases hc:(q == NameKind.free && env.scope.kind == .function && env.kindOf n == some .cell)=true
   ·rw [if_pos hc] at h
    simp only [Rb,hx] at h
    exact ih h
   ·rw [if_neg hc] at h
    simp only [Rb,hx] at h
    exact ih h
noncomputable def Fl (X:Cx)(scope:Scope)(N:List Str)(σ σ0:St):Prop :=
 σ0.length=N.length/\∀(i:Nat)(x:Str)(v:V),N[i]?=some x->σ0[i]?=some (some v)->∃ j:Nat,X.N[j]?=some x/\σ[j]?=some (some v)/\scope.names.lookup x=some .free/\(X.env.kindOf x=some .cell\/X.env.kindOf x=some .free)
section
variable {X:Cx}
theorem Zlr {scope:Scope}{N:List Str}{pins:List (Addr×Obj)}{σ σ0:St}{H:Hp}{s:Shared}{h':Heap}{tk:Nat}{fp:List Addr}(I:Inv X pins σ H s)(S:G8 scope X.env)(hf:∀ b∈fp,FpOk X pins H b)(hlt:∀ b∈fp,b < s.heap.objs.size)
  (T:Fl X scope N σ σ0) (hn:h'.Ns s.heap.objs.size (fun _=>none)) (hk:∀ b o,s.heap.get? b=some o->h'.get? b=some o) :
  Inv (Cj X scope s.heap.objs.size N s H fp) [] σ0 H { s with heap:=h',toks:=tk }:=by
 have subC:∀ x c,(Dk X.env scope.names []).lookup x=some c->X.env.cells.lookup x=some c:=fun x c e=>Zap (ns:=scope.names) (acc:=[]) (fun y d z=>by simp at z) e
 have hasC:∀ x,scope.names.lookup x=some .free->∃ c,(Dk X.env scope.names []).lookup x=some c:=fun x e=>by
  have m:=R5 e
  exact Ta.mp (Zfg m (S.free _ m rfl))
 have fsN:∀ b∈fp,b ∉ A6 X.stack:=fun b hb z=>by
  obtain ⟨_,f1,f2,_⟩:=hf b hb
  rcases Pb.mp (I.stkSub b z) with e | e
  ·exact f1 e
  ·exact f2 e
 have kinds:∀ x,((relabel scope X.env).names.lookup x=some .cell\/(relabel scope X.env).names.lookup x=some .free)->scope.names.lookup x=some .free:=fun x hx=>by
  rcases hx with hx | hx
  ·obtain ⟨k',e,q⟩:=Lp hx
   rcases q with q | ⟨q,_⟩
   ·subst q
    exact absurd rfl (S.nocell _ (R5 e))
   ·rw [e,q]
  ·obtain ⟨k',e,q⟩:=Lp hx
   rcases q with q | ⟨_,q⟩
   ·rw [e,q]
   ·cases q
 have noex:∀ b o,X.base.get? b=some o->b ∉ fp:=fun b o e hb=>by
  obtain ⟨_,_,_,f3,_⟩:=hf b hb
  rcases f3 with z | z
  ·exact I.ok.noex b o e z
  ·exact absurd (Pk (O8 e) (Px I.ok.bsz z)) (Qn _)
 refine ⟨⟨I.ok.mod,S.kind,I.ok.glob,I.ok.blt,O4 _,fun x y c e1 e2=>I.ok.inj x y c (subC x c e1) (subC y c e2),fun x hx=>hasC x (kinds x hx),fun x c z=>absurd (show false=true from z) Pd,I.ok.hd,I.ok.frames,.inl rfl,
   fun b hb=>⟨Pg (hlt b hb),fun x c e=>(hf b hb).2.2.2.2.1 x c (subC x c e)⟩,I.bs,Px I.ok.bsz I.sz,noex,fsN,I.stack,I.stkFree⟩,
  rfl,I.bare,Un.kept hk,⟨_,hn,fun i x v e1 e2 e3=>?_⟩,fun x c e=>?_,I.hok.fresh (O4 _),fun x c e=>I.freeC x c (subC x c e),fun p hp=>absurd (show p∈([]:List (Addr×Obj)) from hp) (by simp),I.hok.kept hk,T.1⟩
 ·obtain ⟨j,hj,hs,hfr,hkd⟩:=T.2 i x v e1 e2
  obtain ⟨m,_,hl⟩:=I.loc
  obtain ⟨u,r,l⟩:=hl j x v hj hs (hkd.elim (fun z=>Or.inr (Or.inl z)) fun z=>Or.inr (Or.inr z))
  refine ⟨u,r,.inr ⟨?_,?_⟩⟩
  ·show (relabel scope X.env).names.lookup x=some .cell\/(relabel scope X.env).names.lookup x=some .free
   rcases e3 with z | z | z
   ·obtain ⟨k',e,q⟩:=Lp (show (relabel scope X.env).names.lookup x=some .local from z)
    rw [hfr] at e
    cases e
    rcases q with q | ⟨_,q⟩ <;> cases q
   ·exact .inl z
   ·exact .inr z
  ·obtain ⟨c,hc⟩:=hasC x hfr
   refine ⟨c,hc,?_⟩
   rcases l with ⟨k,_⟩ | ⟨_,c',e,z⟩
   ·rcases hkd with hkd | hkd <;> (rw [hkd] at k;cases k)
   ·have e':=subC x c hc
    rw [e] at e'
    cases e'
    obtain ⟨o,ho,hd⟩:=z
    exact ⟨o,hk _ o ho,hd⟩
 ·obtain ⟨v,o,ho,hd⟩:=I.cell x c (subC x c e)
  exact ⟨v,o,hk _ o ho,hd⟩
theorem Zko {scope:Scope}{N:List Str}{pins pins':List (Addr×Obj)}{σ σ':St}{H H':Hp}{s s':Shared}{h':Heap}{fp:List Addr}(I:Inv X pins σ H s)(hf:∀ b∈fp,FpOk X pins H b)
  (I':Inv (Cj X scope s.heap.objs.size N s H fp) pins' σ' H' s') (hs:Pl s.heap.objs.size s'.heap h'):Inv X pins σ H' { s' with heap:=h' }:=by
 have hC:H' s.heap.objs.size=none:=I'.free
 have ne:∀ b o,s.heap.get? b=some o->b≠s.heap.objs.size:=fun b o e=>Pg (O8 e)
 have B:Un (A6 X.stack) fp H H' s.heap s'.heap:=I'.base
 refine I.call' (s':={ s' with heap:=h' }) (ch:=fp) I'.os ⟨fun b o e n hb hx=>?_,fun b o e n hb hx=>?_,B.free,fun b o e hx=>?_,B.tups,B.frzs,B.tbls⟩ (fun b o e=>?_) I'.bare (fun b hb=>?_)
 ·exact (hs.2 b (ne b o e)).trans (B.keep b o e n hb hx)
 ·obtain ⟨sl,q⟩:=B.slot b o e n hb hx
  exact ⟨sl,(hs.2 b (ne b o e)).trans q⟩
 ·obtain ⟨o',q⟩:=B.there b o e hx
  exact ⟨o',(hs.2 b (ne b o e)).trans q⟩
 ·refine (I'.hok b o e).stay (fun c w' hc q=>(hs.2 c ?_).trans q) (fun _ q=>q) fun _ _ q=>q
  rintro rfl
  rcases hc with rfl | hc
  ·rw [hC] at e;cases e
  ·rw [hC] at hc;cases hc
 ·obtain ⟨_,f1,_,f3,f4,f5⟩:=hf b hb
  exact ⟨f3,f1,f4,f5⟩
end
section
variable {prog:Program}{w:World}{A:Around}{R:Result->Shared->Prop}{s:Shared}
theorem Zrn {elt target iter:Expr}{ifs:List Expr}{scope:Scope}{pos:Pos}{it acc:Value}{env:Env}(I:Nat->Shared->Prop)
  (turn:∀ n s,I n s->wpAny (model prog w) A (pyNext it) (fun r s₁=>match r with
   | none=>R (.ok .next) s₁
   | some v=>wpAny (model prog w) A (letOwnedTupleGo target it v) (fun _ s₁'=>wpAny (model prog w) A (assign target env v) (fun _ s₂ =>
     wpAny (model prog w) A (forIn ifs true fun c r=>if r=true then do let ok <- isTrue c env (eval c env);pure (ForInStep.yield ok) else pure (ForInStep.yield r)) (fun ok s₃ =>
      if ok=true then wpAny (model prog w) A (eval elt env) (fun x s₄ =>
       wpAny (model prog w) A (call (.builtin "list.append") [acc,x]) (fun _ s₅=>∃ m,m < n/\I m s₅) (fun _ _=>False) s₄) (fun _ _=>False) s₃
      else ∃ m,m < n/\I m s₃) (fun _ _=>False) s₂) (fun _ _=>False) s₁') (fun _ _=>False) s₁) (fun _ _=>False) s)
  (n:Nat) (h:I n s):codeAny (model prog w) A (.compLoop (.ListComp elt [⟨target,iter,ifs,0⟩] scope pos) 0 it acc env) R s:=by
 refine codeAny_loop rfl I (fun n s hI=>?_) n h
 show wpAny _ A ((compTurn (.ListComp elt [⟨target,iter,ifs,0⟩] scope pos) 0 it acc env).onRaise (fun x=>do noteFrame x env;theTreesLotGoes x)) _ _ s
 refine wpAny_noted ?_
 rw [compTurn_list]
 have up:∀{α:Type}{t:Sem α}{Q:α->Shared->Prop}{s:Shared}{E:Value->Shared->Prop},wpAny (model prog w) A t Q (fun _ _=>False) s->wpAny (model prog w) A t Q E s:=fun h=>wpAny_noRaise h
 refine O2 (Vh (O2 (up (Aj (turn n s hI) fun r s₁ h₁=>?_))))
 cases r with
 | none=>exact O3 h₁
 | some v =>
  refine O2 (up (Aj h₁ fun _ s₁' h₁'=>?_))
  refine O2 (up (Aj h₁' fun _ s₂ h₂=>O2 (up (Aj h₂ fun ok s₃ h₃=>?_))))
  cases ok with
  | false=>exact O3 ⟨rfl,h₃⟩
  | true =>
   exact O2 (O2 (up (Aj h₃ fun x s₄ h₄=>O2 (up (Aj h₄ fun _ s₅ h₅=>O3 (O3 ⟨rfl,h₅⟩))))))
end
noncomputable def Mb (J:It)(g:TG)(tt:TT)(te:TE)(σ0:St)(H1:Hp)(D:Addr)(Q:VK):Prop :=
 ∃ W:Nat->Nat->St->Hp->Prop,(∃ m,W 0 m σ0 (upd H1 D (.lst [])))/\∀ i m σ' H',W i m σ' H' ->
  (J.stop i H'/\Q (.ref D) H')\/(J.go i H'/\∃ N:St->Hp->Prop,(∀ σ2 H2,N σ2 H2->∃ m',m' < m/\W (i+1) m' σ2 H2)/\∀ x H2,J.yld i H' x H2->g x σ' H2 fun σ2 H3=>tt σ2 H3 fun b H4 =>
   if b=true then te σ2 H4 fun y H5=>∃ ys,H5 D=some (.lst ys)/\ys.length < sizeLine/\N σ2 (upd H5 D (.lst (ys++[y]))) else N σ2 H4)
noncomputable def K9 (wi:TI)(σ0:St->St)(g:TG)(tt:TT)(te:TE):TE:=fun σ H Q=>wi σ H fun J H1=>∀ D,H1 D=none->Mb J g tt te (σ0 σ) H1 D Q
noncomputable def Gq (X:Cx)(ifs:List Expr)(t:TT):Prop :=
 ∀(pins:List (Addr×Obj))(s:Shared)(σ:St)(H:Hp)(Q:Bool->Hp->Prop),Inv X pins σ H s->t σ H Q ->
  wpAny (model X.prog X.w) X.A (forIn ifs true fun c r=>if r=true then do let ok <- isTrue c X.env (eval c X.env);pure (ForInStep.yield ok) else pure (ForInStep.yield r)) (TP X pins σ Q) X.xe s
noncomputable def Zar:TT:=fun _ H Q=>Q true H
theorem Zll {X:Cx}:Gq X [] Zar:=fun _ _ _ H _ I h=>wpAny_tests_nil ⟨H,I,h⟩
theorem Zi9 {X:Cx}{c:Expr}{t:TT}(h:PT X c t):Gq X [c] t:=fun pins s σ H Q I hw=>wpAny_tests_one (h pins s σ H Q I hw)
section
variable {X:Cx}{elt target iter:Expr}{ifs:List Expr}{scope:Scope}{pos:Pos}{N:List Str}{wi:TI}{σ0:St->St}{g:TG}{tt:TT}{te:TE}
theorem Zel {pins:List (Addr×Obj)}{σ:St}{H:Hp}{s:Shared}{it:Addr}{fp:List Addr}{tn:Nat->Heap->Prop}{J:It}{Q:Addr->Hp->Prop}{RR:Value->Addr->Result->Shared->Prop}{E:Value->Shared->Prop}
  (hc:X.calm=true) (S:G8 scope X.env) (T:Fl X scope N σ (σ0 σ)) (I:Inv X pins σ H s) (Tn:G6 X.prog X.w X.K target J fp it tn) (st:tn 0 s.heap) (hf:∀ b∈fp,FpOk X pins H b)
  (hg:∀ C s H fp,PG (Cj X scope C N s H fp) target g) (ht:∀ C s H fp,Gq (Cj X scope C N s H fp) ifs tt) (he:∀ C s H fp,PE (Cj X scope C N s H fp) elt te)
  (hw:∀ D,H D=none->∃ W:Nat->Nat->St->Hp->Prop,(∃ m,W 0 m (σ0 σ) (upd H D (.lst [])))/\∀ i m σ' H',W i m σ' H' ->
   (J.stop i H'/\Q D H')\/(J.go i H'/\∃ N:St->Hp->Prop,(∀ σ2 H2,N σ2 H2->∃ m',m' < m/\W (i+1) m' σ2 H2)/\∀ x H2,J.yld i H' x H2->g x σ' H2 fun σ2 H3=>tt σ2 H3 fun b H4 =>
    if b=true then te σ2 H4 fun y H5=>∃ ys,H5 D=some (.lst ys)/\ys.length < sizeLine/\N σ2 (upd H5 D (.lst (ys++[y]))) else N σ2 H4))
  (hR:∀(D C:Addr)(H':Hp)(s':Shared)(m:Str->Option Value),s.heap.objs.size<=C->H' C=none->s'.heap.Ns C m->(∀ h',Pl C s'.heap h'->Inv X pins σ H' { s' with heap:=h' })->Q D H'->RR (.ref D) C (.ok .next) s') :
  wpAny (model X.prog X.w) X.A (newList []) (fun acc s₃=>wpAny (model X.prog X.w) X.A (newFunctionEnv scope X.env.globals (Dk X.env scope.names []) [] X.env.qual none .none (some X.env)) (fun cenv s₄ =>
   codeAny (model X.prog X.w) X.A (.compStart (.ListComp elt [⟨target,iter,ifs,0⟩] scope pos) 0 (.ref it) acc { cenv with scope:=relabel scope X.env }) (RR acc cenv.locals) s₄) E s₃) E s:=by
 refine Rn (wpAny_newFunctionEnv S.nocell (by intro y hy;simp at hy) (fun h₁ hns₁ hsb₁=>?_) S.kind)
 have hD:H s.heap.objs.size=none:=I.hok.fresh (O4 _)
 have I3:Inv X pins σ (upd H s.heap.objs.size (.lst [])) { s with heap:=s.heap.push { cls:=.type "list",dict:=none,data:=.seq ([]:List Value).toArray } }:=I.lnew (ys:=[]) (its:=[]) (t':=s.toks) .nil (by simp)
 have hlt:∀ b∈fp,b < s.heap.objs.size:=fun b hb=>by obtain ⟨o,e,_⟩:=Tn.obj _ _ st b hb;exact O8 e
 have hf3:∀ b∈fp,FpOk X pins (upd H s.heap.objs.size (.lst [])) b:=fun b hb=>⟨by rw [Af (Pg (hlt b hb))];exact (hf b hb).1,(hf b hb).2⟩
 have hlt3:∀ b∈fp,b < ({ s with heap:=s.heap.push { cls:=.type "list",dict:=none,data:=.seq ([]:List Value).toArray } }:Shared).heap.objs.size:=fun b hb=>by
  show b < (s.heap.push _).objs.size
  rw [P8]
  exact Nat.lt_succ_of_lt (hlt b hb)
 have hk1:∀ b o,({ s with heap:=s.heap.push { cls:=.type "list",dict:=none,data:=.seq ([]:List Value).toArray } }:Shared).heap.get? b=some o->h₁.get? b=some o:=fun b o e =>
  hsb₁.extBut b o (Pg (O8 e)) (O6 _ e)
 have I4:=Zlr (N:=N) (tk:=s.toks+([]:List (Str×Value)).length) I3 S hf3 hlt3 T hns₁ hk1
 have st4:tn 0 h₁:=Tn.keep _ _ _ st fun b hb o e=>hk1 b o (O6 _ e)
 obtain ⟨W,⟨m0,w0⟩,turn⟩:=hw _ hD
 generalize hX:Cj X scope ({ s with heap:=s.heap.push { cls:=.type "list",dict:=none,data:=.seq ([]:List Value).toArray } }:Shared).heap.objs.size N { s with heap:=s.heap.push { cls:=.type "list",dict:=none,data:=.seq ([]:List Value).toArray } } (upd H s.heap.objs.size (.lst [])) fp=X' at I4
 have eP:X'.prog=X.prog:=by rw [<- hX];rfl
 have eW:X'.w=X.w:=by rw [<- hX];rfl
 have eK:X'.K=X.K:=by rw [<- hX];rfl
 have eA:X'.A=X.A:=by rw [<- hX];rfl
 have eC:X'.calm=true:=by rw [<- hX];exact hc
 have eX:X'.xe=fun _ _=>False:=by rw [<- hX];rfl
 have eEx:X'.ex=fp:=by rw [<- hX];rfl
 have hg':PG X' target g:=by rw [<- hX];exact hg _ _ _ _
 have ht':Gq X' ifs tt:=by rw [<- hX];exact ht _ _ _ _
 have he':PE X' elt te:=by rw [<- hX];exact he _ _ _ _
 have eE:X'.env=compEnvC scope (Dk X.env scope.names []) ({ s with heap:=s.heap.push { cls:=.type "list",dict:=none,data:=.seq ([]:List Value).toArray } }:Shared).heap.objs.size X.env:=by rw [<- hX];rfl
 have fpIn:∀{H':Hp},(∀ b∈fp,H' b=none)->∀ b∈fp,FpOk X' [] H' b:=fun {H'} hn b hb=>by
  obtain ⟨f0,f1,f2,f3,f4,f5⟩:=hf3 b hb
  rw [<- hX]
  refine ⟨hn b hb,Pg (hlt3 b hb),fun z=>?_,.inl hb,fun x c e=>f4 x c (Zap (ns:=scope.names) (acc:=[]) (fun y d z=>by simp at z) e),fun p hp=>absurd (show p∈([]:List (Addr×Obj)) from hp) (by simp)⟩
  rcases Pb.mp (I3.stkSub b z) with e | e
  ·exact f1 e
  ·exact f2 e
 have fr0:∀ b∈fp,upd H s.heap.objs.size (.lst []) b=none:=fun b hb=>(hf3 b hb).1
 have loop:codeAny (model X.prog X.w) X.A (.compLoop (.ListComp elt [⟨target,iter,ifs,0⟩] scope pos) 0 (.ref it) (.ref s.heap.objs.size) X'.env)
   (RR (.ref s.heap.objs.size) ({ s with heap:=s.heap.push { cls:=.type "list",dict:=none,data:=.seq ([]:List Value).toArray } }:Shared).heap.objs.size)
   { s with heap:=h₁,toks:=s.toks+([]:List (Str×Value)).length }:=by
  refine Zrn (fun n s'=>∃ i σ' H',Inv X' [] σ' H' s'/\tn i s'.heap/\(∀ b∈fp,H' b=none)/\W i n σ' H') ?_ m0 ⟨0,σ0 σ,_,I4,st4,fr0,w0⟩
  rintro n s5 ⟨i,σ5,H5,I5,st5,fr5,w5⟩
  rcases turn i n σ5 H5 w5 with ⟨stop,qn⟩ | ⟨go,Nx,hN,step⟩
  ·have q:=Tn.done X' eP eW eK eC i [] s5 σ5 H5 (fun _ _=>False) I5 (fpIn fr5) st5 stop
   rw [eA] at q
   refine Aj q fun r s6 zq=>?_
   obtain ⟨hr,I6⟩:=zq
   subst hr
   obtain ⟨mm,hns6,_⟩:=I6.loc
   rw [eE] at hns6
   have fr6:=I6.free
   rw [eE] at fr6
   refine hR _ _ H5 s6 mm ?_ fr6 hns6 (fun h' hs=>?_) qn
   ·show s.heap.objs.size<=(s.heap.push _).objs.size
    rw [P8]
    exact T2 _
   ·rw [<- hX] at I6
    exact Zko I3 hf3 I6 hs
  ·have q:=Tn.item X' eP eW eK eC i [] s5 σ5 H5 (fun _ _=>False) I5 (fpIn fr5) st5 go
   rw [eA] at q
   refine Aj q fun r s6 zq=>?_
   obtain ⟨u,hr,h6⟩:=zq
   subst hr
   refine Aj h6 fun _ s7 zq=>?_
   obtain ⟨x,H7,I7,r7,y7,st7,fr7⟩:=zq
   have I7':=I7.pinned (fpIn fr7) (Tn.obj _ _ st7)
   have q8:=hg' _ s7 σ5 H7 x u _ I7' r7 (step x H7 y7)
   rw [eP,eW,eA,eX] at q8
   refine Aj q8 fun _ s8 zq=>?_
   obtain ⟨σ8,H8,I8,q8⟩:=zq
   have q9:=ht' _ s8 σ8 H8 _ I8 q8
   rw [eP,eW,eA,eX] at q9
   refine Aj q9 fun ok s9 zq=>?_
   obtain ⟨H9,I9,q9⟩:=zq
   have again:∀{σ10:St}{H10:Hp}{s10:Shared},Inv X' ([]++Kk fp s7.heap) σ10 H10 s10->Nx σ10 H10->∃ m,m < n/\∃ i σ' H',Inv X' [] σ' H' s10/\tn i s10.heap/\(∀ b∈fp,H' b=none)/\W i m σ' H':=fun {σ10 H10 s10} J10 n10=>by
    obtain ⟨m',hm,w10⟩:=hN σ10 H10 n10
    refine ⟨m',hm,i+1,σ10,H10,J10.unpinned,Tn.keep _ _ _ st7 fun b hb o e=>(J10.pin (b,o) (Qy _ (Qy _ (Lw hb e)))).1,fun b hb=>?_,w10⟩
    obtain ⟨o,e,d⟩:=Tn.obj _ _ st7 b hb
    exact (J10.pin (b,o) (Qy _ (Qy _ (Lw hb e)))).2.1
   cases ok with
   | false =>
    have q9':Nx σ8 H9:=q9
    exact again I9 q9'
   | true =>
    have q9':te σ8 H9 _:=q9
    have q10:=he' _ s9 σ8 H9 _ I9 q9'
    rw [eP,eW,eA,eX] at q10
    refine Aj q10 fun y s10 zq=>?_
    obtain ⟨yv,H10,I10,r10,ys,hys,hz,n10⟩:=zq
    have q11:=(Ck (X:=X')) _ s10 σ8 H10 (.ref s.heap.objs.size) [yv] (.ref s.heap.objs.size) [y] (fun _ H11=>Nx σ8 H11) I10 rfl (.cons r10 .nil) ⟨_,ys,yv,rfl,rfl,hys,hz,n10⟩
    rw [eP,eW,eA,eX] at q11
    exact Aj q11 fun _ s11 ⟨_,H11,I11,_,n11⟩=>again I11 n11
 rw [eE] at loop
 exact codeAny_compStart_list loop (Tn.self _ 0 _ _ _ st4 loop)
theorem Zi7 (hc:X.calm=true)(S:G8 scope X.env)(hi:PI X target iter wi)(T:∀ σ,σ.length=X.N.length->Fl X scope N σ (σ0 σ))
  (hg:∀ C s H fp,PG (Cj X scope C N s H fp) target g) (ht:∀ C s H fp,Gq (Cj X scope C N s H fp) ifs tt) (he:∀ C s H fp,PE (Cj X scope C N s H fp) elt te)
  (hs:∀ x,foldedSetIterable iter X.env x=pure x:=by intro _;rfl):PE X (.ListComp elt [⟨target,iter,ifs,0⟩] scope pos) (K9 wi σ0 g tt te):=by
 intro pins s σ H Q I h
 rw [eval_ListComp]
 refine wpAny_comprehension_free (use:=none) rfl hs (Zhd S.free) S.kind S.loc (Aj (hi pins s σ H _ I h) fun xv s₁ h₁=>Aj h₁ fun itv s₂ h₂=>?_)
 obtain ⟨it,fp,tn,J,H2,rfl,I2,Tn,st2,f2,hw⟩:=h₂
 refine Zel (Q:=fun D H'=>Q (.ref D) H') (RR:=fun acc C=>compPost (model X.prog X.w) X.A X.xe none (EP X pins σ Q) acc C) hc S (T σ I.len) I2 Tn st2 f2 hg ht he hw ?_
 intro D C H' s' m hC _ hn hI hq
 exact ⟨m,hn,fun h' hs'=>⟨.ref D,H',hI h' hs',rfl,hq⟩⟩
theorem Zrw {i:Nat}{y:Str}{py spos:Pos}(hc:X.calm=true)(S:G8 scope X.env)(hi:PI X target iter wi)(T:∀ σ,σ.length=X.N.length->Fl X scope N σ (σ0 σ))
  (hg:∀ C s H fp,PG (Cj X scope C N s H fp) target g) (ht:∀ C s H fp,Gq (Cj X scope C N s H fp) ifs tt) (he:∀ C s H fp,PE (Cj X scope C N s H fp) elt te)
  (hN:X.N.Nodup) (hy:X.N[i]?=some y) (hx:Eu X.env.scope y)
  (hsw:swapsWith (.ListComp elt [⟨target,iter,ifs,0⟩] scope pos) (some (.Name y py)) spos.line X.env=pure true:=by rfl)
  (hf:X.fn y=true\/X.env.scope.names.lookup y=some .local:=by first | exact .inl rfl | exact .inr rfl | assumption)
  (hs:∀ x,foldedSetIterable iter X.env x=pure x:=by intro _;rfl):PS X (.Assign [.Name y py] (.ListComp elt [⟨target,iter,ifs,0⟩] scope pos) spos) (F6 (K9 wi σ0 g tt te) (Fs i)):=by
 intro pins s σ H D I h
 rw [exec_Assign_Name_used _ _ _ _ hsw]
 refine O2 (Vh (O2 ?_))
 show wpAny _ X.A (do let _ <- comprehension (.ListComp elt [⟨target,iter,ifs,0⟩] scope pos) scope X.env _ (newList []) false (eval iter X.env) (some (assign (.Name y py) X.env))) _ _ s
 refine O2 (Aj (wpAny_comprehension_free (use:=some (assign (.Name y py) X.env)) (Q:=fun _ s'=>SP X pins D .next s') rfl hs (Zhd S.free) S.kind S.loc
  (Aj (hi pins s σ H _ I h) fun xv s₁ h₁=>Aj h₁ fun itv s₂ h₂=>?_)) fun _ s' hq=>O3 (O3 hq))
 obtain ⟨it,fp,tn,J,H2,rfl,I2,Tn,st2,f2,hw⟩:=h₂
 refine Zel (Q:=fun L H'=>D.nx (σ.set i (some (.ref L))) H') (RR:=fun acc C=>compPost (model X.prog X.w) X.A X.xe (some (assign (.Name y py) X.env)) (fun _ s'=>SP X pins D .next s') acc C) hc S (T σ I.len) I2 Tn st2 f2 hg ht he hw ?_
 intro L C H' s' m hC hfree hn hI hq
 have I3:Inv X pins σ H' s':=hI s'.heap (.refl ..)
 refine wpAny_assign_Name (Zhg I3 hN hy hx (v:=.ref L) rfl (fun s4 I4 hch=>?_) hf)
 obtain ⟨a,hsb,ha⟩:=hch
 have haC:C≠a:=by
  rintro rfl
  rcases ha with e | e
  ·have:=I2.lt
   rw [<- e] at this
   exact absurd (Pk this hC) (Qn _)
  ·obtain ⟨v,z⟩:=I2.cell y _ e
   exact absurd (Pk z.lt hC) (Qn _)
 refine ⟨m,hn.sameBut hsb haC,fun h' hs'=>⟨_,H',?_,hq⟩⟩
 have e4:({ s4 with heap:=h' }:Shared)={ s4 with heap:=h',toks:=s4.toks }:=rfl
 rw [e4]
 refine I4.turned (it:=C) (fun b o hb e=>(hs'.2 b hb).trans e) hfree ?_ (.inr (Px I2.sz hC)) ?_ ?_
 ·exact Qb (Pk I2.lt hC)
 ·rintro x c e rfl
  obtain ⟨v,z⟩:=I2.cell x _ e
  exact absurd (Pk z.lt hC) (Qn _)
 ·rintro p hp e
  exact absurd (Pk (O8 (I2.pin p hp).1) (by rw [e];exact hC)) (Qn _)
end
section
variable {X:Cx}
theorem Zlm {K:O1}{T:String}:Pu K (.type T) (.type T)=some true:=by
 unfold Pu
 rw [if_pos (by simp)]
theorem Zn1 {K:O1}{T U:String}{b:Bool}{l:List Value}(hm:PySem.W.kitMeta U=true)(hn:¬ T=U)(hl:fastBuiltinMro T=some l)(hb:l.contains (.type U)=b):Pu K (.type T) (.type U)=some b:=by
 unfold Pu
 rw [if_neg (by simp [hn])]
 show (if PySem.W.kitMeta U=true then Pi K (.type T) (.type U) else none)=some b
 rw [if_pos hm]
 show (fastBuiltinMro T).map (·.contains (.type U))=some b
 rw [hl,<- hb]
 rfl
theorem Zi3:OpR X (compareOp .LtE) (fun x y H Q=>∃ i j,x=.str i/\y=.str j/\Q (.bl (!(decide (j.cps.toList < i.cps.toList)))) H):=by
 intro pins s σ H x y v u Q I rx ry h
 obtain ⟨i,j,rfl,rfl,q⟩:=h
 obtain ⟨t,rfl⟩:=rx
 obtain ⟨t',rfl⟩:=ry
 exact PySem.P.le_str (Bl I q rfl)
theorem Zp8:OpR X (compareOp .In) (fun x y H Q=>∃(c:Nat)(j:Str),x=.str ⟨#[c]⟩/\y=.str j/\Q (.bl (decide (c∈j.cps.toList))) H):=by
 intro pins s σ H x y v u Q I rx ry h
 obtain ⟨c,j,rfl,rfl,q⟩:=h
 exact Znp pins s σ H _ _ v u Q I rx ry ⟨_,_,rfl,rfl,by rw [StrLaws.found_one];exact q⟩
noncomputable def Zbq:V->Option Int->Option Int->Hp->VK->Prop:=fun x lo hi H Q=>∃ z,x=.str z/\z.length<=sizeLine/\Q (.str (T7 z lo hi)) H
theorem sl_str:SlR X Zbq:=by
 intro pins s σ H x v vl vu lo hi sl Q I rx hs pl pu h
 obtain ⟨z,rfl,hz,q⟩:=h
 obtain ⟨t,rfl⟩:=rx
 obtain ⟨o,ho,hc,hd⟩:=hs
 refine ⟨"str",_,slot_str_getitem.lookup,typeIs_str _ _ _,?_⟩
 cases pl with
 | none =>
  cases pu with
  | none=>exact Uj (l:=none) (u:=none) (st:=none) ⟨_,ho,hc,hd⟩ rfl (U9 ⟨Px (Vm z _ _) hz,fun t' k=>⟨.str (T7 z _ _),H,I.tok k,⟨t',rfl⟩,q⟩⟩)
  | int j u=>exact Uj (l:=none) (u:=some (j,u)) (st:=none) ⟨_,ho,hc,hd⟩ rfl (U9 ⟨Px (Vm z _ _) hz,fun t' k=>⟨.str (T7 z _ _),H,I.tok k,⟨t',rfl⟩,q⟩⟩)
 | int i ti =>
  cases pu with
  | none=>exact Uj (l:=some (i,ti)) (u:=none) (st:=none) ⟨_,ho,hc,hd⟩ rfl (U9 ⟨Px (Vm z _ _) hz,fun t' k=>⟨.str (T7 z _ _),H,I.tok k,⟨t',rfl⟩,q⟩⟩)
  | int j u=>exact Uj (l:=some (i,ti)) (u:=some (j,u)) (st:=none) ⟨_,ho,hc,hd⟩ rfl (U9 ⟨Px (Vm z _ _) hz,fun t' k=>⟨.str (T7 z _ _),H,I.tok k,⟨t',rfl⟩,q⟩⟩)
end
noncomputable def Its (z:Str):It:=⟨fun i _=>i < z.cps.size,fun i H x H'=>H'=H/\∃ c,z.cps.toList[i]?=some c/\x=.str ⟨#[c]⟩,fun i _=>i=z.cps.size⟩
theorem Zi2 (z:Str):["enumerate", "zip", "dict_itemiterator", "dict_reverseitemiterator", "odict_iterator", "itertools.zip_longest", "itertools.pairwise"].contains (strIterType z)=false:=by
 unfold strIterType
 cases z.cps.all (· < 128) <;> decide
theorem Ze3 {P:Program}{w:World}{A:Around}(hh:A.handled=none)(it:Addr)(z:Str)(t:Tok):Walks P w A it [it] [it] z.cps.size (SignAt z) (fun i h=>h.IsStrIter it (strIterType z) z t i):=by
 unfold strIterType
 cases z.cps.all (· < 128)
 ·exact Walks.strWide hh it z t
 ·exact Walks.strAscii hh it z t
theorem Zmz {P:Program}{w:World}{K:O1}{tg:Expr}(it:Addr)(z:Str)(t:Tok):G6 P w K tg (Its z) [it] it (fun i h=>h.IsStrIter it (strIterType z) z t i) where
 mem:=by simp
 obj:=fun i h st b hb=>by
  have e:b=it:=by simpa using hb
  subst e
  obtain ⟨o,e,c,d⟩:=st
  exact ⟨o,e,fun v z=>by rw [d] at z;cases z⟩
 keep:=fun i h h' st k=>let ⟨o,e,r⟩:=st;⟨o,k it (by simp) o e,r⟩
 item:=by
  intro X hP hw hK hc i pins s σ H E I hf st hg
  subst hP hw hK
  obtain ⟨f0,f1,f2,f3,f4,f5⟩:=hf it (by simp)
  refine (Ze3 (P:=X.prog) (w:=X.w) (I.ok.hd hc) it z t).item i s _ _ hg st fun v h' tk hv st' kk=>?_
  obtain ⟨c,u,hcu,rfl⟩:=hv
  have I1:Inv X pins σ H { s with heap:=h',toks:=tk }:=I.turned (fun b o hb e=>kk b o (by simpa using hb) e) f0 f1 f3 f4 f5
  obtain ⟨o,e,cc,d⟩:=id st'
  exact ⟨_,rfl,J0 (s:={ s with heap:=h',toks:=tk }) e cc d (Zi2 z) ⟨.str ⟨#[c]⟩,H,I1,⟨u,rfl⟩,⟨rfl,c,by simpa using hcu,rfl⟩,st',fun b hb=>(hf b hb).1⟩⟩
 done:=by
  intro X hP hw hK hc i pins s σ H E I hf st hg
  subst hP hw hK
  obtain ⟨f0,f1,f2,f3,f4,f5⟩:=hf it (by simp)
  have hg:i=z.cps.size:=hg
  subst hg
  exact (Ze3 (P:=X.prog) (w:=X.w) (I.ok.hd hc) it z t).done s _ _ st fun h' tk kk=>⟨rfl,I.turned (fun b o hb e=>kk b o (by simpa using hb) e) f0 f1 f3 f4 f5⟩
 self:=fun A i s Q E st h=>by
  obtain ⟨o,e,c,d⟩:=st
  unfold strIterType at c
  cases ha:z.cps.all (· < 128)
  ·rw [ha] at c;exact wpAny_pyIter_striter_wide ⟨o,e,c,d⟩ h
  ·rw [ha] at c;exact wpAny_pyIter_striter_ascii ⟨o,e,c,d⟩ h
section
variable {X:Cx}{tg:Expr}
end
section
variable {g:TG}{tt:TT}{te:TE}{σ0:St}{H1:Hp}{D:Addr}{Q:VK}
noncomputable def Zad (g:TG)(tt:TT)(te:TE)(D:Addr)(Nx:List V->St->Hp->Prop)(x:V)(σ:St)(H:Hp):Prop :=
 g x σ H fun σ2 H3=>tt σ2 H3 fun b H4=>if b=true then te σ2 H4 fun y H5=>∃ ys,H5 D=some (.lst ys)/\ys.length < sizeLine/\(∃ zs,upd H5 D (.lst (ys++[y])) D=some (.lst zs)/\Nx zs σ2 (upd H5 D (.lst (ys++[y])))) else ∃ zs,H4 D=some (.lst zs)/\Nx zs σ2 H4
theorem Iy {K:O1}{a:Addr}{xs:List V}(Pv:Nat->List V->St->Hp->Prop)(h0:Pv 0 [] σ0 (upd H1 D (.lst [])))(hl:∀ i ys σ H,i<=xs.length->Pv i ys σ H->SqL K H a xs)
  (hs:∀ i x ys σ H,xs[i]?=some x->H D=some (.lst ys)->Pv i ys σ H->Zad g tt te D (Pv (i+1)) x σ H)
  (hd:∀ ys σ H,H D=some (.lst ys)->Pv xs.length ys σ H->Q (.ref D) H):Mb (Hd K a) g tt te σ0 H1 D Q:=by
 refine ⟨fun i m σ H=>m=xs.length - i/\i<=xs.length/\∃ ys,H D=some (.lst ys)/\Pv i ys σ H,⟨xs.length,by simp,Pw _,[],Ad,h0⟩,?_⟩
 rintro i m σ H ⟨rfl,hi,ys,hD,p⟩
 have q:=hl i ys σ H hi p
 by_cases hlt:i < xs.length
 ·refine .inr ⟨⟨xs,xs[i],q,by simp [hlt]⟩,fun σ2 H2=>∃ zs,H2 D=some (.lst zs)/\Pv (i+1) zs σ2 H2,fun σ' H' p'=>⟨xs.length - (i+1),by omega,rfl,hlt,p'⟩,fun x H' y=>?_⟩
  obtain ⟨e,y⟩:=y
  subst e
  exact hs i x ys σ _ (y xs q) hD p
 ·have e:i=xs.length:=by omega
  subst e
  exact .inl ⟨⟨xs,q,O4 _⟩,hd ys σ H hD p⟩
end
section
variable {X:Cx}
theorem Zhj:∀{bs:List Bool}{us:List Value},Vals (bs.map V.bl) us->us=bs.map Value.bool
 | [],_,.nil=>rfl
 | b::bs,_,.cons r t=>by
  cases r
  rw [Zhj t]
  rfl
theorem Zl7 {bs:List Bool}:(Pp bs.length).all (fun i=>bs.getD i true)=bs.all id:=by
 induction bs with
 | nil=>rfl
 | cons b r ih =>
  rw [Ps,List.range_succ_eq_map,Q2,List.all_map,Q2]
  have:((fun i=>(b::r).getD i true) ∘ Nat.succ)=fun i=>r.getD i true:=by
   funext i
   simp
  rw [this,ih]
  rfl
theorem Zkf (hc:X.calm=true):Cb X (.builtin "all") (fun xs H Q=>∃(p:Addr)(bs:List Bool),xs=[.ref p]/\SqL X.K H p (bs.map V.bl)/\Q (.bl (bs.all id)) H):=by
 intro pins s σ H xs us Q I r h
 obtain ⟨p,bs,rfl,hq,q⟩:=h
 obtain ⟨u,rfl,ru⟩:=r.one
 cases ru
 obtain ⟨its,rv,pl,hz⟩:=I.list hq
 obtain rfl:=Zhj rv
 refine call_all_walk (Tk pl.isList ?_)
 have hlt:p < s.heap.objs.size:=by obtain ⟨o,e,_⟩:=pl.isList;exact O8 e
 have hl':(s.heap.push { cls:=.type "list_iterator",data:=.fields #[.ref p,rawInt 0] }).IsList p (bs.map Value.bool).toArray:=pl.isList.at fun o e=>O6 _ e
 refine ⟨s.heap.objs.size,_,_,_,_,_,fun i=>bs.getD i true,rfl,Walks.list (A:=X.A.in1) (show X.A.in1.handled=none from I.ok.hd hc) s.heap.objs.size p (Pg hlt) (bs.map Value.bool).toArray,⟨⟨_,Pe _ rfl,rfl,rfl⟩,?_⟩,?_,?_⟩
 ·exact pl.isList.at fun o e=>O6 _ e
 ·intro i v s' Q' E' hv hQ
  have hv':(bs.map Value.bool)[i]?=some v:=by simpa using hv
  rw [Qj] at hv'
  cases e:bs[i]? with
  | none=>rw [e] at hv';cases hv'
  | some b =>
   rw [e] at hv'
   cases hv'
   have:bs.getD i true=b:=by simp [List.getD,e]
   have hQ:Q' (bs.getD i true) s':=hQ
   rw [this] at hQ
   exact Q7 hQ
 ·intro h' tk hk
  have I1:Inv X pins σ H { s with heap:=s.heap.push { cls:=.type "list_iterator",data:=.fields #[.ref p,rawInt 0] } }:=I.kept (t':=s.toks) fun b o e=>O6 _ e
  have F:=I.fpOk (O4 s.heap.objs.size) (I.hok.fresh (O4 _))
  obtain ⟨f0,f1,f2,f3,f4,f5⟩:=F
  have I2:Inv X pins σ H { s with heap:=h',toks:=tk }:=Inv.turned (s:={ s with heap:=s.heap.push { cls:=.type "list_iterator",data:=.fields #[.ref p,rawInt 0] } }) (h':=h') (t':=tk) (it:=s.heap.objs.size) I1 (fun b o hb e=>hk b o (by simpa using hb) e) f0 f1 f3 f4 f5
  refine ⟨.bl (bs.all id),H,I2,?_,q⟩
  show Value.bool _=Value.bool _
  have:(bs.map Value.bool).toArray.size=bs.length:=by simp
  rw [this,Zl7]
end
theorem Same.upd {H:Hp}{p:Addr}{o:HO}(h:H p=none):Same H (upd H p o):=fun b u e=>by rw [Af (B8 e h)];exact e
theorem Cn {H:Hp}{a:Addr}(h:H a=none)(o:HO):∃ H1,Same H H1/\H1 a=some o/\upd H a o=H1:=⟨_,Same.upd h,Ad,rfl⟩
theorem Same.put {H0 H:Hp}{p:Addr}{o:HO}(s:Same H0 H)(h:H p=none):Same H0 (L2.upd H p o):=s.trans (Same.upd h)
theorem Same.over {H0 H:Hp}{p:Addr}{o:HO}(s:Same H0 H)(h:H0 p=none):Same H0 (L2.upd H p o):=fun b u e=>by rw [Af (B8 e h)];exact s b u e
theorem Same.tup {K:O1}{H H':Hp}{a:Addr}{xs:List V}(e:Same H H')(h:SqT K H a xs):SqT K H' a xs:=by
 rcases h with (h | ⟨o,h⟩) | h
 ·exact .inl (.inl (e _ _ h))
 ·exact .inl (.inr ⟨o,e _ _ h⟩)
 ·exact .inr h
theorem Fq {sc out:Scope}{qual:Str}{n:Nat}{f:Addr}{cd:Value}(hk:sc.kind=.function)(hc:(sc.names.all fun y=>y.2 != .cell)=true)
  (hl:(sc.names.all fun y=>y.2 != .local || sc.names.lookup y.1 == some .local)=true) (hf:(sc.names.all fun y=>y.2 != .free || out.names.lookup y.1 == some .cell)=true):G8 sc (envOfC qual out n f cd) where
 kind:=hk
 nocell:=fun y hy e=>by have:=Sn.mp hc y hy;rw [e] at this;cases this
 loc:=fun y hy e=>by
  have:=Sn.mp hl y hy
  rw [e] at this
  simpa using this
 free:=fun y hy e=>by
  have h:=Sn.mp hf y hy
  rw [e] at h
  have h:out.names.lookup y.1=some .cell:=by simpa using h
  obtain ⟨c,hc⟩:=Zbw (n:=n+1) h
  show ((cellsFrom (n+1) out.names []).lookup y.1).isSome=true
  rw [hc]
  rfl
noncomputable def Dv (k:Nat)(cap:List Nat)(σ:St):St:=Pn k none++cap.map fun j=>(σ[j]?).join
theorem Zi1 {X:Cx}{scope:Scope}{N:List Str}{k:Nat}{cap:List Nat}{σ:St}(hl:k+cap.length=N.length)
  (h:∀(i j:Nat)(x:Str),cap[i]?=some j->N[k+i]?=some x->X.N[j]?=some x/\scope.names.lookup x=some .free/\(X.env.kindOf x=some .cell\/X.env.kindOf x=some .free)):Fl X scope N σ (Dv k cap σ):=by
 refine ⟨by unfold Dv;simp [hl],fun i x v hx hv=>?_⟩
 unfold Dv at hv
 by_cases hi:i < k
 ·rw [Qd (by simpa using hi),List.getElem?_replicate,if_pos hi] at hv
  cases hv
 ·rw [Qw (by simpa using hi),List.length_replicate,Qj] at hv
  cases hj:cap[i - k]? with
  | none=>rw [hj] at hv;cases hv
  | some j =>
   rw [hj] at hv
   have hv:(σ[j]?).join=some v:=P6 hv
   obtain ⟨h1,h2,h3⟩:=h (i - k) j x hj (by rw [show k+(i - k)=i by omega];exact hx)
   refine ⟨j,h1,?_,h2,h3⟩
   cases e:σ[j]? with
   | none=>rw [e] at hv;cases hv
   | some o=>rw [e] at hv;exact congrArg some hv
theorem Fy {X:Cx}{scope:Scope}{N:List Str}{k:Nat}{cap:List Nat}(hl:k+cap.length=N.length)
  (h:((cap.zip (N.drop k)).all fun p=>X.N[p.1]? == some p.2 && scope.names.lookup p.2 == some .free && (X.env.kindOf p.2 == some .cell || X.env.kindOf p.2 == some .free))=true):∀ σ,σ.length=X.N.length->Fl X scope N σ (Dv k cap σ):=fun σ _ =>
 Zi1 hl fun i j x hj hx=>by
  have m:(j,x)∈cap.zip (N.drop k):=by
   refine Qr (i:=i) ?_
   rw [List.getElem?_zip_eq_some]
   exact ⟨hj,by rw [List.getElem?_drop];exact hx⟩
  have:=Sn.mp h _ m
  simp only [Ro,Bool.or_eq_true,beq_iff_eq] at this
  exact ⟨this.1.1,this.1.2,this.2⟩
theorem Kn {α:Type}{xs:List α}{i:Int}(h0:0<=i)(h1:i < xs.length):∃ v,B2 xs i=some v/\v∈xs:=by
 have hj:i.toNat < xs.length:=by omega
 refine ⟨xs[i.toNat],?_,We hj⟩
 have:=Ci (xs:=xs) (j:=i.toNat) (v:=xs[i.toNat]) (by simp [hj])
 rwa [Int.toNat_of_nonneg h0] at this
noncomputable def Za0:Expr->Option V
 | .Constant (.str x) _ _=>some (.str x)
 | .Constant (.int i) _ _=>some (.int i)
 | .Constant (.bool b) _ _=>some (.bl b)
 | .Constant .none _ _=>some .non
 | _=>none
noncomputable def Lm:List Expr->Option (List V)
 | []=>some []
 | e::es=>match Za0 e,Lm es with
  | some v,some vs=>some (v::vs)
  | _,_=>none
noncomputable def Np (xs:List V):TA:=fun _ H Q=>Q xs H
theorem Zqi {X:Cx}{e:Expr}{v:V}(h:Za0 e=some v):PE X e (tC v)/\∀ es,starEach (e::es) X.env=(false,eval e X.env)::starEach es X.env:=by
 unfold Za0 at h
 split at h
 ·cases h;exact ⟨Zea,fun _=>rfl⟩
 ·cases h;exact ⟨Zew,fun _=>rfl⟩
 ·cases h;exact ⟨Zfa,fun _=>rfl⟩
 ·cases h;exact ⟨Zg1,fun _=>rfl⟩
 ·cases h
theorem Zfy {X:Cx}:∀{es:List Expr}{xs:List V},Lm es=some xs->PA X es (Np xs)
 | [],xs,h=>by
  have h:some []=some xs:=h
  cases h
  exact Ze4
 | e::es,xs,h=>by
  unfold Lm at h
  split at h
  ·rename_i v vs h1 h2
   cases h
   obtain ⟨p,hs⟩:=Zqi (X:=X) h1
   exact Zcq p (Zfy h2) (hs es)
  ·cases h
structure A4 (P:Program)(w:World)(K:O1)(mg:Str->Option Value)(base:Heap)(k:Nat)(x:Str)(ps:List Str)(sp:Sp):Prop where
 ex:∃(f:Addr)(fd:FuncData),FnOk P w K mg base Ao k f fd ps sp/\mg x=some (.ref f)/\Qm K (.ref f)=true/\Binds K fd ps []
section
variable {X:Cx}{k:Nat}{x:Str}{ps:List Str}{sp:Sp}{p pos:Pos}{e:Expr}{es:List Expr}{t:TA}
theorem Zjd (C:A4 X.prog X.w X.K X.mg X.base k x ps sp)(hr:Room k X.A)(ha:PA X (e::es) t)(hg:Gl X x:=by rfl)(hdb:(x == ("__debug__" : Str))=false:=by decide)
  (he:starEach (e::es) X.env=(false,eval e X.env)::starEach es X.env:=by rfl) (hpl:(backTo pos (starEach es X.env)).any (·.1)=false:=by rfl):PE X (.Call (.Name x p) (e::es) [] pos) (Kh sp [] E0 t):=by
 obtain ⟨f,fd,F,hm,hk,hb⟩:=C.ex
 exact Zdp F hr hg hm hk hb .nil Cz ha hdb he hpl
end
end L2
namespace L2
open PySem
theorem Zoj {x:V}{u:Value}(h:Lr u=some x):RelV x u:=by
 cases u <;> simp only [Lr] at h <;> first | (cases h;first | rfl | exact ⟨_,rfl⟩) | cases h
noncomputable def D6:List Value->Option (List V)
 | []=>some []
 | u::r=>match Lr u,D6 r with
  | some x,some xs=>some (x::xs)
  | _,_=>none
theorem Zd7:∀{us:List Value}{xs:List V},D6 us=some xs->Vals xs us
 | [],xs,h=>by
  have h:some []=some xs:=h
  cases h
  exact .nil
 | u::r,xs,h=>by
  unfold D6 at h
  split at h
  ·rename_i x ys h1 h2
   cases h
   exact .cons (Zoj h1) (Zd7 h2)
  ·cases h
theorem Gc {K:O1}{a:Addr}{od:Option Addr}{its:Array Value}{n:Nat}{sl:Array (Option Value)}{xs:List V}(l:K.lookup a=some ⟨.type "tuple",od,.seq its n,sl⟩)(h:D6 its.toList=some xs)(hz:xs.length<=1000):∀ H,SqT K H a xs:=fun H=>by
 have v:=Zd7 h
 refine .inr ⟨_,its,n,l,rfl,rfl,?_,v⟩
 have e:=v.length
 have b:1000<=sizeLine:=by decide
 have e2:its.toList.length=its.size:=Uv
 omega
theorem Km {P:Program}{w:World}{K:O1}{mg:Str->Option Value}{base:Heap}{k:Nat}{x:Str}{ps:List Str}{sp:Sp}{f:Addr}{fd:FuncData}(F:FnOk P w K mg base Ao k f fd ps sp)(m:mg x=some (.ref f))(kp:Qm K (.ref f)=true)(b:Binds K fd ps []):A4 P w K mg base k x ps sp:=⟨f,fd,F,m,kp,b⟩
section
variable {P:Program}{w:World}{K:O1}{mg:Str->Option Value}{base:Heap}
end
end L2
set_option autoImplicit true
namespace L2
open PySem PySem.Spec PyProof.Rows
structure QE (X:Cx)(e:Expr)(t:TE):Prop where
 run:PE X e t
structure QT (X:Cx)(e:Expr)(t:TT):Prop where
 run:PT X e t
structure QW (X:Cx)(e:Expr)(t:TT):Prop where
 run:PW X e t
structure QA (X:Cx)(es:List Expr)(t:TA):Prop where
 run:PA X es t
structure QS (X:Cx)(st:Stmt)(t:TS):Prop where
 run:PS X st t
structure C3 (X:Cx)(sts:List Stmt)(t:TS):Prop where
 run:PSs X sts t
structure QG (X:Cx)(e:Expr)(g:TG):Prop where
 run:PG X e g
structure QGs (X:Cx)(es:List Expr)(g:Ds):Prop where
 run:PGs X es g
structure QI (X:Cx)(tg iter:Expr)(wi:TI):Prop where
 run:PI X tg iter wi
structure QC (X:Cx)(op:CmpOp)(a b:Expr)(t:TE):Prop where
 run:PC X op a b t
structure QO (X:Cx)(e:Option Expr)(t:TO):Prop where
 run:PO X e t
structure QTs (X:Cx)(ifs:List Expr)(t:TT):Prop where
 run:Gq X ifs t
theorem Ac {i j pos}:QE X (.Constant (.int i) j pos) (tC (.int i)):=⟨Zew⟩
theorem Dl {b j pos}:QE X (.Constant (.bool b) j pos) (tC (.bl b)):=⟨Zfa⟩
theorem D4 {j pos}:QE X (.Constant .none j pos) (tC .non):=⟨Zg1⟩
theorem Am {x j pos}:QE X (.Constant (.str x) j pos) (tC (.str x)):=⟨Zea⟩
theorem Nn {x:Str}{v:V}{u:Value}{pos:Pos}(hg:Gl X x)(hm:X.mg x=some u)(r:RelV v u)(hd:(x == ("__debug__" : Str))=false:=by decide):QE X (.Name x pos) (tC v):=⟨Zg3 hg hm r hd⟩
theorem Ct {x:Str}{v:V}{u:Value}{pos:Pos}(hg:Gl X x)(hm:X.mg x=none)(hv:bootBuiltins x=some u)(r:RelV v u)(hn:x ≠ "__name__" := by decide)(hd:(x == ("__debug__" : Str))=false:=by decide):QE X (.Name x pos) (tC v):=⟨Zlw hg hm hv r hn hd⟩
theorem Ah {op:Operator}{r:R2}(ho:OpR X (binaryOp op) r)(ha:QE X a ta)(hb:QE X b tb):QE X (.BinOp a op b pos) (Ey r ta tb):=⟨Zr8 ho ha.run hb.run⟩
theorem Eo {op:UnaryOp}{r:V->Hp->VK->Prop}(ho:UnR X (unaryOp op) r)(ha:QE X a ta):QE X (.UnaryOp op a pos) (tUn r ta):=⟨Zjc ho ha.run⟩
theorem Zaf {op:CmpOp}{t:TE}(h:QC X op a b t)(h1:behindInMarks op b=false:=by first | exact Lo _ (by decide) (by decide) | rfl):QE X (.Compare a [op] [b] pos) t:=⟨Zky h.run h1⟩
theorem Zl0 {op:CmpOp}{t:TE}(h:QC X op a b t)(h1:behindInMarks op b=false:=by first | exact Lo _ (by decide) (by decide) | rfl):QT X (.Compare a [op] [b] pos) (tB t):=⟨Zne h.run h1⟩
theorem Ew {op:CmpOp}{r:R2}(ho:OpR X (compareOp op) r)(ha:QE X a ta)(hb:QE X b tb)(hm:behindInMarks op b=false):QE X (.Compare a [op] [b] pos) (Ey r ta tb):=⟨Zjb ho ha.run hb.run hm⟩
theorem Aw {op:CmpOp}{r:R2}(ho:OpR X (compareOp op) r)(ha:QE X a ta)(hb:QE X b tb)(hm:behindInMarks op b=false):QT X (.Compare a [op] [b] pos) (Oi (Ey r ta tb)):=⟨Zsh ho ha.run hb.run hm⟩
theorem Zgn {op op':CmpOp}{r r':R2}(ho:OpR X (compareOp op) r)(ho':OpR X (compareOp op') r')(ha:QE X a ta)(hb:QE X b tb)(hc:QE X c tc)(hm:lastMarks [op,op'] [b,c]=false:=by with_unfolding_all rfl):QE X (.Compare a [op,op'] [b,c] pos) (Ot r r' ta tb tc):=⟨Zja ho ho' ha.run hb.run hc.run hm⟩
theorem Cw {e:Expr}{t:TE}(h:QE X e t)(he:∀ whole,isTrue e X.env whole=(do let v <- whole;standAt e.pos;holding [v] (truthy v)):=by intro _;rfl):QT X e (tB t):=⟨Zk7 h.run he⟩
theorem D3 (ha:QT X a tA):QW X (.BoolOp .And [a] pos) tA:=⟨pw_and1 ha.run⟩
theorem F0 (ha:QT X a tA):QW X (.BoolOp .Or [a] pos) tA:=⟨pw_or1 ha.run⟩
theorem Du {rest:List Expr}(ha:QT X a tA)(hb:QW X (.BoolOp .And (b::rest) pos) tB'):QW X (.BoolOp .And (a::b::rest) pos) (Nq tA tB'):=⟨pw_and ha.run hb.run⟩
theorem Fo {rest:List Expr}(ha:QT X a tA)(hb:QW X (.BoolOp .Or (b::rest) pos) tB'):QW X (.BoolOp .Or (a::b::rest) pos) (tOr tA tB'):=⟨pw_or ha.run hb.run⟩
theorem Gf (ha:QT X a tA):QT X (.UnaryOp .Not a pos) (Ou tA):=⟨Zof ha.run⟩
theorem Fk {op}{t:TE}(h:QE X a t):QE X (.BoolOp op [a] pos) t:=⟨Zsq h.run⟩
theorem E3 {rest:List Expr}(ha:QE X a ta)(hb:QE X (.BoolOp .And (b::rest) pos) tb):QE X (.BoolOp .And (a::b::rest) pos) (Zay ta tb):=⟨Zio ha.run hb.run⟩
theorem Znr {rest:List Expr}(ha:QE X a ta)(hb:QE X (.BoolOp .Or (b::rest) pos) tb):QE X (.BoolOp .Or (a::b::rest) pos) (Zb0 ta tb):=⟨Zn2 ha.run hb.run⟩
theorem Zim (ha:QE X a ta):QE X (.UnaryOp .Not a pos) (Nh ta):=⟨Zh1 ha.run⟩
theorem Ma {c:Expr}(hc:QT X c tA)(ha:QE X a ta)(hb:QE X b tb):QE X (.IfExp c a b pos) (Hm tA ta tb):=⟨Zpo hc.run ha.run hb.run⟩
theorem A0  : C3 X [] N8:=⟨Zjx⟩
theorem Ae {st:Stmt}{rest:List Stmt}{t u:TS}(h1:QS X st t)(h2:C3 X rest u):C3 X (st::rest) (Mm t u):=⟨Zlo h1.run h2.run⟩
theorem Ag {st:Stmt}{t:TS}(h1:QS X st t):C3 X [st] t:=⟨Zlk h1.run⟩
theorem Bq {e:Expr}{te:TE}(he:QE X e te)(hs:swapsWith e none pos.line X.env=pure false:=by rfl):QS X (.Expr e pos) (Oo te):=⟨Zlg he.run hs⟩
theorem Au {e:Expr}{te:TE}(he:QE X e te):QS X (.Return (some e) pos) (Zbm te):=⟨Zh6 he.run⟩
theorem Ax {t u:TS}{c:Expr}{a b:List Stmt}{tc:TT}(hc:QT X c tc)(ha:C3 X a t)(hb:C3 X b u):QS X (.If c a b pos) (Cm tc t u):=⟨Zhs hc.run ha.run hb.run⟩
theorem Di  : QGs X [] Zbr:=⟨Zjp⟩
theorem Bv {e:Expr}{es:List Expr}{t:TG}{u:Ds}(h1:QG X e t)(h2:QGs X es u)(hs:(assignEach (e::es) X.env).map (·.2)=assign e X.env::(assignEach es X.env).map (·.2):=by rfl):QGs X (e::es) (Za7 t u):=⟨Zqy h1.run h2.run hs⟩
theorem A9 {i:Nat}{x:Str}(hN:X.N.Nodup)(hi:X.N[i]?=some x)(hx:Eu X.env.scope x)(hf:X.fn x=true\/X.env.scope.names.lookup x=some .local:=by first | exact .inl rfl | exact .inr rfl | assumption):QG X (.Name x pos) (Fs i):=⟨Zrp hN hi hx hf⟩
theorem Zqv {es:List Expr}{k:Nat}{t:Ds}{n:Nat}(hc:X.calm=true)(h:QGs X es t)(hn:(assignEach es X.env).length=n:=by rfl)(hst:(assignEach es X.env).findIdx? (·.1)=none:=by rfl):QG X (.Tuple es k pos) (Lg X.K n t):=⟨Zhz hc h.run hn hst⟩
theorem Fp {tg e:Expr}{te:TE}{g:TG}(he:QE X e te)(hg:QG X tg g)(hs:swapsWithSole [tg] e pos.line X.env=pure false:=by rfl)(hw:swappedStores [tg] e X.env=pure none:=by rfl)(h1:(assignEach [tg] X.env).map (·.2)=[assign tg X.env]:=by rfl):QS X (.Assign [tg] e pos) (F6 te g):=⟨Zrz he.run hg.run hs hw h1⟩
theorem Zro {i:Nat}{x:Str}{e:Expr}{te:TE}{pos':Pos}(hN:X.N.Nodup)(hi:X.N[i]?=some x)(hx:Eu X.env.scope x)(he:QE X e te)(hs:swapsWith e (some (.Name x pos')) pos.line X.env=pure false:=by rfl)(hf:X.fn x=true\/X.env.scope.names.lookup x=some .local:=by first | exact .inl rfl | exact .inr rfl | assumption):QS X (.Assign [.Name x pos'] e pos) (F6 te (Fs i)):=⟨Zkm hN hi hx he.run hs hf⟩
theorem Zer {c:Expr}{body:List Stmt}{tc:TT}{tb:TS}(hp:PassesOwn (model X.prog X.w) X.A X.env X.xe)(hc:QT X c tc)(hb:C3 X body tb):QS X (.While c body [] pos) (Ze0 tc tb):=⟨Zjt hp hc.run hb.run⟩
theorem Jh {a:Expr}{ta:TA}{p pos:Pos}(hg:Gl X "range")(hm:X.mg "range" = none)(ha:QA X [a] ta)(hs:starEach [a] X.env=[(false,eval a X.env)]:=by rfl):QI X tg (.Call (.Name "range" p) [a] [] pos) (Zb2 ta):=⟨Zlz hg hm ha.run hs⟩
theorem En {iter:Expr}{body:List Stmt}{wi:TI}{g:TG}{tb:TS}{pos:Pos}(hp:PassesOwn (model X.prog X.w) X.A X.env X.xe)(hc:X.calm=true)(hi:QI X tg iter wi)(hg:QG X tg g)(hb:C3 X body tb)(hs:∀ x,foldedSetIterable iter X.env x=pure x:=by intro _;rfl):QS X (.For tg iter body [] pos) (Og wi g tb):=⟨Zlq hp hc hi.run hg.run hb.run hs⟩
theorem Zhu (he:QE X e ta)(hb:attributeBase e f X.env (eval e X.env)=eval e X.env):QE X (.Attribute e f pos) (Zax X.K ta f):=⟨Zi8 he.run hb⟩
theorem Zmy (ha:QE X o ta)(hv:QE X value tv)(hs:swapsWith value (some (.Attribute o f pos')) pos.line X.env=pure false):QS X (.Assign [.Attribute o f pos'] value pos) (Lv X.K ta tv f):=⟨Zm0 ha.run hv.run hs⟩
theorem Ab  : QA X [] Gg:=⟨Ze4⟩
theorem Aa (ha:QE X e te)(hr:QA X es t)(hs:starEach (e::es) X.env=(false,eval e X.env)::starEach es X.env:=by rfl):QA X (e::es) (Zby te t):=⟨Zcq ha.run hr.run hs⟩
theorem Ak {x1}(h:QA X es t):QE X (.Tuple es x1 pos) (Zak t):=⟨Zqa h.run⟩
theorem Ba (h:QA X es t):QE X (.List es pos) (N1 t):=⟨Zq7 h.run⟩
theorem A1 (C:A4 X.prog X.w X.K X.mg X.base k x ps sp)(hr:Room k X.A)(ha:QA X (e::es) t)(hg:Gl X x:=by rfl)(hdb:(x == ("__debug__" : Str))=false:=by decide)(he:starEach (e::es) X.env=(false,eval e X.env)::starEach es X.env:=by rfl)(hpl:(backTo pos (starEach es X.env)).any (·.1)=false:=by rfl):QE X (.Call (.Name x p) (e::es) [] pos) (Kh sp [] E0 t):=⟨Zjd C hr ha.run hg hdb he hpl⟩
theorem Be {id:String}(hc:Cb X (.builtin id) r)(hg:Gl X x)(hm:X.mg x=none)(hv:bootBuiltins x=some (.builtin id))(ha:QA X (e::es) t)(hn:x ≠ "__name__" := by decide)(hdb:(x == ("__debug__" : Str))=false:=by decide)(he:starEach (e::es) X.env=(false,eval e X.env)::starEach es X.env:=by rfl)(hpl:(backTo pos (starEach es X.env)).any (·.1)=false:=by rfl):QE X (.Call (.Name x p) (e::es) [] pos) (tCB r t):=⟨Zpz hc hg hm hv ha.run hn hdb he hpl⟩
theorem Em {T:String}(hc:Cb X (.type T) r)(hg:Gl X x)(hm:X.mg x=none)(hv:bootBuiltins x=some (.type T))(ha:QA X (e::es) t)(hn:x ≠ "__name__" := by decide)(hdb:(x == ("__debug__" : Str))=false:=by decide)(he:starEach (e::es) X.env=(false,eval e X.env)::starEach es X.env:=by rfl)(hpl:(backTo pos (starEach es X.env)).any (·.1)=false:=by rfl):QE X (.Call (.Name x p) (e::es) [] pos) (tCB r t):=⟨Zmp hc hg hm hv ha.run hn hdb he hpl⟩
theorem Dn  : QO X none Oz:=⟨Zkd⟩
theorem C6 (h:QE X e te):QO X (some e) (Zab te):=⟨Zig h.run⟩
theorem Dm {lo hi:Option Expr}{r:V->Option Int->Option Int->Hp->VK->Prop}(hr:SlR X r)(he:QE X e te)(hl:QO X lo tl)(hu:QO X hi th):QE X (.Subscript e (.Slice lo hi none p2) pos) (tSl r te tl th):=⟨Zny hr he.run hl.run hu.run⟩
theorem Mz {r:R2}(hr:IxR X r)(ha:QE X a ta)(hb:QE X b tb)(hs:Zag b):QE X (.Subscript a b pos) (Ey r ta tb):=⟨Zih hr ha.run hb.run hs⟩
theorem Zog {T id:String}(pa:PlainAttrs T)(slot:Slot T name id)(hty:typeOf (.builtin id)=pure (.type "method_descriptor"))(hm:Ja X id r)(ho:QE X o to)(ha:QA X (e::es) t)(hbase:attributeBase o name X.env (eval o X.env)=eval o X.env:=by rfl)(hfew:((backTo cpos (starEach (e::es) X.env)).all (fun x=>!x.1) && (backToKw cpos (keywordEach [] X.env)).all (fun x=>x.1.isSome)
   && decide ((e::es).length+([]:List Keyword).length+(if ([]:List Keyword).isEmpty then 0 else 1) < 30))=true:=by rfl) (hline:(apos.endLine == cpos.line)=true:=by rfl) (hs:starEach (e::es) X.env=(false,eval e X.env)::starEach es X.env:=by rfl) (hplain:(backTo cpos (starEach es X.env)).any (·.1)=false:=by rfl):QE X (.Call (.Attribute o name apos) (e::es) [] cpos) (tBM X.K T r to t):=⟨Zo4 pa slot hty hm ho.run ha.run hbase hfew hline hs hplain⟩
theorem Zje {T id:String}(pa:PlainAttrs T)(slot:Slot T name id)(hty:typeOf (.builtin id)=pure (.type "method_descriptor"))(hm:Ja X id r)(ho:QE X o to)(hbase:attributeBase o name X.env (eval o X.env)=eval o X.env:=by rfl)(hline:(apos.endLine == cpos.line)=true:=by rfl):QE X (.Call (.Attribute o name apos) [] [] cpos) (Mr X.K T r to):=⟨Zh2 pa slot hty hm ho.run hbase hline⟩
theorem Me (hc:X.calm=true)(S:G8 scope X.env)(hi:QI X target iter wi)(T:∀ σ,σ.length=X.N.length->Fl X scope N σ (σ0 σ))(hg:∀ C s H fp,QG (Cj X scope C N s H fp) target g)(ht:∀ C s H fp,QTs (Cj X scope C N s H fp) ifs tt)(he:∀ C s H fp,QE (Cj X scope C N s H fp) elt te)(hs:∀ x,foldedSetIterable iter X.env x=pure x:=by intro _;rfl):QE X (.ListComp elt [⟨target,iter,ifs,0⟩] scope pos) (K9 wi σ0 g tt te):=⟨Zi7 hc S hi.run T (fun C s H fp=>(hg C s H fp).run) (fun C s H fp=>(ht C s H fp).run) (fun C s H fp=>(he C s H fp).run) hs⟩
theorem M8 {i:Nat}{y:Str}{py spos:Pos}(hc:X.calm=true)(S:G8 scope X.env)(hi:QI X target iter wi)(T:∀ σ,σ.length=X.N.length->Fl X scope N σ (σ0 σ))(hg:∀ C s H fp,QG (Cj X scope C N s H fp) target g)(ht:∀ C s H fp,QTs (Cj X scope C N s H fp) ifs tt)(he:∀ C s H fp,QE (Cj X scope C N s H fp) elt te)(hN:X.N.Nodup)(hy:X.N[i]?=some y)(hx:Eu X.env.scope y)(hsw:swapsWith (.ListComp elt [⟨target,iter,ifs,0⟩] scope pos) (some (.Name y py)) spos.line X.env=pure true:=by rfl)(hf:X.fn y=true\/X.env.scope.names.lookup y=some .local:=by first | exact .inl rfl | exact .inr rfl | assumption)(hs:∀ x,foldedSetIterable iter X.env x=pure x:=by intro _;rfl):QS X (.Assign [.Name y py] (.ListComp elt [⟨target,iter,ifs,0⟩] scope pos) spos) (F6 (K9 wi σ0 g tt te) (Fs i)):=⟨Zrw hc S hi.run T (fun C s H fp=>(hg C s H fp).run) (fun C s H fp=>(ht C s H fp).run) (fun C s H fp=>(he C s H fp).run) hN hy hx hsw hf hs⟩
theorem Gw {X:Cx}:QTs X [] Zar:=⟨Zll⟩
theorem Zjr {X:Cx}{c:Expr}{t:TT}(h:QT X c t):QTs X [c] t:=⟨Zi9 h.run⟩
theorem Zca {j pos'}(ha:QE X a ta):QC X .Is a (.Constant .none j pos') (N3 ta):=⟨Zl2 ha.run⟩
theorem Oy {X:Cx}{es:List Expr}{xs:List V}(h:Lm es=some xs):QA X es (Np xs):=⟨Zfy h⟩
theorem qv {X:Cx}(i:Nat){x:Str}{pos:Pos}(hN:X.N[i]?=some x:=by rfl)(hv:Vis X.env.scope x:=by first | exact Or.inl rfl | exact Or.inr (Or.inl rfl) | exact Or.inr (Or.inr rfl))(hd:(x == ("__debug__" : Str))=false:=by decide)
  (hcd:(x == ("__classdict__" : Str))=false:=by decide):QE X (.Name x pos) (Zan i):=⟨Zkl hN hv hd hcd⟩
theorem QW.qt {X:Cx}{e:Expr}{t:TT}(h:QW X e t):QT X e t:=⟨h.run.pt⟩
section
variable {P:Program}{w:World}{K:O1}{mg:Str->Option Value}{base:Heap}
theorem Fun.okq {x qual:Str}{st:Stmt}{f:Addr}{fd:FuncData}{N ps:List Str}{k:Nat}{sp:Sp}(F:Fun K x qual st f fd)(S:A2 N ps (Ay st))(len:∀ vs H Q E,sp vs H Q E->vs.length=ps.length)
  (hbody:∀(cdv:Value)(A:Around)(outer:List Env)(s:Shared)(H:Hp)(vs:List V)(Q:VK)(E:XK),Room k (A.deeper (envOfC qual (Ay st) s.heap.objs.size f cdv))->sp vs H Q E ->
   ∃ t,C3 (Dy Ao P w K mg base N qual (Ay st) f cdv A outer s H E).nox (Et st) t/\t { nx:=fun _ H'=>Q .non H',rt:=Q } (Ek N vs) H):FnOk P w K mg base Ao (k+1) f fd ps sp :=
 F.ok S len fun cdv A outer s H vs Q E hr h=>by
  obtain ⟨t,q,r⟩:=hbody cdv A outer s H vs Q E hr h
  exact ⟨t,q.run,r⟩
end
section
variable {X:Cx}
noncomputable def Zm8:R2:=fun x y H Q=>∃ i j,x=.str i/\y=.str j/\i.length+j.length<=sizeLine/\Q (.str (i++j)) H
noncomputable def Zdo (K:O1):R2:=fun x y H Q=>∃ a b xs ys,x=.ref a/\y=.ref b/\SqT K H a xs/\SqT K H b ys/\xs.length+ys.length<=sizeLine /\
 ∀ r H',Same H H'->SqT K H' r (xs++ys)->Q (.ref r) H'
theorem Zj2:OpR X (binaryOp .Add) (Zdo X.K):=by
 intro pins s σ H x y v u Q I rx ry h
 obtain ⟨a,b,xs,ys,rfl,rfl,ha,hb,hz,q⟩:=h
 by_cases hx:xs=[]
 ·subst hx
  cases rx
  cases ry
  obtain ⟨its,r1,p1,_⟩:=I.tuple ha
  obtain ⟨its2,r2,p2,_⟩:=I.tuple hb
  cases r1
  obtain ⟨⟨cls,dd,data,sl⟩,ho,hc,n,hd⟩:=id p1
  obtain ⟨⟨cls2,dd2,data2,sl2⟩,ho2,hc2,n2,hd2⟩:=id p2
  simp only at hc hd hc2 hd2
  subst hc hd hc2 hd2
  exact Vk ⟨_,ho,rfl⟩ ⟨_,ho2,rfl⟩ U4 Vg Um Ui (Uf _ _)
   (tuple_addW0 a b _ _ n n2 dd dd2 sl sl2 (by simp)) ⟨ho,ho2,⟨.ref b,H,I,rfl,q b H (Same.refl H) hb⟩⟩
 ·refine Zeq pins s σ H _ _ v u Q I rx ry ⟨a,b,xs,ys,rfl,rfl,ha,hb,hx,hz,fun e=>?_,fun _ p hp=>q p _ (fun c o e=>by rw [Af (B8 e hp)];exact e) (.inl (.inl Ad))⟩
  subst e
  exact q a H (Same.refl H) (by rw [Qs];exact ha)
noncomputable def G4 (K:O1):R2:=fun x y H Q=>Eg (fun i j=>.int (i+j)) x y H Q\/Zm8 x y H Q\/rCat x y H Q\/Zdo K x y H Q
theorem op_addA:OpR X (binaryOp .Add) (G4 X.K):=op_add.or (op_add_str.or (op_cat.or Zj2))
theorem s_add_int {K:O1}{i j:Int}{H:Hp}{Q:VK}(h:Q (.int (i+j)) H):G4 K (.int i) (.int j) H Q:=.inl ⟨i,j,rfl,rfl,h⟩
theorem Zbo {K:O1}{i j:Str}{H:Hp}{Q:VK}(hl:i.length+j.length<=sizeLine)(h:Q (.str (i++j)) H):G4 K (.str i) (.str j) H Q:=.inr (.inl ⟨i,j,rfl,rfl,hl,h⟩)
theorem Gz {K:O1}{a b:Addr}{xs ys:List V}{H:Hp}{Q:VK}(ha:H a=some (.lst xs))(hb:H b=some (.lst ys))(hz:xs.length+ys.length<=sizeLine)(h:∀ p,H p=none->Q (.ref p) (upd H p (.lst (xs++ys)))):G4 K (.ref a) (.ref b) H Q:=.inr (.inr (.inl ⟨a,b,xs,ys,rfl,rfl,ha,hb,hz,h⟩))
theorem Dr {K:O1}{a b:Addr}{xs ys:List V}{H:Hp}{Q:VK}(ha:SqT K H a xs)(hb:SqT K H b ys)(hz:xs.length+ys.length<=sizeLine)(h:∀ r H',Same H H'->SqT K H' r (xs++ys)->Q (.ref r) H'):G4 K (.ref a) (.ref b) H Q:=.inr (.inr (.inr ⟨a,b,xs,ys,rfl,rfl,ha,hb,hz,h⟩))
noncomputable def Od:R2:=fun x y H Q=>rI CMul (fun i j=>.int (i * j)) x y H Q\/rRep x y H Q
theorem Iw:OpR X (binaryOp .Mult) Od:=op_mul.or Zmh
theorem s_mul_l {i j:Int}{H:Hp}{Q:VK}(h1:-(2 ^ 64) < i)(h2:i < 2 ^ 64)(h:Q (.int (i * j)) H):Od (.int i) (.int j) H Q:=.inl ⟨i,j,rfl,rfl,.inl ⟨h1,h2⟩,h⟩
theorem s_mul_r {i j:Int}{H:Hp}{Q:VK}(h1:-(2 ^ 64) < j)(h2:j < 2 ^ 64)(h:Q (.int (i * j)) H):Od (.int i) (.int j) H Q:=.inl ⟨i,j,rfl,rfl,.inr ⟨h1,h2⟩,h⟩
theorem s_rI {C:Int->Int->Prop}{g:Int->Int->V}{i j:Int}{H:Hp}{Q:VK}(hc:C i j)(h:Q (g i j) H):rI C g (.int i) (.int j) H Q:=⟨i,j,rfl,rfl,hc,h⟩
theorem s_rI0 {g:Int->Int->V}{i j:Int}{H:Hp}{Q:VK}(h:Q (g i j) H):Eg g (.int i) (.int j) H Q:=⟨i,j,rfl,rfl,h⟩
theorem s_rU {g:Int->V}{i:Int}{H:Hp}{Q:VK}(h:Q (g i) H):rU g (.int i) H Q:=⟨i,rfl,h⟩
noncomputable def rLtA:R2:=fun x y H Q=>Eg (fun i j=>.bl (decide (i < j))) x y H Q\/∃ i j,x=.str i/\y=.str j/\Q (.bl (decide (i.cps.toList < j.cps.toList))) H
theorem Eb:OpR X (compareOp .Lt) rLtA:=op_lt.or Zjl
noncomputable def rLeA:R2:=fun x y H Q=>Eg (fun i j=>.bl (decide (i<=j))) x y H Q\/∃ i j,x=.str i/\y=.str j/\Q (.bl (!(decide (j.cps.toList < i.cps.toList)))) H
theorem Zf9:OpR X (compareOp .LtE) rLeA:=op_le.or Zi3
theorem s_lt {i j:Int}{H:Hp}{Q:VK}(h:Q (.bl (decide (i < j))) H):rLtA (.int i) (.int j) H Q:=.inl ⟨i,j,rfl,rfl,h⟩
theorem s_le {i j:Int}{H:Hp}{Q:VK}(h:Q (.bl (decide (i<=j))) H):rLeA (.int i) (.int j) H Q:=.inl ⟨i,j,rfl,rfl,h⟩
noncomputable def rInS (neg:Bool):R2:=fun x y H Q=>∃(c:Nat)(j:Str),x=.str ⟨#[c]⟩/\y=.str j/\Q (.bl (if neg then !decide (c∈j.cps.toList) else decide (c∈j.cps.toList))) H
theorem Zm2:OpR X (compareOp .In) (rInS false):=Zp8
noncomputable def Os (K:O1)(neg:Bool):R2:=fun x y H Q=>rIn K neg x y H Q\/rInS neg x y H Q
theorem Zr5:OpR X (compareOp .In) (Os X.K false):=op_in_seq.or Zm2
theorem F9 {K:O1}{neg:Bool}{x:V}{p:Addr}{xs:List V}{H:Hp}{Q:VK}(hq:SqL K H p xs\/SqT K H p xs)(hx:B3 x=true)(hxs:xs.all B3=true)(h:Q (.bl (if neg then !Ed x xs else Ed x xs)) H):Os K neg x (.ref p) H Q:=.inl ⟨p,xs,rfl,hq,hx,hxs,h⟩
noncomputable def Zba (K:O1):V->Option Int->Option Int->Hp->VK->Prop:=fun x lo hi H Q=>Zbx K x lo hi H Q\/Zbq x lo hi H Q\/rSlT K x lo hi H Q
theorem Znz:SlR X (Zba X.K):=sl_list.or (sl_str.or Zdj)
theorem Li {K:O1}{a:Addr}{xs:List V}{lo hi:Option Int}{H:Hp}{Q:VK}(ha:SqL K H a xs)(h:∀ p,H p=none->Q (.ref p) (upd H p (.lst (Bz xs lo hi)))):Zba K (.ref a) lo hi H Q:=.inl ⟨a,xs,rfl,ha,h⟩
theorem Bm {K:O1}{a:Addr}{xs:List V}{i:Int}{v:V}{H:Hp}{Q:VK}(ha:SqL K H a xs)(hv:B2 xs i=some v)(h:Q v H):Ih K (.ref a) (.int i) H Q:=.inl ⟨a,xs,i,v,rfl,rfl,ha,hv,h⟩
theorem Az {K:O1}{a:Addr}{xs:List V}{i:Int}{v:V}{H:Hp}{Q:VK}(ha:SqT K H a xs)(hv:B2 xs i=some v)(h:Q v H):Ih K (.ref a) (.int i) H Q:=.inr (.inl ⟨a,xs,i,v,rfl,rfl,ha,hv,h⟩)
theorem Znx {K:O1}{z:Str}{i:Int}{c:Nat}{H:Hp}{Q:VK}(hl:z.length<=sizeLine)(hv:B2 z.cps.toList i=some c)(h:Q (.str ⟨#[c]⟩) H):Ih K (.str z) (.int i) H Q:=.inr (.inr ⟨z,i,c,rfl,rfl,hl,hv,h⟩)
noncomputable def L9 (K:O1):List V->Hp->VK->Prop:=fun xs H Q=>∃ x n,xs=[x]/\LenV K x H n/\Q (.int n) H
theorem Zrs:Cb X (.builtin "len") (L9 X.K):=Zrv
theorem El {K:O1}{a:Addr}{xs:List V}{H:Hp}{Q:VK}(ha:SqL K H a xs)(h:Q (.int xs.length) H):L9 K [.ref a] H Q:=⟨_,_,rfl,.inl ⟨xs,ha,rfl⟩,h⟩
theorem C1 {K:O1}{a:Addr}{xs:List V}{H:Hp}{Q:VK}(ha:SqT K H a xs)(h:Q (.int xs.length) H):L9 K [.ref a] H Q:=⟨_,_,rfl,.inr ⟨xs,ha,rfl⟩,h⟩
structure D8 (mg:Str->Option Value)(x:Str)(v:V):Prop where
 ex:∃ u,mg x=some u/\RelV v u
theorem Fd {x:Str}{v:V}{pos:Pos}(G:D8 X.mg x v)(hg:Gl X x:=by rfl)(hd:(x == ("__debug__" : Str))=false:=by decide):QE X (.Name x pos) (tC v):=by
 obtain ⟨u,h,r⟩:=G.ex
 exact ⟨Zg3 hg h r hd⟩
noncomputable def Zav (K:O1)(tl:TE):TI:=fun σ H R=>tl σ H fun x H1=>(∃ a,x=.ref a/\(∃ xs,SqL K H1 a xs)/\R (Hd K a) H1)\/(∃ a,x=.ref a/\(∃ xs,SqT K H1 a xs)/\R (Go K a) H1)\/∃ z,x=.str z/\R (Its z) H1
theorem Zqs {tg l:Expr}{tl:TE}(hl:QE X l tl):QI X tg l (Zav X.K tl):=by
 refine ⟨fun pins s σ H R I h=>?_⟩
 refine Aj (hl.run pins s σ H _ I h) fun v s1 zq=>?_
 obtain ⟨x,H1,I1,r1,q1⟩:=zq
 have one:∀(l:Expr)(t:TE),PE X l t->True:=fun _ _ _=>trivial
 rcases q1 with ⟨a,e,⟨xs,hq⟩,q⟩ | ⟨a,e,⟨xs,hq⟩,q⟩ | ⟨z,e,q⟩
 ·subst e
  cases r1
  obtain ⟨its,rv,p,hz⟩:=I1.list hq
  refine Tk p.isList ?_
  refine ⟨s1.heap.objs.size,[s1.heap.objs.size],_,_,H1,rfl,I1.kept (t':=s1.toks) fun b o e=>O6 _ e,Zqc a _,⟨_,Pe _ rfl,rfl,rfl⟩,fun b hb=>?_,q⟩
  have e:b=s1.heap.objs.size:=by simpa using hb
  subst e
  exact I1.fpOk (O4 _) (I1.hok.fresh (O4 _))
 ·subst e
  cases r1
  obtain ⟨its,rv,p,hz⟩:=I1.tuple hq
  refine Ti (show s1.heap.IsTuple a its.toArray from p) ?_
  refine ⟨s1.heap.objs.size,[s1.heap.objs.size],_,_,H1,rfl,I1.kept (t':=s1.toks) fun b o e=>O6 _ e,Zk4 a _,⟨_,Pe _ rfl,rfl,rfl⟩,fun b hb=>?_,q⟩
  have e:b=s1.heap.objs.size:=by simpa using hb
  subst e
  exact I1.fpOk (O4 _) (I1.hok.fresh (O4 _))
 ·subst e
  obtain ⟨t,rfl⟩:=r1
  refine wpAny_pyIter_strU ?_
  refine ⟨s1.heap.objs.size,[s1.heap.objs.size],_,_,H1,rfl,I1.kept (t':=s1.toks) fun b o e=>O6 _ e,Zmz _ z t,⟨_,Pe _ rfl,rfl,rfl⟩,fun b hb=>?_,q⟩
  have e:b=s1.heap.objs.size:=by simpa using hb
  subst e
  exact I1.fpOk (O4 _) (I1.hok.fresh (O4 _))
end
section
variable {X:Cx}{tg:Expr}
end
noncomputable def Hl (K:O1)(a:Addr)(n:Nat):It :=
 ⟨fun i H=>∃ xs,SqL K H a xs/\xs.length=n/\i < n,fun i H x H'=>H'=H/\∀ xs,SqL K H a xs->xs[n - 1 - i]?=some x,fun i _=>i=n⟩
theorem Zrf {P:Program}{w:World}{K:O1}{tg:Expr}(a it:Addr)(n:Nat):G6 P w K tg (Hl K a n) [it] it (fun i h=>i<=n/\h.IsRevIter it a ((n:Int) - 1 - (i:Int))) where
 mem:=by simp
 obj:=fun i h st b hb=>by
  have e:b=it:=by simpa using hb
  subst e
  obtain ⟨o,e,c,d⟩:=st.2
  exact ⟨o,e,fun v z=>by rw [d] at z;cases z⟩
 keep:=fun i h h' st k=>⟨st.1,st.2.at fun o e=>k it (by simp) o e⟩
 item:=by
  intro X hP hw hK hc i pins s σ H E I hf st hg
  subst hP hw hK
  obtain ⟨xs,hq,hl,hi⟩:=hg
  obtain ⟨its,rv,p,hz⟩:=I.list hq
  have hx:xs[n - 1 - i]?=some (xs[n - 1 - i]'(by omega)):=O5 (by omega)
  obtain ⟨u,hu,ru⟩:=rv.get hx
  obtain ⟨f0,f1,f2,f3,f4,f5⟩:=hf it (by simp)
  have e:(n:Int) - 1 - (i:Int)=((n - 1 - i:Nat):Int):=by omega
  have hit:=st.2
  rw [e] at hit
  refine wpAny_pyNext_rev_item hit p.isList (x:=u) (by simpa using hu) fun h' st' sb=>?_
  have I1:Inv X pins σ H { s with heap:=h' }:=I.turned (t':=s.toks) (fun b o hb e=>(sb.2 b hb).trans e) f0 f1 f3 f4 f5
  have e2:((n - 1 - i:Nat):Int) - 1=(n:Int) - 1 - ((i+1:Nat):Int):=by omega
  rw [e2] at st'
  obtain ⟨o,eo,c,d⟩:=id st'
  exact ⟨u,rfl,J0 (s:={ s with heap:=h' }) eo c d (by decide) ⟨_,H,I1,ru,⟨rfl,fun ys hy=>by rw [I.list_inj hy hq];exact hx⟩,⟨hi,st'⟩,fun b hb=>(hf b hb).1⟩⟩
 done:=by
  intro X hP hw hK hc i pins s σ H E I hf st hg
  subst hP hw hK
  have hg:i=n:=hg
  subst hg
  obtain ⟨f0,f1,f2,f3,f4,f5⟩:=hf it (by simp)
  have e:(i:Int) - 1 - (i:Int)=-1:=by omega
  have hit:=st.2
  rw [e] at hit
  exact wpAny_pyNext_rev_end (I.ok.hd hc) hit fun h' eb=>⟨rfl,I.turned (t':=s.toks) (fun b o hb e=>eb b o hb e) f0 f1 f3 f4 f5⟩
 self:=fun _ _ _ _ _ st h=>wpAny_pyIter_revIter st.2 h
theorem Zii:bootBuiltins "reversed" = some (.type "reversed"):=by decide +kernel
section
variable {X:Cx}{tg:Expr}
noncomputable def Zao (K:O1)(ta:TA):TI:=fun σ H R=>ta σ H fun vs H1=>∃ a xs,vs=[.ref a]/\SqL K H1 a xs/\R (Hl K a xs.length) H1
theorem Zpb {a:Expr}{ta:TA}{p pos:Pos}(hg:Gl X "reversed")(hm:X.mg "reversed" = none)(ha:QA X [a] ta)(hs:starEach [a] X.env=[(false,eval a X.env)]:=by rfl):QI X tg (.Call (.Name "reversed" p) [a] [] pos) (Zao X.K ta):=by
 refine ⟨fun pins s σ H R I h=>?_⟩
 refine Call_ (Fg I hg hm Zii (Ry (Aj (ha.run pos pins s σ H _ I h) fun us s1 zq=>?_) hs rfl))
 obtain ⟨vs,H1,I1,r1,q1⟩:=zq
 obtain ⟨l,xs,e,hq,q⟩:=q1
 subst e
 cases r1 with
 | cons r rr =>
  cases rr
  cases r
  obtain ⟨its,rv,pl,hz⟩:=I1.list hq
  refine call_reversed_list pl.isList ?_
  have hl:=rv.length
  have st0:(s1.heap.push (PySem.revObj l (((its.toArray).size:Int) - 1))).IsRevIter s1.heap.objs.size l ((xs.length:Int) - 1 - ((0:Nat):Int)):=by
   refine ⟨_,Pe _ rfl,rfl,?_⟩
   have e:((its.toArray).size:Int) - 1=(xs.length:Int) - 1 - ((0:Nat):Int):=by simp [hl]
   rw [<- e]
   rfl
  refine wpAny_pyIter_revIter (it:=s1.heap.objs.size) (l:=l) (i:=(xs.length:Int) - 1 - ((0:Nat):Int)) st0 ?_
  refine ⟨s1.heap.objs.size,[s1.heap.objs.size],_,_,H1,rfl,I1.kept (t':=s1.toks) fun b o e=>O6 _ e,Zrf l _ xs.length,⟨Pw _,st0⟩,fun b hb=>?_,q⟩
  have e:b=s1.heap.objs.size:=by simpa using hb
  subst e
  exact I1.fpOk (O4 _) (I1.hok.fresh (O4 _))
theorem Zd9 {K:O1}{a:Addr}{xs:List V}{g:TG}{tb:TS}{D:Ends}{σ:St}{H:Hp}(Pv:Nat->St->Hp->Prop)(h0:Pv 0 σ H)(hl:∀ i σ H,i<=xs.length->Pv i σ H->SqL K H a xs)
  (hs:∀ i x σ H,i < xs.length->xs[xs.length - 1 - i]?=some x->Pv i σ H->g x σ H fun σ2 H2=>tb { D with nx:=Pv (i+1),ct:=Pv (i+1),bk:=D.nx } σ2 H2) (hd:∀ σ H,Pv xs.length σ H->D.nx σ H) :
  ∃ W:Nat->Nat->St->Hp->Prop,(∃ m,W 0 m σ H)/\∀ i m σ H,W i m σ H ->
   ((Hl K a xs.length).stop i H/\D.nx σ H)\/((Hl K a xs.length).go i H/\∃ N:St->Hp->Prop,(∀ σ' H',N σ' H'->∃ m',m' < m/\W (i+1) m' σ' H')/\∀ x H',(Hl K a xs.length).yld i H x H'->g x σ H' fun σ2 H2=>tb { D with nx:=N,ct:=N,bk:=D.nx } σ2 H2):=by
 refine ⟨fun i m σ H=>m=xs.length - i/\i<=xs.length/\Pv i σ H,⟨xs.length,by simp,Pw _,h0⟩,?_⟩
 rintro i m σ H ⟨rfl,hi,p⟩
 have q:=hl i σ H hi p
 by_cases hlt:i < xs.length
 ·refine .inr ⟨⟨xs,q,rfl,hlt⟩,Pv (i+1),fun σ' H' p'=>⟨xs.length - (i+1),by omega,rfl,hlt,p'⟩,fun x H' y=>?_⟩
  obtain ⟨e,y⟩:=y
  subst e
  exact hs i x σ _ hlt (y xs q) p
 ·have e:i=xs.length:=by omega
  subst e
  exact .inl ⟨rfl,hd σ H p⟩
end
section
variable {prog:Program}{w:World}{A:Around}{E:Value->Shared->Prop}{s:Shared}
theorem Zq4 {it t:Addr}{i:Nat}{items:Array Value}{x:Value}{Q:Value->Shared->Prop}(hit:s.heap.IsTupleIter it t i)(ht:s.heap.IsTuple t items)(hx:items[i]?=some x)
  (hQ:∀ h',h'.IsTupleIter it t (i+1)->Pl it s.heap h'->Q x { s with heap:=h' }):wpAny (model prog w) A (Qg (.ref it)) Q E s:=by
 obtain ⟨o,ho,hc,hd⟩:=id hit
 obtain ⟨ol,hol,_,nl,hdl⟩:=ht
 unfold Qg
 refine O2 (Qx (name:=Qc "__next__") hit.typeIs T8
  (Q1 T8 hit.typeIs Wu ?_ (Ws _)))
 show wpAny _ _ (field (.ref it) 0 >>= _) _ _ s
 refine O2 (Pj ho hd (x:=.ref t) rfl ?_)
 show wpAny _ _ (if (Value.ref t == Value.none)=true then _ else _) _ _ s
 rw [if_neg (show ¬ ((Value.ref t == Value.none)=true) from Pd)]
 show wpAny _ _ (field (.ref it) 1 >>= _) _ _ s
 refine O2 (Pj ho hd (x:=.int i 0) rfl ?_)
 show wpAny _ _ (seqItems? (.ref t) >>= _) _ _ s
 refine O2 (Qu hol hdl ?_)
 simp only [R7,hx]
 refine O2 (Tw ho hd (by simp) (O3 ⟨x,rfl,O3 (hQ _ ?_ (Pl.update ..))⟩))
 exact ⟨_,Rk _ ho (Vy (Uy hd _)),(Obj.cls_mapFields ..).trans hc,by
  rw [Uy hd];simp [rawInt]⟩
theorem Zj7 {it t:Addr}{i:Nat}{items:Array Value}{Q:Value->Shared->Prop}(hh:A.handled=none)(hit:s.heap.IsTupleIter it t i)(ht:s.heap.IsTuple t items)(hx:items[i]?=none)
  (hE:∀ h' e,Sx it s.heap h'->(∃ o,h'.get? e=some o/\o.cls=.type "StopIteration")->E (.ref e) { s with heap:=h' }):wpAny (model prog w) A (Qg (.ref it)) Q E s:=by
 obtain ⟨o,ho,hc,hd⟩:=id hit
 obtain ⟨ol,hol,_,nl,hdl⟩:=ht
 unfold Qg
 refine O2 (Qx (name:=Qc "__next__") hit.typeIs T8
  (Q1 T8 hit.typeIs Wu ?_ (Ws _)))
 show wpAny _ _ (field (.ref it) 0 >>= _) _ _ s
 refine O2 (Pj ho hd (x:=.ref t) rfl ?_)
 show wpAny _ _ (if (Value.ref t == Value.none)=true then _ else _) _ _ s
 rw [if_neg (show ¬ ((Value.ref t == Value.none)=true) from Pd)]
 show wpAny _ _ (field (.ref it) 1 >>= _) _ _ s
 refine O2 (Pj ho hd (x:=.int i 0) rfl ?_)
 show wpAny _ _ (seqItems? (.ref t) >>= _) _ _ s
 refine O2 (Qu hol hdl ?_)
 simp only [R7,hx]
 refine O2 (Sy (O2 (Tw ho hd (by simp) ?_)))
 show wpAny _ _ (newExc (.type "StopIteration") [] >>= _) _ _ _
 refine O2 ?_
 simp only [newExc,newTuple]
 refine O2 (Rn ?_ (by size_fits))
 refine O2 (m:=firstArgMember _ _) (wpAny_of_eq (a:=Value.none) (by first | rfl | (simp only [firstArgMember];rfl)) ?_)
 refine Rn ?_ (by size_fits)
 simp only [raiseNew]
 refine O2 (wpAny_handled ?_)
 first | rw [show A.in1.handled=none from hh] | rw [hh]
 refine O2 (O3 (wpAny_throw ?_))
 exact hE _ _ (((Pl.update ..).extBut.push _).push _) ⟨_,Pe _ rfl,rfl⟩
end
theorem Oq {prog:Program}{w:World}{A:Around}(hh:A.handled=none)(it l:Addr)(hne:l≠it)(items:Array Value) :
  Draws prog w A it [it,l] items.size (fun i v=>items[i]?=some v) (fun i h=>h.IsTupleIter it l i/\h.IsTuple l items) where
 live:=fun _ _ st=>let ⟨o,ho,_⟩:=st.1;⟨o,ho⟩
 frame:=fun _ _ _ st hk=>⟨st.1.at fun o e=>hk it (by simp) o e,let ⟨o,e,r⟩:=st.2;⟨o,hk l (by simp) o e,r⟩⟩
 item:=fun i s Q E hi st hQ=>by
  refine Zq4 st.1 st.2 (x:=items[i]) (by simp [hi]) fun h' hit' hs'=>?_
  exact hQ _ h' s.toks (by simp [hi]) ⟨hit',st.2.extBut hs'.extBut hne⟩ hs'
 done:=fun s Q E st hE=>Zj7 hh st.1 st.2 (by simp) hE
theorem Zl4 (l:Addr)(items:Array Value)(n:Nat)(dct:Option Addr)(sl:Array (Option Value)) :
  Meets (Builtin.«enumerate.__new__» ⟨[.type "enumerate",.ref l],[]⟩) (fun _ R s=>s.heap.get? l=some { cls:=.type "tuple",dict:=dct,data:=.seq items n,slots:=sl } /\
   R (.ok (.ret (.ref (s.heap.push { cls:=.type "tuple_iterator",data:=.fields #[.ref l,.int 0 0] }).objs.size)))
    { s with heap:=(s.heap.push { cls:=.type "tuple_iterator",data:=.fields #[.ref l,.int 0 0] }).push { cls:=.type "enumerate",data:=.fields #[.none,.bool false,.ref s.heap.objs.size,rawInt 0,.none,.none] } }) :=
 .of_wp fun prog w A R s h=>by
  obtain ⟨hp,g,d,tk,os⟩:=s;obtain ⟨hl,h⟩:=h
  have hsub:=sub_enumerate
  have hL:Heap.IsTuple (Shared.heap ⟨hp,g,d,tk,os⟩) l items:=⟨_,hl,rfl,n,rfl⟩
  wp_walk using T9 hl
  refine wpAny_stack_any fun st=>O3 ?_
  split
  ·rename_i c _ _ _ _ _
   cases (c == Value.type "enumerate")
   ·wp_walk using T9 hl,Ti hL
    exact ⟨_,rfl,h⟩
   ·wp_walk using T9 hl,Ti hL
    exact ⟨_,rfl,h⟩
  ·wp_walk using T9 hl,Ti hL
   exact ⟨_,rfl,h⟩
section
variable {prog:Program}{w:World}{A:Around}{E:Value->Shared->Prop}{s:Shared}
theorem Zic {l:Addr}{items:Array Value}{Q:Value->Shared->Prop}(hL:s.heap.IsTuple l items)
  (h:∀ h',IsEnum h' (s.heap.objs.size+1) s.heap.objs.size 0 .none->h'.IsTupleIter s.heap.objs.size l 0->h'.objs.size=s.heap.objs.size+2 ->
   (∀ b o,s.heap.get? b=some o->h'.get? b=some o)->Q (.ref (s.heap.objs.size+1)) { s with heap:=h' }) :
  wpAny (model prog w) A (call (.type "enumerate") [.ref l]) Q E s:=by
 obtain ⟨⟨c,dct,dt,sl⟩,hl,hc,n,hd⟩:=hL
 replace hc:c=.type "tuple" := hc
 replace hd:dt=.seq items n:=hd
 subst hc hd
 refine callType_new PySem.F.called_enumerate (by decide) (PySem.F.typeCall_enumerate_1 _) (PySem.F.newCall_enumerate_1 _) (fun obj=>PySem.F.args_object_init_2 obj _) PySem.F.entry_enumerate_new
  (Zl4 l items n dct sl) ⟨hl,?_⟩
 have hz:(s.heap.push { cls:=.type "tuple_iterator",data:=.fields #[.ref l,.int 0 0] }).objs.size=s.heap.objs.size+1:=P8 ..
 show _/\_
 rw [hz]
 have he:IsEnum ((s.heap.push { cls:=.type "tuple_iterator",data:=.fields #[.ref l,.int 0 0] }).push
   { cls:=.type "enumerate",data:=.fields #[.none,.bool false,.ref s.heap.objs.size,rawInt 0,.none,.none] }) (s.heap.objs.size+1) s.heap.objs.size 0 .none:=by
  unfold IsEnum
  rw [<- hz]
  exact Pe _ rfl
 refine ⟨⟨_,he,rfl⟩,h _ he ⟨_,O6 _ (Pe _ rfl),rfl,rfl⟩ (by rw [P8,hz]) fun b o e=>O6 _ (O6 _ e)⟩
noncomputable def Mg (h:Heap)(e it:Addr)(i:Int):Prop:=∃(a:Addr)(oa:Obj)(f1 old:Value),h.get? e=some { cls:=.type "enumerate",dict:=none,data:=.fields #[rawInt a,f1,.ref it,rawInt i,.none,old],slots:=#[] }/\h.get? a=some oa/\a≠e/\a≠it
theorem Zhf {a:Addr}{Q:Option Obj->Shared->Prop}(h:Q (s.heap.get? a) s):wpAny (model prog w) A (loadIfAlive a) Q E s:=by
 intro Γ p hΓ
 show Sem.wp _ Γ (.loadIfAlive a .pure) _ _ p s
 rw [Sem.wp_loadIfAlive]
 exact h
theorem Zl6 {e it:Addr}{fp:List Addr}{n i:Nat}{P:Nat->Value->Prop}{St:Nat->Heap->Prop}{Q:Value->Shared->Prop}
  (D:Draws prog w A it fp n P St) (he0:Mg s.heap e it i) (hst:St i s.heap) (hlt:i < n) (hne:e≠it) (hef:e ∉ fp)
  (hQ:∀ x h' tk,P i x->Mg h' e it ((i:Int)+1)->St (i+1) h' ->
   h'.get? s.heap.objs.size=some { cls:=.type "tuple",data:=.seq #[.int i tk,x] }->h'.objs.size=s.heap.objs.size+1 ->
   (∀ b o,b≠e->b≠it->s.heap.get? b=some o->h'.get? b=some o)->Q (.ref s.heap.objs.size) { s with heap:=h',toks:=tk+1 }) :
  wpAny (model prog w) A (Builtin.«enumerate.__next__» ⟨[.ref e],[]⟩) (fun fin s'=>∃ v,fin=.done (.ret v)/\Q v s') E s:=by
 obtain ⟨a,oa,f1,old,he,hoa,hae,hai⟩:=he0
 obtain ⟨hp,g,d,tk₀,os⟩:=s
 show wpAny _ _ (field (.ref e) 2 >>= _) _ _ _
 refine O2 (Pj he rfl (x:=.ref it) rfl ?_)
 refine O2 (D.item i _ _ _ hlt hst fun x h₁ tk hPx hit₁ hs₁=>?_)
 replace hs₁:Pl it hp h₁:=hs₁
 have he₁:=(hs₁.2 e hne).trans he
 have ha₁:=hs₁.extBut a oa hai hoa
 show wpAny _ _ (field (.ref e) 3 >>= _) _ _ ⟨h₁,g,d,tk,os⟩
 refine O2 (Pj he₁ rfl (x:=rawInt i) rfl ?_)
 show wpAny _ _ (field (.ref e) 4 >>= _) _ _ ⟨h₁,g,d,tk,os⟩
 refine O2 (Pj he₁ rfl (x:=.none) rfl ?_)
 show wpAny _ _ (mkInt i >>= _) _ _ ⟨h₁,g,d,tk,os⟩
 refine O2 (wpAny_mkInt ?_)
 show wpAny _ _ (setField (.ref e) 3 (rawInt ((i:Int)+1)) >>= _) _ _ ⟨h₁,g,d,tk+1,os⟩
 refine O2 (Qz he₁ (by simp) fun h₂ he₂ hs₂=>?_)
 replace hs₂:Pl e h₁ h₂:=hs₂
 have ha₂:=hs₂.extBut a oa hae ha₁
 replace he₂:h₂.get? e=some { cls:=.type "enumerate",dict:=none,data:=.fields #[rawInt a,f1,.ref it,rawInt ((i:Int)+1),.none,old],slots:=#[] }:=he₂
 show wpAny _ _ (setField (.ref e) 4 .none >>= _) _ _ ⟨h₂,g,d,tk+1,os⟩
 refine O2 (Qz he₂ (by simp) fun h₃ he₃ hs₃=>?_)
 replace hs₃:Pl e h₂ h₃:=hs₃
 have ha₃:=hs₃.extBut a oa hae ha₂
 replace he₃:h₃.get? e=some { cls:=.type "enumerate",dict:=none,data:=.fields #[rawInt a,f1,.ref it,rawInt ((i:Int)+1),.none,old],slots:=#[] }:=he₃
 show wpAny _ _ (newTuple [.int i tk,x] >>= _) _ _ ⟨h₃,g,d,tk+1,os⟩
 refine O2 (wpAny_newTuple ?_)
 have he₄:(h₃.push { cls:=.type "tuple",data:=.seq #[.int i tk,x] }).get? e=some { cls:=.type "enumerate",dict:=none,data:=.fields #[rawInt a,f1,.ref it,rawInt ((i:Int)+1),.none,old],slots:=#[] }:=O6 _ he₃
 have ha₄:(h₃.push { cls:=.type "tuple",data:=.seq #[.int i tk,x] }).get? a=some oa:=O6 _ ha₃
 generalize hh₄:h₃.push { cls:=.type "tuple",data:=.seq #[.int i tk,x] }=h₄ at he₄ ha₄
 have hsz:h₃.objs.size=hp.objs.size:=by rw [hs₃.1,hs₂.1,hs₁.1]
 have hel:e < hp.objs.size:=O8 he
 have ht₄:h₄.get? hp.objs.size=some { cls:=.type "tuple",data:=.seq #[.int i tk,x] }:=by rw [<- hh₄,<- hsz];exact Pe _ rfl
 have hz₄:h₄.objs.size=hp.objs.size+1:=by rw [<- hh₄,P8,hsz]
 have hk₄:∀ b o,b≠e->b≠it->hp.get? b=some o->h₄.get? b=some o:=fun b o hbe hbi hb=>by
  rw [<- hh₄];exact O6 _ (hs₃.extBut b o hbe (hs₂.extBut b o hbe (hs₁.extBut b o hbi hb)))
 have hit₄:St (i+1) h₄:=D.frame _ _ _ hit₁ fun b hb o y=>by
  have hbe:b≠e:=fun q=>hef (q ▸ hb)
  rw [<- hh₄];exact O6 _ (hs₃.extBut b o hbe (hs₂.extBut b o hbe y))
 show wpAny _ _ (Qv (.ref e) >>= _) _ _ ⟨h₄,g,d,tk+1,os⟩
 rw [hsz]
 clear hh₄ ha₃ ha₂ ha₁ he₃ hs₃ he₂ hs₂ he₁ hs₁ hit₁ hsz h₃ h₂ h₁
 refine O2 ?_
 unfold Qv
 refine O2 (Pj he₄ rfl (x:=rawInt a) rfl ?_)
 show wpAny _ _ (loadIfAlive ((a:Int).toNat) >>= _) _ _ ⟨h₄,g,d,tk+1,os⟩
 refine O2 (Zhf ?_)
 rw [R7]
 show wpAny _ _ (if (h₄.get? a).isNone=true then _ else _) _ _ ⟨h₄,g,d,tk+1,os⟩
 rw [ha₄]
 rw [if_neg (by simp)]
 refine O2 (Pj he₄ rfl (x:=f1) rfl ?_)
 have fin:∀ h₅,Mg h₅ e it ((i:Int)+1)->Pl e h₄ h₅->Q (.ref hp.objs.size) ⟨h₅,g,d,tk+1,os⟩:=fun h₅ hl hs₅ =>
  hQ x h₅ tk hPx hl (D.frame _ _ _ hit₄ fun b hb o y=>hs₅.extBut b o (fun q=>hef (q ▸ hb)) y) (hs₅.extBut _ _ (Qb hel) ht₄) (by rw [hs₅.1,hz₄]) fun b o hbe hbi hb=>hs₅.extBut b o hbe (hk₄ b o hbe hbi hb)
 by_cases hf:(f1 != Value.bool true)=true
 ·simp only [hf,if_true]
  refine O2 (Qz he₄ (by simp) fun h₅ he₅ hs₅=>?_)
  replace hs₅:Pl e h₄ h₅:=hs₅
  refine O3 ?_
  simp only [Q6,if_false]
  refine O3 ⟨_,rfl,fin h₅ ⟨a,oa,.bool true,old,he₅,hs₅.extBut a oa hae ha₄,hae,hai⟩ hs₅⟩
 ·simp only [hf]
  refine O3 ?_
  simp only [Q6,if_false]
  exact O3 ⟨_,rfl,fin h₄ ⟨a,oa,f1,old,he₄,ha₄,hae,hai⟩ (Pl.refl ..)⟩
noncomputable def EnSt (h:Heap)(e it:Addr)(i:Nat):Prop:=(i=0/\∃ old,IsEnum h e it 0 old)\/(0 < i/\Mg h e it i)
theorem EnSt.obj {h:Heap}{e it:Addr}{i:Nat}(x:EnSt h e it i):∃ vs,h.get? e=some { cls:=.type "enumerate",dict:=none,data:=.fields vs,slots:=#[] }:=by
 rcases x with ⟨_,old,x⟩ | ⟨_,_,_,_,_,x,_⟩
 ·exact ⟨_,x⟩
 ·exact ⟨_,x⟩
theorem Zps {e it:Addr}{fp:List Addr}{n i:Nat}{P:Nat->Value->Prop}{St:Nat->Heap->Prop}{Q:Option Value->Shared->Prop}
  (D:Draws prog w A.in1 it fp n P St) (he:EnSt s.heap e it i) (hst:St i s.heap) (hlt:i < n) (hne:e≠it) (hef:e ∉ fp)
  (hQ:∀ x h' tk,P i x->EnSt h' e it (i+1)->St (i+1) h' ->
   h'.get? s.heap.objs.size=some { cls:=.type "tuple",data:=.seq #[.int i tk,x] }->h'.objs.size=s.heap.objs.size+1 ->
   (∀ b o,b≠e->b≠it->s.heap.get? b=some o->h'.get? b=some o)->Q (some (.ref s.heap.objs.size)) { s with heap:=h',toks:=tk+1 }) :
  wpAny (model prog w) A (pyNext (.ref e)) Q E s:=by
 obtain ⟨vs,ho⟩:=he.obj
 have hT:s.TypeIs (.ref e) "enumerate" := ⟨_,ho,rfl⟩
 have hel:e < s.heap.objs.size:=O8 ho
 have hil:it < s.heap.objs.size:=by obtain ⟨_,y⟩:=D.live _ _ hst;exact O8 y
 rcases he with ⟨rfl,old,he⟩ | ⟨_,he⟩
 ·refine wpAny_pyNext_enum_itemD D he hst hlt hne hef fun x h' tk a b c z k q=>?_
  exact hQ x h' tk a (.inr ⟨Vn _,_,_,_,_,b,z,Qb hel,Qb hil⟩) c z k q
 ·unfold pyNext
  exact O2 (Rg (Qx (name:=Qc "__next__") hT Ua
   (Q1 Ua hT Wx
    (Zl6 D he hst hlt hne hef fun x h' tk a b c z k q=>O3 (hQ x h' tk a (.inr ⟨Vn _,b⟩) c z k q)) (Ww _))))
theorem Zov {e it:Addr}{fp:List Addr}{n:Nat}{P:Nat->Value->Prop}{St:Nat->Heap->Prop}{Q:Option Value->Shared->Prop}
  (D:Draws prog w A.in1 it fp n P St) (he:EnSt s.heap e it n) (hst:St n s.heap)
  (hQ:∀ h',Sx it s.heap h'->Q none { s with heap:=h' }):wpAny (model prog w) A (pyNext (.ref e)) Q E s:=by
 obtain ⟨vs,ho⟩:=he.obj
 have hT:s.TypeIs (.ref e) "enumerate" := ⟨_,ho,rfl⟩
 have h2:vs[2]?=some (.ref it):=by
  rcases he with ⟨rfl,old,he⟩ | ⟨_,a,oa,f1,old,he,_⟩
  ·unfold IsEnum at he
   rw [ho] at he
   injection he with he
   injection he with _ _ he _
   injection he with he
   rw [he];rfl
  ·rw [ho] at he
   injection he with he
   injection he with _ _ he _
   injection he with he
   rw [he];rfl
 unfold pyNext
 refine O2 (Rg (Qx (name:=Qc "__next__") hT Ua
  (Q1 Ua hT Wx ?_ (Ww _))))
 show wpAny _ _ (field (.ref e) 2 >>= _) _ _ _
 refine O2 (Pj ho rfl (x:=.ref it) h2 ?_)
 refine O2 (D.done _ _ _ hst fun h' x he' hx'=>?_)
 obtain ⟨o,ho',hc⟩:=hx'
 refine O2 (Wf (T := "StopIteration") (b:=true) ⟨o,ho',hc⟩ isSubtype_stop ?_)
 exact O3 (hQ _ he')
end
structure Src (X:Cx)(pins:List (Addr×Obj))(σ:St)(it:Addr)(T:String)(n:Nat)(H0:Hp)(J:Nat->List V->Hp->Heap->Prop):Prop where
 ty:∀ i ys H h,J i ys H h->∃ o,h.get? it=some o/\o.cls=.type T
 nl:(Value.type T == Value.type "list")=false/\(Value.type T == Value.type "tuple")=false
 nolen:typeLookup (.type T) "__len__" = pure none
 nohint:typeLookup (.type T) "__length_hint__" = pure none
 self:∀(A:Around)(s:Shared)(ys:List V)(H:Hp)(Q:Value->Shared->Prop)(E:Value->Shared->Prop),J 0 ys H s.heap->Q (.ref it) s->wpAny (model X.prog X.w) A (pyIter (.ref it)) Q E s
 keep:∀ i ys H h h' S zs zs',H0 S=none->H S=some (.lst zs)->J i ys H h->(∀ b o,b≠S->h.get? b=some o->h'.get? b=some o)->(∃ o,h'.get? S=some o)->J i ys (upd H S (.lst zs')) h'
 fresh:∀ i ys H h,J i ys H h->H it=none
 item:∀(A:Around)(i:Nat)(s:Shared)(H:Hp)(ys:List V)(E:Value->Shared->Prop),A.handled=none->i < n->Inv X pins σ H s->J i ys H s.heap ->
  wpAny (model X.prog X.w) A (pyNext (.ref it)) (fun r s'=>∃ u x H',r=some u/\RelV x u/\Inv X pins σ H' s'/\J (i+1) (ys++[x]) H' s'.heap/\∀ S zs,H S=some (.lst zs)->H' S=some (.lst zs)) E s
 done:∀(A:Around)(s:Shared)(H:Hp)(ys:List V)(E:Value->Shared->Prop),A.handled=none->Inv X pins σ H s->J n ys H s.heap ->
  wpAny (model X.prog X.w) A (pyNext (.ref it)) (fun r s'=>r=none/\Inv X pins σ H s') E s
section
variable {X:Cx}{pins:List (Addr×Obj)}{σ:St}{it:Addr}{T:String}{n:Nat}{H0:Hp}{J:Nat->List V->Hp->Heap->Prop}
theorem Zng (C:Src X pins σ it T n H0 J)(hn:n<=sizeLine){A:Around}(hh:A.handled=none){R:Result->Shared->Prop}(S:Addr)(hS0:H0 S=none)(res:Value)
  (fin:∀ s' H' ys',Inv X pins σ H' s'->H' S=some (.lst ys')->ys'.length=n->(∃ h,J n ys' H' h)->R (.ok (.ret res)) s') :
  ∀(k i:Nat)(s:Shared)(H:Hp)(ys:List V),n - i=k->i<=n->Inv X pins σ H s->J i ys H s.heap->H S=some (.lst ys)->ys.length=i ->
  codeAny (model X.prog X.w) A (.builtin "list.extend.loop" ⟨[.ref S,.ref it,res],[]⟩) R s:=by
 intro k
 induction k with
 | zero =>
  intro i s H ys hk hi I j hS hl
  have hin:i=n:=by omega
  subst hin
  refine So PySem.F.entry_extend_loop ?_
  rw [Sh Ue _]
  show wpAny _ A.in1 (pyNext (.ref it) >>= _) _ _ s
  refine O2 (Aj (C.done A.in1 s H ys _ hh I j) fun r s' zq=>?_)
  obtain ⟨hr,I'⟩:=zq
  subst hr
  exact O3 (fin s' H ys I' hS hl ⟨_,j⟩)
 | succ k ih =>
  intro i s H ys hk hi I j hS hl
  have hlt:i < n:=by omega
  refine So PySem.F.entry_extend_loop ?_
  rw [Sh Ue _]
  show wpAny _ A.in1 (pyNext (.ref it) >>= _) _ _ s
  refine O2 (Aj (C.item A.in1 i s H ys _ hh hlt I j) fun r s' zq=>?_)
  obtain ⟨u,x,H',hr,rx,I',j',kS⟩:=zq
  subst hr
  have hS':=kS S ys hS
  obtain ⟨z,its,m,rv,hl',e⟩:=I'.lstM hS'
  show wpAny _ A.in1 (updateSeq S (·.push u) >>= _) _ _ _
  refine O2 ?_
  have hu:(its.toArray.push u)=(its++[u]).toArray:=by simp
  have I2:=I'.lset (f:=(·.push u)) (its':=its++[u]) (ys:=ys++[x]) (t':=s'.toks) hS' e hu (rv.append (.cons rx .nil)) (by rw [O9,Pz];omega)
  refine Va e rfl (O3 ⟨Sr Ue _,ih (i+1) _ _ (ys++[x]) (by omega) hlt I2 ?_ Ad (by simp [hl])⟩)
   (by rw [O7];omega) (by show (its.toArray.push u).size<=sizeLine+1;rw [Array.size_push,O7];omega)
  exact C.keep _ _ _ _ _ S ys (ys++[x]) hS0 hS' j' (fun b o hb eb=>(Qh _ _ (Pc hb)).trans eb) ⟨_,Rk _ e rfl⟩
theorem Ze2 {H:Hp}(C:Src X pins σ it T n H J)(hn:n<=sizeLine){A:Around}(hh:A.handled=none){s:Shared}{Q:VK}{E:Value->Shared->Prop}(I:Inv X pins σ H s)(j:J 0 [] H s.heap)
  (jn:∀ S,s.heap.objs.size<=S->H S=none->∀ h',(∀ b o,s.heap.get? b=some o->h'.get? b=some o)->J 0 [] (upd H S (.lst [])) h')
  (q:∀ S H' ys,H S=none->H' S=some (.lst ys)->ys.length=n->(∃ h,J n ys H' h)->Q (.ref S) H') :
  wpAny (model X.prog X.w) A (call (.type "list") [.ref it]) (EP X pins σ Q) E s:=by
 have hf:H s.heap.objs.size=none:=I.hok.fresh (O4 _)
 have hne:s.heap.objs.size≠it:=by
  obtain ⟨o,e,_⟩:=C.ty _ _ _ _ j
  exact Qb (O8 e)
 refine callType_codes (Q₁:=fun obj s₁=>obj=.ref s.heap.objs.size/\s₁={ s with heap:=s.heap.push { cls:=.type "list",data:=.seq #[] } }) PySem.F.called_list (PySem.F.typeCall_list_1 _) PySem.F.entry_list_init
  (code_list_new _ ⟨rfl,rfl⟩) fun obj s₁ h₁=>?_
 obtain ⟨rfl,rfl⟩:=h₁
 have hS:(s.heap.push { cls:=.type "list",data:=.seq #[] }).get? s.heap.objs.size=some { cls:=.type "list",data:=.seq #[] }:=Pe _ rfl
 have I1:Inv X pins σ (upd H s.heap.objs.size (.lst [])) { s with heap:=s.heap.push { cls:=.type "list",data:=.seq ([]:List Value).toArray } }:=I.lnew (ys:=[]) (its:=[]) (t':=s.toks) .nil (by simp)
 have j1:J 0 [] (upd H s.heap.objs.size (.lst [])) (s.heap.push { cls:=.type "list",data:=.seq ([]:List Value).toArray })   := jn _ (O4 _) hf _ fun b o e=>O6 _ e
 refine ⟨⟨_,hS,rfl⟩,PySem.F.args_list_init_2 _ _,?_⟩
 generalize hs1:({ s with heap:=s.heap.push { cls:=.type "list",data:=.seq ([]:List Value).toArray } }:Shared)=s1 at I1
 have hS1:s1.heap.get? s.heap.objs.size=some { cls:=.type "list",data:=.seq ([]:List Value).toArray }:=by rw [<- hs1];exact hS
 replace j1:J 0 [] (upd H s.heap.objs.size (.lst [])) s1.heap:=by rw [<- hs1];exact j1
 have hs1':({ s with heap:=s.heap.push { cls:=.type "list",data:=.seq #[] } }:Shared)=s1:=hs1
 first | rw [hs1'] | skip
 show wpAny _ A.in1.in1 (do let old <- Builtin.List.listItems (.ref s.heap.objs.size);Builtin.List.listUpdate (.ref s.heap.objs.size) (fun _=>#[]);letGo old.toList.reverse;Vr (.ref s.heap.objs.size) (.ref it) .none) _ _ s1
 generalize s.heap.objs.size=S at *
 refine O2 ?_
 unfold Builtin.List.listItems
 refine O2 (Qu hS1 rfl (O3 ?_))
 show wpAny _ A.in1.in1 (updateSeq S (fun _=>#[]) >>= fun _=>letGo (#[]:Array Value).toList.reverse >>= fun _=>Vr (.ref S) (.ref it) .none) _ _ s1
 refine O2 (Va hS1 rfl ?_)
 have I2:=I1.lset (f:=fun _=>#[]) (its':=[]) (ys:=[]) (t':=s1.toks) Ad hS1 rfl .nil (by simp)
 have hS2:=Rk (Qq (fun _=>(#[]:Array Value))) hS1 rfl
 have j2:=C.keep _ _ _ _ (s1.heap.update S (Qq fun _=>#[])) S [] [] hf Ad j1 (fun b o hb eb=>(Qh _ _ (Pc hb)).trans eb) ⟨_,hS2⟩
 rw [Gn] at I2 j2
 generalize hs2:({ s1 with heap:=s1.heap.update S (Qq fun _=>#[]),toks:=s1.toks }:Shared)=s2 at I2
 replace j2:J 0 [] (upd H S (.lst [])) s2.heap:=by rw [<- hs2];exact j2
 have hs2':({ s1 with heap:=s1.heap.update S (Qq fun _=>#[]) }:Shared)=s2:=hs2
 first | rw [hs2'] | skip
 refine O2 (Vq ?_)
 obtain ⟨oi,ei,ci⟩:=C.ty _ _ _ _ j2
 have hT:s2.TypeIs (.ref it) T:=⟨oi,ei,ci⟩
 unfold Vr
 refine O2 (Sv hT ?_)
 have h1:Builtin.List.listSameRef (.ref S) (.ref it)=false:=by simp [Builtin.List.listSameRef,hne]
 have h2:=C.nl.1
 have h3:=C.nl.2
 simp only [h1,h2,h3,Bool.or_false,Q6,if_false]
 refine O2 (C.self _ s2 _ _ _ _ j2 ?_)
 refine O2 (P9 ?_)
 unfold Builtin.List.listLengthHint
 refine O2 (Wo hT C.nolen ?_)
 show wpAny _ A.in1.in1 (specialOf (Value.ref it) (Qc "__length_hint__") >>= _) _ _ _
 refine O2 (Wo hT C.nohint ?_)
 refine O3 ?_
 show wpAny _ A.in1.in1 (rule "list.extend.makes-room" >>= fun _=>Builtin.List.listTouch (.ref S) >>= fun _ =>
  again (.builtin "list.extend.loop" ⟨[.ref S,.ref it,.none],[]⟩)) _ _ _
 refine O2 (Sy ?_)
 refine O2 ?_
 show wpAny _ A.in1.in1 (updateSeq S (·.push .none) >>= fun _=>updateSeq S (·.pop)) _ _ _
 obtain ⟨_,its2,m2,rv2,_,e2⟩:=I2.lstM Ad
 cases rv2
 refine O2 (Va e2 rfl ?_)
 have I3:=I2.lset (f:=(·.push Value.none)) (its':=[.none]) (ys:=[.non]) (t':=s2.toks) Ad e2 (by simp) (.cons rfl .nil) (by show 1<=sizeLine;decide)
 have hS3:=Rk (Qq (·.push Value.none)) e2 rfl
 have j3:=C.keep _ _ _ _ (s2.heap.update S (Qq (·.push Value.none))) S [] [.non] hf Ad j2 (fun b o hb eb=>(Qh _ _ (Pc hb)).trans eb) ⟨_,hS3⟩
 rw [Gn] at I3 j3
 generalize hs3:({ s2 with heap:=s2.heap.update S (Qq (·.push Value.none)),toks:=s2.toks }:Shared)=s3 at I3
 replace j3:J 0 [] (upd H S (.lst [.non])) s3.heap:=by rw [<- hs3];exact j3
 have hs3':({ s2 with heap:=s2.heap.update S (Qq (·.push Value.none)) }:Shared)=s3:=hs3
 first | rw [hs3'] | skip
 obtain ⟨_,its3,m3,rv3,hl3,e3⟩:=I3.lstM Ad
 have hl3':its3.length=1:=hl3.symm
 refine Va e3 rfl ?_ (by rw [O7,hl3'];decide) (by show its3.toArray.pop.size<=sizeLine+1;rw [Array.size_pop,O7,hl3'];decide)
 have I4:=I3.lset (f:=(·.pop)) (its':=[]) (ys:=[]) (t':=s3.toks) Ad e3 (by
  cases its3 with
  | nil=>simp at hl3'
  | cons a r=>cases r with
   | nil=>simp
   | cons b r'=>simp at hl3') .nil (by simp)
 have hS4:=Rk (Qq (·.pop)) e3 rfl
 have j4:=C.keep _ _ _ _ (s3.heap.update S (Qq (·.pop))) S [.non] [] hf Ad j3 (fun b o hb eb=>(Qh _ _ (Pc hb)).trans eb) ⟨_,hS4⟩
 rw [Gn] at I4 j4
 refine O3 ⟨Sr Ue _,Zng C hn (A:=A.in1) hh S hf .none ?_ n 0 _ _ [] rfl (Pw _) I4 j4 Ad rfl⟩
 intro s' H' ys' I' hS' hl' hj'
 exact ⟨rfl,.ref S,H',I',rfl,q S H' ys' hf hS' hl' hj'⟩
end
section
variable {X:Cx}{pins:List (Addr×Obj)}{σ:St}{H:Hp}{s:Shared}{h':Heap}
theorem Inv.turned2 {t':Nat}{i1 i2:Addr}(I:Inv X pins σ H s)(k:∀ b o,b≠i1->b≠i2->s.heap.get? b=some o->h'.get? b=some o)(f1:FpOk X pins H i1)(f2:FpOk X pins H i2):Inv X pins σ H { s with heap:=h',toks:=t' }:=by
 obtain ⟨n1,l1,_,e1,c1,p1⟩:=f1
 obtain ⟨n2,l2,_,e2,c2,p2⟩:=f2
 have nit:∀ b u,H b=some u->b≠i1/\b≠i2:=fun b u e=>⟨(fun z=>by rw [z,n1] at e;exact nomatch e),(fun z=>by rw [z,n2] at e;exact nomatch e)⟩
 refine I.step (g':=s.gens) (d':=s.drawn) (ch:=[i1,i2]) (fun b hb=>?_) (fun b o _ _ hc e _=>k b o (fun z=>hc (by simp [z])) (fun z=>hc (by simp [z])) e) (fun b o _ _ hc e _=>⟨o.slots,k b o (fun z=>hc (by simp [z])) (fun z=>hc (by simp [z])) e⟩) (fun _ _ _ _ n=>n)
  (fun b o hc e=>⟨o,k b o (fun z=>hc (by simp [z])) (fun z=>hc (by simp [z])) e⟩) (fun _ _ e=>e) (fun _ _ _ e=>e) (fun b ps e=>⟨#[],by rw [e];simp⟩) (fun m hm=>?_) (fun b u e=>?_) I.bare
 ·rcases Pb.mp hb with rfl | hb
  ·exact ⟨e1,l1,c1,p1⟩
  ·rw [Qe.mp hb]
   exact ⟨e2,l2,c2,p2⟩
 ·obtain ⟨o,es,ep,ho,r⟩:=hm
  exact ⟨o,es,ep,k _ o (Pc l1) (Pc l2) ho,r⟩
 ·refine (I.hok b u e).stay (fun c v hc q=>k c v ?_ ?_ q) (fun _ q=>q) fun _ _ q=>q
  ·rcases hc with z | z
   ·rw [z];exact (nit b u e).1
   ·exact (nit c _ z).1
  ·rcases hc with z | z
   ·rw [z];exact (nit b u e).2
   ·exact (nit c _ z).2
end
theorem FpOk.of {X:Cx}{pins:List (Addr×Obj)}{H H':Hp}{b:Addr}(f:FpOk X pins H b)(h:H' b=none):FpOk X pins H' b:=⟨h,f.2⟩
theorem SqT.kept {K:O1}{H:Hp}{S a:Addr}{zs zs' xs:List V}(hS:H S=some (.lst zs))(h:SqT K H a xs):SqT K (upd H S (.lst zs')) a xs:=by
 rcases h with (h | ⟨o,h⟩) | h
 ·exact .inl (.inl (by rw [Af (Df h hS (by intro z;cases z))];exact h))
 ·exact .inl (.inr ⟨o,by rw [Af (Df h hS (by intro z;cases z))];exact h⟩)
 ·exact .inr h
theorem SqT.same {K:O1}{H H':Hp}{a:Addr}{xs:List V}(h:SqT K H a xs)(e:Same H H'):SqT K H' a xs:=e.tup h
noncomputable def Pairs (H:Hp)(xs:List V)(ys:List V):Prop:=∀(j:Nat)(y:V),ys[j]?=some y->∃(t:Addr)(x:V),y=V.ref t/\xs[j]?=some x/\H t=some (.tup [.int j,x])
noncomputable def JEn (K:O1)(H0:Hp)(en it a:Addr)(xs:List V):Nat->List V->Hp->Heap->Prop:=fun i ys H h =>
 EnSt h en it i/\h.IsTupleIter it a i/\(H en=none/\H it=none)/\SqT K H a xs/\ys.length=i/\Pairs H xs ys/\Same H0 H
theorem Zmx:typeLookup (.type "enumerate") "__len__" = pure none:=by rw [Tu,Te];kernel_rfl
theorem Zpv:typeLookup (.type "enumerate") "__length_hint__" = pure none:=by rw [Tu,Te];kernel_rfl
theorem Zq5 {X:Cx}{pins:List (Addr×Obj)}{σ:St}{H0:Hp}{en it a:Addr}{xs:List V}(fe:FpOk X pins H0 en)(fi:FpOk X pins H0 it)(hne:en≠it)(hae:a≠en)(hai:a≠it):Src X pins σ en "enumerate" xs.length H0 (JEn X.K H0 en it a xs) where
 ty:=fun i ys H h j=>by
  obtain ⟨vs,e⟩:=j.1.obj
  exact ⟨_,e,rfl⟩
 nl:=by decide
 nolen:=Zmx
 nohint:=Zpv
 self:=fun A s ys H Q E j q=>by
  rcases j.1 with ⟨_,old,e⟩ | ⟨z,_⟩
  ·exact wpAny_pyIter_enum e q
  ·exact absurd z (Qn _)
 keep:=fun i ys H h h' S zs zs' h0 hS j k al=>by
  obtain ⟨j1,j2,⟨j3,j4⟩,j5,j6,j7,j8⟩:=j
  have ne1:en≠S:=fun z=>by rw [z,hS] at j3;cases j3
  have ne2:it≠S:=fun z=>by rw [z,hS] at j4;cases j4
  refine ⟨?_,?_,⟨by rw [Af ne1];exact j3,by rw [Af ne2];exact j4⟩,j5.kept hS,j6,fun m y hy=>?_,fun b o e=>?_⟩
  ·rcases j1 with ⟨z,old,e⟩ | ⟨z,a0,oa,f1,old,e,ea,x1,x2⟩
   ·exact .inl ⟨z,old,k _ _ ne1 e⟩
   ·by_cases hs:a0=S
    ·subst hs
     obtain ⟨o,eo⟩:=al
     exact .inr ⟨z,a0,o,f1,old,k _ _ ne1 e,eo,x1,x2⟩
    ·exact .inr ⟨z,a0,oa,f1,old,k _ _ ne1 e,k _ _ hs ea,x1,x2⟩
  ·exact j2.at fun o e=>k _ _ ne2 e
  ·obtain ⟨t,x,e1,e2,e3⟩:=j7 m y hy
   exact ⟨t,x,e1,e2,by rw [Af (Df e3 hS (by intro z;cases z))];exact e3⟩
  ·have:b≠S:=fun z=>by rw [z,h0] at e;cases e
   rw [Af this]
   exact j8 b o e
 fresh:=fun i ys H h j=>j.2.2.1.1
 item:=fun A i s H ys E hh hi I j=>by
  obtain ⟨j1,j2,⟨j3,j4⟩,j5,j6,j7,j8⟩:=j
  obtain ⟨its,rv,p,hz⟩:=I.tuple j5
  have hl:=rv.length
  have D:=Oq (prog:=X.prog) (w:=X.w) (A:=A.in1) hh it a hai its.toArray
  refine Zps D j1 ⟨j2,p⟩ (by rw [O7];omega) hne (by simp [hne,Pc hae]) fun x h' tk hx st' it' ht hsz kk=>?_
  have I1:Inv X pins σ H { s with heap:=h',toks:=tk+1 }:=I.turned2 (fun b o h1 h2 e=>kk b o h1 h2 e) (fe.of j3) (fi.of j4)
  have hx':its[i]?=some x:=by simpa using hx
  have hxs:i < xs.length:=hi
  obtain ⟨u,hu,ru⟩:=rv.get (O5 hxs)
  rw [hx'] at hu
  cases hu
  have hf:H s.heap.objs.size=none:=I.hok.fresh (O4 _)
  have I2:Inv X pins σ (upd H s.heap.objs.size (.tup [.int i,xs[i]])) { s with heap:=h',toks:=tk+1 }:=by
   have hokN:HOk X.prog X.w (upd H s.heap.objs.size (.tup [.int i,xs[i]])) h':=fun b o e=>by
    by_cases hb:b=s.heap.objs.size
    ·subst hb
     rw [Ad] at e
     cases e
     exact ⟨by show 2<=sizeLine;decide,[.int i tk,x],.cons ⟨tk,rfl⟩ (.cons ru .nil),⟨_,ht,rfl,_,rfl⟩⟩
    ·rw [Af hb] at e
     refine (I1.hok b o e).stay (fun c v _ q=>q) (fun c q=>?_) fun c zs q=>?_
     ·rw [Af (B8 q hf)];exact q
     ·rw [Af (B8 q hf)];exact q
   have u:Un (A6 X.stack) [en,it] H (upd H s.heap.objs.size (.tup [.int i,xs[i]])) s.heap h':={
    keep:=fun b o e n _ hx=>kk b o (fun z=>hx (by simp [z])) (fun z=>hx (by simp [z])) e
    slot:=fun b o e n _ hx=>⟨o.slots,kk b o (fun z=>hx (by simp [z])) (fun z=>hx (by simp [z])) e⟩
    free:=fun b o e n _=>by rw [Af (Pg (O8 e))];exact n
    there:=fun b o e hx=>⟨o,kk b o (fun z=>hx (by simp [z])) (fun z=>hx (by simp [z])) e⟩
    tups:=fun b zs e=>by rw [Af (B8 e hf)];exact e
    frzs:=fun b o u e=>by rw [Af (B8 e hf)];exact e
    tbls:=fun b ps e=>⟨#[],by rw [Af (B8 e hf),e];simp⟩ }
   refine I.call (g':=s.gens) (d':=s.drawn) (t':=tk+1) u hokN I.bare fun b hb=>?_
   rcases Pb.mp hb with rfl | hb
   ·exact ⟨fe.2.2.2.1,fe.2.1,fe.2.2.2.2.1,fe.2.2.2.2.2⟩
   ·rw [Qe.mp hb]
    exact ⟨fi.2.2.2.1,fi.2.1,fi.2.2.2.2.1,fi.2.2.2.2.2⟩
  have sm:Same H (upd H s.heap.objs.size (.tup [.int i,xs[i]])):=Same.upd hf
  have ne1:en≠s.heap.objs.size:=by obtain ⟨_,e⟩:=j1.obj;exact Pg (O8 e)
  have ne2:it≠s.heap.objs.size:=by obtain ⟨_,e,_⟩:=j2;exact Pg (O8 e)
  refine ⟨_,.ref s.heap.objs.size,_,rfl,rfl,I2,⟨st',it'.1,⟨by rw [Af ne1];exact j3,by rw [Af ne2];exact j4⟩,j5.same sm,by simp [j6],fun m y hy=>?_,j8.trans sm⟩,fun S zs e=>sm S _ e⟩
  by_cases hm:m < i
  ·rw [Qd (by omega)] at hy
   obtain ⟨t,z,e1,e2,e3⟩:=j7 m y hy
   exact ⟨t,z,e1,e2,sm _ _ e3⟩
  ·have hlen:=(Ph.mp hy).1
   rw [O9,Pz] at hlen
   have:m=i:=by omega
   subst this
   rw [Qw (by omega),j6,Rt] at hy
   have hy:V.ref s.heap.objs.size=y:=by simpa using hy
   exact ⟨_,xs[m],hy.symm,O5 hxs,Ad⟩
 done:=fun A s H ys E hh I j=>by
  obtain ⟨j1,j2,⟨j3,j4⟩,j5,j6,j7,j8⟩:=j
  obtain ⟨its,rv,p,hz⟩:=I.tuple j5
  have hl:=rv.length
  have D:=Oq (prog:=X.prog) (w:=X.w) (A:=A.in1) hh it a hai its.toArray
  have e:xs.length=its.toArray.size:=by rw [O7];omega
  rw [e] at j1 j2
  refine Zov D j1 ⟨j2,p⟩ fun h' eb=>⟨rfl,?_⟩
  obtain ⟨g0,g1,g2,g3,g4,g5⟩:=fi.of j4
  exact I.turned (t':=s.toks) (fun b o hb e=>eb b o hb e) g0 g1 g3 g4 g5
section
variable {X:Cx}
theorem Zhe:bootBuiltins "list" = some (.type "list"):=by decide +kernel
noncomputable def Zbu (K:O1)(ta:TA):TE:=fun σ H Q=>ta σ H fun vs H1=>∃ a xs,vs=[.ref a]/\SqT K H1 a xs /\
 ∀(S:Addr)(ys:List V)(H2:Hp),H1 S=none->Same H1 H2->ys.length=xs.length->Pairs H2 xs ys->H2 S=some (.lst ys)->Q (.ref S) H2
theorem Zix {e:Expr}{ta:TA}{p p2 pos pos2:Pos}(hg:Gl X "list")(hm:X.mg "list" = none)(hg2:Gl X "enumerate")(hm2:X.mg "enumerate" = none)(ha:QA X [e] ta)(hc:X.calm=true:=by rfl)
  (hs:starEach [.Call (.Name "enumerate" p2) [e] [] pos2] X.env=[(false,eval (.Call (.Name "enumerate" p2) [e] [] pos2) X.env)]:=by rfl) (hs2:starEach [e] X.env=[(false,eval e X.env)]:=by rfl) :
  QE X (.Call (.Name "list" p) [.Call (.Name "enumerate" p2) [e] [] pos2] [] pos) (Zbu X.K ta):=by
 refine ⟨fun pins s σ H Q I h=>?_⟩
 refine Call_ (Fg I hg hm Zhe (Ry ?_ hs rfl))
 rw [hs]
 show wpAny _ _ (spliced ((false,eval (.Call (.Name "enumerate" p2) [e] [] pos2) X.env)::[])) _ _ s
 refine V4 ?_
 refine Call_ (Fg I hg2 hm2 PyProof.Rows.boot_enumerate (Ry (Aj (ha.run pos2 pins s σ H _ I h) fun us s1 zq=>?_) hs2 rfl))
 obtain ⟨vs,H1,I1,r1,q1⟩:=zq
 obtain ⟨a,xs,e1,hq,q⟩:=q1
 subst e1
 cases r1 with
 | cons r rr =>
  cases rr
  cases r
  obtain ⟨its,rv,pt,hz⟩:=I1.tuple hq
  have hlt:a < s1.heap.objs.size:=by obtain ⟨o,e,_⟩:=id pt;exact O8 e
  refine Zic (show s1.heap.IsTuple a its.toArray from pt) fun h' hen hit hsz hk=>?_
  refine Wa ?_
  have I2:Inv X pins σ H1 { s1 with heap:=h' }:=I1.kept (t':=s1.toks) hk
  have fe:=I1.fpOk (b:=s1.heap.objs.size+1) (T2 _) (I1.hok.fresh (T2 _))
  have fi:=I1.fpOk (b:=s1.heap.objs.size) (O4 _) (I1.hok.fresh (O4 _))
  have C:=Zq5 (X:=X) (pins:=pins) (σ:=σ) (H0:=H1) (en:=s1.heap.objs.size+1) (it:=s1.heap.objs.size) (a:=a) (xs:=xs) fe fi (Nat.succ_ne_self _) (Pg (Nat.lt_succ_of_lt hlt)) (Pg hlt)
  refine Ze2 C (by omega) (I1.ok.hd hc) I2 ⟨.inl ⟨rfl,_,hen⟩,hit,⟨fe.1,fi.1⟩,hq,rfl,fun j y hy=>by simp at hy,Same.refl _⟩ (fun S hge hS h2 k2=>?_) fun S H' ys hS hS' hl' hj=>?_
  ·have sm:Same H1 (upd H1 S (.lst [])):=Same.upd hS
   refine ⟨.inl ⟨rfl,_,k2 _ _ hen⟩,hit.at fun o e=>k2 _ _ e,⟨?_,?_⟩,hq.same sm,rfl,fun j y hy=>by simp at hy,sm⟩
   ·rw [Af (show s1.heap.objs.size+1≠S from fun z=>?_)]
    ·exact fe.1
    ·have hge:h'.objs.size<=S:=hge
     omega
   ·rw [Af (show s1.heap.objs.size≠S from fun z=>?_)]
    ·exact fi.1
    ·have hge:h'.objs.size<=S:=hge
     omega
  ·obtain ⟨h,j⟩:=hj
   exact q S ys H' hS j.2.2.2.2.2.2 hl' j.2.2.2.2.2.1 hS'
end
end L2
namespace L2
open PySem PySem.SeqAt
open PySem.AutoSeq1 (wpAny_loadPart')
open PySem.MeetsSeq PySem.MeetsSeq2 PySem.MeetsSeq3 PySem.SeqRoads2
theorem Zqo (l b:Addr)(items items2:Array Value)(n n2:Nat)(dd dd2:Option Addr)(sl sl2:Array (Option Value))(hsz:items.size=items2.size)(e:Nat->Bool)(k:Nat) :
  ∀ i:Nat,items.size - i=k->Meets (Builtin.«list.__eq__.loop» ⟨[.ref l,.ref b,rawInt i,rawInt 3],[]⟩)
   (fun A R s=>s.heap.get? l=some { cls:=.type "list",dict:=dd,data:=.seq items n,slots:=sl }/\s.heap.get? b=some { cls:=.type "list",dict:=dd2,data:=.seq items2 n2,slots:=sl2 } /\
    (∀ j (h1:j < items.size) (h2:j < items2.size),EqAt A.in1 s items[j] items2[j] (e j)) /\
    R (.ok (.ret (.bool (!((Pp items.size).drop i).all e)))) s):=by
 induction k with
 | zero =>
  intro i hk prog w A R s h
  obtain ⟨hp,g,d,tk,os⟩:=s;obtain ⟨hl,hb,he,h⟩:=h
  wp_walk using wpAny_loadPart' hl,wpAny_loadPart' hb
  have hi1:items[((i:Nat):Int).toNat]?=none:=by simp;omega
  have hi2:items2[((i:Nat):Int).toNat]?=none:=by simp;omega
  have hd:(Pp items.size).drop i=[]:=by simp;omega
  rw [hd] at h
  rw [hi1,hi2]
  wp_walk using wpAny_loadPart' hl,wpAny_loadPart' hb
  show R (.ok (.ret (.bool (items.size != items2.size)))) _
  rw [hsz]
  simpa using h
 | succ k ih =>
  intro i hk prog w A R s h
  obtain ⟨hp,g,d,tk,os⟩:=s;obtain ⟨hl,hb,he,h⟩:=h
  wp_walk using wpAny_loadPart' hl,wpAny_loadPart' hb
  have hlt:i < items.size:=by omega
  have hlt2:i < items2.size:=by omega
  have hi1:items[((i:Nat):Int).toNat]?=some items[i]:=by simp [hlt]
  have hi2:items2[((i:Nat):Int).toNat]?=some items2[i]:=by simp [hlt2]
  have hd:(Pp items.size).drop i=i::(Pp items.size).drop (i+1):=by simp [R0,hlt]
  have hc:((i:Int)+1)=((i+1:Nat):Int):=by push_cast;rfl
  rw [hd,Q2] at h
  rw [hi1,hi2]
  refine O2 (he i hlt hlt2 prog w _ _ ?_)
  cases hb':e i with
  | true =>
   rw [hb'] at h
   wp_walk
   rw [hc]
   exact ⟨Sr plain_eq_loop _,So entry_eq_loop (by
    rw [Sh plain_eq_loop _]
    exact ih (i+1) (by omega) prog w A R _ ⟨hl,hb,he,by simpa using h⟩)⟩
  | false =>
   rw [hb'] at h
   wp_walk using wpAny_loadPart' hl,wpAny_loadPart' hb
   rw [hi1,hi2]
   wp_walk
   simpa using h
theorem Zrj (l b:Addr)(items items2:Array Value)(n n2:Nat)(dd dd2:Option Addr)(sl sl2:Array (Option Value))(hsz:items.size=items2.size)(e:Nat->Bool) :
  Meets (Builtin.«list.__ne__» ⟨[.ref l,.ref b],[]⟩)
   (fun A R s=>s.heap.get? l=some { cls:=.type "list",dict:=dd,data:=.seq items n,slots:=sl }/\s.heap.get? b=some { cls:=.type "list",dict:=dd2,data:=.seq items2 n2,slots:=sl2 } /\
    (∀ j (h1:j < items.size) (h2:j < items2.size),EqAt A.in1 s items[j] items2[j] (e j)) /\
    R (.ok (.ret (.bool (!(Pp items.size).all e)))) s):=by
 intro prog w A R s h
 obtain ⟨hp,g,d,tk,os⟩:=s;obtain ⟨hl,hb,he,h⟩:=h
 have f3:=PySem.AutoSeq1.sub_list_list
 have hne:¬ (items.size != items2.size)=true:=by simp [hsz]
 wp_walk using wpAny_loadPart' hl,wpAny_loadPart' hb
 exact ⟨Sr plain_eq_loop _,So entry_eq_loop (by
  rw [Sh plain_eq_loop _]
  exact Zqo l b items items2 n n2 dd dd2 sl sl2 hsz e _ 0 rfl prog w A R _ ⟨hl,hb,he,by simpa using h⟩)⟩
theorem Zo5 (l b:Addr)(items items2:Array Value)(n n2:Nat)(dd dd2:Option Addr)(sl sl2:Array (Option Value))(e:Nat->Bool) :
  Meets (Builtin.«tuple.__ne__» ⟨[.ref l,.ref b],[]⟩)
   (fun A R s=>s.heap.get? l=some { cls:=.type "tuple",dict:=dd,data:=.seq items n,slots:=sl }/\s.heap.get? b=some { cls:=.type "tuple",dict:=dd2,data:=.seq items2 n2,slots:=sl2 } /\
    (∀ j (h1:j < items.size) (h2:j < items2.size),EqAt A.in1 s items[j] items2[j] (e j)) /\
    R (.ok (.ret (.bool (!((Pp (min items.size items2.size)).all e && items.size == items2.size))))) s) :=
 .of_wp fun prog w A R s h=>by
  obtain ⟨hp,g,d,tk,os⟩:=s;obtain ⟨hl,hb,he,h⟩:=h
  have f2:=PySem.AutoSeq1.sub_tuple_tuple
  have hZ:(items.toList.zip items2.toList).length=min items.size items2.size:=by simp
  wp_walk using wpAny_loadPart' hl,wpAny_loadPart' hb,wpAny_forIn_list _ (fun rest b s'=>b.1=none/\s'=⟨hp,g,d,tk,os⟩/\∃ i,rest=(items.toList.zip items2.toList).drop i /\
   R (.ok (.ret (.bool (!(((Pp (min items.size items2.size)).drop i).all e && items.size == items2.size))))) ⟨hp,g,d,tk,os⟩) _
  case turn =>
   rintro ⟨y,x⟩ rest b s' ⟨hb',rfl,i,hz,hR⟩
   have hlt:i < (items.toList.zip items2.toList).length:=by
    rcases Nat.lt_or_ge i (items.toList.zip items2.toList).length with h' | h'
    ·exact h'
    ·rw [Q4 h'] at hz;cases hz
   have hm:i < min items.size items2.size:=hZ ▸ hlt
   have h1:i < items.size:=Pk hm (Nat.min_le_left _ _)
   have h2:i < items2.size:=Pk hm (Nat.min_le_right _ _)
   rw [R0 hlt] at hz
   injection hz with hyx hrest
   have hy:y=items[i]:=by have:=congrArg Prod.fst hyx;simpa using this
   have hx:x=items2[i]:=by have:=congrArg Prod.snd hyx;simpa using this
   subst hy hx
   have hd:(Pp (min items.size items2.size)).drop i=i::(Pp (min items.size items2.size)).drop (i+1):=by simp [R0,hm]
   rw [hd,Q2] at hR
   refine O2 (he i h1 h2 prog w _ _ ?_)
   cases hy:e i with
   | true =>
    rw [hy] at hR
    wp_walk
    exact ⟨rfl,rfl,i+1,hrest,by simpa using hR⟩
   | false =>
    rw [hy] at hR
    wp_walk
    exact ⟨_,rfl,by simpa using hR⟩
  case fin =>
   rintro ⟨b1,b2⟩ s' ⟨hb',rfl,i,hz,hR⟩
   simp only at hb'
   subst hb'
   have hge:min items.size items2.size<=i:=by
    rcases Nat.lt_or_ge i (items.toList.zip items2.toList).length with h' | h'
    ·rw [R0 h'] at hz;cases hz
    ·exact hZ ▸ h'
   rw [Q4 (by simpa using hge)] at hR
   wp_walk
   exact ⟨_,rfl,by simpa [Builtin.Tuple.tupleCompareSizes,bne] using hR⟩
  case h =>
   exact ⟨rfl,rfl,0,rfl,by simpa using h⟩
section
variable {prog:Program}{w:World}{A:Around}{E:Value->Shared->Prop}{s:Shared}
theorem Zrt {l b:Addr}{items items2:Array Value}{e:Nat->Bool}{Q:Value->Shared->Prop}(hl:s.heap.IsList l items)(hb:s.heap.IsList b items2)(hsz:items.size=items2.size)(hu:A.units < cLine)
  (he:∀ j (h1:j < items.size) (h2:j < items2.size),EqAt A.in1 s items[j] items2[j] (e j)) (h:Q (.bool (!(Pp items.size).all e)) s):wpAny (model prog w) A (compareOp .NotEq (.ref l) (.ref b)) Q E s:=by
 obtain ⟨⟨cls,dd,data,sl⟩,ho,hc,n,hd⟩:=id hl
 obtain ⟨⟨cls2,dd2,data2,sl2⟩,ho2,hc2,n2,hd2⟩:=id hb
 simp only at hc hd hc2 hd2
 subst hc hd hc2 hd2
 exact richCompare_meets_room (op:=.NotEq) ⟨_,ho,rfl⟩ ⟨_,ho2,rfl⟩ F.slot_list_ne F.entry_list_ne (F.args_list_ne_2 _ _) (Zrj l b items items2 n n2 dd dd2 sl sl2 hsz e)
  ⟨ho,ho2,he,show Value.bool (!(Pp items.size).all e)≠Value.notImplemented/\Q (.bool (!(Pp items.size).all e)) s from ⟨(fun x=>nomatch x),h⟩⟩ hu
theorem Zkz {l b:Addr}{items items2:Array Value}{e:Nat->Bool}{Q:Value->Shared->Prop}(hl:s.heap.IsTuple l items)(hb:s.heap.IsTuple b items2)(hu:A.units < cLine)
  (he:∀ j (h1:j < items.size) (h2:j < items2.size),EqAt A.in1 s items[j] items2[j] (e j)) (h:Q (.bool (!((Pp (min items.size items2.size)).all e && items.size == items2.size))) s):wpAny (model prog w) A (compareOp .NotEq (.ref l) (.ref b)) Q E s:=by
 obtain ⟨⟨cls,dd,data,sl⟩,ho,hc,n,hd⟩:=id hl
 obtain ⟨⟨cls2,dd2,data2,sl2⟩,ho2,hc2,n2,hd2⟩:=id hb
 simp only at hc hd hc2 hd2
 subst hc hd hc2 hd2
 exact richCompare_meets_room (op:=.NotEq) ⟨_,ho,rfl⟩ ⟨_,ho2,rfl⟩ F.slot_tuple_ne F.entry_tuple_ne (F.args_tuple_ne_2 _ _) (Zo5 l b items items2 n n2 dd dd2 sl sl2 e)
  ⟨ho,ho2,he,show Value.bool (!((Pp (min items.size items2.size)).all e && items.size == items2.size))≠Value.notImplemented/\Q (.bool (!((Pp (min items.size items2.size)).all e && items.size == items2.size))) s from ⟨(fun x=>nomatch x),h⟩⟩ hu
end
end L2
namespace L2
open PySem PySem.Spec PyProof.Rows
inductive Dt where
 | flat (v:V)
 | tup (ds:List Dt)
 | lst (ds:List Dt)
inductive IsD (K:O1)(H:Hp):Nat->V->Dt->Prop where
 | flat {n:Nat} {v:V} (h:B3 v=true):IsD K H n v (.flat v)
 | tup {n:Nat} {a:Addr} {vs:List V} {ds:List Dt} (q:SqT K H a vs) (l:vs.length=ds.length) (h:∀(j:Nat)(v:V)(d:Dt),vs[j]?=some v->ds[j]?=some d->IsD K H n v d):IsD K H (n+1) (.ref a) (.tup ds)
 | lst {n:Nat} {a:Addr} {vs:List V} {ds:List Dt} (q:SqL K H a vs) (l:vs.length=ds.length) (h:∀(j:Nat)(v:V)(d:Dt),vs[j]?=some v->ds[j]?=some d->IsD K H n v d):IsD K H (n+1) (.ref a) (.lst ds)
theorem IsD.same {K:O1}{H H':Hp}{n:Nat}{v:V}{d:Dt}(h:IsD K H n v d)(e:Same H H'):IsD K H' n v d:=by
 induction h with
 | flat h=>exact .flat h
 | tup q l _ ih=>exact .tup (e.tup q) l ih
 | lst q l _ ih=>exact .lst (e.seq q) l ih
theorem IsD.up {K:O1}{H:Hp}{n m:Nat}{v:V}{d:Dt}(h:IsD K H n v d)(hm:n<=m):IsD K H m v d:=by
 induction h generalizing m with
 | flat h=>exact .flat h
 | tup q l _ ih =>
  obtain ⟨k,rfl⟩:∃ k,m=k+1:=⟨m - 1,by omega⟩
  exact .tup q l fun j v d e1 e2=>ih j v d e1 e2 (by omega)
 | lst q l _ ih =>
  obtain ⟨k,rfl⟩:∃ k,m=k+1:=⟨m - 1,by omega⟩
  exact .lst q l fun j v d e1 e2=>ih j v d e1 e2 (by omega)
theorem Zdb {v:V}(h:B3 v=true):Dz v v=true:=by
 cases v with
 | non=>rfl
 | bl b=>simp [Dz]
 | int i=>simp [Dz]
 | str x=>simp [Dz]
 | byt _=>cases h
 | flt _=>cases h
 | ref _=>cases h
 | ty _=>cases h
section
variable {X:Cx}{pins:List (Addr×Obj)}{σ:St}{H:Hp}{s:Shared}
theorem Zn0 (I:Inv X pins σ H s):∀{n:Nat}{x y:V}{d:Dt},IsD X.K H n x d->IsD X.K H n y d->∀{A:Around}{u v:Value},RelV x u->RelV y v->A.units+n < cLine->Po A s u v true:=by
 intro n
 induction n with
 | zero =>
  intro x y d hx hy A u v rx ry hu
  cases hx with
  | flat fx =>
   cases hy with
   | flat fy =>
    have:=Oe (A:=A) (s:=s) rx ry fx fy
    rw [Zdb fx] at this
    exact this
 | succ n ih =>
  intro x y d hx hy A u v rx ry hu
  cases hx with
  | flat fx =>
   cases hy with
   | flat fy =>
    have:=Oe (A:=A) (s:=s) rx ry fx fy
    rw [Zdb fx] at this
    exact this
  | @tup _ a vs ds q l h =>
   cases hy with
   | @tup _ b ws _ q' l' h' =>
    cases rx
    cases ry
    by_cases hab:a=b
    ·subst hab
     exact Wm _
    obtain ⟨its,r1,p1,_⟩:=I.tuple q
    obtain ⟨its2,r2,p2,_⟩:=I.tuple q'
    have l1:=r1.length
    have l2:=r2.length
    have:=SeqAt.RcAt.tuples (A:=A) (e:=fun _=>true) (show s.heap.IsTuple a its.toArray from p1) (show s.heap.IsTuple b its2.toArray from p2) (by omega) fun j h1 h2=>by
     have h1':j < vs.length:=by simp only [O7] at h1;omega
     have h2':j < ws.length:=by simp only [O7] at h2;omega
     obtain ⟨u1,g1,k1⟩:=r1.get (O5 h1')
     obtain ⟨u2,g2,k2⟩:=r2.get (O5 h2')
     have e1:its.toArray[j]=u1:=by
      have:its[j]?=some its[j]:=by simp
      rw [this] at g1
      simpa using g1
     have e2:its2.toArray[j]=u2:=by
      have:its2[j]?=some its2[j]:=by simp
      rw [this] at g2
      simpa using g2
     rw [e1,e2]
     have hd:j < ds.length:=by omega
     exact ih (h j _ _ (O5 h1') (O5 hd)) (h' j _ _ (O5 h2') (O5 hd)) k1 k2 (by show A.units+1+n < cLine;omega)
    have e:((Pp (min its.toArray.size its2.toArray.size)).all (fun _=>true) && its.toArray.size == its2.toArray.size)=true:=by
     have:its.toArray.size=its2.toArray.size:=by simp only [O7];omega
     rw [this]
     simp
    rw [e] at this
    exact Po.of_refs hab this
  | @lst _ a vs ds q l h =>
   cases hy with
   | @lst _ b ws _ q' l' h' =>
    cases rx
    cases ry
    by_cases hab:a=b
    ·subst hab
     exact Wm _
    obtain ⟨its,r1,p1,_⟩:=I.list q
    obtain ⟨its2,r2,p2,_⟩:=I.list q'
    have l1:=r1.length
    have l2:=r2.length
    have:=SeqAt.RcAt.lists (A:=A) (e:=fun _=>true) p1.isList p2.isList (by simp only [O7];omega) (by omega) fun j h1 h2=>by
     have h1':j < vs.length:=by simp only [O7] at h1;omega
     have h2':j < ws.length:=by simp only [O7] at h2;omega
     obtain ⟨u1,g1,k1⟩:=r1.get (O5 h1')
     obtain ⟨u2,g2,k2⟩:=r2.get (O5 h2')
     have e1:its.toArray[j]=u1:=by
      have:its[j]?=some its[j]:=by simp
      rw [this] at g1
      simpa using g1
     have e2:its2.toArray[j]=u2:=by
      have:its2[j]?=some its2[j]:=by simp
      rw [this] at g2
      simpa using g2
     rw [e1,e2]
     have hd:j < ds.length:=by omega
     exact ih (h j _ _ (O5 h1') (O5 hd)) (h' j _ _ (O5 h2') (O5 hd)) k1 k2 (by show A.units+1+n < cLine;omega)
    have e:(Pp its.toArray.size).all (fun _=>true)=true:=by simp
    rw [e] at this
    exact Po.of_refs hab this
theorem Na (I:Inv X pins σ H s){n:Nat}{A:Around}{vs ws:List V}{its its2:List Value}{ds:List Dt}(r1:Vals vs its)(r2:Vals ws its2)(l:vs.length=ds.length)(l':ws.length=ds.length)
  (h:∀(j:Nat)(v:V)(d:Dt),vs[j]?=some v->ds[j]?=some d->IsD X.K H n v d) (h':∀(j:Nat)(v:V)(d:Dt),ws[j]?=some v->ds[j]?=some d->IsD X.K H n v d) (hu:A.units+n < cLine) :
  ∀ j (h1:j < its.toArray.size) (h2:j < its2.toArray.size),Po A s its.toArray[j] its2.toArray[j] ((fun _=>true) j):=fun j h1 h2=>by
 have l1:=r1.length
 have l2:=r2.length
 have h1':j < vs.length:=by simp only [O7] at h1;omega
 have h2':j < ws.length:=by simp only [O7] at h2;omega
 obtain ⟨u1,g1,k1⟩:=r1.get (O5 h1')
 obtain ⟨u2,g2,k2⟩:=r2.get (O5 h2')
 have e1:its.toArray[j]=u1:=by
  have:its[j]?=some its[j]:=by simp
  rw [this] at g1
  simpa using g1
 have e2:its2.toArray[j]=u2:=by
  have:its2[j]?=some its2[j]:=by simp
  rw [this] at g2
  simpa using g2
 rw [e1,e2]
 have hd:j < ds.length:=by omega
 exact Zn0 I (h j _ _ (O5 h1') (O5 hd)) (h' j _ _ (O5 h2') (O5 hd)) k1 k2 hu
end
section
variable {X:Cx}
noncomputable def Ls (K:O1)(b:Bool):R2:=fun x y H Q=>∃(a c:Addr)(n:Nat)(d:Dt),x=.ref a/\y=.ref c/\n<=190/\IsD K H n x d/\IsD K H n y d/\Q (.bl b) H
theorem Zit (hu:X.A.units+200 < cLine):OpR X (compareOp .Eq) (Ls X.K true):=by
 intro pins s σ H x y v u Q I rx ry h
 obtain ⟨a,c,n,d,rfl,rfl,hn,hx,hy,q⟩:=h
 cases rx
 cases ry
 cases hx with
 | flat fx=>cases fx
 | @tup n _ vs ds qx l hd =>
  cases hy with
  | @tup _ _ ws _ qy l' hd' =>
   obtain ⟨its,r1,p1,_⟩:=I.tuple qx
   obtain ⟨its2,r2,p2,_⟩:=I.tuple qy
   have l1:=r1.length
   have l2:=r2.length
   refine SeqAt.eq_tupleAt (e:=fun _=>true) (show s.heap.IsTuple a its.toArray from p1) (show s.heap.IsTuple c its2.toArray from p2) (by omega) (Na I r1 r2 l l' hd hd' (by show X.A.units+1+n < cLine;omega)) ?_
   have e:((Pp (min its.toArray.size its2.toArray.size)).all (fun _=>true) && its.toArray.size == its2.toArray.size)=true:=by
    have:its.toArray.size=its2.toArray.size:=by simp only [O7];omega
    rw [this]
    simp
   rw [e]
   exact ⟨.bl true,H,I,rfl,q⟩
 | @lst n _ vs ds qx l hd =>
  cases hy with
  | @lst _ _ ws _ qy l' hd' =>
   obtain ⟨its,r1,p1,_⟩:=I.list qx
   obtain ⟨its2,r2,p2,_⟩:=I.list qy
   have l1:=r1.length
   have l2:=r2.length
   refine SeqAt.eq_listAt (e:=fun _=>true) p1.isList p2.isList (by simp only [O7];omega) (by omega) (Na I r1 r2 l l' hd hd' (by show X.A.units+1+n < cLine;omega)) ?_
   have e:(Pp its.toArray.size).all (fun _=>true)=true:=by simp
   rw [e]
   exact ⟨.bl true,H,I,rfl,q⟩
theorem Zkk (hu:X.A.units+200 < cLine):OpR X (compareOp .NotEq) (Ls X.K false):=by
 intro pins s σ H x y v u Q I rx ry h
 obtain ⟨a,c,n,d,rfl,rfl,hn,hx,hy,q⟩:=h
 cases rx
 cases ry
 cases hx with
 | flat fx=>cases fx
 | @tup n _ vs ds qx l hd =>
  cases hy with
  | @tup _ _ ws _ qy l' hd' =>
   obtain ⟨its,r1,p1,_⟩:=I.tuple qx
   obtain ⟨its2,r2,p2,_⟩:=I.tuple qy
   have l1:=r1.length
   have l2:=r2.length
   refine Zkz (e:=fun _=>true) (show s.heap.IsTuple a its.toArray from p1) (show s.heap.IsTuple c its2.toArray from p2) (by omega) (Na I r1 r2 l l' hd hd' (by show X.A.units+1+n < cLine;omega)) ?_
   have e:(!((Pp (min its.toArray.size its2.toArray.size)).all (fun _=>true) && its.toArray.size == its2.toArray.size))=false:=by
    have:its.toArray.size=its2.toArray.size:=by simp only [O7];omega
    rw [this]
    simp
   rw [e]
   exact ⟨.bl false,H,I,rfl,q⟩
 | @lst n _ vs ds qx l hd =>
  cases hy with
  | @lst _ _ ws _ qy l' hd' =>
   obtain ⟨its,r1,p1,_⟩:=I.list qx
   obtain ⟨its2,r2,p2,_⟩:=I.list qy
   have l1:=r1.length
   have l2:=r2.length
   refine Zrt (e:=fun _=>true) p1.isList p2.isList (by simp only [O7];omega) (by omega) (Na I r1 r2 l l' hd hd' (by show X.A.units+1+n < cLine;omega)) ?_
   have e:(!(Pp its.toArray.size).all (fun _=>true))=false:=by simp
   rw [e]
   exact ⟨.bl false,H,I,rfl,q⟩
noncomputable def Mx (K:O1):R2:=fun x y H Q=>rEq x y H Q\/Ls K true x y H Q
noncomputable def N0 (K:O1):R2:=fun x y H Q=>rNe x y H Q\/Ls K false x y H Q
theorem Zcn (hu:X.A.units+200 < cLine):OpR X (compareOp .Eq) (Mx X.K):=op_eq.or (Zit hu)
theorem Zsp (hu:X.A.units+200 < cLine):OpR X (compareOp .NotEq) (N0 X.K):=op_ne.or (Zkk hu)
theorem s_eq {K:O1}{x y:V}{H:Hp}{Q:VK}(hs:Mo x y=true)(h:Q (.bl (decide (x=y))) H):Mx K x y H Q:=.inl ⟨hs,h⟩
theorem s_ne {K:O1}{x y:V}{H:Hp}{Q:VK}(hs:Mo x y=true)(h:Q (.bl (!decide (x=y))) H):N0 K x y H Q:=.inl ⟨hs,h⟩
theorem Room.u200 {k:Nat}{A:Around}(r:Room k A):A.units+200 < cLine:=by have:=r.un;omega
end
section
variable {t u:TS}{c d:TT}{te ta tb tc:TE}{g:TG}{gs:Ds}{ts:TA}{D:Ends}{σ:St}{H:Hp}{Q:VK}{QB:Bool->Hp->Prop}{QA':List V->Hp->Prop}
theorem s_seq (h:t { D with nx:=u D } σ H):Mm t u D σ H:=h
theorem s_asg (h:te σ H fun x H1=>g x σ H1 D.nx):F6 te g D σ H:=h
theorem s_ret (h:te σ H D.rt):Zbm te D σ H:=h
theorem s_drop (h:te σ H fun _ H1=>D.nx σ H1):Oo te D σ H:=h
theorem s_next (h:D.nx σ H):N8 D σ H:=h
theorem s_ifS (h:c σ H fun b H1=>if b=true then t D σ H1 else u D σ H1):Cm c t u D σ H:=h
theorem s_var {i:Nat}{v:V}(e:σ[i]?=some (some v))(h:Q v H):Zan i σ H Q:=⟨v,e,h⟩
theorem s_c {v:V}(h:Q v H):tC v σ H Q:=h
theorem s_op {r:R2}(h:ta σ H fun x H1=>tb σ H1 fun y H2=>r x y H2 Q):Ey r ta tb σ H Q:=h
theorem s_un {r:V->Hp->VK->Prop}(h:ta σ H fun x H1=>r x H1 Q):tUn r ta σ H Q:=h
theorem s_test (h:te σ H fun x H'=>∃ k,x=.bl k/\QB k H'):Oi te σ H QB:=h
theorem s_tB (h:te σ H fun x H'=>∃ k,x=.bl k/\QB k H'):tB te σ H QB:=h
theorem s_ex {b:Bool}{P:Bool->Prop}(h:P b):∃ k,V.bl b=V.bl k/\P k:=⟨b,rfl,h⟩
theorem s_exi {i:Int}{P:Int->Prop}(h:P i):∃ k,V.int i=V.int k/\P k:=⟨i,rfl,h⟩
theorem s_not (h:c σ H fun b H1=>QB (!b) H1):Ou c σ H QB:=h
theorem s_and (h:c σ H fun b H1=>if b=true then d σ H1 QB else QB false H1):Nq c d σ H QB:=h
theorem s_or (h:c σ H fun b H1=>if b=true then QB true H1 else d σ H1 QB):tOr c d σ H QB:=h
theorem s_andV (h:ta σ H fun x H1=>∃ k,x=.bl k/\if k=true then tb σ H1 Q else Q (.bl false) H1):Zay ta tb σ H Q:=h
theorem s_orV (h:ta σ H fun x H1=>∃ k,x=.bl k/\if k=true then Q (.bl true) H1 else tb σ H1 Q):Zb0 ta tb σ H Q:=h
theorem s_notV (h:ta σ H fun x H1=>∃ k,x=.bl k/\Q (.bl (!k)) H1):Nh ta σ H Q:=h
theorem s_nil (h:QA' [] H):Gg σ H QA':=h
theorem s_cons (h:te σ H fun x H1=>ts σ H1 fun xs H2=>QA' (x::xs) H2):Zby te ts σ H QA':=h
theorem s_vals {xs:List V}(h:QA' xs H):Np xs σ H QA':=h
theorem s_tup (h:ts σ H fun xs H1=>xs.length<=sizeLine/\∀ p,H1 p=none->Q (.ref p) (upd H1 p (.tup xs))):Zak ts σ H Q:=h
theorem s_lst (h:ts σ H fun xs H1=>xs.length<=sizeLine/\∀ p,H1 p=none->Q (.ref p) (upd H1 p (.lst xs))):N1 ts σ H Q:=h
theorem s_call {sp:Sp}{dvs:List V}{E:XK}(h:ts σ H fun vs H1=>sp (vs++dvs) H1 Q E):Kh sp dvs E ts σ H Q:=h
theorem s_cb {r:List V->Hp->VK->Prop}(h:ts σ H fun vs H1=>r vs H1 Q):tCB r ts σ H Q:=h
theorem s_bm {K:O1}{T:String}{r:V->List V->Hp->VK->Prop}(h:te σ H fun x H1=>Ic K T x H1/\ts σ H1 fun xs H2=>r x xs H2 Q):tBM K T r te ts σ H Q:=h
theorem s_bm0 {K:O1}{T:String}{r:V->List V->Hp->VK->Prop}(h:te σ H fun x H1=>Ic K T x H1/\r x [] H1 Q):Mr K T r te σ H Q:=h
theorem s_sl {r:V->Option Int->Option Int->Hp->VK->Prop}{tl th:TO}(h:te σ H fun x H1=>tl σ H1 fun l H2=>th σ H2 fun u H3=>r x l u H3 Q):tSl r te tl th σ H Q:=h
theorem s_po {QO':Option Int->Hp->Prop}(h:te σ H fun x H1=>∃ i,x=.int i/\QO' (some i) H1):Zab te σ H QO':=h
theorem s_po0 {QO':Option Int->Hp->Prop}(h:QO' none H):Oz σ H QO':=h
theorem s_gname {i:Nat}{v:V}{QS':St->Hp->Prop}(h:QS' (σ.set i (some v)) H):Fs i v σ H QS':=h
theorem Dc {K:O1}{n:Nat}{a:Addr}{xs:List V}{QS':St->Hp->Prop}(q:SqT K H a xs)(l:xs.length=n)(h:gs xs σ H QS'):Lg K n gs (.ref a) σ H QS':=⟨a,xs,rfl,q,l,h⟩
theorem s_gcons {v:V}{r:List V}{QS':St->Hp->Prop}(h:g v σ H fun σ' H'=>gs r σ' H' QS'):Za7 g gs (v::r) σ H QS':=⟨v,r,rfl,h⟩
theorem s_gnil {QS':St->Hp->Prop}(h:QS' σ H):Zbr [] σ H QS':=⟨rfl,h⟩
theorem s_isN (h:ta σ H fun x H1=>Q (.bl (decide (x=.non))) H1):N3 ta σ H Q:=h
end
section
variable {wi:TI}{σ0:St->St}{g:TG}{tt:TT}{te:TE}{ta:TA}{tb:TS}{D:Ends}{σ:St}{H:Hp}{Q:VK}{R:It->Hp->Prop}{K:O1}
theorem s_comp (h:wi σ H fun J H1=>∀ L,H1 L=none->Mb J g tt te (σ0 σ) H1 L Q):K9 wi σ0 g tt te σ H Q:=h
theorem s_for (h:wi σ H fun J H1=>∃ W:Nat->Nat->St->Hp->Prop,(∃ m,W 0 m σ H1)/\∀ i m σ H,W i m σ H ->
 (J.stop i H/\D.nx σ H)\/(J.go i H/\∃ N:St->Hp->Prop,(∀ σ' H',N σ' H'->∃ m',m' < m/\W (i+1) m' σ' H')/\∀ x H',J.yld i H x H'->g x σ H' fun σ2 H2=>tb { D with nx:=N,ct:=N,bk:=D.nx } σ2 H2)):Og wi g tb D σ H:=h
theorem s_rng1 (h:ta σ H fun vs H1=>∃ j:Int,vs=[.int j]/\-(2 ^ 62)<=j/\j < 2 ^ 62/\R (Gb 0 j.toNat) H1):Zb2 ta σ H R:=h
theorem s_exr {i:Int}{P:Int->Prop}(h:P i):∃ j,([V.int i]:List V)=[.int j]/\P j:=⟨i,rfl,h⟩
theorem s_iany (h:te σ H fun x H1=>(∃ a,x=.ref a/\(∃ xs,SqL K H1 a xs)/\R (Hd K a) H1)\/(∃ a,x=.ref a/\(∃ xs,SqT K H1 a xs)/\R (Go K a) H1)\/∃ z,x=.str z/\R (Its z) H1):Zav K te σ H R:=h
theorem s_irev (h:ta σ H fun vs H1=>∃ a xs,vs=[.ref a]/\SqL K H1 a xs/\R (Hl K a xs.length) H1):Zao K ta σ H R:=h
theorem s_listen (h:ta σ H fun vs H1=>∃ a xs,vs=[.ref a]/\SqT K H1 a xs/\∀(S:Addr)(ys:List V)(H2:Hp),H1 S=none->Same H1 H2->ys.length=xs.length->Pairs H2 xs ys->H2 S=some (.lst ys)->Q (.ref S) H2):Zbu K ta σ H Q:=h
theorem s_yes {QB:Bool->Hp->Prop}(h:QB true H):Zar σ H QB:=h
theorem s_turn {L:Addr}{Nx:List V->St->Hp->Prop}{x:V}(h:g x σ H fun σ2 H3=>tt σ2 H3 fun b H4=>if b=true then te σ2 H4 fun y H5=>∃ ys,H5 L=some (.lst ys)/\ys.length < sizeLine/\(∃ zs,upd H5 L (.lst (ys++[y])) L=some (.lst zs)/\Nx zs σ2 (upd H5 L (.lst (ys++[y])))) else ∃ zs,H4 L=some (.lst zs)/\Nx zs σ2 H4):Zad g tt te L Nx x σ H:=h
theorem Cs {l:Addr}{xs:List V}{y:V}(e:H l=some (.lst xs))(z:xs.length < sizeLine)(h:Q .non (upd H l (.lst (xs++[y])))):Zc7 (.ref l) [y] H Q:=⟨l,xs,y,rfl,rfl,e,z,h⟩
theorem Ks {l:Addr}{xs:List V}{y:V}(e:H l=some (.lst (xs++[y])))(h:Q y (upd H l (.lst xs))):rPop (.ref l) [] H Q:=⟨l,xs++[y],y,rfl,rfl,e,by simp,by simpa using h⟩
end
section
variable {X:Cx}(K:O1)
theorem Bc (hK:X.K=K:=by rfl):OpR X (binaryOp .Add) (G4 K):=by subst hK;exact op_addA
theorem A5 (hu:X.A.units+200 < cLine)(hK:X.K=K:=by rfl):OpR X (compareOp .Eq) (Mx K):=by subst hK;exact Zcn hu
theorem Gp (hu:X.A.units+200 < cLine)(hK:X.K=K:=by rfl):OpR X (compareOp .NotEq) (N0 K):=by subst hK;exact Zsp hu
theorem Kl (hK:X.K=K:=by rfl):OpR X (compareOp .In) (Os K false):=by subst hK;exact Zr5
theorem k_ix (hK:X.K=K:=by rfl):IxR X (Ih K):=by subst hK;exact Ziz
theorem Gk (hK:X.K=K:=by rfl):SlR X (Zba K):=by subst hK;exact Znz
theorem Cp (hK:X.K=K:=by rfl):Cb X (.builtin "len") (L9 K):=by subst hK;exact Zrs
inductive TyQ (K:O1)(H:Hp):V->Value->Prop where
 | ty {x:V} {t:Value} (h:Dg K H x t):TyQ K H x t
 | tup {a:Addr} {xs:List V} (q:SqT K H a xs):TyQ K H (.ref a) (.type "tuple")
 | lst {a:Addr} {xs:List V} (q:SqL K H a xs):TyQ K H (.ref a) (.type "list")
noncomputable def K8 (K:O1)(T:String):List V->Hp->VK->Prop:=fun xs H Q=>∃ x t b,xs=[x,.ty T]/\TyQ K H x t/\Pu K t (.type T)=some b/\Q (.bl b) H
theorem Zpu {T:String}:Cb X (.builtin "isinstance") (K8 X.K T):=by
 intro pins s σ H xs us Q I r h
 obtain ⟨x,t,b,rfl,ty,e,q⟩:=h
 obtain ⟨u,v,rfl,ru,rv⟩:=r.two
 obtain rfl:v=Value.type T:=rv
 cases ty with
 | ty ty=>exact Zsk I ru ty e fun tk=>⟨.bl b,H,I.tok tk,rfl,q⟩
 | tup hq =>
  cases ru
  obtain ⟨its,_,p,_⟩:=I.tuple hq
  obtain ⟨o,h1,h2,_⟩:=p
  exact P7 PySem.W.kitx_tuple I.kIn ⟨o,h1,h2⟩ e (fun z=>nomatch z) fun tk=>⟨.bl b,H,I.tok tk,rfl,q⟩
 | lst hq =>
  cases ru
  obtain ⟨its,_,p,_⟩:=I.list hq
  obtain ⟨o,n,h1,h2,_⟩:=p
  exact P7 V9 I.kIn ⟨o,h1,h2⟩ e (fun z=>nomatch z) fun tk=>⟨.bl b,H,I.tok tk,rfl,q⟩
theorem C0 (T:String)(hK:X.K=K:=by rfl):Cb X (.builtin "isinstance") (K8 K T):=by subst hK;exact Zpu
noncomputable def rAll (K:O1):List V->Hp->VK->Prop:=fun xs H Q=>∃(p:Addr)(bs:List Bool),xs=[.ref p]/\SqL K H p (bs.map V.bl)/\Q (.bl (bs.all id)) H
theorem Zq6 (hc:X.calm=true)(hK:X.K=K:=by rfl):Cb X (.builtin "all") (rAll K):=by subst hK;exact Zkf hc
noncomputable def Zlv (K:O1):List V->Hp->VK->Prop:=fun xs H Q=>∃ p ys,xs=[.ref p]/\(SqL K H p ys\/SqT K H p ys)/\∀ l,H l=none->Q (.ref l) (upd H l (.lst ys))
theorem Jc (hK:X.K=K:=by rfl):Cb X (.type "list") (Zlv K):=by subst hK;exact Zos
noncomputable def rInt:List V->Hp->VK->Prop:=fun xs H Q=>(∃ i,xs=[.int i]/\Q (.int i) H)\/∃ k,xs=[.bl k]/\Q (.int (if k then 1 else 0)) H
theorem Zo3:Cb X (.type "int") rInt:=Zki
theorem s_intb {k:Bool}{H:Hp}{Q:VK}(h:Q (.int (if k=true then 1 else 0)) H):rInt [.bl k] H Q:=.inr ⟨k,rfl,h⟩
theorem D5 {tg l:Expr}{tl:TE}(hl:QE X l tl)(hK:X.K=K:=by rfl):QI X tg l (Zav K tl):=by subst hK;exact Zqs hl
theorem Zeb {tg a:Expr}{ta:TA}{p pos:Pos}(hg:Gl X "reversed")(hm:X.mg "reversed" = none)(ha:QA X [a] ta)(hK:X.K=K:=by rfl)(hs:starEach [a] X.env=[(false,eval a X.env)]:=by rfl):QI X tg (.Call (.Name "reversed" p) [a] [] pos) (Zao K ta):=by subst hK;exact Zpb hg hm ha hs
theorem Zo8 {e:Expr}{ta:TA}{p p2 pos pos2:Pos}(hg:Gl X "list")(hm:X.mg "list" = none)(hg2:Gl X "enumerate")(hm2:X.mg "enumerate" = none)(ha:QA X [e] ta)(hK:X.K=K:=by rfl)(hc:X.calm=true:=by rfl)
  (hs:starEach [.Call (.Name "enumerate" p2) [e] [] pos2] X.env=[(false,eval (.Call (.Name "enumerate" p2) [e] [] pos2) X.env)]:=by rfl) (hs2:starEach [e] X.env=[(false,eval e X.env)]:=by rfl) :
  QE X (.Call (.Name "list" p) [.Call (.Name "enumerate" p2) [e] [] pos2] [] pos) (Zbu K ta):=by subst hK;exact Zix hg hm hg2 hm2 ha hc hs hs2
theorem Dj {es:List Expr}{k:Nat}{pos:Pos}{t:Ds}{n:Nat}(hc:X.calm=true)(h:QGs X es t)(hK:X.K=K:=by rfl)(hn:(assignEach es X.env).length=n:=by rfl)(hst:(assignEach es X.env).findIdx? (·.1)=none:=by rfl):QG X (.Tuple es k pos) (Lg K n t):=by subst hK;exact Zqv hc h hn hst
noncomputable def Zfb (K:O1)(ta:TE):TT:=fun σ H Q=>ta σ H fun x H'=>∃ k,J3 K x H' k/\Q k H'
theorem Ob {a:Expr}{ta:TE}(ha:QE X a ta)(he:∀ whole,isTrue a X.env whole=(do let v <- whole;standAt a.pos;holding [v] (truthy v)))(hK:X.K=K:=by rfl):QT X a (Zfb K ta):=by subst hK;exact ⟨Zse ha.run he⟩
theorem Cd {o e:Expr}{es:List Expr}{to:TE}{t:TA}{name:Str}{apos cpos:Pos}{T id:String}{r:V->List V->Hp->VK->Prop}(pa:PlainAttrs T)(slot:Slot T name id)(hty:typeOf (.builtin id)=pure (.type "method_descriptor"))(hm:Ja X id r)(ho:QE X o to)(ha:QA X (e::es) t)(hK:X.K=K:=by rfl)
  (hbase:attributeBase o name X.env (eval o X.env)=eval o X.env:=by rfl) (hfew:((backTo cpos (starEach (e::es) X.env)).all (fun x=>!x.1) && (backToKw cpos (keywordEach [] X.env)).all (fun x=>x.1.isSome)
   && decide ((e::es).length+([]:List Keyword).length+(if ([]:List Keyword).isEmpty then 0 else 1) < 30))=true:=by rfl) (hline:(apos.endLine == cpos.line)=true:=by rfl) (hs:starEach (e::es) X.env=(false,eval e X.env)::starEach es X.env:=by rfl) (hplain:(backTo cpos (starEach es X.env)).any (·.1)=false:=by rfl):QE X (.Call (.Attribute o name apos) (e::es) [] cpos) (tBM K T r to t):=by subst hK;exact Zog pa slot hty hm ho ha hbase hfew hline hs hplain
theorem Lj {o:Expr}{to:TE}{name:Str}{apos cpos:Pos}{T id:String}{r:V->List V->Hp->VK->Prop}(pa:PlainAttrs T)(slot:Slot T name id)(hty:typeOf (.builtin id)=pure (.type "method_descriptor"))(hm:Ja X id r)(ho:QE X o to)(hK:X.K=K:=by rfl)(hbase:attributeBase o name X.env (eval o X.env)=eval o X.env:=by rfl)(hline:(apos.endLine == cpos.line)=true:=by rfl):QE X (.Call (.Attribute o name apos) [] [] cpos) (Mr K T r to):=by subst hK;exact Zje pa slot hty hm ho hbase hline
end
section
variable {K:O1}{σ:St}{H:Hp}{Q:VK}{QB:Bool->Hp->Prop}{ta:TE}
theorem s_truth (h:ta σ H fun x H'=>∃ k,J3 K x H' k/\QB k H'):Zfb K ta σ H QB:=h
theorem Ze1 {a:Addr}{xs:List V}{P:Bool->Prop}(q:SqL K H a xs)(h:P (!xs.isEmpty)):∃ k,J3 K (.ref a) H k/\P k:=⟨_,.inl ⟨xs,q,rfl⟩,h⟩
theorem B1 {T:String}{x:V}{t:Value}{b:Bool}(ty:Dg K H x t)(e:Pu K t (.type T)=some b)(h:Q (.bl b) H):K8 K T [x,.ty T] H Q:=⟨x,t,b,rfl,.ty ty,e,h⟩
theorem Fw {T:String}{a:Addr}{xs:List V}{b:Bool}(q:SqT K H a xs)(e:Pu K (.type "tuple") (.type T)=some b)(h:Q (.bl b) H):K8 K T [.ref a,.ty T] H Q:=⟨_,_,b,rfl,.tup q,e,h⟩
theorem Hr {T:String}{a:Addr}{xs:List V}{b:Bool}(q:SqL K H a xs)(e:Pu K (.type "list") (.type T)=some b)(h:Q (.bl b) H):K8 K T [.ref a,.ty T] H Q:=⟨_,_,b,rfl,.lst q,e,h⟩
theorem Ziw {K:O1}:Pu K (.type "int") (.type "bool")=some false:=Zn1 (l:=(fastBuiltinMro "int").get (by decide +kernel)) (by decide +kernel) (by decide) (by simp) (by decide +kernel)
theorem B0 {a:Addr}{xs:List V}{P:Prop}(q:SqL K H a xs)(h:P):Ic K "list" (.ref a) H/\P:=⟨.inl ⟨rfl,_,q⟩,h⟩
end
theorem s_nt {A B:Prop}(h:B):if (!true)=true then A else B:=by simpa using h
theorem s_nf {A B:Prop}(h:A):if (!false)=true then A else B:=by simpa using h
end L2
namespace L2
open PySem
inductive Tr where
 | mk (wd:Str) (note:Dt) (ps:List Tr)
noncomputable def Tr.wd:Tr->Str
 | .mk w _ _=>w
noncomputable def Tr.ps:Tr->List Tr
 | .mk _ _ ps=>ps
mutual
noncomputable def Tr.size:Tr->Nat
 | .mk _ _ ps=>1+Bh ps
noncomputable def Bh:List Tr->Nat
 | []=>0
 | t::r=>t.size+Bh r
end
theorem Tr.size_eq (t:Tr):t.size=1+Bh t.ps:=by
 cases t with
 | mk w n ps=>rw [Tr.size];rfl
theorem Zqw (a b:List Tr):Bh (a++b)=Bh a+Bh b:=by
 induction a with
 | nil=>simp [Bh]
 | cons t r ih=>rw [To,Bh,Bh,ih];omega
theorem Za9 {ts:List Tr}{j:Nat}{t:Tr}(h:ts[j]?=some t):t.size<=Bh ts:=by
 induction ts generalizing j with
 | nil=>simp at h
 | cons x r ih =>
  rw [Bh]
  cases j with
  | zero=>simp at h;subst h;omega
  | succ j=>have:=ih (j:=j) (by simpa using h);omega
theorem N7 (ts:List Tr):ts.length<=Bh ts:=by
 induction ts with
 | nil=>simp [Bh]
 | cons t r ih =>
  have:=t.size_eq
  rw [Bh,Ps]
  omega
noncomputable def SameT (H H':Hp):Prop:=∀ b,(∀ xs,H b=some (.tup xs)->H' b=some (.tup xs))/\∀ o u,H b=some (.frz o u)->H' b=some (.frz o u)
theorem Same.t {H H':Hp}(e:Same H H'):SameT H H':=fun b=>⟨fun xs h=>e b _ h,fun o u h=>e b _ h⟩
theorem SameT.refl (H:Hp):SameT H H:=fun _=>⟨fun _ h=>h,fun _ _ h=>h⟩
theorem SameT.trans {H H1 H2:Hp}(a:SameT H H1)(b:SameT H1 H2):SameT H H2:=fun c=>⟨fun xs h=>(b c).1 xs ((a c).1 xs h),fun o u h=>(b c).2 o u ((a c).2 o u h)⟩
theorem SameT.set {H:Hp}{S:Addr}{zs:List V}{o:HO}(h:H S=some (.lst zs)):SameT H (upd H S o):=fun b =>
 ⟨fun xs e=>by rw [Af (Df e h (by intro z;cases z))];exact e,fun o' u e=>by rw [Af (Df e h (by intro z;cases z))];exact e⟩
theorem SameT.new {H:Hp}{S:Addr}{o:HO}(h:H S=none):SameT H (upd H S o):=(Same.upd h).t
theorem SameT.tup {K:O1}{H H':Hp}{a:Addr}{xs:List V}(e:SameT H H')(h:SqT K H a xs):SqT K H' a xs:=by
 rcases h with (h | ⟨o,h⟩) | h
 ·exact .inl (.inl ((e a).1 _ h))
 ·exact .inl (.inr ⟨o,(e a).2 _ _ h⟩)
 ·exact .inr h
noncomputable def IsN (K:O1)(H:Hp)(v:V)(n:Dt):Prop:=(B3 v=true/\n=.flat v)\/∃(a:Addr)(vs:List V),v=.ref a/\SqT K H a vs/\vs.all B3=true/\n=.tup (vs.map .flat)
theorem IsN.same {K:O1}{H H':Hp}{v:V}{n:Dt}(h:IsN K H v n)(e:SameT H H'):IsN K H' v n:=by
 rcases h with h | ⟨a,vs,h1,h2,h3⟩
 ·exact .inl h
 ·exact .inr ⟨a,vs,h1,e.tup h2,h3⟩
inductive TrAt (K:O1)(H:Hp):V->Tr->Prop where
 | mk {a p:Addr} {wd:Str} {nv:V} {n:Dt} {vs:List V} {ts:List Tr} (q:SqT K H a [.str wd,nv,.ref p]) (hn:IsN K H nv n) (qp:SqT K H p vs) (l:vs.length=ts.length)
   (h:∀(j:Nat)(v:V)(t:Tr),vs[j]?=some v->ts[j]?=some t->TrAt K H v t):TrAt K H (.ref a) (.mk wd n ts)
theorem TrAt.sameT {K:O1}{H H':Hp}{v:V}{t:Tr}(h:TrAt K H v t)(e:SameT H H'):TrAt K H' v t:=by
 induction h with
 | mk q hn qp l _ ih=>exact .mk (e.tup q) (hn.same e) (e.tup qp) l ih
theorem TrAt.same {K:O1}{H H':Hp}{v:V}{t:Tr}(h:TrAt K H v t)(e:Same H H'):TrAt K H' v t:=h.sameT e.t
noncomputable def Al {α:Type}(R:V->α->Prop)(vs:List V)(xs:List α):Prop:=vs.length=xs.length/\∀(j:Nat)(v:V)(x:α),vs[j]?=some v->xs[j]?=some x->R v x
section
variable {α:Type}{R R':V->α->Prop}{vs:List V}{xs:List α}{v:V}{x:α}
theorem Al.mono (h:Al R vs xs)(f:∀ v x,R v x->R' v x):Al R' vs xs:=⟨h.1,fun j v x a b=>f v x (h.2 j v x a b)⟩
theorem Al.nil:Al R [] []:=⟨rfl,fun j v x a _=>by simp at a⟩
theorem Al.snoc (h:Al R vs xs)(a:R v x):Al R (vs++[v]) (xs++[x]):=by
 refine ⟨by simp [h.1],fun j y z e1 e2=>?_⟩
 by_cases hj:j < vs.length
 ·rw [Qd hj] at e1
  rw [Qd (by have:=h.1;omega)] at e2
  exact h.2 j y z e1 e2
 ·have hl:=(Ph.mp e1).1
  rw [O9,Pz] at hl
  have hj':j=vs.length:=by omega
  subst hj'
  rw [Qw (O4 _),Rt] at e1
  rw [h.1,Qw (O4 _),Rt] at e2
  have e1:v=y:=by simpa using e1
  have e2:x=z:=by simpa using e2
  rw [<- e1,<- e2]
  exact a
theorem Al.split (h:Al R (vs++[v]) xs):∃ ys x,xs=ys++[x]/\Al R vs ys/\R v x:=by
 have hl:xs.length=vs.length+1:=by have:=h.1;simp at this;omega
 have hne:xs≠[]:=fun z=>by rw [z] at hl;simp at hl
 refine ⟨xs.dropLast,xs.getLast hne,(Wy hne).symm,⟨by simp [hl],fun j y z e1 e2=>?_⟩,?_⟩
 ·have hj:=(Ph.mp e1).1
  refine h.2 j y z (by rw [Qd hj];exact e1) ?_
  rw [List.getElem?_dropLast] at e2
  split at e2
  ·exact e2
  ·cases e2
 ·refine h.2 vs.length v _ (by simp) ?_
  rw [List.getLast_eq_getElem,O5 (by omega)]
  congr 1
  simp [hl]
theorem Al.last (h:Al R vs xs)(hn:vs≠[]):∃ vs' v xs' x,vs=vs'++[v]/\xs=xs'++[x]/\Al R vs' xs'/\R v x:=by
 have e:=(Wy hn).symm
 rw [e] at h
 obtain ⟨ys,x,e2,a,r⟩:=h.split
 exact ⟨_,_,ys,x,e,e2,a,r⟩
theorem Al.get {j:Nat}(h:Al R vs xs)(e:vs[j]?=some v):∃ x,xs[j]?=some x/\R v x:=by
 have hj:=(Ph.mp e).1
 have hx:j < xs.length:=by have:=h.1;omega
 exact ⟨xs[j],O5 hx,h.2 j v _ e (O5 hx)⟩
theorem Al.get' {j:Nat}(h:Al R vs xs)(e:xs[j]?=some x):∃ v,vs[j]?=some v/\R v x:=by
 have hj:=(Ph.mp e).1
 have hv:j < vs.length:=by have:=h.1;omega
 exact ⟨vs[j],O5 hv,h.2 j _ x (O5 hv) e⟩
end
mutual
noncomputable def walk:List Nat->Tr->List (List Nat×Tr)
 | pl,.mk w n ps=>(pl,.mk w n ps)::A7 pl 0 ps
noncomputable def A7:List Nat->Nat->List Tr->List (List Nat×Tr)
 | _,_,[]=>[]
 | pl,i,t::r=>walk (pl++[i]) t++A7 pl (i+1) r
end
theorem Zrb (pl:List Nat)(t:Tr):walk pl t=(pl,t)::A7 pl 0 t.ps:=by
 cases t with
 | mk w n ps=>rw [walk];rfl
mutual
theorem Hz:∀(pl:List Nat)(t:Tr),(walk pl t).length=t.size
 | pl,.mk w n ps=>by rw [walk,Tr.size,Ps,Ly pl 0 ps];omega
theorem Ly:∀(pl:List Nat)(i:Nat)(ts:List Tr),(A7 pl i ts).length=Bh ts
 | _,_,[]=>by rw [A7,Bh];rfl
 | pl,i,t::r=>by rw [A7,Bh,O9,Hz,Ly]
end
mutual
theorem Kb:∀(pl:List Nat)(t:Tr)(x:List Nat×Tr),x∈walk pl t->x.1.length+1<=pl.length+t.size
 | pl,.mk w n ps,x,h=>by
  rw [walk] at h
  rw [Tr.size]
  rcases Pb.mp h with h | h
  ·subst h;show pl.length+1<=_;omega
  ·have:=Zdd pl 0 ps x h;omega
theorem Zdd:∀(pl:List Nat)(i:Nat)(ts:List Tr)(x:List Nat×Tr),x∈A7 pl i ts->x.1.length<=pl.length+Bh ts
 | _,_,[],x,h=>by rw [A7] at h;cases h
 | pl,i,t::r,x,h=>by
  rw [A7] at h
  rw [Bh]
  rcases Sa.mp h with h | h
  ·have:=Kb (pl++[i]) t x h
   rw [O9,Pz] at this
   omega
  ·have:=Zdd pl (i+1) r x h;omega
end
noncomputable def Ar (pl:List Nat):List V:=pl.map fun i=>V.int ((i:Nat):Int)
noncomputable def RowAt (K:O1)(H:Hp)(v:V)(x:List Nat×Tr):Prop:=∃(a p:Addr)(u:V),v=.ref a/\SqT K H a [.ref p,u]/\SqT K H p (Ar x.1)/\TrAt K H u x.2
theorem RowAt.same {K:O1}{H H':Hp}(e:SameT H H')(v:V)(x:List Nat×Tr)(h:RowAt K H v x):RowAt K H' v x:=by
 obtain ⟨a,p,u,r,q,qp,t⟩:=h
 exact ⟨a,p,u,r,e.tup q,e.tup qp,t.sameT e⟩
noncomputable def B5:List Nat->Nat->List Tr->List (List Nat×Tr)
 | _,_,[]=>[]
 | pl,i,t::r=>(pl++[i],t)::B5 pl (i+1) r
theorem Zcf (pl:List Nat):∀(i:Nat)(ts:List Tr),(B5 pl i ts).length=ts.length
 | _,[]=>rfl
 | i,t::r=>by rw [B5,Ps,Ps,Zcf pl (i+1) r]
theorem Zd4 (pl:List Nat):∀(i j:Nat)(ts:List Tr),(B5 pl i ts)[j]?=(ts[j]?).map fun t=>(pl++[i+j],t)
 | _,_,[]=>by simp [B5]
 | i,0,t::r=>by simp [B5]
 | i,j+1,t::r=>by
  rw [B5,Tb,Tb,Zd4 pl (i+1) j r]
  congr 1
  funext t
  rw [show i+1+j=i+(j+1) by omega]
theorem Zgb (pl:List Nat):∀(i:Nat)(ts:List Tr),(B5 pl i ts).flatMap (fun x=>walk x.1 x.2)=A7 pl i ts
 | _,[]=>by simp [B5,A7]
 | i,t::r=>by rw [B5,List.flatMap_cons,A7,Zgb pl (i+1) r]
noncomputable def F3 (st:List (List Nat×Tr)):List (List Nat×Tr):=st.reverse.flatMap fun x=>walk x.1 x.2
theorem Zoq:F3 []=[]:=rfl
theorem Ow (st:List (List Nat×Tr))(x:List Nat×Tr):F3 (st++[x])=x::F3 (st++(B5 x.1 0 x.2.ps).reverse):=by
 unfold F3
 rw [Sj,Sj,List.reverse_reverse,List.flatMap_append,List.flatMap_append,Zgb]
 rw [Uo,List.flatMap_singleton,Zrb]
 rfl
noncomputable def Ef (st:List (List Nat×Tr)):Nat:=(F3 st).length
theorem Zjv (st:List (List Nat×Tr))(x:List Nat×Tr):Ef (st++(B5 x.1 0 x.2.ps).reverse) < Ef (st++[x]):=by
 unfold Ef
 rw [Ow]
 exact U3 _
theorem Zku (st:List (List Nat×Tr)):st.length<=Ef st:=by
 unfold Ef F3
 have:∀ l:List (List Nat×Tr),l.length<=(l.flatMap fun x=>walk x.1 x.2).length:=fun l=>by
  induction l with
  | nil=>simp
  | cons x r ih =>
   rw [List.flatMap_cons,O9,Hz,Ps]
   have:=x.2.size_eq
   omega
 have:=this st.reverse
 rw [Uw] at this
 exact this
theorem Zph {α:Type}{l:List α}{n i:Nat}{x:α}(hl:l.length=n)(hi:i < n)(hx:l[n - 1 - i]?=some x):(l.drop (n - (i+1))).reverse=(l.drop (n - i)).reverse++[x]:=by
 have hk:n - 1 - i < l.length:=by omega
 have e:l.drop (n - (i+1))=x::l.drop (n - i):=by
  have h1:n - (i+1)=n - 1 - i:=by omega
  rw [h1,R0 hk,show n - 1 - i+1=n - i by omega]
  rw [O5 hk] at hx
  rw [P6 hx]
 rw [e,Tj]
mutual
theorem Zbf:∀(pl:List Nat)(t:Tr),walk pl t=(walk [] t).map fun x=>(pl++x.1,x.2)
 | pl,.mk w n ps=>by
  have e:=Zft pl [] 0 ps
  rw [Qs] at e
  rw [walk,walk,Qa,e]
  simp
theorem Zft:∀(pl q:List Nat)(i:Nat)(ts:List Tr),A7 (pl++q) i ts=(A7 q i ts).map fun x=>(pl++x.1,x.2)
 | _,_,_,[]=>by rw [A7,A7];rfl
 | pl,q,i,t::r=>by
  rw [A7,A7,P4,<- Zft pl q (i+1) r,Zbf (pl++q++[i]) t,Zbf (q++[i]) t]
  simp
end
theorem Al.append {α:Type}{R:V->α->Prop}{vs ws:List V}{xs ys:List α}(h:Al R vs xs)(h':Al R ws ys):Al R (vs++ws) (xs++ys):=by
 refine ⟨by simp [h.1,h'.1],fun j v x e1 e2=>?_⟩
 by_cases hj:j < vs.length
 ·rw [Qd hj] at e1
  rw [Qd (by have:=h.1;omega)] at e2
  exact h.2 j v x e1 e2
 ·rw [Qw (by omega)] at e1
  rw [Qw (by have:=h.1;omega),<- h.1] at e2
  exact h'.2 _ v x e1 e2
end L2
namespace L2
open PySem PySem.Spec PyProof.Rows
section
open PySem.AutoSeq1
end
section
variable {X:Cx}
noncomputable def Cv (kvs:List (Str×V))(k:Str):Option V:=(kvs.find? fun kv=>kv.1=k).map (·.2)
inductive VPs:List (Str×V)->List (Str×Value)->Prop
 | nil:VPs [] []
 | cons {k:Str} {x:V} {v:Value} {r:List (Str×V)} {q:List (Str×Value)}:RelV x v->VPs r q->VPs ((k,x)::r) ((k,v)::q)
theorem VPs.look {kvs:List (Str×V)}{vs:List (Str×Value)}(h:VPs kvs vs)(k:Str):(valueAt vs k).isSome=(Cv kvs k).isSome/\∀ x,Cv kvs k=some x->∃ v,valueAt vs k=some v/\RelV x v:=by
 induction h with
 | nil=>exact ⟨rfl,fun x e=>nomatch e⟩
 | @cons k' x v r q rx _ ih =>
  unfold valueAt Cv at ih ⊢
  by_cases z:k'=k
  ·simp only [Qt,z,decide_true,Tv,Option.isSome_some]
   exact ⟨trivial,fun y e=>⟨v,rfl,by cases e;exact rx⟩⟩
  ·simp only [Qt,z,decide_false]
   exact ih
noncomputable def Fx (P:Program)(w:World)(K:O1)(a:Addr)(kvs:List (Str×V)):Prop :=
 ∃(o:Obj)(vs:List (Str×Value)),K.lookup a=some o/\o.IsDictOf (strKind P w) vs/\(a == sysModules)=false/\VPs kvs vs
noncomputable def rInD (P:Program)(w:World)(K:O1):R2:=fun x y H Q=>∃ s a kvs,x=.str s/\y=.ref a/\Fx P w K a kvs/\Q (.bl (Cv kvs s).isSome) H
theorem Zij:OpR X (compareOp .In) (rInD X.prog X.w X.K):=by
 intro pins s σ H x y v u Q I rx ry h
 obtain ⟨z,a,kvs,rfl,rfl,⟨o,vs,hk,hd,lo,vp⟩,q⟩:=h
 obtain ⟨t,rfl⟩:=rx
 cases ry
 have D:s.heap.DictOf (strKind X.prog X.w) a vs:=Wp.mpr ⟨o,I.kIn a o hk,hd⟩
 exact wpAny_in_of (knd:=strKind X.prog X.w) (k:=z) (strKind_is _ _ _ _) lo D.mapOf (Bl (I.tok _) q (vp.look z).1.symm)
noncomputable def rIxD (P:Program)(w:World)(K:O1):R2:=fun x y H Q=>∃ a kvs s v,x=.ref a/\y=.str s/\Fx P w K a kvs/\Cv kvs s=some v/\Q v H
theorem ix_D:IxR X (rIxD X.prog X.w X.K):=by
 intro value slice pins s σ H x y v u Q I rx ry h hs
 obtain ⟨a,kvs,z,v',rfl,rfl,⟨o,vs,hk,hd,lo,vp⟩,hv,q⟩:=h
 cases rx
 obtain ⟨t,rfl⟩:=ry
 have D:s.heap.DictOf (strKind X.prog X.w) a vs:=Wp.mpr ⟨o,I.kIn a o hk,hd⟩
 obtain ⟨u',e,r⟩:=(vp.look z).2 _ hv
 exact tail_any D.typeIs slot_dict_getitem.lookup (wpAny_getItem_of (knd:=strKind X.prog X.w) (k:=z) (strKind_is _ _ _ _) D.mapOf e ⟨v',H,I.tok _,r,q⟩) hs
end
section
variable {X:Cx}(P:Program)(w:World)(K:O1)
theorem Za1 (hP:X.prog=P:=by rfl)(hw:X.w=w:=by rfl)(hK:X.K=K:=by rfl):OpR X (compareOp .In) (rInD P w K):=by subst hP hw hK;exact Zij
theorem Nz (hP:X.prog=P:=by rfl)(hw:X.w=w:=by rfl)(hK:X.K=K:=by rfl):IxR X (rIxD P w K):=by subst hP hw hK;exact ix_D
end
theorem s_chain {r r':R2}{ta tb tc:TE}{σ:St}{H:Hp}{Q:VK}(h:ta σ H fun x H1=>tb σ H1 fun y H2=>r x y H2 fun z H3=>∃ k,z=.bl k/\(if k=true then tc σ H3 fun w' H4=>r' y w' H4 Q else Q (.bl false) H3)):Ot r r' ta tb tc σ H Q:=h
inductive Ents (p:Params):List DictEntry->List (Str×V)->Prop
 | nil:Ents p [] []
 | cons {k:Str} {t:Tok} {x:V} {v:Value} {r:List DictEntry} {q:List (Str×V)}:RelV x v->Ents p r q->Ents p (⟨PyData.keyHash p k,.str k t,v⟩::r) ((k,x)::q)
theorem Ents.pairs {P:Program}{w:World}{es:List DictEntry}{kvs:List (Str×V)}(h:Ents w.params es kvs):∃ vs,VPs kvs vs/\PySem.Pairs (PySem.strKind P w) es vs/\vs.map (·.1)=kvs.map (·.1)/\∀ e∈es,∃ k,(PySem.strKind P w).is k e.key=true/\e.hash=(PySem.strKind P w).hash k:=by
 induction h with
 | nil=>exact ⟨[],.nil,.nil,rfl,fun e he=>nomatch he⟩
 | @cons k t x v r q rx _ ih =>
  obtain ⟨vs,a,b,c,d⟩:=ih
  refine ⟨(k,v)::vs,.cons rx a,.cons (strKind_is _ _ _ _) rfl b,by simp [c],fun e he=>?_⟩
  rcases Pb.mp he with rfl | he
  ·exact ⟨k,strKind_is _ _ _ _,rfl⟩
  ·exact d e he
theorem Zn9 {P:Program}{w:World}{K:O1}{a:Addr}{es:Array DictEntry}{n:Nat}{kvs:List (Str×V)}(l:K.lookup a=some ⟨.type "dict",none,.dict es n,#[]⟩)(hs:(a == sysModules)=false)
  (e:Ents w.params es.toList kvs) (nd:(kvs.map (·.1)).Nodup):Fx P w K a kvs:=by
 obtain ⟨vs,a1,a2,a3,a4⟩:=e.pairs (P:=P)
 exact ⟨_,vs,l,⟨es,n,⟨rfl,rfl,rfl⟩,rfl,fun e he=>a4 e (by simpa using he),a2,by rw [a3];exact nd⟩,hs,a1⟩
section
variable {X:Cx}{pins:List (Addr×Obj)}{σ:St}{it:Addr}{n:Nat}{H0:Hp}{J:Nat->List V->Hp->Heap->Prop}
end
section
variable {X:Cx}
theorem Za4:∀{ns:List Int}{us:List Value},Vals (ns.map V.int) us->∃ xs:List (Int×Tok),us=xs.map (fun p=>Value.int p.1 p.2)/\xs.map (·.1)=ns
 | [],_,.nil=>⟨[],rfl,rfl⟩
 | n::ns,_,.cons r t=>by
  obtain ⟨u,rfl⟩:=r
  obtain ⟨xs,e1,e2⟩:=Za4 t
  exact ⟨(n,u)::xs,by rw [e1];rfl,by simp [e2]⟩
noncomputable def Zfn:List V->Hp->VK->Prop:=fun xs H Q=>∃ i,xs=[.int i]/\i.natAbs.log2 < 1920/\Q (.str (toString i)) H
theorem Zn6:Cb X (.type "str") Zfn:=Zmc
theorem Zji {i:Int}{H:Hp}{Q:VK}(hi:i.natAbs.log2 < 1920)(h:Q (.str (toString i)) H):Zfn [.int i] H Q:=⟨i,rfl,hi,h⟩
end
structure ZA (z TI TO i1 i2:Addr)(fp1 fp2:List Addr):Prop where
 TIz:TI≠z
 TOz:TO≠z
 TITO:TI≠TO
 z1:z ∉ fp1
 z2:z ∉ fp2
 TI1:TI≠i1
 TI2:TI≠i2
 TO1:TO ∉ fp1
 TO2:TO ∉ fp2
 m1:i1∈fp1
 m2:i2∈fp2
 n1:i1 ∉ fp2
 n2:i2 ∉ fp1
theorem ZA.i1z {z TI TO i1 i2:Addr}{fp1 fp2:List Addr}(D:ZA z TI TO i1 i2 fp1 fp2):i1≠z:=fun e=>D.z1 (e ▸ D.m1)
theorem ZA.i2z {z TI TO i1 i2:Addr}{fp1 fp2:List Addr}(D:ZA z TI TO i1 i2 fp1 fp2):i2≠z:=fun e=>D.z2 (e ▸ D.m2)
theorem ZA.TOi1 {z TI TO i1 i2:Addr}{fp1 fp2:List Addr}(D:ZA z TI TO i1 i2 fp1 fp2):TO≠i1:=fun e=>D.TO1 (e ▸ D.m1)
theorem ZA.TOi2 {z TI TO i1 i2:Addr}{fp1 fp2:List Addr}(D:ZA z TI TO i1 i2 fp1 fp2):TO≠i2:=fun e=>D.TO2 (e ▸ D.m2)
theorem Ca {prog:Program}{w:World}{A:Around}{it c:Addr}{fp:List Addr}{n i:Nat}{P:Nat->Value->Prop}{St:Nat->Heap->Prop}(D:Draws prog w A it fp n P St){h h':Heap}(st:St i h)(e:Pl c h h')(hc:c ∉ fp):St i h' :=
 D.frame i h h' st fun b hb o eo=>e.extBut b o (fun z=>hc (z ▸ hb)) eo
section
variable {prog:Program}{w:World}{A:Around}{E:Value->Shared->Prop}{s:Shared}{z TI TO i1 i2:Addr}{fp1 fp2:List Addr}{n1 n2 i:Nat}{P1 P2:Nat->Value->Prop}{St1 St2:Nat->Heap->Prop}{a b:Value}
theorem Zhr {Q:Value->Shared->Prop}(D1:Draws prog w A i1 fp1 n1 P1 St1)(D2:Draws prog w A i2 fp2 n2 P2 St2)(D:ZA z TI TO i1 i2 fp1 fp2)(hz:IsZip s.heap z TI TO .none)(hTI:IsPair s.heap TI (.ref i1) (.ref i2))(hTO:IsPair s.heap TO a b)
  (st1:St1 i s.heap) (st2:St2 i s.heap) (l1:i < n1) (l2:i < n2)
  (hQ:∀ x y h' tk,P1 i x->P2 i y->IsZip h' z TI TO (rawInt s.heap.objs.size)->IsPair h' TO x y->St1 (i+1) h'->St2 (i+1) h'->IsPair h' s.heap.objs.size x y->h'.objs.size=s.heap.objs.size+1 ->
   (∀ c o,c≠z->c≠TO->c≠i1->c≠i2->s.heap.get? c=some o->h'.get? c=some o)->Q (.ref s.heap.objs.size) { s with heap:=h',toks:=tk }) :
  wpAny (model prog w) A (Builtin.«zip.__next__» ⟨[.ref z],[]⟩) (fun fin s'=>∃ v,fin=.done (.ret v)/\Q v s') E s:=by
 show wpAny _ _ (field (.ref z) 2 >>= _) _ _ s
 refine O2 (Pj hz rfl (x:=Value.bool false) rfl ?_)
 show wpAny _ _ (field (.ref z) 3 >>= _) _ _ s
 refine O2 (Pj hz rfl (x:=Value.ref TI) rfl (O2 (Qu hTI rfl ?_)))
 show wpAny _ _ (Qv (.ref z) >>= _) _ _ s
 refine O2 ?_
 unfold Qv
 refine O2 (Pj hz rfl (x:=Value.none) rfl (O3 ?_))
 simp only [if_true]
 refine O2 (Sy (O2 (Pj hz rfl (x:=Value.ref TO) rfl ?_)))
 refine O2 (Qz hz (by simp) fun h₁ hz₁ e1=>?_)
 replace hz₁:IsZip h₁ z TI TO Value.ellipsis:=hz₁
 refine O2 ?_
 simp only [List.zipIdx_cons,List.zipIdx_nil,Tt,Ve]
 refine O2 (O2 (Vi ?_))
 show wpAny _ _ (Qg (.ref i1) >>= _) _ _ _
 refine O2 (D1.item i _ _ _ l1 (Ca D1 st1 e1 D.z1) fun x h₂ tk₂ px s12 e2=>O3 ?_)
 replace e2:Pl i1 h₁ h₂:=e2
 have p2:IsPair h₂ TO a b:=e2.extBut _ _ D.TOi1 (e1.extBut _ _ D.TOz hTO)
 refine O2 (Qu p2 rfl (O2 (V0 p2 fun h₃ p3 e3=>?_)))
 replace p3:IsPair h₃ TO x b:=p3
 replace e3:Pl TO h₂ h₃:=e3
 refine O2 (Vq (O3 (O2 (O2 (Vi ?_)))))
 show wpAny _ _ (Qg (.ref i2) >>= _) _ _ _
 have s22:St2 i h₃:=Ca D2 (Ca D2 (Ca D2 st2 e1 D.z2) e2 D.n1) e3 D.TO2
 refine O2 (D2.item i _ _ _ l2 s22 fun y h₄ tk₄ py s24 e4=>O3 ?_)
 replace e4:Pl i2 h₃ h₄:=e4
 have p4:IsPair h₄ TO x b:=e4.extBut _ _ D.TOi2 p3
 refine O2 (Qu p4 rfl (O2 (V0 p4 fun h₅ p5 e5=>?_)))
 replace p5:IsPair h₅ TO x y:=p5
 replace e5:Pl TO h₄ h₅:=e5
 refine O2 (Vq (O3 (O3 (O2 (Qu p5 rfl (O2 (wpAny_newTuple ?_)))))))
 have sz:h₅.objs.size=s.heap.objs.size:=by rw [e5.1,e4.1,e3.1,e2.1,e1.1]
 have z5:IsZip h₅ z TI TO Value.ellipsis:=e5.extBut _ _ D.TOz.symm (e4.extBut _ _ D.i2z.symm (e3.extBut _ _ D.TOz.symm (e2.extBut _ _ D.i1z.symm hz₁)))
 have k5:∀ c o,c≠z->c≠TO->c≠i1->c≠i2->s.heap.get? c=some o->h₅.get? c=some o:=fun c o c1 c2 c3 c4 e=>e5.extBut _ _ c2 (e4.extBut _ _ c4 (e3.extBut _ _ c2 (e2.extBut _ _ c3 (e1.extBut _ _ c1 e))))
 have t1:St1 (i+1) h₅:=Ca D1 (Ca D1 (Ca D1 s12 e3 D.TO1) e4 D.n2) e5 D.TO1
 have t2:St2 (i+1) h₅:=Ca D2 s24 e5 D.TO2
 have zlt:z < h₅.objs.size:=O8 z5
 show wpAny _ _ (Wr (.ref z) (.ref h₅.objs.size) >>= _) _ _ _
 refine O2 ?_
 unfold Wr
 have z6:IsZip (h₅.push { cls:=.type "tuple",data:=.seq #[x,y] }) z TI TO Value.ellipsis:=O6 _ z5
 refine O2 (Qz z6 (by simp) fun h₇ z7 e7=>?_)
 replace z7:IsZip h₇ z TI TO (rawInt h₅.objs.size):=z7
 refine Qz z7 (by simp) fun h₈ z8 e8=>?_
 replace z8:IsZip h₈ z TI TO (rawInt h₅.objs.size):=z8
 have up:∀ c o,c≠z->h₅.get? c=some o->h₈.get? c=some o:=fun c o c1 e=>e8.extBut _ _ c1 (e7.extBut _ _ c1 (O6 _ e))
 have t8:IsPair h₈ h₅.objs.size x y:=e8.extBut _ _ (Qb zlt) (e7.extBut _ _ (Qb zlt) (Pe _ rfl))
 have sz8:h₈.objs.size=h₅.objs.size+1:=by rw [e8.1,e7.1,P8]
 rw [sz] at z8 t8 sz8
 refine O3 ⟨_,rfl,?_⟩
 show Q (.ref h₅.objs.size) _
 rw [sz]
 exact hQ x y h₈ tk₄ px py z8 (up _ _ D.TOz p5) (D1.frame _ _ _ t1 fun c hc o e=>up c o (fun q=>D.z1 (q ▸ hc)) e) (D2.frame _ _ _ t2 fun c hc o e=>up c o (fun q=>D.z2 (q ▸ hc)) e) t8 sz8 fun c o c1 c2 c3 c4 e=>up c o c1 (k5 c o c1 c2 c3 c4 e)
theorem Zhn {Q:Fin->Shared->Prop}(D1:Draws prog w A i1 fp1 n1 P1 St1)(D2:Draws prog w A i2 fp2 n2 P2 St2)(D:ZA z TI TO i1 i2 fp1 fp2)(hz:IsZip s.heap z TI TO .none)(hTI:IsPair s.heap TI (.ref i1) (.ref i2))(hTO:IsPair s.heap TO a b)
  (st1:St1 i s.heap) (st2:St2 i s.heap) (hend:i=n1\/(i < n1/\i=n2))
  (hE:∀ h' e tk,(∀ c o,c≠z->c≠TO->c≠i1->c≠i2->s.heap.get? c=some o->h'.get? c=some o)->(∃ o,h'.get? e=some o/\o.cls=.type "StopIteration")->E (.ref e) { s with heap:=h',toks:=tk }) :
  wpAny (model prog w) A (Builtin.«zip.__next__» ⟨[.ref z],[]⟩) Q E s:=by
 show wpAny _ _ (field (.ref z) 2 >>= _) _ _ s
 refine O2 (Pj hz rfl (x:=Value.bool false) rfl ?_)
 show wpAny _ _ (field (.ref z) 3 >>= _) _ _ s
 refine O2 (Pj hz rfl (x:=Value.ref TI) rfl (O2 (Qu hTI rfl ?_)))
 show wpAny _ _ (Qv (.ref z) >>= _) _ _ s
 refine O2 ?_
 unfold Qv
 refine O2 (Pj hz rfl (x:=Value.none) rfl (O3 ?_))
 simp only [if_true]
 refine O2 (Sy (O2 (Pj hz rfl (x:=Value.ref TO) rfl ?_)))
 refine O2 (Qz hz (by simp) fun h₁ hz₁ e1=>?_)
 replace hz₁:IsZip h₁ z TI TO Value.ellipsis:=hz₁
 refine O2 ?_
 simp only [List.zipIdx_cons,List.zipIdx_nil,Tt,Ve]
 refine O2 (O2 (Vi ?_))
 show wpAny _ _ (Qg (.ref i1) >>= _) _ _ _
 rcases hend with rfl | ⟨l1,rfl⟩
 ·refine O2 (D1.done _ _ _ (Ca D1 st1 e1 D.z1) fun h₂ e e2 he=>?_)
  obtain ⟨oe,hoe,hce⟩:=he
  replace e2:Sx i1 h₁ h₂:=e2
  have z2:IsZip h₂ z TI TO Value.ellipsis:=e2 _ _ D.i1z.symm hz₁
  have hez:e≠z:=fun x=>by subst x;rw [z2] at hoe;cases hoe;simp at hce
  refine Qz z2 (by simp) fun h₃ _ e3=>hE h₃ e s.toks (fun c o c1 _ c3 _ x=>e3.extBut _ _ c1 (e2 _ _ c3 (e1.extBut _ _ c1 x))) ⟨oe,e3.extBut _ _ hez hoe,hce⟩
 ·refine O2 (D1.item i _ _ _ l1 (Ca D1 st1 e1 D.z1) fun x h₂ tk₂ px s12 e2=>O3 ?_)
  replace e2:Pl i1 h₁ h₂:=e2
  have p2:IsPair h₂ TO a b:=e2.extBut _ _ D.TOi1 (e1.extBut _ _ D.TOz hTO)
  refine O2 (Qu p2 rfl (O2 (V0 p2 fun h₃ p3 e3=>?_)))
  replace e3:Pl TO h₂ h₃:=e3
  refine O2 (Vq (O3 (O2 (O2 (Vi ?_)))))
  show wpAny _ _ (Qg (.ref i2) >>= _) _ _ _
  have s22:St2 i h₃:=Ca D2 (Ca D2 (Ca D2 st2 e1 D.z2) e2 D.n1) e3 D.TO2
  refine O2 (D2.done _ _ _ s22 fun h₄ e e4 he=>?_)
  obtain ⟨oe,hoe,hce⟩:=he
  replace e4:Sx i2 h₃ h₄:=e4
  have z4:IsZip h₄ z TI TO Value.ellipsis:=e4 _ _ D.i2z.symm (e3.extBut _ _ D.TOz.symm (e2.extBut _ _ D.i1z.symm hz₁))
  have hez:e≠z:=fun x=>by subst x;rw [z4] at hoe;cases hoe;simp at hce
  refine Qz z4 (by simp) fun h₅ _ e5=>hE h₅ e tk₂ (fun c o c1 c2 c3 c4 x=>e5.extBut _ _ c1 (e4 _ _ c4 (e3.extBut _ _ c2 (e2.extBut _ _ c3 (e1.extBut _ _ c1 x))))) ⟨oe,e5.extBut _ _ hez hoe,hce⟩
theorem Zlf {Q:Option Value->Shared->Prop}(D1:Draws prog w A.in1 i1 fp1 n1 P1 St1)(D2:Draws prog w A.in1 i2 fp2 n2 P2 St2)(D:ZA z TI TO i1 i2 fp1 fp2)(hz:IsZip s.heap z TI TO .none)(hTI:IsPair s.heap TI (.ref i1) (.ref i2))(hTO:IsPair s.heap TO a b)
  (st1:St1 i s.heap) (st2:St2 i s.heap) (l1:i < n1) (l2:i < n2)
  (hQ:∀ x y h' tk,P1 i x->P2 i y->IsZip h' z TI TO (rawInt s.heap.objs.size)->IsPair h' TO x y->St1 (i+1) h'->St2 (i+1) h'->IsPair h' s.heap.objs.size x y->h'.objs.size=s.heap.objs.size+1 ->
   (∀ c o,c≠z->c≠TO->c≠i1->c≠i2->s.heap.get? c=some o->h'.get? c=some o)->Q (some (.ref s.heap.objs.size)) { s with heap:=h',toks:=tk }) :
  wpAny (model prog w) A (pyNext (.ref z)) Q E s:=by
 have hT:s.TypeIs (.ref z) "zip" := ⟨_,hz,rfl⟩
 unfold pyNext
 exact O2 (Rg (Qx (name:=Qc "__next__") hT Rl
  (Q1 Rl hT Up (Zhr D1 D2 D hz hTI hTO st1 st2 l1 l2 fun x y h' tk a1 a2 a3 a4 a5 a6 a7 a8 a9=>O3 (hQ x y h' tk a1 a2 a3 a4 a5 a6 a7 a8 a9)) (Uk _))))
theorem Zhp {Q:Option Value->Shared->Prop}(D1:Draws prog w A.in1 i1 fp1 n1 P1 St1)(D2:Draws prog w A.in1 i2 fp2 n2 P2 St2)(D:ZA z TI TO i1 i2 fp1 fp2)(hz:IsZip s.heap z TI TO .none)(hTI:IsPair s.heap TI (.ref i1) (.ref i2))(hTO:IsPair s.heap TO a b)
  (st1:St1 i s.heap) (st2:St2 i s.heap) (hend:i=n1\/(i < n1/\i=n2))
  (hQ:∀ h' tk,(∀ c o,c≠z->c≠TO->c≠i1->c≠i2->s.heap.get? c=some o->h'.get? c=some o)->Q none { s with heap:=h',toks:=tk }):wpAny (model prog w) A (pyNext (.ref z)) Q E s:=by
 have hT:s.TypeIs (.ref z) "zip" := ⟨_,hz,rfl⟩
 unfold pyNext
 refine O2 (Rg (Qx (name:=Qc "__next__") hT Rl
  (Q1 Rl hT Up (Zhn D1 D2 D hz hTI hTO st1 st2 hend fun h' e tk hk he=>?_) (Uk _))))
 obtain ⟨o,ho,hc⟩:=he
 exact O2 (Wf (T := "StopIteration") (b:=true) ⟨o,ho,hc⟩ isSubtype_stop (O3 (hQ _ _ hk)))
end
section
variable {prog:Program}{w:World}{A:Around}{E:Value->Shared->Prop}{s:Shared}
end
section
variable {X:Cx}{pins:List (Addr×Obj)}{σ:St}{H:Hp}{s:Shared}{h':Heap}
theorem Inv.turnedL {t':Nat}{fp:List Addr}(I:Inv X pins σ H s)(k:∀ b o,b ∉ fp->s.heap.get? b=some o->h'.get? b=some o)(f:∀ b∈fp,FpOk X pins H b):Inv X pins σ H { s with heap:=h',toks:=t' }:=by
 have nit:∀ b u,H b=some u->b ∉ fp:=fun b u e hb=>by rw [(f b hb).1] at e;exact nomatch e
 refine I.step (g':=s.gens) (d':=s.drawn) (ch:=fp) (fun b hb=>?_) (fun b o _ _ hc e _=>k b o hc e) (fun b o _ _ hc e _=>⟨o.slots,k b o hc e⟩) (fun _ _ _ _ n=>n)
  (fun b o hc e=>⟨o,k b o hc e⟩) (fun _ _ e=>e) (fun _ _ _ e=>e) (fun b ps e=>⟨#[],by rw [e];simp⟩) (fun m hm=>?_) (fun b u e=>?_) I.bare
 ·obtain ⟨n1,l1,_,e1,c1,p1⟩:=f b hb
  exact ⟨e1,l1,c1,p1⟩
 ·obtain ⟨o,es,ep,ho,r⟩:=hm
  exact ⟨o,es,ep,k _ o (fun hb=>(f _ hb).2.1 rfl) ho,r⟩
 ·refine (I.hok b u e).stay (fun c v hc q=>k c v ?_ q) (fun _ q=>q) fun _ _ q=>q
  rcases hc with z | z
  ·rw [z];exact nit b u e
  ·exact nit c _ z
theorem Inv.pairL {tk:Nat}{fp:List Addr}{T:Addr}{xs:List V}{its:List Value}(I:Inv X pins σ H s)(f:∀ b∈fp,FpOk X pins H b)
  (kk:∀ b o,b ∉ fp->s.heap.get? b=some o->h'.get? b=some o) (hT:s.heap.objs.size<=T) (rv:Vals xs its) (hz:xs.length<=sizeLine) (ht:h'.IsTuple T its.toArray):Inv X pins σ (upd H T (.tup xs)) { s with heap:=h',toks:=tk }:=by
 have hf:H T=none:=I.hok.fresh hT
 have I1:Inv X pins σ H { s with heap:=h',toks:=tk }:=I.turnedL kk f
 have hokN:HOk X.prog X.w (upd H T (.tup xs)) h':=fun b o e=>by
  by_cases hb:b=T
  ·subst hb
   rw [Ad] at e
   cases e
   exact ⟨hz,its,rv,ht⟩
  ·rw [Af hb] at e
   refine (I1.hok b o e).stay (fun c v _ q=>q) (fun c q=>?_) fun c zs q=>?_
   ·rw [Af (B8 q hf)];exact q
   ·rw [Af (B8 q hf)];exact q
 have u:Un (A6 X.stack) fp H (upd H T (.tup xs)) s.heap h':={
  keep:=fun b o e n _ hx=>kk b o hx e
  slot:=fun b o e n _ hx=>⟨o.slots,kk b o hx e⟩
  free:=fun b o e n _=>by rw [Af (Pg (Pk (O8 e) hT))];exact n
  there:=fun b o e hx=>⟨o,kk b o hx e⟩
  tups:=fun b zs e=>by rw [Af (B8 e hf)];exact e
  frzs:=fun b o u e=>by rw [Af (B8 e hf)];exact e
  tbls:=fun b ps e=>⟨#[],by rw [Af (B8 e hf),e];simp⟩ }
 refine I.call (g':=s.gens) (d':=s.drawn) (t':=tk) u hokN I.bare fun b hb=>?_
 obtain ⟨n1,l1,_,e1,c1,p1⟩:=f b hb
 exact ⟨e1,l1,c1,p1⟩
end
structure ZB (z TI TO i1 i2 a b:Addr):Prop where
 TIz:TI≠z
 TOz:TO≠z
 TITO:TI≠TO
 i1z:i1≠z
 i2z:i2≠z
 TI1:TI≠i1
 TI2:TI≠i2
 TO1:TO≠i1
 TO2:TO≠i2
 i12:i1≠i2
 az:a≠z
 aTO:a≠TO
 a1:a≠i1
 a2:a≠i2
 bz:b≠z
 bTO:b≠TO
 b1:b≠i1
 b2:b≠i2
theorem ZB.za {z TI TO i1 i2 a b:Addr}(D:ZB z TI TO i1 i2 a b):ZA z TI TO i1 i2 [i1,a] [i2,b] where
 TIz:=D.TIz
 TOz:=D.TOz
 TITO:=D.TITO
 z1:=by simp [D.i1z.symm,D.az.symm]
 z2:=by simp [D.i2z.symm,D.bz.symm]
 TI1:=D.TI1
 TI2:=D.TI2
 TO1:=by simp [D.TO1,D.aTO.symm]
 TO2:=by simp [D.TO2,D.bTO.symm]
 m1:=by simp
 m2:=by simp
 n1:=by simp [D.i12,D.b1.symm]
 n2:=by simp [D.i12.symm,D.a2.symm]
theorem Zql {n a b:Nat}(h1:a < n)(h2:b < n):ZB (n+4) (n+2) (n+3) n (n+1) a b:=by
 have f:∀ i j:Nat,i≠j->n+i≠n+j:=fun i j h e=>h (Nat.add_left_cancel e)
 have g:∀ i:Nat,a≠n+i:=fun i e=>absurd h1 (by rw [e];exact T6.mpr (U5 _ _))
 have g':∀ i:Nat,b≠n+i:=fun i e=>absurd h2 (by rw [e];exact T6.mpr (U5 _ _))
 exact ⟨f 2 4 (by decide),f 3 4 (by decide),f 2 3 (by decide),f 0 4 (by decide),f 1 4 (by decide),f 2 0 (by decide),f 2 1 (by decide),f 3 0 (by decide),f 3 1 (by decide),f 0 1 (by decide),g 4,g 3,g 0,g 1,g' 4,g' 3,g' 0,g' 1⟩
section
variable {X:Cx}
end
theorem Zod {prog:Program}{w:World}{A:Around}{E:Value->Shared->Prop}{s:Shared}{t sl:Addr}{items:Array Value}{vl vu:Value}{lo hi:Option Int}{Q:Value->Shared->Prop}(ht:IsTup s.heap t items)(hs:s.heap.IsSliceOf sl vl vu .none)(pl:IsPart vl lo)(pu:IsPart vu hi)
  (hw:HT.sIx items.size 0 lo=0/\HT.sIx items.size items.size hi=items.size) (h:Q (.ref t) s):wpAny (model prog w) A (getItem (.ref t) (.ref sl)) Q E s:=by
 obtain ⟨os,hos,hcs,hds⟩:=id hs
 have hTs:s.TypeIs (.ref sl) "slice" := ⟨os,hos,hcs⟩
 unfold getItem
 try with_reducible refine P9 ?_
 first | refine O2 (O3 ?_) | skip
 refine O2 (wpAny_sequenceKey ht.typeIs (by decide) ?_)
 refine O2 (Qx (name:=Qc "__getitem__") ht.typeIs Sg
  (Q1 Sg ht.typeIs PyProof.Rows.entry_tuple_getitem ?_ (PyProof.Rows.args_tuple_getitem _ _)))
 show wpAny _ _ (Builtin.Tuple.tupleItemsOf (.ref t) >>= _) _ _ s
 refine O2 (PyProof.Rows.tupleItemsOf_ ht ?_)
 refine O2 (Sv hTs ?_)
 rw [if_pos (by decide)]
 refine O2 (HT.sliceApplied_gen hs pl pu ?_)
 have hyes:(((HT.sIx items.size 0 lo:Nat):Int) == 0 && (1:Int) == 1 && (HT.sIx items.size items.size hi - HT.sIx items.size 0 lo) == items.size)=true:=by
  rw [hw.1,hw.2]
  simp
 show wpAny _ _ (if (((HT.sIx items.size 0 lo:Nat):Int) == 0 && (1:Int) == 1 && (HT.sIx items.size items.size hi - HT.sIx items.size 0 lo) == items.size)=true then _ else _) _ _ s
 rw [if_pos hyes]
 refine O2 (m:=Builtin.Tuple.tupleIsExact (.ref t)) ?_
 unfold Builtin.Tuple.tupleIsExact
 refine O2 (Sv ht.typeIs (O3 ?_))
 rw [if_pos (by decide)]
 refine O2 (Sy ?_)
 exact O3 ⟨_,rfl,O3 h⟩
noncomputable def rSlU (K:O1):V->Option Int->Option Int->Hp->VK->Prop:=fun x lo hi H Q=>∃ a xs,x=.ref a/\SqT K H a xs/\∀ r H',Same H H'->SqT K H' r (Bz xs lo hi)->Q (.ref r) H'
theorem Zlp {X:Cx}:SlR X (rSlU X.K):=by
 intro pins s σ H x v vl vu lo hi sl Q I rx hs pl pu h
 obtain ⟨a,xs,rfl,hx,q⟩:=h
 by_cases hw:HT.sIx xs.length 0 lo=0/\HT.sIx xs.length xs.length hi=xs.length
 ·cases rx
  obtain ⟨its,r,ht,hz⟩:=I.tuple hx
  have hlen:its.toArray.size=xs.length:=by rw [O7];exact r.length.symm
  refine ⟨"tuple",_,Sg.lookup,ht.typeIs,?_⟩
  refine Zod ht hs pl pu (by rw [hlen];exact hw) ⟨.ref a,H,I,rfl,q a H (Same.refl H) ?_⟩
  have e:Bz xs lo hi=xs:=by unfold Bz;rw [hw.1,hw.2];simp
  rw [e]
  exact hx
 ·exact Zdj pins s σ H _ v vl vu lo hi sl Q I rx hs pl pu ⟨a,xs,rfl,hx,hw,fun p hp=>q p _ (Same.upd hp) (.of Ad)⟩
noncomputable def rSlB (K:O1):V->Option Int->Option Int->Hp->VK->Prop:=fun x lo hi H Q=>Zbx K x lo hi H Q\/Zbq x lo hi H Q\/rSlU K x lo hi H Q
theorem Ib {X:Cx}(K:O1)(hK:X.K=K:=by rfl):SlR X (rSlB K):=by subst hK;exact sl_list.or (sl_str.or Zlp)
theorem Hv {K:O1}{a:Addr}{xs:List V}{lo hi:Option Int}{H:Hp}{Q:VK}(ha:SqT K H a xs)(h:∀ r H',Same H H'->SqT K H' r (Bz xs lo hi)->Q (.ref r) H'):rSlB K (.ref a) lo hi H Q:=.inr (.inr ⟨a,xs,rfl,ha,h⟩)
theorem Zaw (xs:List V)(k:Nat):Bz xs none (some (k:Int))=xs.take k:=by
 unfold Bz
 rw [HT.sIx_none,HT.sIx_nat,T1,List.drop_zero]
 by_cases h:k<=xs.length
 ·rw [Sq h]
 ·rw [U6 (by omega),Qi (O4 _),Qi (by omega)]
theorem My (xs:List V)(k:Nat):Bz xs (some (k:Int)) none=xs.drop k:=by
 unfold Bz
 rw [HT.sIx_none,HT.sIx_nat]
 by_cases h:k<=xs.length
 ·rw [Sq h,Qi (by simp)]
 ·rw [U6 (by omega),Q4 (O4 _),Q4 (by omega)]
  simp
theorem Zso (xs:List V)(j k:Nat):Bz xs (some (j:Int)) (some (k:Int))=(xs.drop j).take (k - j):=by
 unfold Bz
 rw [HT.sIx_nat,HT.sIx_nat]
 by_cases hj:j<=xs.length
 ·rw [Sq hj]
  by_cases hk:k<=xs.length
  ·rw [Sq hk]
  ·rw [U6 (by omega),Qi (by simp),Qi (by simp;omega)]
 ·rw [U6 (Su (Nat.lt_of_not_le hj)),Q4 (O4 _),Q4 (by omega)]
  simp
structure Mvd (fs xs:List Addr)(h h':Heap):Prop where
 keep:∀ b o,b ∉ xs->b ∉ fs->h.get? b=some o->h'.get? b=some o
 slot:∀ b o,b ∉ xs->h.get? b=some o->∃ sl,h'.get? b=some { o with slots:=sl }
theorem Mvd.trans {fs xs:List Addr}{h h1 h2:Heap}(a:Mvd fs xs h h1)(b:Mvd fs xs h1 h2):Mvd fs xs h h2 :=
 ⟨fun c o n1 n2 e=>b.keep c o n1 n2 (a.keep c o n1 n2 e),fun c o n e=>by
  obtain ⟨sl,e1⟩:=a.slot c o n e
  obtain ⟨sl',e2⟩:=b.slot c _ n e1
  exact ⟨sl',e2⟩⟩
theorem Mvd.mono {fs xs ys:List Addr}{h h1:Heap}(a:Mvd fs xs h h1)(s:∀ b∈xs,b∈ys):Mvd fs ys h h1 :=
 ⟨fun c o n1 n2 e=>a.keep c o (fun z=>n1 (s c z)) n2 e,fun c o n e=>a.slot c o (fun z=>n (s c z)) e⟩
theorem Mvd.upd {fs:List Addr}{h:Heap}{a:Addr}(f:Obj->Obj):Mvd fs [a] h (h.update a f) :=
 ⟨fun c o n _ e=>by rw [Qh _ _ (fun z=>n (by simp [z]))];exact e,fun c o n e=>⟨o.slots,by rw [Qh _ _ (fun z=>n (by simp [z]))];exact e⟩⟩
theorem Mvd.push {fs xs:List Addr}{h:Heap}(o:Obj):Mvd fs xs h (h.push o):=⟨fun _ _ _ _ e=>O6 _ e,fun _ o _ e=>⟨o.slots,O6 _ e⟩⟩
theorem Mvd.fun {fs xs:List Addr}{h h1 base:Heap}{l:List Env}(a:Mvd fs xs h h1)(hl:h.FunFrames base l)(nx:∀ b∈xs,∃ o vs,h.get? b=some o/\o.data=.fields vs):h1.FunFrames base l :=
 hl.of_keeps fun b o e hd=>by
  obtain ⟨sl,e1⟩:=a.slot b o (fun z=>by
   obtain ⟨o',vs,e',d'⟩:=nx b z
   rw [e] at e'
   cases e'
   exact hd vs d') e
  exact ⟨_,e1,rfl⟩
noncomputable def J8 (h:Heap)(e T:Addr)(cls:Value)(od:Option Addr)(fl:Value):Prop :=
 ∃ oe vs oT ts,h.get? e=some oe/\oe.cls=cls/\oe.dict=od/\oe.data=.fields vs/\vs[1]?=some (.ref T)/\T≠e/\h.get? T=some oT/\oT.data=.fields ts/\ts[3]?=some fl
noncomputable abbrev Dw (h:Heap)(e T:Addr)(cls:Value)(od:Option Addr):Prop:=J8 h e T cls od .none
noncomputable def Fh (h:Heap)(e:Addr)(cls:Value)(od:Option Addr):Prop:=∃ oe vs,h.get? e=some oe/\oe.cls=cls/\oe.dict=od/\oe.data=.fields vs/\vs[1]?=some .none
section
variable {M:Model}{A:Around}{E:Value->Shared->Prop}{s:Shared}
theorem Zek {base:Heap}{env:Env}{outer:List Env}{L e:Addr}{oe:Obj}{vs:Array Value}{head:Value}{hadNext:Bool}{Q:Unit->Shared->Prop}
  (hfr:A.frames=some (env::outer)) (hl:s.heap.FunFrames base (env::outer)) (hf:env.frame=some L) (he:s.heap.get? e=some oe) (hd:oe.data=.fields vs) (hsz:1 < vs.size)
  (h:∀ h' T,s.heap.objs.size<=T->J8 h' e T oe.cls oe.dict (rawInt L)->Mvd (A6 (env::outer)) [e] s.heap h'->Q () { s with heap:=h' }) :
  wpAny M A (do let a <- frameOf env;let pl <- entryPlaceOf L hadNext;let b <- EntryCells.newEntry head a .none (rawInt L) .none pl;setField (.ref e) 1 b) Q E s:=by
 have hene:e ∉ A6 (env::outer):=fun hm=>by
  obtain ⟨_,o,ho,hnf⟩:=hl.mem hm
  rw [he] at ho
  cases ho
  exact hnf vs hd
 refine O2 (wpAny_frameOf_fun hfr hl hf fun h₁ s1=>?_)
 refine O2 (wpAny_entryPlaceOf fun pl hpl=>?_)
 unfold EntryCells.newEntry newFields
 refine O2 (Rn ?_ (hpl.sizeOk5 _ _ _ _ _))
 have e1:h₁.get? e=some oe:=(s1.2.1 e hene).trans he
 generalize hoT:({ cls:=.type "traceback",dict:=none,data:=.fields ([head,.ref L,.none,rawInt L,.none]++(if pl.isEmpty then Pn 6 Value.none else pl)).toArray }:Obj)=oT
 have e2:(h₁.push oT).get? e=some oe:=O6 _ e1
 refine Tw e2 hd hsz (h _ h₁.objs.size (by rw [s1.1];exact O4 _) ?_ ?_)
 ·have nT:h₁.objs.size≠e:=Qb (O8 e1)
  have d3:=Uy hd (·.setIfInBounds 1 (Value.ref h₁.objs.size))
  have e3:=Rk (Ss (·.setIfInBounds 1 (Value.ref h₁.objs.size))) e2 (Vy d3)
  have fT:oT.isFreed=false:=by rw [<- hoT];rfl
  have e4:=(Qh (h₁.push oT) (Ss (·.setIfInBounds 1 (Value.ref h₁.objs.size))) (Pc nT)).trans (Pe h₁ fT)
  refine ⟨_,_,_,_,e3,Obj.cls_mapFields _ _,?_,d3,by simp [hsz],nT,e4,by rw [<- hoT],?_⟩
  ·obtain ⟨c0,d0,t0,s0⟩:=oe
   cases t0 <;> rfl
  ·first | (simp;done) | (rcases hpl with rfl | ⟨_,_,_,_,_,_,_,rfl⟩ <;> simp)
 ·have m1:Mvd (A6 (env::outer)) [e] s.heap h₁:=⟨fun b o _ n e=>(s1.2.1 b n).trans e,fun b o _ e=>s1.2.2 b o e⟩
  exact (m1.trans (Mvd.push oT)).trans (Mvd.upd _)
theorem E9 {e T:Addr}{cls fl:Value}{od:Option Addr}{fs:List Addr}{Q:Unit->Shared->Prop}(x:J8 s.heap e T cls od fl)(h:∀ h',Dw h' e T cls od->Mvd fs [T] s.heap h'->Q () { s with heap:=h' }):wpAny M A (setFlight (.ref e) none) Q E s:=by
 obtain ⟨oe,vs,oT,ts,a1,a2,a3,a4,a5,a6,a7,a8,a9⟩:=x
 have hz:3 < ts.size:=(Ub.mp a9).1
 unfold setFlight
 refine O2 (Pj a1 a4 a5 ?_)
 rw [if_pos (show (Value.ref T != Value.none)=true from by simp)]
 refine Tw a7 a8 hz (h _ ?_ (Mvd.upd _))
 have d:=Uy a8 (·.setIfInBounds 3 ((none:Option Addr).elim Value.none fun f=>rawInt f))
 exact ⟨oe,vs,_,_,by rw [Qh _ _ a6];exact a1,a2,a3,a4,a5,a6,Rk _ a7 (Vy d),d,by simp [hz]⟩
theorem Zkw {base:Heap}{env:Env}{outer:List Env}{L e:Addr}{cls:Value}{od:Option Addr}{Q:Unit->Shared->Prop}
  (hfr:A.frames=some (env::outer)) (hl:s.heap.FunFrames base (env::outer)) (hf:env.frame=some L) (x:Fh s.heap e cls od)
  (h:∀ h' T,s.heap.objs.size<=T->J8 h' e T cls od (rawInt L)->Mvd (A6 (env::outer)) [e] s.heap h'->Q () { s with heap:=h' }):wpAny M A (noteFrame (.ref e) env) Q E s:=by
 obtain ⟨oe,vs,he,rfl,rfl,hd,h1⟩:=x
 unfold noteFrame
 simp only [hf]
 refine O2 (Pj he hd h1 ?_)
 rw [if_neg (by decide)]
 exact Zek hfr hl hf he hd (Ub.mp h1).1 h
theorem Nd {base:Heap}{env:Env}{outer:List Env}{L e T:Addr}{cls:Value}{od:Option Addr}{Q:Unit->Shared->Prop}
  (hfr:A.frames=some (env::outer)) (hl:s.heap.FunFrames base (env::outer)) (hf:env.frame=some L) (x:Dw s.heap e T cls od)
  (h:∀ h' T',s.heap.objs.size<=T'->J8 h' e T' cls od (rawInt L)->Mvd (A6 (env::outer)) [e,T] s.heap h'->Q () { s with heap:=h' }):wpAny M A (noteFrame (.ref e) env) Q E s:=by
 obtain ⟨oe,vs,oT,ts,he,rfl,rfl,hd,h1,nT,hT,dT,h3⟩:=x
 unfold noteFrame
 simp only [hf]
 refine O2 (Pj he hd h1 ?_)
 rw [if_pos (show (Value.ref T != Value.none)=true from by simp)]
 refine O2 (Pj hT dT h3 ?_)
 rw [if_neg (show ¬ ((Value.none == rawInt L)=true) from by simp [rawInt])]
 refine O2 (Tw hT dT (Ub.mp h3).1 ?_)
 have m1:Mvd (A6 (env::outer)) [T] s.heap (s.heap.update T (Ss (·.setIfInBounds 3 Value.none))):=Mvd.upd _
 have he':(s.heap.update T (Ss (·.setIfInBounds 3 Value.none))).get? e=some oe:=(Qh _ _ nT).trans he
 refine Zek hfr (m1.fun hl fun b hb=>by rw [Qe.mp hb];exact ⟨oT,ts,hT,dT⟩) hf he' hd (Ub.mp h1).1 fun h' T' hz x m=>?_
 refine h h' T' ?_ x ((m1.mono (by simp)).trans (m.mono (by simp)))
 have:(s.heap.update T (Ss (·.setIfInBounds 3 Value.none))).objs.size=s.heap.objs.size:=Heap.size_after_update ..
 have hz:(s.heap.update T (Ss (·.setIfInBounds 3 Value.none))).objs.size<=T':=hz
 omega
theorem Zj8 {base:Heap}{env:Env}{outer:List Env}{L e:Addr}{cls:Value}{od:Option Addr}{Q:Unit->Shared->Prop}
  (hfr:A.frames=some (env::outer)) (hl:s.heap.FunFrames base (env::outer)) (hf:env.frame=some L) (x:Fh s.heap e cls od)
  (h:∀ h' T,s.heap.objs.size<=T->Dw h' e T cls od->Mvd (A6 (env::outer)) [e,T] s.heap h'->Q () { s with heap:=h' }):wpAny M A (leaving env (.ref e)) Q E s:=by
 unfold leaving
 refine O2 (Zkw hfr hl hf x fun h1 T hz y m=>?_)
 refine E9 (fs:=A6 (env::outer)) y fun h2 y2 m2=>h h2 T hz y2 ((m.mono (by simp)).trans (m2.mono (by simp)))
theorem Zo6 {base:Heap}{env:Env}{outer:List Env}{L e T:Addr}{cls:Value}{od:Option Addr}{Q:Unit->Shared->Prop}
  (hfr:A.frames=some (env::outer)) (hl:s.heap.FunFrames base (env::outer)) (hf:env.frame=some L) (x:Dw s.heap e T cls od)
  (h:∀ h' T',s.heap.objs.size<=T'->Dw h' e T' cls od->Mvd (A6 (env::outer)) [e,T,T'] s.heap h'->Q () { s with heap:=h' }):wpAny M A (leaving env (.ref e)) Q E s:=by
 unfold leaving
 refine O2 (Nd hfr hl hf x fun h1 T' hz y m=>?_)
 refine E9 (fs:=A6 (env::outer)) y fun h2 y2 m2=>h h2 T' hz y2 ((m.mono (by simp)).trans (m2.mono (by simp)))
end
theorem Ff {X:Cx}{st:Stmt}:QS X st (fun _ _ _=>False):=⟨fun _ _ _ _ _ _ h=>h.elim⟩
noncomputable def Hu (h:Heap)(z TI TO i1 i2:Addr):Prop:=∃(a:Addr)(oa:Obj)(f1:Value),h.get? z=some { cls:=.type "zip",dict:=none,data:=.fields #[rawInt a,f1,.bool false,.ref TI,.ref TO],slots:=#[] }/\h.get? a=some oa/\a≠z/\a≠i1/\a≠i2
section
variable {prog:Program}{w:World}{A:Around}{E:Value->Shared->Prop}{s:Shared}{z TI TO i1 i2:Addr}{fp1 fp2:List Addr}{n1 n2 i:Nat}{P1 P2:Nat->Value->Prop}{St1 St2:Nat->Heap->Prop}{a b:Value}
theorem Zf1 {Q:Bool->Shared->Prop}(hz:Hu s.heap z TI TO i1 i2)(h:∀ h',Hu h' z TI TO i1 i2->Pl z s.heap h'->Q false { s with heap:=h' }):wpAny (model prog w) A (Qv (.ref z)) Q E s:=by
 obtain ⟨a,oa,f1,e,ea,n0,n1,n2⟩:=hz
 unfold Qv
 refine O2 (Pj e rfl (x:=rawInt a) rfl ?_)
 show wpAny _ _ (loadIfAlive ((a:Int).toNat) >>= _) _ _ s
 refine O2 (Zhf ?_)
 rw [R7,ea]
 rw [if_neg (by simp)]
 refine O2 (Pj e rfl (x:=f1) rfl ?_)
 by_cases hf:(f1 != Value.bool true)=true
 ·simp only [hf,if_true]
  refine O2 (Qz e (by simp) fun h₅ e5 s5=>?_)
  replace s5:Pl z s.heap h₅:=s5
  exact O3 (h h₅ ⟨a,oa,.bool true,e5,s5.extBut a oa n0 ea,n0,n1,n2⟩ s5)
 ·simp only [hf]
  exact O3 (h s.heap ⟨a,oa,f1,e,ea,n0,n1,n2⟩ (Pl.refl ..))
theorem Zkg {Q:Value->Shared->Prop}(D1:Draws prog w A i1 fp1 n1 P1 St1)(D2:Draws prog w A i2 fp2 n2 P2 St2)(D:ZA z TI TO i1 i2 fp1 fp2)(hz:Hu s.heap z TI TO i1 i2)(hTI:IsPair s.heap TI (.ref i1) (.ref i2))
  (st1:St1 i s.heap) (st2:St2 i s.heap) (l1:i < n1) (l2:i < n2)
  (hQ:∀ x y h' tk,P1 i x->P2 i y->Hu h' z TI TO i1 i2->St1 (i+1) h'->St2 (i+1) h'->IsPair h' s.heap.objs.size x y->h'.objs.size=s.heap.objs.size+1 ->
   (∀ c o,c≠z->c≠i1->c≠i2->s.heap.get? c=some o->h'.get? c=some o)->Q (.ref s.heap.objs.size) { s with heap:=h',toks:=tk }) :
  wpAny (model prog w) A (Builtin.«zip.__next__» ⟨[.ref z],[]⟩) (fun fin s'=>∃ v,fin=.done (.ret v)/\Q v s') E s:=by
 obtain ⟨a0,oa0,f10,e0,_⟩:=id hz
 show wpAny _ _ (field (.ref z) 2 >>= _) _ _ s
 refine O2 (Pj e0 rfl (x:=Value.bool false) rfl ?_)
 show wpAny _ _ (field (.ref z) 3 >>= _) _ _ s
 refine O2 (Pj e0 rfl (x:=Value.ref TI) rfl (O2 (Qu hTI rfl ?_)))
 show wpAny _ _ (Qv (.ref z) >>= _) _ _ s
 refine O2 (Zf1 hz fun h₁ hz₁ e1=>?_)
 simp only [Q6,if_false]
 refine O2 ?_
 simp only [List.forIn_toArray,Tt,Ve]
 refine O2 (O2 (P9 ?_))
 show wpAny _ _ (Qg (.ref i1) >>= _) _ _ _
 refine O2 (D1.item i _ _ _ l1 (Ca D1 st1 e1 D.z1) fun x h₂ tk₂ px s12 e2=>O3 (O3 ?_))
 replace e2:Pl i1 h₁ h₂:=e2
 refine O2 (O2 (P9 ?_))
 show wpAny _ _ (Qg (.ref i2) >>= _) _ _ _
 have s22:St2 i h₂:=Ca D2 (Ca D2 st2 e1 D.z2) e2 D.n1
 refine O2 (D2.item i _ _ _ l2 s22 fun y h₄ tk₄ py s24 e4=>O3 (O3 (O3 ?_)))
 replace e4:Pl i2 h₂ h₄:=e4
 show wpAny _ _ (newTuple [x,y] >>= _) _ _ _
 refine O2 (wpAny_newTuple (O3 ⟨_,rfl,?_⟩))
 have sz:h₄.objs.size=s.heap.objs.size:=by rw [e4.1,e2.1,e1.1]
 show Q (.ref h₄.objs.size) { s with heap:=h₄.push { cls:=.type "tuple",data:=.seq #[x,y] },toks:=tk₄ }
 have up:∀ c o,h₄.get? c=some o->(h₄.push { cls:=.type "tuple",data:=.seq #[x,y] }).get? c=some o:=fun c o e=>O6 _ e
 have k4:∀ c o,c≠z->c≠i1->c≠i2->s.heap.get? c=some o->h₄.get? c=some o:=fun c o c1 c3 c4 e=>e4.extBut _ _ c4 (e2.extBut _ _ c3 (e1.extBut _ _ c1 e))
 have t8:IsPair (h₄.push { cls:=.type "tuple",data:=.seq #[x,y] }) h₄.objs.size x y:=Pe _ rfl
 rw [sz] at t8
 rw [sz]
 obtain ⟨a1,oa1,f1,g1,g2,g3,g4,g5⟩:=hz₁
 refine hQ x y _ tk₄ px py ⟨a1,oa1,f1,up _ _ (e4.extBut _ _ D.i2z.symm (e2.extBut _ _ D.i1z.symm g1)),up _ _ (e4.extBut _ _ g5 (e2.extBut _ _ g4 g2)),g3,g4,g5⟩ ?_ ?_ t8 (by rw [P8,sz]) fun c o c1 c3 c4 e=>up c o (k4 c o c1 c3 c4 e)
 ·exact D1.frame _ _ _ (Ca D1 s12 e4 D.n2) fun c _ o e=>up c o e
 ·exact D2.frame _ _ _ s24 fun c _ o e=>up c o e
theorem Zis {Q:Fin->Shared->Prop}(D1:Draws prog w A i1 fp1 n1 P1 St1)(D2:Draws prog w A i2 fp2 n2 P2 St2)(D:ZA z TI TO i1 i2 fp1 fp2)(hz:Hu s.heap z TI TO i1 i2)(hTI:IsPair s.heap TI (.ref i1) (.ref i2))
  (st1:St1 i s.heap) (st2:St2 i s.heap) (hend:i=n1\/(i < n1/\i=n2))
  (hE:∀ h' e tk,(∀ c o,c≠z->c≠i1->c≠i2->s.heap.get? c=some o->h'.get? c=some o)->(∃ o,h'.get? e=some o/\o.cls=.type "StopIteration")->E (.ref e) { s with heap:=h',toks:=tk }) :
  wpAny (model prog w) A (Builtin.«zip.__next__» ⟨[.ref z],[]⟩) Q E s:=by
 obtain ⟨a0,oa0,f10,e0,_⟩:=id hz
 show wpAny _ _ (field (.ref z) 2 >>= _) _ _ s
 refine O2 (Pj e0 rfl (x:=Value.bool false) rfl ?_)
 show wpAny _ _ (field (.ref z) 3 >>= _) _ _ s
 refine O2 (Pj e0 rfl (x:=Value.ref TI) rfl (O2 (Qu hTI rfl ?_)))
 show wpAny _ _ (Qv (.ref z) >>= _) _ _ s
 refine O2 (Zf1 hz fun h₁ hz₁ e1=>?_)
 simp only [Q6,if_false]
 refine O2 ?_
 simp only [List.forIn_toArray,Tt,Ve]
 refine O2 (O2 (P9 ?_))
 show wpAny _ _ (Qg (.ref i1) >>= _) _ _ _
 rcases hend with rfl | ⟨l1,rfl⟩
 ·refine O2 (D1.done _ _ _ (Ca D1 st1 e1 D.z1) fun h₂ e e2 he=>?_)
  replace e2:Sx i1 h₁ h₂:=e2
  exact hE h₂ e s.toks (fun c o c1 c3 _ x=>e2 _ _ c3 (e1.extBut _ _ c1 x)) he
 ·refine O2 (D1.item i _ _ _ l1 (Ca D1 st1 e1 D.z1) fun x h₂ tk₂ px s12 e2=>O3 (O3 ?_))
  replace e2:Pl i1 h₁ h₂:=e2
  refine O2 (O2 (P9 ?_))
  show wpAny _ _ (Qg (.ref i2) >>= _) _ _ _
  have s22:St2 i h₂:=Ca D2 (Ca D2 st2 e1 D.z2) e2 D.n1
  refine O2 (D2.done _ _ _ s22 fun h₄ e e4 he=>?_)
  replace e4:Sx i2 h₂ h₄:=e4
  exact hE h₄ e tk₂ (fun c o c1 c3 c4 x=>e4 _ _ c4 (e2.extBut _ _ c3 (e1.extBut _ _ c1 x))) he
noncomputable def ZpSt (h:Heap)(z TI TO i1 i2:Addr)(i:Nat):Prop:=(i=0/\IsZip h z TI TO .none/\∃ u v,IsPair h TO u v)\/(0 < i/\Hu h z TI TO i1 i2)
theorem ZpSt.obj {h:Heap}{z TI TO i1 i2:Addr}{i:Nat}(x:ZpSt h z TI TO i1 i2 i):∃ vs,h.get? z=some { cls:=.type "zip",dict:=none,data:=.fields vs,slots:=#[] }:=by
 rcases x with ⟨_,x,_⟩ | ⟨_,_,_,_,x,_⟩
 ·exact ⟨_,x⟩
 ·exact ⟨_,x⟩
theorem Zsi {Q:Option Value->Shared->Prop}(D1:Draws prog w A.in1 i1 fp1 n1 P1 St1)(D2:Draws prog w A.in1 i2 fp2 n2 P2 St2)(D:ZA z TI TO i1 i2 fp1 fp2)(hz:ZpSt s.heap z TI TO i1 i2 i)(hTI:IsPair s.heap TI (.ref i1) (.ref i2))(eTO:∃ o,s.heap.get? TO=some o)
  (st1:St1 i s.heap) (st2:St2 i s.heap) (l1:i < n1) (l2:i < n2)
  (hQ:∀ x y h' tk,P1 i x->P2 i y->ZpSt h' z TI TO i1 i2 (i+1)->(∃ o,h'.get? TO=some o)->St1 (i+1) h'->St2 (i+1) h'->IsPair h' s.heap.objs.size x y->h'.objs.size=s.heap.objs.size+1 ->
   (∀ c o,c≠z->c≠TO->c≠i1->c≠i2->s.heap.get? c=some o->h'.get? c=some o)->Q (some (.ref s.heap.objs.size)) { s with heap:=h',toks:=tk }) :
  wpAny (model prog w) A (pyNext (.ref z)) Q E s:=by
 obtain ⟨vs,ho⟩:=hz.obj
 have hT:s.TypeIs (.ref z) "zip" := ⟨_,ho,rfl⟩
 have zl:z < s.heap.objs.size:=O8 ho
 have l1':i1 < s.heap.objs.size:=by obtain ⟨_,y⟩:=D1.live _ _ st1;exact O8 y
 have l2':i2 < s.heap.objs.size:=by obtain ⟨_,y⟩:=D2.live _ _ st2;exact O8 y
 rcases hz with ⟨rfl,hz,u,v,hTO⟩ | ⟨hi,hz⟩
 ·exact Zlf D1 D2 D hz hTI hTO st1 st2 l1 l2 fun x y h' tk a1 a2 a3 a4 a5 a6 a7 a8 a9=>hQ x y h' tk a1 a2 (.inr ⟨Vn _,_,_,_,a3,a7,Qb zl,Qb l1',Qb l2'⟩) ⟨_,a4⟩ a5 a6 a7 a8 a9
 ·unfold pyNext
  exact O2 (Rg (Qx (name:=Qc "__next__") hT Rl
   (Q1 Rl hT Up (Zkg D1 D2 D hz hTI st1 st2 l1 l2 fun x y h' tk a1 a2 a3 a4 a5 a6 a7 a8=>O3 (hQ x y h' tk a1 a2 (.inr ⟨Vn _,a3⟩) (let ⟨o,e⟩:=eTO;⟨o,a8 _ o D.TOz D.TOi1 D.TOi2 e⟩) a4 a5 a6 a7 fun c o c1 _ c3 c4 e=>a8 c o c1 c3 c4 e)) (Uk _))))
theorem Zmw {Q:Option Value->Shared->Prop}(D1:Draws prog w A.in1 i1 fp1 n1 P1 St1)(D2:Draws prog w A.in1 i2 fp2 n2 P2 St2)(D:ZA z TI TO i1 i2 fp1 fp2)(hz:ZpSt s.heap z TI TO i1 i2 i)(hTI:IsPair s.heap TI (.ref i1) (.ref i2))
  (st1:St1 i s.heap) (st2:St2 i s.heap) (hend:i=n1\/(i < n1/\i=n2))
  (hQ:∀ h' tk,(∀ c o,c≠z->c≠TO->c≠i1->c≠i2->s.heap.get? c=some o->h'.get? c=some o)->Q none { s with heap:=h',toks:=tk }):wpAny (model prog w) A (pyNext (.ref z)) Q E s:=by
 obtain ⟨vs,ho⟩:=hz.obj
 have hT:s.TypeIs (.ref z) "zip" := ⟨_,ho,rfl⟩
 rcases hz with ⟨rfl,hz,u,v,hTO⟩ | ⟨hi,hz⟩
 ·exact Zhp D1 D2 D hz hTI hTO st1 st2 hend hQ
 ·unfold pyNext
  refine O2 (Rg (Qx (name:=Qc "__next__") hT Rl
   (Q1 Rl hT Up (Zis D1 D2 D hz hTI st1 st2 hend fun h' e tk hk he=>?_) (Uk _))))
  obtain ⟨o,ho,hc⟩:=he
  exact O2 (Wf (T := "StopIteration") (b:=true) ⟨o,ho,hc⟩ isSubtype_stop (O3 (hQ _ _ fun c o c1 _ c3 c4 e=>hk c o c1 c3 c4 e)))
end
noncomputable abbrev lit (l:Addr):Obj:={ cls:=.type "list_iterator",data:=.fields #[.ref l,.int 0 0] }
noncomputable abbrev itZ (b:Bool)(l:Addr):Obj:={ cls:=.type (cond b "tuple_iterator" "list_iterator"),data:=.fields #[.ref l,.int 0 0] }
noncomputable def ZIt (b:Bool)(h:Heap)(a l:Addr)(i:Nat):Prop:=∃ o,h.get? a=some o/\o.cls=.type (cond b "tuple_iterator" "list_iterator")/\o.data=.fields #[.ref l,.int i 0]
theorem ZIt.at {b:Bool}{h h':Heap}{a l:Addr}{i:Nat}(x:ZIt b h a l i)(k:∀ o,h.get? a=some o->h'.get? a=some o):ZIt b h' a l i:=let ⟨o,e,r⟩:=x;⟨o,k o e,r⟩
noncomputable def ZIn (b:Bool)(h:Heap)(a:Addr)(xs:Array Value):Prop:=cond b (h.IsTuple a xs) (h.IsList a xs)
noncomputable def SqZ (b:Bool)(K:O1)(H:Hp)(a:Addr)(xs:List V):Prop:=cond b (SqT K H a xs) (SqL K H a xs)
theorem ZIn.lt {b:Bool}{h:Heap}{a:Addr}{xs:Array Value}(x:ZIn b h a xs):a < h.objs.size:=by
 cases b <;> exact let ⟨_,e,_⟩:=id x;O8 e
theorem Same.sqZ {b:Bool}{K:O1}{H H':Hp}{a:Addr}{xs:List V}(m:Same H H')(x:SqZ b K H a xs):SqZ b K H' a xs:=by
 cases b
 ·exact m.seq x
 ·exact m.tup x
theorem Inv.zin {X:Cx}{pins:List (Addr×Obj)}{σ:St}{H:Hp}{s:Shared}{b:Bool}{a:Addr}{xs:List V}(I:Inv X pins σ H s)(x:SqZ b X.K H a xs):∃ its,Vals xs its/\ZIn b s.heap a its.toArray:=by
 cases b
 ·obtain ⟨its,rv,pl,hz⟩:=I.list x
  exact ⟨its,rv,pl.isList⟩
 ·obtain ⟨its,rv,pl,hz⟩:=I.tuple x
  exact ⟨its,rv,pl⟩
theorem Zc6 {prog:Program}{w:World}{A:Around}(b:Bool)(hh:A.handled=none)(it l:Addr)(hne:l≠it)(items:Array Value) :
  Draws prog w A it [it,l] items.size (fun i v=>items[i]?=some v) (fun i h=>ZIt b h it l i/\ZIn b h l items):=by
 cases b
 ·exact Draws.list hh it l hne items
 ·exact Oq hh it l hne items
theorem Zq9 {prog:Program}{w:World}{A:Around}{E:Value->Shared->Prop}{s:Shared}{b:Bool}{a:Addr}{xs:Array Value}{Q:Value->Shared->Prop}(q:ZIn b s.heap a xs)
  (h:Q (.ref s.heap.objs.size) { s with heap:=s.heap.push (itZ b a) }):wpAny (model prog w) A (pyIter (.ref a)) Q E s:=by
 cases b
 ·exact Tk q h
 ·exact Ti q h
noncomputable abbrev zl1 (b:Bool)(h:Heap)(l1:Addr):Heap:=h.push (itZ b l1)
noncomputable abbrev zl2 (b:Bool)(h:Heap)(l1 l2:Addr):Heap:=(zl1 b h l1).push (lit l2)
noncomputable abbrev zl3 (b:Bool)(h:Heap)(l1 l2:Addr):Heap:=(zl2 b h l1 l2).push { cls:=.type "tuple",data:=.seq #[.ref h.objs.size,.ref (zl1 b h l1).objs.size] }
noncomputable abbrev zl4 (b:Bool)(h:Heap)(l1 l2:Addr):Heap:=(zl3 b h l1 l2).push { cls:=.type "tuple",data:=.seq #[.none,.none] }
noncomputable abbrev Ha (b:Bool)(h:Heap)(l1 l2:Addr):Heap:=(zl4 b h l1 l2).push { cls:=.type "zip",data:=.fields #[.none,.bool false,.bool false,.ref (zl2 b h l1 l2).objs.size,.ref (zl3 b h l1 l2).objs.size] }
theorem Zoo (b:Bool)(l1 l2:Addr)(xs ys:Array Value) :
  Meets (Builtin.«zip.__new__» ⟨[.type "zip",.ref l1,.ref l2],[]⟩) (fun _ R s=>ZIn b s.heap l1 xs/\s.heap.IsList l2 ys/\R (.ok (.ret (.ref (zl4 b s.heap l1 l2).objs.size))) { s with heap:=Ha b s.heap l1 l2 }) :=
 .of_wp fun prog w A R s h=>by
  obtain ⟨hp,g,d,tk,os⟩:=s;obtain ⟨hl1,hl2,h⟩:=h
  have hsub:=sub_zip
  have q1:ZIn b (Shared.heap ⟨hp,g,d,tk,os⟩) l1 xs:=hl1
  have q2:Heap.IsList (Shared.heap ⟨hp.push (itZ b l1),g,d,tk,os⟩) l2 ys:=Heap.IsList.push hl2 _
  wp_walk using Zq9 q1,Tk q2
  exact ⟨_,rfl,h⟩
theorem Zot {b:Bool}{prog:Program}{w:World}{A:Around}{E:Value->Shared->Prop}{s:Shared}{l1 l2:Addr}{xs ys:Array Value}{Q:Value->Shared->Prop}(hl1:ZIn b s.heap l1 xs)(hl2:s.heap.IsList l2 ys)
  (h:∀ h',IsZip h' (s.heap.objs.size+4) (s.heap.objs.size+2) (s.heap.objs.size+3) .none->IsPair h' (s.heap.objs.size+2) (.ref s.heap.objs.size) (.ref (s.heap.objs.size+1)) ->
   IsPair h' (s.heap.objs.size+3) .none .none->ZIt b h' s.heap.objs.size l1 0->h'.IsListIter (s.heap.objs.size+1) l2 0->h'.objs.size=s.heap.objs.size+5 ->
   (∀ c o,s.heap.get? c=some o->h'.get? c=some o)->Q (.ref (s.heap.objs.size+4)) { s with heap:=h' }) :
  wpAny (model prog w) A (call (.type "zip") [.ref l1,.ref l2]) Q E s:=by
 refine callType_new PySem.F.called_zip (by decide) (PySem.F.typeCall_zip_2 _ _) (PySem.F.newCall_zip_2 _ _) (fun obj=>PySem.F.args_object_init_3 obj _ _) PySem.F.entry_zip_new (Zoo b l1 l2 xs ys) ⟨hl1,hl2,?_⟩
 have y1:(zl1 b s.heap l1).objs.size=s.heap.objs.size+1:=P8 ..
 have y2:(zl2 b s.heap l1 l2).objs.size=s.heap.objs.size+2:=by rw [P8,y1]
 have y3:(zl3 b s.heap l1 l2).objs.size=s.heap.objs.size+3:=by rw [P8,y2]
 have y4:(zl4 b s.heap l1 l2).objs.size=s.heap.objs.size+4:=by rw [P8,y3]
 have y5:(Ha b s.heap l1 l2).objs.size=s.heap.objs.size+5:=by rw [P8,y4]
 have u5:(Ha b s.heap l1 l2).get? (zl4 b s.heap l1 l2).objs.size=some _:=Pe _ rfl
 have u4:(Ha b s.heap l1 l2).get? (zl3 b s.heap l1 l2).objs.size=some _:=O6 _ (Pe _ rfl)
 have u3:(Ha b s.heap l1 l2).get? (zl2 b s.heap l1 l2).objs.size=some _:=O6 _ (O6 _ (Pe _ rfl))
 have u2:(Ha b s.heap l1 l2).get? (zl1 b s.heap l1).objs.size=some _:=O6 _ (O6 _ (O6 _ (Pe _ rfl)))
 have u1:(Ha b s.heap l1 l2).get? s.heap.objs.size=some _:=O6 _ (O6 _ (O6 _ (O6 _ (Pe _ rfl))))
 show _/\_
 rw [y2,y3,y4] at u5
 rw [y1,y2] at u3
 rw [y3] at u4
 rw [y1] at u2
 rw [y4]
 exact ⟨⟨_,u5,rfl⟩,h _ u5 u3 u4 ⟨_,u1,rfl,rfl⟩ ⟨_,u2,rfl,rfl⟩ y5 fun c o x=>O6 _ (O6 _ (O6 _ (O6 _ (O6 _ x))))⟩
noncomputable def Lq (H:Hp)(xs ys zs:List V):Prop:=∀(j:Nat)(z:V),zs[j]?=some z->∃(t:Addr)(x y:V),z=V.ref t/\xs[j]?=some x/\ys[j]?=some y/\H t=some (.tup [x,y])
noncomputable def JZp (f:Bool)(K:O1)(H0:Hp)(z TI TO i1 i2 a b:Addr)(xs ys:List V):Nat->List V->Hp->Heap->Prop:=fun i zs H h =>
 ZpSt h z TI TO i1 i2 i/\(IsPair h TI (.ref i1) (.ref i2)/\∃ o,h.get? TO=some o)/\ZIt f h i1 a i/\h.IsListIter i2 b i/\(∀ c∈[z,TI,TO,i1,i2],H c=none)/\zs.length=i/\Lq H xs ys zs/\Same H0 H
theorem Zn3:typeLookup (.type "zip") "__len__" = pure none:=by rw [Tu,Te];kernel_rfl
theorem Ziq:typeLookup (.type "zip") "__length_hint__" = pure none:=by rw [Tu,Te];kernel_rfl
theorem Ziv {f:Bool}{X:Cx}{pins:List (Addr×Obj)}{σ:St}{H0:Hp}{z TI TO i1 i2 a b:Addr}{xs ys:List V}(fp:∀ c∈[z,TI,TO,i1,i2],FpOk X pins H0 c)(D:ZB z TI TO i1 i2 a b)(ha:SqZ f X.K H0 a xs)(hb:SqL X.K H0 b ys) :
  Src X pins σ z "zip" (min xs.length ys.length) H0 (JZp f X.K H0 z TI TO i1 i2 a b xs ys) where
 ty:=fun i zs H h j=>by
  obtain ⟨vs,e⟩:=j.1.obj
  exact ⟨_,e,rfl⟩
 nl:=by decide
 nolen:=Zn3
 nohint:=Ziq
 self:=fun A s zs H Q E j q=>by
  rcases j.1 with ⟨_,e,_⟩ | ⟨z,_⟩
  ·exact wpAny_pyIter_zip e q
  ·exact absurd z (Qn _)
 keep:=fun i zs H h h' S us us' h0 hS j k al=>by
  obtain ⟨j1,⟨j2,jT⟩,j3,j4,j5,j6,j7,j8⟩:=j
  have ne:∀ c∈[z,TI,TO,i1,i2],c≠S:=fun c hc e=>by
   have:=j5 c hc
   rw [e,hS] at this
   cases this
  refine ⟨?_,⟨k _ _ (ne TI (by simp)) j2,let ⟨o,e⟩:=jT;⟨o,k _ _ (ne TO (by simp)) e⟩⟩,j3.at fun o e=>k _ _ (ne i1 (by simp)) e,j4.at fun o e=>k _ _ (ne i2 (by simp)) e,fun c hc=>by rw [Af (ne c hc)];exact j5 c hc,j6,fun m y hy=>?_,j8.over h0⟩
  ·rcases j1 with ⟨z0,e,u,v,e2⟩ | ⟨z0,a0,oa,f1,e,ea,x1,x2,x3⟩
   ·exact .inl ⟨z0,k _ _ (ne z (by simp)) e,u,v,k _ _ (ne TO (by simp)) e2⟩
   ·by_cases hs:a0=S
    ·subst hs
     obtain ⟨o,eo⟩:=al
     exact .inr ⟨z0,a0,o,f1,k _ _ (ne z (by simp)) e,eo,x1,x2,x3⟩
    ·exact .inr ⟨z0,a0,oa,f1,k _ _ (ne z (by simp)) e,k _ _ hs ea,x1,x2,x3⟩
  ·obtain ⟨t,x,y',e1,e2,e3,e4⟩:=j7 m y hy
   exact ⟨t,x,y',e1,e2,e3,by rw [Af (Df e4 hS (by intro z;cases z))];exact e4⟩
 fresh:=fun i zs H h j=>j.2.2.2.2.1 z (by simp)
 item:=fun A i s H zs E hh hi I j=>by
  obtain ⟨j1,⟨j2,jT⟩,j3,j4,j5,j6,j7,j8⟩:=j
  obtain ⟨its,rv,p⟩:=I.zin (j8.sqZ ha)
  obtain ⟨its2,rv2,p2,hz2⟩:=I.list (j8.seq hb)
  have g1:=rv.length
  have g2:=rv2.length
  have l1:i < xs.length:=by omega
  have l2:i < ys.length:=by omega
  have D1:=Zc6 (prog:=X.prog) (w:=X.w) (A:=A.in1) f hh i1 a D.a1 its.toArray
  have D2:=Draws.list (prog:=X.prog) (w:=X.w) (A:=A.in1) hh i2 b D.b2 its2.toArray
  refine Zsi D1 D2 D.za j1 j2 jT ⟨j3,p⟩ ⟨j4,p2.isList⟩ (by rw [O7];omega) (by rw [O7];omega) fun x y h' tk px py a1 aT a2 a3 a4 a5 a6=>?_
  have hx':its[i]?=some x:=by simpa using px
  have hy':its2[i]?=some y:=by simpa using py
  obtain ⟨u1,hu1,ru1⟩:=rv.get (O5 l1)
  obtain ⟨u2,hu2,ru2⟩:=rv2.get (O5 l2)
  rw [hx'] at hu1
  cases hu1
  rw [hy'] at hu2
  cases hu2
  have hf:H s.heap.objs.size=none:=I.hok.fresh (O4 _)
  have fpH:∀ c∈[z,TI,TO,i1,i2],FpOk X pins H c:=fun c hc=>(fp c hc).of (j5 c hc)
  have kk:∀ c o,c ∉ [z,TI,TO,i1,i2]->s.heap.get? c=some o->h'.get? c=some o:=fun c o hc e=>by
   simp only [Pb,P5,or_false,not_or] at hc
   exact a6 c o hc.1 hc.2.2.1 hc.2.2.2.1 hc.2.2.2.2 e
  have I2:=I.pairL (tk:=tk) (T:=s.heap.objs.size) (xs:=[xs[i],ys[i]]) (its:=[x,y]) fpH kk (O4 _) (.cons ru1 (.cons ru2 .nil)) (by show 2<=sizeLine;decide) ⟨_,a4,rfl,_,rfl⟩
  have sm:Same H (upd H s.heap.objs.size (.tup [xs[i],ys[i]])):=Same.upd hf
  have lt:∀{c o},s.heap.get? c=some o->c≠s.heap.objs.size:=fun e=>Pg (O8 e)
  have nw:∀ c∈[z,TI,TO,i1,i2],c≠s.heap.objs.size:=fun c hc=>by
   simp only [Pb,P5,or_false] at hc
   rcases hc with rfl | rfl | rfl | rfl | rfl
   ·obtain ⟨_,e⟩:=j1.obj;exact lt e
   ·exact lt j2
   ·obtain ⟨_,e⟩:=jT;exact lt e
   ·obtain ⟨_,e,_⟩:=j3;exact lt e
   ·obtain ⟨_,e,_⟩:=j4;exact lt e
  refine ⟨_,.ref s.heap.objs.size,_,rfl,rfl,I2,⟨a1,⟨a6 _ _ D.TIz D.TITO D.TI1 D.TI2 j2,aT⟩,a2.1,a3.1,fun c hc=>by rw [Af (nw c hc)];exact j5 c hc,by simp [j6],fun m y hy=>?_,j8.trans sm⟩,fun S us e=>sm S _ e⟩
  by_cases hm:m < i
  ·rw [Qd (by omega)] at hy
   obtain ⟨t,x,y',e1,e2,e3,e4⟩:=j7 m y hy
   exact ⟨t,x,y',e1,e2,e3,sm _ _ e4⟩
  ·have hlen:=(Ph.mp hy).1
   rw [O9,Pz] at hlen
   have:m=i:=by omega
   subst this
   rw [Qw (by omega),j6,Rt] at hy
   have hy:V.ref s.heap.objs.size=y:=by simpa using hy
   exact ⟨_,xs[m],ys[m],hy.symm,O5 l1,O5 l2,Ad⟩
 done:=fun A s H zs E hh I j=>by
  obtain ⟨j1,⟨j2,jT⟩,j3,j4,j5,j6,j7,j8⟩:=j
  obtain ⟨its,rv,p⟩:=I.zin (j8.sqZ ha)
  obtain ⟨its2,rv2,p2,hz2⟩:=I.list (j8.seq hb)
  have g1:=rv.length
  have g2:=rv2.length
  have D1:=Zc6 (prog:=X.prog) (w:=X.w) (A:=A.in1) f hh i1 a D.a1 its.toArray
  have D2:=Draws.list (prog:=X.prog) (w:=X.w) (A:=A.in1) hh i2 b D.b2 its2.toArray
  have fpH:∀ c∈[z,TI,TO,i1,i2],FpOk X pins H c:=fun c hc=>(fp c hc).of (j5 c hc)
  refine Zmw D1 D2 D.za j1 j2 ⟨j3,p⟩ ⟨j4,p2.isList⟩ (by simp only [O7];omega) fun h' tk kk=>⟨rfl,I.turnedL (fun c o hc e=>?_) fpH⟩
  simp only [Pb,P5,or_false,not_or] at hc
  exact kk c o hc.1 hc.2.2.1 hc.2.2.2.1 hc.2.2.2.2 e
section
variable {X:Cx}
noncomputable def O0 (f:Bool)(K:O1)(ta:TA):TE:=fun σ H Q=>ta σ H fun vs H1=>∃ a b xs ys,vs=[.ref a,.ref b]/\SqZ f K H1 a xs/\SqL K H1 b ys /\
 ∀(S:Addr)(zs:List V)(H2:Hp),H1 S=none->Same H1 H2->zs.length=min xs.length ys.length->Lq H2 xs ys zs->H2 S=some (.lst zs)->Q (.ref S) H2
theorem Zcw (f:Bool)(K:O1){e e2:Expr}{ta:TA}{p p2 pos pos2:Pos}(hg:Gl X "list")(hm:X.mg "list" = none)(hg2:Gl X "zip")(hm2:X.mg "zip" = none)(ha:QA X [e,e2] ta)(hK:X.K=K:=by rfl)(hc:X.calm=true:=by rfl)
  (hs:starEach [.Call (.Name "zip" p2) [e,e2] [] pos2] X.env=[(false,eval (.Call (.Name "zip" p2) [e,e2] [] pos2) X.env)]:=by rfl) (hs2:starEach [e,e2] X.env=[(false,eval e X.env),(false,eval e2 X.env)]:=by rfl) (hs3:starEach [e2] X.env=[(false,eval e2 X.env)]:=by rfl) :
  QE X (.Call (.Name "list" p) [.Call (.Name "zip" p2) [e,e2] [] pos2] [] pos) (O0 f K ta):=by
 subst hK
 refine ⟨fun pins s σ H Q I h=>?_⟩
 refine Call_ (Fg I hg hm Zhe (Ry ?_ hs rfl))
 rw [hs]
 show wpAny _ _ (spliced ((false,eval (.Call (.Name "zip" p2) [e,e2] [] pos2) X.env)::[])) _ _ s
 refine V4 ?_
 refine Call_ (Fg I hg2 hm2 PyProof.Rows.boot_zip (Ry (Aj (ha.run pos2 pins s σ H _ I h) fun us s1 ⟨vs,H1,I1,r1,q1⟩=>?_) (by rw [hs2,hs3]) (by rw [hs3];rfl)))
 obtain ⟨a,b,xs,ys,e1,hq,hq2,q⟩:=q1
 subst e1
 obtain ⟨u,v,rfl,ru,rv⟩:=r1.two
 cases ru
 cases rv
 obtain ⟨its,rv,pl⟩:=I1.zin hq
 obtain ⟨its2,rv2,pl2,hz2⟩:=I1.list hq2
 have lt1:a < s1.heap.objs.size:=pl.lt
 have lt2:b < s1.heap.objs.size:=by obtain ⟨o,e,_⟩:=pl2.isList;exact O8 e
 refine Zot pl pl2.isList fun h' a1 a2 a3 a4 a5 a6 hk=>?_
 refine Wa ?_
 have fr:∀ k,FpOk X pins H1 (s1.heap.objs.size+k):=fun k=>I1.fpOk (U5 _ _) (I1.hok.fresh (U5 _ _))
 have fp:∀ c∈[s1.heap.objs.size+4,s1.heap.objs.size+2,s1.heap.objs.size+3,s1.heap.objs.size,s1.heap.objs.size+1],FpOk X pins H1 c:=fun c hc=>by
  simp only [Pb,P5,or_false] at hc
  rcases hc with rfl | rfl | rfl | rfl | rfl
  ·exact fr 4
  ·exact fr 2
  ·exact fr 3
  ·exact fr 0
  ·exact fr 1
 have C:=Ziv (X:=X) (pins:=pins) (σ:=σ) (H0:=H1) fp (Zql lt1 lt2) hq hq2
 have I2:Inv X pins σ H1 { s1 with heap:=h' }:=I1.kept (t':=s1.toks) hk
 refine Ze2 C (by omega) (I1.ok.hd hc) I2 ⟨.inl ⟨rfl,a1,_,_,a3⟩,⟨a2,_,a3⟩,a4,a5,fun c hc=>(fp c hc).1,rfl,fun j y hy=>by simp at hy,Same.refl _⟩ (fun S hge hS h2 k2=>?_) fun S H' zs hS hS' hl' hj=>?_
 ·have sm:Same H1 (upd H1 S (.lst [])):=Same.upd hS
  refine ⟨.inl ⟨rfl,k2 _ _ a1,_,_,k2 _ _ a3⟩,⟨k2 _ _ a2,_,k2 _ _ a3⟩,a4.at fun o e=>k2 _ _ e,a5.at fun o e=>k2 _ _ e,fun c hc=>?_,rfl,fun j y hy=>by simp at hy,sm⟩
  have hge:h'.objs.size<=S:=hge
  rw [Af (show c≠S from fun z=>?_)]
  ·exact (fp c hc).1
  ·simp only [Pb,P5,or_false] at hc
   rcases hc with rfl | rfl | rfl | rfl | rfl <;> exact absurd z (Pg (Pk (by omega) hge))
 ·obtain ⟨h,j⟩:=hj
  exact q S zs H' hS j.2.2.2.2.2.2.2 hl' j.2.2.2.2.2.2.1 hS'
noncomputable abbrev Zfe:=O0 true
theorem Zou (K:O1){e e2:Expr}{ta:TA}{p p2 pos pos2:Pos}(hg:Gl X "list")(hm:X.mg "list" = none)(hg2:Gl X "zip")(hm2:X.mg "zip" = none)(ha:QA X [e,e2] ta)(hK:X.K=K:=by rfl)(hc:X.calm=true:=by rfl)
  (hs:starEach [.Call (.Name "zip" p2) [e,e2] [] pos2] X.env=[(false,eval (.Call (.Name "zip" p2) [e,e2] [] pos2) X.env)]:=by rfl) (hs2:starEach [e,e2] X.env=[(false,eval e X.env),(false,eval e2 X.env)]:=by rfl) (hs3:starEach [e2] X.env=[(false,eval e2 X.env)]:=by rfl) :
  QE X (.Call (.Name "list" p) [.Call (.Name "zip" p2) [e,e2] [] pos2] [] pos) (Zfe K ta):=Zcw true K hg hm hg2 hm2 ha hK hc hs hs2 hs3
theorem s_listzp {K:O1}{ta:TA}{σ:St}{H:Hp}{Q:VK}(h:ta σ H fun vs H1=>∃ a b xs ys,vs=[.ref a,.ref b]/\SqT K H1 a xs/\SqL K H1 b ys /\
 ∀(S:Addr)(zs:List V)(H2:Hp),H1 S=none->Same H1 H2->zs.length=min xs.length ys.length->Lq H2 xs ys zs->H2 S=some (.lst zs)->Q (.ref S) H2):Zfe K ta σ H Q:=h
end
theorem Zo1:∀(xs ys:List Int),((Pp (min xs.length ys.length)).all (fun j=>xs.getD j 0 == ys.getD j 0) && xs.length == ys.length)=decide (xs=ys):=by
 intro xs ys
 rw [Tq,Ro,Sn,beq_iff_eq,decide_eq_true_iff]
 constructor
 ·rintro ⟨h1,h2⟩
  apply List.ext_getElem h2
  intro i g1 g2
  have:=h1 i (List.mem_range.mpr (by omega))
  rw [beq_iff_eq,Uc,Uc,O5 g1,O5 g2] at this
  exact this
 ·rintro rfl
  exact ⟨fun j _=>by simp,rfl⟩
section
variable {X:Cx}
end
section
variable {X:Cx}
end
noncomputable def Bd (P:Program)(w:World):B4:=fun outer H s E ev s'=>∃(e T:Addr)(cls:Value)(od:Option Addr)(H':Hp),ev=.ref e/\s'.os=s.os/\AllBare s'.gens/\Un (A6 outer) [] H H' s.heap s'.heap/\HOk P w H' s'.heap /\
 s.heap.get? e=none/\s.heap.get? T=none/\H' e=none/\H' T=none/\Dw s'.heap e T cls od/\E cls od H'
section
variable {X:Cx}{pins:List (Addr×Obj)}{σ:St}{H:Hp}{s:Shared}
theorem Inv.old (I:Inv X pins σ H s)(hex:X.ex=[]){b:Addr}(h:s.heap.get? b=none):X.s₀.heap.get? b=none:=by
 cases q:X.s₀.heap.get? b with
 | none=>rfl
 | some o =>
  obtain ⟨o',e⟩:=I.base.there b o q (by rw [hex];simp)
  rw [h] at e
  cases e
theorem Inv.mvd (I:Inv X pins σ H s){h':Heap}{xs:List Addr}(m:Mvd (A6 X.stack) xs s.heap h')(hx:∀ b∈xs,X.s₀.heap.get? b=none/\H b=none)(hex:X.ex=[]):Un X.fs [] X.H₀ H X.s₀.heap h'/\HOk X.prog X.w H h':=by
 have low:∀ b o,X.s₀.heap.get? b=some o->b ∉ xs:=fun b o e hb=>by rw [(hx b hb).1] at e;cases e
 have neL:∀ b o,X.s₀.heap.get? b=some o->b≠X.env.locals:=fun b o e=>Pg (Pk (O8 e) I.ok.above)
 have nst:∀ b o,X.s₀.heap.get? b=some o->b ∉ X.fs->b ∉ A6 X.stack:=fun b o e hf hs=>by
  rcases I.ok.stk with z | ⟨z,z2⟩
  ·rw [z] at hs;exact hf hs
  ·rw [z] at hs
   unfold A6 at hs
   rw [Uu,z2] at hs
   rcases Pb.mp hs with q | q
   ·exact neL b o e q
   ·exact hf q
 have B:=I.base
 rw [hex] at B
 refine ⟨⟨fun b o e n hf _=>?_,fun b o e n hf _=>?_,fun b o e n _=>B.free b o e n (by simp),fun b o e _=>?_,B.tups,B.frzs,B.tbls⟩,fun b u e=>?_⟩
 ·exact m.keep b o (low b o e) (nst b o e hf) (B.keep b o e n hf (by simp))
 ·obtain ⟨sl,e1⟩:=B.slot b o e n hf (by simp)
  obtain ⟨sl',e2⟩:=m.slot b _ (low b o e) e1
  exact ⟨sl',e2⟩
 ·obtain ⟨o',e1⟩:=B.there b o e (by simp)
  obtain ⟨sl,e2⟩:=m.slot b o' (low b o e) e1
  exact ⟨_,e2⟩
 ·have tr:∀ c v,H c=some v->c ∉ xs/\c ∉ A6 X.stack:=fun c v q=>⟨(fun z=>by rw [(hx c z).2] at q;cases q),(fun z=>by rw [I.stkFree c z] at q;cases q)⟩
  refine (I.hok b u e).stay (fun c v hc q=>m.keep c v ?_ ?_ q) (fun _ q=>q) fun _ _ q=>q
  ·rcases hc with z | z
   ·rw [z];exact (tr b u e).1
   ·exact (tr c _ z).1
  ·rcases hc with z | z
   ·rw [z];exact (tr b u e).2
   ·exact (tr c _ z).2
end
section
variable {P:Program}{w:World}{K:O1}{mg:Str->Option Value}{base:Heap}{N:List Str}{qual:Str}{scope:Scope}{f:Addr}{cd:Value}{A:Around}{outer:List Env}{s0:Shared}{H0:Hp}{E:XK}
theorem Ei {E':XK}(h:∀ cls od H',E' cls od H'->E cls od H'):E6 (Bd P w) (Dy (Bd P w) P w K mg base N qual scope f cd A outer s0 H0 E) E':=by
 intro pins σ H s ev s' I c
 obtain ⟨e,T,cls,od,H',rfl,h1,h2,h3,h4,h5,h6,h7,h8,h9,h10⟩:=c
 have J:Inv (Dy (Bd P w) P w K mg base N qual scope f cd A outer s0 H0 E) pins σ H' s':=I.call' (ch:=[]) h1 h3 h4 h2 (fun b z=>absurd z (by simp))
 refine Zo6 (base:=base) (outer:=outer) (L:=s0.heap.objs.size) J.ok.frames J.stack rfl h9 fun h' T' hT' y m=>?_
 obtain ⟨u,ok⟩:=J.mvd (h':=h') m (fun b hb=>by
  simp only [Pb,P5,or_false] at hb
  rcases hb with rfl | rfl | rfl
  ·exact ⟨I.old rfl h5,h7⟩
  ·exact ⟨I.old rfl h6,h8⟩
  ·exact ⟨J.old rfl (R4 hT'),J.hok.fresh hT'⟩) rfl
 exact ⟨e,T',cls,od,H',rfl,J.os,J.bare,u,ok,I.old rfl h5,J.old rfl (R4 hT'),h7,J.hok.fresh hT',y,h _ _ _ h10⟩
theorem Oj {pins:List (Addr×Obj)}{σ:St}{H:Hp}{s:Shared}{e:Addr}{cls:Value}{od:Option Addr}(I:Inv (Dy (Bd P w) P w K mg base N qual scope f cd A outer s0 H0 E) pins σ H s)(x:Fh s.heap e cls od)(he:s0.heap.get? e=none)(hn:H e=none)(h:E cls od H) :
  (Dy (Bd P w) P w K mg base N qual scope f cd A outer s0 H0 E).xe (.ref e) s:=by
 refine Zj8 (base:=base) (outer:=outer) (L:=s0.heap.objs.size) I.ok.frames I.stack rfl x fun h' T hT y m=>?_
 obtain ⟨u,ok⟩:=I.mvd (h':=h') m (fun b hb=>by
  simp only [Pb,P5,or_false] at hb
  rcases hb with rfl | rfl
  ·exact ⟨he,hn⟩
  ·exact ⟨I.old rfl (R4 hT),I.hok.fresh hT⟩) rfl
 exact ⟨e,T,cls,od,H,rfl,I.os,I.bare,u,ok,he,I.old rfl (R4 hT),hn,I.hok.fresh hT,y,h⟩
end
section
variable {P:Program}{w:World}{K:O1}{mg:Str->Option Value}{base:Heap}
theorem Fun.okx {x qual:Str}{st:Stmt}{f:Addr}{fd:FuncData}{N ps:List Str}{k:Nat}{sp:Sp}(F:Fun K x qual st f fd)(S:A2 N ps (Ay st))(len:∀ vs H Q E,sp vs H Q E->vs.length=ps.length)
  (hbody:∀(cdv:Value)(A:Around)(outer:List Env)(s:Shared)(H:Hp)(vs:List V)(Q:VK)(E:XK),Room k (A.deeper (envOfC qual (Ay st) s.heap.objs.size f cdv))->sp vs H Q E ->
   ∃ t,C3 (Dy (Bd P w) P w K mg base N qual (Ay st) f cdv A outer s H E) (Et st) t/\t { nx:=fun _ H'=>Q .non H',rt:=Q } (Ek N vs) H):FnOk P w K mg base (Bd P w) (k+1) f fd ps sp:=by
 obtain ⟨oc,od,kV,doc,pm,an,cdv,ct,osl,rfl,lk,hcd⟩:=F.ex
 refine Zei lk hcd S len fun A outer s H vs Q E hr hsp=>?_
 obtain ⟨t,h,q⟩:=hbody cdv A outer s H vs Q E hr hsp
 exact ⟨t,h.run,q⟩
structure Es (P:Program)(w:World)(K:O1)(mg:Str->Option Value)(base:Heap)(k:Nat)(x:Str)(ps:List Str)(sp:Sp):Prop where
 ex:∃(f:Addr)(fd:FuncData),FnOk P w K mg base (Bd P w) k f fd ps sp/\mg x=some (.ref f)/\Qm K (.ref f)=true/\Binds K fd ps []
theorem Zoy {k:Nat}{x:Str}{ps:List Str}{sp:Sp}{f:Addr}{fd:FuncData}(F:FnOk P w K mg base (Bd P w) k f fd ps sp)(m:mg x=some (.ref f))(kp:Qm K (.ref f)=true)(b:Binds K fd ps []):Es P w K mg base k x ps sp:=⟨f,fd,F,m,kp,b⟩
end
section
variable {X:Cx}{k:Nat}{x:Str}{ps:List Str}{sp:Sp}{p pos np cpos:Pos}{e:Expr}{es:List Expr}{t:TA}{E:XK}
theorem Lz (C:Es X.prog X.w X.K X.mg X.base k x ps sp)(hr:Room k X.A)(hx:E6 (Bd X.prog X.w) X E)(ha:QA X (e::es) t)(hg:Gl X x:=by rfl)(hdb:(x == ("__debug__" : Str))=false:=by decide)
  (he:starEach (e::es) X.env=(false,eval e X.env)::starEach es X.env:=by rfl) (hpl:(backTo pos (starEach es X.env)).any (·.1)=false:=by rfl):QE X (.Call (.Name x p) (e::es) [] pos) (Kh sp [] E t):=by
 obtain ⟨f,fd,F,hm,hk,hb⟩:=C.ex
 exact ⟨Zdp F hr hg hm hk hb .nil hx ha.run hdb he hpl⟩
noncomputable abbrev VE:List Value:=[.type "ValueError",.type "Exception",.type "BaseException",.type "object"]
noncomputable def Zdc (X:Cx)(E:XK):Prop:=∀(pins:List (Addr×Obj))(σ:St)(H:Hp)(s:Shared)(a:Addr)(cls:Value)(od:Option Addr),Inv X pins σ H s->Fh s.heap a cls od->X.s₀.heap.get? a=none->H a=none->E cls od H->X.xe (.ref a) s
structure Ju (K:O1)(C:Addr):Prop where
 ex:∃ bm dd nm bs ns qn hd sn sub ab col k0 k1 k2 k3 k5,K.lookup C=some (excClassObj nm qn C ns bs bm hd sn sub ab col dd k0 k1 k2 k3 k5 "ValueError.__new__")/\Rr K VE bm=true/\Sd K ns=true/\Pm K ns "__init__" = some none
theorem Zoa {K:O1}{h0:Heap}{C:Addr}(kin0:K.In h0)(q:Ju K C) :
  ∃ bm N nm q bs hdct sn sub ab col dd k0 k1 k2 k3 k5 mN,mN "__init__" = none/\∀ h:Heap,K.In h->h.get? C=some (excClassObj nm q C N bs bm hdct sn sub ab col dd k0 k1 k2 k3 k5 "ValueError.__new__")/\h.Ns N mN/\OwnTail h VE bm:=by
 obtain ⟨bm,dd,nm,bs,ns,qn,hd,sn,sub,ab,col,k0,k1,k2,k3,k5,ho,ht,hok,hni⟩:=q.ex
 have n0:h0.Ns ns (h0.nsMap ns):=.of_isNs (PySem.W.isNs_of_in kin0 hok)
 refine ⟨bm,ns,nm,qn,bs,hd,sn,sub,ab,col,dd,k0,k1,k2,k3,k5,h0.nsMap ns,PySem.W.nsMap_none_of_in kin0 hok hni,fun h kin=>⟨kin _ _ ho,?_,PySem.W.tail_of_in kin ht⟩⟩
 obtain ⟨o,es,ep,e,r⟩:=n0
 refine ⟨o,es,ep,?_,r⟩
 unfold Sd at hok
 split at hok
 ·rename_i hl
  have:=kin0 _ _ hl
  rw [e] at this
  cases this
  exact kin _ _ hl
 ·cases hok
theorem ObjOk.there {P:Program}{w:World}{H:Hp}{h:Heap}{a:Addr}{o:HO}(x:ObjOk P w H h a o):∃ u,h.get? a=some u:=by
 induction o with
 | lst xs=>obtain ⟨_,_,_,_,e⟩:=x;exact ⟨_,e⟩
 | tup xs=>obtain ⟨_,_,_,o,e,_⟩:=x;exact ⟨_,e⟩
 | dK kvs=>obtain ⟨_,_,vs,_,d⟩:=x;obtain ⟨o,e,_⟩:=Wp.mp d;exact ⟨_,e⟩
 | dT kvs=>obtain ⟨_,_,_,_,o,_,_,e,_⟩:=x;exact ⟨_,e⟩
 | set S n=>obtain ⟨o,_,_,_,e,_⟩:=x;exact ⟨_,e⟩
 | ins C dx fs=>obtain ⟨_,_,_,e,_⟩:=x;exact ⟨_,e⟩
 | own y=>exact x
 | xd fs=>obtain ⟨_,⟨o,_,_,e,_⟩,_⟩:=x;exact ⟨_,e⟩
 | met f y=>exact ⟨_,x⟩
 | rng lo hi=>obtain ⟨_,_,_,e⟩:=x;exact ⟨_,e⟩
 | frz o u _=>exact ⟨_,x.1⟩
 | tbl ps=>exact ⟨_,x⟩
 | ext φ=>exact x.2.1
theorem HOk.no {P:Program}{w:World}{H:Hp}{h:Heap}(x:HOk P w H h){a:Addr}(e:h.get? a=none):H a=none:=by
 cases q:H a with
 | none=>rfl
 | some u =>
  have z:=(x a u q).there
  rw [e] at z
  obtain ⟨o,z⟩:=z
  cases z
theorem Zgy {C:Addr}{a:Expr}(hc:X.calm=true)(hC:Ju X.K C)(G:X.mg x=some (.ref C))(ha:QA X [a] t)(hx:Zdc X E)(hex:X.ex=[])(hg:Gl X x:=by rfl)(hdb:(x == ("__debug__" : Str))=false:=by decide)
  (he:starEach [a] X.env=[(false,eval a X.env)]:=by rfl):QS X (.Raise (some (.Call (.Name x np) [a] [] cpos)) none pos) (fun D σ H=>t σ H fun vs H1=>vs.length<=sizeLine/\E (.ref C) none H1):=by
 refine ⟨fun pins s σ H D I h=>?_⟩
 obtain ⟨bm,N,nm,q,bs,hdct,sn,sub,ab,col,dd,k0,k1,k2,k3,k5,mN,cni,cl⟩:=Zoa I.kIn hC
 obtain ⟨cC,cN,cT⟩:=cl _ I.kIn
 refine wpAny_Raise_call_subU (C:=C) (nm:=nm) (q:=q) (N:=N) (bs:=bs) (bm:=bm) (hdct:=hdct) (sn:=sn) (sub:=sub) (ab:=ab) (col:=col) (dd:=dd) (k0:=k0) (k1:=k1) (k2:=k2) (k3:=k3) (k5:=k5)
  Sz (by decide) Sz (mN:=mN) (cT.hasType Sz.hasBase) (I.ok.hd hc) (by rw [he];rfl) cni (Ez I hg G ⟨rfl,?_⟩ hdb)
 rw [he]
 have ar:=ha.run cpos pins s σ H _ I h
 rw [he] at ar
 refine Calls.evalArgs_plain (Py ar (fun us s2 h2=>?_) fun _ _ y=>y)
 obtain ⟨vs,H1,I1,r1,z,q1⟩:=h2
 obtain ⟨cC',cN',cT'⟩:=cl _ I1.kIn
 refine ⟨rfl,by rw [<- r1.length];exact z,cC',cN',cT',fun h' a' hm=>?_⟩
 obtain ⟨t',e1,_,_⟩:=hm.there
 have I2:Inv X pins σ H1 { s2 with heap:=h' }:=I1.kept (t':=s2.toks) hm.keeps
 exact hx pins σ H1 _ a' (.ref C) none I2 ⟨_,_,e1,rfl,rfl,rfl,rfl⟩ (I1.old hex hm.new) (I1.hok.no hm.new) q1
end
noncomputable def B9 (a:Addr)(cls:Value)(od:Option Addr):HO:=.ext fun h=>∃ o vs,h.get? a=some o/\o.cls=cls/\o.dict=od/\o.data=.fields vs
theorem Ol {P:Program}{w:World}{H:Hp}{h:Heap}{a T:Addr}{cls:Value}{od:Option Addr}(x:Dw h a T cls od):ObjOk P w H h a (B9 a cls od):=by
 obtain ⟨oe,vs,oT,ts,a1,a2,a3,a4,a5,a6,a7,a8,a9⟩:=x
 refine ⟨⟨oe,vs,a1,a2,a3,a4⟩,⟨oe,a1⟩,fun h1 h2 q k=>?_⟩
 obtain ⟨o,vs,q1,q2⟩:=q
 exact ⟨o,vs,k o q1,q2⟩
theorem Un.land {fs xs:List Addr}{H H':Hp}{h h1 h2:Heap}{e:Addr}{o:HO}(u:Un fs [] H H' h h1)(m:Mvd fs xs h1 h2)(hx:∀ b∈xs,h.get? b=none)(he:h.get? e=none)(hn:H' e=none):Un fs [] H (upd H' e o) h h2:=by
 have low:∀ b ob,h.get? b=some ob->b ∉ xs:=fun b ob q z=>by rw [hx b z] at q;cases q
 have ne:∀ b ob,h.get? b=some ob->b≠e:=fun b ob q z=>by rw [z,he] at q;cases q
 have ne':∀ b ob,H' b=some ob->b≠e:=fun b ob q z=>by rw [z,hn] at q;cases q
 refine ⟨fun b ob q n hf _=>m.keep b ob (low b ob q) hf (u.keep b ob q n hf (by simp)),fun b ob q n hf _=>?_,fun b ob q n _=>?_,fun b ob q _=>?_,fun b ys q=>?_,fun b ob v q=>?_,fun b ps q=>?_⟩
 ·obtain ⟨sl,e1⟩:=u.slot b ob q n hf (by simp)
  obtain ⟨sl',e2⟩:=m.slot b _ (low b ob q) e1
  exact ⟨sl',e2⟩
 ·rw [Af (ne b ob q)];exact u.free b ob q n (by simp)
 ·obtain ⟨o',e1⟩:=u.there b ob q (by simp)
  obtain ⟨sl,e2⟩:=m.slot b o' (low b ob q) e1
  exact ⟨_,e2⟩
 ·have z:=u.tups b ys q
  rw [Af (ne' b _ z)];exact z
 ·have z:=u.frzs b ob v q
  rw [Af (ne' b _ z)];exact z
 ·obtain ⟨more,z⟩:=u.tbls b ps q
  exact ⟨more,by rw [Af (ne' b _ z)];exact z⟩
theorem HOk.land {P:Program}{w:World}{fs xs:List Addr}{H:Hp}{h1 h2:Heap}{e:Addr}{o:HO}(x:HOk P w H h1)(m:Mvd fs xs h1 h2)(hx:∀ b∈xs,H b=none)(hf:∀ b∈fs,H b=none)(hn:H e=none)(new:ObjOk P w (upd H e o) h2 e o):HOk P w (upd H e o) h2:=by
 intro b u q
 by_cases hb:b=e
 ·subst hb
  rw [Ad] at q
  cases q
  exact new
 ·rw [Af hb] at q
  have tr:∀ c v,H c=some v->c ∉ xs/\c ∉ fs:=fun c v q=>⟨(fun z=>by rw [hx c z] at q;cases q),(fun z=>by rw [hf c z] at q;cases q)⟩
  have ne':∀ b ob,H b=some ob->b≠e:=fun b ob q z=>by rw [z,hn] at q;cases q
  refine (x b u q).stay (fun c v hc z=>?_) (fun c z=>by rw [Af (ne' c _ z)];exact z) fun c ys z=>by rw [Af (ne' c _ z)];exact z
  rcases hc with r | r
  ·rw [r] at z ⊢
   exact m.keep b v (tr b u q).1 (tr b u q).2 z
  ·exact m.keep c v (tr c _ r).1 (tr c _ r).2 z
noncomputable abbrev TX:=St->Hp->VK->XK->Prop
noncomputable abbrev Gx:=Ends->(St->XK)->St->Hp->Prop
noncomputable def XP (X:Cx)(pins:List (Addr×Obj))(σ:St)(E:XK)(ev:Value)(s':Shared):Prop:=∃ H0 s0,Inv X pins σ H0 s0/\Bd X.prog X.w X.stack H0 s0 E ev s'
structure QX (X:Cx)(e:Expr)(t:TX):Prop where
 run:∀(pins:List (Addr×Obj))(s:Shared)(σ:St)(H:Hp)(Q:VK)(E:XK),Inv X pins σ H s->t σ H Q E->wpAny (model X.prog X.w) X.A (eval e X.env) (EP X pins σ Q) (XP X pins σ E) s
structure Iu (X:Cx)(sts:List Stmt)(t:Gx):Prop where
 run:∀(pins:List (Addr×Obj))(s:Shared)(σ:St)(H:Hp)(D:Ends)(E:St->XK),Inv X pins σ H s->t D E σ H->wpAny (model X.prog X.w) X.A (execs sts X.env) (SP X pins D) (fun ev s'=>∃ σ',XP X pins σ' (E σ') ev s') s
noncomputable abbrev Cx.to (X:Cx)(A:Around)(c:Bool)(XE:Value->Shared->Prop):Cx:={ X with A:=A,calm:=c,xe:=XE }
section
variable {X:Cx}{pins:List (Addr×Obj)}{σ:St}{H:Hp}{s:Shared}
theorem Inv.to (I:Inv X pins σ H s){A:Around}{c:Bool}{XE:Value->Shared->Prop}(hA:A.frames=X.A.frames)(hc:c=true->A.handled=none):Inv (X.to A c XE) pins σ H s :=
 ⟨⟨I.ok.mod,I.ok.kind,I.ok.glob,I.ok.blt,I.ok.above,I.ok.inj,I.ok.has,I.ok.cab,hc,hA.trans I.ok.frames,I.ok.stk,I.ok.exf,I.ok.bs,I.ok.bsz,I.ok.noex,I.ok.exfs,I.ok.funs,I.ok.frf⟩,I.os,I.bare,I.base,I.loc,I.cell,I.free,I.freeC,I.pin,I.hok,I.len⟩
theorem Inv.back {A:Around}{c:Bool}{XE:Value->Shared->Prop}(I:Inv (X.to A c XE) pins σ H s)(ok:X.Ok):Inv X pins σ H s :=
 ⟨ok,I.os,I.bare,I.base,I.loc,I.cell,I.free,I.freeC,I.pin,I.hok,I.len⟩
end
section
variable {X:Cx}{k:Nat}{x:Str}{ps:List Str}{sp:Sp}{p pos np cpos:Pos}{e:Expr}{es:List Expr}{t:TA}
theorem Zb5 (C:Es X.prog X.w X.K X.mg X.base k x ps sp)(hr:Room k X.A)(ha:∀ XE,QA (X.to X.A X.calm XE) (e::es) t)(hg:Gl X x:=by rfl)(hdb:(x == ("__debug__" : Str))=false:=by decide)
  (he:starEach (e::es) X.env=(false,eval e X.env)::starEach es X.env:=by rfl) (hpl:(backTo pos (starEach es X.env)).any (·.1)=false:=by rfl):QX X (.Call (.Name x p) (e::es) [] pos) (fun σ H Q E=>t σ H fun vs H1=>sp vs H1 Q E):=by
 obtain ⟨f,fd,F,hm,hk,hb⟩:=C.ex
 refine ⟨fun pins s σ H Q E I h=>?_⟩
 refine Sm (Ez I hg hm ?_ hdb)
 refine Th (h₀:=X.base) I.ok.mod.kin hk (Aj ((ha (XP X pins σ E)).run pos pins s σ H _ (I.to rfl I.ok.hd) h) fun us s1 zq=>?_) he hpl
 obtain ⟨vs,H1,I1,r,q⟩:=zq
 refine ⟨(I1.back I.ok).kIn,?_⟩
 have I1:=I1.back I.ok
 have hl:us.length=ps.length:=by rw [<- r.length];exact F.len _ _ _ _ q
 have hb':=hb s1 us I1.kIn (by simpa using hl)
 rw [Qs] at hb'
 refine Rv (Se (F.run X.A X.stack s1 H1 ⟨us,[]⟩ us vs Q E hr I1.env0 hb' r q) fun r s' hq=>?_)
 cases r with
 | error e=>exact ⟨H1,s1,I1,hq⟩
 | ok fl =>
  cases fl with
  | ret u=>exact I1.after hq
  | next=>exact Pt hq
  | brk=>exact Pt hq
  | cont=>exact Pt hq
theorem Zfd {t:TX}(he:QX X e t)(hs:swapsWith e none pos.line X.env=pure false:=by rfl):Iu X [.Expr e pos] (fun D E σ H=>t σ H (fun _ H1=>D.nx σ H1) (E σ)):=by
 refine ⟨fun pins s σ H D E I h=>?_⟩
 refine U2 (Py (wpAny_Expr_any (Q:=SP X pins D) (Aj (he.run pins s σ H _ (E σ) I h) fun v s1 ⟨x,H1,I1,r1,q1⟩=>⟨σ,H1,I1,q1⟩) I.quiet hs) (fun f s1 q=>?_) fun ev s1 q=>⟨σ,q⟩)
 cases f with
 | next=>exact Rc q
 | ret v=>exact q
 | brk=>exact q
 | cont=>exact q
theorem Zmu {i:Nat}{t:TX}{pos':Pos}(hN:X.N.Nodup)(hi:X.N[i]?=some x)(hx:Eu X.env.scope x)(he:QX X e t)(hs:swapsWith e (some (.Name x pos')) pos.line X.env=pure false:=by rfl)(hf:X.fn x=true\/X.env.scope.names.lookup x=some .local:=by first | exact .inl rfl | exact .inr rfl | assumption) :
  Iu X [.Assign [.Name x pos'] e pos] (fun D E σ H=>t σ H (fun v H1=>D.nx (σ.set i (some v)) H1) (E σ)):=by
 refine ⟨fun pins s σ H D E I h=>?_⟩
 refine U2 (Py (wpAny_Assign_Name (Q:=SP X pins D) (Aj (he.run pins s σ H _ (E σ) I h) fun v s1 ⟨y,H1,I1,r1,q1⟩=>Jv I1 hN hi hx r1 (fun s2 I2=>⟨_,H1,I2,q1⟩) hf) hs) (fun f s1 q=>?_) fun ev s1 q=>⟨σ,q⟩)
 cases f with
 | next=>exact Rc q
 | ret v=>exact q
 | brk=>exact q
 | cont=>exact q
end
structure C2 (K:O1)(C:Addr):Prop where
 ty:Ql K (.ref C)=some (.type "type")
 cl:(Qo K C).isSome=true
 bs:Pi K (.ref C) (.type "BaseException")=some true
theorem Nw {K:O1}{M:Model}{h:Heap}{C:Addr}(X:K.In h)(e:(Qo K C).isSome=true):Qf M h (isType (.ref C)) true:=by
 unfold Qo at e
 split at e
 ·rename_i c' d' cd' sl' ho
  intro A' Q' E' s' k q
  unfold isType loadHead
  exact O2 (Sc (k _ _ (X _ _ ho)) (O3 q))
 ·cases e
theorem Zgg {K:O1}{M:Model}{A:Around}{E:Value->Shared->Prop}{s:Shared}{Q:Bool->Shared->Prop}{e C C':Addr}{oe:Obj}(X:K.In s.heap)(c:C2 K C)(he:s.heap.get? e=some oe)(hcls:oe.cls=.ref C')(hs:Pi K (.ref C') (.ref C)=some true)(h:Q true s) :
  wpAny M A (excMatches (.ref e) (.ref C)) Q E s:=by
 have L1:Qf M s.heap (typeOf (.ref C)) (.type "type"):=V1 X c.ty
 have L2:Qf M s.heap (isType (.ref C)) true:=Nw X c.cl
 have L3:=Sk (M:=M) X c.bs
 have L4:Qf M s.heap (typeOf (.ref e)) (.ref C'):=by
  intro A' Q' E' s' k q
  unfold typeOf
  exact O2 (Sc (k _ _ he) (O3 (by rw [hcls];exact q)))
 have L5:=Sk (M:=M) X hs
 have f:=tc_notTuple
 unfold excMatches
 unfold isInstance isExcClass
 repeat (first | with_reducible refine L1.here ?_ | with_reducible refine L2.here ?_ | with_reducible refine L3.here ?_ | with_reducible refine L4.here ?_ | with_reducible refine L5.here ?_ | wp_step)
 exact h
section
variable {X:Cx}{pins:List (Addr×Obj)}{σ:St}{H:Hp}{s:Shared}
theorem Ft {M:Model}{A:Around}{E:Value->Shared->Prop}{i:Nat}{n:Str}{hpos:Pos}{Q:Unit->Shared->Prop}(I:Inv X pins σ H s)(hN:X.N.Nodup)(hi:X.N[i]?=some n)(hk:X.env.scope.names.lookup n=some .local)
  (h:∀ s',Inv X pins (σ.set i none) H s'->Q () s'):wpAny M A (do bindName X.env n .none;unbindBehindTheSuite X.env n hpos) Q E s:=by
 obtain ⟨m,hn,hl⟩:=id I.loc
 have hcls:(X.env.scope.kind == .class || (X.env.scope.kind == .module && X.env.locals != X.env.globals))=false:=by rw [I.ok.kind];rfl
 have cne:=I.cne
 obtain ⟨oL,_,_,hoL,_⟩:=id hn
 refine wpAny_nameGoes_keeps hk hn hcls fun h' v hn' hs=>?_
 have hok:HOk X.prog X.w H h':=fun b ob e=>by
  refine (I.hok b ob e).stay (fun c w' hc q=>(hs.2 c ?_).trans q) (fun _ q=>q) fun _ _ q=>q
  rintro rfl
  rcases hc with rfl | hc
  ·rw [I.free] at e;cases e
  ·rw [I.free] at hc;cases hc
 refine h _ ⟨I.ok,I.os,I.bare,⟨fun b o e n hb hx=>?_,fun b o e n hb hx=>?_,I.base.free,fun b o e hx=>?_,I.base.tups,I.base.frzs,I.base.tbls⟩,⟨_,hn',fun j y v' e1 e2 e3=>?_⟩,fun y c e=>?_,I.free,I.freeC,fun p hp=>?_,hok,by simpa using I.len⟩
 ·exact (hs.2 b (Pg (Pk (O8 e) I.ok.above))).trans (I.base.keep b o e n hb hx)
 ·obtain ⟨sl,e1⟩:=I.base.slot b o e n hb hx
  exact ⟨sl,(hs.2 b (Pg (Pk (O8 e) I.ok.above))).trans e1⟩
 ·obtain ⟨o',e1⟩:=I.base.there b o e hx
  exact ⟨o',(hs.2 b (Pg (Pk (O8 e) I.ok.above))).trans e1⟩
 ·by_cases hj:j=i
  ·subst hj
   have hiσ:j < σ.length:=by rw [I.len];exact (Ph.mp hi).1
   rw [Tc hiσ] at e2
   cases e2
  ·rw [Ut (Pc hj)] at e2
   obtain ⟨u',r',q⟩:=hl j y v' e1 e2 e3
   refine ⟨u',r',?_⟩
   rcases q with ⟨k,e⟩ | ⟨k,c,e,z⟩
   ·refine .inl ⟨k,?_⟩
    have:y≠n:=fun e=>hj (Za6 hN e1 (e ▸ hi))
    simp [this,e]
   ·exact .inr ⟨k,c,e,z.sameBut hs (cne y c e)⟩
 ·obtain ⟨w',z⟩:=I.cell y c e
  exact ⟨w',z.sameBut hs (cne y c e)⟩
 ·obtain ⟨e,n,ne,nf,d⟩:=I.pin p hp
  exact ⟨(hs.2 p.1 ne).trans e,n,ne,nf,d⟩
end
section
variable {X:Cx}{c n:Str}{np hpos pos:Pos}{body hbody:List Stmt}{b₀:Stmt}{tb:Gx}{th:TS}{i:Nat}{C:Addr}
noncomputable def Ends.gone (D:Ends)(i:Nat):Ends:={ nx:=fun σ H=>D.nx (σ.set i none) H,rt:=D.rt,bk:=fun σ H=>D.bk (σ.set i none) H,ct:=fun σ H=>D.ct (σ.set i none) H }
noncomputable def tTry (K:O1)(C:Addr)(i:Nat)(tb:Gx)(th:TS):TS:=fun D σ H=>tb D (fun σ1 cls od H2=>(∃ C',cls=.ref C'/\Pi K (.ref C') (.ref C)=some true)/\∀ a,H2 a=none->th (D.gone i) (σ1.set i (some (.ref a))) (upd H2 a (B9 a cls od))) σ H
theorem Zoh (hN:X.N.Nodup)(hi:X.N[i]?=some n)(hk:X.env.scope.names.lookup n=some .local)(hC:C2 X.K C)(G:X.mg c=some (.ref C))(hf:X.env.frame=some X.env.locals)(hst:X.stack=X.env::X.outer)(hb:Iu X body tb)(hh:∀ e XE,C3 (X.to (X.A.mark (some e)) false XE) (b₀::hbody) th)(hg:Gl X c:=by rfl)(hdb:(c == ("__debug__" : Str))=false:=by decide) :
  QS X (.Try body [.ExceptHandler (some (.Name c np)) (some n) (b₀::hbody) hpos] [] [] pos) (tTry X.K C i tb th):=by
 refine ⟨fun pins s σ H D I h=>?_⟩
 refine Wg (Py (hb.run pins s σ H D _ I h) (fun f s1 q=>?_) fun ev s1 q=>?_)
 ·cases f with
  | next=>exact Rc q
  | ret v=>exact q
  | brk=>exact q
  | cont=>exact q
 ·obtain ⟨σ1,H0,s0,I0,e,T,cls,od,H',rfl,h1,h2,h3,h4,h5,h6,h7,h8,h9,⟨C',rfl,hsub⟩,h10⟩:=q
  have J:Inv X pins σ1 H' s1:=I0.call' (ch:=[]) h1 h3 h4 h2 (fun b z=>absurd z (by simp))
  have hfr:X.A.frames=some (X.env::X.outer):=by rw [<- hst];exact J.ok.frames
  have hstk:=J.stack
  rw [hst] at hstk
  refine Nd (base:=X.base) hfr hstk hf h9 fun h' T' hT' y m=>E9 (fs:=A6 (X.env::X.outer)) y fun h'' y' m'=>?_
  have M1:Mvd (A6 X.stack) [e,T,T'] s1.heap h'':=by rw [hst];exact (m.mono (by simp)).trans (m'.mono (by simp))
  have fT':s0.heap.get? T'=none:=by
   cases q:s0.heap.get? T' with
   | none=>rfl
   | some o =>
    obtain ⟨o',z⟩:=h3.there T' o q (by simp)
    exact absurd (O8 z) (T6.mpr hT')
  have hT'n:H' T'=none:=J.hok.fresh hT'
  have fx:∀ b∈[e,T,T'],s0.heap.get? b=none/\H' b=none:=by
   intro b hb
   simp only [Pb,P5,or_false] at hb
   rcases hb with rfl | rfl | rfl
   ·exact ⟨h5,h7⟩
   ·exact ⟨h6,h8⟩
   ·exact ⟨fT',hT'n⟩
  have land:∀{h3':Heap},Mvd (A6 X.stack) [e,T,T'] s1.heap h3'->Dw h3' e T' (.ref C') od->Inv X pins σ1 (upd H' e (B9 e (.ref C') od)) { s1 with heap:=h3' }:=fun {h3'} mm ll =>
   I0.call' (s':={ s1 with heap:=h3' }) (ch:=[]) h1 (h3.land mm (fun b hb=>(fx b hb).1) h5 h7) (h4.land mm (fun b hb=>(fx b hb).2) (fun b hb=>J.stkFree b hb) h7 (Ol ll)) h2 (fun b z=>absurd z (by simp))
  have I1:=land M1 y'
  refine Ux (Uq ?_) (by intro q;cases q)
  have I1':Inv (X.to (X.A.mark (some (.ref e))) false (notedBy (model X.prog X.w) (X.A.mark (some (.ref e))) X.env fun x s₁=>True)) pins σ1 (upd H' e (B9 e (.ref C') od)) { s1 with heap:=h'' }:=I1.to rfl (by simp)
  refine Ez I1' hg G ?_ hdb
  obtain ⟨oe,vs,oT,ts,a1,a2,a3,a4,a5,a6,a7,a8,a9⟩:=id y'
  refine Zgg I1.kIn hC a1 a2 hsub ?_
  refine codeAny_handlers_suite_as (E9 (fs:=A6 X.stack) y' fun h4' y4 m4=>?_)
  have I2:=land (M1.trans (m4.mono (by simp))) y4
  refine Jv (v:=.ref e) I2 hN hi (.inl hk) rfl (fun s3 I3=>?_) (.inr hk)
  refine Py ((hh (.ref e) _).run pins s3 _ _ (D.gone i) (I3.to rfl (by simp)) (h10 e h7)) (fun f s4 q=>?_) fun ev s4 q=>q
  cases f with
  | next =>
   obtain ⟨σ',H4,I4,q⟩:=q
   exact Ft (I4.back I.ok) hN hi hk fun s5 I5=>⟨_,H4,I5,q⟩
  | ret v =>
   obtain ⟨u,σ',H4,I4,r,q⟩:=q
   exact Ft (I4.back I.ok) hN hi hk fun s5 I5=>⟨u,_,H4,I5,r,q⟩
  | brk =>
   obtain ⟨σ',H4,I4,q⟩:=q
   exact Ft (I4.back I.ok) hN hi hk fun s5 I5=>⟨_,H4,I5,q⟩
  | cont =>
   obtain ⟨σ',H4,I4,q⟩:=q
   exact Ft (I4.back I.ok) hN hi hk fun s5 I5=>⟨_,H4,I5,q⟩
theorem Zr9 (hN:X.N.Nodup)(hi:X.N[i]?=some n)(hk:X.env.scope.names.lookup n=some .local)(hC:C2 X.K C)(G:X.mg c=some (.ref C))(hf:X.env.frame=some X.env.locals)(hst:X.stack=X.env::X.outer)(hb:Iu X body tb)(hh:∀ A XE,C3 (X.to A false XE) (b₀::hbody) th)(hg:Gl X c:=by rfl)(hdb:(c == ("__debug__" : Str))=false:=by decide) :
  QS X (.Try body [.ExceptHandler (some (.Name c np)) (some n) (b₀::hbody) hpos] [] [] pos) (tTry X.K C i tb th):=Zoh hN hi hk hC G hf hst hb (fun e XE=>hh _ XE) hg hdb
end
theorem Ev (self:Value):refuseLoop self "__setattr__" VE=pure ():=by kernel_rfl
noncomputable def Gj:List Value->Bool
 | .ref _::r=>Gj r
 | l=>l == VE
theorem Zcg (self:Value):∀{l:List Value},Gj l=true->refuseLoop self "__setattr__" l=pure ()
 | [],e=>by cases e
 | .ref c::r,e=>by rw [refuseLoop_ref];exact Zcg self e
 | .none::r,e=>by rw [beq_iff_eq.mp (show (_ == _)=true from e)];exact Ev self
 | .ellipsis::r,e=>by rw [beq_iff_eq.mp (show (_ == _)=true from e)];exact Ev self
 | .notImplemented::r,e=>by rw [beq_iff_eq.mp (show (_ == _)=true from e)];exact Ev self
 | .bool _::r,e=>by rw [beq_iff_eq.mp (show (_ == _)=true from e)];exact Ev self
 | .int _ _::r,e=>by rw [beq_iff_eq.mp (show (_ == _)=true from e)];exact Ev self
 | .float _ _::r,e=>by rw [beq_iff_eq.mp (show (_ == _)=true from e)];exact Ev self
 | .str _ _::r,e=>by rw [beq_iff_eq.mp (show (_ == _)=true from e)];exact Ev self
 | .bytes _ _::r,e=>by rw [beq_iff_eq.mp (show (_ == _)=true from e)];exact Ev self
 | .type _::r,e=>by rw [beq_iff_eq.mp (show (_ == _)=true from e)];exact Ev self
 | .builtin _::r,e=>by rw [beq_iff_eq.mp (show (_ == _)=true from e)];exact Ev self
theorem Mj:∀{l:List Value},Gj l=true->l.contains (.type "object")=true/\l.contains (.type "BaseException")=true:=by
 intro l
 induction l with
 | nil=>intro e;cases e
 | cons c r ih =>
  intro e
  cases c with
  | ref a=>obtain ⟨x,y⟩:=ih e;exact ⟨by rw [List.contains_cons,x,Bool.or_true],by rw [List.contains_cons,y,Bool.or_true]⟩
  | _=>rw [beq_iff_eq.mp (show (_ == _)=true from e)];decide
structure ExC (K:O1)(C:Addr):Prop where
 ov:((Qo K C).any fun cd=>Gj cd.mro)=true
 hd:R6 K C=true
 ga:Pf K (.ref C) "__getattribute__" = some (some (.builtin "BaseException.__getattribute__"))
 gt:Pf K (.ref C) "__getattr__" = some none
 sa:Pf K (.ref C) "__setattr__" = some (some (.builtin "object.__setattr__"))
 dc:Ql K (.ref C)=some (.type "type")
section
open PySem.W PySem.Builtin PySem.Builtin.ObjectAttr
variable {prog:Program}{w:World}{A:Around}{E:Value->Shared->Prop}{s:Shared}{K:Frag}{x C:Addr}{ox:Obj}{od:Option Obj}{name:Str}{R:Result->Shared->Prop}
theorem Zh0 {tk:Tok}{v:Value}(X:K.In s.heap)(I:Rq s.heap x ox C od)(c:ExC K C)(ht:takerIn K C name=some none)
  (h:∀ b,wpAny (model prog w) A.in1 (storeInOwnDict (.ref x) (.ref C) (.str name tk) name v b)
   (fun fin s'=>match fin with | .done f=>R (.ok f) s' | .again c'=>c'.quiet=true/\codeAny (model prog w) A c' R s') (fun e s'=>R (.error e) s') s) :
  codeAny (model prog w) A (.call (.builtin "object.__setattr__") ⟨[.ref x,.str name tk,v],[]⟩) R s:=by
 have SF:=PySem.F.store_object
 obtain ⟨cd,hc,ho⟩:=any_some c.ov
 have ne:cd.mro.isEmpty=false:=by cases q:cd.mro with | nil=>rw [q] at ho;cases ho | cons _ _=>rfl
 have sub:Looks (model prog w) s.heap (isInstance (.ref x) (.type "object")) true:=I.type.andThen (looks_mroIn X (by unfold mroIn;rw [hc,R8,if_neg (by rw [ne];decide),(Mj ho).1]))
 refine V2 SF.slot.plain SF.entry (@check_slot (model prog w) _ _ s "object.__setattr__" "object" "__setattr__" (.ref x) [.str name tk,v] [] _ SF.kind SF.split sub (SF.args (.ref x) (.str name tk) v) ?_)
 obtain ⟨attr,ha,hr⟩:=Option.bind_eq_some_iff.mp ht
 have hm:Looks (model prog w) s.heap (mroOf (.ref C)) cd.mro:=(looks_clsIn X hc).andThen .now
 have L3:Looks (model prog w) s.heap (storeTaker? attr) none:=by
  cases attr with
  | none=>exact .now
  | some a =>
   obtain ⟨b,hb,hz⟩:=R3.mp hr
   refine (looks_takesIn X hb).andThen ?_
   cases b
   ·exact .now
   ·cases hz
 rw [osa_eq,refuse_eq]
 refine O2 (O2 (I.type.here (O2 (hm.here ?_))))
 rw [Zcg _ ho]
 refine O3 (O2 (I.type.here (O2 ((looks_findIn X ha).here (O2 (L3.here ?_))))))
 exact h _
theorem Zj9 {expr:Bool}{v:Value}{Q:Value->Shared->Prop}(X:K.In s.heap)(I:Rq s.heap x ox C od)(c:ExC K C)(hf:findObj K C od name=some (.value v))(hh:handedIn v=true)(h:Q v { s with toks:=s.toks+1 }) :
  wpAny (model prog w) A (getAttr (.ref x) name expr) Q E s:=by
 obtain ⟨hp,g,d,t,os⟩:=s
 have L0:=I.type (M:=model prog w)
 have L1:=looks_findIn (M:=model prog w) X c.ga
 have L2:=looks_findIn (M:=model prog w) X c.gt
 have L3:=looks_find (M:=model prog w) X I hf
 have L4:Looks (model prog w) hp (isInstance (.ref x) (.type "BaseException")) true:=by
  obtain ⟨cd,hc,ho⟩:=any_some c.ov
  have ne:cd.mro.isEmpty=false:=by cases q:cd.mro with | nil=>rw [q] at ho;cases ho | cons _ _=>rfl
  exact I.type.andThen (looks_mroIn X (by unfold mroIn;rw [hc,R8,if_neg (by rw [ne];decide),(Mj ho).2]))
 have f3:=Ul.ga.bind (.ref x)
 have hx0:(expr && onTheHeap (Value.builtin "BaseException.__getattribute__"))=false:=by cases expr <;> rfl
 have hx2:(Value.builtin "BaseException.__getattribute__" == Value.builtin "object.__getattribute__")=false:=by decide +kernel
 have hx1:(onTheHeap (Value.ref C) && Value.builtin "BaseException.__getattribute__" == Value.builtin "object.__getattribute__")=false:=by rw [hx2];rfl
 unfold getAttr getAttrBy
 refine O2 (wpAny_mkText (P9 (O2 (L0.at (O2 (L1.at ?_))))))
 dsimp only
 rw [hx1]
 simp only [Q6,if_false]
 unfold getAttrByItsOwn hookBefore callGetattribute
 rw [if_pos (show onTheHeap (Value.ref C)=true from rfl),hx0]
 refine O2 (L2.at ?_)
 simp only [Q6,if_false]
 unfold boundAndCalled
 rw [f3]
 have hk:builtinKind "BaseException.__getattribute__" = some .slot:=by decide +kernel
 have hsplit:splitId "BaseException.__getattribute__" = some ("BaseException", "__getattribute__"):=by decide +kernel
 refine O2 (Rg (P9 (O2 (O3 (Rv (V2 Ul.ga.plain PySem.F.entry_bexc_ga (@check_slot (model prog w) _ _ ⟨hp,g,d,t+1,os⟩ "BaseException.__getattribute__" "BaseException" "__getattribute__" (.ref x) [.str name t] [] _ hk hsplit L4 (PySem.F.args_bexc_ga (.ref x) (.str name t)) ?_)))))))
 show wpAny _ _ (Builtin.«object.__getattribute__» ⟨[.ref x,.str name t],[]⟩) _ _ _
 refine O2 (O3 (O2 (O3 (O2 (L0.at (O2 (L3.at ?_)))))))
 refine O3 ?_
 show wpAny _ _ (handedOut v) _ _ _
 rw [handedOut_of hh];exact O3 h
end
noncomputable def D0 (a:Addr)(cls:Value)(od:Option Addr):HO:=.ext fun h=>Fh h a cls od
theorem Zgm {P:Program}{w:World}{H:Hp}{h:Heap}{a:Addr}{cls:Value}{od:Option Addr}(x:Fh h a cls od):ObjOk P w H h a (D0 a cls od):=by
 obtain ⟨oe,vs,a1,a2⟩:=id x
 refine ⟨x,⟨oe,a1⟩,fun h1 h2 q k=>?_⟩
 obtain ⟨o,vs,q1,q2⟩:=q
 exact ⟨o,vs,k o q1,q2⟩
theorem Zah {P:Program}{w:World}{H:Hp}{h:Heap}{a:Addr}{cls:Value}{od:Option Addr}(x:ObjOk P w H h a (D0 a cls od)):Fh h a cls od:=x.1
theorem Zfp {P:Program}{w:World}{H:Hp}{h:Heap}{a:Addr}{cls:Value}{od:Option Addr}(x:ObjOk P w H h a (B9 a cls od)):∃ o vs,h.get? a=some o/\o.cls=cls/\o.dict=od/\o.data=.fields vs:=x.1
noncomputable def del (H:Hp)(a:Addr):Hp:=fun b=>if b=a then none else H b
theorem Zdv {H:Hp}{a:Addr}:del H a a=none:=by unfold del;rw [if_pos rfl]
theorem Ln {H:Hp}{a b:Addr}(h:b≠a):del H a b=H b:=by unfold del;rw [if_neg h]
section
variable {X:Cx}{pins:List (Addr×Obj)}{σ:St}{H:Hp}{s:Shared}
theorem Inv.del {a:Addr}{φ:Heap->Prop}(I:Inv X pins σ H s)(h0:X.s₀.heap.get? a=none)(e:H a=some (.ext φ)):Inv X pins σ (L2.del H a) s:=by
 have fr:∀ b,H b=none->L2.del H a b=none:=fun b q=>by
  unfold L2.del;split
  ·rfl
  ·exact q
 have st:∀ b o,H b=some o->(∀ φ,o≠.ext φ)->L2.del H a b=some o:=fun b o q n=>by
  rw [Ln fun z=>by rw [z,e] at q;cases q;exact n φ rfl]
  exact q
 refine ⟨I.ok,I.os,I.bare,⟨I.base.keep,I.base.slot,fun b o q n hx=>fr b (I.base.free b o q n hx),I.base.there,fun b xs q=>st b _ (I.base.tups b xs q) (by intro φ z;cases z),fun b o u q=>st b _ (I.base.frzs b o u q) (by intro φ z;cases z),fun b ps q=>?_⟩,I.loc,I.cell,fr _ I.free,fun x c q=>fr _ (I.freeC x c q),fun p hp=>?_,fun b o q=>?_,I.len⟩
 ·obtain ⟨more,z⟩:=I.base.tbls b ps q
  exact ⟨more,st b _ z (by intro φ z;cases z)⟩
 ·obtain ⟨q1,q2,q3⟩:=I.pin p hp
  exact ⟨q1,fr _ q2,q3⟩
 ·have hb:b≠a:=fun z=>by rw [z,Zdv] at q;cases q
  rw [Ln hb] at q
  exact (I.hok b o q).stay (fun _ _ _ z=>z) (fun c z=>st c _ z (by intro φ z;cases z)) fun c xs z=>st c _ z (by intro φ z;cases z)
end
section
variable {X:Cx}{pins:List (Addr×Obj)}{σ:St}{H:Hp}{s:Shared}{a C:Addr}{f:Str}{A:Around}{E:Value->Shared->Prop}
open PySem.W PySem.Builtin PySem.Builtin.ObjectAttr
theorem Zh7 {y:V}{u:Value}{Q:Unit->Shared->Prop}(I:Inv X pins σ H s)(e:H a=some (D0 a (.ref C) none))(c:ExC X.K C)(n:NoAttr X.K C f)(ry:RelV y u)
  (h:∀ d s',H d=none->d≠a->Inv X pins σ (upd (upd H d (.xd [(f,y)])) a (D0 a (.ref C) (some d))) s'->Q () s'):wpAny (model X.prog X.w) A (setAttr (.ref a) f u) Q E s:=by
 obtain ⟨oe,vs,a1,a2,a3,a4,a5⟩:=Zah (I.hok a _ e)
 have J:Rq s.heap a oe C none:=⟨a1,a2,by unfold notCls;rw [a4],by rw [a3];trivial⟩
 refine PySem.W.set_plain I.kIn J c.sa (Zh0 (s:={ s with toks:=s.toks+1 }) I.kIn J c n.taker fun b=>?_)
 obtain ⟨cd,hc,hd'⟩:=PySem.W.any_some c.hd
 obtain ⟨oc,odi,oda,osl⟩:=oe
 dsimp only at a2 a3 a4
 subst a2 a3 a4
 refine O2 (O3 (O2 (O2 (Sc a1 (O2 (Qf.here (s:={ s with toks:=s.toks+1 }) (PySem.W.looks_clsIn I.kIn hc) ?_))))))
 rw [hd']
 show wpAny _ _ (alloc { cls:=Value.type "dict",data:=Data.dict #[] } >>= fun d=>update a (fun o=>{ o with dict:=some d }) >>= fun _=>dictMade (.ref C) a d) _ _ _
 have sz:a < s.heap.objs.size:=O8 a1
 have ne:s.heap.objs.size≠a:=Qb sz
 generalize hoD:({ cls:=Value.type "dict",data:=Data.dict #[] }:Obj)=oD
 have fD:oD.isFreed=false:=by rw [<- hoD];rfl
 refine O2 (wpAny_alloc ?_)
 have b1:(s.heap.push oD).get? a=some { cls:=Value.ref C,data:=Data.fields vs,slots:=osl }:=O6 _ a1
 refine O2 (wpAny_update b1 ?_)
 refine O3 ?_
 dsimp only
 have b2:((s.heap.push oD).update a fun o=>{ o with dict:=some s.heap.objs.size }).get? a=some { cls:=Value.ref C,dict:=some s.heap.objs.size,data:=Data.fields vs,slots:=osl }:=Rk _ b1 rfl
 have b3:((s.heap.push oD).update a fun o=>{ o with dict:=some s.heap.objs.size }).get? s.heap.objs.size=some oD:=(Qh _ _ (Pc ne)).trans (Pe _ fD)
 have b4:∀ b o,b≠a->s.heap.get? b=some o->((s.heap.push oD).update a fun o=>{ o with dict:=some s.heap.objs.size }).get? b=some o:=fun b o hb q=>(Qh _ _ (Pc hb)).trans (O6 _ q)
 generalize ((s.heap.push oD).update a fun o=>{ o with dict:=some s.heap.objs.size })=h1 at b2 b3 b4 ⊢
 have n0:h1.Ns s.heap.objs.size (fun _=>none):=⟨oD,#[],_,b3,by rw [<- hoD],(fun e he=>absurd he (by simp)),fun _=>rfl⟩
 have n1:h1.Ns1 s.heap.objs.size (fun _=>none):=Heap.Ns1.of_empty n0
 unfold storeInDict
 refine O2 (O3 (O2 ?_))
 refine wpAny_nsSet1 (s:=⟨h1,s.gens,s.drawn,s.toks+1,s.os⟩) n1 fun h2 hn2 hs2=>?_
 obtain ⟨oD2,esD,epD,hoD2,hdD,hcD⟩:=hn2.count (Tz.cons (ns:=[]) f u fun y hy=>absurd rfl hy)
 refine O2 (wpAny_lookBehind hoD2 (by rw [hdD];exact pastItsLine_dict (Px hcD (by rw [Ps];decide))) ?_)
 refine O3 (h s.heap.objs.size _ (I.hok.fresh (O4 _)) ne ?_)
 have fD2:oD2.isFreed=false:=by
  obtain ⟨c0,d0,t0,s0⟩:=oD2
  dsimp only at hdD
  subst hdD
  rfl
 have k1:=Pe s.heap fD2
 have n2:(s.heap.push oD2).Ns1 s.heap.objs.size (fun x=>if x=f then some u else none):=by
  refine hn2.at fun o q=>?_
  rw [hoD2] at q
  cases q
  exact k1
 have I1:=I.laid (a:=s.heap.objs.size) (o:=.xd [(f,y)]) (h':=s.heap.push oD2) (t':=s.toks) (fun b u q=>O6 _ q) (O4 _) ⟨_,n2,fun g=>by
  by_cases q:g=f
  ·rw [if_pos q,q,List.lookup_cons_self];exact ry
  ·rw [if_neg q]
   have:(g == f)=false:=by simpa using q
   rw [Rb,this]
   exact True.intro⟩
 have ne':upd H s.heap.objs.size (.xd [(f,y)]) a=some (D0 a (.ref C) none):=by rw [Af (Pc ne)];exact e
 refine I1.write (x:=a) (e:=a) (h':=h2) (t':=s.toks+1+1) (by rw [ne'];exact True.intro) (.inl rfl) (fun b w hb q=>?_) ⟨_,(hs2.2 a (Pc ne)).trans b2⟩ (Zgm ⟨_,vs,(hs2.2 a (Pc ne)).trans b2,rfl,rfl,rfl,a5⟩)
 by_cases hb2:b=s.heap.objs.size
 ·rw [hb2] at q ⊢
  rw [k1] at q
  rw [<- q]
  exact hoD2
 ·have q':s.heap.get? b=some w:=by
   rw [Heap.get?_push_ne _ _ _ hb2] at q
   exact q
  exact (hs2.2 b hb2).trans (b4 b w hb q')
theorem Zsg {expr:Bool}{d:Addr}{fs:List (Str×V)}{v:V}{Q:Value->Shared->Prop}(I:Inv X pins σ H s)(e:H a=some (B9 a (.ref C) (some d)))(ed:H d=some (.xd fs))(c:ExC X.K C)(n:NoAttr X.K C f)(l:fs.lookup f=some v)
  (h:∀ u s',Inv X pins σ H s'->RelV v u->Q u s'):wpAny (model X.prog X.w) A (getAttr (.ref a) f expr) Q E s:=by
 obtain ⟨oe,vs,a1,a2,a3,a4⟩:=Zfp (I.hok a _ e)
 obtain ⟨mA,nA,r⟩:=I.hok d _ ed
 obtain ⟨od,hod,hl⟩:=Zbh nA
 obtain ⟨u,hu,ru⟩:=RelO.some_of (v:=v) (o:=mA f) (by rw [<- l];exact r f)
 have J:Rq s.heap a oe C (some od):=⟨a1,a2,by unfold notCls;rw [a4],by rw [a3];exact hod⟩
 exact Zj9 I.kIn J c (PySem.W.findObj_own c.hd n rfl (by rw [hl,hu])) (Zct ru) (h u _ (I.tok _) ru)
end
section
variable {X:Cx}{o e value:Expr}{f:Str}{pos pos':Pos}{ta tv:TE}
noncomputable def Zjs (K:O1)(ta tv:TE)(f:Str):TS:=fun D σ H=>tv σ H fun y H1=>ta σ H1 fun x H2=>∃ a C,x=.ref a/\H2 a=some (D0 a (.ref C) none)/\ExC K C/\NoAttr K C f/\∀ d,H2 d=none->d≠a->D.nx σ (upd (upd H2 d (.xd [(f,y)])) a (D0 a (.ref C) (some d)))
theorem Zmr (ha:QE X o ta)(hv:QE X value tv)(hs:swapsWith value (some (.Attribute o f pos')) pos.line X.env=pure false:=by rfl):QS X (.Assign [.Attribute o f pos'] value pos) (Zjs X.K ta tv f):=by
 refine ⟨fun pins s σ H D I h=>?_⟩
 refine Wv (Aj (hv.run pins s σ H _ I h) fun u s1 zq=>?_) hs
 obtain ⟨y,H1,I1,ry,q⟩:=zq
 refine Aj (ha.run pins s1 σ H1 _ I1 q) fun ov s2 zq=>?_
 obtain ⟨x,H2,I2,rx,a,C,ex,ea,c,n,q2⟩:=zq
 subst ex
 obtain rfl:ov=Value.ref a:=rx
 exact Zh7 I2 ea c n ry fun d s3 hd hda I3=>⟨σ,_,I3,q2 d hd hda⟩
noncomputable def Zdm (K:O1)(ta:TE)(f:Str):TE:=fun σ H Q=>ta σ H fun x H1=>∃ a C d fs v,x=.ref a/\H1 a=some (B9 a (.ref C) (some d))/\H1 d=some (.xd fs)/\ExC K C/\NoAttr K C f/\fs.lookup f=some v/\Q v H1
theorem Znb (he:QE X e ta)(hb:attributeBase e f X.env (eval e X.env)=eval e X.env:=by rfl):QE X (.Attribute e f pos) (Zdm X.K ta f):=by
 refine ⟨fun pins s σ H Q I h=>?_⟩
 refine Zee hb (Aj (he.run pins s σ H _ I h) fun u s1 zq=>?_)
 obtain ⟨x,H1,I1,rx,a,C,d,fs,v,ex,ea,ed,c,n,l,q⟩:=zq
 subst ex
 obtain rfl:u=Value.ref a:=rx
 exact Zsg I1 ea ed c n l fun u' s2 I2 ru=>⟨v,H1,I2,ru,q⟩
end
section
open PySem.W
end
structure Zb3 (K:O1)(C:Addr):Prop where
 ex:∃ bm dd nm bs ns qn hd sn sub ab col k0 k1 k2 k3 k5,K.lookup C=some (excClassObj nm qn C ns bs bm hd sn sub ab col dd k0 k1 k2 k3 k5 "ValueError.__new__")/\Rr K VE bm=true
theorem Zie {K:O1}{C:Addr}(q:Zb3 K C) :
  ∃ bm N nm q bs hdct sn sub ab col dd k0 k1 k2 k3 k5,∀ h:Heap,K.In h->h.get? C=some (excClassObj nm q C N bs bm hdct sn sub ab col dd k0 k1 k2 k3 k5 "ValueError.__new__")/\OwnTail h VE bm:=by
 obtain ⟨bm,dd,nm,bs,ns,qn,hd,sn,sub,ab,col,k0,k1,k2,k3,k5,ho,ht⟩:=q.ex
 exact ⟨bm,ns,nm,qn,bs,hd,sn,sub,ab,col,dd,k0,k1,k2,k3,k5,fun h kin=>⟨kin _ _ ho,PySem.W.tail_of_in kin ht⟩⟩
section
variable {prog:Program}{w:World}{A:Around}{E:Value->Shared->Prop}{h:Heap}{g:Array GenState}{d:Drawn}{t:Nat}{os:OsState}
variable {nm q:Str}{C N:Addr}{bs bm bmB:List Value}{hdct:Bool}{sn:List Str}{sub:List Value}{ab:Bool}{col:Option Bool}{dd:Option Addr}{k0 k1 k2 k3 k5:Option Value}{B Bn newId nid initId inN:String}{bmN:List Value}
theorem Zn7 {K:O1}(Fn:ExcBaseFacts Bn newId inN bmN)(hBn:bmB.contains (.type Bn)=true)(F:ExcBaseFacts B nid initId bmB)(T:OwnTail h bmB bm){rest:List Value}{fI:Addr}{Q:Fin->Shared->Prop}(X:K.In h)
  (hC:h.get? C=some (excClassObj nm q C N bs bm hdct sn sub ab col dd k0 k1 k2 k3 k5 newId)) (hi:Pf K (.ref C) "__init__" = some (some (.ref fI))) (hf:Ql K (.ref fI)=some (.type "function"))
  (hq:∀ h' e,Heap.MadeExcOf h h' e (.ref C) rest ->
   wpAny (model prog w) A (call (.ref fI) (.ref e::rest)) (fun r s'=>r=.none/\Q (.done (.ret (.ref e))) s') E ⟨h',g,d,t,os⟩) (hrest:rest.length<=sizeLine:=by size_fits) :
  wpAny (model prog w) A (Builtin.«type.__call__» ⟨.ref C::rest,[]⟩) Q E ⟨h,g,d,t,os⟩:=by
 repeat (first | with_reducible refine Wc hC ?_ | with_reducible refine wpAny_madeBy_exc hC ?_ | wp_step)
 refine codeAny_call_builtin_code (Code.quiet_builtin _ Fn.quiet) (wpAny_check_new_subU Fn hBn T hC ?_)
 refine codeAny_exc_new_subU Fn hBn F T hC ?_ hrest
 show wpAny _ _ _ _ _ _
 have hC₁:=O6 { cls:=.ref C,data:=.fields #[.ref h.objs.size,.none,.none,.none,.bool false,.none] }
  (O6 { cls:=.type "tuple",data:=.seq rest.toArray } hC)
 have hget:((h.push { cls:=.type "tuple",data:=.seq rest.toArray }).push
   { cls:=.ref C,data:=.fields #[.ref h.objs.size,.none,.none,.none,.bool false,.none] }).get? (h.objs.size+1)=some
   { cls:=.ref C,data:=.fields #[.ref h.objs.size,.none,.none,.none,.bool false,.none] }:=by heap_get
 have hcC:(Value.ref C::bm).contains (.ref C)=true:=by simp
 have X₁:K.In ((h.push { cls:=.type "tuple",data:=.seq rest.toArray }).push { cls:=.ref C,data:=.fields #[.ref h.objs.size,.none,.none,.none,.bool false,.none] }):=fun b o e=>O6 _ (O6 _ (X b o e))
 unfold isInstance
 repeat (first | with_reducible refine Wc hget ?_ | (with_reducible refine wpAny_isSubtype_exc hC₁ ?_;rw [hcC]) | wp_step)
 show wpAny _ _ (typeLookup (.ref C) _) _ _ _
 refine (PySem.W.looks_findIn X₁ hi).at ?_
 refine P9 (O2 ((PySem.W.bind_fn X₁ _ hf).at ?_))
 refine O2 (Py (hq _ (h.objs.size+1) ⟨fun b o hb=>O6 _ (O6 _ hb),R4 (T2 _),h.objs.size,hget,R4 (O4 _),?_⟩) (fun r s' hr=>?_) fun _ _ x=>x)
 ·exact O6 _ (Heap.get?_push_at rfl rfl)
 ·obtain ⟨rfl,hQ⟩:=hr
  wp_walk
  exact hQ
theorem Zpr {K:O1}(Fn:ExcBaseFacts Bn newId inN bmN)(hBn:bmB.contains (.type Bn)=true)(F:ExcBaseFacts B nid initId bmB)(T:OwnTail h bmB bm){rest:List Value}{fI:Addr}{Q:Value->Shared->Prop}(X:K.In h)
  (hC:h.get? C=some (excClassObj nm q C N bs bm hdct sn sub ab col dd k0 k1 k2 k3 k5 newId)) (hi:Pf K (.ref C) "__init__" = some (some (.ref fI))) (hf:Ql K (.ref fI)=some (.type "function"))
  (hq:∀ h' e,Heap.MadeExcOf h h' e (.ref C) rest ->
   wpAny (model prog w) (A.under (.builtin "type.__call__" ⟨.ref C::rest,[]⟩)) (call (.ref fI) (.ref e::rest)) (fun r s'=>r=.none/\Q (.ref e) s') E ⟨h',g,d,t,os⟩) (hrest:rest.length<=sizeLine:=by size_fits) :
  wpAny (model prog w) A (call (.ref C) rest) Q E ⟨h,g,d,t,os⟩:=by
 have f1:=tc_lookup
 have f2:=tc_bind (.ref C)
 have hT:(⟨h,g,d,t,os⟩:Shared).TypeIs (.ref C) "type" := ⟨_,hC,rfl⟩
 refine Rv (codeAny_of_tree ?_)
 show wpAny _ _ (callAny (.ref C) _) _ _ _
 repeat (any_goals (first | assumption | with_reducible refine Wc hC ?_ | wp_step))
 refine ⟨rfl,?_⟩
 refine codeAny_call_builtin_at (Code.quiet_builtin _ (by decide +kernel)) entry_typeCall (wpAny_check_type_call_sub hC (Zn7 (hrest:=hrest) Fn hBn F T X hC hi hf fun h' e hm=>?_))
 exact hq h' e hm
end
theorem Zsa {K:O1}{M:Model}{A:Around}{E:Value->Shared->Prop}{s:Shared}{env:Env}{x:Sem Value}{Q:Flow->Shared->Prop}{C:Addr}(hh:A.handled=none)(hb:Pi K (.ref C) (.type "BaseException")=some true)(hty:Ql K (.ref C)=some (.type "type"))
  (h:wpAny M A x (fun v s₁=>∃ e od,v=.ref e/\K.In s₁.heap/\Fh s₁.heap e (.ref C) od/\E (.ref e) s₁) E s):wpAny M A (raiseStmt env (some x) none) Q E s:=by
 unfold raiseStmt
 refine O2 (Py h (fun v s₁ h₁=>?_) fun _ _ x=>x)
 obtain ⟨e,od,rfl,X,⟨oe,vs,a1,a2,a3,a4,a5⟩,hE⟩:=h₁
 have L3:=Sk (M:=M) X hb
 have L4:Qf M s₁.heap (typeOf (.ref e)) (.ref C):=by
  intro A' Q' E' s' k q
  unfold typeOf
  exact O2 (Sc (k _ _ a1) (O3 (by rw [a2];exact q)))
 have L5:Qf M s₁.heap (isInstance (.ref e) (.type "BaseException")) true:=L4.andThen L3
 have L6:Qf M s₁.heap (isType (.ref e)) false:=by
  intro A' Q' E' s' k q
  unfold isType loadHead
  refine O2 (Sc (k _ _ a1) ?_)
  rw [a4]
  exact O3 q
 have L7:Qf M s₁.heap (typeOf (.ref C)) (.type "type"):=V1 X hty
 unfold excFromValue isExcClass raisedInstance
 obtain ⟨hp,g,d,tk,os⟩:=s₁
 repeat (first | with_reducible refine L6.at ?_ | with_reducible refine L5.at ?_ | with_reducible refine L4.at ?_ | with_reducible refine L7.at ?_ | wp_step)
 rw [a4]
 refine O3 ?_
 dsimp only
 rw [a5]
 refine O3 ?_
 rw [if_neg (by decide)]
 exact O3 (wpAny_raiseNew_none hh hE)
section
variable {X:Cx}{k:Nat}{x:Str}{sp:Sp}{ps:List Str}{C f:Addr}{fd:FuncData}{np cpos pos:Pos}{a:Expr}{t:TA}{E:XK}
structure Rz (K:O1)(C f:Addr):Prop where
 ei:Zb3 K C
 init:Pf K (.ref C) "__init__" = some (some (.ref f))
 fn:T0 K (.ref f)=true
 kp:Qm K (.ref C)=true
 bs:Pi K (.ref C) (.type "BaseException")=some true
 ty:Ql K (.ref C)=some (.type "type")
noncomputable def tRz (C:Addr)(sp:Sp)(E:XK)(t:TA):TS:=fun D σ H=>t σ H fun vs H1=>vs.length<=sizeLine/\∀ e,H1 e=none->sp (.ref e::vs) (upd H1 e (D0 e (.ref C) none)) (fun v H2=>v=.non/\∃ od,H2 e=some (D0 e (.ref C) od)/\E (.ref C) od (del H2 e)) (fun _ _ _=>False)
theorem Znl (hc:X.calm=true)(R:Rz X.K C f)(F:FnOk X.prog X.w X.K X.mg X.base Ao k f fd ps sp)(hr:Room (k+1) X.A)(hb:Binds X.K fd ps [])(G:X.mg x=some (.ref C))(ha:QA X [a] t)(hx:Zdc X E)(hex:X.ex=[])(hg:Gl X x:=by rfl)(hdb:(x == ("__debug__" : Str))=false:=by decide)
  (he:starEach [a] X.env=(false,eval a X.env)::starEach [] X.env:=by rfl) (hpl:(backTo cpos (starEach [] X.env)).any (·.1)=false:=by rfl):QS X (.Raise (some (.Call (.Name x np) [a] [] cpos)) none pos) (tRz C sp E t):=by
 refine ⟨fun pins s σ H D I h=>?_⟩
 rw [arm_exec_Raise]
 refine O2 (Vh (Zsa (K:=X.K) (C:=C) (I.ok.hd hc) R.bs R.ty (O2 (Py (Sm (Ez I hg G ?_ hdb)) (fun v s₃ h₃=>O2 (Vh (O3 h₃))) fun _ _ x=>x))))
 refine Th (h₀:=X.base) I.ok.mod.kin R.kp (Aj (ha.run cpos pins s σ H _ I h) fun us s1 zq=>?_) he hpl
 obtain ⟨vs,H1,I1,r,hz,q⟩:=zq
 refine ⟨I1.kIn,?_⟩
 obtain ⟨bm,N,nm,qn,bs,hdct,sn,sub,ab,col,dd,k0,k1,k2,k3,k5,cl⟩:=Zie R.ei
 obtain ⟨cC,cT⟩:=cl _ I1.kIn
 obtain ⟨hp,g,d,tk,os⟩:=s1
 refine Zpr Sz (by decide) Sz cT I1.kIn cC R.init (beq_iff_eq.mp R.fn) (fun h' e hm=>?_) (by show us.length<=sizeLine;rw [<- r.length];exact hz)
 obtain ⟨t',e1,_,_⟩:=hm.there
 have hn:H1 e=none:=I1.hok.no hm.new
 have mk:Fh h' e (.ref C) none:=⟨_,_,e1,rfl,rfl,rfl,rfl⟩
 have rf:Mvd (A6 X.stack) [] h' h':=⟨fun _ _ _ _ q=>q,fun _ o _ q=>⟨o.slots,q⟩⟩
 have I2:Inv X pins σ (upd H1 e (D0 e (.ref C) none)) ⟨h',g,d,tk,os⟩:=I1.call' (s':=⟨h',g,d,tk,os⟩) (ch:=[]) rfl ((Un.kept hm.keeps).land rf (fun b hb=>absurd hb (by simp)) hm.new hn) ((I1.hok.kept hm.keeps).land rf (fun b hb=>absurd hb (by simp)) (fun b hb=>I1.stkFree b hb) hn (Zgm mk)) I1.bare (fun b z=>absurd z (by simp))
 have hq:=q e hn
 have r2:Vals (V.ref e::vs) (Value.ref e::us):=.cons rfl r
 have hl:(Value.ref e::us).length=ps.length:=by
  have z:=r2.length
  rw [F.len _ _ _ _ hq] at z
  exact z.symm
 have hb':=hb ⟨h',g,d,tk,os⟩ (Value.ref e::us) I2.kIn (by simpa using hl)
 rw [Qs] at hb'
 refine Rv (Se (F.run _ X.stack _ _ ⟨Value.ref e::us,[]⟩ (Value.ref e::us) _ _ _ (hr.make C us []) (I2.env0.make C us []) hb' r2 hq) fun r s' hq'=>?_)
 cases r with
 | error e=>exact Pt hq'
 | ok fl =>
  cases fl with
  | ret u =>
   obtain ⟨v,H',I3,rv,ev,od,q3,q4⟩:=I2.after hq'
   subst ev
   obtain rfl:u=Value.none:=rv
   have h0:=I1.old hex hm.new
   exact ⟨rfl,e,od,rfl,I3.kIn,Zah (I3.hok e _ q3),hx pins σ _ s' e _ od (I3.del h0 q3) (Zah (I3.hok e _ q3)) h0 Zdv q4⟩
  | next=>exact Pt hq'
  | brk=>exact Pt hq'
  | cont=>exact Pt hq'
end
theorem Zri {X:Cx}{e:Expr}{f:Str}{pos:Pos}{ta:TE}(K:O1)(he:QE X e ta)(hK:X.K=K:=by rfl)(hb:attributeBase e f X.env (eval e X.env)=eval e X.env:=by rfl):QE X (.Attribute e f pos) (Zdm K ta f):=by subst hK;exact Znb he hb
section
variable {P:Program}{w:World}{K:O1}{mg:Str->Option Value}{base:Heap}
end
section
variable {X:Cx}{k:Nat}{x:Str}{ps:List Str}{sp:Sp}{p pos:Pos}{e:Expr}{es:List Expr}{t:TA}
end
structure ExN (K:O1)(D:Addr):Prop extends ExC K D where
 ca:Pf K (.ref D) "__class__" = some (some (.builtin "object.__class__"))
 cg:V8 K (.builtin "object.__class__") "__get__" = some (some (.builtin "getset_descriptor.__get__"))
 ct:Wk K (.builtin "object.__class__")=some true
section
open PySem.W PySem.Builtin PySem.Builtin.ObjectAttr
variable {prog:Program}{w:World}{A:Around}{E:Value->Shared->Prop}{s:Shared}{K:Frag}{x D:Addr}{ox:Obj}{od:Option Obj}
theorem Zmf {Q:Option Value->Shared->Prop}(X:K.In s.heap)(I:Rq s.heap x ox D od)(c:ExN K D)(h:Q (some (.ref D)) { s with toks:=s.toks+1 }):wpAny (model prog w) A (getAttr? (.ref x) "__class__") Q E s:=by
 obtain ⟨cd,hc,ho⟩:=any_some c.ov
 have ne:cd.mro.isEmpty=false:=by cases q:cd.mro with | nil=>rw [q] at ho;cases ho | cons _ _=>rfl
 have hf:findObj K D od "__class__" = some (.bind (.builtin "getset_descriptor.__get__") (.builtin "object.__class__")):=by
  unfold findObj
  rw [hc,R8,c.ca,R8]
  dsimp only
  rw [c.cg,R8]
  dsimp only
  rw [c.ct]
  rfl
 have hm:mroIn K D (.type "object")=some true:=by unfold mroIn;rw [hc,R8,if_neg (by rw [ne];decide),(Mj ho).1]
 obtain ⟨hp,g,d,t,os⟩:=s
 have L0:=I.type (M:=model prog w)
 have L1:=looks_findIn (M:=model prog w) X c.ga
 have L2:=looks_findIn (M:=model prog w) X c.gt
 have L3:=looks_find (M:=model prog w) X I hf
 have L4:Looks (model prog w) hp (isInstance (.ref x) (.type "BaseException")) true:=I.type.andThen (looks_mroIn X (by unfold mroIn;rw [hc,R8,if_neg (by rw [ne];decide),(Mj ho).2]))
 have f3:=Ul.ga.bind (.ref x)
 have hx2:(Value.builtin "BaseException.__getattribute__" == Value.builtin "object.__getattribute__")=false:=by decide +kernel
 have hx1:(onTheHeap (Value.ref D) && Value.builtin "BaseException.__getattribute__" == Value.builtin "object.__getattribute__")=false:=by rw [hx2];rfl
 have hk:builtinKind "BaseException.__getattribute__" = some .slot:=by decide +kernel
 have hsplit:splitId "BaseException.__getattribute__" = some ("BaseException", "__getattribute__"):=by decide +kernel
 unfold getAttr? getAttrBy? getAttrBy
 refine O2 (wpAny_mkText (O2 (Rg (P9 (O2 (L0.at (O2 (L1.at ?_))))))))
 dsimp only
 rw [hx1]
 simp only [Q6,if_false]
 unfold getAttrByItsOwn hookBefore callGetattribute
 rw [if_pos (show onTheHeap (Value.ref D)=true from rfl)]
 refine O2 (L2.at ?_)
 simp only [Bool.false_and,Q6,if_false]
 unfold boundAndCalled
 rw [f3]
 refine O2 (Rg (P9 (O2 (O3 (Rv (V2 Ul.ga.plain PySem.F.entry_bexc_ga (@check_slot (model prog w) _ _ ⟨hp,g,d,t+1,os⟩ "BaseException.__getattribute__" "BaseException" "__getattribute__" (.ref x) [.str "__class__" t] [] _ hk hsplit L4 (PySem.F.args_bexc_ga (.ref x) (.str "__class__" t)) ?_)))))))
 show wpAny _ _ (Builtin.«object.__getattribute__» ⟨[.ref x,.str "__class__" t],[]⟩) _ _ _
 refine O2 (O3 (O2 (O3 (O2 (L0.at (O2 (L3.at ?_)))))))
 show wpAny _ _ (holding [.builtin "object.__class__"] (call (.builtin "getset_descriptor.__get__") [.builtin "object.__class__",.ref x,.ref D]) >>= ret) _ _ _
 refine O2 (P9 (Rv (class_get (s:=⟨hp,g,d,t+1,os⟩) (ox:=ox) (od:=od) X I hm (O3 ?_))))
 show wpAny _ _ (handedOut (.ref D)) _ _ _
 rw [handedOut_of rfl]
 exact O3 (O3 h)
theorem Zfl (c:ExN K D):KitX K (.ref x) (.ref D) (fun h=>Rq h x ox D od) where
 ty:=fun _ _ _ I=>I.type
 it:=fun _ _ X _=>by
  obtain ⟨cd,hc,_⟩:=any_some c.ov
  exact Nw X (by rw [hc];rfl)
 ne:=fun h tp dd its n sl X htp=>by
  obtain ⟨cdD,hcD,_⟩:=any_some c.ov
  refine Bool.eq_false_iff.mpr fun q=>?_
  have e:D=tp:=Value.ref.inj (beq_iff_eq.mp q)
  subst e
  unfold clsIn at hcD
  split at hcD
  ·rename_i c' d' cd' sl' ho
   have z:=(X _ _ ho).symm.trans htp
   cases z
  ·cases hcD
 ca:=fun X I k=>Zmf X I c k
end
noncomputable def rIsY (K:O1):List V->Hp->VK->Prop:=fun xs H Q=>∃ a C C' od b,xs=[.ref a,.ref C]/\H a=some (B9 a (.ref C') od)/\(∀ d,od=some d->∃ fs,H d=some (.xd fs))/\ExN K C'/\Pu K (.ref C') (.ref C)=some b/\Q (.bl b) H
noncomputable def Zin (K:O1)(T:String):List V->Hp->VK->Prop:=fun xs H Q=>∃ a C' od b,xs=[.ref a,.ty T]/\H a=some (B9 a (.ref C') od)/\(∀ d,od=some d->∃ fs,H d=some (.xd fs))/\ExN K C'/\Pu K (.ref C') (.type T)=some b/\Q (.bl b) H
section
variable {X:Cx}{pins:List (Addr×Obj)}{σ:St}{H:Hp}{s:Shared}{a C':Addr}{od:Option Addr}
theorem Zgf (I:Inv X pins σ H s)(ea:H a=some (B9 a (.ref C') od))(hd:∀ d,od=some d->∃ fs,H d=some (.xd fs)):∃ ox oo,Rq s.heap a ox C' oo:=by
 obtain ⟨oe,vs,a1,a2,a3,a4⟩:=Zfp (I.hok a _ ea)
 cases od with
 | none=>exact ⟨oe,none,a1,a2,by unfold PySem.W.notCls;rw [a4],by rw [a3];trivial⟩
 | some d =>
  obtain ⟨fs,ed⟩:=hd d rfl
  obtain ⟨mA,nA,r⟩:=I.hok d _ ed
  obtain ⟨oD,hoD,hl⟩:=Zbh nA
  exact ⟨oe,some oD,a1,a2,by unfold PySem.W.notCls;rw [a4],by rw [a3];exact hoD⟩
theorem Nj {K:O1}(hK:X.K=K:=by rfl):Cb X (.builtin "isinstance") (rIsY K):=by
 subst hK
 intro pins s σ H xs us Q I r h
 obtain ⟨a,C,C',od,b,rfl,ea,hd,c,e,q⟩:=h
 obtain ⟨u,v,rfl,ru,rv⟩:=r.two
 obtain rfl:u=Value.ref a:=ru
 obtain rfl:v=Value.ref C:=rv
 obtain ⟨ox,oo,J⟩:=Zgf I ea hd
 exact P7 (Zfl (ox:=ox) (od:=oo) c) I.kIn J e (fun z=>nomatch z) fun tk=>⟨.bl b,H,I.tok tk,rfl,q⟩
theorem Zif {K:O1}(T:String)(hK:X.K=K:=by rfl):Cb X (.builtin "isinstance") (Zin K T):=by
 subst hK
 intro pins s σ H xs us Q I r h
 obtain ⟨a,C',od,b,rfl,ea,hd,c,e,q⟩:=h
 obtain ⟨u,v,rfl,ru,rv⟩:=r.two
 obtain rfl:u=Value.ref a:=ru
 obtain rfl:v=Value.type T:=rv
 obtain ⟨ox,oo,J⟩:=Zgf I ea hd
 exact P7 (Zfl (ox:=ox) (od:=oo) c) I.kIn J e (fun z=>nomatch z) fun tk=>⟨.bl b,H,I.tok tk,rfl,q⟩
end
section
variable {X:Cx}
noncomputable def rEqI (K:O1):R2:=fun x y H Q=>∃(a c:Addr)(xs ys:List Int),x=.ref a/\y=.ref c/\SqT K H a (xs.map V.int)/\SqT K H c (ys.map V.int)/\Q (.bl (decide (xs=ys))) H
theorem Zpe (hu:X.A.units+200 < cLine):OpR X (compareOp .Eq) (rEqI X.K):=by
 intro pins s σ H x y v u Q I rx ry h
 obtain ⟨a,c,xs,ys,rfl,rfl,hx,hy,q⟩:=h
 cases rx
 cases ry
 obtain ⟨its,r1,p1,_⟩:=I.tuple hx
 obtain ⟨its2,r2,p2,_⟩:=I.tuple hy
 obtain ⟨us,e1,f1⟩:=Za4 r1
 obtain ⟨vs,e2,f2⟩:=Za4 r2
 have l1:us.length=xs.length:=by rw [<- f1,Pa]
 have l2:vs.length=ys.length:=by rw [<- f2,Pa]
 refine SeqAt.eq_tupleAt (e:=fun j=>xs.getD j 0 == ys.getD j 0) (show s.heap.IsTuple a its.toArray from p1) (show s.heap.IsTuple c its2.toArray from p2) (by omega) (fun j h1 h2=>?_) ?_
 ·subst e1 e2
  simp only [O7,Pa] at h1 h2
  have g1:xs.getD j 0=us[j].1:=by rw [<- f1,Uc,Qj,O5 h1];rfl
  have g2:ys.getD j 0=vs[j].1:=by rw [<- f2,Uc,Qj,O5 h2];rfl
  rw [g1,g2]
  simp only [List.getElem_toArray,List.getElem_map]
  exact Po.int_int _ _ _ _
 ·have e:((Pp (min its.toArray.size its2.toArray.size)).all (fun j=>xs.getD j 0 == ys.getD j 0) && its.toArray.size == its2.toArray.size)=decide (xs=ys):=by
   have z1:its.toArray.size=xs.length:=by rw [O7,e1,Pa,l1]
   have z2:its2.toArray.size=ys.length:=by rw [O7,e2,Pa,l2]
   rw [z1,z2,Zo1]
  rw [e]
  exact ⟨.bl _,H,I,rfl,q⟩
noncomputable def rEqB (K:O1):R2:=fun x y H Q=>Mx K x y H Q\/rEqI K x y H Q
theorem Zm4 (K:O1)(hu:X.A.units+200 < cLine)(hK:X.K=K:=by rfl):OpR X (compareOp .Eq) (rEqB K):=by subst hK;exact (Zcn hu).or (Zpe hu)
theorem Zle {K:O1}{a c:Addr}{xs ys:List Int}{H:Hp}{Q:VK}(hx:SqT K H a (xs.map V.int))(hy:SqT K H c (ys.map V.int))(h:Q (.bl (decide (xs=ys))) H):rEqB K (.ref a) (.ref c) H Q:=.inr ⟨a,c,xs,ys,rfl,rfl,hx,hy,h⟩
end
end L2
namespace L2
open PySem
inductive Db:Dt->Prop where
 | flat (v:V):Db (.flat v)
 | tup {ds:List Dt} (l:ds.length<=5000) (h:∀ d∈ds,Db d):Db (.tup ds)
 | lst {ds:List Dt} (l:ds.length<=5000) (h:∀ d∈ds,Db d):Db (.lst ds)
noncomputable def SameA (A:Addr->Prop)(H H':Hp):Prop:=SameT H H'/\∀ b xs,¬ A b->H b=some (.lst xs)->H' b=some (.lst xs)
theorem Same.a {A:Addr->Prop}{H H':Hp}(e:Same H H'):SameA A H H':=⟨e.t,fun b xs _ h=>e b _ h⟩
theorem SameA.trans {A:Addr->Prop}{H H1 H2:Hp}(a:SameA A H H1)(b:SameA A H1 H2):SameA A H H2:=⟨a.1.trans b.1,fun c xs n h=>b.2 c xs n (a.2 c xs n h)⟩
theorem SameA.set {A:Addr->Prop}{H:Hp}{S:Addr}{zs:List V}{o:HO}(h:H S=some (.lst zs))(hA:A S):SameA A H (upd H S o):=⟨SameT.set h,fun b xs n e=>by rw [Af (fun z=>n (by rw [z];exact hA))];exact e⟩
theorem SameA.mono {A B:Addr->Prop}{H H':Hp}(e:SameA A H H')(h:∀ b,A b->B b):SameA B H H':=⟨e.1,fun b xs n=>e.2 b xs fun a=>n (h b a)⟩
noncomputable def ThAt (K:O1)(H:Hp)(v:V)(x:Str×V):Prop:=B3 x.2=true/\∃ a,v=.ref a/\SqT K H a [.str x.1,x.2]
theorem ThAt.same {K:O1}{H H':Hp}(e:SameT H H')(v:V)(x:Str×V)(h:ThAt K H v x):ThAt K H' v x:=by
 obtain ⟨f,a,r,q⟩:=h
 exact ⟨f,a,r,e.tup q⟩
noncomputable def PrAt (K:O1)(H:Hp)(v:V)(x:Str×Str×V):Prop:=∃(a:Addr)(u:V),v=.ref a/\SqT K H a [.str x.1,u]/\ThAt K H u x.2
theorem PrAt.same {K:O1}{H H':Hp}(e:SameT H H')(v:V)(x:Str×Str×V)(h:PrAt K H v x):PrAt K H' v x:=by
 obtain ⟨a,u,r,q,t⟩:=h
 exact ⟨a,u,r,e.tup q,t.same e⟩
structure Rx where
 wd:Str
 pl:List Int
 ops:List (Str×V)
 ar:List (Str×Str×V)
noncomputable def RwAt (K:O1)(A:Addr->Prop)(H:Hp)(v:V)(x:Rx):Prop:=∃(a p o e:Addr)(ov ev:List V),v=.ref a/\SqT K H a [.str x.wd,.ref p,.ref o,.ref e]/\SqT K H p (x.pl.map V.int)/\H o=some (.lst ov)/\Al (ThAt K H) ov x.ops/\H e=some (.lst ev)/\Al (PrAt K H) ev x.ar/\¬ A o/\¬ A e
theorem RwAt.same {K:O1}{A:Addr->Prop}{H H':Hp}(s:SameA A H H')(v:V)(x:Rx)(h:RwAt K A H v x):RwAt K A H' v x:=by
 obtain ⟨a,p,o,e,ov,ev,h1,h2,h3,h4,h5,h6,h7,h8,h9⟩:=h
 exact ⟨a,p,o,e,ov,ev,h1,s.1.tup h2,s.1.tup h3,s.2 _ _ h8 h4,h5.mono (ThAt.same s.1),s.2 _ _ h9 h6,h7.mono (PrAt.same s.1),h8,h9⟩
theorem RwAt.mono {K:O1}{A B:Addr->Prop}{H:Hp}(s:∀ b,B b->H b≠none->A b)(v:V)(x:Rx)(h:RwAt K A H v x):RwAt K B H v x:=by
 obtain ⟨a,p,o,e,ov,ev,h1,h2,h3,h4,h5,h6,h7,h8,h9⟩:=h
 exact ⟨a,p,o,e,ov,ev,h1,h2,h3,h4,h5,h6,h7,fun b=>h8 (s o b (by rw [h4];simp)),fun b=>h9 (s e b (by rw [h6];simp))⟩
noncomputable def Ht (x:Str×V):Dt:=.tup [.flat (.str x.1),.flat x.2]
noncomputable def prD (x:Str×Str×V):Dt:=.tup [.flat (.str x.1),Ht x.2]
noncomputable def rzD (x:Rx):Dt:=.tup [.flat (.str x.wd),.tup (x.pl.map fun i=>.flat (.int i)),.lst (x.ops.map Ht),.lst (x.ar.map prD)]
theorem ThAt.d {K:O1}{H:Hp}{v:V}{x:Str×V}(h:ThAt K H v x):IsD K H 1 v (Ht x):=by
 obtain ⟨f,a,rfl,q⟩:=h
 refine .tup q rfl fun j v d h1 h2=>?_
 match j,h1,h2 with
 | 0,h1,h2=>cases h1;cases h2;exact .flat rfl
 | 1,h1,h2=>cases h1;cases h2;exact .flat f
theorem PrAt.d {K:O1}{H:Hp}{v:V}{x:Str×Str×V}(h:PrAt K H v x):IsD K H 2 v (prD x):=by
 obtain ⟨a,u,rfl,q,t⟩:=h
 refine .tup q rfl fun j v d h1 h2=>?_
 match j,h1,h2 with
 | 0,h1,h2=>cases h1;cases h2;exact .flat rfl
 | 1,h1,h2=>cases h1;cases h2;exact t.d
theorem Al.lstD {K:O1}{H:Hp}{α:Type}{R:V->α->Prop}{g:α->Dt}{n:Nat}{a:Addr}{vs:List V}{xs:List α}(al:Al R vs xs)(e:SqL K H a vs)(h:∀ v x,R v x->IsD K H n v (g x)):IsD K H (n+1) (.ref a) (.lst (xs.map g)):=by
 refine .lst e (by rw [Pa];exact al.1) fun j v d h1 h2=>?_
 rw [Qj] at h2
 obtain ⟨r,hr,rfl⟩:=R3.mp h2
 exact h v r (al.2 j v r h1 hr)
theorem Zpx {K:O1}{H:Hp}{n:Nat}{p:Addr}{pl:List Int}(q:SqT K H p (pl.map V.int)):IsD K H (n+1) (.ref p) (.tup (pl.map fun i=>.flat (.int i))):=by
 refine .tup q (by simp) fun j v d h1 h2=>?_
 rw [Qj] at h1 h2
 obtain ⟨k,hk,rfl⟩:=R3.mp h1
 rw [hk] at h2
 cases h2
 exact .flat rfl
theorem RwAt.d {K:O1}{A:Addr->Prop}{H:Hp}{v:V}{x:Rx}(h:RwAt K A H v x):IsD K H 4 v (rzD x):=by
 obtain ⟨a,p,o,e,ov,ev,rfl,h2,h3,h4,h5,h6,h7,_,_⟩:=h
 refine .tup h2 rfl fun j v d f1 f2=>?_
 match j,f1,f2 with
 | 0,h1,h2=>cases h1;cases h2;exact .flat rfl
 | 1,h1,h2=>cases h1;cases h2;exact Zpx h3
 | 2,h1,h2=>cases h1;cases h2;exact (h5.lstD (g:=Ht) (SqL.of h4) fun _ _ t=>t.d).up (by omega)
 | 3,h1,h2=>cases h1;cases h2;exact h7.lstD (g:=prD) (SqL.of h6) fun _ _ t=>t.d
theorem Zbc (x:Str×V):Db (Ht x):=.tup (by show 2<=5000;omega) fun d h=>by
 simp only [Pb,P5,or_false] at h
 rcases h with rfl | rfl
 ·exact .flat _
 ·exact .flat _
theorem Zld (x:Str×Str×V):Db (prD x):=.tup (by show 2<=5000;omega) fun d h=>by
 simp only [Pb,P5,or_false] at h
 rcases h with rfl | rfl
 ·exact .flat _
 ·exact Zbc _
theorem Op {α:Type}{g:α->Dt}{xs:List α}(l:xs.length<=5000)(h:∀ x∈xs,Db (g x)):Db (.lst (xs.map g)):=.lst (by rw [Pa];exact l) fun d hd=>by
 obtain ⟨x,hx,rfl⟩:=Qp.mp hd
 exact h x hx
structure Rx.Ok (x:Rx):Prop where
 pl:x.pl.length<=5000
 ops:x.ops.length<=5000
 ar:x.ar.length<=5000
theorem Zmq {x:Rx}(h:x.Ok):Db (rzD x):=.tup (by show 4<=5000;omega) fun d hd=>by
 simp only [Pb,P5,or_false] at hd
 rcases hd with rfl | rfl | rfl | rfl
 ·exact .flat _
 ·refine .tup (by rw [Pa];exact h.pl) fun d hd=>?_
  obtain ⟨x,hx,rfl⟩:=Qp.mp hd
  exact .flat _
 ·exact Op h.ops fun x _=>Zbc x
 ·exact Op h.ar fun x _=>Zld x
section
variable {g:TG}{tt:TT}{te:TE}{σ0:St}{H1:Hp}{D:Addr}{Q:VK}
end
end L2
namespace L2
open PySem PySem.Spec PyProof.Rows
section
variable {X:Cx}
end
section
variable {prog:Program}{w:World}{A:Around}{E:Value->Shared->Prop}{s:Shared}
end
section
variable {X:Cx}
end
section
variable {g:TG}{tt:TT}{te:TE}{σ0:St}{H1:Hp}{D:Addr}{Q:VK}
end
theorem via {t:TS}{X:St->Hp->Prop}{rt:VK}{bk ct:St->Hp->Prop}{σ:St}{H:Hp}(R:Hp->Prop)(h2:∀ H',R H'->X σ H')(h1:∀ Y:St->Hp->Prop,(∀ H',R H'->Y σ H')->t ⟨Y,rt,bk,ct⟩ σ H):t ⟨X,rt,bk,ct⟩ σ H:=h1 X h2
section
variable {X:Cx}
end
theorem Znn:fillsNumberSlot (.type "tuple") "mul" = pure false :=
 PySem.fillsNumberSlot_seq (id := "tuple.__mul__") (r:=some (.builtin "tuple.__rmul__")) Td.lookup (by decide +kernel) PySem.F.slot_tuple_rmul.lookup (by decide +kernel)
theorem Zru:seqRepeat? (.type "tuple")=pure (some (.builtin "tuple.__mul__")):=by
 unfold seqRepeat?
 rw [PySem.seqSlot_of (T := "tuple") (name := "__mul__") (id := "tuple.__mul__") Td.lookup (by decide +kernel),PySem.seqSlot_of (T := "tuple") (name := "__rmul__") (id := "tuple.__rmul__") PySem.F.slot_tuple_rmul.lookup (by decide +kernel)]
 rfl
theorem Zrk (a:Int)(t:Tok)(l:Addr)(items:Array Value)(n:Nat)(dd:Option Addr)(sl:Array (Option Value)) :
  Meets (Builtin.«int.__rmul__» ⟨[.int a t,.ref l],[]⟩) (fun _ R s=>s.heap.get? l=some { cls:=.type "tuple",dict:=dd,data:=.seq items n,slots:=sl }/\R (.ok (.ret Value.notImplemented)) s) :=
 .of_wp fun prog w A R s h=>by obtain ⟨hp,g,d,tk,os⟩:=s;obtain ⟨hl,h⟩:=h;wp_walk;exact ⟨_,rfl,h⟩
theorem Zh5 (l:Addr)(items:Array Value)(n:Nat)(dd:Option Addr)(sl:Array (Option Value))(u:Tok) :
  Meets (Builtin.«tuple.__mul__» ⟨[.ref l,.int 1 u],[]⟩) (fun _ R s=>s.heap.get? l=some { cls:=.type "tuple",dict:=dd,data:=.seq items n,slots:=sl }/\R (.ok (.ret (.ref l))) s) :=
 .of_wp fun prog w A R s h=>by obtain ⟨hp,g,d,tk,os⟩:=s;obtain ⟨hl,h⟩:=h;wp_walk;exact ⟨_,rfl,h⟩
theorem Zo0 (l:Addr)(items:Array Value)(n:Nat)(dd:Option Addr)(sl:Array (Option Value))(u:Tok)(hne:¬ items.isEmpty=true) :
  Meets (Builtin.«tuple.__mul__» ⟨[.ref l,.int 0 u],[]⟩) (fun _ R s=>s.heap.get? l=some { cls:=.type "tuple",dict:=dd,data:=.seq items n,slots:=sl }/\R (.ok (.ret (.ref s.heap.objs.size))) { s with heap:=s.heap.push { cls:=.type "tuple",data:=.seq #[] } }) :=
 .of_wp fun prog w A R s h=>by obtain ⟨hp,g,d,tk,os⟩:=s;obtain ⟨hl,h⟩:=h;wp_walk;exact ⟨_,rfl,h⟩
theorem Zkv (l:Addr)(items:Array Value)(n:Nat)(dd:Option Addr)(sl:Array (Option Value))(u:Tok)(x:Int)(h2:2<=x)(hx:x < 2 ^ 62)(hne:items.isEmpty=false)(hz:(items.size:Int) * x<=1000)(hs:¬ ((Pn x.toNat items).foldl (·++·) #[]).size > sizeLine) :
  Meets (Builtin.«tuple.__mul__» ⟨[.ref l,.int x u],[]⟩) (fun _ R s=>s.heap.get? l=some { cls:=.type "tuple",dict:=dd,data:=.seq items n,slots:=sl }/\R (.ok (.ret (.ref s.heap.objs.size))) { s with heap:=s.heap.push { cls:=.type "tuple",data:=.seq ((Pn x.toNat items).foldl (·++·) #[]) } }) :=
 .of_wp fun prog w A R s h=>by
  obtain ⟨hp,g,d,tk,os⟩:=s;obtain ⟨hl,h⟩:=h
  have c0:(decide (x < -2 ^ 63) || decide (x ≥ 2 ^ 63))=false:=by
   have a:¬ x < -2 ^ 63:=by omega
   have b:¬ x ≥ 2 ^ 63:=by omega
   rw [decide_eq_false a,decide_eq_false b];rfl
  have c1:(items.isEmpty || x == 1)=false:=by
   have b:¬ x=1:=by omega
   rw [hne]
   simp [b]
  have c2:(decide (x<=0) || items.isEmpty)=false:=by
   have b:¬ x<=0:=by omega
   rw [hne,decide_eq_false b];rfl
  have c3:¬ ((items.size:Int) * x > (2 ^ 63 - 1) / 8):=by omega
  have c4:Builtin.Tuple.tupleTooMany ((items.size:Int) * x)=false:=by
   unfold Builtin.Tuple.tupleTooMany
   have:(100000:Nat)<=sizeLine:=by decide
   exact decide_eq_false (by omega)
  wp_walk
  refine Vb (by rw [c0];rfl) ?_
  wp_walk
  refine Vb (by rw [c1];rfl) ?_
  wp_walk
  refine Vb (by rw [c2];rfl) ?_
  wp_walk
  refine Vb (decide_eq_false c3) ?_
  wp_walk
  exact ⟨_,rfl,h⟩
section
variable {X:Cx}
noncomputable def Zgi (K:O1):R2:=fun x y H Q=>∃ l k xs,x=.ref l/\y=.int k/\SqT K H l xs/\xs≠[]/\0<=k/\k < 2 ^ 62/\(xs.length:Int) * k<=1000/\∀ r H',Same H H'->SqT K H' r (Pn k.toNat xs).flatten->Q (.ref r) H'
theorem Zo2 (K:O1)(hK:X.K=K:=by rfl):OpR X (binaryOp .Mult) (Zgi K):=by
 subst hK
 intro pins s σ H x y v u Q I rx ry h
 obtain ⟨l,k,xs,rfl,rfl,hH,hne,h0,h1,hz,q⟩:=h
 cases rx
 obtain ⟨t,rfl⟩:=ry
 obtain ⟨its,r,p,_⟩:=I.tuple hH
 have hl:=r.length
 obtain ⟨⟨cls,dd,data,sl⟩,e,hc,n,hd⟩:=id p
 simp only at hc hd
 subst hc hd
 have hz':(its.toArray.size:Int) * k<=1000:=by rw [O7,<- hl];exact hz
 have hem:its.toArray.isEmpty=false:=by
  cases its with
  | nil=>cases xs with | nil=>exact absurd rfl hne | cons a b=>simp at hl
  | cons a b=>simp
 have go:∀ Q':Value->Shared->Prop,wpAny (model X.prog X.w) X.A (call (.builtin "tuple.__mul__") [.ref l,.int k t]) Q' X.xe s->wpAny (model X.prog X.w) X.A (binaryOp .Mult (.ref l) (.int k t)) Q' X.xe s:=fun Q' hh =>
  wpAny_binaryOp_repeat_ref (T := "tuple") (U := "int") (by decide) ⟨_,e,rfl⟩ (fun s'=>T3 s' k t) Znn PySem.F.fills_int_mul PySem.F.slot_int_rmul Zru PySem.F.slot_int_index.lookup
   (Q3 PySem.F.slot_int_rmul (T3 s k t) PySem.F.entry_int_rmul (PySem.F.args_int_rmul_2 _ _) (Zrk k t l its.toArray n dd sl) ⟨e,rfl,⟨_,e,rfl⟩,hh⟩)
 by_cases k1:k=1
 ·subst k1
  refine go _ (Q3 Td ⟨_,e,rfl⟩ Vx (Vt _ _) (Zh5 l its.toArray n dd sl t) ⟨e,?_⟩)
  exact ⟨.ref l,H,I,rfl,q l H (Same.refl _) (by show SqT X.K H l (Pn 1 xs).flatten;simpa using hH)⟩
 by_cases k0:k=0
 ·subst k0
  refine go _ (Q3 Td ⟨_,e,rfl⟩ Vx (Vt _ _) (Zo0 l its.toArray n dd sl t (by rw [hem];exact Pd)) ⟨e,?_⟩)
  refine ⟨.ref _,_,I.laid (t':=s.toks) (o:=.tup []) (fun b ob q=>O6 _ q) (O4 _) ⟨by show 0<=sizeLine;decide,[],.nil,⟨_,Pe _ rfl,rfl,_,rfl⟩⟩,rfl,q _ _ (Same.upd I.fresh) (SqT.of Ad)⟩
 ·have hnew:T4 (fun x1 x2=>x1++x2) #[] (Pn k.toNat its.toArray)=(Pn k.toNat its).flatten.toArray:=by
   have:=Zbn its k.toNat []
   rw [Ts] at this
   exact this
  have hlen:(Pn k.toNat xs).flatten.length<=sizeLine:=by
   rw [Ms]
   have:(100000:Nat)<=sizeLine:=by decide
   have e:((k.toNat * xs.length:Nat):Int)=(xs.length:Int) * k:=by rw [Int.natCast_mul,Int.toNat_of_nonneg h0,Int.mul_comm]
   omega
  have hs:¬ ((Pn k.toNat its.toArray).foldl (·++·) #[]).size > sizeLine:=by
   have h':T4 (fun x1 x2=>x1++x2) #[] (Pn k.toNat its.toArray)=(Pn k.toNat its).flatten.toArray:=hnew
   rw [h',O7,Ms,<- hl]
   rw [Ms] at hlen
   omega
  refine go _ (Q3 Td ⟨_,e,rfl⟩ Vx (Vt _ _) (Zkv l its.toArray n dd sl t k (by omega) h1 hem hz' hs) ⟨e,?_⟩)
  rw [hnew]
  exact ⟨.ref _,_,I.laid (t':=s.toks) (o:=.tup (Pn k.toNat xs).flatten) (fun b ob q=>O6 _ q) (O4 _) ⟨hlen,_,r.rep k.toNat,⟨_,Pe _ rfl,rfl,_,rfl⟩⟩,rfl,q _ _ (Same.upd I.fresh) (SqT.of Ad)⟩
theorem Zev {K:O1}{l:Addr}{k:Int}{xs:List V}{H:Hp}{Q:VK}(hq:SqT K H l xs)(hne:xs≠[])(h0:0<=k)(h1:k < 2 ^ 62)(hz:(xs.length:Int) * k<=1000)(h:∀ r H',Same H H'->SqT K H' r (Pn k.toNat xs).flatten->Q (.ref r) H'):Zgi K (.ref l) (.int k) H Q:=⟨l,k,xs,rfl,rfl,hq,hne,h0,h1,hz,h⟩
open PySem.Builtin PySem.Builtin.Str in
end
section
variable {prog:Program}{w:World}{A:Around}{E:Value->Shared->Prop}{s:Shared}
end
section
variable {X:Cx}
end
section
variable {X:Cx}{k:Nat}{x:Str}{ps:List Str}{sp:Sp}{p pos:Pos}
end
structure Cc (CX:B4)(P:Program)(w:World)(K:O1)(mg:Str->Option Value)(base:Heap)(k:Nat)(C:Addr)(m:Str)(ps:List Str)(sp:Sp):Prop where
 ex:∃(g:Addr)(fd:FuncData),FnOk P w K mg base CX k g fd ps sp/\Cls K C/\Meth K C m g/\Binds K fd ps []
structure Zaq (CX:B4)(P:Program)(w:World)(K:O1)(mg:Str->Option Value)(base:Heap)(k:Nat)(x:Str)(C:Addr)(ps:List Str)(sp:Sp):Prop where
 ex:∃(f:Addr)(fd:FuncData),FnOk P w K mg base CX k f fd ps sp/\Mk K C f/\mg x=some (.ref C)/\Binds K fd ps []
noncomputable def Zhm (CX:B4)(P:Program)(w:World)(K:O1)(mg:Str->Option Value)(base:Heap)(k:Nat)(m:Str)(ps:List Str)(E:XK)(ta:TE)(t:TA):TE:=fun σ H Q=>ta σ H fun x H1=>∃ a C dx fs sp,x=.ref a/\H1 a=some (.ins C dx fs)/\fs.lookup m=none/\Cc CX P w K mg base k C m ps sp /\
 t σ H1 fun vs H2=>sp (.ref a::vs) H2 Q E
noncomputable def tNew (C:Addr)(sp:Sp)(E:XK)(t:TA):TE:=fun σ H Q=>t σ H fun vs H1=>∀ x dx,H1 x=none->H1 dx=none->dx≠x->sp (.ref x::vs) (upd (upd H1 dx (.own x)) x (.ins C dx [])) (fun v H2=>v=.non/\Q (.ref x) H2) E
section
variable {X:Cx}{k:Nat}{x m:Str}{ps:List Str}{sp:Sp}{E:XK}{C:Addr}{p pos apos:Pos}{e o:Expr}{es:List Expr}{ta:TE}{t:TA}{CX:B4}{P:Program}{w:World}{mg:Str->Option Value}{base:Heap}
theorem Co (K:O1)(CX:B4)(ps:List Str){pl:Sem Bool}(he:QE X o ta)(hr:Room k X.A)(hx:E6 CX X E)(ha:QA X (e::es) t)(hP:X.prog=P:=by rfl)(hw:X.w=w:=by rfl)(hK:X.K=K:=by rfl)(hmg:X.mg=mg:=by rfl)(hbs:X.base=base:=by rfl)
  (hst:starEach (e::es) X.env=(false,eval e X.env)::starEach es X.env:=by rfl) (hpl:(backTo pos (starEach es X.env)).any (·.1)=false:=by rfl)
  (ht:eval (.Call (.Attribute o m apos) (e::es) [] pos) X.env=(do
   let ov <- eval o X.env
   standAt apos.atName
   let (f,first) <- holding [ov] (getMethod ov m pl)
   callWith pos f first (backTo pos (starEach (e::es) X.env)) (backToKw pos (keywordEach [] X.env))):=by rfl) :
  QE X (.Call (.Attribute o m apos) (e::es) [] pos) (Zhm CX P w K mg base k m ps E ta t):=by
 subst hP hw hK hmg hbs
 refine ⟨fun pins s σ H Q I h=>?_⟩
 refine PySem.W.methodCall_KW (pl:=pl) (Aj (he.run pins s σ H _ I h) fun u s1 zq=>?_) ht
 obtain ⟨x,H1,I1,rx,a,C,dx,fs,sp,ex,ea,l,M,q⟩:=zq
 obtain ⟨g,fd,F,c,hm,hb⟩:=M.ex
 subst ex
 obtain rfl:u=Value.ref a:=rx
 refine Zgr I1 ea c hm l ?_
 refine Th (first:=[.ref a]) (h₀:=X.base) I.ok.mod.kin hm.kp (Aj (ha.run pos pins s1 σ H1 _ I1 q) fun us s2 zq=>?_) hst hpl
 obtain ⟨vs,H2,I2,r,q2⟩:=zq
 refine ⟨I2.kIn,?_⟩
 exact Zaa (us:=.ref a::us) (vs:=.ref a::vs) (dvs:=[]) F hr hb .nil hx I2 (.cons rfl r) (by rw [Qs];exact q2)
theorem Zjy (M:Zaq CX X.prog X.w X.K X.mg X.base k x C ps sp)(hr:Room (k+1) X.A)(hx:E6 CX X E)(ha:QA X (e::es) t)(hg:Gl X x:=by rfl)(hdb:(x == ("__debug__" : Str))=false:=by decide)
  (he:starEach (e::es) X.env=(false,eval e X.env)::starEach es X.env:=by rfl) (hpl:(backTo pos (starEach es X.env)).any (·.1)=false:=by rfl):QE X (.Call (.Name x p) (e::es) [] pos) (tNew C sp E t):=by
 obtain ⟨f,fd,F,mk,hm,hb⟩:=M.ex
 refine ⟨fun pins s σ H Q I h=>?_⟩
 refine Sm (Ez I hg hm ?_ hdb)
 refine Th (h₀:=X.base) I.ok.mod.kin mk.kp (Aj (ha.run pos pins s σ H _ I h) fun us s1 zq=>?_) he hpl
 obtain ⟨vs,H1,I1,r,q⟩:=zq
 refine ⟨I1.kIn,?_⟩
 exact Zmb (dvs:=[]) mk F hr hb .nil hx I1 r (fun x dx h1 h2 h3=>by rw [Qs];exact q x dx h1 h2 h3)
end
section
variable {X:Cx}{e o value:Expr}{f:Str}{pos pos':Pos}{ta tv:TE}{pins:List (Addr×Obj)}{σ:St}{H:Hp}{s:Shared}
theorem Bt (K:O1)(he:QE X e ta)(hb:attributeBase e f X.env (eval e X.env)=eval e X.env:=by rfl)(hK:X.K=K:=by rfl):QE X (.Attribute e f pos) (Zax K ta f):=by subst hK;exact Zhu he hb
theorem Jb (K:O1)(ha:QE X o ta)(hv:QE X value tv)(hs:swapsWith value (some (.Attribute o f pos')) pos.line X.env=pure false:=by rfl)(hK:X.K=K:=by rfl):QS X (.Assign [.Attribute o f pos'] value pos) (Lv K ta tv f):=by subst hK;exact Zmy ha hv hs
end
section
variable {X:Cx}{pins:List (Addr×Obj)}{σ:St}{H:Hp}{s:Shared}
end
section
variable {P:Program}{w:World}{K:O1}{mg:Str->Option Value}{base:Heap}
end
section
variable {X:Cx}{k:Nat}{x:Str}{ps ks:List Str}{gV:List V->List V->List V}{sp:Sp}{E:XK}{C:Addr}{p pos kpos:Pos}{e:Expr}{es:List Expr}{kws:List Keyword}{te:TE}{t tk:TA}{CX:B4}{nm:Option Str}{f:Addr}{fd:FuncData}{g:List Value->List Value->List Value}
end
section
variable {X:Cx}{pins:List (Addr×Obj)}{σ:St}{H:Hp}{s:Shared}
end
section
variable {κ:Type}[DecidableEq κ]
noncomputable def Bu (kvs:List (κ×V))(k:κ):Option V:=(kvs.find? fun kv=>decide (kv.1=k)).map (·.2)
noncomputable def Cg (kvs:List (κ×V))(k:κ)(v:V):List (κ×V) :=
 if (kvs.any fun kv=>decide (kv.1=k))=true then kvs.map (fun kv=>if kv.1=k then (kv.1,v) else kv) else kvs++[(k,v)]
theorem Ea {p:κ×V}{r:List (κ×V)}{k:κ}(e:p.1=k):Bu (p::r) k=some p.2:=by simp [Bu,Qt,e]
theorem Eh {p:κ×V}{r:List (κ×V)}{k:κ}(e:¬ p.1=k):Bu (p::r) k=Bu r k:=by simp [Bu,Qt,e]
theorem L8 (k:κ):∀ kvs:List (κ×V),(kvs.any fun kv=>decide (kv.1=k))=(Bu kvs k).isSome
 | []=>rfl
 | p::r=>by
  rw [Tx]
  by_cases e:p.1=k
  ·simp only [Ea e,decide_eq_true e,Bool.true_or,Option.isSome_some]
  ·rw [Eh e,decide_eq_false e,Bool.false_or];exact L8 k r
theorem Zcl (k j:κ)(y:V):∀ kvs:List (κ×V),Bu (kvs.map fun kv=>if kv.1=k then (kv.1,y) else kv) j=(Bu kvs j).map fun x=>if j=k then y else x
 | []=>rfl
 | p::r=>by
  have ih:=Zcl k j y r
  rw [Qa]
  by_cases h:p.1=k
  ·rw [if_pos h]
   by_cases e:p.1=j
   ·rw [Ea (p:=(p.1,y)) e,Ea e,Tv,if_pos (e.symm.trans h)]
   ·rw [Eh (p:=(p.1,y)) e,Eh e,ih]
  ·rw [if_neg h]
   by_cases e:p.1=j
   ·rw [Ea (p:=p) e,Ea e,Tv,if_neg (fun z=>h (e.trans z))]
   ·rw [Eh (p:=p) e,Eh e,ih]
theorem Zc8 (k j:κ)(y:V):∀ kvs:List (κ×V),Bu kvs k=none->Bu (kvs++[(k,y)]) j=if j=k then some y else Bu kvs j
 | [],_=>by
  by_cases e:k=j
  ·rw [if_pos e.symm];exact Ea (p:=(k,y)) e
  ·rw [if_neg (fun z=>e z.symm)];exact Eh (p:=(k,y)) e
 | p::r,hn=>by
  rw [To]
  have hk:¬ p.1=k:=fun z=>by rw [Ea z] at hn;cases hn
  rw [Eh hk] at hn
  have ih:=Zc8 k j y r hn
  by_cases e:p.1=j
  ·rw [Ea e,Ea e,if_neg (fun z=>hk (e.trans z))]
  ·rw [Eh e,Eh e,ih]
theorem Zhq (kvs:List (κ×V))(k j:κ)(y:V):Bu (Cg kvs k y) j=if j=k then some y else Bu kvs j:=by
 unfold Cg
 by_cases a:(kvs.any fun kv=>decide (kv.1=k))=true
 ·rw [if_pos a,Zcl]
  rw [L8] at a
  by_cases e:j=k
  ·obtain ⟨x,hx⟩:=Ta.mp a
   rw [if_pos e,e,hx,Tv,if_pos rfl]
  ·rw [if_neg e]
   cases Bu kvs j with
   | none=>rfl
   | some x=>rw [Tv,if_neg e]
 ·rw [if_neg a]
  refine Zc8 k j y kvs ?_
  rw [L8] at a
  cases q:Bu kvs k with
  | none=>rfl
  | some x=>rw [q] at a;exact (a rfl).elim
theorem Zai (kvs:List (κ×V))(k:κ)(v:V):(Cg kvs k v).length<=kvs.length+1:=by
 unfold Cg
 split
 ·rw [Pa];omega
 ·rw [O9,Ps,Vc];omega
theorem RelO.isSome_eq {o:Option V}{u:Option Value}(r:RelO o u):o.isSome=u.isSome:=by
 cases o with
 | none=>cases u with
  | none=>rfl
  | some _=>exact (show False from r).elim
 | some _=>cases u with
  | none=>exact (show False from r).elim
  | some _=>rfl
theorem KV.val {kvs:List (κ×V)}{vs:List (κ×Value)}(r:KV kvs vs)(k:κ):RelO (Bu kvs k) (valueAt vs k):=by
 unfold KV at r
 induction r with
 | nil=>exact True.intro
 | @cons p q ps qs h t ih =>
  obtain ⟨h1,h2⟩:=h
  by_cases e:p.1=k
  ·have e':q.1=k:=h1.symm.trans e
   have b:valueAt (q::qs) k=some q.2:=by simp [valueAt,Qt,e']
   rw [Ea e,b];exact h2
  ·have e':¬ q.1=k:=fun z=>e (h1.trans z)
   have b:valueAt (q::qs) k=valueAt qs k:=by simp [valueAt,Qt,e']
   rw [Eh e,b];exact ih
theorem KV.any {kvs:List (κ×V)}{vs:List (κ×Value)}(r:KV kvs vs)(k:κ):(kvs.any fun kv=>decide (kv.1=k))=vs.any fun kv=>decide (kv.1=k):=by
 unfold KV at r
 induction r with
 | nil=>rfl
 | cons h t ih=>rw [Tx,Tx,ih,h.1]
theorem KV.repl {kvs:List (κ×V)}{vs:List (κ×Value)}(r:KV kvs vs)(k:κ){y:V}{u:Value}(ry:RelV y u) :
  KV (kvs.map fun kv=>if kv.1=k then (kv.1,y) else kv) (vs.map fun kv=>if kv.1=k then (kv.1,u) else kv):=by
 unfold KV at r ⊢
 induction r with
 | nil=>exact .nil
 | @cons p q ps qs h t ih =>
  rw [Qa,Qa]
  refine .cons ?_ ih
  obtain ⟨h1,h2⟩:=h
  by_cases e:p.1=k
  ·rw [if_pos e,if_pos (h1.symm.trans e)];exact ⟨h1,ry⟩
  ·rw [if_neg e,if_neg (fun z=>e (h1.trans z))];exact ⟨h1,h2⟩
theorem KV.put {kvs:List (κ×V)}{vs:List (κ×Value)}(r:KV kvs vs)(k:κ){y:V}{u:Value}(ry:RelV y u):KV (Cg kvs k y) (stored vs k u):=by
 unfold Cg stored
 rw [r.any k]
 by_cases e:(vs.any fun kv=>decide (kv.1=k))=true
 ·rw [if_pos e,if_pos e];exact r.repl k ry
 ·rw [if_neg e,if_neg e];exact Paired.snoc r ⟨rfl,ry⟩
theorem KV.length {kvs:List (κ×V)}{vs:List (κ×Value)}(r:KV kvs vs):kvs.length=vs.length:=Vf r
end
theorem Mv {P:Program}{w:World}{k:An}{u:Value}(r:RelV (kV k) u):(Da P w).is k u=true:=by
 cases k with
 | inl i=>obtain ⟨t,e⟩:=(show ∃ t,u=Value.int i t from r);subst e;exact Zqp P w i t
 | inr x=>obtain ⟨t,e⟩:=(show ∃ t,u=Value.str x t from r);subst e;exact Zms P w x t
theorem Zc9 {P:Program}{w:World}:∀{ks:List An}{us:List Value},Vals (ks.map kV) us->ItemsAre (Da P w) ks us
 | [],_,r=>by rw [Vl] at r;cases r;exact .nil
 | k::ks,_,r=>by
  rw [Qa] at r
  cases r with
  | cons h t=>exact .cons (Mv h) (Zc9 t)
noncomputable abbrev KT (H:Hp):List (List An×V)->List (List An×Addr×Value)->Prop:=Paired fun p q=>p.1=q.1/\H q.2.1=some (.tup (p.1.map kV))/\RelV p.2 q.2.2
theorem KT.val {H:Hp}{kvs:List (List An×V)}{xs:List (List An×Addr×Value)}(r:KT H kvs xs)(k:List An):RelO (Bu kvs k) ((atKey xs k).map (·.2)):=by
 induction r with
 | nil=>exact True.intro
 | @cons p q ps qs h t ih =>
  obtain ⟨h1,_,h2⟩:=h
  by_cases e:p.1=k
  ·have e':q.1=k:=h1.symm.trans e
   have b:atKey (q::qs) k=some q.2:=by simp [atKey,Qt,e']
   rw [Ea e,b];exact h2
  ·have e':¬ q.1=k:=fun z=>e (h1.trans z)
   have b:atKey (q::qs) k=atKey qs k:=by simp [atKey,Qt,e']
   rw [Eh e,b];exact ih
theorem KT.repl {H:Hp}{kvs:List (List An×V)}{xs:List (List An×Addr×Value)}(r:KT H kvs xs)(k:List An){y:V}{u:Value}(ry:RelV y u) :
  KT H (kvs.map fun kv=>if kv.1=k then (kv.1,y) else kv) (xs.map (putAt k u)):=by
 induction r with
 | nil=>exact .nil
 | @cons p q ps qs h t ih =>
  rw [Qa,Qa]
  refine .cons ?_ ih
  obtain ⟨h1,h2,h3⟩:=h
  unfold putAt
  by_cases e:p.1=k
  ·rw [if_pos e,if_pos (h1.symm.trans e)];exact ⟨h1,h2,ry⟩
  ·rw [if_neg e,if_neg (fun z=>e (h1.trans z))];exact ⟨h1,h2,h3⟩
theorem KT.put {H:Hp}{kvs:List (List An×V)}{xs:List (List An×Addr×Value)}(r:KT H kvs xs)(k:List An){b:Addr}{y:V}{u:Value}(hb:H b=some (.tup (k.map kV)))(ry:RelV y u) :
  KT H (Cg kvs k y) (storedH xs k b u):=by
 have e:(kvs.any fun kv=>decide (kv.1=k))=(atKey xs k).isSome:=by
  rw [L8,(r.val k).isSome_eq,Option.isSome_map]
 unfold Cg storedH
 rw [e]
 by_cases q:(atKey xs k).isSome=true
 ·rw [if_pos q,if_pos q];exact r.repl k ry
 ·rw [if_neg q,if_neg q];exact Paired.snoc r ⟨rfl,hb,ry⟩
theorem KT.keeps {H H':Hp}{kvs:List (List An×V)}{xs:List (List An×Addr×Value)}(r:KT H kvs xs)(ht:∀ b ys,H b=some (.tup ys)->H' b=some (.tup ys)):KT H' kvs xs :=
 Paired.mapP r fun _ _ z=>⟨z.1,ht _ _ z.2.1,z.2.2⟩
section
variable {P:Program}{w:World}{H:Hp}{h:Heap}{a:Addr}
theorem Zc1 {u:HO}(ok:HOk P w H h)(e:Rd H a u):ObjOk P w H h a u:=e.ok ok
theorem Lh {kvs:List (An×V)}(ok:HOk P w H h)(e:Rd H a (.dK kvs)):kvs.length<=sizeLine/\(a == sysModules)=false/\∃ vs,KV kvs vs/\h.DictOf (Da P w) a vs :=
 show ObjOk P w H h a (.dK kvs) from Zc1 ok e
theorem Zi0 {kvs:List (An×V)}(ok:HOk P w H h)(e:H a=some (.dK kvs)):kvs.length<=sizeLine/\(a == sysModules)=false/\∃ vs,KV kvs vs/\h.DictOf (Da P w) a vs:=Lh ok (.inl e)
theorem Ll {ks:List An}(ok:HOk P w H h)(e:H a=some (.tup (ks.map kV))):(tupleKind (Da P w)).is h ks a:=by
 obtain ⟨_,its,r,o,h1,h2,n,h3⟩:=(show ObjOk P w H h a (.tup (ks.map kV)) from ok a _ e)
 exact ⟨o,its.toArray,n,h1,h2,h3,by simpa using Zc9 r⟩
theorem Lk {kvs:List (List An×V)}(ok:HOk P w H h)(e:Rd H a (.dT kvs)):kvs.length<=sizeLine/\(a == sysModules)=false /\
  ∃ xs,KT H kvs xs/\h.DictOfH (tupleKind (Da P w)) a xs:=by
 obtain ⟨z,y,xs,r,o,es,ep,h1,h2,h3,h4,h5⟩:=(show ObjOk P w H h a (.dT kvs) from Zc1 ok e)
 refine ⟨z,y,xs,r,o,es,ep,h1,h2,h3,h4,fun x hx=>?_,h5⟩
 have all:∀{l:List (List An×V)}{m:List (List An×Addr×Value)},KT H l m->∀ x∈m,(tupleKind (Da P w)).is h x.1 x.2.1:=by
  intro l m q
  induction q with
  | nil=>intro x hx;exact nomatch hx
  | @cons p q ps qs hq t ih =>
   intro x hx
   rcases Pb.mp hx with e | hx
   ·subst e
    exact Ll ok (by rw [<- hq.1];exact hq.2.1)
   ·exact ih x hx
 exact all r x hx
theorem Zpy {kvs:List (List An×V)}(ok:HOk P w H h)(e:H a=some (.dT kvs)):kvs.length<=sizeLine/\(a == sysModules)=false /\
  ∃ xs,KT H kvs xs/\h.DictOfH (tupleKind (Da P w)) a xs:=Lk ok (.inl e)
end
noncomputable def DGet (H:Hp)(a:Addr)(y:V)(r:Option V):Prop :=
 (∃ kvs k,Rd H a (.dK kvs)/\y=kV k/\r=Bu kvs k)\/∃ kvs k b,Rd H a (.dT kvs)/\y=.ref b/\H b=some (.tup (k.map kV))/\r=Bu kvs k
noncomputable def DPut (H:Hp)(a:Addr)(y v:V)(H':Hp):Prop :=
 (∃ kvs k,H a=some (.dK kvs)/\y=kV k/\kvs.length < sizeLine/\H'=upd H a (.dK (Cg kvs k v))) \/
 ∃ kvs k b,H a=some (.dT kvs)/\y=.ref b/\H b=some (.tup (k.map kV))/\kvs.length < sizeLine/\H'=upd H a (.dT (Cg kvs k v))
theorem DGet.k {H:Hp}{a:Addr}{kvs:List (An×V)}{k:An}(e:H a=some (.dK kvs)):DGet H a (kV k) (Bu kvs k):=.inl ⟨kvs,k,.inl e,rfl,rfl⟩
theorem DGet.t {H:Hp}{a b:Addr}{kvs:List (List An×V)}{k:List An}(e:H a=some (.dT kvs))(eb:H b=some (.tup (k.map kV))):DGet H a (.ref b) (Bu kvs k):=.inr ⟨kvs,k,b,.inl e,rfl,eb,rfl⟩
theorem DPut.k {H:Hp}{a:Addr}{kvs:List (An×V)}{k:An}{v:V}(e:H a=some (.dK kvs))(hl:kvs.length < sizeLine):DPut H a (kV k) v (upd H a (.dK (Cg kvs k v))):=.inl ⟨kvs,k,e,rfl,hl,rfl⟩
theorem DPut.t {H:Hp}{a b:Addr}{kvs:List (List An×V)}{k:List An}{v:V}(e:H a=some (.dT kvs))(eb:H b=some (.tup (k.map kV)))(hl:kvs.length < sizeLine) :
  DPut H a (.ref b) v (upd H a (.dT (Cg kvs k v))):=.inr ⟨kvs,k,b,e,rfl,eb,hl,rfl⟩
section
variable {X:Cx}{pins:List (Addr×Obj)}{σ:St}{H:Hp}{s:Shared}{a:Addr}{y v:V}{u r:Value}{o:Option V}{A:Around}{E:Value->Shared->Prop}
theorem Inv.big (I:Inv X pins σ H s):sysModules < s.heap.objs.size:=by
 have h:mainGlobals < s.heap.objs.size:=(I.mod.glob.keeps I.bk).lt
 exact Nat.lt_trans (by decide) h
theorem Zr1 {Q:Value->Shared->Prop}(hu:A.units+1 < cLine)(I:Inv X pins σ H s)(g:DGet H a y (some v))(ry:RelV y u)(h:∀ w' s',Inv X pins σ H s'->RelV v w'->Q w' s') :
  wpAny (model X.prog X.w) A (getItem (.ref a) u) Q E s:=by
 rcases g with ⟨kvs,k,e,ey,l⟩ | ⟨kvs,k,b,e,ey,eb,l⟩
 ·subst ey
  obtain ⟨z,hd,vs,rel,dd⟩:=Lh I.hok e
  obtain ⟨w',hw,rw'⟩:=RelO.some_of (v:=v) (o:=valueAt vs k) (by rw [l];exact rel.val k)
  exact wpAny_getItem_of (Mv ry) dd.mapOf hw (h w' _ (I.tok _) rw')
 ·subst ey
  cases (show u=Value.ref b from ry)
  obtain ⟨z,hd,xs,rel,dd⟩:=Lk I.hok e
  obtain ⟨w',hw,rw'⟩:=RelO.some_of (v:=v) (o:=(atKey xs k).map (·.2)) (by rw [l];exact rel.val k)
  obtain ⟨p,hp,hp2⟩:=R3.mp hw
  refine wpAny_getItem_heap (tupleKind_room_in1 hu) (Ll I.hok eb) dd hp ?_
  rw [hp2]
  exact h w' _ (I.tok _) rw'
theorem d_in {Q:Value->Shared->Prop}(hu:A.units+1 < cLine)(I:Inv X pins σ H s)(g:DGet H a y o)(ry:RelV y u)(h:∀ s',Inv X pins σ H s'->Q (.bool o.isSome) s') :
  wpAny (model X.prog X.w) A (compareOp .In u (.ref a)) Q E s:=by
 rcases g with ⟨kvs,k,e,ey,l⟩ | ⟨kvs,k,b,e,ey,eb,l⟩
 ·subst ey
  obtain ⟨z,hd,vs,rel,dd⟩:=Lh I.hok e
  refine wpAny_in_of (Mv ry) hd dd.mapOf ?_
  rw [<- (rel.val k).isSome_eq,<- l]
  exact h _ (I.tok _)
 ·subst ey
  cases (show u=Value.ref b from ry)
  obtain ⟨z,hd,xs,rel,dd⟩:=Lk I.hok e
  refine wpAny_in_heap (tupleKind_room_in1 hu) (Ll I.hok eb) hd dd ?_
  have q:=(rel.val k).isSome_eq
  rw [Option.isSome_map] at q
  rw [<- q,<- l]
  exact h _ (I.tok _)
theorem Zdz {h':Heap}{t':Nat}{ob:HO}(I:Inv X pins σ H s)(mu:Mut (H a))(hs:Pl a s.heap h')(he:∃ q,h'.get? a=some q)(new:ObjOk X.prog X.w (upd H a ob) h' a ob) :
  Inv X pins σ (upd H a ob) { s with heap:=h',toks:=t' } :=
 I.write (x:=a) (e:=a) mu (.inl rfl) (fun b q hb z=>(hs.2 b hb).trans z) he new
theorem Zp6 {P:Program}{w:World}{H':Hp}{h':Heap}{kvs:List (An×V)}{vs:List (An×Value)}(z:kvs.length<=sizeLine)(hd:(a == sysModules)=false)(rel:KV kvs vs)(dd:h'.DictOf (Da P w) a vs) :
  ObjOk P w H' h' a (.dK kvs):=⟨z,hd,vs,rel,dd⟩
end
section
variable {X:Cx}{pins:List (Addr×Obj)}{σ:St}{H:Hp}{s:Shared}{a:Addr}{kvs:List (An×V)}{k:An}{u:Value}{A:Around}{E:Value->Shared->Prop}
end
noncomputable def Zac (i:Expr):Prop:=∀ ov iv,subscripted i false ov iv=operate [ov,iv] (getItem ov iv)
theorem Zo7 {prog:Program}{w:World}{A:Around}{E:Value->Shared->Prop}{s:Shared}{env:Env}{value slice:Expr}{pos:Pos}{T id:String}{Q:Value->Shared->Prop}
  (hl:typeLookup (.type T) "__getitem__" = pure (some (.builtin id))) (hs:Zac slice)
  (h:wpAny (model prog w) A (eval value env) (fun o s₁=>wpAny (model prog w) A (eval slice env) (fun i s₂=>s₂.TypeIs o T/\wpAny (model prog w) A (getItem o i) Q E s₂) E s₁) E s) :
  wpAny (model prog w) A (eval (.Subscript value slice pos) env) Q E s:=by
 refine Subscript_ (Py h (fun o s₁ h₁=>Py h₁ (fun i s₂ h₂=>?_) fun _ _ x=>x) fun _ _ x=>x)
 obtain ⟨hT,h₂⟩:=h₂
 unfold subscriptTail
 refine O2 ?_
 rw [getitemInPython_of_ne hT.not_modules]
 refine O2 (Wo hT hl ?_)
 have fin:wpAny (model prog w) A (subscripted slice false o i) (fun r s₃=>wpAny (model prog w) A (letTemporaryGo value o r >>= fun _=>pure r) Q E s₃) E s₂:=by
  rw [hs o i]
  exact wpAny_operating (Py h₂ (fun r s₃ h₃=>O2 (wpAny_letTemporaryGo (O3 h₃))) fun _ _ x=>x)
 first
  | exact O3 (O2 fin)
  | exact O2 (O3 (O2 fin))
  | exact O2 fin
theorem Zq1 {X:Cx}{pins:List (Addr×Obj)}{σ:St}{H:Hp}{s:Shared}{a:Addr}{y:V}{o:Option V}(I:Inv X pins σ H s)(g:DGet H a y o):s.TypeIs (.ref a) "dict" := by
 rcases g with ⟨kvs,k,e,_,_⟩ | ⟨kvs,k,b,e,_,_,_⟩
 ·obtain ⟨_,_,vs,_,dd⟩:=Lh I.hok e
  exact dd.typeIs
 ·obtain ⟨_,_,xs,_,dd⟩:=Lk I.hok e
  exact dd.typeIs
noncomputable def Zhc (td ty:TE):TE:=fun σ H Q=>td σ H fun x H1=>ty σ H1 fun y H2=>∃ a v,x=.ref a/\DGet H2 a y (some v)/\Q v H2
noncomputable def tDIn (ty td:TE):TE:=fun σ H Q=>ty σ H fun y H1=>td σ H1 fun x H2=>∃ a o,x=.ref a/\DGet H2 a y o/\Q (.bl o.isSome) H2
section
variable {X:Cx}{o i e value:Expr}{pos pos' tpos:Pos}{td ty tv:TE}
theorem Zh3 (hu:X.A.units+1 < cLine)(ho:PE X o td)(hi:PE X i ty)(hs:Zac i):PE X (.Subscript o i pos) (Zhc td ty):=by
 intro pins s σ H Q I h
 refine Zo7 PySem.F.slot_dict_getitem.lookup hs (Aj (ho pins s σ H _ I h) fun u s1 zq=>?_)
 obtain ⟨x,H1,I1,rx,q1⟩:=zq
 refine Aj (hi pins s1 σ H1 _ I1 q1) fun iv s2 zq=>?_
 obtain ⟨y,H2,I2,ry,a,v,ex,g,q2⟩:=zq
 subst ex
 obtain rfl:u=Value.ref a:=rx
 exact ⟨Zq1 I2 g,Zr1 hu I2 g ry fun w' s3 I3 rw'=>⟨v,H2,I3,rw',q2⟩⟩
theorem Zkq (hu:X.A.units+1 < cLine)(hi:PE X i ty)(ho:PE X o td):PC X .In i o (tDIn ty td):=by
 intro pins s σ H Q I h
 refine Aj (hi pins s σ H _ I h) fun iv s1 zq=>?_
 obtain ⟨y,H1,I1,ry,q1⟩:=zq
 refine Aj (ho pins s1 σ H1 _ I1 q1) fun u s2 zq=>?_
 obtain ⟨x,H2,I2,rx,a,ov,ex,g,q2⟩:=zq
 subst ex
 obtain rfl:u=Value.ref a:=rx
 exact d_in hu I2 g ry fun s3 I3=>⟨.bl ov.isSome,H2,I3,rfl,q2⟩
end
theorem Zry {P:Program}{w:World}{H:Hp}(h:Heap)(hb:sysModules < h.objs.size):ObjOk P w H (h.push { cls:=.type "dict",data:=.dict #[] }) h.objs.size (.dK []) :=
 ⟨Pw _,beq_eq_false_iff_ne.mpr (Pc (Pg hb)),[],.nil,Heap.DictOf.new h⟩
theorem Zp5 {P:Program}{w:World}{H:Hp}(h:Heap)(hb:sysModules < h.objs.size):ObjOk P w H (h.push { cls:=.type "dict",data:=.dict #[] }) h.objs.size (.dT []) :=
 ⟨Pw _,beq_eq_false_iff_ne.mpr (Pc (Pg hb)),[],.nil,_,#[],0,Pe _ rfl,⟨rfl,rfl,rfl⟩,rfl,rfl,List.nodup_nil⟩
section
variable {X:Cx}{pos:Pos}
end
section
variable {X:Cx}{pins:List (Addr×Obj)}{σ:St}{H:Hp}{s:Shared}{a:Addr}{y d:V}{u r:Value}{o:Option V}{A:Around}{E:Value->Shared->Prop}
end
section
variable {X:Cx}{o e f:Expr}{apos cpos:Pos}{td ty tx:TE}
end
section
variable {X:Cx}{pins:List (Addr×Obj)}{σ:St}{H:Hp}{s:Shared}{a:Addr}{kvs:List (An×V)}{A:Around}{E:Value->Shared->Prop}
end
section
variable {X:Cx}{pins:List (Addr×Obj)}{σ:St}{H:Hp}{s:Shared}{a:Addr}{y:V}{u:Value}{A:Around}{E:Value->Shared->Prop}
end
end L2
namespace PySem
theorem Zkx:typeLookup (.type "list") "keys" = pure none:=by rw [Tu,Te];kernel_rfl
theorem Zoe {prog:Program}{w:World}{A:Around}{E:Value->Shared->Prop}{s:Shared}{a:Addr}{o:Obj}{xs:Array Value}{k:Nat}{name:Str}{Q:Option Value->Shared->Prop}
  (hx:s.heap.get? a=some o) (hc:o.cls=.type "list") (hdat:o.data=.seq xs k) (hd:o.dict=none) (hmiss:typeLookup (.type "list") name=pure none) (hname:(["__module__", "__name__", "__qualname__", "__doc__", "__annotations__"]:List Str).contains name=false) (hA:A.handled=none)
  (h:∀ h' tk,(∀ b ob,s.heap.get? b=some ob->h'.get? b=some ob)->Q none { s with heap:=h',toks:=tk }) (hsz:name.length+100<=sizeLine:=by size_fits) :
  wpAny (model prog w) A (getAttr? (.ref a) name) Q E s:=by
 obtain ⟨c,dct,dat,sl⟩:=o
 simp only at hc hdat hd
 subst hc hdat hd
 obtain ⟨hp,g,d,tk,os⟩:=s
 have hT:∀ tk',(⟨hp,g,d,tk',os⟩:Shared).TypeIs (.ref a) "list" := fun _=>⟨_,hx,rfl⟩
 have f1:=sub_AttributeError
 have f3:=Vu.lookup
 have f4:=Vu.bind (.ref a)
 have f5:=am_list_getattr_none
 unfold getAttr? getAttrBy? getAttrBy
 repeat (any_goals (first | assumption | exact hT _ | ((with_reducible show wpAny _ _ (call (Value.builtin "list.__getattribute__") _ _) _ _ _);refine Q3 Vu (hT _) am_entry_list_getattribute (F.args_list_getattribute_2 _ _) (meets_getattribute_miss_list a xs k sl name _ hmiss hname hsz) ⟨hx,hA,fun h' tk' e hx'=>?_⟩) | wp_step))
 obtain ⟨t',u',he⟩:=hx'.there
 unfold getattributeRaised
 repeat (any_goals (first | assumption | wp_step))
 exact h _ _ hx'.keeps
namespace F
theorem entry_dict_update_loop:entryFor table "dict.update.loop" = some Builtin.«dict.update.loop»:=entryFor_of_tree (by kernel_rfl)
theorem plain_dict_update_loop:plainId "dict.update.loop" = true:=by decide +kernel
end F
end PySem
namespace L2
open PySem PySem.Spec PyProof.Rows
section
variable {X:Cx}{pins:List (Addr×Obj)}{σ:St}{H:Hp}{s:Shared}{a:Addr}{y v:V}{u r:Value}{A:Around}{E:Value->Shared->Prop}
theorem Znu {H':Hp}{Q:Unit->Shared->Prop}(hu:A.units < cLine)(I:Inv X pins σ H s)(g:DPut H a y v H')(ry:RelV y u)(rv:RelV v r)(h:∀ s',Inv X pins σ H' s'->Pl a s.heap s'.heap->Q () s') :
  wpAny (model X.prog X.w) A (dictSet a u r) Q E s:=by
 rcases g with ⟨kvs,k,e,ey,l,eH⟩ | ⟨kvs,k,b,e,ey,eb,l,eH⟩
 ·subst ey eH
  obtain ⟨z,hd,vs,rel,dd⟩:=Zi0 I.hok e
  have hz:vs.length<=sizeLine:=by rw [<- rel.length];exact z
  have hl:(Cg kvs k v).length<=sizeLine:=by have:=Zai kvs k v;omega
  refine wpAny_dictSet_pairs (hsz:=hz) (Mv ry) dd fun h' dd' hs=>h _ ?_ hs
  have he:∃ q,h'.get? a=some q:=let ⟨q,_,_,hq,_⟩:=dd';⟨q,hq⟩
  exact Zdz I (by rw [e];exact True.intro) hs he (Zp6 hl hd (rel.put k rv) dd')
 ·subst ey eH
  cases (show u=Value.ref b from ry)
  obtain ⟨z,hd,xs,rel,dd⟩:=Zpy I.hok e
  have hz:xs.length<=sizeLine:=by rw [<- Vf rel];exact z
  have hl:(Cg kvs k v).length<=sizeLine:=by have:=Zai kvs k v;omega
  refine wpAny_dictSet_heap (hsz:=hz) hu (Ll I.hok eb) dd fun h' dd' hs=>h _ ?_ hs
  obtain ⟨q,es,ep,hq,h2,h3,h4,_,h5⟩:=dd'
  refine Zdz I (by rw [e];exact True.intro) hs ⟨q,hq⟩ ⟨hl,hd,_,(rel.put k eb rv).keeps fun c ys ec=>?_,q,es,ep,hq,h2,h3,h4,h5⟩
  rw [Af (Df ec e (fun z=>nomatch z))]
  exact ec
theorem Zk0 {R:Result->Shared->Prop}{p it d:Addr}{xs:List V}{Hs:Nat->Hp}{res:Value}(hh:A.handled=none)(hu:A.units+1 < cLine)(hdi:d≠it)(hd:∀ i,i<=xs.length->SqL X.K (Hs i) p xs)(hf:∀ i,FpOk X pins (Hs i) it)
  (hs:∀ i x,xs[i]?=some x->∃(c:Addr)(y v:V),x=.ref c/\SqT X.K (Hs i) c [y,v]/\DPut (Hs i) d y v (Hs (i+1)))
  (fin:∀ s',Inv X pins σ (Hs xs.length) s'->R (.ok (.ret res)) s') :
  ∀(k i:Nat)(s:Shared),xs.length - i=k->i<=xs.length->Inv X pins σ (Hs i) s->s.heap.IsListIter it p i ->
  codeAny (model X.prog X.w) A (.builtin "dict.update.loop" ⟨[.ref d,.ref it,rawInt i,res],[]⟩) R s:=by
 intro k
 induction k with
 | zero =>
  intro i s hk hi I st
  have hin:i=xs.length:=by omega
  subst hin
  obtain ⟨its,rv,pl,hz⟩:=I.list (hd _ hi)
  obtain ⟨f0,f1,f2,f3,f4,f5⟩:=hf xs.length
  have hl:=rv.length
  refine So PySem.F.entry_dict_update_loop ?_
  rw [Sh PySem.F.plain_dict_update_loop _]
  show wpAny _ A.in1 (pyNext (.ref it) >>= _) _ _ s
  refine O2 (wpAny_pyNext_list_end hh st pl.isList (by simp;omega) fun h' eb=>?_)
  have I':=I.turned (t':=s.toks) (fun b o hb e=>eb b o hb e) f0 f1 f3 f4 f5
  exact O2 (O3 (O3 (fin _ I')))
 | succ k ih =>
  intro i s hk hi I st
  have hlt:i < xs.length:=by omega
  obtain ⟨its,rv,pl,hz⟩:=I.list (hd _ hi)
  obtain ⟨c,y,v,ex,hc,hput⟩:=hs i _ (O5 hlt)
  obtain ⟨u,hu',ru⟩:=rv.get (O5 hlt)
  rw [ex] at ru
  cases ru
  obtain ⟨f0,f1,f2,f3,f4,f5⟩:=hf i
  refine So PySem.F.entry_dict_update_loop ?_
  rw [Sh PySem.F.plain_dict_update_loop _]
  show wpAny _ A.in1 (pyNext (.ref it) >>= _) _ _ s
  refine O2 (wpAny_pyNext_list_item st pl.isList (x:=.ref c) (by simpa using hu') fun h' st' sb=>?_)
  have I1:Inv X pins σ (Hs i) { s with heap:=h' }:=I.turned (t':=s.toks) (fun b o hb e=>(sb.2 b hb).trans e) f0 f1 f3 f4 f5
  obtain ⟨its2,rv2,pt,hz2⟩:=I1.tuple hc
  obtain ⟨u1,u2,rfl,r1,r2⟩:∃ u1 u2,its2=[u1,u2]/\RelV y u1/\RelV v u2:=by
   cases rv2 with
   | cons r1 t=>cases t with
    | cons r2 t=>cases t;exact ⟨_,_,rfl,r1,r2⟩
  obtain ⟨ot,et,ct,nt,dt⟩:=pt
  obtain ⟨oc,od,oda,osl⟩:=ot
  cases ct
  cases dt
  refine O2 (P9 ?_)
  refine O2 (wpAny_tryCatch ?_)
  have hT:(⟨h',s.gens,s.drawn,s.toks,s.os⟩:Shared).TypeIs (.ref c) "tuple" := ⟨_,et,rfl⟩
  unfold Builtin.Dict.pairItems
  refine O2 (Sv hT ?_)
  rw [if_pos (by decide)]
  refine O2 ?_
  unfold seqItems?
  refine O2 (wpAny_load et (O3 (O3 ?_)))
  show wpAny _ A.in1 (holding [u1,u2] (dictSet d u1 u2)) _ _ _
  refine P9 (Znu (by exact hu) I1 hput r1 r2 fun s2 I2 sb2=>?_)
  refine O3 ⟨Sr PySem.F.plain_dict_update_loop _,?_⟩
  have e1:rawInt ((i:Int)+1)=rawInt (((i+1:Nat)):Int):=rfl
  rw [e1]
  exact ih (i+1) s2 (by omega) hlt I2 (st'.at fun o e=>(sb2.2 it (Pc hdi)).trans e)
noncomputable def Bs {κ:Type}[DecidableEq κ](kvs:List (κ×V))(l:List (κ×V)):List (κ×V):=l.foldl (fun a kv=>Cg a kv.1 kv.2) kvs
theorem Zhi {κ:Type}[DecidableEq κ](l:List (κ×V)):∀ kvs:List (κ×V),(Bs kvs l).length<=kvs.length+l.length:=by
 induction l with
 | nil=>intro kvs;exact O4 _
 | cons kv r ih =>
  intro kvs
  have h1:=ih (Cg kvs kv.1 kv.2)
  have h2:=Zai kvs kv.1 kv.2
  rw [Ps]
  show (Bs (Cg kvs kv.1 kv.2) r).length<=_
  omega
theorem Zce {κ:Type}[DecidableEq κ]{l:List (κ×V)}{i:Nat}{kv:κ×V}(h:l[i]?=some kv)(kvs:List (κ×V)):Bs kvs (l.take (i+1))=Cg (Bs kvs (l.take i)) kv.1 kv.2:=by
 unfold Bs
 rw [Ra,h,List.foldl_append]
 rfl
noncomputable def Zgv (K:O1):List V->Hp->VK->Prop:=fun xs H Q=>∃(p:Addr)(vs:List V),xs=[.ref p]/\SqL K H p vs /\
 ((∃ kvs:List (An×V),Al (fun x (kv:An×V)=>∃ a,x=.ref a/\SqT K H a [kV kv.1,kv.2]) vs kvs/\∀ d,H d=none->Q (.ref d) (upd H d (.dK (Bs [] kvs)))) \/
   (∃ kvs:List (List An×V),Al (fun x (kv:List An×V)=>∃ a b,x=.ref a/\SqT K H a [.ref b,kv.2]/\H b=some (.tup (kv.1.map kV))) vs kvs/\∀ d,H d=none->Q (.ref d) (upd H d (.dT (Bs [] kvs)))))
theorem Zfr {p:Addr}{vs:List V}{Q:VK}{Hs:Nat->Hp}(hu:A.units+3 < cLine)(hh:A.handled=none)(I:Inv X pins σ H s)(hq:SqL X.K H p vs)(d:Addr)(hdd:d=s.heap.objs.size)
  (h0:Inv X pins σ (Hs 0) { s with heap:=s.heap.push { cls:=.type "dict",data:=.dict #[] } }) (hs0:∀ i b,H b=none->b≠d->Hs i b=none) (hsd:∀ i,i<=vs.length->SqL X.K (Hs i) p vs)
  (hs:∀ i x,vs[i]?=some x->∃(c:Addr)(y v:V),x=.ref c/\SqT X.K (Hs i) c [y,v]/\DPut (Hs i) d y v (Hs (i+1))) (q:Q (.ref d) (Hs vs.length)) :
  wpAny (model X.prog X.w) A (call (.type "dict") [.ref p]) (EP X pins σ Q) E s:=by
 refine callType_codes (Q₁:=fun obj s₁=>obj=.ref s.heap.objs.size/\s₁={ s with heap:=s.heap.push { cls:=.type "dict",data:=.dict #[] } }) F.kt_called_dict (F.kt_typeCall_dict_1 _) F.entry_dict_init (kt_code_dict_new _ ⟨rfl,rfl⟩) ?_
 rintro obj s₁ ⟨rfl,rfl⟩
 have hnT:({ s with heap:=s.heap.push { cls:=.type "dict",data:=.dict #[] } }:Shared).TypeIs (.ref s.heap.objs.size) "dict" := ⟨_,Pe _ rfl,rfl⟩
 refine ⟨hnT,F.args_dict_init_2 _ _,?_⟩
 unfold Builtin.«dict.__init__»
 refine O2 ?_
 unfold Builtin.Dict.selfAndRest
 refine O2 (wpAny_notOrdered_dict hnT ?_)
 show wpAny _ _ (pure (s.heap.objs.size,[Value.ref p])) _ _ _
 refine O3 ?_
 show wpAny _ _ (Builtin.Dict.updateFrom "dict.__init__" s.heap.objs.size (.ref p) [] .none) _ _ _
 subst hdd
 obtain ⟨its,rv,pl,hz⟩:=h0.list (hsd 0 (Pw _))
 have hsz:s.heap.objs.size < (s.heap.push { cls:=Value.type "dict",data:=Data.dict #[] }).objs.size:=by rw [P8];exact U3 _
 generalize hs1:({ s with heap:=s.heap.push { cls:=.type "dict",data:=.dict #[] } }:Shared)=s1 at *
 have hsz1:s.heap.objs.size < s1.heap.objs.size:=by rw [<- hs1];exact hsz
 obtain ⟨ol,nl,el,cl,dn,dl⟩:=pl
 unfold Builtin.Dict.updateFrom
 refine O2 (Sv ⟨_,el,cl⟩ ?_)
 rw [if_pos (by decide)]
 refine O2 (Zoe el cl dl dn Zkx (by decide +kernel) hh (fun h2 tk2 kp=>?_) (by decide +kernel))
 rw [if_pos (by decide)]
 refine O2 (Sy ?_)
 have I2:Inv X pins σ (Hs 0) { s1 with heap:=h2,toks:=tk2 }:=h0.kept kp
 have pl2:h2.IsList p its.toArray:=⟨ol,kp _ _ el,cl,nl,dl⟩
 refine O2 (Tk pl2 ?_)
 have hsz2:s.heap.objs.size < h2.objs.size:=by
  obtain ⟨on,en,_⟩:=hnT
  exact O8 (kp _ _ en)
 have hHn:∀ i,Hs i h2.objs.size=none:=fun i=>hs0 i _ (I.hok.fresh (Su hsz2)) (Qb hsz2)
 refine O3 ⟨Sr PySem.F.plain_dict_update_loop _,Zk0 (A:=A.in1) (Hs:=Hs) (xs:=vs) (p:=p) hh (by show A.units+1+1 < cLine;omega) (Pg hsz2) hsd (fun i=>I2.fpOk (O4 _) (hHn i)) hs (fun s' I'=>?_) vs.length 0 _ rfl (Pw _) (I2.kept (t':=tk2) fun b o e=>O6 _ e) ⟨_,Pe _ rfl,rfl,rfl⟩⟩
 exact ⟨rfl,.ref s.heap.objs.size,_,I',rfl,q⟩
theorem Zpq (hu:X.A.units+3 < cLine)(hh:X.calm=true):Cb X (.type "dict") (Zgv X.K):=by
 intro pins s σ H xs us Q I r h
 obtain ⟨p,vs,rfl,hq,h⟩:=h
 obtain ⟨u,rfl,rx⟩:=Ij r
 cases rx
 have hf:H s.heap.objs.size=none:=I.hok.fresh (O4 _)
 have hpd:p≠s.heap.objs.size:=by
  obtain ⟨its,rv,⟨o,n,e,_⟩,hz⟩:=I.list hq
  exact Pg (O8 e)
 have hn:vs.length<=sizeLine:=by
  obtain ⟨its,rv,_,hz⟩:=I.list hq
  exact hz
 rcases h with ⟨kvs,al,q⟩ | ⟨kvs,al,q⟩
 ·refine Zfr (Hs:=fun i=>upd H s.heap.objs.size (.dK (Bs [] (kvs.take i)))) hu (I.ok.hd hh) I hq s.heap.objs.size rfl (I.laid (a:=s.heap.objs.size) (o:=.dK []) (t':=s.toks) (fun _ _ q=>O6 _ q) (O4 _) (Zry s.heap I.big)) (fun i b hb hd=>by show upd H _ _ b=none;rw [Af hd];exact hb) (fun i _=>(Same.upd hf).seq hq) (fun i x hx=>?_) ?_
  ·obtain ⟨kv,hkv,c,rfl,hc⟩:=al.get hx
   have hi:i < vs.length:=(Ph.mp hx).1
   refine ⟨c,_,_,rfl,(Same.upd hf).tup hc,?_⟩
   show DPut _ _ _ _ (upd H s.heap.objs.size (.dK (Bs [] (kvs.take (i+1)))))
   rw [Zce hkv]
   have hl:(Bs [] (kvs.take i)).length < sizeLine:=by have:=Zhi (kvs.take i) ([]:List (An×V));rw [Pq] at this;simp only [Vc] at this;omega
   have r:=DPut.k (H:=upd H s.heap.objs.size (.dK (Bs [] (kvs.take i)))) (k:=kv.1) (v:=kv.2) Ad hl
   rw [Gn] at r
   exact r
  ·show Q _ (upd H s.heap.objs.size (.dK (Bs [] (kvs.take vs.length))))
   rw [al.1,Tp]
   exact q _ hf
 ·refine Zfr (Hs:=fun i=>upd H s.heap.objs.size (.dT (Bs [] (kvs.take i)))) hu (I.ok.hd hh) I hq s.heap.objs.size rfl (I.laid (a:=s.heap.objs.size) (o:=.dT []) (t':=s.toks) (fun _ _ q=>O6 _ q) (O4 _) (Zp5 s.heap I.big)) (fun i b hb hd=>by show upd H _ _ b=none;rw [Af hd];exact hb) (fun i _=>(Same.upd hf).seq hq) (fun i x hx=>?_) ?_
  ·obtain ⟨kv,hkv,c,b,rfl,hc,hb⟩:=al.get hx
   have hi:i < vs.length:=(Ph.mp hx).1
   refine ⟨c,_,_,rfl,(Same.upd hf).tup hc,?_⟩
   show DPut _ _ _ _ (upd H s.heap.objs.size (.dT (Bs [] (kvs.take (i+1)))))
   rw [Zce hkv]
   have hl:(Bs [] (kvs.take i)).length < sizeLine:=by have:=Zhi (kvs.take i) ([]:List (List An×V));rw [Pq] at this;simp only [Vc] at this;omega
   have r:=DPut.t (H:=upd H s.heap.objs.size (.dT (Bs [] (kvs.take i)))) (v:=kv.2) Ad ((Same.upd hf) _ _ hb) hl
   rw [Gn] at r
   exact r
  ·show Q _ (upd H s.heap.objs.size (.dT (Bs [] (kvs.take vs.length))))
   rw [al.1,Tp]
   exact q _ hf
end
theorem Room.u1 {k:Nat}{A:Around}(r:Room k A):A.units+1 < cLine:=by have:=r.u200;omega
section
variable {X:Cx}{k:Nat}{x m f:Str}{ps:List Str}{sp:Sp}{E:XK}{C:Addr}{p pos pos' tpos apos:Pos}{e o i value:Expr}{es:List Expr}{ta tv td ty:TE}{t:TA}{CX:B4}{P:Program}{w:World}{mg:Str->Option Value}{base:Heap}{K:O1}
theorem Zd2 (K:O1)(CX:B4)(ps:List Str){pl:Sem Bool}(he:QE X o ta)(hr:Room k X.A)(hx:E6 CX X E)(hP:X.prog=P:=by rfl)(hw:X.w=w:=by rfl)(hK:X.K=K:=by rfl)(hmg:X.mg=mg:=by rfl)(hbs:X.base=base:=by rfl)
  (ht:eval (.Call (.Attribute o m apos) [] [] pos) X.env=(do
   let ov <- eval o X.env
   standAt apos.atName
   let (f,first) <- holding [ov] (getMethod ov m pl)
   callWith pos f first (backTo pos (starEach [] X.env)) (backToKw pos (keywordEach [] X.env))):=by rfl) :
  QE X (.Call (.Attribute o m apos) [] [] pos) (Zhm CX P w K mg base k m ps E ta Gg):=by
 subst hP hw hK hmg hbs
 refine ⟨fun pins s σ H Q I h=>?_⟩
 refine PySem.W.methodCall_KW (pl:=pl) (Aj (he.run pins s σ H _ I h) fun u s1 zq=>?_) ht
 obtain ⟨x,H1,I1,rx,a,C,dx,fs,sp,ex,ea,l,M,q⟩:=zq
 obtain ⟨g,fd,F,c,hm,hb⟩:=M.ex
 subst ex
 obtain rfl:u=Value.ref a:=rx
 refine Zgr I1 ea c hm l ?_
 exact PySem.W.callWith_K0 (first:=[.ref a]) I1.kIn hm.kp (Zaa (us:=[.ref a]) (vs:=[.ref a]) (dvs:=[]) F hr hb .nil hx I1 (.cons rfl .nil) q)
theorem Zdl (K:O1){op:Operator}{rd:V->V->Hp->VK->Prop}(ha:QE X o ta)(hv:QE X value tv)(hop:N5 X op rd)(hK:X.K=K:=by rfl):QS X (.AugAssign (.Attribute o f tpos) op value pos) (Zgh K ta tv rd f):=by subst hK;exact ⟨Zik ha.run hv.run hop⟩
theorem Zgj (K:O1)(hu:X.A.units+200 < cLine)(hh:X.calm=true)(hK:X.K=K:=by rfl):Cb X (.type "dict") (Zgv K):=by subst hK;exact Zpq (by omega) hh
theorem K3 (hu:X.A.units+1 < cLine)(ho:QE X o td)(hi:QE X i ty)(hs:Zac i):QE X (.Subscript o i pos) (Zhc td ty):=⟨Zh3 hu ho.run hi.run hs⟩
theorem Zm3 (hu:X.A.units+1 < cLine)(hi:QE X i ty)(ho:QE X o td):QC X .In i o (tDIn ty td):=⟨Zkq hu hi.run ho.run⟩
noncomputable def Zbp (K:O1):R2:=fun x y H Q=>G4 K x y H Q\/∃(a b:Addr)(xs ys:List V),x=.ref a/\y=.ref b/\H a=some (.tup xs)/\H b=some (.tup ys)/\xs.length+ys.length<=sizeLine/\∀ p H',Same H H'->H' p=some (.tup (xs++ys))->Q (.ref p) H'
theorem Zil:OpR X (binaryOp .Add) (Zbp X.K):=by
 refine op_addA.or ?_
 intro pins s σ H x y v u Q I rx ry h
 obtain ⟨a,b,xs,ys,rfl,rfl,ha,hb,hz,q⟩:=h
 have ha':SqT X.K H a xs:=SqT.of ha
 have hb':SqT X.K H b ys:=SqT.of hb
 by_cases hx:xs=[]
 ·subst hx
  cases rx
  cases ry
  obtain ⟨its,r1,p1,_⟩:=I.tuple ha'
  obtain ⟨its2,r2,p2,_⟩:=I.tuple hb'
  cases r1
  obtain ⟨⟨cls,dd,data,sl⟩,ho,hc,n,hd⟩:=id p1
  obtain ⟨⟨cls2,dd2,data2,sl2⟩,ho2,hc2,n2,hd2⟩:=id p2
  simp only at hc hd hc2 hd2
  subst hc hd hc2 hd2
  exact Vk ⟨_,ho,rfl⟩ ⟨_,ho2,rfl⟩ U4 Vg Um Ui (Uf _ _)
   (tuple_addW0 a b _ _ n n2 dd dd2 sl sl2 (by simp)) ⟨ho,ho2,⟨.ref b,H,I,rfl,q b H (Same.refl H) hb⟩⟩
 ·refine Zeq pins s σ H _ _ v u Q I rx ry ⟨a,b,xs,ys,rfl,rfl,ha',hb',hx,hz,fun e=>?_,fun _ p hp=>q p _ (fun c o e=>by rw [Af (B8 e hp)];exact e) Ad⟩
  subst e
  exact q a H (Same.refl H) (by rw [Qs];exact ha)
theorem Ld (K:O1)(hK:X.K=K:=by rfl):OpR X (binaryOp .Add) (Zbp K):=by subst hK;exact Zil
theorem N6 {a b:Addr}{xs ys:List V}{H:Hp}{Q:VK}(ha:H a=some (.tup xs))(hb:H b=some (.tup ys))(hz:xs.length+ys.length<=sizeLine)(h:∀ p H',Same H H'->H' p=some (.tup (xs++ys))->Q (.ref p) H'):Zbp K (.ref a) (.ref b) H Q:=.inr ⟨a,b,xs,ys,rfl,rfl,ha,hb,hz,h⟩
end
end L2
namespace L2
open PySem
noncomputable def RowT (K:O1)(H:Hp)(v:V)(x:List Nat×Tr):Prop:=∃(a p:Addr)(u:V),v=.ref a/\SqT K H a [.ref p,u]/\H p=some (.tup (Ar x.1))/\TrAt K H u x.2
theorem RowT.same {K:O1}{H H':Hp}(e:SameT H H')(v:V)(x:List Nat×Tr)(h:RowT K H v x):RowT K H' v x:=by
 obtain ⟨a,p,u,r,q,qp,t⟩:=h
 exact ⟨a,p,u,r,e.tup q,(e p).1 _ qp,t.sameT e⟩
theorem Zip {κ:Type}[DecidableEq κ](l:List (κ×V))(kv:κ×V)(kvs:List (κ×V)):Bs kvs (l++[kv])=Cg (Bs kvs l) kv.1 kv.2:=by
 unfold Bs
 rw [List.foldl_append]
 rfl
noncomputable def Dh {κ:Type}[DecidableEq κ](l:List (κ×V))(k:κ):Option V:=(l.reverse.find? fun kv=>decide (kv.1=k)).map (·.2)
theorem Oa {κ:Type}[DecidableEq κ](l:List (κ×V))(kv:κ×V)(k:κ):Dh (l++[kv]) k=if kv.1=k then some kv.2 else Dh l k:=by
 unfold Dh
 rw [Sj,Uo,Vz,Qt]
 by_cases h:kv.1=k
 ·simp [h]
 ·simp [h]
theorem Zb1 {α:Type}{P:List α->Prop}(h0:P [])(h1:∀ l x,P l->P (l++[x]))(l:List α):P l:=by
 rw [<- l.reverse_reverse]
 induction l.reverse with
 | nil=>exact h0
 | cons x r ih=>rw [Tj];exact h1 _ _ ih
theorem Zbg {κ:Type}[DecidableEq κ](l:List (κ×V))(k:κ):Bu (Bs [] l) k=Dh l k:=by
 refine Zb1 (P:=fun l=>Bu (Bs [] l) k=Dh l k) rfl (fun l kv ih=>?_) l
 rw [Zip,Oa,Zhq,ih]
 by_cases h:kv.1=k
 ·rw [if_pos h,if_pos h.symm]
 ·rw [if_neg h,if_neg (Pc h)]
structure Wt where
 pl:List Nat
 ar:List (Str×Str×V)
 came:Bool
structure MS where
 rows:List Rx
 wait:List Wt
 things:List (Str×V)
 steps:Int
noncomputable def A3 (pl:List Nat):List Int:=pl.map fun i:Nat=>((i:Nat):Int)
theorem C9 (pl:List Nat):(A3 pl).map V.int=Ar pl:=by unfold A3 Ar;rw [List.map_map];rfl
noncomputable def Cy (pl:List Nat):List An:=pl.map fun i:Nat=>Sum.inl ((i:Nat):Int)
theorem Kp (pl:List Nat):(Cy pl).map kV=Ar pl:=by unfold Cy Ar;rw [List.map_map];rfl
noncomputable def WtAt (K:O1)(A:Addr->Prop)(H:Hp)(v:V)(x:Wt):Prop:=∃(a p e:Addr)(ev:List V),v=.ref a/\SqT K H a [.ref p,.ref e,.bl x.came]/\H p=some (.tup (Ar x.pl))/\H e=some (.lst ev)/\Al (PrAt K H) ev x.ar/\¬ A e
theorem WtAt.same {K:O1}{A:Addr->Prop}{H H':Hp}(s:SameA A H H')(v:V)(x:Wt)(h:WtAt K A H v x):WtAt K A H' v x:=by
 obtain ⟨a,p,e,ev,h1,h2,h3,h4,h5,h6⟩:=h
 exact ⟨a,p,e,ev,h1,s.1.tup h2,(s.1 p).1 _ h3,s.2 _ _ h6 h4,h5.mono (PrAt.same s.1),h6⟩
theorem WtAt.mono {K:O1}{A B:Addr->Prop}{H:Hp}(s:∀ b,B b->H b≠none->A b)(v:V)(x:Wt)(h:WtAt K A H v x):WtAt K B H v x:=by
 obtain ⟨a,p,e,ev,h1,h2,h3,h4,h5,h6⟩:=h
 exact ⟨a,p,e,ev,h1,h2,h3,h4,h5,fun b=>h6 (s e b (by rw [h4];simp))⟩
noncomputable def RwX (K:O1)(A:Addr->Prop)(H:Hp)(v:V)(x:Rx):Prop:=RwAt K A H v x/\∃(a p o e:Addr),v=.ref a/\SqT K H a [.str x.wd,.ref p,.ref o,.ref e]/\H p=some (.tup (x.pl.map V.int))
theorem RwX.same {K:O1}{A:Addr->Prop}{H H':Hp}(s:SameA A H H')(v:V)(x:Rx)(h:RwX K A H v x):RwX K A H' v x:=by
 obtain ⟨h1,a,p,o,e,r,q,t⟩:=h
 exact ⟨RwAt.same s v x h1,a,p,o,e,r,s.1.tup q,(s.1 p).1 _ t⟩
theorem RwX.mono {K:O1}{A B:Addr->Prop}{H:Hp}(s:∀ b,B b->H b≠none->A b)(v:V)(x:Rx)(h:RwX K A H v x):RwX K B H v x:=⟨RwAt.mono s v x h.1,h.2⟩
noncomputable def RwO (K:O1)(A:Addr->Prop)(H:Hp)(v:V)(y:Rx×Addr×Addr):Prop:=∃(a p:Addr)(ov ev:List V),v=.ref a/\SqT K H a [.str y.1.wd,.ref p,.ref y.2.1,.ref y.2.2]/\SqT K H p (y.1.pl.map V.int)/\H y.2.1=some (.lst ov)/\Al (ThAt K H) ov y.1.ops/\H y.2.2=some (.lst ev)/\Al (PrAt K H) ev y.1.ar/\¬ A y.2.1/\¬ A y.2.2/\y.2.1≠y.2.2
theorem RwO.same {K:O1}{A:Addr->Prop}{H H':Hp}(s:SameA A H H')(v:V)(y:Rx×Addr×Addr)(h:RwO K A H v y):RwO K A H' v y:=by
 obtain ⟨a,p,ov,ev,h1,h2,h3,h4,h5,h6,h7,h8,h9,hn⟩:=h
 exact ⟨a,p,ov,ev,h1,s.1.tup h2,s.1.tup h3,s.2 _ _ h8 h4,h5.mono (ThAt.same s.1),s.2 _ _ h9 h6,h7.mono (PrAt.same s.1),h8,h9,hn⟩
theorem RwO.mono {K:O1}{A B:Addr->Prop}{H:Hp}(s:∀ b,B b->H b≠none->A b)(v:V)(y:Rx×Addr×Addr)(h:RwO K A H v y):RwO K B H v y:=by
 obtain ⟨a,p,ov,ev,h1,h2,h3,h4,h5,h6,h7,h8,h9,hn⟩:=h
 exact ⟨a,p,ov,ev,h1,h2,h3,h4,h5,h6,h7,fun b=>h8 (s _ b (by rw [h4];simp)),fun b=>h9 (s _ b (by rw [h6];simp)),hn⟩
noncomputable def SepR (K:O1)(A:Addr->Prop)(H:Hp)(rv:List V)(rs:List Rx):Prop:=∃ ys:List (Rx×Addr×Addr),ys.map (·.1)=rs/\Al (RwO K A H) rv ys/\∀(i j:Nat)(x y:Rx×Addr×Addr),ys[i]?=some x->ys[j]?=some y->i < j->x.2.1≠y.2.1/\x.2.1≠y.2.2/\x.2.2≠y.2.1/\x.2.2≠y.2.2
theorem SepR.nil {K:O1}{A:Addr->Prop}{H:Hp}:SepR K A H [] []:=⟨[],rfl,.nil,fun i j x y h=>by simp at h⟩
theorem SepR.same {K:O1}{A:Addr->Prop}{H H':Hp}{rv:List V}{rs:List Rx}(h:SepR K A H rv rs)(s:SameA A H H'):SepR K A H' rv rs:=by
 obtain ⟨ys,e,al,d⟩:=h
 exact ⟨ys,e,al.mono (RwO.same s),d⟩
theorem SepR.mono {K:O1}{A B:Addr->Prop}{H:Hp}{rv:List V}{rs:List Rx}(h:SepR K A H rv rs)(s:∀ b,B b->H b≠none->A b):SepR K B H rv rs:=by
 obtain ⟨ys,e,al,d⟩:=h
 exact ⟨ys,e,al.mono (RwO.mono s),d⟩
theorem SepR.add {K:O1}{A:Addr->Prop}{H H':Hp}{rv:List V}{rs:List Rx}{v:V}{y:Rx×Addr×Addr}(h:SepR K A H rv rs)(s:Same H H')(ho:H y.2.1=none)(he:H y.2.2=none)(q:RwO K A H' v y):SepR K A H' (rv++[v]) (rs++[y.1]):=by
 obtain ⟨ys,er,al,d⟩:=h
 refine ⟨ys++[y],by rw [P4,er];rfl,(al.mono (RwO.same s.a)).snoc q,fun i j x z hi hj hij=>?_⟩
 have hjl:j < (ys++[y]).length:=(Ph.mp hj).1
 rw [O9,Pz] at hjl
 have hil:i < ys.length:=by omega
 rw [Qd hil] at hi
 by_cases hjl2:j < ys.length
 ·rw [Qd hjl2] at hj
  exact d i j x z hi hj hij
 ·have ej:j=ys.length:=by omega
  rw [ej] at hj
  simp at hj
  obtain ⟨v',hv⟩:∃ v,rv[i]?=some v:=⟨_,O5 (by rw [al.1];exact hil)⟩
  obtain ⟨x',hx',a2,p2,os2,es2,g1,g2,g3,g4,g5,g6,g7,g8,g9,_⟩:=al.get hv
  rw [hi] at hx'
  cases hx'
  rw [<- hj]
  exact ⟨fun z=>(by rw [z,ho] at g4;cases g4),fun z=>(by rw [z,he] at g4;cases g4),fun z=>(by rw [z,ho] at g6;cases g6),fun z=>(by rw [z,he] at g6;cases g6)⟩
structure Ml where
 m:Addr
 dx:Addr
 fd:Addr
 rd:Addr
 wd:Addr
 td:Addr
noncomputable def Ml.A (L:Ml)(b:Addr):Prop:=b=L.rd\/b=L.wd\/b=L.td
noncomputable def Ml.fs (L:Ml)(n:Int):List (Str×V):=[("forms",.ref L.fd),("rows",.ref L.rd),("waiting",.ref L.wd),("things",.ref L.td),("steps",.int n)]
structure MAt (K:O1)(HB:Hp)(C:Addr)(kvs:List (List An×V))(L:Ml)(H:Hp)(S:MS):Prop where
 base:Same HB H
 nm:HB L.m=none
 nr:HB L.rd=none
 nw:HB L.wd=none
 nt:HB L.td=none
 ins:H L.m=some (.ins C L.dx (L.fs S.steps))
 frm:H L.fd=some (.dT kvs)
 rw:L.rd≠L.wd
 rt:L.rd≠L.td
 wt:L.wd≠L.td
 rows:∃ rv,H L.rd=some (.lst rv)/\Al (RwX K (fun b=>L.A b\/HB b≠none) H) rv S.rows/\SepR K (fun b=>L.A b\/HB b≠none) H rv S.rows
 wait:∃ wv,H L.wd=some (.lst wv)/\Al (WtAt K L.A H) wv S.wait
 things:∃ tv,H L.td=some (.lst tv)/\Al (ThAt K H) tv S.things
noncomputable def SameM (L:Ml)(H H':Hp):Prop:=∀ b o,b≠L.m->¬ L.A b->H b=some o->H' b=some o
theorem SameM.refl (L:Ml)(H:Hp):SameM L H H:=fun _ _ _ _ h=>h
theorem SameM.trans {L:Ml}{H H1 H2:Hp}(a:SameM L H H1)(b:SameM L H1 H2):SameM L H H2:=fun c o h1 h2 h=>b c o h1 h2 (a c o h1 h2 h)
theorem _root_.L2.Same.m {H H':Hp}(e:Same H H')(L:Ml):SameM L H H':=fun b o _ _ h=>e b o h
theorem SameM.trans' {L L':Ml}{H H1 H2:Hp}(a:SameM L H H1)(b:SameM L' H1 H2)(hm:L'.m=L.m)(hr:L'.rd=L.rd)(hw:L'.wd=L.wd)(ht:L'.td=L.td\/H L'.td=none):SameM L H H2:=fun c o h1 h2 h=>by
 refine b c o (by rw [hm];exact h1) ?_ (a c o h1 h2 h)
 rintro (z | z | z)
 ·exact h2 (.inl (z.trans hr))
 ·exact h2 (.inr (.inl (z.trans hw)))
 ·rcases ht with e | e
  ·exact h2 (.inr (.inr (z.trans e)))
  ·rw [<- z,h] at e
   cases e
section
variable {K:O1}{HB H H':Hp}{C:Addr}{kvs:List (List An×V)}{L:Ml}{S:MS}
theorem MAt.ne {o:HO}(M:MAt K HB C kvs L H S){b:Addr}(h:H b=some o)(hi:∀ c d f,o≠.ins c d f)(hl:∀ xs,o≠.lst xs):b≠L.m/\¬ L.A b:=by
 obtain ⟨rv,er,_⟩:=M.rows
 obtain ⟨wv,ew,_⟩:=M.wait
 obtain ⟨tv,et,_⟩:=M.things
 refine ⟨fun z=>?_,?_⟩
 ·rw [z,M.ins] at h;cases h;exact hi _ _ _ rfl
 ·rintro (z | z | z)
  ·rw [z,er] at h;cases h;exact hl _ rfl
  ·rw [z,ew] at h;cases h;exact hl _ rfl
  ·rw [z,et] at h;cases h;exact hl _ rfl
theorem MAt.a (M:MAt K HB C kvs L H S)(e:SameM L H H'):SameA L.A H H':=by
 refine ⟨fun b=>⟨fun xs h=>?_,fun o u h=>?_⟩,fun b xs n h=>?_⟩
 ·obtain ⟨h1,h2⟩:=M.ne h (fun _ _ _ z=>nomatch z) (fun _ z=>nomatch z)
  exact e b _ h1 h2 h
 ·obtain ⟨h1,h2⟩:=M.ne h (fun _ _ _ z=>nomatch z) (fun _ z=>nomatch z)
  exact e b _ h1 h2 h
 ·refine e b _ (fun z=>?_) n h
  rw [z,M.ins] at h
  cases h
theorem MAt.t (M:MAt K HB C kvs L H S)(e:SameM L H H'):SameT H H':=(M.a e).1
theorem MAt.outer (M:MAt K HB C kvs L H S)(e:SameM L H H'):Same HB H':=fun b o h=>by
 refine e b o (fun z=>?_) ?_ (M.base b o h)
 ·rw [z,M.nm] at h;cases h
 ·rintro (z | z | z)
  ·rw [z,M.nr] at h;cases h
  ·rw [z,M.nw] at h;cases h
  ·rw [z,M.nt] at h;cases h
theorem MAt.big (M:MAt K HB C kvs L H S)(e:SameM L H H'):SameA (fun b=>L.A b\/HB b≠none) H H':=(M.a e).mono fun _ h=>.inl h
theorem MAt.new (M:MAt K HB C kvs L H S)(e:Same H H'):MAt K HB C kvs L H' S:=by
 obtain ⟨rv,er,ar,sp⟩:=M.rows
 obtain ⟨wv,ew,aw⟩:=M.wait
 obtain ⟨tv,et,at_⟩:=M.things
 exact ⟨M.base.trans e,M.nm,M.nr,M.nw,M.nt,e _ _ M.ins,e _ _ M.frm,M.rw,M.rt,M.wt,⟨rv,e _ _ er,ar.mono (RwX.same e.a),sp.same e.a⟩,⟨wv,e _ _ ew,aw.mono (WtAt.same e.a)⟩,⟨tv,e _ _ et,at_.mono (ThAt.same e.t)⟩⟩
theorem SameM.upd {x:Addr}{o:HO}(hx:x=L.m\/L.A x):SameM L H (upd H x o):=fun b o' h1 h2 h=>by
 rw [Af (fun z=>?_)]
 ·exact h
 ·rw [z] at h1 h2
  rcases hx with e | e
  ·exact h1 e
  ·exact h2 e
theorem MAt.apart (M:MAt K HB C kvs L H S):L.rd≠L.m/\L.wd≠L.m/\L.td≠L.m/\L.fd≠L.m/\L.fd≠L.rd/\L.fd≠L.wd/\L.fd≠L.td:=by
 obtain ⟨rv,er,_⟩:=M.rows
 obtain ⟨wv,ew,_⟩:=M.wait
 obtain ⟨tv,et,_⟩:=M.things
 exact ⟨Df er M.ins (fun z=>nomatch z),Df ew M.ins (fun z=>nomatch z),Df et M.ins (fun z=>nomatch z),Df M.frm M.ins (fun z=>nomatch z),Df M.frm er (fun z=>nomatch z),Df M.frm ew (fun z=>nomatch z),Df M.frm et (fun z=>nomatch z)⟩
theorem MAt.setSteps (M:MAt K HB C kvs L H S)(n:Int):MAt K HB C kvs L (L2.upd H L.m (.ins C L.dx (L.fs n))) { S with steps:=n }:=by
 have e:SameM L H (L2.upd H L.m (.ins C L.dx (L.fs n))):=SameM.upd (.inl rfl)
 obtain ⟨a1,a2,a3,a4,a5,a6,a7⟩:=M.apart
 obtain ⟨rv,er,ar,sp⟩:=M.rows
 obtain ⟨wv,ew,aw⟩:=M.wait
 obtain ⟨tv,et,at_⟩:=M.things
 exact ⟨M.outer e,M.nm,M.nr,M.nw,M.nt,Ad,by rw [Af a4];exact M.frm,M.rw,M.rt,M.wt,⟨rv,by rw [Af a1];exact er,ar.mono (RwX.same (M.big e)),sp.same (M.big e)⟩,⟨wv,by rw [Af a2];exact ew,aw.mono (WtAt.same (M.a e))⟩,⟨tv,by rw [Af a3];exact et,at_.mono (ThAt.same (M.t e))⟩⟩
theorem MAt.setRows (M:MAt K HB C kvs L H S){rv:List V}{rs:List Rx}(al:Al (RwX K (fun b=>L.A b\/HB b≠none) H) rv rs)(sp:SepR K (fun b=>L.A b\/HB b≠none) H rv rs):MAt K HB C kvs L (L2.upd H L.rd (.lst rv)) { S with rows:=rs }:=by
 have e:SameM L H (L2.upd H L.rd (.lst rv)):=SameM.upd (.inr (.inl rfl))
 obtain ⟨a1,a2,a3,a4,a5,a6,a7⟩:=M.apart
 obtain ⟨wv,ew,aw⟩:=M.wait
 obtain ⟨tv,et,at_⟩:=M.things
 exact ⟨M.outer e,M.nm,M.nr,M.nw,M.nt,by rw [Af (Pc a1)];exact M.ins,by rw [Af a5];exact M.frm,M.rw,M.rt,M.wt,⟨rv,Ad,al.mono (RwX.same (M.big e)),sp.same (M.big e)⟩,⟨wv,by rw [Af (Pc M.rw)];exact ew,aw.mono (WtAt.same (M.a e))⟩,⟨tv,by rw [Af (Pc M.rt)];exact et,at_.mono (ThAt.same (M.t e))⟩⟩
theorem MAt.setWait (M:MAt K HB C kvs L H S){wv:List V}{ws:List Wt}(al:Al (WtAt K L.A H) wv ws):MAt K HB C kvs L (L2.upd H L.wd (.lst wv)) { S with wait:=ws }:=by
 have e:SameM L H (L2.upd H L.wd (.lst wv)):=SameM.upd (.inr (.inr (.inl rfl)))
 obtain ⟨a1,a2,a3,a4,a5,a6,a7⟩:=M.apart
 obtain ⟨rv,er,ar,sp⟩:=M.rows
 obtain ⟨tv,et,at_⟩:=M.things
 exact ⟨M.outer e,M.nm,M.nr,M.nw,M.nt,by rw [Af (Pc a2)];exact M.ins,by rw [Af a6];exact M.frm,M.rw,M.rt,M.wt,⟨rv,by rw [Af M.rw];exact er,ar.mono (RwX.same (M.big e)),sp.same (M.big e)⟩,⟨wv,Ad,al.mono (WtAt.same (M.a e))⟩,⟨tv,by rw [Af (Pc M.wt)];exact et,at_.mono (ThAt.same (M.t e))⟩⟩
theorem MAt.setThings (M:MAt K HB C kvs L H S){tv:List V}{ts:List (Str×V)}(al:Al (ThAt K H) tv ts):MAt K HB C kvs L (L2.upd H L.td (.lst tv)) { S with things:=ts }:=by
 have e:SameM L H (L2.upd H L.td (.lst tv)):=SameM.upd (.inr (.inr (.inr rfl)))
 obtain ⟨a1,a2,a3,a4,a5,a6,a7⟩:=M.apart
 obtain ⟨rv,er,ar,sp⟩:=M.rows
 obtain ⟨wv,ew,aw⟩:=M.wait
 exact ⟨M.outer e,M.nm,M.nr,M.nw,M.nt,by rw [Af (Pc a3)];exact M.ins,by rw [Af a7];exact M.frm,M.rw,M.rt,M.wt,⟨rv,by rw [Af M.rt];exact er,ar.mono (RwX.same (M.big e)),sp.same (M.big e)⟩,⟨wv,by rw [Af M.wt];exact ew,aw.mono (WtAt.same (M.a e))⟩,⟨tv,Ad,al.mono (ThAt.same (M.t e))⟩⟩
noncomputable def Ml.with (L:Ml)(t:Addr):Ml:={ L with td:=t }
theorem MAt.swap (M:MAt K HB C kvs L H S){H1:Hp}{t:Addr}{tv:List V}{ts:List (Str×V)}(e0:Same H H1)(ht:H t=none)(h1:H1 t=some (.lst tv))(al:Al (ThAt K H1) tv ts):MAt K HB C kvs (L.with t) (L2.upd H1 L.m (.ins C L.dx ((L.with t).fs S.steps))) { S with things:=ts }/\SameM L H (L2.upd H1 L.m (.ins C L.dx ((L.with t).fs S.steps))):=by
 have M1:=M.new e0
 have e:SameM L H1 (L2.upd H1 L.m (.ins C L.dx ((L.with t).fs S.steps))):=SameM.upd (.inl rfl)
 obtain ⟨a1,a2,a3,a4,a5,a6,a7⟩:=M1.apart
 obtain ⟨rv0,er0,_⟩:=M.rows
 obtain ⟨wv0,ew0,_⟩:=M.wait
 obtain ⟨rv,er,ar,sp⟩:=M1.rows
 obtain ⟨wv,ew,aw⟩:=M1.wait
 have nm:t≠L.m:=fun z=>by rw [z,M.ins] at ht;cases ht
 have nr:L.rd≠t:=fun z=>by rw [<- z,er0] at ht;cases ht
 have nw:L.wd≠t:=fun z=>by rw [<- z,ew0] at ht;cases ht
 have nb:HB t=none:=by
  cases h:HB t with
  | none=>rfl
  | some o=>rw [M.base _ _ h] at ht;cases ht
 have s2:∀ B:Addr->Prop,SameA B H (L2.upd H1 L.m (.ins C L.dx ((L.with t).fs S.steps))):=fun B=>⟨e0.t.trans (M1.t e),fun b xs _ h=>by
  rw [Af (fun z=>?_)]
  ·exact e0 _ _ h
  ·rw [z,M.ins] at h;cases h⟩
 obtain ⟨rv1,er1,ar1,sp1⟩:=M.rows
 obtain ⟨wv1,ew1,aw1⟩:=M.wait
 have hA:∀ b,(L.with t).A b->H b≠none->L.A b:=fun b hb hn=>by
  rcases hb with z | z | z
  ·exact .inl z
  ·exact .inr (.inl z)
  ·rw [show b=t from z,ht] at hn;exact absurd rfl hn
 refine ⟨⟨M1.outer e,M.nm,M.nr,M.nw,nb,Ad,(Af (show L.fd≠L.m from a4)).trans M1.frm,M.rw,nr,nw,⟨rv1,(Af (show L.rd≠L.m from a1)).trans (e0 _ _ er1),?_,?_⟩,⟨wv1,(Af (show L.wd≠L.m from a2)).trans (e0 _ _ ew1),?_⟩,⟨tv,(Af (show t≠L.m from nm)).trans h1,al.mono (ThAt.same (M1.t e))⟩⟩,(e0.m L).trans e⟩
 ·refine (ar1.mono (RwX.mono fun b hb hn=>?_)).mono (RwX.same (s2 _))
  rcases hb with z | z
  ·exact .inl (hA b z hn)
  ·exact .inr z
 ·refine (sp1.mono fun b hb hn=>?_).same (s2 _)
  rcases hb with z | z
  ·exact .inl (hA b z hn)
  ·exact .inr z
 ·exact (aw1.mono (WtAt.mono hA)).mono (WtAt.same (s2 _))
end
noncomputable def D9 (ar:List (Str×Str×V))(z:Str):Option (Str×V):=(ar.reverse.find? fun x=>decide (x.1=z)).map (·.2)
theorem Zp2 (l:List (Str×Str×V))(x:Str×Str×V)(z:Str):D9 (l++[x]) z=if x.1=z then some x.2 else D9 l z:=by
 unfold D9
 rw [Sj,Uo,Vz,Qt]
 by_cases h:x.1=z
 ·simp [h]
 ·simp [h]
theorem Zkn {K:O1}{H:Hp}:∀(ev:List V)(ar:List (Str×Str×V)),Al (PrAt K H) ev ar->∃ kvs:List (An×V),Al (fun v (kv:An×V)=>∃ a,v=.ref a/\SqT K H a [kV kv.1,kv.2]) ev kvs /\
  ∀ z:Str,(Dh kvs (Sum.inr z)=none/\D9 ar z=none)\/∃ u th,Dh kvs (Sum.inr z)=some u/\D9 ar z=some th/\ThAt K H u th:=by
 intro ev
 refine Zb1 (P:=fun ev=>∀ ar,Al (PrAt K H) ev ar->∃ kvs:List (An×V),Al (fun v (kv:An×V)=>∃ a,v=.ref a/\SqT K H a [kV kv.1,kv.2]) ev kvs /\
  ∀ z:Str,(Dh kvs (Sum.inr z)=none/\D9 ar z=none)\/∃ u th,Dh kvs (Sum.inr z)=some u/\D9 ar z=some th/\ThAt K H u th) ?_ ?_ ev
 ·intro ar al
  have:ar=[]:=Rw al.1.symm
  subst this
  exact ⟨[],.nil,fun z=>.inl ⟨rfl,rfl⟩⟩
 ·intro l v ih ar al
  obtain ⟨l',v',ar',x,e1,rfl,al',a,u,rfl,q,t⟩:=al.last (by simp)
  obtain ⟨rfl,e2⟩:=R9 e1 rfl
  cases e2
  obtain ⟨kvs,ak,hk⟩:=ih ar' al'
  refine ⟨kvs++[(Sum.inr x.1,u)],ak.snoc ⟨a,rfl,q⟩,fun z=>?_⟩
  rw [Oa,Zp2]
  by_cases hz:x.1=z
  ·refine .inr ⟨u,x.2,?_,if_pos hz,t⟩
   rw [if_pos (by rw [hz])]
  ·rw [if_neg hz,if_neg (fun h=>hz (Sum.inr.inj h))]
   exact hk z
section
variable {g:TG}{tt:TT}{te:TE}{σ0:St}{H1:Hp}{D:Addr}{Q:VK}
theorem Zqd {K:O1}{a:Addr}{xs:List V}(Pv:Nat->List V->St->Hp->Prop)(h0:Pv 0 [] σ0 (upd H1 D (.lst [])))(hl:∀ i ys σ H,i<=xs.length->Pv i ys σ H->SqT K H a xs)
  (hs:∀ i x ys σ H,xs[i]?=some x->H D=some (.lst ys)->Pv i ys σ H->Zad g tt te D (Pv (i+1)) x σ H)
  (hd:∀ ys σ H,H D=some (.lst ys)->Pv xs.length ys σ H->Q (.ref D) H):Mb (Go K a) g tt te σ0 H1 D Q:=by
 refine ⟨fun i m σ H=>m=xs.length - i/\i<=xs.length/\∃ ys,H D=some (.lst ys)/\Pv i ys σ H,⟨xs.length,by simp,Pw _,[],Ad,h0⟩,?_⟩
 rintro i m σ H ⟨rfl,hi,ys,hD,p⟩
 have q:=hl i ys σ H hi p
 by_cases hlt:i < xs.length
 ·refine .inr ⟨⟨xs,xs[i],q,by simp [hlt]⟩,fun σ2 H2=>∃ zs,H2 D=some (.lst zs)/\Pv (i+1) zs σ2 H2,fun σ' H' p'=>⟨xs.length - (i+1),by omega,rfl,hlt,p'⟩,fun x H' y=>?_⟩
  obtain ⟨e,y⟩:=y
  subst e
  exact hs i x ys σ _ (y xs q) hD p
 ·have e:i=xs.length:=by omega
  subst e
  exact .inl ⟨⟨xs,q,O4 _⟩,hd ys σ H hD p⟩
end
noncomputable def K0:Tr->Dt
 | .mk _ n _=>n
theorem Zp4 (t:Tr):t=.mk t.wd (K0 t) t.ps:=by cases t;rfl
theorem Zhx {a b:List Nat}(h:Cy a=Cy b):a=b:=by
 unfold Cy at h
 induction a generalizing b with
 | nil=>cases b with
  | nil=>rfl
  | cons y r=>simp at h
 | cons x l ih=>cases b with
  | nil=>simp at h
  | cons y r =>
   simp only [Qa,Wq] at h
   have h1:x=y:=by have:=Sum.inl.inj h.1;omega
   rw [h1,ih h.2]
noncomputable def B6 (ws:List (List Nat×Tr))(pl:List Nat):Option Tr:=(ws.reverse.find? fun x=>decide (x.1=pl)).map (·.2)
theorem Zra (l:List (List Nat×Tr))(x:List Nat×Tr)(pl:List Nat):B6 (l++[x]) pl=if x.1=pl then some x.2 else B6 l pl:=by
 unfold B6
 rw [Sj,Uo,Vz,Qt]
 by_cases h:x.1=pl
 ·simp [h]
 ·simp [h]
theorem Zlb {ws:List (List Nat×Tr)}{pl:List Nat}{t:Tr}(h:B6 ws pl=some t):(pl,t)∈ws:=by
 unfold B6 at h
 obtain ⟨x,hx,rfl⟩:=R3.mp h
 have h1:=List.find?_some hx
 have h2:x.1=pl:=of_decide_eq_true h1
 rw [<- h2]
 exact List.mem_reverse.mp (List.mem_of_find?_eq_some hx)
theorem Zkt {K:O1}{H:Hp}:∀(rows:List V)(ws:List (List Nat×Tr)),Al (RowT K H) rows ws->∃ kvs:List (List An×V),Al (fun v (kv:List An×V)=>∃ a b,v=.ref a/\SqT K H a [.ref b,kv.2]/\H b=some (.tup (kv.1.map kV))) rows kvs /\
  ∀ pl:List Nat,(Dh kvs (Cy pl)=none/\B6 ws pl=none)\/∃ u t,Dh kvs (Cy pl)=some u/\B6 ws pl=some t/\TrAt K H u t:=by
 intro rows
 refine Zb1 (P:=fun rows=>∀ ws,Al (RowT K H) rows ws->∃ kvs:List (List An×V),Al (fun v (kv:List An×V)=>∃ a b,v=.ref a/\SqT K H a [.ref b,kv.2]/\H b=some (.tup (kv.1.map kV))) rows kvs /\
  ∀ pl:List Nat,(Dh kvs (Cy pl)=none/\B6 ws pl=none)\/∃ u t,Dh kvs (Cy pl)=some u/\B6 ws pl=some t/\TrAt K H u t) ?_ ?_ rows
 ·intro ws al
  have:ws=[]:=Rw al.1.symm
  subst this
  exact ⟨[],.nil,fun z=>.inl ⟨rfl,rfl⟩⟩
 ·intro l v ih ws al
  obtain ⟨l',v',ws',x,e1,rfl,al',a,p,u,rfl,q,hp,t⟩:=al.last (by simp)
  obtain ⟨rfl,e2⟩:=R9 e1 rfl
  cases e2
  obtain ⟨kvs,ak,hk⟩:=ih ws' al'
  refine ⟨kvs++[(Cy x.1,u)],ak.snoc ⟨a,p,rfl,q,by rw [Kp];exact hp⟩,fun pl=>?_⟩
  rw [Oa,Zra]
  by_cases hz:x.1=pl
  ·refine .inr ⟨u,x.2,?_,if_pos hz,t⟩
   rw [if_pos (by rw [hz])]
  ·rw [if_neg hz,if_neg (fun h=>hz (Zhx h))]
   exact hk pl
end L2
namespace L2
open PySem PySem.Spec PyProof.Rows
section
variable {X:Cx}
noncomputable abbrev Zdf:=O0 false
theorem Zp9 (K:O1){e e2:Expr}{ta:TA}{p p2 pos pos2:Pos}(hg:Gl X "list")(hm:X.mg "list" = none)(hg2:Gl X "zip")(hm2:X.mg "zip" = none)(ha:QA X [e,e2] ta)(hK:X.K=K:=by rfl)(hc:X.calm=true:=by rfl)
  (hs:starEach [.Call (.Name "zip" p2) [e,e2] [] pos2] X.env=[(false,eval (.Call (.Name "zip" p2) [e,e2] [] pos2) X.env)]:=by rfl) (hs2:starEach [e,e2] X.env=[(false,eval e X.env),(false,eval e2 X.env)]:=by rfl) (hs3:starEach [e2] X.env=[(false,eval e2 X.env)]:=by rfl) :
  QE X (.Call (.Name "list" p) [.Call (.Name "zip" p2) [e,e2] [] pos2] [] pos) (Zdf K ta):=Zcw false K hg hm hg2 hm2 ha hK hc hs hs2 hs3
theorem Zj6 {K:O1}{ta:TA}{σ:St}{H:Hp}{Q:VK}(h:ta σ H fun vs H1=>∃ a b xs ys,vs=[.ref a,.ref b]/\SqL K H1 a xs/\SqL K H1 b ys /\
 ∀(S:Addr)(zs:List V)(H2:Hp),H1 S=none->Same H1 H2->zs.length=min xs.length ys.length->Lq H2 xs ys zs->H2 S=some (.lst zs)->Q (.ref S) H2):Zdf K ta σ H Q:=h
end
end L2
namespace L2
open PySem PySem.Spec PySem.Calls PySem.W PyProof.Rows
section
variable {X:Cx}
noncomputable def Zbd (K:O1)(te:TE)(ts:TO):TE:=fun σ H Q=>te σ H fun x H1=>ts σ H1 fun o H2=>∃ a xs,x=.ref a/\o=some (-1)/\SqL K H2 a xs/\∀ p,H2 p=none->Q (.ref p) (upd H2 p (.lst xs.reverse))
theorem Zj0 {e st:PySem.Expr}{te:TE}{ts:TO}{p2 pos:Pos}(he:PE X e te)(hs:PO X (some st) ts):PE X (.Subscript e (.Slice none none (some st) p2) pos) (Zbd X.K te ts):=by
 intro pins s σ H Q I h
 refine Subscript_ (Aj (he pins s σ H _ I h) fun v s1 zq=>?_)
 obtain ⟨x,H1,I1,r1,q1⟩:=zq
 refine wpAny_Slice ?_
 rw [evalPart_none]
 refine O3 ?_
 refine O3 ?_
 refine Aj (hs pins s1 σ H1 _ I1 q1) fun vk s3 zq=>?_
 obtain ⟨o,H3,I3,pk,q3⟩:=zq
 obtain ⟨a,xs,rfl,rfl,hx,q⟩:=q3
 cases r1
 have I4:Inv X pins σ H3 { s3 with heap:=s3.heap.push { cls:=.type "slice",data:=.fields #[.none,.none,vk] } }:=I3.kept (t':=s3.toks) fun b ob q=>O6 _ q
 obtain ⟨its,r,ht,hz⟩:=I4.list hx
 have hlen:=r.length
 refine tail_any (ops:=[.ref a,.ref s3.heap.objs.size]) ht.isList.typeIs Wb.lookup ?_ (by with_unfolding_all rfl)
 refine wpAny_getItem_list_slice ht.isList (Heap.IsSliceOf.new ..) .none .none pk (by decide) ?_ (by rw [O7] <;> omega)
 rw [PySem.W.krv_pick]
 refine ⟨.ref _,_,I4.laid (t':=s3.toks) (o:=.lst xs.reverse) (fun b ob q=>O6 _ q) (O4 _) ?_,rfl,q _ (I4.hok.fresh (O4 _))⟩
 exact ⟨by rw [Uw];exact hz,_,0,r.reverse,Pe _ rfl⟩
theorem Zmg {e st:PySem.Expr}{te:TE}{ts:TO}{p2 pos:Pos}(K:O1)(he:QE X e te)(hs:QO X (some st) ts)(hK:X.K=K:=by rfl):QE X (.Subscript e (.Slice none none (some st) p2) pos) (Zbd K te ts):=by
 subst hK
 exact ⟨Zj0 he.run hs.run⟩
end
end L2
namespace L2
open PySem PySem.Spec PyProof.Rows
noncomputable def Zp0 (K:O1)(C:Addr)(tb:Gx)(th:TS):TS:=fun D σ H=>tb D (fun σ1 cls od H2=>(∃ C',cls=.ref C'/\Pi K (.ref C') (.ref C)=some true)/\∀ a,H2 a=none->th D σ1 (upd H2 a (B9 a cls od))) σ H
section
variable {X:Cx}{c n:Str}{np hpos pos:Pos}{body hbody:List Stmt}{b₀:Stmt}{tb:Gx}{th:TS}{i:Nat}{C:Addr}
theorem Zox (hC:C2 X.K C)(G:X.mg c=some (.ref C))(hf:X.env.frame=some X.env.locals)(hst:X.stack=X.env::X.outer)(hb:Iu X body tb)(hh:∀ e XE,C3 (X.to (X.A.mark (some e)) false XE) (b₀::hbody) th)(hg:Gl X c:=by rfl)(hdb:(c == ("__debug__" : Str))=false:=by decide) :
  QS X (.Try body [.ExceptHandler (some (.Name c np)) none (b₀::hbody) hpos] [] [] pos) (Zp0 X.K C tb th):=by
 refine ⟨fun pins s σ H D I h=>?_⟩
 refine Wg (Py (hb.run pins s σ H D _ I h) (fun f s1 q=>?_) fun ev s1 q=>?_)
 ·cases f with
  | next=>exact Rc q
  | ret v=>exact q
  | brk=>exact q
  | cont=>exact q
 ·obtain ⟨σ1,H0,s0,I0,e,T,cls,od,H',rfl,h1,h2,h3,h4,h5,h6,h7,h8,h9,⟨C',rfl,hsub⟩,h10⟩:=q
  have J:Inv X pins σ1 H' s1:=I0.call' (ch:=[]) h1 h3 h4 h2 (fun b z=>absurd z (by simp))
  have hfr:X.A.frames=some (X.env::X.outer):=by rw [<- hst];exact J.ok.frames
  have hstk:=J.stack
  rw [hst] at hstk
  refine Nd (base:=X.base) hfr hstk hf h9 fun h' T' hT' y m=>E9 (fs:=A6 (X.env::X.outer)) y fun h'' y' m'=>?_
  have M1:Mvd (A6 X.stack) [e,T,T'] s1.heap h'':=by rw [hst];exact (m.mono (by simp)).trans (m'.mono (by simp))
  have fT':s0.heap.get? T'=none:=by
   cases q:s0.heap.get? T' with
   | none=>rfl
   | some o =>
    obtain ⟨o',z⟩:=h3.there T' o q (by simp)
    exact absurd (O8 z) (T6.mpr hT')
  have hT'n:H' T'=none:=J.hok.fresh hT'
  have fx:∀ b∈[e,T,T'],s0.heap.get? b=none/\H' b=none:=by
   intro b hb
   simp only [Pb,P5,or_false] at hb
   rcases hb with rfl | rfl | rfl
   ·exact ⟨h5,h7⟩
   ·exact ⟨h6,h8⟩
   ·exact ⟨fT',hT'n⟩
  have land:∀{h3':Heap},Mvd (A6 X.stack) [e,T,T'] s1.heap h3'->Dw h3' e T' (.ref C') od->Inv X pins σ1 (upd H' e (B9 e (.ref C') od)) { s1 with heap:=h3' }:=fun {h3'} mm ll =>
   I0.call' (s':={ s1 with heap:=h3' }) (ch:=[]) h1 (h3.land mm (fun b hb=>(fx b hb).1) h5 h7) (h4.land mm (fun b hb=>(fx b hb).2) (fun b hb=>J.stkFree b hb) h7 (Ol ll)) h2 (fun b z=>absurd z (by simp))
  have I1:=land M1 y'
  refine Ux (Uq ?_) (by intro q;cases q)
  have I1':Inv (X.to (X.A.mark (some (.ref e))) false (notedBy (model X.prog X.w) (X.A.mark (some (.ref e))) X.env fun x s₁=>True)) pins σ1 (upd H' e (B9 e (.ref C') od)) { s1 with heap:=h'' }:=I1.to rfl (by simp)
  refine Ez I1' hg G ?_ hdb
  obtain ⟨oe,vs,oT,ts,a1,a2,a3,a4,a5,a6,a7,a8,a9⟩:=id y'
  refine Zgg I1.kIn hC a1 a2 hsub ?_
  refine codeAny_handlers_suite (E9 (fs:=A6 X.stack) y' fun h4' y4 m4=>?_)
  have I2:=land (M1.trans (m4.mono (by simp))) y4
  refine Py ((hh (.ref e) _).run pins _ _ _ D (I2.to rfl (by simp)) (h10 e h7)) (fun f s4 q=>?_) fun ev s4 q=>q
  cases f with
  | next =>
   obtain ⟨σ',H4,I4,q⟩:=q
   exact ⟨σ',H4,I4.back I.ok,q⟩
  | ret v =>
   obtain ⟨u,σ',H4,I4,r,q⟩:=q
   exact ⟨u,σ',H4,I4.back I.ok,r,q⟩
  | brk =>
   obtain ⟨σ',H4,I4,q⟩:=q
   exact ⟨σ',H4,I4.back I.ok,q⟩
  | cont =>
   obtain ⟨σ',H4,I4,q⟩:=q
   exact ⟨σ',H4,I4.back I.ok,q⟩
end
section
variable {X:Cx}{o i e f k v value:Expr}{pos pos' apos cpos:Pos}{td ty tx tk tv:TE}
end
section
variable {X:Cx}
end
end L2
namespace L2
open PySem
noncomputable def Opn (X Y:St->Hp->Prop):Prop:=∀ σ' H',X σ' H'->Y σ' H'
theorem s_seqH {t u:TS}{D:Ends}{σ:St}{H:Hp}(h:∀ Y:St->Hp->Prop,Opn (u D) Y->t ⟨Y,D.rt,D.bk,D.ct⟩ σ H):Mm t u D σ H:=h _ fun _ _ z=>z
theorem openY {X Y:St->Hp->Prop}{σ:St}{H:Hp}(h:Opn X Y)(k:X σ H):Y σ H:=h σ H k
end L2
namespace L2
open PySem PySem.Spec PyProof.Rows
theorem Ze5 {K:O1}{M:Model}{A:Around}{E:Value->Shared->Prop}{s:Shared}{Q:Bool->Shared->Prop}{e C C':Addr}{oe:Obj}{b:Bool}(X:K.In s.heap)(c:C2 K C)(he:s.heap.get? e=some oe)(hcls:oe.cls=.ref C')(hs:Pi K (.ref C') (.ref C)=some b)(h:Q b s) :
  wpAny M A (excMatches (.ref e) (.ref C)) Q E s:=by
 have L1:Qf M s.heap (typeOf (.ref C)) (.type "type"):=V1 X c.ty
 have L2:Qf M s.heap (isType (.ref C)) true:=Nw X c.cl
 have L3:=Sk (M:=M) X c.bs
 have L4:Qf M s.heap (typeOf (.ref e)) (.ref C'):=by
  intro A' Q' E' s' k q
  unfold typeOf
  exact O2 (Sc (k _ _ he) (O3 (by rw [hcls];exact q)))
 have f:=tc_notTuple
 unfold excMatches
 unfold isInstance isExcClass
 cases b with
 | true =>
  have L5:=Sk (M:=M) X hs
  repeat (first | with_reducible refine L1.here ?_ | with_reducible refine L2.here ?_ | with_reducible refine L3.here ?_ | with_reducible refine L4.here ?_ | with_reducible refine L5.here ?_ | wp_step)
  exact h
 | false =>
  have L5:=Sk (M:=M) X hs
  repeat (first | with_reducible refine L1.here ?_ | with_reducible refine L2.here ?_ | with_reducible refine L3.here ?_ | with_reducible refine L4.here ?_ | with_reducible refine L5.here ?_ | wp_step)
  exact h
noncomputable abbrev E7:=Addr->Ends->St->Addr->Hp->Prop
structure QH (X:Cx)(hs:List ExceptHandler)(t:E7):Prop where
 run:∀(pins:List (Addr×Obj))(s:Shared)(σ:St)(H:Hp)(D:Ends)(e T T' C':Addr)(od:Option Addr),Dw s.heap e T' (.ref C') od->(∀{h':Heap},Mvd (A6 X.stack) [e,T,T'] s.heap h'->Dw h' e T' (.ref C') od->Inv X pins σ H { s with heap:=h' })->Inv X pins σ H s->t C' D σ e H ->
  wpAny (model X.prog X.w) X.A (handleBy (.ref e) X.env hs) (SP X pins D) X.xe s
noncomputable def tH0 (K:O1)(C:Addr)(th:TS)(tr:E7):E7:=fun C' D σ a H=>∃ b,Pi K (.ref C') (.ref C)=some b/\if b=true then th D σ H else tr C' D σ a H
noncomputable def tHN (K:O1)(C:Addr)(i:Nat)(th:TS)(tr:E7):E7:=fun C' D σ a H=>∃ b,Pi K (.ref C') (.ref C)=some b/\if b=true then th (D.gone i) (σ.set i (some (.ref a))) H else tr C' D σ a H
noncomputable def tHz:E7:=fun _ _ _ _ _=>False
noncomputable def Zg7 (tb:Gx)(th:E7):TS:=fun D σ H=>tb D (fun σ1 cls od H2=>∃ C',cls=.ref C'/\∀ a,H2 a=none->th C' D σ1 a (upd H2 a (B9 a cls od))) σ H
section
variable {X:Cx}{c n:Str}{np hpos pos:Pos}{body hbody:List Stmt}{b₀:Stmt}{tb:Gx}{th:TS}{i:Nat}{C:Addr}{rest:List ExceptHandler}{tr:E7}
theorem Zob:QH X [] tHz:=⟨fun _ _ _ _ _ _ _ _ _ _ _ _ _ h=>h.elim⟩
theorem qh_0 (hC:C2 X.K C)(G:X.mg c=some (.ref C))(hh:∀ e XE,C3 (X.to (X.A.mark (some e)) false XE) (b₀::hbody) th)(hr:QH X rest tr)(hg:Gl X c:=by rfl)(hdb:(c == ("__debug__" : Str))=false:=by decide) :
  QH X (.ExceptHandler (some (.Name c np)) none (b₀::hbody) hpos::rest) (tH0 X.K C th tr):=by
 refine ⟨fun pins s σ H D e T T' C' od y land I ht=>?_⟩
 obtain ⟨b,hb,ht⟩:=ht
 refine Ux (Uq ?_) (by intro q;cases q)
 have I1':Inv (X.to (X.A.mark (some (.ref e))) false (notedBy (model X.prog X.w) (X.A.mark (some (.ref e))) X.env fun x s₁=>True)) pins σ H s:=I.to rfl (by simp)
 refine Ez I1' hg G ?_ hdb
 obtain ⟨oe,vs,oT,ts,a1,a2,_⟩:=id y
 refine Ze5 I.kIn hC a1 a2 hb ?_
 cases b with
 | false=>exact hr.run pins s σ H D e T T' C' od y land I ht
 | true =>
  refine codeAny_handlers_suite (E9 (fs:=A6 X.stack) y fun h4' y4 m4=>?_)
  have I2:=land (m4.mono (by simp)) y4
  refine Py ((hh (.ref e) _).run pins _ _ _ D (I2.to rfl (by simp)) ht) (fun f s4 q=>?_) fun ev s4 q=>q
  cases f with
  | next =>
   obtain ⟨σ',H4,I4,q⟩:=q
   exact ⟨σ',H4,I4.back I.ok,q⟩
  | ret v =>
   obtain ⟨u,σ',H4,I4,r,q⟩:=q
   exact ⟨u,σ',H4,I4.back I.ok,r,q⟩
  | brk =>
   obtain ⟨σ',H4,I4,q⟩:=q
   exact ⟨σ',H4,I4.back I.ok,q⟩
  | cont =>
   obtain ⟨σ',H4,I4,q⟩:=q
   exact ⟨σ',H4,I4.back I.ok,q⟩
theorem qh_N (hN:X.N.Nodup)(hi:X.N[i]?=some n)(hk:X.env.scope.names.lookup n=some .local)(hC:C2 X.K C)(G:X.mg c=some (.ref C))(hh:∀ e XE,C3 (X.to (X.A.mark (some e)) false XE) (b₀::hbody) th)(hr:QH X rest tr)(hg:Gl X c:=by rfl)(hdb:(c == ("__debug__" : Str))=false:=by decide) :
  QH X (.ExceptHandler (some (.Name c np)) (some n) (b₀::hbody) hpos::rest) (tHN X.K C i th tr):=by
 refine ⟨fun pins s σ H D e T T' C' od y land I ht=>?_⟩
 obtain ⟨b,hb,ht⟩:=ht
 refine Ux (Uq ?_) (by intro q;cases q)
 have I1':Inv (X.to (X.A.mark (some (.ref e))) false (notedBy (model X.prog X.w) (X.A.mark (some (.ref e))) X.env fun x s₁=>True)) pins σ H s:=I.to rfl (by simp)
 refine Ez I1' hg G ?_ hdb
 obtain ⟨oe,vs,oT,ts,a1,a2,_⟩:=id y
 refine Ze5 I.kIn hC a1 a2 hb ?_
 cases b with
 | false=>exact hr.run pins s σ H D e T T' C' od y land I ht
 | true =>
  refine codeAny_handlers_suite_as (E9 (fs:=A6 X.stack) y fun h4' y4 m4=>?_)
  have I2:=land (m4.mono (by simp)) y4
  refine Jv (v:=.ref e) I2 hN hi (.inl hk) rfl (fun s3 I3=>?_) (.inr hk)
  refine Py ((hh (.ref e) _).run pins s3 _ _ (D.gone i) (I3.to rfl (by simp)) ht) (fun f s4 q=>?_) fun ev s4 q=>q
  cases f with
  | next =>
   obtain ⟨σ',H4,I4,q⟩:=q
   exact Ft (I4.back I.ok) hN hi hk fun s5 I5=>⟨_,H4,I5,q⟩
  | ret v =>
   obtain ⟨u,σ',H4,I4,r,q⟩:=q
   exact Ft (I4.back I.ok) hN hi hk fun s5 I5=>⟨u,_,H4,I5,r,q⟩
  | brk =>
   obtain ⟨σ',H4,I4,q⟩:=q
   exact Ft (I4.back I.ok) hN hi hk fun s5 I5=>⟨_,H4,I5,q⟩
  | cont =>
   obtain ⟨σ',H4,I4,q⟩:=q
   exact Ft (I4.back I.ok) hN hi hk fun s5 I5=>⟨_,H4,I5,q⟩
theorem Zmv {h₀:ExceptHandler}{hs:List ExceptHandler}{tr:E7}(hf:X.env.frame=some X.env.locals)(hst:X.stack=X.env::X.outer)(hb:Iu X body tb)(hh:QH X (h₀::hs) tr):QS X (.Try body (h₀::hs) [] [] pos) (Zg7 tb tr):=by
 refine ⟨fun pins s σ H D I h=>?_⟩
 refine Wg (Py (hb.run pins s σ H D _ I h) (fun f s1 q=>?_) fun ev s1 q=>?_)
 ·cases f with
  | next=>exact Rc q
  | ret v=>exact q
  | brk=>exact q
  | cont=>exact q
 ·obtain ⟨σ1,H0,s0,I0,e,T,cls,od,H',rfl,h1,h2,h3,h4,h5,h6,h7,h8,h9,C',rfl,h10⟩:=q
  have J:Inv X pins σ1 H' s1:=I0.call' (ch:=[]) h1 h3 h4 h2 (fun b z=>absurd z (by simp))
  have hfr:X.A.frames=some (X.env::X.outer):=by rw [<- hst];exact J.ok.frames
  have hstk:=J.stack
  rw [hst] at hstk
  refine Nd (base:=X.base) hfr hstk hf h9 fun h' T' hT' y m=>E9 (fs:=A6 (X.env::X.outer)) y fun h'' y' m'=>?_
  have M1:Mvd (A6 X.stack) [e,T,T'] s1.heap h'':=by rw [hst];exact (m.mono (by simp)).trans (m'.mono (by simp))
  have fT':s0.heap.get? T'=none:=by
   cases q:s0.heap.get? T' with
   | none=>rfl
   | some o =>
    obtain ⟨o',z⟩:=h3.there T' o q (by simp)
    exact absurd (O8 z) (T6.mpr hT')
  have hT'n:H' T'=none:=J.hok.fresh hT'
  have fx:∀ b∈[e,T,T'],s0.heap.get? b=none/\H' b=none:=by
   intro b hb
   simp only [Pb,P5,or_false] at hb
   rcases hb with rfl | rfl | rfl
   ·exact ⟨h5,h7⟩
   ·exact ⟨h6,h8⟩
   ·exact ⟨fT',hT'n⟩
  have land:∀{h3':Heap},Mvd (A6 X.stack) [e,T,T'] s1.heap h3'->Dw h3' e T' (.ref C') od->Inv X pins σ1 (upd H' e (B9 e (.ref C') od)) { s1 with heap:=h3' }:=fun {h3'} mm ll =>
   I0.call' (s':={ s1 with heap:=h3' }) (ch:=[]) h1 (h3.land mm (fun b hb=>(fx b hb).1) h5 h7) (h4.land mm (fun b hb=>(fx b hb).2) (fun b hb=>J.stkFree b hb) h7 (Ol ll)) h2 (fun b z=>absurd z (by simp))
  exact hh.run pins { s1 with heap:=h'' } σ1 _ D e T T' C' od y' (fun m2 l2=>land (M1.trans m2) l2) (land M1 y') (h10 e h7)
end
section
variable {X:Cx}
noncomputable def rEqN (K:O1):R2:=fun x y H Q=>∃(a b:Addr)(xs:List V),x=.ref a/\y=.ref b/\SqL K H a xs/\SqL K H b []/\Q (.bl xs.isEmpty) H
theorem Zdq (K:O1)(hu:X.A.units+200 < cLine)(hK:X.K=K:=by rfl):OpR X (compareOp .Eq) (rEqN K):=by
 subst hK
 intro pins s σ H x y v u Q I rx ry h
 obtain ⟨a,b,xs,rfl,rfl,ha,hb,q⟩:=h
 cases rx
 cases ry
 obtain ⟨its,r1,p1,_⟩:=I.list ha
 obtain ⟨its2,r2,p2,_⟩:=I.list hb
 have l1:=r1.length
 have l2:=r2.length
 cases xs with
 | nil =>
  refine SeqAt.eq_listAt (e:=fun _=>true) p1.isList p2.isList (by simp only [O7];omega) (by omega) (fun j h1 h2=>?_) ⟨.bl true,H,I,?_,q⟩
  ·simp only [O7] at h1
   have:its.length=0:=l1.symm
   omega
  ·have z:its.toArray.size=0:=by simp only [O7];exact l1.symm
   rw [z]
   rfl
 | cons y r =>
  refine SeqAt.eq_list_lengthsAt p1.isList p2.isList ?_ (by omega) ⟨.bl false,H,I,rfl,q⟩
  simp only [O7]
  have e1:its.length=r.length+1:=l1.symm
  have e2:its2.length=0:=l2.symm
  rw [e1,e2]
  rfl
theorem Zfc {K:O1}{a b:Addr}{xs:List V}{H:Hp}{Q:VK}(ha:SqL K H a xs)(hb:SqL K H b [])(h:Q (.bl xs.isEmpty) H):rEqN K (.ref a) (.ref b) H Q:=⟨a,b,xs,rfl,rfl,ha,hb,h⟩
end
end L2
namespace K19
open PySem L2
inductive Sub:Tr->List Nat->Prop where
 | nil (t:Tr):Sub t []
 | cons {w:Str} {n:Dt} {ts:List Tr} {j:Nat} {t:Tr} {r:List Nat} (h:ts[j]?=some t) (s:Sub t r):Sub (.mk w n ts) (j::r)
noncomputable def A8:Tr->List Nat->List Tr
 | t,[]=>[t]
 | .mk w n ps,k::r=>.mk w n ps::(match ps[k]? with | some u=>A8 u r | none=>[])
theorem F7 {w:Str}{n:Dt}{ts:List Tr}{j:Nat}{t:Tr}{r:List Nat}(h:ts[j]?=some t):A8 (.mk w n ts) (j::r)=.mk w n ts::A8 t r:=by rw [A8,h]
theorem Ia {t:Tr}{pl:List Nat}(s:Sub t pl):(A8 t pl).length=pl.length+1:=by
 induction s with
 | nil t=>cases t;rfl
 | cons h _ ih=>rw [F7 h,Ps,ih,Ps]
theorem Md (t:Tr)(pl:List Nat):(A8 t pl)[0]?=some t:=by
 cases t with
 | mk w n ps=>cases pl <;> rfl
theorem Mp {t:Tr}{pl:List Nat}(s:Sub t pl):∀(i:Nat)(k:Nat),pl[i]?=some k->∃ w n ps u,(A8 t pl)[i]?=some (.mk w n ps)/\ps[k]?=some u/\(A8 t pl)[i+1]?=some u:=by
 induction s with
 | nil t=>intro i k h;simp at h
 | @cons w n ts j u r h s ih =>
  intro i k hk
  rw [F7 h]
  cases i with
  | zero =>
   have:j=k:=by simpa using hk
   subst this
   exact ⟨w,n,ts,u,rfl,h,by simpa using Md u r⟩
  | succ i =>
   obtain ⟨w',n',ps,u',a,b,c⟩:=ih i k (by simpa using hk)
   exact ⟨w',n',ps,u',by simpa using a,b,by simpa using c⟩
noncomputable def Bx:Tr->List Nat->Tr->Tr
 | _,[],f=>f
 | .mk w n ps,k::r,f=>match ps[k]? with
  | some u=>.mk w n (ps.set k (Bx u r f))
  | none=>.mk w n ps
theorem Zaz {w:Str}{n:Dt}{ts:List Tr}{j:Nat}{t f:Tr}{r:List Nat}(h:ts[j]?=some t):Bx (.mk w n ts) (j::r) f=.mk w n (ts.set j (Bx t r f)):=by rw [Bx,h]
theorem N4 (t f:Tr):Bx t [] f=f:=by cases t;rfl
theorem Zln {t f:Tr}{pl:List Nat}(s:Sub t pl):∀(m k:Nat)(w:Str)(n:Dt)(ps:List Tr)(u:Tr),pl[m]?=some k->(A8 t pl)[m]?=some (.mk w n ps)->(A8 t pl)[m+1]?=some u->Bx (.mk w n ps) (pl.drop m) f=.mk w n (ps.set k (Bx u (pl.drop (m+1)) f)):=by
 intro m k w n ps u hk hp hu
 obtain ⟨w',n',ps',u',a,b,c⟩:=Mp s m k hk
 rw [hp] at a
 cases a
 rw [hu] at c
 cases c
 have hl:=(Ph.mp hk)
 obtain ⟨g,e⟩:=hl
 rw [R0 g,e,Zaz b]
end K19
local macro_rules | `(tactic| walk_at "sc")=>`(tactic| exact ⟨rfl,rfl,rfl,by decide +kernel,rfl,by decide +kernel,by decide +kernel⟩)
namespace L2
open PySem PySem.Spec PyProof.Rows
theorem Bf:0<=sizeLine:=by decide
theorem Br:1<=sizeLine:=by decide
theorem Bb:2<=sizeLine:=by decide
theorem Bg:3<=sizeLine:=by decide
theorem Fa:4<=sizeLine:=by decide
theorem sz9:9<=sizeLine:=by decide
theorem Room.m {j k:Nat}{A:Around}(r:Room k A)(h:j<=k:=by decide):Room j A:=r.mono h
section
variable {X:Cx}{a b:Expr}{ta tb:TE}{pos:Pos}{K:O1}
theorem Aq (i:Nat){ps:List Str}{sc:Scope}{x:Str}{e:Expr}{te:TE}{pos':Pos}(S:A2 X.N ps sc)(he:QE X e te)(hi:X.N[i]?=some x:=by rfl)(hx:Eu X.env.scope x:=by exact Or.inl rfl)(hs:swapsWith e (some (.Name x pos')) pos.line X.env=pure false:=by rfl)(hf:X.fn x=true\/X.env.scope.names.lookup x=some .local:=by first | exact .inl rfl | exact .inr rfl | assumption):QS X (.Assign [.Name x pos'] e pos) (F6 te (Fs i)):=Zro S.nd hi hx he hs hf
theorem Ap (K:O1)(ha:QE X a ta)(hb:QE X b tb)(hs:Zag b:=by exact fun _ _=>rfl)(hK:X.K=K:=by rfl):QE X (.Subscript a b pos) (Ey (Ih K) ta tb):=Mz (k_ix K hK) ha hb hs
end
end L2
namespace K56
theorem lz1 {α:Type}{vs:List α}(h:vs.length=1):∃ u,vs=[u]:=by
 cases vs with
 | nil=>cases h
 | cons u r=>cases Rw (Nat.succ.inj h);exact ⟨u,rfl⟩
theorem lz2 {α:Type}{vs:List α}(h:vs.length=2):∃ u v,vs=[u,v]:=by
 cases vs with
 | nil=>cases h
 | cons u r=>obtain ⟨v,rfl⟩:=lz1 (Nat.succ.inj h);exact ⟨u,v,rfl⟩
end K56
namespace K56
open PySem L2
noncomputable def As (i:Nat):Stmt:=Sf.main.body.getD i (.Pass ⟨0,0,0,0⟩)
noncomputable abbrev Jl:Stmt:=As 6
noncomputable abbrev Jj:Stmt:=As 8
noncomputable abbrev Ii:Stmt:=As 9
noncomputable abbrev Iv:Stmt:=As 10
noncomputable abbrev Hy:Stmt:=As 11
noncomputable abbrev La:Stmt:=As 12
noncomputable abbrev Kq:Stmt:=As 13
noncomputable abbrev Hi:Stmt:=As 15
noncomputable abbrev Lc:Stmt:=As 17
noncomputable abbrev K1:Stmt:=As 19
noncomputable abbrev Js:Stmt:=As 24
noncomputable abbrev J1:Stmt:=As 25
noncomputable abbrev Bw (i j:Nat):Stmt:=match As i with | .ClassDef _ _ _ b _ _ _ _ _ _ _=>b.getD j (.Pass ⟨0,0,0,0⟩) | s=>s
noncomputable abbrev Kr:Stmt:=Bw 26 0
noncomputable abbrev Il:Stmt:=Bw 26 1
noncomputable abbrev Jr:Stmt:=Bw 26 2
noncomputable abbrev Jz:Stmt:=Bw 26 3
noncomputable abbrev J6:Stmt:=Bw 26 4
noncomputable abbrev Jt:Stmt:=Bw 26 5
noncomputable abbrev Hx:Stmt:=Bw 26 6
noncomputable abbrev Jo:Stmt:=Bw 26 7
noncomputable abbrev Je:Stmt:=Bw 26 8
noncomputable abbrev J9:Stmt:=Bw 26 9
noncomputable abbrev Jg:Stmt:=Bw 26 10
noncomputable abbrev Jd:Stmt:=Bw 26 11
noncomputable abbrev Jy:Stmt:=Bw 26 12
noncomputable abbrev Kt:Stmt:=As 28
noncomputable abbrev K7:Stmt:=As 29
noncomputable abbrev Hj:Stmt:=As 30
noncomputable abbrev Kf:Stmt:=As 32
noncomputable abbrev Jq:Stmt:=As 33
noncomputable abbrev Hg:Stmt:=As 34
noncomputable abbrev K4:Stmt:=As 35
noncomputable abbrev Kw:Stmt:=As 36
noncomputable abbrev Ko:Stmt:=As 37
noncomputable abbrev Iq:Stmt:=As 38
noncomputable abbrev Ka:Stmt:=As 39
noncomputable abbrev J2:Stmt:=As 40
noncomputable abbrev Ik:Stmt:=As 41
noncomputable abbrev Im:Stmt:=As 42
noncomputable abbrev J5:Stmt:=As 43
noncomputable abbrev Kj:Stmt:=As 44
noncomputable abbrev Ki:Stmt:=As 45
structure Txt (K:O1)(mg:Str->Option Value):Prop where
 isinstance:mg "isinstance" = none
 int:mg "int" = none
 bool:mg "bool" = none
 reversed:mg "reversed" = none
 list:mg "list" = none
 enumerate:mg "enumerate" = none
 len:mg "len" = none
 zip:mg "zip" = none
 all:mg "all" = none
 tuple:mg "tuple" = none
 range:mg "range" = none
 str:mg "str" = none
 ValueError:mg "ValueError" = none
 dict:mg "dict" = none
structure Script (K:O1)(H:Hp)(a:Addr):Prop where
 ex:∃ ns:List Int,SqL K H a (ns.map V.int)/\ns.length<=63
theorem Script.same {K:O1}{H H':Hp}{a:Addr}(S:Script K H a)(h:Same H H'):Script K H' a:=by
 obtain ⟨ns,q,l⟩:=S.ex
 exact ⟨ns,h.seq q,l⟩
theorem big:100000<=sizeLine:=by decide
end K56
local macro_rules | `(tactic| walk_at "r1")=>`(tactic| (first | (with_reducible first | refine L2.s_seq ?_ | refine L2.s_asg ?_ | refine L2.s_ret ?_ | refine L2.s_ifS ?_ | refine L2.s_test ?_ | refine L2.s_op ?_ | refine L2.s_c ?_ | refine L2.s_cons ?_ | refine L2.s_nil ?_ | refine L2.s_call ?_ | refine L2.s_cb ?_ | refine L2.s_gname ?_ | refine L2.s_ex ?_ | refine L2.s_exi ?_ | refine L2.s_drop ?_ | refine L2.s_next ?_ | refine L2.s_un ?_ | refine L2.s_tB ?_ | refine L2.s_not ?_ | refine L2.s_and ?_ | refine L2.s_or ?_ | refine L2.s_andV ?_ | refine L2.s_orV ?_ | refine L2.s_notV ?_ | refine L2.s_vals ?_ | refine L2.s_tup ?_ | refine L2.s_lst ?_ | refine L2.s_bm ?_ | refine L2.s_bm0 ?_ | refine L2.s_sl ?_ | refine L2.s_po ?_ | refine L2.s_po0 ?_ | refine L2.s_gcons ?_ | refine L2.s_gnil ?_ | refine L2.s_gsub ?_ | refine L2.s_isN ?_ | refine L2.s_notN ?_ | refine L2.s_rI0 ?_ | refine L2.s_rU ?_ | refine L2.s_add_int ?_ | refine L2.s_lt ?_ | refine L2.s_le ?_ | refine L2.iteT ?_ | refine L2.iteF ?_ | refine L2.s_comp ?_ | refine L2.s_for ?_ | refine L2.s_rng1 ?_ | refine L2.s_rng3 ?_ | refine L2.s_exr ?_ | refine L2.s_iany ?_ | refine L2.s_irev ?_ | refine L2.s_ienum ?_ | refine L2.s_listen ?_ | refine L2.s_listrev ?_ | refine L2.s_izip ?_ | refine L2.s_ienumT ?_ | refine L2.s_listzp ?_ | refine L2.s_ipI ?_ | refine L2.s_yes ?_ | refine L2.s_turn ?_ | refine L2.s_int_b ?_ | refine L2.s_intb ?_ | refine L2.s_truth ?_ | refine L2.s_chain ?_ | refine L2.s_nt ?_ | refine L2.s_nf ?_) | ((with_reducible refine' L2.s_var ?e ?_); (case e=>exact rfl)) | ((with_reducible refine' L2.s_aug ?e ?_); (case e=>exact rfl)) | ((with_reducible refine' L2.s_eq ?e ?_); (case e=>exact rfl)) | ((with_reducible refine' L2.s_ne ?e ?_); (case e=>exact rfl)) | ((with_reducible refine' L2.s_neb ?e ?_); (case e=>exact rfl)) | ((with_reducible refine' L2.s_rI ?c ?_); (case c=>first | decide | exact ⟨by decide,by decide⟩ | exact ⟨by decide,by decide,by decide⟩)) | ((with_reducible refine' L2.s_mul_r ?a ?b ?_); (case a=>decide); (case b=>decide)) | ((with_reducible refine' L2.s_mul_l ?a ?b ?_); (case a=>decide); (case b=>decide)) | ((with_reducible refine' L2.s_exr3 ?e ?_); (case e=>decide))))
local macro_rules | `(tactic| walk_at "r")=>`(tactic| (repeat walk_at "r1"))
namespace K56
open PySem L2 K19
section
variable {P:Program}{w:World}{K:O1}{mg:Str->Option Value}{base:Heap}
noncomputable def Za8:Sp:=fun vs H Q _=>∃ k:Int,vs=[.int k]/\Q (.bl true) H
theorem Zrx:A2 ["thing"] ["thing"] (Ay Jl):=by walk_at "sc"
theorem Zr7 {f:Addr}{fd:FuncData}(F:Fun K "is_whole" "is_whole" Jl f fd)(T:Txt K mg):FnOk P w K mg base Ao 1 f fd ["thing"] Za8:=by
 refine F.okq Zrx (fun vs H Q E h=>?_) (fun cdv A outer s H vs Q E hr h=>?_)
 ·obtain ⟨k,rfl,_⟩:=h
  rfl
 ·obtain ⟨k,rfl,q⟩:=h
  refine ⟨_,Ag (Au (E3 (Be (C0 K "int") (by rfl) T.isinstance (by decide +kernel) (Aa (qv 0) (Aa (Ct (v:=.ty "int") (by rfl) T.int (by decide +kernel) rfl) Ab))) (Fk (Zim (Be (C0 K "bool") (by rfl) T.isinstance (by decide +kernel) (Aa (qv 0) (Aa (Ct (v:=.ty "bool") (by rfl) T.bool (by decide +kernel) rfl) Ab))))))),?_⟩
  walk_at "r"
  refine B1 (.int _) Zlm ?_
  walk_at "r"
  refine B1 (.int _) Ziw ?_
  walk_at "r"
  exact q
noncomputable def Zcm (K:O1):Sp:=fun vs H Q _=>∃(v:V)(w:Str)(n:Dt)(ps:List Tr)(k:Nat),vs=[v,.int (k:Nat)]/\TrAt K H v (.mk w n ps)/\k < ps.length/\Q (.bl true) H
theorem Zgo:A2 ["form", "number"] ["form", "number"] (Ay Ii):=by walk_at "sc"
theorem Ziu {f:Addr}{fd:FuncData}(F:Fun K "has_part" "has_part" Ii f fd)(T:Txt K mg)(C_is_whole:A4 P w K mg base 1 "is_whole" ["thing"] Za8):FnOk P w K mg base Ao 2 f fd ["form", "number"] (Zcm K):=by
 refine F.okq Zgo (fun vs H Q E h=>?_) (fun cdv A outer s H vs Q E hr h=>?_)
 ·obtain ⟨v,w,n,ps,k,rfl,_⟩:=h
  rfl
 ·obtain ⟨v,w,n,ps,k,rfl,ht,hk,q⟩:=h
  refine ⟨_,Ag (Au (E3 (A1 C_is_whole hr.m (Aa (qv 1) Ab)) (Fk (Zgn Zf9 Eb Ac (qv 1) (Be (Cp K) (by rfl) T.len (by decide +kernel) (Aa (Ap K (qv 0) Ac) Ab)))))),?_⟩
  cases ht with
  | @mk b pp _ nv _ us _ qb hn qp l hch =>
  walk_at "r"
  refine ⟨_,rfl,?_⟩
  walk_at "r"
  refine Bj (fun _=>?_) (fun c=>absurd (decide_eq_true (by omega)) c)
  walk_at "r"
  refine Az qb rfl ?_
  walk_at "r"
  refine C1 qp ?_
  walk_at "r"
  have e:decide ((k:Int) < (us.length:Int))=true:=decide_eq_true (by omega)
  rw [e]
  exact q
theorem Le {α:Type}{xs:List α}{x:α}(h:xs[xs.length - 1]?=some x):B2 xs (-1)=some x:=by
 have hl:=(Ph.mp h).1
 unfold B2 Fu
 rw [if_neg (by omega),if_pos (by omega)]
 have e:((-1:Int)+(xs.length:Int)).toNat=xs.length - 1:=by omega
 simpa [e] using h
theorem Zch {α:Type}{xs:List α}{i:Int}{x:α}(j:Nat)(hj:(j:Int)=i)(h:xs[j]?=some x):B2 xs i=some x:=by
 have hl:=(Ph.mp h).1
 subst hj
 unfold B2 Fu
 rw [if_pos (by omega),if_pos (by omega)]
 simpa using h
theorem Zb8 {pl:List Nat}{i:Nat}{v:V}(h:(Ar pl)[i]?=some v):∃ k,v=.int (k:Nat)/\pl[i]?=some k:=by
 unfold Ar at h
 rw [Qj] at h
 cases e:pl[i]? with
 | none=>rw [e] at h;cases h
 | some x=>rw [e] at h;exact ⟨x,(P6 h).symm,rfl⟩
theorem Ce (pl:List Nat):(Ar pl).length=pl.length:=by unfold Ar;simp
noncomputable def Zbv (K:O1):Sp:=fun vs H Q _=>∃(v:V)(t:Tr)(p:Addr)(pl:List Nat),vs=[v,.ref p]/\TrAt K H v t/\SqT K H p (Ar pl)/\Sub t pl/\pl.length<=1000 /\
 ∀(q:Addr)(ws:List V)(H':Hp),H q=none->Same H H'->H' q=some (.lst ws)->Al (TrAt K H') ws (A8 t pl)->Q (.ref q) H'
theorem sc_forms_down_to:A2 ["tree", "place", "passed", "number"] ["tree", "place"] (Ay Iv):=by walk_at "sc"
theorem Zju {f:Addr}{fd:FuncData}(F:Fun K "forms_down_to" "forms_down_to" Iv f fd)(T:Txt K mg)(C_has_part:A4 P w K mg base 2 "has_part" ["form", "number"] (Zcm K)):FnOk P w K mg base Ao 3 f fd ["tree", "place"] (Zbv K):=by
 refine F.okq sc_forms_down_to (fun vs H Q E h=>?_) (fun cdv A outer s H vs Q E hr h=>?_)
 ·obtain ⟨v,t,p,pl,rfl,_⟩:=h
  rfl
 ·obtain ⟨v,t,p,pl,rfl,ht,hp,hs,hl,q⟩:=h
  refine ⟨_,Ae (Aq 2 sc_forms_down_to (Ba (Aa (qv 0) Ab)))
   (Ae (En Re rfl (D5 K (qv 1)) (A9 (i:=3) sc_forms_down_to.nd rfl (Or.inl rfl)) (Ae (Ax (Gf (Cw (A1 C_has_part hr.m (Aa (Ap K (qv 2) (Eo Ep Ac)) (Aa (qv 3) Ab))))) (Ag Ff) A0)
   (Ag (Bq (Cd K Pr P0 P3 Ck (qv 2) (Aa (Ap K (Ap K (Ap K (qv 2) (Eo Ep Ac)) Ac) (qv 3)) Ab))))))
   (Ag (Au (qv 2)))),?_⟩
  have bg:=big
  walk_at "r"
  refine ⟨Br,fun q0 hq0=>?_⟩
  obtain ⟨H1,s1,e1,z9⟩:=Cn hq0 (.lst [v])
  rw [z9]
  walk_at "r"
  refine .inr (.inl ⟨p,rfl,⟨_,s1.tup hp⟩,?_⟩)
  have p0:(A8 t pl).take 1=[t]:=by
   have:=Md t pl
   cases e:A8 t pl with
   | nil=>rw [e] at this;cases this
   | cons a r =>
    rw [e] at this
    have h:a=t:=by simpa using this
    rw [h]
    rfl
  refine Zdi (K:=K) (a:=p) (xs:=Ar pl) (fun i σ' H'=>∃ w3 ws,σ'=[some v,some (.ref p),some (.ref q0),w3]/\H' q0=some (.lst ws)/\Al (TrAt K H') ws ((A8 t pl).take (i+1))/\Same H H') ⟨none,[v],rfl,e1,by rw [p0];exact Al.nil.snoc (ht.same s1),s1⟩ ?_ ?_ ?_
  ·rintro i σ' H' _ ⟨_,_,_,_,_,sm⟩
   exact sm.tup hp
  ·rintro i x σ' H' hx ⟨w3,ws,rfl,e2,al,sm⟩
   obtain ⟨k,rfl,hk⟩:=Zb8 hx
   obtain ⟨w',n',ps,u,a1,a2,a3⟩:=Mp hs i k hk
   have hi:=(Ph.mp hk).1
   have hpl:=Ia hs
   have hwl:ws.length=i+1:=by rw [al.1,Pq];omega
   have hx1:((A8 t pl).take (i+1))[i]?=some (.mk w' n' ps):=by rw [V5,if_pos (by omega)];exact a1
   obtain ⟨vi,hvi,hti⟩:=al.get' hx1
   have hlast:B2 ws (-1)=some vi:=Le (by rw [hwl];exact hvi)
   cases hti with
   | @mk b pp _ nv _ us _ qb hn qp l hch =>
   have hku:k < us.length:=by rw [l];exact (Ph.mp a2).1
   walk_at "r"
   refine Bm (SqL.of e2) hlast ?_
   walk_at "r"
   refine ⟨_,w',n',ps,k,rfl,.mk qb hn qp l hch,by omega,?_⟩
   walk_at "r"
   refine B0 (SqL.of e2) ?_
   walk_at "r"
   refine Bm (SqL.of e2) hlast ?_
   walk_at "r"
   refine Az qb rfl ?_
   walk_at "r"
   refine Az qp (Zch k rfl (O5 hku)) ?_
   walk_at "r"
   refine Cs e2 (by omega) ?_
   walk_at "r"
   have t3:SameT H' (upd H' q0 (.lst (ws++[us[k]]))):=SameT.set e2
   refine ⟨_,ws++[us[k]],rfl,Ad,?_,sm.over hq0⟩
   have e3:(A8 t pl).take (i+1+1)=(A8 t pl).take (i+1)++[u]:=by rw [Ra,a3];rfl
   rw [e3]
   exact (al.mono fun _ _ z=>z.sameT t3).snoc ((hch k _ u (O5 hku) a2).sameT t3)
  ·rintro σ' H' ⟨w3,ws,rfl,e2,al,sm⟩
   rw [Ce,Qi (by rw [Ia hs];omega)] at al
   walk_at "r"
   exact q q0 ws H' hq0 sm e2 al
noncomputable def Zgl (K:O1):Sp:=fun vs H Q _=>∃(v:V)(w:Str)(n:Dt)(ps:List Tr)(k:Int),vs=[v,.int k]/\TrAt K H v (.mk w n ps)/\Q (.bl (decide (0<=k/\k < ps.length))) H
theorem Zm6 {f:Addr}{fd:FuncData}(F:Fun K "has_part" "has_part" Ii f fd)(T:Txt K mg)(C_is_whole:A4 P w K mg base 1 "is_whole" ["thing"] Za8):FnOk P w K mg base Ao 2 f fd ["form", "number"] (Zgl K):=by
 refine F.okq Zgo (fun vs H Q E h=>?_) (fun cdv A outer s H vs Q E hr h=>?_)
 ·obtain ⟨v,w,n,ps,k,rfl,_⟩:=h
  rfl
 ·obtain ⟨v,w,n,ps,k,rfl,ht,q⟩:=h
  refine ⟨_,Ag (Au (E3 (A1 C_is_whole hr.m (Aa (qv 1) Ab)) (Fk (Zgn Zf9 Eb Ac (qv 1) (Be (Cp K) (by rfl) T.len (by decide +kernel) (Aa (Ap K (qv 0) Ac) Ab)))))),?_⟩
  cases ht with
  | @mk b pp _ nv _ us _ qb hn qp l hch =>
  walk_at "r"
  refine ⟨_,rfl,?_⟩
  walk_at "r"
  refine Bj (fun c=>?_) (fun c=>?_)
  ·have c:0<=k:=by simpa using c
   walk_at "r"
   refine Az qb rfl ?_
   walk_at "r"
   refine C1 qp ?_
   walk_at "r"
   have e:decide (k < (us.length:Int))=decide (0<=k/\k < (ps.length:Int)):=by rw [l];exact decide_eq_decide.mpr ⟨fun h=>⟨c,h⟩,fun h=>h.2⟩
   rw [e]
   exact q
  ·have c:¬ 0<=k:=fun h=>c (by simpa using h)
   have e:decide (0<=k/\k < (ps.length:Int))=false:=decide_eq_false fun h=>c h.1
   rw [e] at q
   walk_at "r"
   exact q
noncomputable abbrev Kg:Stmt:=Bw 4 0
theorem Zke:A2 ["self", "place"] ["self", "place"] (Ay Kg):=by walk_at "sc"
noncomputable def Zgq (K:O1):Sp:=fun vs H Q _=>∃(a C:Addr)(v:V),vs=[.ref a,v]/\H a=some (D0 a (.ref C) none)/\ExC K C/\NoAttr K C "place" /\ ∀ d,H d=none->d≠a->Q .non (upd (upd H d (.xd [("place",v)])) a (D0 a (.ref C) (some d)))
theorem Zpf {f:Addr}{fd:FuncData}(F:Fun K "__init__" "NoPlace.__init__" Kg f fd):FnOk P w K mg base Ao 1 f fd ["self", "place"] (Zgq K):=by
 refine F.okq Zke (fun vs H Q E h=>?_) (fun cdv A outer s H vs Q E hr h=>?_)
 ·obtain ⟨a,C,v,rfl,_⟩:=h
  rfl
 ·obtain ⟨a,C,v,rfl,h1,h2,h3,q⟩:=h
  refine ⟨_,Ag (Zmr (qv 0) (qv 1)),?_⟩
  exact ⟨v,rfl,.ref a,rfl,a,C,rfl,h1,h2,h3,q⟩
structure Bad (t:Tr)(pl:List Nat)(far:Int):Prop where
 sub:Sub t pl
 ex:∃ w n ps,(A8 t pl)[pl.length]?=some (.mk w n ps)/\¬ (0<=far/\far < (ps.length:Int))
noncomputable def C8 (pl:List Nat)(far:Int)(rest:List V):List V:=Ar pl++.int far::rest
theorem Zm7 {pl:List Nat}{far:Int}{rest:List V}{i:Nat}(hi:i < pl.length){v:V}(h:(C8 pl far rest)[i]?=some v):∃ k,v=.int (k:Nat)/\pl[i]?=some k:=by
 unfold C8 at h
 rw [Qd (by rw [Ce];exact hi)] at h
 exact Zb8 h
theorem Zq0 {pl:List Nat}{far:Int}{rest:List V}{v:V}(h:(C8 pl far rest)[pl.length]?=some v):v=.int far:=by
 unfold C8 at h
 rw [Qw (by rw [Ce];exact O4 _),Ce,Rt] at h
 exact (P6 h).symm
noncomputable def Rf (C:Addr)(H:Hp)(p:Addr)(E:XK):Prop:=∀(d:Addr)(H':Hp),Same H H'->H' d=some (.xd [("place",.ref p)])->E (.ref C) (some d) H'
noncomputable def Mn (K:O1)(C:Addr):Sp:=fun vs H _ E=>∃(v:V)(t:Tr)(p:Addr)(pl:List Nat)(far:Int)(rest:List V),vs=[v,.ref p]/\TrAt K H v t/\SqT K H p (C8 pl far rest)/\Bad t pl far/\pl.length<=1000/\Rf C H p E
theorem Zqn {f:Addr}{fd:FuncData}(F:Fun K "forms_down_to" "forms_down_to" Iv f fd)(T:Txt K mg)(C_has_part:A4 P w K mg base 2 "has_part" ["form", "number"] (Zgl K))
  {C fi:Addr} {fdi:FuncData} (R_NoPlace:Rz K C fi) (F_NoPlace:FnOk P w K mg base Ao 1 fi fdi ["self", "place"] (Zgq K)) (b_NoPlace:Binds K fdi ["self", "place"] []) (G_NoPlace:mg "NoPlace" = some (.ref C)) (xC:ExC K C) (nA:NoAttr K C "place"):FnOk P w K mg base (Bd P w) 3 f fd ["tree", "place"] (Mn K C):=by
 refine F.okx sc_forms_down_to (fun vs H Q E h=>?_) (fun cdv A outer s H vs Q E hr h=>?_)
 ·obtain ⟨v,t,p,pl,far,rest,rfl,_⟩:=h
  rfl
 ·obtain ⟨v,t,p,pl,far,rest,rfl,ht,hp,hb,hl,q⟩:=h
  refine ⟨_,Ae (Aq 2 sc_forms_down_to (Ba (Aa (qv 0) Ab)))
   (Ae (En Wd rfl (D5 K (qv 1)) (A9 (i:=3) sc_forms_down_to.nd rfl (Or.inl rfl)) (Ae (Ax (Gf (Cw (A1 C_has_part hr.m (Aa (Ap K (qv 2) (Eo Ep Ac)) (Aa (qv 3) Ab))))) (Ag (Znl rfl R_NoPlace F_NoPlace hr.m b_NoPlace G_NoPlace (Aa (qv 1) Ab) (fun _ _ _ _ _ _ _ I x h0 hn he=>Oj I x h0 hn he) rfl)) A0)
   (Ag (Bq (Cd K Pr P0 P3 Ck (qv 2) (Aa (Ap K (Ap K (Ap K (qv 2) (Eo Ep Ac)) Ac) (qv 3)) Ab))))))
   (Ag (Au (qv 2)))),?_⟩
  have bg:=big
  have hs:=hb.sub
  walk_at "r"
  refine ⟨Br,fun q0 hq0=>?_⟩
  obtain ⟨H1,s1,e1,z9⟩:=Cn hq0 (.lst [v])
  rw [z9]
  walk_at "r"
  refine .inr (.inl ⟨p,rfl,⟨_,s1.tup hp⟩,?_⟩)
  have p0:(A8 t pl).take 1=[t]:=by
   have:=Md t pl
   cases e:A8 t pl with
   | nil=>rw [e] at this;cases this
   | cons a r =>
    rw [e] at this
    have h:a=t:=by simpa using this
    rw [h]
    rfl
  refine Zdi (K:=K) (a:=p) (xs:=C8 pl far rest) (fun i σ' H'=>i<=pl.length/\∃ w3 ws,σ'=[some v,some (.ref p),some (.ref q0),w3]/\H' q0=some (.lst ws)/\Al (TrAt K H') ws ((A8 t pl).take (i+1))/\Same H H') ⟨Pw _,none,[v],rfl,e1,by rw [p0];exact Al.nil.snoc (ht.same s1),s1⟩ ?_ ?_ ?_
  ·rintro i σ' H' _ ⟨_,_,_,_,_,_,sm⟩
   exact sm.tup hp
  ·rintro i x σ' H' hx ⟨hil,w3,ws,rfl,e2,al,sm⟩
   have hpl:=Ia hs
   have hwl:ws.length=i+1:=by rw [al.1,Pq];omega
   by_cases hi:i < pl.length
   ·obtain ⟨k,rfl,hk⟩:=Zm7 hi hx
    obtain ⟨w',n',ps,u,a1,a2,a3⟩:=Mp hs i k hk
    have hx1:((A8 t pl).take (i+1))[i]?=some (.mk w' n' ps):=by rw [V5,if_pos (by omega)];exact a1
    obtain ⟨vi,hvi,hti⟩:=al.get' hx1
    have hlast:B2 ws (-1)=some vi:=Le (by rw [hwl];exact hvi)
    cases hti with
    | @mk b pp _ nv _ us _ qb hn qp l hch =>
    have hku:k < us.length:=by rw [l];exact (Ph.mp a2).1
    walk_at "r"
    refine Bm (SqL.of e2) hlast ?_
    walk_at "r"
    refine ⟨_,w',n',ps,k,rfl,.mk qb hn qp l hch,?_⟩
    rw [decide_eq_true (show (0:Int)<=(k:Int)/\(k:Int) < (ps.length:Int) from ⟨by omega,by omega⟩)]
    walk_at "r"
    refine B0 (SqL.of e2) ?_
    walk_at "r"
    refine Bm (SqL.of e2) hlast ?_
    walk_at "r"
    refine Az qb rfl ?_
    walk_at "r"
    refine Az qp (Zch k rfl (O5 hku)) ?_
    walk_at "r"
    refine Cs e2 (by omega) ?_
    walk_at "r"
    have t3:SameT H' (upd H' q0 (.lst (ws++[us[k]]))):=SameT.set e2
    refine ⟨hi,_,ws++[us[k]],rfl,Ad,?_,sm.over hq0⟩
    have e3:(A8 t pl).take (i+1+1)=(A8 t pl).take (i+1)++[u]:=by rw [Ra,a3];rfl
    rw [e3]
    exact (al.mono fun _ _ z=>z.sameT t3).snoc ((hch k _ u (O5 hku) a2).sameT t3)
   ·obtain rfl:i=pl.length:=by omega
    obtain rfl:=Zq0 hx
    obtain ⟨w',n',ps,a1,a2⟩:=hb.ex
    have hx1:((A8 t pl).take (pl.length+1))[pl.length]?=some (.mk w' n' ps):=by rw [V5,if_pos (by omega)];exact a1
    obtain ⟨vi,hvi,hti⟩:=al.get' hx1
    have hlast:B2 ws (-1)=some vi:=Le (by rw [hwl];exact hvi)
    walk_at "r"
    refine Bm (SqL.of e2) hlast ?_
    walk_at "r"
    refine ⟨_,w',n',ps,far,rfl,hti,?_⟩
    rw [decide_eq_false a2]
    walk_at "r"
    refine ⟨.ref p,rfl,?_⟩
    refine ⟨Br,fun e he=>⟨e,C,.ref p,rfl,Ad,xC,nA,fun d hd hde=>⟨rfl,some d,Ad,q d _ ?_ ?_⟩⟩⟩
    ·intro b o hbo
     have hb':=sm b o hbo
     have n1:b≠e:=fun z=>by rw [z,he] at hb';cases hb'
     rw [Af hde] at hd
     have n2:b≠d:=fun z=>by rw [z,hd] at hb';cases hb'
     rw [Ln n1,Af n1,Af n2,Af n1]
     exact hb'
    ·rw [Ln hde,Af hde,Ad]
  ·rintro σ' H' ⟨hil,_⟩
   unfold C8 at hil
   rw [O9,Ce,Ps] at hil
   omega
noncomputable def Zbl (K:O1):Sp:=fun vs H Q _=>∃(v:V)(t:Tr)(p:Addr)(pl:List Nat)(tx:Tr),vs=[v,.ref p]/\TrAt K H v t/\SqT K H p (Ar pl)/\Sub t pl/\pl.length<=1000/\(A8 t pl)[pl.length]?=some tx /\
 ∀(u:V)(H':Hp),Same H H'->TrAt K H' u tx->Q u H'
theorem Zgw:A2 ["tree", "place"] ["tree", "place"] (Ay Hy):=by walk_at "sc"
theorem Zc0 {f:Addr}{fd:FuncData}(F:Fun K "form_at" "form_at" Hy f fd)(T:Txt K mg)(C_forms_down_to:A4 P w K mg base 3 "forms_down_to" ["tree", "place"] (Zbv K)):FnOk P w K mg base Ao 4 f fd ["tree", "place"] (Zbl K):=by
 refine F.okq Zgw (fun vs H Q E h=>?_) (fun cdv A outer s H vs Q E hr h=>?_)
 ·obtain ⟨v,t,p,pl,tx,rfl,_⟩:=h
  rfl
 ·obtain ⟨v,t,p,pl,tx,rfl,ht,hp,hs,hl,hx,q⟩:=h
  refine ⟨_,Ag (Au (Ap K (A1 C_forms_down_to hr.m (Aa (qv 0) (Aa (qv 1) Ab))) (Eo Ep Ac))),?_⟩
  have hpl:=Ia hs
  walk_at "r"
  refine ⟨v,t,p,pl,rfl,ht,hp,hs,hl,fun q1 ws H1 hq1 s1 e1 al=>?_⟩
  obtain ⟨u,hu,hat⟩:=al.get' hx
  have hwl:ws.length - 1=pl.length:=by rw [al.1,hpl];omega
  walk_at "r"
  refine Bm (SqL.of e1) (Le (by rw [hwl];exact hu)) ?_
  exact q u H1 s1 hat
theorem Zn8 {C:Addr}{f:Addr}{fd:FuncData}(F:Fun K "form_at" "form_at" Hy f fd)(T:Txt K mg)(C_forms_down_to:Es P w K mg base 3 "forms_down_to" ["tree", "place"] (Mn K C)):FnOk P w K mg base (Bd P w) 4 f fd ["tree", "place"] (Mn K C):=by
 refine F.okx Zgw (fun vs H Q E h=>?_) (fun cdv A outer s H vs Q E hr h=>?_)
 ·obtain ⟨v,t,p,pl,far,rest,rfl,_⟩:=h
  rfl
 ·obtain ⟨v,t,p,pl,far,rest,rfl,ht,hp,hb,hl,q⟩:=h
  refine ⟨_,Ag (Au (Ap K (Lz C_forms_down_to hr.m (Ei (fun _ _ _ h=>h)) (Aa (qv 0) (Aa (qv 1) Ab))) (Eo Ep Ac))),?_⟩
  walk_at "r"
  exact ⟨v,t,p,pl,far,rest,rfl,ht,hp,hb,hl,q⟩
end
noncomputable def Bp (wd:Str):Option (List Int):=if wd∈(["plus", "minus", "less", "call"]:List Str) then some [1,0] else if wd∈(["if", "let"]:List Str) then some [0] else none
noncomputable def WA:List Str:=["gap", "fn", "rec", "if"]
structure Mc (K:O1)(C:Addr):Prop where
 cl:Cls K C
 nf:NoAttr K C "forms"
 nr:NoAttr K C "rows"
 nw:NoAttr K C "waiting"
 nt:NoAttr K C "things"
 ns:NoAttr K C "steps"
theorem Mw (L:Ml)(n:Int):(L.fs n).lookup ("forms" : Str)=some (V.ref L.fd):=rfl
theorem Lb (L:Ml)(n:Int):(L.fs n).lookup ("rows" : Str)=some (V.ref L.rd):=rfl
theorem F5 (L:Ml)(n:Int):(L.fs n).lookup ("waiting" : Str)=some (V.ref L.wd):=rfl
theorem Fj (L:Ml)(n:Int):(L.fs n).lookup ("things" : Str)=some (V.ref L.td):=rfl
theorem K5 (L:Ml)(n:Int):(L.fs n).lookup ("steps" : Str)=some (V.int n):=rfl
theorem Zcv (L:Ml)(n k:Int):Ai "steps" (.int k) (L.fs n)=L.fs k:=rfl
theorem Zho (L:Ml)(n:Int)(t:Addr):Ai "things" (.ref t) (L.fs n)=(L.with t).fs n:=rfl
theorem Cq (L:Ml)(n:Int):(L.fs n).lookup ("make_steps" : Str)=none/\(L.fs n).lookup ("new_row" : Str)=none/\(L.fs n).lookup ("thing_of_leaf" : Str)=none/\(L.fs n).lookup ("come_to" : Str)=none/\(L.fs n).lookup ("go_further" : Str)=none/\(L.fs n).lookup ("taken_things" : Str)=none/\(L.fs n).lookup ("thing_at_the_end" : Str)=none/\(L.fs n).lookup ("thing_of_form" : Str)=none:=⟨rfl,rfl,rfl,rfl,rfl,rfl,rfl,rfl⟩
theorem Zrr {ws:List Str}:(ws.map V.str).all B3=true:=by rw [List.all_map];exact Sn.mpr fun _ _=>rfl
theorem Io {t:Str}{ws:List Str}:Ed (.str t) (ws.map V.str)=decide (t∈ws):=by
 unfold Ed
 rw [List.any_map]
 by_cases hm:t∈ws
 ·rw [decide_eq_true hm]
  exact List.any_eq_true.mpr ⟨t,hm,by show (t == t)=true;simp⟩
 ·rw [decide_eq_false hm]
  exact Bool.eq_false_iff.mpr fun h=>by
   obtain ⟨x,hx,e⟩:=List.any_eq_true.mp h
   have e:(x == t)=true:=e
   have e:x=t:=by simpa using e
   exact hm (by rw [<- e];exact hx)
section
variable {P:Program}{w:World}{K:O1}{mg:Str->Option Value}{base:Heap}
noncomputable def Zgt (K:O1):Sp:=fun vs H Q _=>∃(v:V)(d:Dt)(ts:List Tr),vs=[v]/\TrAt K H v (.mk "gap" d ts)/\Q .non H
theorem Zg9:A2 ["form"] ["form"] (Ay Hi):=by walk_at "sc"
theorem Zmd {f:Addr}{fd:FuncData}(F:Fun K "refuse_no_gap" "refuse_no_gap" Hi f fd)(T:Txt K mg):FnOk P w K mg base Ao 1 f fd ["form"] (Zgt K):=by
 refine F.okq Zg9 (fun vs H Q E h=>?_) (fun cdv A outer s H vs Q E hr h=>?_)
 ·obtain ⟨v,d,ts,rfl,_⟩:=h
  rfl
 ·obtain ⟨v,d,ts,rfl,ht,q⟩:=h
  refine ⟨_,Ag (Ax (Aw (Gp K hr.u200) (Ap K (qv 0) Ac) Am (Av _)) (Ag Ff) A0),?_⟩
  cases ht with
  | @mk b pp _ nv _ us _ qb hn qp l hch =>
  walk_at "r"
  refine Az qb rfl ?_
  walk_at "r"
  rw [decide_eq_true (Eq.refl _)]
  walk_at "r"
  exact q
noncomputable def Zci (K:O1)(ND:Addr):Sp:=fun vs H Q E=>∃ v t,vs=[v]/\TrAt K H v t/\(t.wd = "gap" -> Q .non H)/\(t.wd ≠ "gap" -> E (.ref ND) none H)
theorem Zh9 {N_NoDeed:Addr}{f:Addr}{fd:FuncData}(F:Fun K "refuse_no_gap" "refuse_no_gap" Hi f fd)(T:Txt K mg)(R_NoDeed:Ju K N_NoDeed)(G_NoDeed:mg "NoDeed" = some (.ref N_NoDeed)):FnOk P w K mg base (Bd P w) 1 f fd ["form"] (Zci K N_NoDeed):=by
 refine F.okx Zg9 (fun vs H Q E h=>?_) (fun cdv A outer s H vs Q E hr h=>?_)
 ·obtain ⟨v,t,rfl,_⟩:=h
  rfl
 ·obtain ⟨v,t,rfl,ht,q,x⟩:=h
  refine ⟨_,Ag (Ax (Aw (Gp K hr.u200) (Ap K (qv 0) Ac) Am (Av _)) (Ag (Zgy rfl R_NoDeed G_NoDeed (Aa Am Ab) (fun _ _ _ _ _ _ _ I x h0 hn he=>Oj I x h0 hn he) rfl)) A0),?_⟩
  obtain ⟨a,p,n,rfl,hq⟩:∃ a p n,v=.ref a/\SqT K H a [.str t.wd,n,.ref p]:=by
   cases ht with
   | mk qm _ _ _ _=>exact ⟨_,_,_,rfl,qm⟩
  walk_at "r"
  refine Az hq rfl ?_
  walk_at "r"
  by_cases hw:t.wd = "gap"
  ·rw [hw,decide_eq_true (Eq.refl _)]
   walk_at "r"
   exact q hw
  ·rw [decide_eq_false (fun h=>hw (V.str.inj h))]
   walk_at "r"
   exact ⟨Br,x hw⟩
theorem Bo (a b:Str):decide (V.str a=V.str b)=decide (a=b):=by
 by_cases h:a=b
 ·rw [decide_eq_true h,decide_eq_true (by rw [h])]
 ·rw [decide_eq_false h,decide_eq_false (fun x=>h (V.str.inj x))]
noncomputable def Hq (ops:List (Str×V)):Bool:=ops.all fun x=>decide (x.1=("num" : Str))
noncomputable def Zg0 (K:O1):Sp:=fun vs H Q _=>∃(o:Addr)(ov:List V)(ops:List (Str×V)),vs=[.ref o]/\H o=some (.lst ov)/\Al (ThAt K H) ov ops/\ops.length<=1000/\∀ H',Same H H'->Q (.bl (Hq ops)) H'
theorem Zr0:(["thing"]:List Str).Nodup:=by decide +kernel
theorem Zre:A2 ["things"] ["things"] (Ay Js):=by walk_at "sc"
theorem Znh {f:Addr}{fd:FuncData}(F:Fun K "are_numbers" "are_numbers" Js f fd)(T:Txt K mg):FnOk P w K mg base Ao 1 f fd ["things"] (Zg0 K):=by
 refine F.okq Zre (fun vs H Q E h=>?_) (fun cdv A outer s H vs Q E hr h=>?_)
 ·obtain ⟨o,ov,ops,rfl,_⟩:=h
  rfl
 ·obtain ⟨o,ov,ops,rfl,ho,al,hl,q⟩:=h
  refine ⟨_,Ag (Au (Be (Zq6 K rfl) (by rfl) T.all (by decide +kernel) (Aa (Me (N:=["thing"]) (σ0:=Dv 1 []) rfl (Fq rfl (by decide +kernel) (by decide +kernel) (by decide +kernel)) (D5 K (qv 0)) (Fy rfl (by rfl)) (fun _ _ _ _=>A9 (i:=0) Zr0 rfl (Or.inl rfl)) (fun _ _ _ _=>Gw) (fun _ _ _ _=>Ew (A5 K hr.u200) (Ap K (qv 0) Ac) Am (Av _))) Ab))),?_⟩
  have bg:=big
  have hlen:=al.1
  walk_at "r"
  refine .inl ⟨o,rfl,⟨_,SqL.of ho⟩,fun D hD=>?_⟩
  refine Iy (K:=K) (a:=o) (xs:=ov) (Pv:=fun i ys σ' H'=>∃ kv,σ'=[kv]/\ys=((ops.take i).map fun x:Str×V=>decide (x.1=("num" : Str))).map V.bl/\Same H H') ⟨none,rfl,rfl,Same.upd hD⟩ ?_ ?_ ?_
  ·rintro i ys σ' H' _ ⟨kv,_,_,sm⟩
   exact SqL.of (sm _ _ ho)
  ·rintro i x ys σ' H' hx hys ⟨kv,rfl,rfl,sm⟩
   obtain ⟨y,hy,_,a,rfl,qa⟩:=al.get hx
   have hi:i < ov.length:=(Ph.mp hx).1
   walk_at "r"
   refine Az (sm.tup qa) rfl ?_
   walk_at "r"
   rw [Bo]
   refine ⟨_,hys,by rw [Pa,Pa,Pq];omega,_,Ad,_,rfl,?_,sm.over hD⟩
   rw [Ra,hy,Uz,P4,P4]
   rfl
  ·rintro ys σ' H' hys ⟨kv,rfl,rfl,sm⟩
   walk_at "r"
   refine ⟨D,_,rfl,SqL.of hys,?_⟩
   walk_at "r"
   have q':=q H' sm
   rw [hlen,Tp]
   unfold Hq at q'
   rw [List.all_map]
   exact q'
noncomputable def Dp (bc:List (Str×V))(x:Str×V):Str×V:=if x.1 = "row" then (match x.2 with | .int k=>(bc[k.toNat]?).getD x | _=>x) else x
noncomputable def J4 (n:Nat)(x:Str×V):Prop:=x.1 = "row" -> ∃ k:Nat,x.2=.int (k:Nat)/\k < n
noncomputable def Zbb (K:O1):Sp:=fun vs H Q _=>∃(tv:V)(b:Addr)(bv:List V)(x:Str×V)(bc:List (Str×V)),vs=[tv,.ref b]/\ThAt K H tv x/\SqL K H b bv/\Al (ThAt K H) bv bc/\J4 bc.length x/\∀ v,ThAt K H v (Dp bc x)->Q v H
theorem Zoz:A2 ["thing", "became"] ["thing", "became"] (Ay Kt):=by walk_at "sc"
theorem Zhw {f:Addr}{fd:FuncData}(F:Fun K "thing_now" "thing_now" Kt f fd)(T:Txt K mg):FnOk P w K mg base Ao 1 f fd ["thing", "became"] (Zbb K):=by
 refine F.okq Zoz (fun vs H Q E h=>?_) (fun cdv A outer s H vs Q E hr h=>?_)
 ·obtain ⟨tv,b,bv,x,bc,rfl,_⟩:=h
  rfl
 ·obtain ⟨tv,b,bv,x,bc,rfl,ht,hb,al,ok,q⟩:=h
  refine ⟨_,Ag (Au (Ma (Aw (A5 K hr.u200) (Ap K (qv 0) Ac) Am (Av _)) (Ap K (qv 1) (Ap K (qv 0) Ac)) (qv 0))),?_⟩
  obtain ⟨hf,a,rfl,qa⟩:=ht
  walk_at "r"
  unfold Hm
  walk_at "r"
  refine Az qa rfl ?_
  walk_at "r"
  rw [Bo]
  by_cases hw:x.1 = "row"
  ·obtain ⟨k,ek,hk⟩:=ok hw
   have hkb:k < bv.length:=by rw [al.1];exact hk
   have hx:=al.2 k bv[k] bc[k] (O5 hkb) (O5 hk)
   have en:Dp bc x=bc[k]:=by
    unfold Dp
    rw [if_pos hw,ek]
    simp [O5 hk]
   rw [decide_eq_true hw]
   walk_at "r"
   refine Az qa rfl ?_
   rw [ek]
   refine Bm hb (Ci (O5 hkb)) ?_
   exact q _ (by rw [en];exact hx)
  ·rw [decide_eq_false hw]
   walk_at "r"
   refine q _ ?_
   unfold Dp
   rw [if_neg hw]
   exact ⟨hf,a,rfl,qa⟩
noncomputable def D7 (rs:List Rx)(x:Str×V):Bool:=match x with
 | (w,.int k)=>decide (w = "row") && (match rs[k.toNat]? with | some r=>decide (r.wd∈(["fn", "rec"]:List Str)) | none=>false)
 | _=>false
noncomputable def Ix (rs:List Rx)(x:Str×V):Prop:=x.1 = "row" -> ∃ k:Nat,x.2=.int (k:Nat)/\k < rs.length
noncomputable def Zg8 (K:O1):Sp:=fun vs H Q _=>∃(v:V)(x:Str×V)(r:Addr)(rv:List V)(A:Addr->Prop)(rs:List Rx),vs=[v,.ref r]/\ThAt K H v x/\x.1 = "row" /\ Ix rs x/\H r=some (.lst rv)/\Al (RwAt K A H) rv rs/\∀ H',Same H H'->Q (.bl (D7 rs x)) H'
theorem Zpm:A2 ["thing", "rows"] ["thing", "rows"] (Ay Lc):=by walk_at "sc"
theorem Ziy {f:Addr}{fd:FuncData}(F:Fun K "is_finished" "is_finished" Lc f fd)(T:Txt K mg):FnOk P w K mg base Ao 1 f fd ["thing", "rows"] (Zg8 K):=by
 refine F.okq Zpm (fun vs H Q E h=>?_) (fun cdv A outer s H vs Q E hr h=>?_)
 ·obtain ⟨v,x,r,rv,A,rs,rfl,_⟩:=h
  rfl
 ·obtain ⟨v,x,r,rv,B,rs,rfl,hx,hw,ok,er,al,q⟩:=h
  refine ⟨_,Ag (Au (Znr (Ew (Gp K hr.u200) (Ap K (qv 0) Ac) Am (Av _)) (Fk (Ew (Kl K) (Ap K (Ap K (qv 1) (Ap K (qv 0) Ac)) Ac) (Ak (Aa Am (Aa Am Ab))) (by rfl))))),?_⟩
  obtain ⟨hf,a,rfl,qa⟩:=hx
  obtain ⟨k,ek,hk⟩:=ok hw
  obtain ⟨xw,xv⟩:=x
  have hw:xw = "row" := hw
  have ek:xv=.int (k:Nat):=ek
  subst hw ek
  have hkr:k < rv.length:=by rw [al.1];exact hk
  obtain ⟨y,hy,a2,p2,o2,e2,ov,ev,h1,h2,_⟩:=al.get (O5 hkr)
  have ef:D7 rs ("row",.int (k:Nat))=decide (y.wd∈(["fn", "rec"]:List Str)):=by
   unfold D7
   simp only [R7,hy,decide_true,Bool.true_and]
  rw [ef] at q
  walk_at "r"
  refine Az qa rfl ?_
  walk_at "r"
  rw [decide_eq_true (Eq.refl _)]
  walk_at "r"
  refine Az qa rfl ?_
  walk_at "r"
  refine Bm (SqL.of er) (Ci (O5 hkr)) ?_
  rw [h1]
  walk_at "r"
  refine Az h2 rfl ?_
  walk_at "r"
  refine ⟨Bb,fun p1 hp1=>?_⟩
  refine F9 (.inr (SqT.of Ad)) rfl rfl ?_
  rw [if_neg Pd,show Ed (.str y.wd) [.str "fn",.str "rec"]=decide (y.wd∈(["fn", "rec"]:List Str)) from Io (ws:=["fn", "rec"])]
  exact q _ (Same.upd hp1)
noncomputable def Zc2 (K:O1)(C:Addr):Sp:=fun vs H Q _=>∃(v:V)(x:Str×V)(HB:Hp)(kvs:List (List An×V))(L:Ml)(S:MS),vs=[.ref L.m,v]/\MAt K HB C kvs L H S/\ThAt K H v x/\Ix S.rows x/\∀ H',Same H H'->Q (.bl (D7 S.rows x)) H'
theorem Znv:A2 ["self", "thing"] ["self", "thing"] (Ay Jg):=by walk_at "sc"
theorem Zlx {C:Addr}{f:Addr}{fd:FuncData}(F:Fun K "is_function" "Machine.is_function" Jg f fd)(T:Txt K mg)(O:Mc K C)(C_is_finished:A4 P w K mg base 1 "is_finished" ["thing", "rows"] (Zg8 K)):FnOk P w K mg base Ao 2 f fd ["self", "thing"] (Zc2 K C):=by
 refine F.okq Znv (fun vs H Q E h=>?_) (fun cdv A outer s H vs Q E hr h=>?_)
 ·obtain ⟨v,x,HB,kvs,L,S,rfl,_⟩:=h
  rfl
 ·obtain ⟨v,x,HB,kvs,L,S,rfl,M,hx,ok,q⟩:=h
  refine ⟨_,Ag (Au (E3 (Ew (A5 K hr.u200) (Ap K (qv 1) Ac) Am (Av _)) (Fk (A1 C_is_finished hr.m (Aa (qv 1) (Aa (Bt K (qv 0)) Ab)))))),?_⟩
  obtain ⟨hf,a,rfl,qa⟩:=id hx
  obtain ⟨rv,er,ar,spr⟩:=M.rows
  walk_at "r"
  refine Az qa rfl ?_
  walk_at "r"
  rw [Bo]
  by_cases hw:x.1 = "row"
  ·rw [decide_eq_true hw]
   walk_at "r"
   refine ⟨_,rfl,L.m,C,L.dx,_,_,rfl,M.ins,O.cl,O.nr,Lb L S.steps,?_⟩
   walk_at "r"
   exact ⟨_,x,L.rd,rv,_,S.rows,rfl,hx,hw,ok,er,ar.mono fun v x h=>h.1,q⟩
  ·rw [decide_eq_false hw]
   have e:D7 S.rows x=false:=by
    unfold D7
    split
    ·simp only at hw
     rw [decide_eq_false hw]
     rfl
    ·rfl
   rw [e] at q
   walk_at "r"
   exact q H (Same.refl _)
noncomputable def Ga (wd:Str)(d:Dt)(n:Int):List Str :=
 if wd = "fn" then (match d with | .flat (.str z)=>[z] | _=>[])
 else if wd = "rec" then (match d with | .tup [.flat (.str y),.flat (.str z)]=>[y,z] | _=>[])
 else if wd = "let" /\ n=1 then (match d with | .flat (.str z)=>[z] | _=>[])
 else []
noncomputable def Ee (wd:Str)(d:Dt):Prop:=(wd = "fn" \/ wd = "let" -> ∃ z,d=.flat (.str z))/\(wd = "rec" -> ∃ y z,d=.tup [.flat (.str y),.flat (.str z)])
noncomputable def Zfz (K:O1):Sp:=fun vs H Q _=>∃(v:V)(wd:Str)(d:Dt)(ts:List Tr)(n:Int),vs=[v,.int n]/\TrAt K H v (.mk wd d ts)/\Ee wd d/\∀ l H',Same H H'->H l=none->H' l=some (.lst ((Ga wd d n).map V.str))->Q (.ref l) H'
theorem Zjf:A2 ["form", "number"] ["form", "number"] (Ay K1):=by walk_at "sc"
theorem Zqr {f:Addr}{fd:FuncData}(F:Fun K "names_bound" "names_bound" K1 f fd)(T:Txt K mg):FnOk P w K mg base Ao 1 f fd ["form", "number"] (Zfz K):=by
 refine F.okq Zjf (fun vs H Q E h=>?_) (fun cdv A outer s H vs Q E hr h=>?_)
 ·obtain ⟨v,wd,d,ts,n,rfl,_⟩:=h
  rfl
 ·obtain ⟨v,wd,d,ts,n,rfl,ht,ok,q⟩:=h
  refine ⟨_,Ae (Ax (Aw (A5 K hr.u200) (Ap K (qv 0) Ac) Am (Av _)) (Ag (Au (Ba (Aa (Ap K (qv 0) Ac) Ab)))) A0)
   (Ae (Ax (Aw (A5 K hr.u200) (Ap K (qv 0) Ac) Am (Av _)) (Ag (Au (Em (Jc K) (by rfl) T.list (by decide +kernel) (Aa (Ap K (qv 0) Ac) Ab)))) A0)
   (Ae (Ax (QW.qt (Du (Aw (A5 K hr.u200) (Ap K (qv 0) Ac) Am (Av _)) (D3 (Aw (A5 K hr.u200) (qv 1) Ac (Av _))))) (Ag (Au (Ba (Aa (Ap K (qv 0) Ac) Ab)))) A0)
   (Ag (Au (Ba Ab))))),?_⟩
  cases ht with
  | @mk b pp _ nv _ vs _ qb hn qpp hl hch =>
  have flat:∀ z,d=.flat (.str z)->nv=.str z:=by
   intro z e
   rcases hn with ⟨_,h⟩ | ⟨_,_,_,_,_,h⟩
   ·rw [e] at h;injection h with h;exact h.symm
   ·rw [e] at h;cases h
  unfold Ga at q
  walk_at "r"
  refine Az qb rfl ?_
  walk_at "r"
  rw [Bo]
  refine Bj (fun h=>?_) (fun h=>?_)
  ·have h:wd = "fn" := of_decide_eq_true h
   obtain ⟨z,rfl⟩:=ok.1 (.inl h)
   have:=flat z rfl
   subst this
   rw [if_pos h] at q
   walk_at "r"
   refine Az qb rfl ?_
   walk_at "r"
   refine ⟨Br,fun l hl'=>?_⟩
   exact q l _ (Same.upd hl') hl' Ad
  have h:¬ wd = "fn" := fun x=>h (decide_eq_true x)
  rw [if_neg h] at q
  walk_at "r"
  refine Az qb rfl ?_
  walk_at "r"
  rw [Bo]
  refine Bj (fun h=>?_) (fun h=>?_)
  ·have h:wd = "rec" := of_decide_eq_true h
   obtain ⟨y,z,rfl⟩:=ok.2 h
   rw [if_pos h] at q
   obtain ⟨a,us,rfl,qa,hus⟩:∃ a us,nv=.ref a/\SqT K H a us/\us=[.str y,.str z]:=by
    rcases hn with ⟨_,h⟩ | ⟨a,us,e,qa,_,h⟩
    ·cases h
    ·refine ⟨a,us,e,qa,?_⟩
     injection h with h
     obtain ⟨u1,u2,rfl⟩:=lz2 (vs:=us) (by have:=congrArg Sw h;rw [Pa] at this;exact this.symm)
     simp only [Qa,Vl,Wq,Dt.flat.injEq,and_true] at h
     rw [h.1,h.2]
   subst hus
   walk_at "r"
   refine Az qb rfl ?_
   walk_at "r"
   refine ⟨a,_,rfl,.inr qa,fun l hl'=>?_⟩
   exact q l _ (Same.upd hl') hl' Ad
  have h:¬ wd = "rec" := fun x=>h (decide_eq_true x)
  rw [if_neg h] at q
  walk_at "r"
  refine Az qb rfl ?_
  walk_at "r"
  rw [Bo]
  by_cases hlet:wd = "let"
  ·rw [decide_eq_true hlet]
   walk_at "r"
   by_cases hn1:n=1
   ·rw [decide_eq_true (by rw [hn1])]
    obtain ⟨z,rfl⟩:=ok.1 (.inr hlet)
    have:=flat z rfl
    subst this
    rw [if_pos ⟨hlet,hn1⟩] at q
    walk_at "r"
    refine Az qb rfl ?_
    walk_at "r"
    refine ⟨Br,fun l hl'=>?_⟩
    exact q l _ (Same.upd hl') hl' Ad
   ·rw [decide_eq_false (fun h=>hn1 (V.int.inj h))]
    rw [if_neg (fun h=>hn1 h.2)] at q
    walk_at "r"
    refine ⟨Bf,fun l hl'=>?_⟩
    exact q l _ (Same.upd hl') hl' Ad
  ·rw [decide_eq_false hlet]
   rw [if_neg (fun h=>hlet h.1)] at q
   walk_at "r"
   refine ⟨Bf,fun l hl'=>?_⟩
   exact q l _ (Same.upd hl') hl' Ad
end
end K56
local macro_rules | `(tactic| walk_at "r1")=>`(tactic| with_reducible first | refine L2.s_seqH (fun _ _=>?_) | refine L2.openY (by assumption) ?_)
namespace K56
open PySem L2
section
variable {P:Program}{w:World}{K:O1}{mg:Str->Option Value}{base:Heap}
noncomputable def Ky (K:O1)(C:Addr):Sp:=fun vs H Q _=>∃(wd:Str)(p o e:Addr)(pl:List Nat)(ov ev:List V)(ops:List (Str×V))(ar:List (Str×Str×V))(HB:Hp)(kvs:List (List An×V))(L:Ml)(S:MS),vs=[.ref L.m,.str wd,.ref p,.ref o,.ref e]/\MAt K HB C kvs L H S/\H p=some (.tup (Ar pl))/\SqL K H o ov/\Al (ThAt K H) ov ops/\SqL K H e ev/\Al (PrAt K H) ev ar/\S.rows.length < 10000 /\
 ∀ v H',SameM L H H'->MAt K HB C kvs L H' { S with rows:=S.rows++[⟨wd,A3 pl,ops,if wd∈WA then ar else []⟩] }->ThAt K H' v ("row",.int (S.rows.length:Nat))->Q v H'
theorem Zfj:A2 ["self", "word", "place", "operands", "around", "kept"] ["self", "word", "place", "operands", "around"] (Ay Jr):=by walk_at "sc"
theorem viaV {t:TE}{σ:St}{H:Hp}{Q:VK}(R:V->Hp->Prop)(h2:∀ x H',R x H'->Q x H')(h1:∀ Q':VK,(∀ x H',R x H'->Q' x H')->t σ H Q'):t σ H Q:=h1 Q h2
theorem Zoc {C:Addr}{f:Addr}{fd:FuncData}(F:Fun K "new_row" "Machine.new_row" Jr f fd)(T:Txt K mg)(O:Mc K C){aw:Addr}(G_WORDS_WITH_AROUND:D8 mg "WORDS_WITH_AROUND" (.ref aw))(hwa:∀ H,SqT K H aw (WA.map V.str)):FnOk P w K mg base Ao 1 f fd ["self", "word", "place", "operands", "around"] (Ky K C):=by
 refine F.okq Zfj (fun vs H Q E h=>?_) (fun cdv A outer s H vs Q E hr h=>?_)
 ·obtain ⟨wd,p,o,e,pl,ov,ev,ops,ar,HB,kvs,L,S,rfl,_⟩:=h
  rfl
 ·obtain ⟨wd,p,o,e,pl,ov,ev,ops,ar,HB,kvs,L,S,rfl,M,hp,ho,alo,he,ale,hz,q⟩:=h
  refine ⟨_,Ae (Aq 5 Zfj (Ma (Aw (Kl K) (qv 1) (Fd G_WORDS_WITH_AROUND) (by rfl)) (Em (Jc K) (by rfl) T.list (by decide +kernel) (Aa (qv 4) Ab)) (Ba Ab)))
   (Ae (Bq (Cd K Pr P0 P3 Ck (Bt K (qv 0)) (Aa (Ak (Aa (qv 1) (Aa (qv 2) (Aa (Em (Jc K) (by rfl) T.list (by decide +kernel) (Aa (qv 3) Ab)) (Aa (qv 5) Ab))))) Ab)))
   (Ag (Au (Ak (Aa Am (Aa (Ah Dx (Be (Cp K) (by rfl) T.len (by decide +kernel) (Aa (Bt K (qv 0)) Ab)) Ac) Ab)))))),?_⟩
  have bg:=big
  walk_at "r"
  have kept:Al (PrAt K H) (if wd∈WA then ev else []) (if wd∈WA then ar else []):=by
   by_cases hw:wd∈WA
   ·rw [if_pos hw,if_pos hw];exact ale
   ·rw [if_neg hw,if_neg hw];exact .nil
  refine viaV (R:=fun x H'=>∃ k,x=.ref k/\H k=none/\H'=upd H k (.lst (if wd∈WA then ev else []))) ?_ (fun Q' hQ=>?_)
  ·rintro _ _ ⟨k,rfl,hk,rfl⟩
   have s1:Same H (upd H k (.lst (if wd∈WA then ev else []))):=Same.upd hk
   have e1:upd H k (.lst (if wd∈WA then ev else [])) k=some (.lst (if wd∈WA then ev else [])):=Ad
   revert s1 e1 kept
   generalize (if wd∈WA then ev else [])=kv
   generalize (if wd∈WA then ar else [])=ka at q ⊢
   generalize upd H k (.lst kv)=H1
   intro kept s1 e1
   have M1:=M.new s1
   obtain ⟨rv,er,arr,spr⟩:=M1.rows
   walk_at "r"
   refine ⟨_,rfl,L.m,C,L.dx,_,_,rfl,M1.ins,O.cl,O.nr,Lb L S.steps,?_⟩
   refine B0 (SqL.of er) ?_
   walk_at "r"
   refine ⟨_,ov,rfl,.inl (s1.seq ho),fun o2 ho2=>?_⟩
   have s2:Same H1 (upd H1 o2 (.lst ov)):=Same.upd ho2
   have e2:upd H1 o2 (.lst ov) o2=some (.lst ov):=Ad
   have e12:=s2 _ _ e1
   revert s2 e2 e12
   generalize upd H1 o2 (.lst ov)=H2
   intro s2 e2 e12
   walk_at "r"
   refine ⟨Fa,fun r hr=>?_⟩
   obtain ⟨H3,s3,e3,z9⟩:=Cn hr (.tup [.str wd,.ref p,.ref o2,.ref k])
   rw [z9]
   have s13:=s2.trans s3
   have s03:=s1.trans s13
   have M3:=M.new s03
   have hrl:rv.length=S.rows.length:=arr.1
   walk_at "r"
   refine Cs (s13 _ _ er) (by omega) ?_
   obtain ⟨rv0,er0,_,sp0⟩:=M.rows
   obtain ⟨wv0,ew0,_⟩:=M.wait
   obtain ⟨tv0,et0,_⟩:=M.things
   have nb:∀ b,H b=none->¬ (L.A b\/HB b≠none):=by
    intro b hb hx
    rcases hx with (z | z | z) | z
    ·rw [z,er0] at hb;cases hb
    ·rw [z,ew0] at hb;cases hb
    ·rw [z,et0] at hb;cases hb
    ·cases h:HB b with
     | none=>exact z h
     | some ob=>rw [M.base _ _ h] at hb;cases hb
   have rw4:RwO K (fun b=>L.A b\/HB b≠none) H3 (.ref r) (⟨wd,A3 pl,ops,ka⟩,o2,k):=⟨r,p,ov,kv,rfl,SqT.of e3,by rw [C9];exact SqT.of (s03 _ _ hp),s3 _ _ e2,alo.mono (ThAt.same s03.t),s3 _ _ e12,kept.mono (PrAt.same s03.t),nb _ (s1.free ho2),nb _ hk,fun z=>by rw [show o2=k from z,e1] at ho2;cases ho2⟩
   have sp4:SepR K (fun b=>L.A b\/HB b≠none) H3 (rv++[.ref r]) (S.rows++[⟨wd,A3 pl,ops,ka⟩]):=SepR.add (H:=H) (by rw [show rv=rv0 from by have h:=s1 _ _ er0;rw [er] at h;cases h;rfl];exact sp0) s03 (s1.free ho2) hk rw4
   have M4:=M3.setRows (rv:=rv++[.ref r]) (rs:=S.rows++[⟨wd,A3 pl,ops,ka⟩]) ((arr.mono (RwX.same s13.a)).snoc ⟨⟨r,p,o2,k,ov,kv,rfl,SqT.of e3,by rw [C9];exact SqT.of (s03 _ _ hp),s3 _ _ e2,alo.mono (ThAt.same s03.t),s3 _ _ e12,kept.mono (PrAt.same s03.t),nb _ (s1.free ho2),nb _ hk⟩,r,p,o2,k,rfl,SqT.of e3,by rw [C9];exact s03 _ _ hp⟩) sp4
   have e4:SameM L H (upd H3 L.rd (.lst (rv++[.ref r]))):=(s03.m L).trans (SameM.upd (.inr (.inl rfl)))
   have er4:upd H3 L.rd (.lst (rv++[.ref r])) L.rd=some (.lst (rv++[.ref r])):=Ad
   revert M4 e4 er4
   generalize upd H3 L.rd (.lst (rv++[.ref r]))=H4
   intro M4 e4 er4
   walk_at "r"
   refine ⟨_,rfl,L.m,C,L.dx,_,_,rfl,M4.ins,O.cl,O.nr,Lb L S.steps,?_⟩
   walk_at "r"
   refine El (SqL.of er4) ?_
   walk_at "r"
   refine ⟨Bb,fun t ht=>?_⟩
   have e5:(((rv++[V.ref r]).length:Nat):Int) - 1=((S.rows.length:Nat):Int):=by rw [O9,Pz];omega
   rw [e5]
   have s5:Same H4 (upd H4 t (.tup [.str "row",.int (S.rows.length:Nat)])):=Same.upd ht
   exact q _ _ (e4.trans (s5.m L)) (M4.new s5) ⟨rfl,t,rfl,SqT.of Ad⟩
  ·unfold Hm
   walk_at "r"
   refine F9 (.inr (hwa _)) rfl Zrr ?_
   rw [if_neg Pd,Io]
   refine ⟨_,rfl,?_⟩
   refine Bj (fun h=>?_) (fun h=>?_)
   ·have h:wd∈WA:=of_decide_eq_true h
    walk_at "r"
    refine ⟨_,ev,rfl,.inl he,fun k hk=>?_⟩
    exact hQ _ _ ⟨k,rfl,hk,by rw [if_pos h]⟩
   ·have h:¬ wd∈WA:=fun x=>h (decide_eq_true x)
    walk_at "r"
    refine ⟨Bf,fun k hk=>?_⟩
    exact hQ _ _ ⟨k,rfl,hk,by rw [if_neg h]⟩
noncomputable def K2 (ns:List Str)(xs:List (Str×V)):List (Str×Str×V):=ns.zip xs
noncomputable def inS (S:MS)(wd:Str)(d:Dt)(pl:List Nat)(n:Nat)(ar:List (Str×Str×V))(xs:List (Str×V)):MS:={ S with wait:=S.wait++[⟨pl++[n],ar++K2 (Ga wd d n) xs,false⟩] }
noncomputable def Lu (K:O1)(C:Addr):Sp:=fun vs H Q _=>∃(p e o:Addr)(n:Nat)(pl:List Nat)(ev ov:List V)(ar:List (Str×Str×V))(xs:List (Str×V))(HB:Hp)(kvs:List (List An×V))(L:Ml)(S:MS)(v:V)(wd:Str)(d:Dt)(ts:List Tr),vs=[.ref L.m,.ref p,.int (n:Nat),.ref e,.ref o]/\MAt K HB C kvs L H S/\H p=some (.tup (Ar pl))/\H e=some (.lst ev)/\Al (PrAt K H) ev ar/\H o=some (.lst ov)/\Al (ThAt K H) ov xs/\Bu kvs (Cy pl)=some v/\TrAt K H v (.mk wd d ts)/\Ee wd d/\pl.length<=2000/\ar.length<=9000/\S.wait.length < 9000 /\
 ∀ H',SameM L H H'->MAt K HB C kvs L H' (inS S wd d pl n ar xs)->Q .non H'
theorem Zha:A2 ["self", "place", "number", "around", "things", "names"] ["self", "place", "number", "around", "things"] (Ay Jy):=by walk_at "sc"
theorem Zop (wd:Str)(d:Dt)(n:Int):(Ga wd d n).length<=2:=by
 unfold Ga
 repeat' split
 all_goals simp
theorem Znm {C:Addr}{f:Addr}{fd:FuncData}(F:Fun K "go_within" "Machine.go_within" Jy f fd)(T:Txt K mg)(O:Mc K C)(C_names_bound:A4 P w K mg base 1 "names_bound" ["form", "number"] (Zfz K)):FnOk P w K mg base Ao 2 f fd ["self", "place", "number", "around", "things"] (Lu K C):=by
 refine F.okq Zha (fun vs H Q E h=>?_) (fun cdv A outer s H vs Q E hr h=>?_)
 ·obtain ⟨p,e,o,n,pl,ev,ov,ar,xs,HB,kvs,L,S,v,wd,d,ts,rfl,_⟩:=h
  rfl
 ·obtain ⟨p,e,o,n,pl,ev,ov,ar,xs,HB,kvs,L,S,v,wd,d,ts,rfl,M,hp,he,ale,ho,alo,hv,ht,bk,hpl,hal,hwl,q⟩:=h
  refine ⟨_,Ae (Aq 5 Zha (A1 C_names_bound hr.m (Aa (K3 hr.u1 (Bt K (qv 0)) (qv 1) (fun _ _=>rfl)) (Aa (qv 2) Ab))))
   (Ag (Bq (Cd K Pr P0 P3 Ck (Bt K (qv 0)) (Aa (Ak (Aa (Ah (Ld K) (qv 1) (Ak (Aa (qv 2) Ab))) (Aa (Ah (Bc K) (qv 3) (Zp9 K (by rfl) T.list (by rfl) T.zip (Aa (qv 5) (Aa (qv 4) Ab)))) (Aa Dl Ab)))) Ab)))),?_⟩
  have bg:=big
  have bn:=Zop wd d n
  walk_at "r"
  refine ⟨_,rfl,L.m,C,L.dx,_,_,rfl,M.ins,O.cl,O.nf,Mw L S.steps,_,rfl,L.fd,v,rfl,?_,?_⟩
  ·rw [<- hv]
   refine DGet.t M.frm ?_
   rw [Kp]
   exact hp
  walk_at "r"
  refine ⟨v,wd,d,ts,n,rfl,ht,bk,fun l H1 s1 hl e1=>?_⟩
  have M1:=M.new s1
  obtain ⟨wv,ew,aw⟩:=M1.wait
  have hwv:=aw.1
  walk_at "r"
  refine ⟨_,rfl,L.m,C,L.dx,_,_,rfl,M1.ins,O.cl,O.nw,F5 L S.steps,?_⟩
  refine B0 (SqL.of ew) ?_
  walk_at "r"
  refine ⟨Br,fun p2 hp2=>?_⟩
  obtain ⟨H2,s2,e2,z9⟩:=Cn hp2 (.tup [.int (n:Nat)])
  rw [z9]
  refine N6 (s2 _ _ (s1 _ _ hp)) e2 (by unfold Ar;rw [Pa,Pz];omega) fun p3 H3 s3 e3=>?_
  have s03:=s1.trans (s2.trans s3)
  walk_at "r"
  refine Zj6 ?_
  walk_at "r"
  refine ⟨l,o,_,ov,rfl,SqL.of (s3 _ _ (s2 _ _ e1)),SqL.of (s03 _ _ ho),fun z zs H4 hz0 s4 hzl hzp ez=>?_⟩
  have s04:=s03.trans s4
  have he4:=s04 _ _ he
  have alz:Al (PrAt K H4) zs (K2 (Ga wd d n) xs):=by
   have hlo:=alo.1
   refine ⟨by unfold K2;rw [hzl,Pa,List.length_zip,hlo],fun j y x f1 f2=>?_⟩
   obtain ⟨t,u1,u2,rfl,g1,g2,g3⟩:=hzp j y f1
   unfold K2 at f2
   rw [List.getElem?_zip_eq_some] at f2
   rw [Qj,f2.1] at g1
   cases g1
   exact ⟨t,u2,rfl,SqT.of g3,ThAt.same s04.t _ _ (alo.2 j _ _ g2 f2.2)⟩
  have hzl2:zs.length<=2:=by rw [hzl,Pa];omega
  have hel:=ale.1
  refine Gz he4 ez (by omega) fun e5 he5=>?_
  have s5:Same H4 (upd H4 e5 (.lst (ev++zs))):=Same.upd he5
  have ee5:upd H4 e5 (.lst (ev++zs)) e5=some (.lst (ev++zs)):=Ad
  have nA5:¬ L.A e5:=by
   have M4:=M.new s04
   obtain ⟨rv,er,_⟩:=M4.rows
   obtain ⟨wv',ew',_⟩:=M4.wait
   obtain ⟨tv,et,_⟩:=M4.things
   rintro (y | y | y)
   ·rw [y,er] at he5;cases he5
   ·rw [y,ew'] at he5;cases he5
   ·rw [y,et] at he5;cases he5
  revert s5 ee5
  generalize upd H4 e5 (.lst (ev++zs))=H5
  intro s5 ee5
  have s05:=s04.trans s5
  walk_at "r"
  refine ⟨Bg,fun r hr'=>?_⟩
  obtain ⟨H6,s6,e6,z9⟩:=Cn hr' (.tup [.ref p3,.ref e5,.bl false])
  rw [z9]
  have s06:=s05.trans s6
  have s16:=s2.trans (s3.trans (s4.trans (s5.trans s6)))
  walk_at "r"
  refine Cs (s16 _ _ ew) (by omega) ?_
  have M6:=M.new s06
  have M7:=M6.setWait (wv:=wv++[.ref r]) (ws:=S.wait++[⟨pl++[n],ar++K2 (Ga wd d n) xs,false⟩]) ((aw.mono (WtAt.same s16.a)).snoc ⟨r,p3,e5,ev++zs,rfl,SqT.of e6,?_,s6 _ _ ee5,?_,nA5⟩)
  ·walk_at "r"
   exact q _ ((s06.m L).trans (SameM.upd (.inr (.inr (.inl rfl))))) M7
  ·have e9:=s6 _ _ (s5 _ _ (s4 _ _ e3))
   rw [e9]
   unfold Ar
   rw [P4]
   rfl
  ·exact (ale.mono (PrAt.same s06.t)).append (alz.mono (PrAt.same (s5.trans s6).t))
theorem Hh (L:Ml)(n:Int):(L.fs n).lookup ("go_within" : Str)=none/\(L.fs n).lookup ("is_function" : Str)=none/\(L.fs n).lookup ("call" : Str)=none:=⟨rfl,rfl,rfl⟩
noncomputable def Zcc (K:O1)(C:Addr):Sp:=fun vs H Q _=>∃(o:Addr)(ov:List V)(k:Nat)(xs:List (Str×V))(r:Rx)(pl:List Nat)(HB:Hp)(kvs:List (List An×V))(L:Ml)(S:MS)(v:V)(wd:Str)(d:Dt)(ts:List Tr),vs=[.ref L.m,.ref o]/\MAt K HB C kvs L H S/\H o=some (.lst ov)/\Al (ThAt K H) ov (("row",.int (k:Nat))::xs)/\S.rows[k]?=some r/\r.pl=A3 pl/\Bu kvs (Cy pl)=some v/\TrAt K H v (.mk wd d ts)/\Ee wd d/\pl.length<=2000/\r.ar.length<=9000/\S.wait.length < 9000/\xs.length<=1000 /\
 ∀ H',SameM L H H'->MAt K HB C kvs L H' (inS S wd d pl 0 r.ar (if r.wd = "rec" then ("row",.int (k:Nat))::xs else xs))->Q .non H'
theorem Zfw:A2 ["self", "operands", "row"] ["self", "operands"] (Ay Jd):=by walk_at "sc"
theorem Zol {C:Addr}{f:Addr}{fd:FuncData}(F:Fun K "call" "Machine.call" Jd f fd)(T:Txt K mg)(O:Mc K C)(MW:Cc Ao P w K mg base 2 C "go_within" ["self", "place", "number", "around", "things"] (Lu K C)):FnOk P w K mg base Ao 3 f fd ["self", "operands"] (Zcc K C):=by
 refine F.okq Zfw (fun vs H Q E h=>?_) (fun cdv A outer s H vs Q E hr h=>?_)
 ·obtain ⟨o,ov,k,xs,r,pl,HB,kvs,L,S,v,wd,d,ts,rfl,_⟩:=h
  rfl
 ·obtain ⟨o,ov,k,xs,r,pl,HB,kvs,L,S,v,wd,d,ts,rfl,M,ho,alo,hr1,hpl,hv,ht,bk,hpn,har,hwl,hxl,q⟩:=h
  refine ⟨_,Ae (Aq 2 Zfw (Ap K (Bt K (qv 0)) (Ap K (Ap K (qv 1) Ac) Ac)))
   (Ag (Bq (Co (k:=2) K Ao ["self", "place", "number", "around", "things"] (qv 0) hr.m Cz (Aa (Ap K (qv 2) Ac) (Aa Ac (Aa (Ap K (qv 2) Ac) (Aa (Ma (Aw (A5 K hr.u200) (Ap K (qv 2) Ac) Am (Av _)) (qv 1) (Dm (Gk K) (qv 1) (C6 Ac) (Dn))) Ab))))))),?_⟩
  have bg:=big
  obtain ⟨rv,er,ar,spr⟩:=M.rows
  obtain ⟨u,hu⟩:∃ u,rv[k]?=some u:=⟨_,O5 (by rw [ar.1];exact (Ph.mp hr1).1)⟩
  obtain ⟨r',hr',xr⟩:=ar.get hu
  rw [hr1] at hr'
  cases hr'
  obtain ⟨⟨a,p',o',e,ops',ev,rfl,qa,_,_,_,he,ale,_,nAe⟩,a2,p,o2,e2,ea,qa2,hp⟩:=xr
  cases ea
  obtain ⟨u0,us,rfl⟩:∃ u0 us,ov=u0::us:=by
   have hl:=alo.1
   match ov,hl with
   | u0::us,_=>exact ⟨u0,us,rfl⟩
  obtain ⟨_,ax,rfl,qx⟩:=alo.2 0 u0 _ rfl rfl
  have hp':H p=some (.tup (Ar pl)):=by rw [hp,hpl,C9]
  walk_at "r"
  refine ⟨_,rfl,L.m,C,L.dx,_,_,rfl,M.ins,O.cl,O.nr,Lb L S.steps,?_⟩
  walk_at "r"
  refine Bm (SqL.of ho) (Ci (j:=0) rfl) ?_
  walk_at "r"
  refine Az qx rfl ?_
  refine Bm (SqL.of er) (Ci hu) ?_
  walk_at "r"
  refine ⟨_,rfl,L.m,C,L.dx,_,_,rfl,M.ins,(Hh L S.steps).1,MW,?_⟩
  walk_at "r"
  refine Az qa2 rfl ?_
  walk_at "r"
  refine Az qa rfl ?_
  walk_at "r"
  unfold Hm
  walk_at "r"
  refine Az qa rfl ?_
  walk_at "r"
  rw [Bo]
  by_cases hw:r.wd = "rec"
  ·rw [if_pos hw] at q
   rw [decide_eq_true hw]
   walk_at "r"
   exact ⟨p,e,o,0,pl,ev,_,r.ar,_,HB,kvs,L,S,v,wd,d,ts,rfl,M,hp',he,ale,ho,alo,hv,ht,bk,hpn,har,hwl,fun H2 e2 M2=>by walk_at "r";exact q _ e2 M2⟩
  ·rw [if_neg hw] at q
   rw [decide_eq_false hw]
   walk_at "r"
   refine Li (SqL.of ho) fun l hl=>?_
   have ec:Bz (V.ref ax::us) (some 1) none=us:=My _ 1
   rw [ec]
   obtain ⟨H2,s2,e2,z9⟩:=Cn hl (.lst us)
   rw [z9]
   have alu:Al (ThAt K H2) us xs:=⟨by have:=alo.1;simpa using this,fun j y x f1 f2=>ThAt.same s2.t _ _ (alo.2 (j+1) y x (by simpa using f1) (by simpa using f2))⟩
   exact ⟨p,e,l,0,pl,ev,us,r.ar,xs,HB,kvs,L,S,v,wd,d,ts,rfl,M.new s2,s2 _ _ hp',s2 _ _ he,ale.mono (PrAt.same s2.t),e2,alu,hv,ht.same s2,bk,hpn,har,hwl,fun H3 e3 M3=>by walk_at "r";exact q _ ((s2.m L).trans e3) M3⟩
theorem Zrd (xs:List V)(n:Nat)(h0:0 < n)(h:n<=xs.length):Bz xs (some (-(n:Int))) none=xs.drop (xs.length - n)/\Bz xs none (some (-(n:Int)))=xs.take (xs.length - n):=by
 unfold Bz
 have e:∀ d,HT.sIx xs.length d (some (-(n:Int)))=xs.length - n:=by
  intro d
  show (if (-(n:Int)) < 0 then ((-(n:Int))+(xs.length:Int)).toNat else min (-(n:Int)).toNat xs.length)=_
  rw [if_pos (by omega)]
  omega
 rw [e,e,HT.sIx_none,HT.sIx_none,T1,List.drop_zero]
 refine ⟨?_,rfl⟩
 rw [Qi (by rw [Q0];omega)]
noncomputable def Zes (K:O1)(C:Addr):Sp:=fun vs H Q _=>∃(n:Nat)(th last:List (Str×V))(HB:Hp)(kvs:List (List An×V))(L:Ml)(S:MS),vs=[.ref L.m,.int (n:Nat)]/\MAt K HB C kvs L H S/\0 < n/\S.things=th++last/\last.length=n /\
 ∀(l t:Addr)(lv:List V)(H':Hp),SameM L H H'->MAt K HB C kvs (L.with t) H' { S with things:=th }->H t=none->H' l=some (.lst lv)->Al (ThAt K H') lv last->H l=none->l≠t->Q (.ref l) H'
theorem Zex:A2 ["self", "many", "taken"] ["self", "many"] (Ay J9):=by walk_at "sc"
theorem Zmt {C:Addr}{f:Addr}{fd:FuncData}(F:Fun K "taken_things" "Machine.taken_things" J9 f fd)(T:Txt K mg)(O:Mc K C):FnOk P w K mg base Ao 1 f fd ["self", "many"] (Zes K C):=by
 refine F.okq Zex (fun vs H Q E h=>?_) (fun cdv A outer s H vs Q E hr h=>?_)
 ·obtain ⟨n,th,last,HB,kvs,L,S,rfl,_⟩:=h
  rfl
 ·obtain ⟨n,th,last,HB,kvs,L,S,rfl,M,n0,hS,hln,q⟩:=h
  refine ⟨_,Ae (Aq 2 Zex (Dm (Gk K) (Bt K (qv 0)) (C6 (Eo Ep (qv 1))) (Dn)))
   (Ae (Jb K (qv 0) (Dm (Gk K) (Bt K (qv 0)) (Dn) (C6 (Eo Ep (qv 1)))))
   (Ag (Au (qv 2)))),?_⟩
  obtain ⟨tv,et,att⟩:=M.things
  have hlt:tv.length=th.length+n:=by rw [att.1,hS,O9,hln]
  obtain ⟨c1,c2⟩:=Zrd tv n n0 (by omega)
  have e0:tv.length - n=th.length:=by omega
  rw [e0] at c1 c2
  rw [hS] at att
  walk_at "r"
  refine ⟨_,rfl,L.m,C,L.dx,_,_,rfl,M.ins,O.cl,O.nt,Fj L S.steps,?_⟩
  walk_at "r"
  refine Li (SqL.of et) fun l hl=>?_
  rw [c1]
  obtain ⟨H1,s1,e1,z9⟩:=Cn hl (.lst (tv.drop th.length))
  rw [z9]
  have M1:=M.new s1
  walk_at "r"
  refine ⟨_,rfl,L.m,C,L.dx,_,_,rfl,M1.ins,O.cl,O.nt,Fj L S.steps,?_⟩
  walk_at "r"
  refine Li (SqL.of (s1 _ _ et)) fun t ht=>?_
  rw [c2]
  obtain ⟨H2,s2,e2,z9⟩:=Cn ht (.lst (tv.take th.length))
  rw [z9]
  have s02:=s1.trans s2
  have M2:=M.new s02
  have hlt':l≠t:=fun z=>by rw [<- z,e1] at ht;cases ht
  have ht0:=s1.free ht
  have a1:Al (ThAt K H2) (tv.take th.length) th:=⟨by rw [Pq];omega,fun j v x f1 f2=>by
   have hj:j < th.length:=(Ph.mp f2).1
   rw [List.getElem?_take_of_lt hj] at f1
   exact ThAt.same s02.t _ _ (att.2 j v x f1 (by rw [Qd hj];exact f2))⟩
  have a2:Al (ThAt K H2) (tv.drop th.length) last:=⟨by rw [Q0];omega,fun j v x f1 f2=>by
   rw [List.getElem?_drop] at f1
   exact ThAt.same s02.t _ _ (att.2 (th.length+j) v x f1 (by rw [Qw (by omega),Nat.add_sub_cancel_left];exact f2))⟩
  obtain ⟨M3,e3⟩:=M.swap s02 ht0 e2 a1
  refine ⟨_,rfl,L.m,C,L.dx,_,rfl,M2.ins,O.cl,O.nt,by show 5 < 1000;decide,?_⟩
  rw [Zho]
  have nlm:l≠L.m:=fun z=>by rw [z,M.ins] at hl;cases hl
  walk_at "r"
  refine q l t _ _ e3 M3 ht0 ((Af nlm).trans (s2 _ _ e1)) (a2.mono (ThAt.same ?_)) hl hlt'
  exact M2.t (SameM.upd (.inl rfl))
noncomputable def Jf (wd:Str)(i j:Int):Str×V:=if wd = "plus" then ("num",.int (i+j)) else if wd = "minus" then ("num",.int (i - j)) else ("truth",.bl (decide (i < j)))
noncomputable def Zhk (K:O1):Sp:=fun vs H Q _=>∃(wd:Str)(i j:Int),vs=[.str wd,.int i,.int j]/\∀ v H',Same H H'->ThAt K H' v (Jf wd i j)->Q v H'
theorem Zk8:A2 ["word", "left", "right"] ["word", "left", "right"] (Ay J1):=by walk_at "sc"
theorem Zj3 {f:Addr}{fd:FuncData}(F:Fun K "reckoned" "reckoned" J1 f fd)(T:Txt K mg):FnOk P w K mg base Ao 1 f fd ["word", "left", "right"] (Zhk K):=by
 refine F.okq Zk8 (fun vs H Q E h=>?_) (fun cdv A outer s H vs Q E hr h=>?_)
 ·obtain ⟨wd,i,j,rfl,_⟩:=h
  rfl
 ·obtain ⟨wd,i,j,rfl,q⟩:=h
  refine ⟨_,Ae (Ax (Aw (A5 K hr.u200) (qv 0) Am (Av _)) (Ag (Au (Ak (Aa Am (Aa (Ah (Bc K) (qv 1) (qv 2)) Ab))))) A0)
   (Ae (Ax (Aw (A5 K hr.u200) (qv 0) Am (Av _)) (Ag (Au (Ak (Aa Am (Aa (Ah Dx (qv 1) (qv 2)) Ab))))) A0)
   (Ag (Au (Ak (Aa Am (Aa (Ew Eb (qv 1) (qv 2) (Av _)) Ab)))))),?_⟩
  unfold Jf at q
  walk_at "r"
  rw [Bo]
  refine Bj (fun h=>?_) (fun h=>?_)
  ·have h:wd = "plus" := of_decide_eq_true h
   rw [if_pos h] at q
   walk_at "r"
   refine ⟨Bb,fun p hp=>?_⟩
   exact q _ _ (Same.upd hp) ⟨rfl,p,rfl,SqT.of Ad⟩
  have h:¬ wd = "plus" := fun x=>h (decide_eq_true x)
  rw [if_neg h] at q
  walk_at "r"
  rw [Bo]
  refine Bj (fun h=>?_) (fun h=>?_)
  ·have h:wd = "minus" := of_decide_eq_true h
   rw [if_pos h] at q
   walk_at "r"
   refine ⟨Bb,fun p hp=>?_⟩
   exact q _ _ (Same.upd hp) ⟨rfl,p,rfl,SqT.of Ad⟩
  have h:¬ wd = "minus" := fun x=>h (decide_eq_true x)
  rw [if_neg h] at q
  walk_at "r"
  refine ⟨Bb,fun p hp=>?_⟩
  exact q _ _ (Same.upd hp) ⟨rfl,p,rfl,SqT.of Ad⟩
noncomputable def Mq:V->Int
 | .int i=>i
 | _=>0
noncomputable def Jx (x:Str×V):Prop:=x.1 = "num" -> ∃ i,x.2=.int i
noncomputable def Ie:List Str:=["plus", "minus", "less"]
noncomputable def Ex (S:MS)(wd:Str)(pl:List Nat)(th:List (Str×V))(x y:Str×V):MS :=
 if wd∈Ie/\x.1 = "num" /\ y.1 = "num" then { S with things:=th++[Jf wd (Mq x.2) (Mq y.2)] }
 else { S with rows:=S.rows++[⟨wd,A3 pl,[x,y],[]⟩],things:=th++[(("row" : Str),V.int (S.rows.length:Nat))] }
noncomputable def FormsAt (K:O1)(H:Hp)(kvs:List (List An×V))(sub:List Nat->Option (Str×Dt)):Prop:=∀ pl wd d,sub pl=some (wd,d)->pl.length<=2000/\∃ v ts,Bu kvs (Cy pl)=some v/\TrAt K H v (.mk wd d ts)
theorem FormsAt.same {K:O1}{H H':Hp}{kvs:List (List An×V)}{sub:List Nat->Option (Str×Dt)}(h:FormsAt K H kvs sub)(e:SameT H H'):FormsAt K H' kvs sub:=fun pl wd d hs=>by
 obtain ⟨h1,v,ts,h2,h3⟩:=h pl wd d hs
 exact ⟨h1,v,ts,h2,h3.sameT e⟩
inductive Fb (sub:List Nat->Option (Str×Dt))(wd:Str)(d:Dt)(pl:List Nat)(ar:List (Str×Str×V))(S:MS):MS->Prop where
 | two {th:List (Str×V)} {x y:Str×V} (h:wd∈Ie\/wd = "call" /\ D7 S.rows x=false) (hS:S.things=th++[x,y]) (ok:Ix S.rows x) (ox:Jx x) (oy:Jx y):Fb sub wd d pl ar S (Ex S wd pl th x y)
 | calls {th:List (Str×V)} {k:Nat} {y:Str×V} {r:Rx} {pl':List Nat} {wd':Str} {d':Dt} (h:wd = "call") (hS:S.things=th++[(("row" : Str),V.int (k:Nat)),y]) (hr:S.rows[k]?=some r) (hf:r.wd∈(["fn", "rec"]:List Str)) (hp:r.pl=A3 pl') (hs:sub pl'=some (wd',d')) (bk:Ee wd' d') (ha:r.ar.length<=9000):Fb sub wd d pl ar S (inS { S with things:=th } wd' d' pl' 0 r.ar (if r.wd = "rec" then [(("row" : Str),V.int (k:Nat)),y] else [y]))
 | ifs {th:List (Str×V)} {b:Bool} (h:wd = "if") (hS:S.things=th++[(("truth" : Str),V.bl b)]) (bk:Ee wd d):Fb sub wd d pl ar S (inS { S with things:=th } wd d pl (if b then 1 else 2) ar [])
 | ifr {th:List (Str×V)} {x:Str×V} (h:wd = "if") (hS:S.things=th++[x]) (hx:¬ x.1 = "truth"):Fb sub wd d pl ar S { S with rows:=S.rows++[⟨wd,A3 pl,[x],ar⟩],things:=th++[(("row" : Str),V.int (S.rows.length:Nat))] }
 | lets {th:List (Str×V)} {x:Str×V} (h:wd = "let") (hS:S.things=th++[x]) (bk:Ee wd d):Fb sub wd d pl ar S (inS { S with things:=th } wd d pl 1 ar [x])
noncomputable def Zds (K:O1)(C:Addr):Sp:=fun vs H Q _=>∃(p e:Addr)(pl:List Nat)(ev:List V)(ar:List (Str×Str×V))(HB:Hp)(kvs:List (List An×V))(L:Ml)(S S2:MS)(v:V)(wd:Str)(d:Dt)(ts:List Tr),vs=[.ref L.m,.ref p,.ref e]/\MAt K HB C kvs L H S/\H p=some (.tup (Ar pl))/\H e=some (.lst ev)/\Al (PrAt K H) ev ar/\¬ L.A e/\Bu kvs (Cy pl)=some v/\TrAt K H v (.mk wd d ts)/\∃ sub:List Nat->Option (Str×Dt),FormsAt K H kvs sub/\Fb sub wd d pl ar S S2/\S.rows.length < 9000/\S.things.length < 9000/\S.wait.length < 9000/\pl.length<=2000/\ar.length<=9000 /\
 ∀ H' t,SameM L H H'->MAt K HB C kvs (L.with t) H' S2->H t=none->Q .non H'
theorem Nu:A2 ["self", "place", "around", "word", "operands"] ["self", "place", "around"] (Ay Je):=by walk_at "sc"
theorem Zpj {C:Addr}{f:Addr}{fd:FuncData}(F:Fun K "go_further" "Machine.go_further" Je f fd)(T:Txt K mg)(O:Mc K C){ap:Addr}{pk:List (Str×V)}(G_PARTS_AWAITED:D8 mg "PARTS_AWAITED" (.ref ap))(hpa:Fx P w K ap pk)(hpk:∀ wd,(Cv pk wd).isSome=(Bp wd).isSome/\∀ ns,Bp wd=some ns->∃ b,Cv pk wd=some (.ref b)/\∀ H,SqT K H b (ns.map V.int))
  (MT:Cc Ao P w K mg base 1 C "taken_things" ["self", "many"] (Zes K C)) (MR:Cc Ao P w K mg base 1 C "new_row" ["self", "word", "place", "operands", "around"] (Ky K C)) (MW:Cc Ao P w K mg base 2 C "go_within" ["self", "place", "number", "around", "things"] (Lu K C)) (MC:Cc Ao P w K mg base 3 C "call" ["self", "operands"] (Zcc K C)) (MI:Cc Ao P w K mg base 2 C "is_function" ["self", "thing"] (Zc2 K C)) (C_are_numbers:A4 P w K mg base 1 "are_numbers" ["things"] (Zg0 K)) (C_reckoned:A4 P w K mg base 1 "reckoned" ["word", "left", "right"] (Zhk K)):FnOk P w K mg base Ao 4 f fd ["self", "place", "around"] (Zds K C):=by
 refine F.okq Nu (fun vs H Q E h=>?_) (fun cdv A outer s H vs Q E hr h=>?_)
 ·obtain ⟨p,e,pl,ev,ar,HB,kvs,L,S,S2,v,wd,d,ts,rfl,_⟩:=h
  rfl
 ·obtain ⟨p,e,pl,ev,ar,HB,kvs,L,S,S2,v,wd,d,ts,rfl,M,hp,he,ale,nA,hv,ht,sub,FA,fur,z1,z3,z2,hpl,har,q⟩:=h
  refine ⟨_,Ae (Aq 3 Nu (Ap K (K3 hr.u1 (Bt K (qv 0)) (qv 1) (fun _ _=>rfl)) Ac))
   (Ae (Aq 4 Nu (Co (k:=1) K Ao ["self", "many"] (qv 0) hr.m Cz (Aa (Be (Cp K) (by rfl) T.len (by decide +kernel) (Aa (Mz (Nz P w K) (Fd G_PARTS_AWAITED) (qv 3) (fun _ _=>rfl)) Ab)) Ab)))
   (Ag (Ax (Aw (A5 K hr.u200) (qv 3) Am (Av _)) (Ag (Bq (Co (k:=2) K Ao ["self", "place", "number", "around", "things"] (qv 0) hr.m Cz (Aa (qv 1) (Aa Ac (Aa (qv 2) (Aa (qv 4) Ab))))))) (Ag (Ax (QW.qt (Du (Aw (A5 K hr.u200) (qv 3) Am (Av _)) (D3 (Aw (A5 K hr.u200) (Ap K (Ap K (qv 4) Ac) Ac) Am (Av _))))) (Ag (Bq (Co (k:=2) K Ao ["self", "place", "number", "around", "things"] (qv 0) hr.m Cz (Aa (qv 1) (Aa (Ma (Cw (Ap K (Ap K (qv 4) Ac) Ac)) Ac Ac) (Aa (qv 2) (Aa (Ba Ab) Ab))))))) (Ag (Ax (QW.qt (Du (Aw (A5 K hr.u200) (qv 3) Am (Av _)) (D3 (Cw (Co (k:=2) K Ao ["self", "thing"] (qv 0) hr.m Cz (Aa (Ap K (qv 4) Ac) Ab)))))) (Ag (Bq (Co (k:=3) K Ao ["self", "operands"] (qv 0) hr.m Cz (Aa (qv 4) Ab)))) (Ag (Ax (QW.qt (Du (Aw (Kl K) (qv 3) (Ak (Aa Am (Aa Am (Aa Am Ab)))) (by rfl)) (D3 (Cw (A1 C_are_numbers hr.m (Aa (qv 4) Ab)))))) (Ag (Bq (Cd K Pr P0 P3 Ck (Bt K (qv 0)) (Aa (A1 C_reckoned hr.m (Aa (qv 3) (Aa (Ap K (Ap K (qv 4) Ac) Ac) (Aa (Ap K (Ap K (qv 4) Ac) Ac) Ab)))) Ab)))) (Ag (Bq (Cd K Pr P0 P3 Ck (Bt K (qv 0)) (Aa (Co (k:=1) K Ao ["self", "word", "place", "operands", "around"] (qv 0) hr.m Cz (Aa (qv 3) (Aa (qv 1) (Aa (qv 4) (Aa (qv 2) Ab))))) Ab))))))))))))),?_⟩
  have bg:=big
  have htr:=ht
  cases ht with
  | @mk b pp _ nv _ vs _ qb hn qpp hl hch =>
  walk_at "r"
  refine ⟨_,rfl,L.m,C,L.dx,_,_,rfl,M.ins,O.cl,O.nf,Mw L S.steps,_,rfl,L.fd,.ref b,rfl,?_,?_⟩
  ·rw [<- hv]
   refine DGet.t M.frm ?_
   rw [Kp]
   exact hp
  walk_at "r"
  refine Az qb rfl ?_
  walk_at "r"
  refine ⟨_,rfl,L.m,C,L.dx,_,_,rfl,M.ins,(Cq L S.steps).2.2.2.2.2.1,MT,?_⟩
  cases fur with
  | @lets th x hwl hS bk =>
   subst hwl
   obtain ⟨bt,hbt,qbt⟩:=(hpk "let").2 [0] (by decide +kernel)
   walk_at "r"
   refine ⟨ap,pk, "let",.ref bt,rfl,rfl,hpa,hbt,?_⟩
   walk_at "r"
   refine C1 (qbt _) ?_
   walk_at "r"
   refine ⟨1,th,[x],HB,kvs,L,S,rfl,M,by decide,hS,rfl,fun o t ov H1 e1 M1 ht0 ho alo ho0 hot=>?_⟩
   have t1:=M.t e1
   walk_at "r"
   rw [decide_eq_true (Eq.refl _)]
   refine iteT ?_
   walk_at "r"
   refine ⟨_,rfl,L.m,C,L.dx,_,_,rfl,M1.ins,(Hh (L.with t) S.steps).1,MW,?_⟩
   walk_at "r"
   refine ⟨p,e,o,1,pl,ev,ov,ar,[x],HB,kvs,L.with t,_,.ref b, "let",d,ts,rfl,M1,(t1 p).1 _ hp,(M.a e1).2 _ _ nA he,ale.mono (PrAt.same t1),ho,alo,hv,htr.sameT t1,bk,hpl,har,z2,fun H2 e2 M2=>?_⟩
   walk_at "r"
   exact q _ t (e1.trans' (L':=L.with t) e2 rfl rfl rfl (.inr ht0)) M2 ht0
  | @ifs th b2 hwi hS bk =>
   subst hwi
   obtain ⟨bt,hbt,qbt⟩:=(hpk "if").2 [0] (by decide +kernel)
   walk_at "r"
   refine ⟨ap,pk, "if",.ref bt,rfl,rfl,hpa,hbt,?_⟩
   walk_at "r"
   refine C1 (qbt _) ?_
   walk_at "r"
   refine ⟨1,th,[("truth",.bl b2)],HB,kvs,L,S,rfl,M,by decide,hS,rfl,fun o t ov H1 e1 M1 ht0 ho alo ho0 hot=>?_⟩
   have t1:=M.t e1
   obtain ⟨u1,us,rfl⟩:∃ u1 us,ov=u1::us:=by
    have hl:=alo.1
    match ov,hl with
    | u1::us,_=>exact ⟨u1,us,rfl⟩
   obtain ⟨_,ax,rfl,qx⟩:=alo.2 0 u1 _ rfl rfl
   walk_at "r"
   rw [Bo,decide_eq_false (by decide +kernel)]
   walk_at "r"
   rw [Bo,decide_eq_true (Eq.refl _)]
   walk_at "r"
   refine Bm (SqL.of ho) (Ci (j:=0) rfl) ?_
   walk_at "r"
   refine Az qx rfl ?_
   walk_at "r"
   rw [Bo,decide_eq_true (Eq.refl _)]
   walk_at "r"
   refine ⟨_,rfl,L.m,C,L.dx,_,_,rfl,M1.ins,(Hh (L.with t) S.steps).1,MW,?_⟩
   walk_at "r"
   unfold Hm
   walk_at "r"
   refine Bm (SqL.of ho) (Ci (j:=0) rfl) ?_
   walk_at "r"
   refine Az qx rfl ?_
   have fin:∀ l H2,H1 l=none->H2=upd H1 l (.lst [])->Lu K C [.ref L.m,.ref p,.int ((if b2 then 1 else 2:Nat):Nat),.ref e,.ref l] H2 (fun v H'=>Q .non H') E0:=by
    intro l H2 hl hH2
    have s2:Same H1 H2:=by rw [hH2];exact Same.upd hl
    have e2:H2 l=some (.lst []):=by rw [hH2];exact Ad
    refine ⟨p,e,l,(if b2 then 1 else 2),pl,ev,[],ar,[],HB,kvs,L.with t,_,.ref b, "if",d,ts,rfl,M1.new s2,s2 _ _ ((t1 p).1 _ hp),s2 _ _ ((M.a e1).2 _ _ nA he),(ale.mono (PrAt.same t1)).mono (PrAt.same s2.t),e2,.nil,hv,(htr.sameT t1).same s2,bk,hpl,har,z2,fun H3 e3 M3=>?_⟩
    exact q _ t (e1.trans' (L':=L.with t) ((s2.m _).trans e3) rfl rfl rfl (.inr ht0)) M3 ht0
   refine ⟨b2,rfl,?_⟩
   cases b2 with
   | true =>
    rw [if_pos rfl]
    walk_at "r"
    refine ⟨Bf,fun l hl=>?_⟩
    exact fin l _ hl rfl
   | false =>
    rw [if_neg Pd]
    walk_at "r"
    refine ⟨Bf,fun l hl=>?_⟩
    exact fin l _ hl rfl
  | @ifr th x hwi hS hxt =>
   subst hwi
   obtain ⟨bt,hbt,qbt⟩:=(hpk "if").2 [0] (by decide +kernel)
   walk_at "r"
   refine ⟨ap,pk, "if",.ref bt,rfl,rfl,hpa,hbt,?_⟩
   walk_at "r"
   refine C1 (qbt _) ?_
   walk_at "r"
   refine ⟨1,th,[x],HB,kvs,L,S,rfl,M,by decide,hS,rfl,fun o t ov H1 e1 M1 ht0 ho alo ho0 hot=>?_⟩
   have t1:=M.t e1
   have hp1:=(t1 p).1 _ hp
   have he1:=(M.a e1).2 _ _ nA he
   have ale1:Al (PrAt K H1) ev ar:=ale.mono (PrAt.same t1)
   obtain ⟨u1,us,rfl⟩:∃ u1 us,ov=u1::us:=by
    have hl:=alo.1
    match ov,hl with
    | u1::us,_=>exact ⟨u1,us,rfl⟩
   obtain ⟨_,ax,rfl,qx⟩:=alo.2 0 u1 _ rfl rfl
   walk_at "r"
   rw [Bo,decide_eq_false (by decide +kernel)]
   walk_at "r"
   rw [Bo,decide_eq_true (Eq.refl _)]
   walk_at "r"
   refine Bm (SqL.of ho) (Ci (j:=0) rfl) ?_
   walk_at "r"
   refine Az qx rfl ?_
   walk_at "r"
   rw [Bo,decide_eq_false hxt]
   walk_at "r"
   rw [Bo,decide_eq_false (by decide +kernel)]
   walk_at "r"
   refine ⟨Bg,fun p2 h2=>?_⟩
   refine F9 (.inr (SqT.of Ad)) rfl rfl ?_
   have s3:Same H1 (upd H1 p2 (.tup [.str "plus",.str "minus",.str "less"])):=Same.upd h2
   rw [if_neg Pd,show Ed (.str "if") [.str "plus",.str "minus",.str "less"]=decide (("if" : Str)∈(["plus", "minus", "less"]:List Str)) from Io (ws:=["plus", "minus", "less"]),decide_eq_false (by decide +kernel)]
   revert s3
   generalize upd H1 p2 (.tup [.str "plus",.str "minus",.str "less"])=H3
   intro s13
   have M3:=M1.new s13
   obtain ⟨tv,et,att⟩:=M3.things
   have htl:tv.length=th.length:=att.1
   have hthl:th.length+1=S.things.length:=by rw [hS,O9];rfl
   have ho3:=s13 _ _ ho
   refine ⟨false,rfl,?_⟩
   refine iteF ?_
   walk_at "r"
   refine ⟨_,rfl,L.m,C,L.dx,_,_,rfl,M3.ins,O.cl,O.nt,Fj (L.with t) S.steps,?_⟩
   refine B0 (SqL.of et) ?_
   walk_at "r"
   refine ⟨_,rfl,L.m,C,L.dx,_,_,rfl,M3.ins,(Cq (L.with t) S.steps).2.1,MR,?_⟩
   walk_at "r"
   refine ⟨"if",p,o,e,pl,_,ev,[x],ar,HB,kvs,L.with t,_,rfl,M3,s13 _ _ hp1,SqL.of ho3,alo.mono (ThAt.same s13.t),SqL.of (s13 _ _ he1),ale1.mono (PrAt.same s13.t),by show S.rows.length < 10000;omega,fun v4 H4 e4 M4 t4=>?_⟩
   rw [if_pos (by decide +kernel)] at M4
   obtain ⟨tv4,et4,at4⟩:=M4.things
   have htl4:tv4.length=th.length:=at4.1
   walk_at "r"
   refine Cs et4 (by omega) ?_
   have M5:=M4.setThings (at4.snoc t4)
   walk_at "r"
   refine q _ t (e1.trans' (L':=L.with t) ((s13.m _).trans (e4.trans (SameM.upd (.inr (.inr (.inr rfl)))))) rfl rfl rfl (.inr ht0)) M5 ht0
  | @calls th k y r pl' wd' d' hwc hS hrk hf hpl' hs bk har' =>
   subst hwc
   obtain ⟨bt,hbt,qbt⟩:=(hpk "call").2 [1,0] (by decide +kernel)
   walk_at "r"
   refine ⟨ap,pk, "call",.ref bt,rfl,rfl,hpa,hbt,?_⟩
   walk_at "r"
   refine C1 (qbt _) ?_
   walk_at "r"
   refine ⟨2,th,[("row",.int (k:Nat)),y],HB,kvs,L,S,rfl,M,by decide,hS,rfl,fun o t ov H1 e1 M1 ht0 ho alo ho0 hot=>?_⟩
   have t1:=M.t e1
   have hfn:D7 S.rows ("row",.int (k:Nat))=true:=by
    show (decide (("row" : Str) = "row") && (match S.rows[((k:Nat):Int).toNat]? with | some r=>decide (r.wd∈(["fn", "rec"]:List Str)) | none=>false))=true
    rw [R7,hrk]
    simp only [decide_eq_true hf,decide_true,Bool.and_self]
   have rok:Ix S.rows ("row",.int (k:Nat)):=fun _=>⟨k,rfl,(Ph.mp hrk).1⟩
   obtain ⟨u1,us,rfl⟩:∃ u1 us,ov=u1::us:=by
    have hl:=alo.1
    match ov,hl with
    | u1::us,_=>exact ⟨u1,us,rfl⟩
   have hx1:=alo.2 0 u1 _ rfl rfl
   walk_at "r"
   rw [Bo,decide_eq_false (by decide +kernel)]
   walk_at "r"
   rw [Bo,decide_eq_false (by decide +kernel)]
   walk_at "r"
   rw [Bo,decide_eq_true (Eq.refl _)]
   walk_at "r"
   refine ⟨_,rfl,L.m,C,L.dx,_,_,rfl,M1.ins,(Hh (L.with t) S.steps).2.1,MI,?_⟩
   walk_at "r"
   refine Bm (SqL.of ho) (Ci (j:=0) rfl) ?_
   walk_at "r"
   refine ⟨_,("row",.int (k:Nat)),HB,kvs,L.with t,_,rfl,M1,hx1,rok,fun H2 s2=>?_⟩
   rw [show D7 ({ S with things:=th }:MS).rows ("row",.int (k:Nat))=true from hfn]
   refine ⟨true,rfl,?_⟩
   refine iteT ?_
   walk_at "r"
   have M2:=M1.new s2
   obtain ⟨hpl2,v',ts',hv',ht'⟩:=(FA.same t1).same s2.t pl' wd' d' hs
   refine ⟨_,rfl,L.m,C,L.dx,_,_,rfl,M2.ins,(Hh (L.with t) S.steps).2.2,MC,?_⟩
   walk_at "r"
   refine ⟨o,_,k,[y],r,pl',HB,kvs,L.with t,_,v',wd',d',ts',rfl,M2,s2 _ _ ho,alo.mono (ThAt.same s2.t),hrk,hpl',hv',ht',bk,hpl2,har',z2,by show 1<=1000;decide,fun H3 e3 M3=>?_⟩
   walk_at "r"
   exact q _ t (e1.trans' (L':=L.with t) ((s2.m _).trans e3) rfl rfl rfl (.inr ht0)) M3 ht0
  | @two th x y hw3 hS ok ox oy =>
  have hwd:Bp wd=some [1,0]/\¬ wd = "let" /\ ¬ wd = "if" /\ ¬ wd∈WA:=by
   rcases hw3 with h | ⟨rfl,_⟩
   ·unfold Ie at h
    simp only [Pb,P5,or_false] at h
    rcases h with rfl | rfl | rfl <;> exact ⟨by decide +kernel,by decide +kernel,by decide +kernel,by decide +kernel⟩
   ·exact ⟨by decide +kernel,by decide +kernel,by decide +kernel,by decide +kernel⟩
  obtain ⟨pw,w1,w2,w4⟩:=hwd
  obtain ⟨bt,hbt,qbt⟩:=(hpk wd).2 _ pw
  walk_at "r"
  refine ⟨ap,pk,wd,.ref bt,rfl,rfl,hpa,hbt,?_⟩
  walk_at "r"
  refine C1 (qbt _) ?_
  walk_at "r"
  refine ⟨2,th,[x,y],HB,kvs,L,S,rfl,M,by decide,hS,rfl,fun o t ov H1 e1 M1 ht0 ho alo ho0 hot=>?_⟩
  have t1:=M.t e1
  have hp1:=(t1 p).1 _ hp
  have he1:=(M.a e1).2 _ _ nA he
  have ale1:Al (PrAt K H1) ev ar:=ale.mono (PrAt.same t1)
  have nAo:¬ (L.with t).A o:=by
   obtain ⟨rv,er,_⟩:=M.rows
   obtain ⟨wv,ew,_⟩:=M.wait
   rintro (z | z | z)
   ·rw [z] at ho0;rw [show (L.with t).rd=L.rd from rfl,er] at ho0;cases ho0
   ·rw [z] at ho0;rw [show (L.with t).wd=L.wd from rfl,ew] at ho0;cases ho0
   ·exact hot z
  have hx:∃ ax ay,ov=[.ref ax,.ref ay]/\SqT K H1 ax [.str x.1,x.2]/\SqT K H1 ay [.str y.1,y.2]:=by
   have hl:=alo.1
   obtain ⟨u1,u2,rfl⟩:=lz2 (vs:=ov) hl
   obtain ⟨_,ax,e3,q3⟩:=alo.2 0 u1 x rfl rfl
   obtain ⟨_,ay,e4,q4⟩:=alo.2 1 u2 y rfl rfl
   exact ⟨ax,ay,by rw [e3,e4],q3,q4⟩
  obtain ⟨ax,ay,rfl,qx,qy⟩:=hx
  walk_at "r"
  rw [Bo,decide_eq_false w1]
  walk_at "r"
  rw [Bo,decide_eq_false w2]
  walk_at "r"
  rw [Bo]
  by_cases w3:wd = "call"
  ·have hfn:D7 S.rows x=false:=by
    rcases hw3 with h | h
    ·rw [w3] at h;exact absurd h (by decide +kernel)
    ·exact h.2
   rw [decide_eq_true w3]
   walk_at "r"
   refine ⟨_,rfl,L.m,C,L.dx,_,_,rfl,M1.ins,(Hh (L.with t) S.steps).2.1,MI,?_⟩
   walk_at "r"
   refine Bm (SqL.of ho) rfl ?_
   walk_at "r"
   refine ⟨_,x,HB,kvs,L.with t,_,rfl,M1,⟨(alo.2 0 _ x rfl rfl).1,ax,rfl,qx⟩,ok,fun H2 s2=>?_⟩
   rw [show D7 ({ S with things:=th }:MS).rows x=false from hfn]
   refine ⟨false,rfl,?_⟩
   refine iteF ?_
   walk_at "r"
   refine ⟨Bg,fun p2 h2=>?_⟩
   refine F9 (.inr (SqT.of Ad)) rfl rfl ?_
   have s3:Same H2 (upd H2 p2 (.tup [.str "plus",.str "minus",.str "less"])):=Same.upd h2
   rw [if_neg Pd,show Ed (.str wd) [.str "plus",.str "minus",.str "less"]=decide (wd∈(["plus", "minus", "less"]:List Str)) from Io (ws:=["plus", "minus", "less"]),decide_eq_false (by rw [w3];decide +kernel)]
   revert s3
   generalize upd H2 p2 (.tup [.str "plus",.str "minus",.str "less"])=H3
   intro s3
   have s13:=s2.trans s3
   have M3:=M1.new s13
   obtain ⟨tv,et,att⟩:=M3.things
   have htl:tv.length=th.length:=att.1
   have hthl:th.length+2=S.things.length:=by rw [hS,O9];rfl
   have ho3:=s13 _ _ ho
   have ef:Ex S wd pl th x y={ S with rows:=S.rows++[⟨wd,A3 pl,[x,y],[]⟩],things:=th++[(("row" : Str),V.int (S.rows.length:Nat))] }:=by
    unfold Ex
    rw [if_neg fun h=>absurd h.1 (by rw [w3];decide +kernel)]
   rw [ef] at q
   refine ⟨false,rfl,?_⟩
   refine iteF ?_
   walk_at "r"
   refine ⟨_,rfl,L.m,C,L.dx,_,_,rfl,M3.ins,O.cl,O.nt,Fj (L.with t) S.steps,?_⟩
   refine B0 (SqL.of et) ?_
   walk_at "r"
   refine ⟨_,rfl,L.m,C,L.dx,_,_,rfl,M3.ins,(Cq (L.with t) S.steps).2.1,MR,?_⟩
   walk_at "r"
   refine ⟨wd,p,o,e,pl,_,ev,[x,y],ar,HB,kvs,L.with t,_,rfl,M3,s13 _ _ hp1,SqL.of ho3,alo.mono (ThAt.same s13.t),SqL.of (s13 _ _ he1),ale1.mono (PrAt.same s13.t),by show S.rows.length < 10000;omega,fun v4 H4 e4 M4 t4=>?_⟩
   rw [if_neg w4] at M4
   obtain ⟨tv4,et4,at4⟩:=M4.things
   have htl4:tv4.length=th.length:=at4.1
   walk_at "r"
   refine Cs et4 (by omega) ?_
   have M5:=M4.setThings (at4.snoc t4)
   walk_at "r"
   refine q _ t (e1.trans' (L':=L.with t) ((s13.m _).trans (e4.trans (SameM.upd (.inr (.inr (.inr rfl)))))) rfl rfl rfl (.inr ht0)) M5 ht0
  have hw3':wd∈(["plus", "minus", "less"]:List Str):=by
   rcases hw3 with h | h
   ·exact h
   ·exact absurd h.1 w3
  rw [decide_eq_false w3]
  walk_at "r"
  refine ⟨Bg,fun p2 h2=>?_⟩
  refine F9 (.inr (SqT.of Ad)) rfl rfl ?_
  have s2:Same H1 (upd H1 p2 (.tup [.str "plus",.str "minus",.str "less"])):=Same.upd h2
  rw [if_neg Pd,show Ed (.str wd) [.str "plus",.str "minus",.str "less"]=decide (wd∈(["plus", "minus", "less"]:List Str)) from Io (ws:=["plus", "minus", "less"]),decide_eq_true hw3']
  revert s2
  generalize upd H1 p2 (.tup [.str "plus",.str "minus",.str "less"])=H2
  intro s2
  walk_at "r"
  refine ⟨o,_,[x,y],rfl,s2 _ _ ho,alo.mono (ThAt.same s2.t),by show 2<=1000;decide,fun H3 s3=>?_⟩
  have s13:=s2.trans s3
  have M3:=M1.new s13
  obtain ⟨tv,et,att⟩:=M3.things
  have htl:tv.length=th.length:=att.1
  have hthl:th.length+2=S.things.length:=by rw [hS,O9];rfl
  have ho3:=s13 _ _ ho
  by_cases hnum:x.1 = "num" /\ y.1 = "num"
  ·have en:Hq [x,y]=true:=by
    unfold Hq
    rw [Q2,Q2,List.all_nil,decide_eq_true hnum.1,decide_eq_true hnum.2]
    rfl
   rw [en]
   obtain ⟨i,ei⟩:=ox hnum.1
   obtain ⟨j,ej⟩:=oy hnum.2
   rw [ei] at qx
   rw [ej] at qy
   have ef:Ex S wd pl th x y={ S with things:=th++[Jf wd i j] }:=by
    unfold Ex
    rw [if_pos ⟨hw3',hnum⟩,ei,ej]
    rfl
   rw [ef] at q
   refine ⟨true,rfl,?_⟩
   refine iteT ?_
   walk_at "r"
   refine ⟨_,rfl,L.m,C,L.dx,_,_,rfl,M3.ins,O.cl,O.nt,Fj (L.with t) S.steps,?_⟩
   refine B0 (SqL.of et) ?_
   walk_at "r"
   refine Bm (SqL.of ho3) rfl ?_
   walk_at "r"
   refine Az (s13.tup qx) rfl ?_
   walk_at "r"
   refine Bm (SqL.of ho3) rfl ?_
   walk_at "r"
   refine Az (s13.tup qy) rfl ?_
   walk_at "r"
   refine ⟨wd,i,j,rfl,fun v4 H4 s4 t4=>?_⟩
   have M4:=M3.new s4
   walk_at "r"
   refine Cs (s4 _ _ et) (by omega) ?_
   have M5:=M4.setThings ((att.mono (ThAt.same s4.t)).snoc t4)
   walk_at "r"
   refine q _ t (e1.trans' (L':=L.with t) (((s13.trans s4).m _).trans (SameM.upd (.inr (.inr (.inr rfl))))) rfl rfl rfl (.inr ht0)) M5 ht0
  ·have en:Hq [x,y]=false:=by
    unfold Hq
    rw [Q2,Q2,List.all_nil,Bool.and_true,<- Bool.not_eq_true,Ro,decide_eq_true_iff,decide_eq_true_iff]
    exact hnum
   rw [en]
   have ef:Ex S wd pl th x y={ S with rows:=S.rows++[⟨wd,A3 pl,[x,y],[]⟩],things:=th++[(("row" : Str),V.int (S.rows.length:Nat))] }:=by
    unfold Ex
    rw [if_neg fun h=>hnum h.2]
   rw [ef] at q
   refine ⟨false,rfl,?_⟩
   refine iteF ?_
   walk_at "r"
   refine ⟨_,rfl,L.m,C,L.dx,_,_,rfl,M3.ins,O.cl,O.nt,Fj (L.with t) S.steps,?_⟩
   refine B0 (SqL.of et) ?_
   walk_at "r"
   refine ⟨_,rfl,L.m,C,L.dx,_,_,rfl,M3.ins,(Cq (L.with t) S.steps).2.1,MR,?_⟩
   walk_at "r"
   refine ⟨wd,p,o,e,pl,_,ev,[x,y],ar,HB,kvs,L.with t,_,rfl,M3,s13 _ _ hp1,SqL.of ho3,alo.mono (ThAt.same s13.t),SqL.of (s13 _ _ he1),ale1.mono (PrAt.same s13.t),by show S.rows.length < 10000;omega,fun v4 H4 e4 M4 t4=>?_⟩
   rw [if_neg w4] at M4
   obtain ⟨tv4,et4,at4⟩:=M4.things
   have htl4:tv4.length=th.length:=at4.1
   walk_at "r"
   refine Cs et4 (by omega) ?_
   have M5:=M4.setThings (at4.snoc t4)
   walk_at "r"
   refine q _ t (e1.trans' (L':=L.with t) ((s13.m _).trans (e4.trans (SameM.upd (.inr (.inr (.inr rfl)))))) rfl rfl rfl (.inr ht0)) M5 ht0
noncomputable def Zbj (K:O1)(C:Addr):Sp:=fun vs H Q _=>∃(n:Int)(HB:Hp)(kvs:List (List An×V))(L:Ml)(S:MS),vs=[.ref L.m,.int n]/\MAt K HB C kvs L H S/\S.steps+n<=500/\∀ H',SameM L H H'->MAt K HB C kvs L H' { S with steps:=S.steps+n }->Q .non H'
theorem Zfx:A2 ["self", "many"] ["self", "many"] (Ay Il):=by walk_at "sc"
theorem Znt {C:Addr}{f:Addr}{fd:FuncData}(F:Fun K "make_steps" "Machine.make_steps" Il f fd)(T:Txt K mg)(O:Mc K C)(G_MOST_STEPS:D8 mg "MOST_STEPS" (.int 500)):FnOk P w K mg base Ao 1 f fd ["self", "many"] (Zbj K C):=by
 refine F.okq Zfx (fun vs H Q E h=>?_) (fun cdv A outer s H vs Q E hr h=>?_)
 ·obtain ⟨n,HB,kvs,L,S,rfl,_⟩:=h
  rfl
 ·obtain ⟨n,HB,kvs,L,S,rfl,M,hn,q⟩:=h
  refine ⟨_,Ae (Zdl K (qv 0) (qv 1) Zc5)
   (Ag (Ax (Aw Ho (Bt K (qv 0)) (Fd G_MOST_STEPS) (Av _)) (Ag Ff) A0)),?_⟩
  walk_at "r"
  refine ⟨_,rfl,L.m,C,L.dx,_,_,rfl,M.ins,O.cl,O.ns,K5 L S.steps,_,rfl,?_⟩
  refine ⟨_,_,rfl,rfl,L.dx,_,M.ins,by show 5 < 1000;decide,?_⟩
  rw [Zcv]
  have M1:=M.setSteps (S.steps+n)
  have e1:SameM L H (upd H L.m (.ins C L.dx (L.fs (S.steps+n)))):=SameM.upd (.inl rfl)
  revert M1 e1
  generalize upd H L.m (.ins C L.dx (L.fs (S.steps+n)))=H1
  intro M1 e1
  walk_at "r"
  refine ⟨_,rfl,L.m,C,L.dx,_,_,rfl,M1.ins,O.cl,O.ns,K5 L (S.steps+n),?_⟩
  walk_at "r"
  rw [decide_eq_false (by omega)]
  walk_at "r"
  exact q _ e1 M1
theorem Zgk {CX:B4}{k:Nat}{f:Addr}{fd:FuncData}{ps:List Str}{sp:Sp}(F:FnOk P w K mg base Ao k f fd ps sp):FnOk P w K mg base CX k f fd ps sp:=⟨F.len,fun A outer s H args us vs Q E hr he hb hv hs=>Se (F.run A outer s H args us vs Q E hr he hb hv hs) fun r s' h=>by
 cases r with
 | ok f=>cases f <;> exact h
 | error e=>exact Pt h⟩
theorem Zej {CX:B4}{k:Nat}{f:Addr}{fd:FuncData}{ps:List Str}{sp1 sp2:Sp}(F1:FnOk P w K mg base CX k f fd ps sp1)(F2:FnOk P w K mg base CX k f fd ps sp2):FnOk P w K mg base CX k f fd ps (fun vs H Q E=>sp1 vs H Q E\/sp2 vs H Q E) :=
 ⟨fun vs H Q E h=>h.elim (F1.len vs H Q E) (F2.len vs H Q E),fun A outer s H args us vs Q E hr he hb hv hs=>hs.elim (F1.run A outer s H args us vs Q E hr he hb hv) (F2.run A outer s H args us vs Q E hr he hb hv)⟩
noncomputable def Zdg (K:O1)(C TL:Addr):Sp:=fun vs H _ E=>∃(n:Int)(HB:Hp)(kvs:List (List An×V))(L:Ml)(S:MS),vs=[.ref L.m,.int n]/\MAt K HB C kvs L H S/\500 < S.steps+n/\∀ H',SameM L H H'->E (.ref TL) none H'
theorem Zht {C N_TooLong:Addr}{f:Addr}{fd:FuncData}(F:Fun K "make_steps" "Machine.make_steps" Il f fd)(T:Txt K mg)(O:Mc K C)(G_MOST_STEPS:D8 mg "MOST_STEPS" (.int 500))(R_TooLong:Ju K N_TooLong)(G_TooLong:mg "TooLong" = some (.ref N_TooLong)):FnOk P w K mg base (Bd P w) 1 f fd ["self", "many"] (Zdg K C N_TooLong):=by
 refine F.okx Zfx (fun vs H Q E h=>?_) (fun cdv A outer s H vs Q E hr h=>?_)
 ·obtain ⟨n,HB,kvs,L,S,rfl,_⟩:=h
  rfl
 ·obtain ⟨n,HB,kvs,L,S,rfl,M,hn,q⟩:=h
  refine ⟨_,Ae (Zdl K (qv 0) (qv 1) Zc5)
   (Ag (Ax (Aw Ho (Bt K (qv 0)) (Fd G_MOST_STEPS) (Av _)) (Ag (Zgy rfl R_TooLong G_TooLong (Aa Am Ab) (fun _ _ _ _ _ _ _ I x h0 hn he=>Oj I x h0 hn he) rfl)) A0)),?_⟩
  walk_at "r"
  refine ⟨_,rfl,L.m,C,L.dx,_,_,rfl,M.ins,O.cl,O.ns,K5 L S.steps,_,rfl,?_⟩
  refine ⟨_,_,rfl,rfl,L.dx,_,M.ins,by show 5 < 1000;decide,?_⟩
  rw [Zcv]
  have M1:=M.setSteps (S.steps+n)
  have e1:SameM L H (upd H L.m (.ins C L.dx (L.fs (S.steps+n)))):=SameM.upd (.inl rfl)
  revert M1 e1
  generalize upd H L.m (.ins C L.dx (L.fs (S.steps+n)))=H1
  intro M1 e1
  walk_at "r"
  refine ⟨_,rfl,L.m,C,L.dx,_,_,rfl,M1.ins,O.cl,O.ns,K5 L (S.steps+n),?_⟩
  walk_at "r"
  rw [decide_eq_true (by omega)]
  walk_at "r"
  exact ⟨Br,q _ e1⟩
noncomputable def Cf (S:MS)(wd:Str)(nv:V)(pl:List Nat)(ar:List (Str×Str×V)):(Str×V)×MS :=
 if wd∈(["num", "truth"]:List Str) then ((wd,nv),S)
 else match (match nv with | .str z=>if wd = "name" then D9 ar z else none | _=>none) with
  | some th=>(th,S)
  | none=>(("row",.int (S.rows.length:Nat)),{ S with rows:=S.rows++[⟨wd,A3 pl,[],if wd∈WA then ar else []⟩] })
noncomputable def Za2 (K:O1)(C:Addr):Sp:=fun vs H Q _=>∃(wd:Str)(nv:V)(p e:Addr)(pl:List Nat)(ev:List V)(ar:List (Str×Str×V))(HB:Hp)(kvs:List (List An×V))(L:Ml)(S:MS),vs=[.ref L.m,.str wd,nv,.ref p,.ref e]/\MAt K HB C kvs L H S/\H p=some (.tup (Ar pl))/\SqL K H e ev/\Al (PrAt K H) ev ar/\S.rows.length < 10000/\(wd∈(["num", "truth"]:List Str)->B3 nv=true)/\(wd = "name" -> ∃ z,nv=.str z) /\
 ∀ v H',SameM L H H'->MAt K HB C kvs L H' (Cf S wd nv pl ar).2->ThAt K H' v (Cf S wd nv pl ar).1->Q v H'
theorem Zeu:A2 ["self", "word", "note", "place", "around", "bound"] ["self", "word", "note", "place", "around"] (Ay Jo):=by walk_at "sc"
theorem Zk1 {C:Addr}{f:Addr}{fd:FuncData}(F:Fun K "thing_of_leaf" "Machine.thing_of_leaf" Jo f fd)(T:Txt K mg)(O:Mc K C)(MR:Cc Ao P w K mg base 1 C "new_row" ["self", "word", "place", "operands", "around"] (Ky K C)):FnOk P w K mg base Ao 2 f fd ["self", "word", "note", "place", "around"] (Za2 K C):=by
 refine F.okq Zeu (fun vs H Q E h=>?_) (fun cdv A outer s H vs Q E hr h=>?_)
 ·obtain ⟨wd,nv,p,e,pl,ev,ar,HB,kvs,L,S,rfl,_⟩:=h
  rfl
 ·obtain ⟨wd,nv,p,e,pl,ev,ar,HB,kvs,L,S,rfl,M,hp,he,ale,hz,hf,hnm,q⟩:=h
  refine ⟨_,Ae (Ax (Aw (Kl K) (qv 1) (Ak (Aa Am (Aa Am Ab))) (by rfl)) (Ag (Au (Ak (Aa (qv 1) (Aa (qv 2) Ab))))) A0)
   (Ae (Aq 5 Zeu (Em (Zgj K hr.u200 rfl) (by rfl) T.dict (by decide +kernel) (Aa (qv 4) Ab)))
   (Ae (Ax (QW.qt (Du (Aw (A5 K hr.u200) (qv 1) Am (Av _)) (D3 (Zl0 (Zm3 hr.u1 (qv 2) (qv 5)))))) (Ag (Au (K3 hr.u1 (qv 5) (qv 2) (fun _ _=>rfl)))) A0)
   (Ag (Au (Co (k:=1) K Ao ["self", "word", "place", "operands", "around"] (qv 0) hr.m Cz (Aa (qv 1) (Aa (qv 3) (Aa (Ba Ab) (Aa (qv 4) Ab))))))))),?_⟩
  have bg:=big
  unfold Cf at q
  walk_at "r"
  refine ⟨Bb,fun p1 h1=>?_⟩
  refine F9 (.inr (SqT.of Ad)) rfl rfl ?_
  have s1:Same H (upd H p1 (.tup [.str "num",.str "truth"])):=Same.upd h1
  rw [if_neg Pd,show Ed (.str wd) [.str "num",.str "truth"]=decide (wd∈(["num", "truth"]:List Str)) from Io (ws:=["num", "truth"])]
  revert s1
  generalize upd H p1 (.tup [.str "num",.str "truth"])=H1
  intro s1
  walk_at "r"
  refine Bj (fun h=>?_) (fun h=>?_)
  ·have h:wd∈(["num", "truth"]:List Str):=of_decide_eq_true h
   rw [if_pos h] at q
   walk_at "r"
   refine ⟨Bb,fun p2 h2=>?_⟩
   have s2:=s1.put (o:=.tup [.str wd,nv]) h2
   exact q _ _ (s2.m L) (M.new s2) ⟨hf h,p2,rfl,SqT.of Ad⟩
  have h:¬ wd∈(["num", "truth"]:List Str):=fun x=>h (decide_eq_true x)
  rw [if_neg h] at q
  walk_at "r"
  obtain ⟨bk,alk,look⟩:=Zkn (K:=K) (H:=H1) ev ar (ale.mono (PrAt.same s1.t))
  refine ⟨e,ev,rfl,s1.seq he,.inl ⟨bk,alk,fun d hd=>?_⟩⟩
  obtain ⟨H2,s2,e2,z9⟩:=Cn hd (.dK (Bs [] bk))
  rw [z9]
  have s02:=s1.trans s2
  have M2:=M.new s02
  have row:(match nv with | .str z=>if wd = "name" then D9 ar z else none | _=>none)=none->∀ l,H2 l=none->Ky K C [.ref L.m,.str wd,.ref p,.ref l,.ref e] (upd H2 l (.lst [])) Q E0:=by
   intro hn l hl
   rw [hn] at q
   have s3:=s02.put (o:=.lst []) hl
   refine ⟨wd,p,l,e,pl,[],ev,[],ar,HB,kvs,L,S,rfl,M.new s3,s3 _ _ hp,SqL.of Ad,.nil,s3.seq he,ale.mono (PrAt.same s3.t),hz,fun v H' e' M' t'=>q v H' ((s3.m L).trans e') M' t'⟩
  walk_at "r"
  by_cases hw:wd = "name"
  ·subst hw
   obtain ⟨z,rfl⟩:=hnm rfl
   rw [decide_eq_true (Eq.refl _)]
   refine iteT ?_
   refine ⟨_,rfl,_,rfl,d,_,rfl,DGet.k (k:=Sum.inr z) e2,?_⟩
   rw [Zbg]
   rcases look z with ⟨l1,l2⟩ | ⟨u,th,l1,l2,t⟩
   ·rw [l1]
    refine ⟨false,rfl,?_⟩
    refine iteF ?_
    walk_at "r"
    refine ⟨_,rfl,L.m,C,L.dx,_,_,rfl,M2.ins,(Cq L S.steps).2.1,MR,?_⟩
    walk_at "r"
    refine ⟨Bf,fun l hl=>?_⟩
    walk_at "r"
    exact row (by simp [l2]) l hl
   ·rw [l1]
    refine ⟨true,rfl,?_⟩
    refine iteT ?_
    walk_at "r"
    refine ⟨_,rfl,_,rfl,d,u,rfl,?_,?_⟩
    ·rw [<- l1,<- Zbg]
     exact DGet.k (k:=Sum.inr z) e2
    ·have e:(match V.str z with | .str z=>if ("name" : Str) = "name" then D9 ar z else none | _=>none)=some th:=by simp [l2]
     rw [e] at q
     exact q _ _ (s02.m L) M2 (ThAt.same s2.t _ _ t)
  ·rw [decide_eq_false (fun h=>hw (V.str.inj h))]
   walk_at "r"
   refine ⟨_,rfl,L.m,C,L.dx,_,_,rfl,M2.ins,(Cq L S.steps).2.1,MR,?_⟩
   walk_at "r"
   refine ⟨Bf,fun l hl=>?_⟩
   walk_at "r"
   refine row ?_ l hl
   cases nv <;> simp [hw]
noncomputable def E2:Dt->V
 | .flat v=>v
 | _=>.non
noncomputable def Ej (S:MS)(wd:Str)(d:Dt)(pl:List Nat)(ar:List (Str×Str×V)):MS :=
 let S1:=if wd = "gap" then S else { S with steps:=S.steps+1 }
 match Bp wd with
 | some ns=>{ S1 with wait:=(S1.wait++[⟨pl,ar,true⟩])++ns.map fun n=>⟨pl++[n.toNat],ar,false⟩ }
 | none=>{ (Cf S1 wd (E2 d) pl ar).2 with things:=(Cf S1 wd (E2 d) pl ar).2.things++[(Cf S1 wd (E2 d) pl ar).1] }
noncomputable def Hf (wd:Str)(d:Dt):Prop:=(wd∈(["num", "truth"]:List Str)->∃ v,d=.flat v)/\(wd = "name" -> ∃ z,d=.flat (.str z))
noncomputable def Zc4 (K:O1)(C:Addr):Sp:=fun vs H Q _=>∃(p e:Addr)(pl:List Nat)(ev:List V)(ar:List (Str×Str×V))(HB:Hp)(kvs:List (List An×V))(L:Ml)(S:MS)(v:V)(wd:Str)(d:Dt)(ts:List Tr),vs=[.ref L.m,.ref p,.ref e]/\MAt K HB C kvs L H S/\H p=some (.tup (Ar pl))/\H e=some (.lst ev)/\Al (PrAt K H) ev ar/\¬ L.A e/\Bu kvs (Cy pl)=some v/\TrAt K H v (.mk wd d ts)/\Hf wd d/\pl.length<=2000/\S.rows.length < 9000/\S.wait.length < 9000/\S.things.length < 9000/\(wd ≠ "gap" -> S.steps+1<=500) /\
 ∀ H',SameM L H H'->MAt K HB C kvs L H' (Ej S wd d pl ar)->Q .non H'
theorem Zfo:(["number", "around", "place"]:List Str).Nodup:=by decide +kernel
theorem sc_Machine_come_to:A2 ["self", "place", "around", "word", "note"] ["self", "place", "around"] (Ay Hx):=by walk_at "sc"
theorem Zqx {wd:Str}{ns:List Int}(h:Bp wd=some ns):ns.length<=2/\∀ n∈ns,0<=n:=by
 unfold Bp at h
 split at h
 ·cases h;exact ⟨by decide,by decide⟩
 split at h
 ·cases h;exact ⟨by decide,by decide⟩
 ·cases h
theorem Zpg {K:O1}{H:Hp}{S:MS}{wd:Str}{nv:V}{d:Dt}{pl:List Nat}{ar:List (Str×Str×V)}(h:IsN K H nv d)(hn:Hf wd d):Cf S wd nv pl ar=Cf S wd (E2 d) pl ar:=by
 rcases h with ⟨_,rfl⟩ | ⟨a,vs,rfl,_,_,rfl⟩
 ·rfl
 ·have h1:¬ wd∈(["num", "truth"]:List Str):=fun x=>by obtain ⟨v,e⟩:=hn.1 x;cases e
  unfold Cf
  rw [if_neg h1,if_neg h1]
  rfl
theorem Zqk (S:MS)(wd:Str)(nv:V)(pl:List Nat)(ar:List (Str×Str×V)):(Cf S wd nv pl ar).2.things=S.things:=by
 unfold Cf
 split
 ·rfl
 split <;> rfl
theorem Zl5 {C:Addr}{f:Addr}{fd:FuncData}(F:Fun K "come_to" "Machine.come_to" Hx f fd)(T:Txt K mg)(O:Mc K C){ap:Addr}{pk:List (Str×V)}(G_PARTS_AWAITED:D8 mg "PARTS_AWAITED" (.ref ap))(hpa:Fx P w K ap pk)(hpk:∀ wd,(Cv pk wd).isSome=(Bp wd).isSome/\∀ ns,Bp wd=some ns->∃ b,Cv pk wd=some (.ref b)/\∀ H,SqT K H b (ns.map V.int))
  (MS_:Cc Ao P w K mg base 1 C "make_steps" ["self", "many"] (Zbj K C)) (MLf:Cc Ao P w K mg base 2 C "thing_of_leaf" ["self", "word", "note", "place", "around"] (Za2 K C)):FnOk P w K mg base Ao 3 f fd ["self", "place", "around"] (Zc4 K C):=by
 refine F.okq sc_Machine_come_to (fun vs H Q E h=>?_) (fun cdv A outer s H vs Q E hr h=>?_)
 ·obtain ⟨p,e,pl,ev,ar,HB,kvs,L,S,v,wd,d,ts,rfl,_⟩:=h
  rfl
 ·obtain ⟨p,e,pl,ev,ar,HB,kvs,L,S,v,wd,d,ts,rfl,M,hp,he,ale,nA,hv,ht,nok,hpl,z1,z2,z3,z4,q⟩:=h
  refine ⟨_,Ae (Fp (Dm (Gk K) (K3 hr.u1 (Bt K (qv 0)) (qv 1) (fun _ _=>rfl)) (Dn) (C6 Ac)) (Dj K (n:=2) rfl (Bv (A9 (i:=3) sc_Machine_come_to.nd rfl (Or.inl rfl)) (Bv (A9 (i:=4) sc_Machine_come_to.nd rfl (Or.inl rfl)) (Di)))))
   (Ae (Ax (Aw (Gp K hr.u200) (qv 3) Am (Av _)) (Ag (Bq (Co (k:=1) K Ao ["self", "many"] (qv 0) hr.m Cz (Aa Ac Ab)))) A0)
   (Ag (Ax (Aw (Za1 P w K) (qv 3) (Fd G_PARTS_AWAITED) (by rfl)) (Ae (Bq (Cd K Pr P0 P3 Ck (Bt K (qv 0)) (Aa (Ak (Aa (qv 1) (Aa (qv 2) (Aa Dl Ab)))) Ab)))
   (Ag (Bq (Cd K Pr Vv Vw Ny (Bt K (qv 0)) (Aa (Me (N:=["number", "around", "place"]) (σ0:=Dv 1 [2,1]) rfl (Fq rfl (by decide +kernel) (by decide +kernel) (by decide +kernel)) (D5 K (Mz (Nz P w K) (Fd G_PARTS_AWAITED) (qv 3) (fun _ _=>rfl))) (Fy rfl (by rfl)) (fun _ _ _ _=>A9 (i:=0) Zfo rfl (Or.inl rfl)) (fun _ _ _ _=>Gw) (fun _ _ _ _=>Ak (Aa (Ah (Ld K) (qv 2) (Ak (Aa (qv 0) Ab))) (Aa (qv 1) (Aa Dl Ab))))) Ab))))) (Ag (Bq (Cd K Pr P0 P3 Ck (Bt K (qv 0)) (Aa (Co (k:=2) K Ao ["self", "word", "note", "place", "around"] (qv 0) hr.m Cz (Aa (qv 3) (Aa (qv 4) (Aa (qv 1) (Aa (qv 2) Ab))))) Ab))))))),?_⟩
  have bg:=big
  cases ht with
  | @mk b pp _ nv _ vs _ qb hn qpp hl hch =>
  walk_at "r"
  refine ⟨_,rfl,L.m,C,L.dx,_,_,rfl,M.ins,O.cl,O.nf,Mw L S.steps,_,rfl,L.fd,.ref b,rfl,?_,?_⟩
  ·rw [<- hv]
   refine DGet.t M.frm ?_
   rw [Kp]
   exact hp
  walk_at "r"
  refine .inr (.inr ⟨b,_,rfl,qb,by show ¬(HT.sIx 3 0 none=0/\HT.sIx 3 3 (some 2)=3);decide,fun p1 h1=>?_⟩)
  rw [show Bz [V.str wd,nv,.ref pp] none (some 2)=[V.str wd,nv] from rfl]
  have s1:Same H (upd H p1 (.tup [.str wd,nv])):=Same.upd h1
  have e1:upd H p1 (.tup [.str wd,nv]) p1=some (.tup [.str wd,nv]):=Ad
  have hp1:=s1 _ _ hp
  have he1:=s1 _ _ he
  have M1:=M.new s1
  have hn1:IsN K (upd H p1 (.tup [.str wd,nv])) nv d:=hn.same s1.t
  revert s1 e1 hp1 he1 M1 hn1
  generalize upd H p1 (.tup [.str wd,nv])=H1
  intro s1 e1 hp1 he1 M1 hn1
  refine Dc (SqT.of e1) rfl ?_
  refine s_gcons ?_
  refine s_gname ?_
  refine s_gcons ?_
  refine s_gname ?_
  refine s_gnil ?_
  try refine L2.openY (by assumption) ?_
  with_reducible refine s_seq ?_
  obtain ⟨S1,hS1⟩:∃ S1,S1=(if wd = "gap" then S else { S with steps:=S.steps+1 }):=⟨_,rfl⟩
  refine via (t:=Cm _ _ _) (R:=fun H2=>SameM L H1 H2/\MAt K HB C kvs L H2 S1) ?_ (fun Y hY=>?_)
  ·rintro H2 ⟨m2,M2⟩
   have a2:=M1.a m2
   have t2:=M1.t m2
   have hp2:=(t2 p).1 _ hp1
   have he2:=a2.2 _ _ nA he1
   have ale2:Al (PrAt K H2) ev ar:=ale.mono (PrAt.same (s1.t.trans t2))
   have m02:SameM L H H2:=(s1.m L).trans m2
   have hn2:IsN K H2 nv d:=hn1.same t2
   obtain ⟨y1,y2,y3⟩:S1.rows=S.rows/\S1.wait=S.wait/\S1.things=S.things:=by
    rw [hS1]
    split <;> exact ⟨rfl,rfl,rfl⟩
   have q:∀ H',SameM L H H'->MAt K HB C kvs L H' (match Bp wd with
    | some ns=>{ S1 with wait:=(S1.wait++[⟨pl,ar,true⟩])++ns.map fun n=>⟨pl++[n.toNat],ar,false⟩ }
    | none=>{ (Cf S1 wd (E2 d) pl ar).2 with things:=(Cf S1 wd (E2 d) pl ar).2.things++[(Cf S1 wd (E2 d) pl ar).1] })->Q .non H':=by
    intro H' e' M'
    refine q H' e' ?_
    unfold Ej
    rw [<- hS1]
    exact M'
   walk_at "r"
   refine ⟨wd,ap,pk,rfl,rfl,hpa,?_⟩
   rw [(hpk wd).1]
   cases hpw:Bp wd with
   | none =>
    rw [hpw] at q
    walk_at "r"
    refine iteF ?_
    walk_at "r"
    obtain ⟨tv,et,att⟩:=M2.things
    refine ⟨_,rfl,L.m,C,L.dx,_,_,rfl,M2.ins,O.cl,O.nt,Fj L S1.steps,?_⟩
    refine B0 (SqL.of et) ?_
    walk_at "r"
    refine ⟨_,rfl,L.m,C,L.dx,_,_,rfl,M2.ins,(Cq L S1.steps).2.2.1,MLf,?_⟩
    walk_at "r"
    refine ⟨wd,nv,p,e,pl,ev,ar,HB,kvs,L,S1,rfl,M2,hp2,SqL.of he2,ale2,by rw [y1];omega,(fun x=>by
     obtain ⟨v,rfl⟩:=nok.1 x
     rcases hn2 with ⟨h,_⟩ | ⟨a,vs,_,_,_,h⟩
     ·exact h
     ·cases h),(fun x=>by
     obtain ⟨z,rfl⟩:=nok.2 x
     rcases hn2 with ⟨_,h⟩ | ⟨a,vs,_,_,_,h⟩
     ·injection h with h;exact ⟨z,h.symm⟩
     ·cases h),fun v H3 e3 M3 t3=>?_⟩
    rw [Zpg hn2 nok] at M3 t3
    obtain ⟨tv3,et3,at3⟩:=M3.things
    have hl3:tv3.length=S.things.length:=by rw [at3.1,Zqk,y3]
    walk_at "r"
    refine Cs et3 (by omega) ?_
    have M4:=M3.setThings (at3.snoc t3)
    walk_at "r"
    exact q _ (m02.trans (e3.trans (SameM.upd (.inr (.inr (.inr rfl)))))) M4
   | some ns =>
    rw [hpw] at q
    obtain ⟨nl,nn⟩:=Zqx hpw
    obtain ⟨bt,hbt,qbt⟩:=(hpk wd).2 ns hpw
    walk_at "r"
    refine iteT ?_
    walk_at "r"
    obtain ⟨wv,ew,aw⟩:=M2.wait
    have hwl:wv.length=S.wait.length:=by rw [aw.1,y2]
    refine ⟨_,rfl,L.m,C,L.dx,_,_,rfl,M2.ins,O.cl,O.nw,F5 L S1.steps,?_⟩
    refine B0 (SqL.of ew) ?_
    walk_at "r"
    refine ⟨Bg,fun r hr'=>?_⟩
    obtain ⟨H3,s3,e3,z9⟩:=Cn hr' (.tup [.ref p,.ref e,.bl true])
    rw [z9]
    walk_at "r"
    refine Cs (s3 _ _ ew) (by omega) ?_
    have M3:=M2.new s3
    have M4:=M3.setWait (wv:=wv++[.ref r]) (ws:=S1.wait++[⟨pl,ar,true⟩]) ((aw.mono (WtAt.same s3.a)).snoc ⟨r,p,e,ev,rfl,SqT.of e3,s3 _ _ hp2,s3 _ _ he2,ale2.mono (PrAt.same s3.t),nA⟩)
    have m34:SameM L H3 (upd H3 L.wd (.lst (wv++[.ref r]))):=SameM.upd (.inr (.inr (.inl rfl)))
    have ew4:upd H3 L.wd (.lst (wv++[.ref r])) L.wd=some (.lst (wv++[.ref r])):=Ad
    revert M4 m34 ew4
    generalize upd H3 L.wd (.lst (wv++[.ref r]))=H4
    intro M4 m34 ew4
    have t4:=M3.t m34
    have hp4:=(t4 p).1 _ (s3 _ _ hp2)
    have he4:=(M3.a m34).2 _ _ nA (s3 _ _ he2)
    have ale4:Al (PrAt K H4) ev ar:=ale2.mono (PrAt.same (s3.t.trans t4))
    have m04:SameM L H H4:=m02.trans ((s3.m L).trans m34)
    walk_at "r"
    refine ⟨_,rfl,L.m,C,L.dx,_,_,rfl,M4.ins,O.cl,O.nw,F5 L S1.steps,?_⟩
    refine B0 (SqL.of ew4) ?_
    walk_at "r"
    refine ⟨ap,pk,wd,.ref bt,rfl,rfl,hpa,hbt,.inr (.inl ⟨bt,rfl,⟨_,qbt _⟩,fun D hD=>?_⟩)⟩
    obtain ⟨rv4,er4,_⟩:=M4.rows
    obtain ⟨tv4,et4,_⟩:=M4.things
    have nD:¬ L.A D:=by
     rintro (z | z | z)
     ·rw [z,er4] at hD;cases hD
     ·rw [z,ew4] at hD;cases hD
     ·rw [z,et4] at hD;cases hD
    refine Zqd (K:=K) (a:=bt) (xs:=ns.map V.int) (Pv:=fun i ys σ' H'=>∃ kv,σ'=[kv,some (.ref e),some (.ref p)]/\Al (WtAt K (fun b=>L.A b\/b=D) H') ys ((ns.take i).map fun n=>⟨pl++[n.toNat],ar,false⟩)/\Same H4 H') ⟨none,rfl,.nil,Same.upd hD⟩ (fun i ys σ' H' _ _=>qbt _) ?_ ?_
    ·rintro i x ys σ' H5 hx hys ⟨kv,rfl,al5,s5⟩
     rw [Qj] at hx
     obtain ⟨n,hni,rfl⟩:=R3.mp hx
     have hin:i < ns.length:=(Ph.mp hni).1
     have n0:=nn n (Qr hni)
     obtain ⟨k,rfl⟩:∃ k:Nat,n=(k:Int):=⟨n.toNat,by omega⟩
     have hyl:ys.length<=2:=by rw [al5.1,Pa,Pq];omega
     walk_at "r"
     refine ⟨Br,fun p6 h6=>?_⟩
     obtain ⟨H6,s6,e6,z9⟩:=Cn h6 (.tup [.int (k:Nat)])
     rw [z9]
     refine N6 (s6 _ _ (s5 _ _ hp4)) e6 (by unfold Ar;rw [Pa,Pz];omega) fun p7 H7 s7 e7=>?_
     walk_at "r"
     refine ⟨Bg,fun p8 h8=>?_⟩
     obtain ⟨H8,s8,e8,z9⟩:=Cn h8 (.tup [.ref p7,.ref e,.bl false])
     rw [z9]
     have s58:=s6.trans (s7.trans s8)
     have s48:=s5.trans s58
     refine ⟨_,s58 _ _ hys,by omega,_,Ad,?_⟩
     have hD8:=s58 _ _ hys
     have sA:SameA (fun b=>L.A b\/b=D) H8 (upd H8 D (.lst (ys++[.ref p8]))):=SameA.set hD8 (.inr rfl)
     have nED:e≠D:=fun z=>by rw [<- z,he4] at hD;cases hD
     ·refine ⟨_,rfl,?_,s48.over hD⟩
      rw [Ra,hni,Uz,P4,U0]
      refine (al5.mono fun v x h=>WtAt.same sA v x (WtAt.same s58.a v x h)).snoc (WtAt.same sA _ _ ⟨p8,p7,e,ev,rfl,SqT.of e8,?_,s48 _ _ he4,ale4.mono (PrAt.same s48.t),fun h=>h.elim nA nED⟩)
      have e9:=s8 _ _ e7
      show H8 p7=some (.tup (Ar (pl++[((k:Nat):Int).toNat])))
      rw [show Ar (pl++[((k:Nat):Int).toNat])=Ar pl++[.int ((k:Nat):Int)] by unfold Ar;rw [P4];simp]
      exact e9
    ·rintro ys σ' H5 hys ⟨kv,rfl,al5,s5⟩
     rw [Pa,Tp] at al5
     have al5:=al5.mono (WtAt.mono (B:=L.A) fun b hb _=>.inl hb)
     walk_at "r"
     have hyl:ys.length<=2:=by rw [al5.1,Pa];omega
     refine ⟨L.wd,D,_,ys,rfl,rfl,s5 _ _ ew4,hys,by rw [O9,Pz];omega,?_⟩
     have M5:=M4.new s5
     obtain ⟨wv5,ew5,aw5⟩:=M5.wait
     have ew5':wv5=wv++[.ref r]:=by rw [s5 _ _ ew4] at ew5;cases ew5;rfl
     subst ew5'
     have M6:=M5.setWait (aw5.append al5)
     walk_at "r"
     exact q _ (m04.trans ((s5.m L).trans (SameM.upd (.inr (.inr (.inl rfl)))))) M6
  ·walk_at "r"
   by_cases hg:wd = "gap"
   ·rw [decide_eq_true (by rw [hg])]
    walk_at "r"
    exact hY _ ⟨SameM.refl _ _,by rw [hS1,if_pos hg];exact M1⟩
   ·rw [decide_eq_false (fun h=>hg (V.str.inj h))]
    walk_at "r"
    refine ⟨_,rfl,L.m,C,L.dx,_,_,rfl,M1.ins,(Cq L S.steps).1,MS_,?_⟩
    walk_at "r"
    refine ⟨1,HB,kvs,L,S,rfl,M1,z4 hg,fun H2 e2 M2=>?_⟩
    walk_at "r"
    exact hY _ ⟨e2,by rw [hS1,if_neg hg];exact M2⟩
noncomputable def Zdt (K:O1)(C TL:Addr):Sp:=fun vs H _ E=>∃(p e:Addr)(pl:List Nat)(ev:List V)(ar:List (Str×Str×V))(HB:Hp)(kvs:List (List An×V))(L:Ml)(S:MS)(v:V)(wd:Str)(d:Dt)(ts:List Tr),vs=[.ref L.m,.ref p,.ref e]/\MAt K HB C kvs L H S/\H p=some (.tup (Ar pl))/\H e=some (.lst ev)/\Al (PrAt K H) ev ar/\¬ L.A e/\Bu kvs (Cy pl)=some v/\TrAt K H v (.mk wd d ts)/\wd ≠ "gap" /\ 500 < S.steps+1 /\
 ∀ H',SameM L H H'->E (.ref TL) none H'
theorem Zlt {C TL:Addr}{f:Addr}{fd:FuncData}(F:Fun K "come_to" "Machine.come_to" Hx f fd)(T:Txt K mg)(O:Mc K C){ap:Addr}{pk:List (Str×V)}(G_PARTS_AWAITED:D8 mg "PARTS_AWAITED" (.ref ap))(hpa:Fx P w K ap pk)(hpk:∀ wd,(Cv pk wd).isSome=(Bp wd).isSome/\∀ ns,Bp wd=some ns->∃ b,Cv pk wd=some (.ref b)/\∀ H,SqT K H b (ns.map V.int))
  (MS_:Cc (Bd P w) P w K mg base 1 C "make_steps" ["self", "many"] (Zdg K C TL)) (MLf:Cc Ao P w K mg base 2 C "thing_of_leaf" ["self", "word", "note", "place", "around"] (Za2 K C)):FnOk P w K mg base (Bd P w) 3 f fd ["self", "place", "around"] (Zdt K C TL):=by
 refine F.okx sc_Machine_come_to (fun vs H Q E h=>?_) (fun cdv A outer s H vs Q E hr h=>?_)
 ·obtain ⟨p,e,pl,ev,ar,HB,kvs,L,S,v,wd,d,ts,rfl,_⟩:=h
  rfl
 ·obtain ⟨p,e,pl,ev,ar,HB,kvs,L,S,v,wd,d,ts,rfl,M,hp,he,ale,nA,hv,ht,hg,h5,q⟩:=h
  refine ⟨_,Ae (Fp (Dm (Gk K) (K3 hr.u1 (Bt K (qv 0)) (qv 1) (fun _ _=>rfl)) (Dn) (C6 Ac)) (Dj K (n:=2) rfl (Bv (A9 (i:=3) sc_Machine_come_to.nd rfl (Or.inl rfl)) (Bv (A9 (i:=4) sc_Machine_come_to.nd rfl (Or.inl rfl)) (Di)))))
   (Ae (Ax (Aw (Gp K hr.u200) (qv 3) Am (Av _)) (Ag (Bq (Co (k:=1) K (Bd P w) ["self", "many"] (qv 0) hr.m (Ei (fun _ _ _ h=>h)) (Aa Ac Ab)))) A0)
   (Ag (Ax (Aw (Za1 P w K) (qv 3) (Fd G_PARTS_AWAITED) (by rfl)) (Ae (Bq (Cd K Pr P0 P3 Ck (Bt K (qv 0)) (Aa (Ak (Aa (qv 1) (Aa (qv 2) (Aa Dl Ab)))) Ab)))
   (Ag (Bq (Cd K Pr Vv Vw Ny (Bt K (qv 0)) (Aa (Me (N:=["number", "around", "place"]) (σ0:=Dv 1 [2,1]) rfl (Fq rfl (by decide +kernel) (by decide +kernel) (by decide +kernel)) (D5 K (Mz (Nz P w K) (Fd G_PARTS_AWAITED) (qv 3) (fun _ _=>rfl))) (Fy rfl (by rfl)) (fun _ _ _ _=>A9 (i:=0) Zfo rfl (Or.inl rfl)) (fun _ _ _ _=>Gw) (fun _ _ _ _=>Ak (Aa (Ah (Ld K) (qv 2) (Ak (Aa (qv 0) Ab))) (Aa (qv 1) (Aa Dl Ab))))) Ab))))) (Ag (Bq (Cd K Pr P0 P3 Ck (Bt K (qv 0)) (Aa (Co (k:=2) K Ao ["self", "word", "note", "place", "around"] (qv 0) hr.m Cz (Aa (qv 3) (Aa (qv 4) (Aa (qv 1) (Aa (qv 2) Ab))))) Ab))))))),?_⟩
  have bg:=big
  cases ht with
  | @mk b pp _ nv _ vs _ qb hn qpp hl hch =>
  walk_at "r"
  refine ⟨_,rfl,L.m,C,L.dx,_,_,rfl,M.ins,O.cl,O.nf,Mw L S.steps,_,rfl,L.fd,.ref b,rfl,?_,?_⟩
  ·rw [<- hv]
   refine DGet.t M.frm ?_
   rw [Kp]
   exact hp
  walk_at "r"
  refine .inr (.inr ⟨b,_,rfl,qb,by show ¬(HT.sIx 3 0 none=0/\HT.sIx 3 3 (some 2)=3);decide,fun p1 h1=>?_⟩)
  rw [show Bz [V.str wd,nv,.ref pp] none (some 2)=[V.str wd,nv] from rfl]
  have s1:Same H (upd H p1 (.tup [.str wd,nv])):=Same.upd h1
  have e1:upd H p1 (.tup [.str wd,nv]) p1=some (.tup [.str wd,nv]):=Ad
  have hp1:=s1 _ _ hp
  have he1:=s1 _ _ he
  have M1:=M.new s1
  have hn1:IsN K (upd H p1 (.tup [.str wd,nv])) nv d:=hn.same s1.t
  revert s1 e1 hp1 he1 M1 hn1
  generalize upd H p1 (.tup [.str wd,nv])=H1
  intro s1 e1 hp1 he1 M1 hn1
  refine Dc (SqT.of e1) rfl ?_
  refine s_gcons ?_
  refine s_gname ?_
  refine s_gcons ?_
  refine s_gname ?_
  refine s_gnil ?_
  try refine L2.openY (by assumption) ?_
  with_reducible refine s_seq ?_
  walk_at "r"
  rw [decide_eq_false (fun h=>hg (V.str.inj h))]
  walk_at "r"
  refine ⟨_,rfl,L.m,C,L.dx,_,_,rfl,M1.ins,(Cq L S.steps).1,MS_,?_⟩
  walk_at "r"
  exact ⟨1,HB,kvs,L,S,rfl,M1,h5,fun H2 e2=>q _ ((s1.m L).trans e2)⟩
inductive Ku (sub:List Nat->Option (Str×Dt)):MS->MS->Prop where
 | come {S:MS} {w:List Wt} {x:Wt} {wd:Str} {d:Dt} (hw:S.wait=w++[x]) (hc:x.came=false) (hs:sub x.pl=some (wd,d)) (hn:Hf wd d) (h5:wd ≠ "gap" -> S.steps+1<=500):Ku sub S (Ej { S with wait:=w } wd d x.pl x.ar)
 | further {S S2:MS} {w:List Wt} {x:Wt} {wd:Str} {d:Dt} (hw:S.wait=w++[x]) (hc:x.came=true) (hs:sub x.pl=some (wd,d)) (hf:Fb sub wd d x.pl x.ar { S with wait:=w } S2) (hr:x.ar.length<=9000):Ku sub S S2
structure E8 (S:MS):Prop where
 r:S.rows.length < 9000
 w:S.wait.length < 9000
 t:S.things.length < 9000
inductive RunM (sub:List Nat->Option (Str×Dt)):Nat->MS->MS->Prop where
 | nil {S:MS} (h:S.wait=[]):RunM sub 0 S S
 | cons {n:Nat} {S S1 S2:MS} (hs:E8 S) (h1:Ku sub S S1) (h2:RunM sub n S1 S2):RunM sub (n+1) S S2
inductive RunL (sub:List Nat->Option (Str×Dt)):Nat->MS->Prop where
 | last {S:MS} {w:List Wt} {x:Wt} {wd:Str} {d:Dt} (hs:E8 S) (hw:S.wait=w++[x]) (hc:x.came=false) (hsub:sub x.pl=some (wd,d)) (hg:wd ≠ "gap") (h5:500 < S.steps+1):RunL sub 0 S
 | cons {n:Nat} {S S1:MS} (hs:E8 S) (h1:Ku sub S S1) (h2:RunL sub n S1):RunL sub (n+1) S
inductive Dq (sub:List Nat->Option (Str×Dt)):Nat->MS->Option MS->Prop where
 | nil {S:MS} (h:S.wait=[]):Dq sub 0 S (some S)
 | last {S:MS} {w:List Wt} {x:Wt} {wd:Str} {d:Dt} (hs:E8 S) (hw:S.wait=w++[x]) (hc:x.came=false) (hsub:sub x.pl=some (wd,d)) (hg:wd ≠ "gap") (h5:500 < S.steps+1):Dq sub 0 S none
 | cons {n:Nat} {S S1:MS} {o:Option MS} (hs:E8 S) (h1:Ku sub S S1) (h2:Dq sub n S1 o):Dq sub (n+1) S o
theorem RunM.x {sub:List Nat->Option (Str×Dt)}{n:Nat}{S S':MS}(h:RunM sub n S S'):Dq sub n S (some S'):=by
 induction h with
 | nil h=>exact .nil h
 | cons a b _ ih=>exact .cons a b ih
theorem RunL.x {sub:List Nat->Option (Str×Dt)}{n:Nat}{S:MS}(h:RunL sub n S):Dq sub n S none:=by
 induction h with
 | last a b c d e f=>exact .last a b c d e f
 | cons a b _ ih=>exact .cons a b ih
noncomputable def Zbt (K:O1)(C TL:Addr):Sp:=fun vs H Q E=>∃(HB:Hp)(kvs:List (List An×V))(L:Ml)(S:MS)(sub:List Nat->Option (Str×Dt))(n:Nat)(o:Option MS),vs=[.ref L.m]/\MAt K HB C kvs L H S/\FormsAt K H kvs sub/\Dq sub n S o/\(∀ S',o=some S'->∃(th:List (Str×V))(x:Str×V),S'.things=th++[x]/\∀ v H' t,SameM L H H'->MAt K HB C kvs (L.with t) H' { S' with things:=th }->ThAt K H' v x->Q v H')/\(o=none->∀ H',Same HB H'->E (.ref TL) none H')
theorem sc_Machine_thing_at_the_end:A2 ["self", "place", "around", "parts_came"] ["self"] (Ay Jt):=by walk_at "sc"
theorem Zl1 {C TL:Addr}{f:Addr}{fd:FuncData}(F:Fun K "thing_at_the_end" "Machine.thing_at_the_end" Jt f fd)(T:Txt K mg)(O:Mc K C)(MC:Cc (Bd P w) P w K mg base 3 C "come_to" ["self", "place", "around"] (fun vs H Q E=>Zc4 K C vs H Q E\/Zdt K C TL vs H Q E))(MG:Cc Ao P w K mg base 4 C "go_further" ["self", "place", "around"] (Zds K C)):FnOk P w K mg base (Bd P w) 5 f fd ["self"] (Zbt K C TL):=by
 refine F.okx sc_Machine_thing_at_the_end (fun vs H Q E h=>?_) (fun cdv A outer s H vs Q E hr h=>?_)
 ·obtain ⟨HB,kvs,L,S,sub,n,oo,rfl,_⟩:=h
  rfl
 ·obtain ⟨HB,kvs,L,S,sub,n,oo,rfl,M,FA,R,qS,qN⟩:=h
  refine ⟨_,Ae (Zer Wd (Ob K (Bt K (qv 0)) (by intro _;rfl)) (Ae (Fp (Lj K Pr Ur Us Lx (Bt K (qv 0))) (Dj K (n:=3) rfl (Bv (A9 (i:=1) sc_Machine_thing_at_the_end.nd rfl (Or.inl rfl)) (Bv (A9 (i:=2) sc_Machine_thing_at_the_end.nd rfl (Or.inl rfl)) (Bv (A9 (i:=3) sc_Machine_thing_at_the_end.nd rfl (Or.inl rfl)) (Di))))))
   (Ag (Ax (Ob K (qv 3) (by intro _;rfl)) (Ag (Bq (Co (k:=4) K Ao ["self", "place", "around"] (qv 0) hr.m Cz (Aa (qv 1) (Aa (qv 2) Ab))))) (Ag (Bq (Co (k:=3) K (Bd P w) ["self", "place", "around"] (qv 0) hr.m (Ei (fun _ _ _ h=>h)) (Aa (qv 1) (Aa (qv 2) Ab)))))))))
   (Ag (Au (Lj K Pr Ur Us Lx (Bt K (qv 0))))),?_⟩
  have bg:=big
  walk_at "r"
  refine ⟨fun m σ' H'=>∃ v1 v2 v3 S1 t,σ'=[some (.ref L.m),v1,v2,v3]/\MAt K HB C kvs (L.with t) H' S1/\Dq sub m S1 oo/\SameM L H H'/\(t=L.td\/H t=none),⟨n,none,none,none,S,L.td,rfl,M,R,SameM.refl _ _,.inl rfl⟩,?_⟩
  rintro m σ' H1 ⟨v1,v2,v3,S1,t,rfl,M1,R1,e1,ht⟩
  obtain ⟨wv,ew,aw⟩:=M1.wait
  have FA1:=FA.same (M.t e1)
  walk_at "r"
  refine ⟨_,rfl,L.m,C,L.dx,_,_,rfl,M1.ins,O.cl,O.nw,F5 (L.with t) S1.steps,?_⟩
  refine Ze1 (SqL.of ew) ?_
  cases R1 with
  | nil hw =>
   have hwv:wv=[]:=Rw (by rw [aw.1,hw];rfl)
   subst hwv
   refine iteF ?_
   walk_at "r"
   obtain ⟨tv,et,att⟩:=M1.things
   obtain ⟨th,x,hx,q⟩:=qS _ rfl
   rw [hx] at att
   obtain ⟨tv',v,th',x',rfl,exx,at',hv⟩:=att.last (by intro z;rw [z] at att;have:=att.1;simp at this)
   obtain ⟨rfl,e2⟩:=R9 exx rfl
   cases e2
   refine ⟨_,rfl,L.m,C,L.dx,_,_,rfl,M1.ins,O.cl,O.nt,Fj (L.with t) S1.steps,?_⟩
   refine B0 (SqL.of et) ?_
   refine Ks et ?_
   have M2:=M1.setThings at'
   have e2:SameM (L.with t) H1 (upd H1 (L.with t).td (.lst tv')):=SameM.upd (.inr (.inr (.inr rfl)))
   refine q v _ t (e1.trans' (L':=L.with t) e2 rfl rfl rfl ht) M2 (ThAt.same (M1.t e2) _ _ hv)
  | @last _ w0 xw wd d hs hw hc hsub hg h5 =>
   rw [hw] at aw
   obtain ⟨wv',v,wl',xw',rfl,exx,aw',hvw⟩:=aw.last (by intro z;rw [z] at aw;have:=aw.1;simp at this)
   obtain ⟨rfl,e2⟩:=R9 exx rfl
   cases e2
   have hne:(!(wv'++[v]).isEmpty)=true:=by simp
   rw [hne]
   refine iteT ?_
   refine ⟨fun σ2 H2=>∃ m2,m2 < 0/\∃ v1 v2 v3 S1 t,σ2=[some (.ref L.m),v1,v2,v3]/\MAt K HB C kvs (L.with t) H2 S1/\Dq sub m2 S1 none/\SameM L H H2/\(t=L.td\/H t=none),fun _ _ h=>h,?_⟩
   walk_at "r"
   refine ⟨_,rfl,L.m,C,L.dx,_,_,rfl,M1.ins,O.cl,O.nw,F5 (L.with t) S1.steps,?_⟩
   refine B0 (SqL.of ew) ?_
   refine Ks ew ?_
   have M2:=M1.setWait aw'
   have e12:SameM (L.with t) H1 (upd H1 (L.with t).wd (.lst wv')):=SameM.upd (.inr (.inr (.inl rfl)))
   have hv2:=WtAt.same (M1.a e12) _ _ hvw
   have FA2:=FA1.same (M1.t e12)
   revert M2 e12 hv2 FA2
   generalize upd H1 (L.with t).wd (.lst wv')=H2
   intro M2 e12 hv2 FA2
   obtain ⟨a,p,e,ev,rfl,qa,hp,he,ale,nA⟩:=hv2
   have e02:SameM L H H2:=e1.trans' (L':=L.with t) e12 rfl rfl rfl ht
   walk_at "r"
   refine Dc qa rfl ?_
   walk_at "r"
   refine ⟨xw.came,rfl,?_⟩
   rw [hc]
   refine iteF ?_
   walk_at "r"
   obtain ⟨hpl,vv,ts,hval,htr⟩:=FA2 _ _ _ hsub
   refine ⟨_,rfl,L.m,C,L.dx,_,_,rfl,M2.ins,(Cq (L.with t) S1.steps).2.2.2.1,MC,?_⟩
   walk_at "r"
   exact .inr ⟨p,e,xw.pl,ev,xw.ar,HB,kvs,L.with t,_,vv,wd,d,ts,rfl,M2,hp,he,ale,nA,hval,htr,hg,h5,fun H3 e3=>qN rfl _ (M2.outer e3)⟩
  | @cons m' _ S2 _ hs h1 h2 =>
   have key:∃ w x,S1.wait=w++[x]:=by
    cases h1 with
    | come hw=>exact ⟨_,_,hw⟩
    | further hw=>exact ⟨_,_,hw⟩
   obtain ⟨wl,xw,hwx⟩:=key
   rw [hwx] at aw
   obtain ⟨wv',v,wl',xw',rfl,exx,aw',hvw⟩:=aw.last (by intro z;rw [z] at aw;have:=aw.1;simp at this)
   obtain ⟨rfl,e2⟩:=R9 exx rfl
   cases e2
   have hne:(!(wv'++[v]).isEmpty)=true:=by simp
   rw [hne]
   refine iteT ?_
   refine ⟨fun σ2 H2=>∃ m2,m2 < m'+1/\∃ v1 v2 v3 S1 t,σ2=[some (.ref L.m),v1,v2,v3]/\MAt K HB C kvs (L.with t) H2 S1/\Dq sub m2 S1 oo/\SameM L H H2/\(t=L.td\/H t=none),fun _ _ h=>h,?_⟩
   walk_at "r"
   refine ⟨_,rfl,L.m,C,L.dx,_,_,rfl,M1.ins,O.cl,O.nw,F5 (L.with t) S1.steps,?_⟩
   refine B0 (SqL.of ew) ?_
   refine Ks ew ?_
   have M2:=M1.setWait aw'
   have e12:SameM (L.with t) H1 (upd H1 (L.with t).wd (.lst wv')):=SameM.upd (.inr (.inr (.inl rfl)))
   have hv2:=WtAt.same (M1.a e12) _ _ hvw
   have FA2:=FA1.same (M1.t e12)
   revert M2 e12 hv2 FA2
   generalize upd H1 (L.with t).wd (.lst wv')=H2
   intro M2 e12 hv2 FA2
   obtain ⟨a,p,e,ev,rfl,qa,hp,he,ale,nA⟩:=hv2
   have e02:SameM L H H2:=e1.trans' (L':=L.with t) e12 rfl rfl rfl ht
   walk_at "r"
   refine Dc qa rfl ?_
   walk_at "r"
   have hwl:wl.length < 9000:=by have:=hs.w;rw [hwx,O9] at this;omega
   refine ⟨xw.came,rfl,?_⟩
   cases h1 with
   | @come w2 x2 wd d hw hc hsub hn h5 =>
    rw [hwx] at hw
    obtain ⟨rfl,e2⟩:=R9 hw rfl
    cases e2
    rw [hc]
    refine iteF ?_
    walk_at "r"
    obtain ⟨hpl,vv,ts,hval,htr⟩:=FA2 _ _ _ hsub
    refine ⟨_,rfl,L.m,C,L.dx,_,_,rfl,M2.ins,(Cq (L.with t) S1.steps).2.2.2.1,MC,?_⟩
    walk_at "r"
    refine .inl ⟨p,e,xw.pl,ev,xw.ar,HB,kvs,L.with t,_,vv,wd,d,ts,rfl,M2,hp,he,ale,nA,hval,htr,hn,hpl,hs.r,hwl,hs.t,h5,fun H3 e3 M3=>?_⟩
    walk_at "r"
    exact ⟨m',by omega,_,_,_,_,t,rfl,M3,h2,e02.trans' (L':=L.with t) e3 rfl rfl rfl ht,ht⟩
   | @further _ w2 x2 wd d hw hc hsub hf har =>
    rw [hwx] at hw
    obtain ⟨rfl,e2⟩:=R9 hw rfl
    cases e2
    rw [hc]
    refine iteT ?_
    walk_at "r"
    obtain ⟨hpl,vv,ts,hval,htr⟩:=FA2 _ _ _ hsub
    refine ⟨_,rfl,L.m,C,L.dx,_,_,rfl,M2.ins,(Cq (L.with t) S1.steps).2.2.2.2.1,MG,?_⟩
    walk_at "r"
    refine ⟨p,e,xw.pl,ev,xw.ar,HB,kvs,L.with t,_,_,vv,wd,d,ts,rfl,M2,hp,he,ale,nA,hval,htr,sub,FA2,hf,hs.r,hs.t,hwl,hpl,har,fun H3 t3 e3 M3 ht3=>?_⟩
    walk_at "r"
    refine ⟨m',by omega,_,_,_,_,t3,rfl,M3,h2,e02.trans' (L':=L.with t) e3 rfl rfl rfl ht,?_⟩
    by_cases z:t3=L.td
    ·exact .inl z
    ·refine .inr ?_
     cases hH:H t3 with
     | none=>rfl
     | some o =>
      exfalso
      obtain ⟨rv2,er2,_⟩:=M2.rows
      have n1:t3≠L.m:=fun y=>by rw [y,show H2 L.m=_ from M2.ins] at ht3;cases ht3
      have n2:¬ L.A t3:=by
       rintro (y | y | y)
       ·rw [y,show H2 L.rd=_ from er2] at ht3;cases ht3
       ·obtain ⟨wv2,ew2,_⟩:=M2.wait
        rw [y,show H2 L.wd=_ from ew2] at ht3;cases ht3
       ·exact z y
      rw [e02 _ _ n1 n2 hH] at ht3
      cases ht3
noncomputable def Zef (K:O1)(C:Addr):Sp:=fun vs H Q _=>∃(p e:Addr)(pl:List Nat)(ev:List V)(ar:List (Str×Str×V))(HB:Hp)(kvs:List (List An×V))(L:Ml)(S S':MS)(sub:List Nat->Option (Str×Dt))(n:Nat)(th:List (Str×V))(x:Str×V),vs=[.ref L.m,.ref p,.ref e]/\MAt K HB C kvs L H S/\H p=some (.tup (Ar pl))/\H e=some (.lst ev)/\Al (PrAt K H) ev ar/\¬ L.A e/\FormsAt K H kvs sub/\S.wait.length < 9000/\RunM sub n { S with wait:=S.wait++[⟨pl,ar,false⟩] } S'/\S'.things=th++[x] /\
 ∀ v H' t,SameM L H H'->MAt K HB C kvs (L.with t) H' { S' with things:=th }->ThAt K H' v x->Q v H'
noncomputable def Zhl (K:O1)(C TL:Addr):Sp:=fun vs H _ E=>∃(p e:Addr)(pl:List Nat)(ev:List V)(ar:List (Str×Str×V))(HB:Hp)(kvs:List (List An×V))(L:Ml)(S:MS)(sub:List Nat->Option (Str×Dt))(n:Nat),vs=[.ref L.m,.ref p,.ref e]/\MAt K HB C kvs L H S/\H p=some (.tup (Ar pl))/\H e=some (.lst ev)/\Al (PrAt K H) ev ar/\¬ L.A e/\FormsAt K H kvs sub/\S.wait.length < 9000/\RunL sub n { S with wait:=S.wait++[⟨pl,ar,false⟩] }/\∀ H',Same HB H'->E (.ref TL) none H'
noncomputable def Zgs (K:O1)(C TL:Addr):Sp:=fun vs H Q E=>∃(p e:Addr)(pl:List Nat)(ev:List V)(ar:List (Str×Str×V))(HB:Hp)(kvs:List (List An×V))(L:Ml)(S:MS)(sub:List Nat->Option (Str×Dt))(n:Nat)(oo:Option MS),vs=[.ref L.m,.ref p,.ref e]/\MAt K HB C kvs L H S/\H p=some (.tup (Ar pl))/\H e=some (.lst ev)/\Al (PrAt K H) ev ar/\¬ L.A e/\FormsAt K H kvs sub/\S.wait.length < 9000/\Dq sub n { S with wait:=S.wait++[⟨pl,ar,false⟩] } oo/\(∀ S',oo=some S'->∃(th:List (Str×V))(x:Str×V),S'.things=th++[x]/\∀ v H' t,SameM L H H'->MAt K HB C kvs (L.with t) H' { S' with things:=th }->ThAt K H' v x->Q v H')/\(oo=none->∀ H',Same HB H'->E (.ref TL) none H')
theorem Zpc:A2 ["self", "place", "around"] ["self", "place", "around"] (Ay Jz):=by walk_at "sc"
theorem Zpl {C TL:Addr}{f:Addr}{fd:FuncData}(F:Fun K "thing_of_form" "Machine.thing_of_form" Jz f fd)(T:Txt K mg)(O:Mc K C)(ME:Cc (Bd P w) P w K mg base 5 C "thing_at_the_end" ["self"] (Zbt K C TL)):FnOk P w K mg base (Bd P w) 6 f fd ["self", "place", "around"] (Zgs K C TL):=by
 refine F.okx Zpc (fun vs H Q E h=>?_) (fun cdv A outer s H vs Q E hr h=>?_)
 ·obtain ⟨p,e,pl,ev,ar,HB,kvs,L,S,sub,n,oo,rfl,_⟩:=h
  rfl
 ·obtain ⟨p,e,pl,ev,ar,HB,kvs,L,S,sub,n,oo,rfl,M,hp,he,ale,nA,FA,hwl,R,qS,qN⟩:=h
  refine ⟨_,Ae (Bq (Cd K Pr P0 P3 Ck (Bt K (qv 0)) (Aa (Ak (Aa (qv 1) (Aa (qv 2) (Aa Dl Ab)))) Ab)))
   (Ag (Au (Zd2 (k:=5) K (Bd P w) ["self"] (qv 0) hr.m (Ei (fun _ _ _ h=>h))))),?_⟩
  have bg:=big
  obtain ⟨wv,ew,aw⟩:=M.wait
  have hwv:=aw.1
  walk_at "r"
  refine ⟨_,rfl,L.m,C,L.dx,_,_,rfl,M.ins,O.cl,O.nw,F5 L S.steps,?_⟩
  refine B0 (SqL.of ew) ?_
  walk_at "r"
  refine ⟨Bg,fun r hr'=>?_⟩
  obtain ⟨H1,s1,e1,z9⟩:=Cn hr' (.tup [.ref p,.ref e,.bl false])
  rw [z9]
  walk_at "r"
  refine Cs (s1 _ _ ew) (by omega) ?_
  have M1:=M.new s1
  have M2:=M1.setWait (wv:=wv++[.ref r]) (ws:=S.wait++[⟨pl,ar,false⟩]) ((aw.mono (WtAt.same s1.a)).snoc ⟨r,p,e,ev,rfl,SqT.of e1,s1 _ _ hp,s1 _ _ he,ale.mono (PrAt.same s1.t),nA⟩)
  have m12:SameM L H1 (upd H1 L.wd (.lst (wv++[.ref r]))):=SameM.upd (.inr (.inr (.inl rfl)))
  have m02:SameM L H (upd H1 L.wd (.lst (wv++[.ref r]))):=(s1.m L).trans m12
  have FA2:=FA.same (M.t m02)
  walk_at "r"
  refine ⟨_,rfl,L.m,C,L.dx,_,_,rfl,M2.ins,(Cq L S.steps).2.2.2.2.2.2.1,ME,?_⟩
  walk_at "r"
  exact ⟨HB,kvs,L,_,sub,n,oo,rfl,M2,FA2,R,fun S' z=>let ⟨th,x,hx,q⟩:=qS S' z;⟨th,x,hx,fun v H' t e' M' t'=>q v H' t (m02.trans e') M' t'⟩,qN⟩
theorem Zr4 {C TL:Addr}{k:Nat}{f:Addr}{fd:FuncData}(F:FnOk P w K mg base (Bd P w) k f fd ["self", "place", "around"] (Zgs K C TL)):FnOk P w K mg base (Bd P w) k f fd ["self", "place", "around"] (fun vs H Q E=>Zef K C vs H Q E\/Zhl K C TL vs H Q E):=F.imp fun vs H Q E h=>by
 rcases h with h | h
 ·obtain ⟨p,e,pl,ev,ar,HB,kvs,L,S,S',sub,n,th,x,rfl,M,hp,he,ale,nA,FA,hwl,R,hx,q⟩:=h
  exact ⟨p,e,pl,ev,ar,HB,kvs,L,S,sub,n,_,rfl,M,hp,he,ale,nA,FA,hwl,R.x,fun S2 z=>by cases z;exact ⟨th,x,hx,q⟩,fun z=>nomatch z⟩
 ·obtain ⟨p,e,pl,ev,ar,HB,kvs,L,S,sub,n,rfl,M,hp,he,ale,nA,FA,hwl,R,q⟩:=h
  exact ⟨p,e,pl,ev,ar,HB,kvs,L,S,sub,n,_,rfl,M,hp,he,ale,nA,FA,hwl,R.x,fun S2 z=>(nomatch z),fun _=>q⟩
noncomputable def Zcu (K:O1)(C:Addr):Sp:=fun vs H Q _=>∃(p o e:Addr)(pl:List Nat)(ov ev:List V)(ops:List (Str×V))(ar:List (Str×Str×V))(HB:Hp)(kvs:List (List An×V))(L:Ml)(S S':MS)(sub:List Nat->Option (Str×Dt))(n:Nat)(th:List (Str×V))(x:Str×V),vs=[.ref L.m,.ref p,.ref o,.ref e]/\MAt K HB C kvs L H S/\H p=some (.tup (Ar pl))/\H o=some (.lst ov)/\Al (ThAt K H) ov ops/\H e=some (.lst ev)/\Al (PrAt K H) ev ar/\¬ L.A e/\FormsAt K H kvs sub/\S.wait.length < 9000/\S.things.length+ops.length < 9000/\RunM sub n { S with things:=S.things++ops,wait:=S.wait++[⟨pl,ar,true⟩] } S'/\S'.things=th++[x] /\
 ∀ v H' t,SameM L H H'->MAt K HB C kvs (L.with t) H' { S' with things:=th }->ThAt K H' v x->Q v H'
noncomputable def Zen (K:O1)(C TL:Addr):Sp:=fun vs H _ E=>∃(p o e:Addr)(pl:List Nat)(ov ev:List V)(ops:List (Str×V))(ar:List (Str×Str×V))(HB:Hp)(kvs:List (List An×V))(L:Ml)(S:MS)(sub:List Nat->Option (Str×Dt))(n:Nat),vs=[.ref L.m,.ref p,.ref o,.ref e]/\MAt K HB C kvs L H S/\H p=some (.tup (Ar pl))/\H o=some (.lst ov)/\Al (ThAt K H) ov ops/\H e=some (.lst ev)/\Al (PrAt K H) ev ar/\¬ L.A e/\FormsAt K H kvs sub/\S.wait.length < 9000/\S.things.length+ops.length < 9000/\RunL sub n { S with things:=S.things++ops,wait:=S.wait++[⟨pl,ar,true⟩] }/\∀ H',Same HB H'->E (.ref TL) none H'
noncomputable def Zd1 (K:O1)(C TL:Addr):Sp:=fun vs H Q E=>∃(p o e:Addr)(pl:List Nat)(ov ev:List V)(ops:List (Str×V))(ar:List (Str×Str×V))(HB:Hp)(kvs:List (List An×V))(L:Ml)(S:MS)(sub:List Nat->Option (Str×Dt))(n:Nat)(oo:Option MS),vs=[.ref L.m,.ref p,.ref o,.ref e]/\MAt K HB C kvs L H S/\H p=some (.tup (Ar pl))/\H o=some (.lst ov)/\Al (ThAt K H) ov ops/\H e=some (.lst ev)/\Al (PrAt K H) ev ar/\¬ L.A e/\FormsAt K H kvs sub/\S.wait.length < 9000/\S.things.length+ops.length < 9000/\Dq sub n { S with things:=S.things++ops,wait:=S.wait++[⟨pl,ar,true⟩] } oo/\(∀ S',oo=some S'->∃(th:List (Str×V))(x:Str×V),S'.things=th++[x]/\∀ v H' t,SameM L H H'->MAt K HB C kvs (L.with t) H' { S' with things:=th }->ThAt K H' v x->Q v H')/\(oo=none->∀ H',Same HB H'->E (.ref TL) none H')
theorem Zir:A2 ["self", "place", "operands", "around"] ["self", "place", "operands", "around"] (Ay J6):=by walk_at "sc"
theorem Zkh {C TL:Addr}{f:Addr}{fd:FuncData}(F:Fun K "thing_of_parts" "Machine.thing_of_parts" J6 f fd)(T:Txt K mg)(O:Mc K C)(ME:Cc (Bd P w) P w K mg base 5 C "thing_at_the_end" ["self"] (Zbt K C TL)):FnOk P w K mg base (Bd P w) 6 f fd ["self", "place", "operands", "around"] (Zd1 K C TL):=by
 refine F.okx Zir (fun vs H Q E h=>?_) (fun cdv A outer s H vs Q E hr h=>?_)
 ·obtain ⟨p,o,e,pl,ov,ev,ops,ar,HB,kvs,L,S,sub,n,oo,rfl,_⟩:=h
  rfl
 ·obtain ⟨p,o,e,pl,ov,ev,ops,ar,HB,kvs,L,S,sub,n,oo,rfl,M,hp,ho,alo,he,ale,nA,FA,hwl,htl,R,qS,qN⟩:=h
  refine ⟨_,Ae (Bq (Cd K Pr Vv Vw Ny (Bt K (qv 0)) (Aa (qv 2) Ab)))
   (Ae (Bq (Cd K Pr P0 P3 Ck (Bt K (qv 0)) (Aa (Ak (Aa (qv 1) (Aa (qv 3) (Aa Dl Ab)))) Ab)))
   (Ag (Au (Zd2 (k:=5) K (Bd P w) ["self"] (qv 0) hr.m (Ei (fun _ _ _ h=>h)))))),?_⟩
  have bg:=big
  obtain ⟨tv,et,att⟩:=M.things
  have hta:=att.1
  have hoa:=alo.1
  walk_at "r"
  refine ⟨_,rfl,L.m,C,L.dx,_,_,rfl,M.ins,O.cl,O.nt,Fj L S.steps,?_⟩
  refine B0 (SqL.of et) ?_
  walk_at "r"
  refine ⟨L.td,o,_,ov,rfl,rfl,et,ho,by omega,?_⟩
  have M0:=M.setThings (att.append alo)
  have m0:SameM L H (upd H L.td (.lst (tv++ov))):=SameM.upd (.inr (.inr (.inr rfl)))
  revert M0 m0
  generalize upd H L.td (.lst (tv++ov))=H0
  intro M0 m0
  have t0:=M.t m0
  have hp0:=(t0 p).1 _ hp
  have he0:=(M.a m0).2 _ _ nA he
  have ale0:Al (PrAt K H0) ev ar:=ale.mono (PrAt.same t0)
  obtain ⟨wv,ew,aw⟩:=M0.wait
  have hwv:=aw.1
  walk_at "r"
  refine ⟨_,rfl,L.m,C,L.dx,_,_,rfl,M0.ins,O.cl,O.nw,F5 L S.steps,?_⟩
  refine B0 (SqL.of ew) ?_
  walk_at "r"
  refine ⟨Bg,fun r hr'=>?_⟩
  obtain ⟨H1,s1,e1,z9⟩:=Cn hr' (.tup [.ref p,.ref e,.bl true])
  rw [z9]
  walk_at "r"
  refine Cs (s1 _ _ ew) (by rw [hwv];show S.wait.length+1<=_;omega) ?_
  have M1:=M0.new s1
  have M2:=M1.setWait (wv:=wv++[.ref r]) (ws:=S.wait++[⟨pl,ar,true⟩]) ((aw.mono (WtAt.same s1.a)).snoc ⟨r,p,e,ev,rfl,SqT.of e1,s1 _ _ hp0,s1 _ _ he0,ale0.mono (PrAt.same s1.t),nA⟩)
  have m12:SameM L H1 (upd H1 L.wd (.lst (wv++[.ref r]))):=SameM.upd (.inr (.inr (.inl rfl)))
  have m02:SameM L H (upd H1 L.wd (.lst (wv++[.ref r]))):=m0.trans ((s1.m L).trans m12)
  have FA2:=FA.same (M.t m02)
  walk_at "r"
  refine ⟨_,rfl,L.m,C,L.dx,_,_,rfl,M2.ins,(Cq L S.steps).2.2.2.2.2.2.1,ME,?_⟩
  walk_at "r"
  exact ⟨HB,kvs,L,_,sub,n,oo,rfl,M2,FA2,R,fun S' z=>let ⟨th,x,hx,q⟩:=qS S' z;⟨th,x,hx,fun v H' t e' M' t'=>q v H' t (m02.trans e') M' t'⟩,qN⟩
theorem Znf {C TL:Addr}{k:Nat}{f:Addr}{fd:FuncData}(F:FnOk P w K mg base (Bd P w) k f fd ["self", "place", "operands", "around"] (Zd1 K C TL)):FnOk P w K mg base (Bd P w) k f fd ["self", "place", "operands", "around"] (fun vs H Q E=>Zcu K C vs H Q E\/Zen K C TL vs H Q E):=F.imp fun vs H Q E h=>by
 rcases h with h | h
 ·obtain ⟨p,o,e,pl,ov,ev,ops,ar,HB,kvs,L,S,S',sub,n,th,x,rfl,M,hp,ho,alo,he,ale,nA,FA,hwl,htl,R,hx,q⟩:=h
  exact ⟨p,o,e,pl,ov,ev,ops,ar,HB,kvs,L,S,sub,n,_,rfl,M,hp,ho,alo,he,ale,nA,FA,hwl,htl,R.x,fun S2 z=>by cases z;exact ⟨th,x,hx,q⟩,fun z=>nomatch z⟩
 ·obtain ⟨p,o,e,pl,ov,ev,ops,ar,HB,kvs,L,S,sub,n,rfl,M,hp,ho,alo,he,ale,nA,FA,hwl,htl,R,q⟩:=h
  exact ⟨p,o,e,pl,ov,ev,ops,ar,HB,kvs,L,S,sub,n,_,rfl,M,hp,ho,alo,he,ale,nA,FA,hwl,htl,R.x,fun S2 z=>(nomatch z),fun _=>q⟩
noncomputable def Fc (bc ops:List (Str×V)):List (Str×V):=ops.map (Dp bc)
noncomputable def C4 (bc:List (Str×V))(ar:List (Str×Str×V)):List (Str×Str×V):=ar.map fun y=>(y.1,Dp bc y.2)
inductive RowG (sub:List Nat->Option (Str×Dt))(fl:List Nat)(bc:List (Str×V))(r:Rx)(S:MS):MS->Str×V->Prop where
 | fill {n:Nat} {S':MS} {th:List (Str×V)} {x:Str×V} (hp:r.pl=A3 fl) (R:RunM sub n { S with wait:=S.wait++[⟨fl,C4 bc r.ar,false⟩] } S') (hx:S'.things=th++[x]):RowG sub fl bc r S { S' with things:=th } x
 | parts {pl:List Nat} {n:Nat} {S':MS} {th:List (Str×V)} {x:Str×V} (hp:r.pl=A3 pl) (hn:r.pl≠A3 fl) (hw:(Bp r.wd).isSome=true) (R:RunM sub n { S with things:=S.things++Fc bc r.ops,wait:=S.wait++[⟨pl,C4 bc r.ar,true⟩] } S') (hx:S'.things=th++[x]):RowG sub fl bc r S { S' with things:=th } x
 | new {pl:List Nat} (hp:r.pl=A3 pl) (hn:r.pl≠A3 fl) (hw:(Bp r.wd).isSome=false):RowG sub fl bc r S { S with rows:=S.rows++[⟨r.wd,A3 pl,Fc bc r.ops,if r.wd∈WA then C4 bc r.ar else []⟩] } ("row",.int (S.rows.length:Nat))
structure Ji (n:Nat)(r:Rx):Prop where
 o:∀ y∈r.ops,J4 n y
 a:∀ y∈r.ar,J4 n y.2
 lo:r.ops.length<=1000
 la:r.ar.length<=1000
inductive RowO (sub:List Nat->Option (Str×Dt))(fl:List Nat)(bc:List (Str×V))(r:Rx)(S:MS):Option (MS×(Str×V))->Prop where
 | ok {S2:MS} {x:Str×V} (h:RowG sub fl bc r S S2 x):RowO sub fl bc r S (some (S2,x))
 | lateF {n:Nat} (hp:r.pl=A3 fl) (R:RunL sub n { S with wait:=S.wait++[⟨fl,C4 bc r.ar,false⟩] }):RowO sub fl bc r S none
 | lateP {pl:List Nat} {n:Nat} (hp:r.pl=A3 pl) (hn:r.pl≠A3 fl) (hw:(Bp r.wd).isSome=true) (R:RunL sub n { S with things:=S.things++Fc bc r.ops,wait:=S.wait++[⟨pl,C4 bc r.ar,true⟩] }):RowO sub fl bc r S none
noncomputable def Zg2 (K:O1)(C TL:Addr):Sp:=fun vs H Q E=>∃(a:V)(p b:Addr)(r:Rx)(fl:List Nat)(bv:List V)(bc:List (Str×V))(HB:Hp)(kvs:List (List An×V))(L:Ml)(S:MS)(sub:List Nat->Option (Str×Dt))(o:Option (MS×(Str×V))),vs=[.ref L.m,a,.ref p,.ref b]/\MAt K HB C kvs L H S/\RwX K (fun _=>False) HB a r/\SqT K HB p (Ar fl)/\HB b=some (.lst bv)/\Al (ThAt K H) bv bc/\Ji bc.length r/\FormsAt K H kvs sub/\S.rows.length < 9000/\S.wait.length < 8000/\S.things.length < 8000/\RowO sub fl bc r S o /\
 (∀ S2 x,o=some (S2,x)->∀ v H' t,SameM L H H'->MAt K HB C kvs (L.with t) H' S2->ThAt K H' v x->Q v H')/\(o=none->∀ H',Same HB H'->E (.ref TL) none H')
theorem Zhb (L:Ml)(n:Int):(L.fs n).lookup ("thing_of_parts" : Str)=none:=rfl
theorem Zh8:(["thing", "became"]:List Str).Nodup:=by decide +kernel
theorem Zfs:(["name", "thing", "became"]:List Str).Nodup:=by decide +kernel
theorem sc_thing_of_row:A2 ["machine", "row", "filled", "became", "word", "place", "operands", "around"] ["machine", "row", "filled", "became"] (Ay K7):=by walk_at "sc"
theorem Zjz {C TL:Addr}{f:Addr}{fd:FuncData}(F:Fun K "thing_of_row" "thing_of_row" K7 f fd)(T:Txt K mg)(O:Mc K C){ap:Addr}{pk:List (Str×V)}(G_PARTS_AWAITED:D8 mg "PARTS_AWAITED" (.ref ap))(hpa:Fx P w K ap pk)(hpk:∀ wd,(Cv pk wd).isSome=(Bp wd).isSome/\∀ ns,Bp wd=some ns->∃ b,Cv pk wd=some (.ref b)/\∀ H,SqT K H b (ns.map V.int))
  (C_thing_now:A4 P w K mg base 1 "thing_now" ["thing", "became"] (Zbb K)) (MR:Cc Ao P w K mg base 1 C "new_row" ["self", "word", "place", "operands", "around"] (Ky K C)) (MF:Cc (Bd P w) P w K mg base 6 C "thing_of_form" ["self", "place", "around"] (fun vs H Q E=>Zef K C vs H Q E\/Zhl K C TL vs H Q E)) (MP:Cc (Bd P w) P w K mg base 6 C "thing_of_parts" ["self", "place", "operands", "around"] (fun vs H Q E=>Zcu K C vs H Q E\/Zen K C TL vs H Q E)):FnOk P w K mg base (Bd P w) 7 f fd ["machine", "row", "filled", "became"] (Zg2 K C TL):=by
 refine F.okx sc_thing_of_row (fun vs H Q E h=>?_) (fun cdv A outer s H vs Q E hr h=>?_)
 ·obtain ⟨a,p,b,r,fl,bv,bc,HB,kvs,L,S,sub,oo,rfl,_⟩:=h
  rfl
 ·obtain ⟨av,p,b,r,fl,bv,bc,HB,kvs,L,S,sub,oo,rfl,M,xr,hp,hb,alb,rok,FA,z1,z2,z3,G,q,qL⟩:=h
  refine ⟨_,Ae (Fp (Dm (Gk K) (qv 1) (Dn) (C6 Ac)) (Dj K (n:=2) rfl (Bv (A9 (i:=4) sc_thing_of_row.nd rfl (Or.inl rfl)) (Bv (A9 (i:=5) sc_thing_of_row.nd rfl (Or.inl rfl)) (Di)))))
   (Ae (M8 (i:=6) (N:=["thing", "became"]) (σ0:=Dv 1 [3]) rfl (Fq rfl (by decide +kernel) (by decide +kernel) (by decide +kernel)) (D5 K (Ap K (qv 1) Ac)) (Fy rfl (by rfl)) (fun _ _ _ _=>A9 (i:=0) Zh8 rfl (Or.inl rfl)) (fun _ _ _ _=>Gw) (fun _ _ _ _=>A1 C_thing_now hr.m (Aa (qv 0) (Aa (qv 1) Ab))) sc_thing_of_row.nd rfl (Or.inl rfl))
   (Ae (M8 (i:=7) (N:=["name", "thing", "became"]) (σ0:=Dv 2 [3]) rfl (Fq rfl (by decide +kernel) (by decide +kernel) (by decide +kernel)) (D5 K (Ap K (qv 1) Ac)) (Fy rfl (by rfl)) (fun _ _ _ _=>Dj K (n:=2) rfl (Bv (A9 (i:=0) Zfs rfl (Or.inl rfl)) (Bv (A9 (i:=1) Zfs rfl (Or.inl rfl)) (Di)))) (fun _ _ _ _=>Gw) (fun _ _ _ _=>Ak (Aa (qv 0) (Aa (A1 C_thing_now hr.m (Aa (qv 1) (Aa (qv 2) Ab))) Ab))) sc_thing_of_row.nd rfl (Or.inl rfl))
   (Ae (Ax (Aw (Zm4 K hr.u200) (qv 5) (qv 2) (Av _)) (Ag (Au (Co (k:=6) K (Bd P w) ["self", "place", "around"] (qv 0) hr.m (Ei (fun _ _ _ h=>h)) (Aa (qv 5) (Aa (qv 7) Ab))))) A0)
   (Ae (Ax (Aw (Za1 P w K) (qv 4) (Fd G_PARTS_AWAITED) (by rfl)) (Ag (Au (Co (k:=6) K (Bd P w) ["self", "place", "operands", "around"] (qv 0) hr.m (Ei (fun _ _ _ h=>h)) (Aa (qv 5) (Aa (qv 6) (Aa (qv 7) Ab)))))) A0)
   (Ag (Au (Co (k:=1) K Ao ["self", "word", "place", "operands", "around"] (qv 0) hr.m Cz (Aa (qv 4) (Aa (qv 5) (Aa (qv 6) (Aa (qv 7) Ab))))))))))),?_⟩
  have bg:=big
  have sB:=M.base
  obtain ⟨⟨a,p',o',e,ov,ev,rfl,qa,_,ho,alo,he,ale,_,_⟩,a2,p2,o2,e2,ea,qa2,hp2⟩:=RwX.same sB.a _ _ xr
  cases ea
  have hb1:=sB _ _ hb
  have lo:=rok.lo
  have la:=rok.la
  have hol:=alo.1
  have hel:=ale.1
  walk_at "r"
  refine .inr (.inr ⟨a,_,rfl,qa2,by show ¬(HT.sIx 4 0 none=0/\HT.sIx 4 4 (some 2)=4);decide,fun k1 h1=>?_⟩)
  rw [show Bz [V.str r.wd,.ref p2,.ref o2,.ref e2] none (some 2)=[V.str r.wd,.ref p2] from rfl]
  obtain ⟨H1,s1,e1,z9⟩:=Cn h1 (.tup [.str r.wd,.ref p2])
  rw [z9]
  walk_at "r"
  refine Dc (SqT.of e1) rfl ?_
  walk_at "r"
  refine Az (s1.tup qa) rfl ?_
  refine .inl ⟨o',rfl,⟨_,SqL.of (s1 _ _ ho)⟩,fun D hD=>?_⟩
  refine Iy (K:=K) (a:=o') (xs:=ov) (Pv:=fun i ys σ' H'=>∃ kv,σ'=[kv,some (.ref b)]/\Al (ThAt K H') ys ((r.ops.take i).map (Dp bc))/\Same H1 H') ⟨none,rfl,.nil,Same.upd hD⟩ (fun i ys σ' H' _ ⟨_,_,_,s'⟩=>SqL.of (s' _ _ (s1 _ _ ho))) ?_ ?_
  ·rintro i y ys σ' H2 hy hys ⟨kv,rfl,al2,s2⟩
   obtain ⟨xo,hxo,txo⟩:=alo.get hy
   have s02:=s1.trans s2
   walk_at "r"
   refine ⟨y,b,bv,xo,bc,rfl,ThAt.same s02.t _ _ txo,SqL.of (s02 _ _ hb1),alb.mono (ThAt.same s02.t),rok.o _ (Qr hxo),fun v tv=>?_⟩
   have hyl:ys.length<=1000:=by rw [al2.1,Pa,Pq];omega
   refine ⟨_,hys,by omega,_,Ad,?_⟩
   have sA:SameT H2 (upd H2 D (.lst (ys++[v]))):=SameT.set hys
   refine ⟨_,rfl,?_,s2.over hD⟩
   rw [Ra,hxo,Uz,P4,U0]
   exact (al2.mono (ThAt.same sA)).snoc (ThAt.same sA _ _ tv)
  ·rintro ys σ' H2 hys ⟨kv,rfl,al2,s2⟩
   rw [Qi (by omega)] at al2
   have al2:Al (ThAt K H2) ys (Fc bc r.ops):=al2
   have s02:=s1.trans s2
   walk_at "r"
   refine Az (s02.tup qa) rfl ?_
   refine .inl ⟨e,rfl,⟨_,SqL.of (s02 _ _ he)⟩,fun D2 hD2=>?_⟩
   refine Iy (K:=K) (a:=e) (xs:=ev) (Pv:=fun i zs σ' H'=>∃ k1 k2,σ'=[k1,k2,some (.ref b)]/\Al (PrAt K H') zs ((r.ar.take i).map fun y=>(y.1,Dp bc y.2))/\Same H2 H') ⟨none,none,rfl,.nil,Same.upd hD2⟩ (fun i zs σ' H' _ ⟨_,_,_,_,s'⟩=>SqL.of (s' _ _ (s02 _ _ he))) ?_ ?_
   ·rintro i y zs σ' H3 hy hzs ⟨k1,k2,rfl,al3,s3⟩
    obtain ⟨xa,hxa,pa,u,rfl,qp,tu⟩:=ale.get hy
    have s03:=s02.trans s3
    walk_at "r"
    refine Dc (s03.tup qp) rfl ?_
    walk_at "r"
    refine ⟨u,b,bv,xa.2,bc,rfl,ThAt.same s03.t _ _ tu,SqL.of (s03 _ _ hb1),alb.mono (ThAt.same s03.t),rok.a _ (Qr hxa),fun v tv=>?_⟩
    walk_at "r"
    refine ⟨Bb,fun k hk=>?_⟩
    obtain ⟨H4,s4,e4,z9⟩:=Cn hk (.tup [.str xa.1,v])
    rw [z9]
    have hyl:zs.length<=1000:=by rw [al3.1,Pa,Pq];omega
    refine ⟨_,s4 _ _ hzs,by omega,_,Ad,?_⟩
    have sA:SameT H4 (upd H4 D2 (.lst (zs++[.ref k]))):=SameT.set (s4 _ _ hzs)
    refine ⟨_,_,rfl,?_,(s3.trans s4).over hD2⟩
    rw [Ra,hxa,Uz,P4,U0]
    exact (al3.mono (PrAt.same (s4.t.trans sA))).snoc ⟨k,v,rfl,sA.tup (SqT.of e4),ThAt.same (s4.t.trans sA) _ _ tv⟩
   ·rintro zs σ' H3 hzs ⟨k1,k2,rfl,al3,s3⟩
    rw [Qi (by omega)] at al3
    have al3:Al (PrAt K H3) zs (C4 bc r.ar):=al3
    have s03:=s02.trans s3
    have M3:=M.new s03
    have FA3:=FA.same s03.t
    have hys3:=s3 _ _ hys
    have al23:=al2.mono (ThAt.same s3.t)
    have nA2:¬ L.A D2:=by
     have M2:=M.new s02
     obtain ⟨rv,er,_⟩:=M2.rows
     obtain ⟨wv',ew',_⟩:=M2.wait
     obtain ⟨tv,et,_⟩:=M2.things
     rintro (y | y | y)
     ·rw [y,er] at hD2;cases hD2
     ·rw [y,ew'] at hD2;cases hD2
     ·rw [y,et] at hD2;cases hD2
    walk_at "r"
    refine Zle (xs:=r.pl) (ys:=A3 fl) (SqT.of (s03 _ _ hp2)) (by rw [C9];exact (sB.trans s03).tup hp) ?_
    walk_at "r"
    cases G with
    | ok G =>
     cases G with
     | @fill n S' th x hpl R hx =>
      rw [decide_eq_true hpl]
      walk_at "r"
      have hp3:H3 p2=some (.tup (Ar fl)):=by rw [<- C9,<- hpl];exact s03 _ _ hp2
      refine ⟨_,rfl,L.m,C,L.dx,_,_,rfl,M3.ins,(Cq L S.steps).2.2.2.2.2.2.2,MF,?_⟩
      walk_at "r"
      exact Or.inl ⟨p2,D2,fl,zs,C4 bc r.ar,HB,kvs,L,S,S',sub,n,th,_,rfl,M3,hp3,hzs,al3,nA2,FA3,by omega,R,hx,fun v H' t e' M' t'=>q _ _ rfl v H' t ((s03.m L).trans e') M' t'⟩
     | @parts pl n S' th x hpl hn hw R hx =>
      rw [decide_eq_false hn]
      walk_at "r"
      have hp3:H3 p2=some (.tup (Ar pl)):=by rw [<- C9,<- hpl];exact s03 _ _ hp2
      refine ⟨r.wd,ap,pk,rfl,rfl,hpa,?_⟩
      rw [(hpk r.wd).1,hw]
      walk_at "r"
      refine ⟨_,rfl,L.m,C,L.dx,_,_,rfl,M3.ins,Zhb L S.steps,MP,?_⟩
      walk_at "r"
      exact Or.inl ⟨p2,D,D2,pl,ys,zs,Fc bc r.ops,C4 bc r.ar,HB,kvs,L,S,S',sub,n,th,_,rfl,M3,hp3,hys3,al23,hzs,al3,nA2,FA3,by omega,by unfold Fc;rw [Pa];omega,R,hx,fun v H' t e' M' t'=>q _ _ rfl v H' t ((s03.m L).trans e') M' t'⟩
     | @new pl hpl hn hw =>
      rw [decide_eq_false hn]
      walk_at "r"
      have hp3:H3 p2=some (.tup (Ar pl)):=by rw [<- C9,<- hpl];exact s03 _ _ hp2
      refine ⟨r.wd,ap,pk,rfl,rfl,hpa,?_⟩
      rw [(hpk r.wd).1,hw]
      walk_at "r"
      refine ⟨_,rfl,L.m,C,L.dx,_,_,rfl,M3.ins,(Cq L S.steps).2.1,MR,?_⟩
      walk_at "r"
      exact ⟨r.wd,p2,D,D2,pl,ys,zs,Fc bc r.ops,C4 bc r.ar,HB,kvs,L,S,rfl,M3,hp3,SqL.of hys3,al23,SqL.of hzs,al3,by omega,fun v H' e' M' t'=>q _ _ rfl v H' L.td ((s03.m L).trans e') M' t'⟩
    | @lateF n hpl R =>
     rw [decide_eq_true hpl]
     walk_at "r"
     have hp3:H3 p2=some (.tup (Ar fl)):=by rw [<- C9,<- hpl];exact s03 _ _ hp2
     refine ⟨_,rfl,L.m,C,L.dx,_,_,rfl,M3.ins,(Cq L S.steps).2.2.2.2.2.2.2,MF,?_⟩
     walk_at "r"
     exact Or.inr ⟨p2,D2,fl,zs,C4 bc r.ar,HB,kvs,L,S,sub,n,rfl,M3,hp3,hzs,al3,nA2,FA3,by omega,R,qL rfl⟩
    | @lateP pl n hpl hn hw R =>
     rw [decide_eq_false hn]
     walk_at "r"
     have hp3:H3 p2=some (.tup (Ar pl)):=by rw [<- C9,<- hpl];exact s03 _ _ hp2
     refine ⟨r.wd,ap,pk,rfl,rfl,hpa,?_⟩
     rw [(hpk r.wd).1,hw]
     walk_at "r"
     refine ⟨_,rfl,L.m,C,L.dx,_,_,rfl,M3.ins,Zhb L S.steps,MP,?_⟩
     walk_at "r"
     exact Or.inr ⟨p2,D,D2,pl,ys,zs,Fc bc r.ops,C4 bc r.ar,HB,kvs,L,S,sub,n,rfl,M3,hp3,hys3,al23,hzs,al3,nA2,FA3,by omega,by unfold Fc;rw [Pa];omega,R,qL rfl⟩
noncomputable def Zfh (K:O1):Sp:=fun vs H Q _=>∃(v:V)(t:Tr),vs=[v]/\TrAt K H v t/\t.size<=2000/\∀(p:Addr)(rows:List V)(H':Hp),Same H H'->H p=none->H' p=some (.lst rows)->Al (RowT K H') rows (walk [] t)->Q (.ref p) H'
theorem sc_placed_forms:A2 ["tree", "told", "waiting", "pair", "number", "part"] ["tree"] (Ay Jj):=by walk_at "sc"
noncomputable def PlJ (K:O1)(H:Hp)(v:V)(t:Tr)(pt pw:Addr)(m:Nat)(σ:St)(H':Hp):Prop:=∃(v3 v4 v5:Option V)(tv wv:List V)(dn st:List (List Nat×Tr)),σ=[some v,some (.ref pt),some (.ref pw),v3,v4,v5]/\H' pt=some (.lst tv)/\H' pw=some (.lst wv) /\
 Al (RowT K H') tv dn/\Al (RowT K H') wv st/\dn++F3 st=walk [] t/\m=Ef st/\Same H H'
theorem Zn4 {f:Addr}{fd:FuncData}(F:Fun K "placed_forms" "placed_forms" Jj f fd)(T:Txt K mg):FnOk P w K mg base Ao 1 f fd ["tree"] (Zfh K):=by
 refine F.okq sc_placed_forms (fun vs H Q E h=>?_) (fun cdv A outer s H vs Q E hr h=>?_)
 ·obtain ⟨v,t,rfl,_⟩:=h
  rfl
 ·obtain ⟨v,t,rfl,ht,hz,q⟩:=h
  refine ⟨_,Ae (Aq 1 sc_placed_forms (Ba Ab))
   (Ae (Aq 2 sc_placed_forms (Ba (Aa (Ak (Aa (Ak Ab) (Aa (qv 0) Ab))) Ab)))
   (Ae (Zer Re (Ob K (qv 2) (by intro _;rfl)) (Ae (Aq 3 sc_placed_forms (Lj K Pr Ur Us Lx (qv 2)))
   (Ae (Bq (Cd K Pr P0 P3 Ck (qv 1) (Aa (qv 3) Ab)))
   (Ag (En Re rfl (Zeb K rfl T.reversed (Aa (Zo8 K (by rfl) T.list (by rfl) T.enumerate (Aa (Ap K (Ap K (qv 3) Ac) Ac) Ab)) Ab)) (Dj K (n:=2) rfl (Bv (A9 (i:=4) sc_placed_forms.nd rfl (Or.inl rfl)) (Bv (A9 (i:=5) sc_placed_forms.nd rfl (Or.inl rfl)) (Di)))) (Ag (Bq (Cd K Pr P0 P3 Ck (qv 2) (Aa (Ak (Aa (Ah (Ld K) (Ap K (qv 3) Ac) (Ak (Aa (qv 4) Ab))) (Aa (qv 5) Ab))) Ab)))))))))
   (Ag (Au (qv 1))))),?_⟩
  have bg:=big
  walk_at "r"
  refine ⟨Bf,fun pt hpt=>?_⟩
  walk_at "r"
  refine ⟨Bf,fun p0 hp0=>?_⟩
  walk_at "r"
  refine ⟨Bb,fun p1 hp1=>?_⟩
  walk_at "r"
  refine ⟨Br,fun pw hpw=>?_⟩
  walk_at "r"
  have s0:Same (upd H pt (.lst [])) _:=((Same.upd (o:=.tup []) hp0).put (o:=.tup [.ref p0,v]) hp1).put (o:=.lst [.ref p1]) hpw
  have s1:Same (upd (upd H pt (.lst [])) p0 (.tup [])) _:=(Same.upd (o:=.tup [.ref p0,v]) hp1).put (o:=.lst [.ref p1]) hpw
  have s2:=Same.upd (o:=.lst [.ref p1]) hpw
  have sH:=(Same.upd (o:=.lst []) hpt).trans s0
  have ept:=s0 pt _ Ad
  have epw:upd (upd (upd (upd H pt (.lst [])) p0 (.tup [])) p1 (.tup [.ref p0,v])) pw (.lst [.ref p1]) pw=some (.lst [.ref p1]):=Ad
  have ep0:=s1 p0 _ Ad
  have ep1:=s2 p1 _ Ad
  have npw:pt≠pw:=fun z=>by rw [z] at ept;rw [Ad] at ept;cases ept
  have hpw0:H pw=none:=((Same.upd (o:=.lst []) hpt).trans ((Same.upd (o:=.tup []) hp0).put (o:=.tup [.ref p0,v]) hp1)).free hpw
  refine ⟨PlJ K H v t pt pw,⟨_,none,none,none,[],[.ref p1],[],[([],t)],rfl,ept,epw,.nil,Al.nil.snoc ⟨p1,p0,v,rfl,SqT.of ep1,ep0,ht.same sH⟩,by simp [F3],rfl,sH⟩,?_⟩
  rintro m σ' H' ⟨v3,v4,v5,tv,wv,dn,st,rfl,et,ew,al1,al2,hw,rfl,sm⟩
  have hdl:dn.length+Ef st=t.size:=by
   have:=congrArg Sw hw
   rw [O9,Hz] at this
   exact this
  have htl:tv.length=dn.length:=al1.1
  walk_at "r"
  refine Ze1 (SqL.of ew) ?_
  by_cases hwv:wv=[]
  ·subst hwv
   have hst:st=[]:=Rw al2.1.symm
   subst hst
   refine iteF ?_
   walk_at "r"
   rw [Zoq,Qs] at hw
   rw [hw] at al1
   exact q pt tv H' sm hpt et al1
  obtain ⟨wv',tp,st',x,rfl,rfl,al3,hrow⟩:=al2.last hwv
  have hne:(!(wv'++[tp]).isEmpty)=true:=by simp
  rw [hne]
  refine iteT ?_
  obtain ⟨pl,tx⟩:=x
  have hx:(pl,tx)∈walk [] t:=by rw [<- hw,Ow];simp
  have hpl:pl.length<=2000:=by have:=Kb [] t _ hx;simp at this;omega
  have hload:=Zjv st' (pl,tx)
  have hll:=Zku (st'++(B5 pl 0 tx.ps).reverse)
  refine ⟨fun σ2 H2=>∃ m',m' < Ef (st'++[(pl,tx)])/\PlJ K H v t pt pw m' σ2 H2,fun _ _ h=>h,?_⟩
  walk_at "r"
  refine B0 (SqL.of ew) ?_
  refine Ks ew ?_
  have t1:SameT H' (upd H' pw (.lst wv')):=SameT.set ew
  have et2:upd H' pw (.lst wv') pt=some (.lst tv):=by rw [Af npw];exact et
  walk_at "r"
  refine B0 (SqL.of et2) ?_
  walk_at "r"
  refine Cs et2 (by omega) ?_
  have t2:SameT H' (upd (upd H' pw (.lst wv')) pt (.lst (tv++[tp]))):=t1.trans (SameT.set et2)
  have et3:upd (upd H' pw (.lst wv')) pt (.lst (tv++[tp])) pt=some (.lst (tv++[tp])):=Ad
  have ew3:upd (upd H' pw (.lst wv')) pt (.lst (tv++[tp])) pw=some (.lst wv'):=by rw [Af npw.symm,Ad]
  have sm3:Same H (upd (upd H' pw (.lst wv')) pt (.lst (tv++[tp]))):=(sm.over hpw0).over hpt
  revert t2 et3 ew3 sm3
  generalize upd (upd H' pw (.lst wv')) pt (.lst (tv++[tp]))=H3
  intro t2 et3 ew3 sm3
  have hrow3:=RowT.same t2 _ _ hrow
  obtain ⟨a,p,u,rfl,qa,qp,hu⟩:=id hrow3
  cases hu with
  | @mk b pp wd nv n vs ts qb hn qpp hl hch =>
  walk_at "r"
  refine Az qa rfl ?_
  walk_at "r"
  refine Az qb rfl ?_
  walk_at "r"
  refine ⟨pp,vs,rfl,qpp,fun S ys H4 hS s4 hl4 hpairs hS4=>?_⟩
  walk_at "r"
  refine ⟨S,ys,rfl,SqL.of hS4,?_⟩
  have nSp:pw≠S:=B8 ew3 hS
  have nSt:pt≠S:=B8 et3 hS
  have al4:Al (RowT K H4) wv' st':=al3.mono (RowT.same (t2.trans s4.t))
  have hkl:(B5 pl 0 ts).length=ys.length:=by rw [Zcf];omega
  refine Zd9 (K:=K) (a:=S) (xs:=ys) (fun j σ5 H5=>∃(v4 v5:Option V)(wv5:List V),σ5=[some v,some (.ref pt),some (.ref pw),some (.ref a),v4,v5]/\H5 pt=some (.lst (tv++[.ref a]))/\H5 pw=some (.lst wv5)/\H5 S=some (.lst ys)/\Al (RowT K H5) wv5 (st'++((B5 pl 0 ts).drop (ys.length - j)).reverse)/\SameT H4 H5/\Same H H5)
   ⟨_,_,wv',rfl,s4 _ _ et3,s4 _ _ ew3,hS4,by rw [T1,Q4 (by omega)];simpa using al4,SameT.refl _,sm3.trans s4⟩ ?_ ?_ ?_
  ·rintro j σ5 H5 _ ⟨_,_,_,_,_,_,e,_⟩
   exact SqL.of e
  ·rintro i y σ5 H5 hi hy ⟨v4',v5',wv5,rfl,e5t,e5w,e5s,al5,t5,sm5⟩
   obtain ⟨tt,xw,rfl,hxw,htt⟩:=hpairs _ _ hy
   have htt5:=(t5 tt).1 _ htt
   walk_at "r"
   refine Dc (SqT.of htt5) rfl ?_
   walk_at "r"
   refine B0 (SqL.of e5w) ?_
   walk_at "r"
   have T5:SameT H3 H5:=s4.t.trans t5
   refine Az (T5.tup qa) rfl ?_
   walk_at "r"
   refine ⟨Br,fun p6 h6=>?_⟩
   refine N6 (((T5.trans (SameT.new h6)) p).1 _ qp) Ad (by show (Ar pl).length+1<=sizeLine;unfold Ar;rw [Pa];omega) fun r H7 s7 q7=>?_
   walk_at "r"
   refine ⟨Bb,fun p7 h7=>?_⟩
   walk_at "r"
   have s57:Same H5 H7:=(Same.upd h6).trans s7
   have s58:=s57.put (o:=.tup [.ref r,xw]) h7
   have hlw:wv5.length=st'.length+((B5 pl 0 ts).drop (ys.length - i)).length:=by have:=al5.1;simp at this ⊢;omega
   have hlk:(st'++(B5 pl 0 ts).reverse).length=st'.length+ys.length:=by rw [O9,Uw,hkl]
   have hll':(st'++(B5 pl 0 ts).reverse).length<=2000:=by
    have h1:Ef (st'++(B5 pl 0 (Tr.mk wd n ts).ps).reverse) < Ef (st'++[(pl,Tr.mk wd n ts)]):=hload
    have h2:(st'++(B5 pl 0 (Tr.mk wd n ts).ps).reverse).length<=Ef (st'++(B5 pl 0 (Tr.mk wd n ts).ps).reverse):=hll
    have h3:(Tr.mk wd n ts).ps=ts:=rfl
    rw [h3] at h1 h2
    omega
   have hdr:((B5 pl 0 ts).drop (ys.length - i)).length<=ys.length:=by rw [Q0];omega
   refine Cs (s58 _ _ e5w) (by omega) ?_
   have e8w:=s58 _ _ e5w
   have t9:SameT H5 (upd (upd H7 p7 (.tup [.ref r,xw])) pw (.lst (wv5++[.ref p7]))):=s58.t.trans (SameT.set e8w)
   obtain ⟨tk,htk,hat⟩:∃ tk,ts[ys.length - 1 - i]?=some tk/\TrAt K H3 xw tk:=by
    have hj:=(Ph.mp hxw).1
    have hj':ys.length - 1 - i < ts.length:=by omega
    exact ⟨_,O5 hj',hch _ _ _ hxw (O5 hj')⟩
   have hkid:(B5 pl 0 ts)[ys.length - 1 - i]?=some (pl++[ys.length - 1 - i],tk):=by
    rw [Zd4,htk]
    simp
   refine ⟨_,_,wv5++[.ref p7],rfl,?_,Ad,?_,?_,t5.trans t9,(sm5.trans s58).over hpw0⟩
   ·rw [Af npw];exact s58 _ _ e5t
   ·rw [Af nSp.symm];exact s58 _ _ e5s
   ·rw [Zph hkl hi hkid,<- Q9]
    refine (al5.mono (RowT.same t9)).snoc ⟨p7,r,xw,rfl,(SameT.set e8w).tup (SqT.of Ad),?_,hat.sameT (T5.trans t9)⟩
    have q9:=(((SameT.new (o:=.tup [.ref r,xw]) h7).trans (SameT.set (o:=.lst (wv5++[.ref p7])) e8w)) r).1 _ q7
    have e:Ar (pl++[ys.length - 1 - i])=Ar pl++[.int ((ys.length - 1 - i:Nat):Int)]:=by unfold Ar;rw [P4];rfl
    show upd _ _ _ r=some (.tup (Ar (pl++[ys.length - 1 - i])))
    rw [e]
    exact q9
  ·rintro σ5 H5 ⟨v4',v5',wv5,rfl,e5t,e5w,e5s,al5,t5,sm5⟩
   rw [Rt,List.drop_zero] at al5
   refine ⟨_,hload,_,_,_,tv++[.ref a],wv5,dn++[(pl,.mk wd n ts)],_,rfl,e5t,e5w,?_,al5,?_,rfl,sm5⟩
   ·exact (al1.mono (RowT.same (t2.trans (s4.t.trans t5)))).snoc (RowT.same (s4.t.trans t5) _ _ hrow3)
   ·rw [<- hw,Ow,Q9]
    rfl
noncomputable def Cu (t:Tr)(pl:List Nat):Option (Str×Dt):=(B6 (walk [] t) pl).map fun u=>(u.wd,K0 u)
theorem Jw {H:Hp}{a C dx:Addr}{fs:List (Str×V)}(ha:H a=some (.ins C dx fs))(o:HO):SameT H (upd H a o):=fun b=>⟨fun xs h=>by
 have:b≠a:=fun z=>by rw [z,ha] at h;cases h
 rw [Af this];exact h,fun o u h=>by
 have:b≠a:=fun z=>by rw [z,ha] at h;cases h
 rw [Af this];exact h⟩
noncomputable def Zam (K:O1)(C:Addr):Sp:=fun vs H Q _=>∃(m dx:Addr)(HB:Hp)(tv:V)(t:Tr)(n:Int),vs=[.ref m,tv,.int n]/\n<=500/\HB m=none/\HB dx=none/\dx≠m/\H=upd (upd HB dx (.own m)) m (.ins C dx [])/\TrAt K HB tv t/\t.size<=2000 /\
 ∀ H' L kvs,L.m=m->MAt K HB C kvs L H' ⟨[],[],[],n⟩->FormsAt K H' kvs (Cu t)->Q .non H'
theorem Zlu:A2 ["self", "tree", "steps"] ["self", "tree", "steps"] (Ay Kr):=by walk_at "sc"
theorem Jm {K:O1}{ta tv:TE}{f:Str}{D:Ends}{σ:St}{H:Hp}(h:tv σ H fun y H1=>ta σ H1 fun x H2=>∃ a C dx fs,x=.ref a/\H2 a=some (.ins C dx fs)/\Cls K C/\NoAttr K C f/\fs.length < 1000/\D.nx σ (upd H2 a (.ins C dx (Ai f y fs)))):Lv K ta tv f D σ H:=h
theorem Zpt {C:Addr}{f:Addr}{fd:FuncData}(F:Fun K "__init__" "Machine.__init__" Kr f fd)(T:Txt K mg)(O:Mc K C)(C_placed_forms:A4 P w K mg base 1 "placed_forms" ["tree"] (Zfh K))(MS_:Cc Ao P w K mg base 1 C "make_steps" ["self", "many"] (Zbj K C)):FnOk P w K mg base Ao 2 f fd ["self", "tree", "steps"] (Zam K C):=by
 refine F.okq Zlu (fun vs H Q E h=>?_) (fun cdv A outer s H vs Q E hr h=>?_)
 ·obtain ⟨m,dx,HB,tv,t,n,rfl,_⟩:=h
  rfl
 ·obtain ⟨m,dx,HB,tv,t,n,rfl,hn5,bm,bd,ndm,hH,ht,hz,q⟩:=h
  refine ⟨_,Ae (Jb K (qv 0) (Em (Zgj K hr.u200 rfl) (by rfl) T.dict (by decide +kernel) (Aa (A1 C_placed_forms hr.m (Aa (qv 1) Ab)) Ab)))
   (Ae (Jb K (qv 0) (Ba Ab))
   (Ae (Jb K (qv 0) (Ba Ab))
   (Ae (Jb K (qv 0) (Ba Ab))
   (Ae (Jb K (qv 0) Ac)
   (Ag (Bq (Co (k:=1) K Ao ["self", "many"] (qv 0) hr.m Cz (Aa (qv 2) Ab)))))))),?_⟩
  have bg:=big
  have sB:Same HB H:=by
   rw [hH]
   exact (Same.upd bd).trans (Same.upd (by rw [Af (Pc ndm)];exact bm))
  have im:H m=some (.ins C dx []):=by rw [hH];exact Ad
  clear hH
  walk_at "r"
  refine Jm ?_
  walk_at "r"
  refine ⟨tv,t,rfl,ht.same sB,hz,fun p rows H1 s1 hp1 e1 al1=>?_⟩
  walk_at "r"
  obtain ⟨kvs,alk,look⟩:=Zkt (K:=K) (H:=H1) rows _ al1
  refine ⟨p,rows,rfl,SqL.of e1,.inr ⟨kvs,alk,fun fd hfd=>?_⟩⟩
  have s2:Same H1 (upd H1 fd (.dT (Bs [] kvs))):=Same.upd hfd
  have e2:upd H1 fd (.dT (Bs [] kvs)) fd=some (.dT (Bs [] kvs)):=Ad
  have s02:=s1.trans s2
  have FA:FormsAt K (upd H1 fd (.dT (Bs [] kvs))) (Bs [] kvs) (Cu t):=by
   intro pl wd d hs
   unfold Cu at hs
   obtain ⟨u,hu,e⟩:=R3.mp hs
   cases e
   rcases look pl with ⟨_,l2⟩ | ⟨v,u',l1,l2,tr⟩
   ·rw [hu] at l2;cases l2
   ·rw [hu] at l2
    cases l2
    have hm:=Kb [] t _ (Zlb hu)
    simp only [Vc,Vo] at hm
    refine ⟨by omega,v,u.ps,by rw [Zbg];exact l1,?_⟩
    rw [<- Zp4]
    exact tr.same s2
  have nfm:fd≠m:=fun z=>by rw [z,s1 _ _ im] at hfd;cases hfd
  revert s02 e2 FA
  generalize upd H1 fd (.dT (Bs [] kvs))=H2
  intro e2 s02 FA
  generalize hkv:Bs [] kvs=kv at *
  have sB2:=sB.trans s02
  have im2:=s02 _ _ im
  refine ⟨_,rfl,m,C,dx,_,rfl,im2,O.cl,O.nf,by show 0 < 1000;decide,?_⟩
  have FA3:=FA.same (Jw im2 (.ins C dx (Ai "forms" (.ref fd) [])))
  have sB3:Same HB (upd H2 m (.ins C dx (Ai "forms" (.ref fd) []))):=sB2.over bm
  have im3:upd H2 m (.ins C dx (Ai "forms" (.ref fd) [])) m=some (.ins C dx (Ai "forms" (.ref fd) [])):=Ad
  have ef3:upd H2 m (.ins C dx (Ai "forms" (.ref fd) [])) fd=some (.dT kv):=(Af nfm).trans e2
  revert FA3 sB3 im3 ef3
  generalize upd H2 m (.ins C dx (Ai "forms" (.ref fd) []))=H3
  intro FA3 sB3 im3 ef3
  walk_at "r"
  refine Jm ?_
  walk_at "r"
  refine ⟨Bf,fun rd hrd=>?_⟩
  have s4:Same H3 (upd H3 rd (.lst [])):=Same.upd hrd
  have er4:upd H3 rd (.lst []) rd=some (.lst []):=Ad
  have nrm:rd≠m:=fun z=>by rw [z,im3] at hrd;cases hrd
  have nrf:fd≠rd:=fun z=>by rw [<- z,ef3] at hrd;cases hrd
  have br:HB rd=none:=sB3.free hrd
  revert s4 er4
  generalize upd H3 rd (.lst [])=H4
  intro s4 er4
  have FA4:=FA3.same s4.t
  have sB4:=sB3.trans s4
  have im4:=s4 _ _ im3
  have ef4:=s4 _ _ ef3
  refine ⟨_,rfl,m,C,dx,_,rfl,im4,O.cl,O.nr,by show 1 < 1000;decide,?_⟩
  have FA5:=FA4.same (Jw im4 (.ins C dx (Ai "rows" (.ref rd) (Ai "forms" (.ref fd) []))))
  have sB5:Same HB (upd H4 m (.ins C dx (Ai "rows" (.ref rd) (Ai "forms" (.ref fd) [])))):=sB4.over bm
  have im5:upd H4 m (.ins C dx (Ai "rows" (.ref rd) (Ai "forms" (.ref fd) []))) m=some (.ins C dx (Ai "rows" (.ref rd) (Ai "forms" (.ref fd) []))):=Ad
  have ef5:upd H4 m (.ins C dx (Ai "rows" (.ref rd) (Ai "forms" (.ref fd) []))) fd=some (.dT kv):=(Af nfm).trans ef4
  have er5:upd H4 m (.ins C dx (Ai "rows" (.ref rd) (Ai "forms" (.ref fd) []))) rd=some (.lst []):=(Af nrm).trans er4
  revert FA5 sB5 im5 ef5 er5
  generalize upd H4 m (.ins C dx (Ai "rows" (.ref rd) (Ai "forms" (.ref fd) [])))=H5
  intro FA5 sB5 im5 ef5 er5
  walk_at "r"
  refine Jm ?_
  walk_at "r"
  refine ⟨Bf,fun wd hwd=>?_⟩
  have s6:Same H5 (upd H5 wd (.lst [])):=Same.upd hwd
  have ew6:upd H5 wd (.lst []) wd=some (.lst []):=Ad
  have nwm:wd≠m:=fun z=>by rw [z,im5] at hwd;cases hwd
  have nwr:rd≠wd:=fun z=>by rw [<- z,er5] at hwd;cases hwd
  have bw:HB wd=none:=sB5.free hwd
  revert s6 ew6
  generalize upd H5 wd (.lst [])=H6
  intro s6 ew6
  have FA6:=FA5.same s6.t
  have sB6:=sB5.trans s6
  have im6:=s6 _ _ im5
  have ef6:=s6 _ _ ef5
  have er6:=s6 _ _ er5
  refine ⟨_,rfl,m,C,dx,_,rfl,im6,O.cl,O.nw,by show 2 < 1000;decide,?_⟩
  have FA7:=FA6.same (Jw im6 (.ins C dx (Ai "waiting" (.ref wd) (Ai "rows" (.ref rd) (Ai "forms" (.ref fd) [])))))
  have sB7:Same HB (upd H6 m (.ins C dx (Ai "waiting" (.ref wd) (Ai "rows" (.ref rd) (Ai "forms" (.ref fd) []))))):=sB6.over bm
  have im7:upd H6 m (.ins C dx (Ai "waiting" (.ref wd) (Ai "rows" (.ref rd) (Ai "forms" (.ref fd) [])))) m=some (.ins C dx (Ai "waiting" (.ref wd) (Ai "rows" (.ref rd) (Ai "forms" (.ref fd) [])))):=Ad
  have ef7:upd H6 m (.ins C dx (Ai "waiting" (.ref wd) (Ai "rows" (.ref rd) (Ai "forms" (.ref fd) [])))) fd=some (.dT kv):=(Af nfm).trans ef6
  have er7:upd H6 m (.ins C dx (Ai "waiting" (.ref wd) (Ai "rows" (.ref rd) (Ai "forms" (.ref fd) [])))) rd=some (.lst []):=(Af nrm).trans er6
  have ew7:upd H6 m (.ins C dx (Ai "waiting" (.ref wd) (Ai "rows" (.ref rd) (Ai "forms" (.ref fd) [])))) wd=some (.lst []):=(Af nwm).trans ew6
  revert FA7 sB7 im7 ef7 er7 ew7
  generalize upd H6 m (.ins C dx (Ai "waiting" (.ref wd) (Ai "rows" (.ref rd) (Ai "forms" (.ref fd) []))))=H7
  intro FA7 sB7 im7 ef7 er7 ew7
  walk_at "r"
  refine Jm ?_
  walk_at "r"
  refine ⟨Bf,fun td htd=>?_⟩
  have s8:Same H7 (upd H7 td (.lst [])):=Same.upd htd
  have et8:upd H7 td (.lst []) td=some (.lst []):=Ad
  have ntm:td≠m:=fun z=>by rw [z,im7] at htd;cases htd
  have ntr:rd≠td:=fun z=>by rw [<- z,er7] at htd;cases htd
  have ntw:wd≠td:=fun z=>by rw [<- z,ew7] at htd;cases htd
  have bt:HB td=none:=sB7.free htd
  revert s8 et8
  generalize upd H7 td (.lst [])=H8
  intro s8 et8
  have FA8:=FA7.same s8.t
  have sB8:=sB7.trans s8
  have im8:=s8 _ _ im7
  have ef8:=s8 _ _ ef7
  have er8:=s8 _ _ er7
  have ew8:=s8 _ _ ew7
  refine ⟨_,rfl,m,C,dx,_,rfl,im8,O.cl,O.nt,by show 3 < 1000;decide,?_⟩
  have FA9:=FA8.same (Jw im8 (.ins C dx (Ai "things" (.ref td) (Ai "waiting" (.ref wd) (Ai "rows" (.ref rd) (Ai "forms" (.ref fd) []))))))
  have sB9:Same HB (upd H8 m (.ins C dx (Ai "things" (.ref td) (Ai "waiting" (.ref wd) (Ai "rows" (.ref rd) (Ai "forms" (.ref fd) [])))))):=sB8.over bm
  have im9:upd H8 m (.ins C dx (Ai "things" (.ref td) (Ai "waiting" (.ref wd) (Ai "rows" (.ref rd) (Ai "forms" (.ref fd) []))))) m=some (.ins C dx (Ai "things" (.ref td) (Ai "waiting" (.ref wd) (Ai "rows" (.ref rd) (Ai "forms" (.ref fd) []))))):=Ad
  have ef9:upd H8 m (.ins C dx (Ai "things" (.ref td) (Ai "waiting" (.ref wd) (Ai "rows" (.ref rd) (Ai "forms" (.ref fd) []))))) fd=some (.dT kv):=(Af nfm).trans ef8
  have er9:upd H8 m (.ins C dx (Ai "things" (.ref td) (Ai "waiting" (.ref wd) (Ai "rows" (.ref rd) (Ai "forms" (.ref fd) []))))) rd=some (.lst []):=(Af nrm).trans er8
  have ew9:upd H8 m (.ins C dx (Ai "things" (.ref td) (Ai "waiting" (.ref wd) (Ai "rows" (.ref rd) (Ai "forms" (.ref fd) []))))) wd=some (.lst []):=(Af nwm).trans ew8
  have et9:upd H8 m (.ins C dx (Ai "things" (.ref td) (Ai "waiting" (.ref wd) (Ai "rows" (.ref rd) (Ai "forms" (.ref fd) []))))) td=some (.lst []):=(Af ntm).trans et8
  revert FA9 sB9 im9 ef9 er9 ew9 et9
  generalize upd H8 m (.ins C dx (Ai "things" (.ref td) (Ai "waiting" (.ref wd) (Ai "rows" (.ref rd) (Ai "forms" (.ref fd) [])))))=H9
  intro FA9 sB9 im9 ef9 er9 ew9 et9
  walk_at "r"
  refine Jm ?_
  walk_at "r"
  refine ⟨m,C,dx,_,rfl,im9,O.cl,O.ns,by show 4 < 1000;decide,?_⟩
  obtain ⟨L,hL⟩:∃ L:Ml,L=⟨m,dx,fd,rd,wd,td⟩:=⟨_,rfl⟩
  have M:MAt K HB C kv L (upd H9 m (.ins C dx (L.fs 0))) ⟨[],[],[],0⟩:=by
   subst hL
   exact ⟨sB9.over bm,bm,br,bw,bt,Ad,(Af nfm).trans ef9,nwr,ntr,ntw,⟨[],(Af nrm).trans er9,.nil,SepR.nil⟩,⟨[],(Af nwm).trans ew9,.nil⟩,⟨[],(Af ntm).trans et9,.nil⟩⟩
  have FA10:=FA9.same (Jw im9 (.ins C dx (L.fs 0)))
  rw [show Ai "steps" (.int 0) (Ai "things" (.ref td) (Ai "waiting" (.ref wd) (Ai "rows" (.ref rd) (Ai "forms" (.ref fd) []))))=L.fs 0 by subst hL;rfl]
  revert M FA10
  generalize upd H9 m (.ins C dx (L.fs 0))=H10
  intro M FA10
  have hm:L.m=m:=by rw [hL]
  walk_at "r"
  refine ⟨_,rfl,m,C,L.dx,_,_,rfl,(by rw [<- hm];exact M.ins),(Cq L 0).1,MS_,?_⟩
  walk_at "r"
  refine ⟨n,HB,kv,L,_,by rw [hm],M,by show (0:Int)+n<=500;omega,fun H' e' M'=>?_⟩
  walk_at "r"
  have M':MAt K HB C kv L H' ⟨[],[],[],(0:Int)+n⟩:=M'
  rw [Int.zero_add] at M'
  exact q H' L kv hm M' (FA10.same (M.t e'))
end
open K19
section
variable {P:Program}{w:World}{K:O1}{mg:Str->Option Value}{base:Heap}
noncomputable def Zg6 (K:O1):Sp:=fun vs H Q _=>∃(v u:V)(w:Str)(n:Dt)(ps:List Tr)(tu:Tr)(k:Nat),vs=[v,.int (k:Nat),u]/\TrAt K H v (.mk w n ps)/\TrAt K H u tu/\k < ps.length/\ps.length<=1000 /\
 ∀(v':V)(H':Hp),Same H H'->TrAt K H' v' (.mk w n (ps.set k tu))->Q v' H'
theorem Zhv {α:Type}{xs:List α}{k:Nat}{x:α}(h:k < xs.length):xs.take k++[x]++xs.drop (k+1)=xs.set k x:=by
 rw [List.set_eq_take_append_cons_drop,if_pos h,Q9]
 rfl
theorem Zf5:A2 ["form", "number", "part", "parts"] ["form", "number", "part"] (Ay La):=by walk_at "sc"
theorem Zr3 {f:Addr}{fd:FuncData}(F:Fun K "with_part" "with_part" La f fd)(T:Txt K mg):FnOk P w K mg base Ao 1 f fd ["form", "number", "part"] (Zg6 K):=by
 refine F.okq Zf5 (fun vs H Q E h=>?_) (fun cdv A outer s H vs Q E hr h=>?_)
 ·obtain ⟨v,u,w,n,ps,tu,k,rfl,_⟩:=h
  rfl
 ·obtain ⟨v,u,w,n,ps,tu,k,rfl,ht,hu,hk,hl,q⟩:=h
  refine ⟨_,Ae (Aq 3 Zf5 (Ap K (qv 0) Ac))
   (Ag (Au (Ak (Aa (Ap K (qv 0) Ac) (Aa (Ap K (qv 0) Ac) (Aa (Ah (Bc K) (Ah (Bc K) (Dm (Ib K) (qv 3) (Dn) (C6 (qv 1))) (Ak (Aa (qv 2) Ab))) (Dm (Ib K) (qv 3) (C6 (Ah (Bc K) (qv 1) Ac)) (Dn))) Ab)))))),?_⟩
  have bg:=big
  cases ht with
  | @mk b pp _ nv _ us _ qb hn qp l hch =>
  walk_at "r"
  refine Az qb rfl ?_
  walk_at "r"
  refine Az qb rfl ?_
  walk_at "r"
  refine Az qb rfl ?_
  walk_at "r"
  refine Hv qp fun r1 H1 s1 q1=>?_
  rw [Zaw] at q1
  walk_at "r"
  refine ⟨Br,fun p2 h2=>?_⟩
  have s2:=Same.upd (o:=.tup [u]) h2
  refine Dr (s2.tup q1) (SqT.of Ad) (by rw [Pq];show _+1<=sizeLine;omega) fun r3 H3 s3 q3=>?_
  have s13:=s1.trans (s2.trans s3)
  walk_at "r"
  refine Hv (s13.tup qp) fun r4 H4 s4 q4=>?_
  have ek:(k:Int)+1=((k+1:Nat):Int):=by omega
  rw [ek,My] at q4
  refine Dr (s4.tup q3) q4 (by rw [O9,Pq,Q0];show _+1+_<=sizeLine;omega) fun r5 H5 s5 q5=>?_
  rw [Zhv (by omega)] at q5
  walk_at "r"
  refine ⟨Bg,fun p6 h6=>?_⟩
  have s6:=Same.upd (o:=.tup [.str w,nv,.ref r5]) h6
  have sm:=s13.trans (s4.trans (s5.trans s6))
  refine q (.ref p6) _ sm (.mk (SqT.of Ad) (hn.same sm.t) (s6.tup q5) (by rw [List.length_set,List.length_set];exact l) fun j x y g1 g2=>?_)
  by_cases e:k=j
  ·subst e
   rw [Tc (by omega)] at g1 g2
   cases g1
   cases g2
   exact hu.same sm
  ·rw [Ut e] at g1 g2
   exact (hch j x y g1 g2).same sm
noncomputable def Zf6 (K:O1):Sp:=fun vs H Q _=>∃(v u:V)(t tu:Tr)(p:Addr)(pl:List Nat),vs=[v,.ref p,u]/\TrAt K H v t/\SqT K H p (Ar pl)/\Sub t pl/\pl.length<=1000/\t.size<=1000/\TrAt K H u tu /\
 ∀(v':V)(H':Hp),Same H H'->TrAt K H' v' (Bx t pl tu)->Q v' H'
theorem Znj {t:Tr}{pl:List Nat}(s:Sub t pl):∀ u∈A8 t pl,u.size<=t.size:=by
 induction s with
 | nil t=>intro u hu;cases t;rw [A8,Qe] at hu;rw [hu];exact O4 _
 | cons hj _ ih =>
  intro u hu
  rw [F7 hj] at hu
  rcases Pb.mp hu with rfl | hu
  ·exact O4 _
  ·have:=ih u hu
   have:=Za9 hj
   rw [Tr.size]
   omega
theorem sc_with_at:A2 ["tree", "place", "form", "made", "number", "above"] ["tree", "place", "form"] (Ay Kq):=by walk_at "sc"
theorem Zqh {f:Addr}{fd:FuncData}(F:Fun K "with_at" "with_at" Kq f fd)(T:Txt K mg)(C_forms_down_to:A4 P w K mg base 3 "forms_down_to" ["tree", "place"] (Zbv K))(C_with_part:A4 P w K mg base 1 "with_part" ["form", "number", "part"] (Zg6 K)):FnOk P w K mg base Ao 4 f fd ["tree", "place", "form"] (Zf6 K):=by
 refine F.okq sc_with_at (fun vs H Q E h=>?_) (fun cdv A outer s H vs Q E hr h=>?_)
 ·obtain ⟨v,u,t,tu,p,pl,rfl,_⟩:=h
  rfl
 ·obtain ⟨v,u,t,tu,p,pl,rfl,ht,hp,hs,hl,hz,hu,q⟩:=h
  refine ⟨_,Ae (Aq 3 sc_with_at (qv 2))
   (Ae (En Re rfl (Zeb K rfl T.reversed (Aa (Zou K (by rfl) T.list (by rfl) T.zip (Aa (qv 1) (Aa (A1 C_forms_down_to hr.m (Aa (qv 0) (Aa (qv 1) Ab))) Ab))) Ab)) (Dj K (n:=2) rfl (Bv (A9 (i:=4) sc_with_at.nd rfl (Or.inl rfl)) (Bv (A9 (i:=5) sc_with_at.nd rfl (Or.inl rfl)) (Di)))) (Ag (Aq 3 sc_with_at (A1 C_with_part hr.m (Aa (qv 5) (Aa (qv 4) (Aa (qv 3) Ab)))))))
   (Ag (Au (qv 3)))),?_⟩
  have hpl:=Ia hs
  walk_at "r"
  refine ⟨v,t,p,pl,rfl,ht,hp,hs,hl,fun q1 ws H1 hq1 s1 e1 al=>?_⟩
  walk_at "r"
  refine ⟨p,q1,_,ws,rfl,s1.tup hp,SqL.of e1,fun S zs H2 hS s2 hzl hpairs hS2=>?_⟩
  have hzl:zs.length=pl.length:=by rw [hzl,Ce,al.1,hpl];omega
  walk_at "r"
  refine ⟨S,zs,rfl,SqL.of hS2,?_⟩
  have s12:=s1.trans s2
  have hlastp:(A8 t pl)[pl.length]?=some ((A8 t pl)[pl.length]'(by omega)):=O5 (by omega)
  refine Zd9 (K:=K) (a:=S) (xs:=zs) (fun j σ' H'=>∃ w4 w5 m tm,σ'=[some v,some (.ref p),some u,some m,w4,w5]/\(A8 t pl)[pl.length - j]?=some tm/\TrAt K H' m (Bx tm (pl.drop (pl.length - j)) tu)/\Same H2 H') ⟨none,none,u,_,rfl,hlastp,by rw [T1,Q4 (O4 _),N4];exact hu.same s12,Same.refl _⟩ ?_ ?_ ?_
  ·rintro j σ' H' _ ⟨_,_,_,_,_,_,_,sm⟩
   exact SqL.of (sm _ _ hS2)
  ·rintro j z σ' H' hj hz1 ⟨w4,w5,m,tm,rfl,htm,hm,sm⟩
   obtain ⟨tt,x,y,rfl,hx,hy,htt⟩:=hpairs _ _ hz1
   obtain ⟨k,rfl,hk⟩:=Zb8 hx
   obtain ⟨w',n',ps,u',a1,a2,a3⟩:=Mp hs _ k hk
   rw [hzl] at hk a1 a3 hy hj
   obtain ⟨ty,hty,hat⟩:=al.get hy
   rw [a1] at hty
   cases hty
   have e2:pl.length - 1 - j+1=pl.length - j:=by omega
   rw [e2,htm] at a3
   cases a3
   have hps:ps.length<=1000:=by
    have:=Znj hs _ (Qr a1)
    rw [Tr.size] at this
    have:=N7 ps
    omega
   walk_at "r"
   refine Dc (SqT.of (sm _ _ htt)) rfl ?_
   walk_at "r"
   refine ⟨y,m,w',n',ps,_,k,rfl,hat.same (s2.trans sm),hm,(Ph.mp a2).1,hps,fun v' H3 s3 hv'=>?_⟩
   walk_at "r"
   have e3:pl.length - (j+1)=pl.length - 1 - j:=by omega
   refine ⟨_,_,v',_,rfl,by rw [e3];exact a1,?_,sm.trans s3⟩
   rw [e3,Zln hs _ k w' n' ps tm hk a1 (by rw [e2];exact htm),e2]
   exact hv'
  ·rintro σ' H' ⟨w4,w5,m,tm,rfl,htm,hm,sm⟩
   rw [hzl,Rt] at htm hm
   rw [Md] at htm
   cases htm
   walk_at "r"
   exact q m H' (s12.trans sm) hm
open K19 in
inductive Er (sub:List Nat->Option (Str×Dt))(fl:List Nat):List Rx->List (Str×V)->MS->Option (List (Str×V)×MS)->Prop where
 | nil {bc:List (Str×V)} {S:MS}:Er sub fl [] bc S (some (bc,S))
 | cons {r:Rx} {rs:List Rx} {bc:List (Str×V)} {S S1:MS} {x:Str×V} {o:Option (List (Str×V)×MS)} (hs:S.rows.length < 9000) (ht:S.things.length < 8000) (ok:Ji bc.length r) (h1:RowG sub fl bc r S S1 x) (h2:Er sub fl rs (bc++[x]) S1 o):Er sub fl (r::rs) bc S o
 | late {r:Rx} {rs:List Rx} {bc:List (Str×V)} {S:MS} (hs:S.rows.length < 9000) (ht:S.things.length < 8000) (ok:Ji bc.length r) (h1:RowO sub fl bc r S none):Er sub fl (r::rs) bc S none
theorem RunM.wait {sub:List Nat->Option (Str×Dt)}{n:Nat}{S S':MS}(h:RunM sub n S S'):S'.wait=[]:=by
 induction h with
 | nil h=>exact h
 | cons _ _ _ ih=>exact ih
theorem RowG.wait {sub:List Nat->Option (Str×Dt)}{fl:List Nat}{bc:List (Str×V)}{r:Rx}{S S':MS}{x:Str×V}(h:RowG sub fl bc r S S' x)(hw:S.wait=[]):S'.wait=[]:=by
 cases h with
 | fill _ R _=>exact R.wait
 | parts _ _ _ R _=>exact R.wait
 | new _ _ _=>exact hw
theorem Gn (H:Hp)(b:Addr)(o o':HO):upd (upd H b o) b o'=upd H b o':=by
 funext c
 by_cases e:c=b
 ·rw [e,Ad,Ad]
 ·rw [Af e,Af e,Af e]
theorem _root_.L2.MAt.re {K:O1}{HB H:Hp}{C:Addr}{kvs:List (List An×V)}{L:Ml}{S:MS}(M:MAt K HB C kvs L H S){b:Addr}{xs:List V}(hb:H b=none\/∃ ys,HB b=some (.lst ys))(hw:S.wait=[]):MAt K (upd HB b (.lst xs)) C kvs L (upd H b (.lst xs)) S:=by
 obtain ⟨rv,er,ar,sp⟩:=M.rows
 obtain ⟨wv,ew,aw⟩:=M.wait
 obtain ⟨tv,et,att⟩:=M.things
 have ewv:wv=[]:=Rw (by rw [aw.1,hw];rfl)
 subst ewv
 have n1:L.m≠b:=by
  rintro rfl
  rcases hb with h | ⟨ys,h⟩
  ·rw [M.ins] at h;cases h
  ·rw [M.nm] at h;cases h
 have n2:L.rd≠b:=by
  rintro rfl
  rcases hb with h | ⟨ys,h⟩
  ·rw [er] at h;cases h
  ·rw [M.nr] at h;cases h
 have n3:L.wd≠b:=by
  rintro rfl
  rcases hb with h | ⟨ys,h⟩
  ·rw [ew] at h;cases h
  ·rw [M.nw] at h;cases h
 have n4:L.td≠b:=by
  rintro rfl
  rcases hb with h | ⟨ys,h⟩
  ·rw [et] at h;cases h
  ·rw [M.nt] at h;cases h
 have n5:L.fd≠b:=by
  rintro rfl
  rcases hb with h | ⟨ys,h⟩
  ·rw [M.frm] at h;cases h
  ·have:=M.frm;rw [M.base _ _ h] at this;cases this
 have sA:SameA (fun c=>L.A c\/upd HB b (.lst xs) c≠none) H (upd H b (.lst xs)):=by
  rcases hb with h | ⟨ys,h⟩
  ·exact (Same.upd h).a
  ·exact SameA.set (M.base _ _ h) (.inr (by rw [Ad];simp))
 have mo:∀ c,(L.A c\/upd HB b (.lst xs) c≠none)->H c≠none->(L.A c\/HB c≠none):=by
  intro c hc hn
  rcases hc with z | z
  ·exact .inl z
  ·refine .inr ?_
   by_cases e:c=b
   ·rcases hb with h | ⟨ys,h⟩
    ·rw [e,h] at hn;exact absurd rfl hn
    ·rw [e,h];simp
   ·rw [Af e] at z;exact z
 refine ⟨fun c o h=>?_,(Af n1).trans M.nm,(Af n2).trans M.nr,(Af n3).trans M.nw,(Af n4).trans M.nt,(Af n1).trans M.ins,(Af n5).trans M.frm,M.rw,M.rt,M.wt,⟨rv,(Af n2).trans er,(ar.mono (RwX.mono mo)).mono (RwX.same sA),(sp.mono mo).same sA⟩,⟨[],(Af n3).trans ew,by rw [hw];exact .nil⟩,⟨tv,(Af n4).trans et,att.mono (ThAt.same sA.1)⟩⟩
 by_cases e:c=b
 ·rw [e] at h ⊢
  rw [Ad] at h ⊢
  exact h
 ·rw [Af e] at h ⊢
  exact M.base _ _ h
open K19 in
noncomputable def Kz (K:O1)(TL:Addr):Sp:=fun vs H Q E=>∃(tv fv av:V)(t tf:Tr)(p q0 rd:Addr)(fl:List Nat)(d:Dt)(gs:List Tr)(n:Int)(rv:List V)(rs:List Rx)(xa:Str×V)(oo:Option (List (Str×V)×MS)),vs=[tv,.ref q0,.ref p,fv]/\TrAt K H tv t/\t.size<=1000/\SqT K H p (Ar fl)/\Sub t fl/\fl.length<=1000/\(A8 t fl)[fl.length]?=some (.mk "gap" d gs)/\TrAt K H fv tf/\(Bx t fl tf).size<=2000/\SqT K H q0 [av,.ref rd,.int n]/\n<=500/\H rd=some (.lst rv)/\Al (RwX K (fun b=>b=rd) H) rv rs/\rs.length<=9000/\ThAt K H av xa/\Er (Cu (Bx t fl tf)) fl rs [] ⟨[],[],[],n⟩ oo /\
 (∀ bc S',oo=some (bc,S')->J4 bc.length xa/\∀(r' rd':Addr)(av':V)(rv':List V)(H':Hp),Same H H'->SqT K H' r' [av',.ref rd',.int S'.steps]->ThAt K H' av' (Dp bc xa)->H' rd'=some (.lst rv')->Al (RwX K (fun b=>b=rd'\/H b≠none) H') rv' S'.rows->SepR K (fun b=>b=rd'\/H b≠none) H' rv' S'.rows->H rd'=none->Q (.ref r') H')/\(oo=none->∀ H',Same H H'->E (.ref TL) none H')
theorem sc_go_on:A2 ["tree", "record", "place", "form", "answer", "rows", "steps", "machine", "became", "row"] ["tree", "record", "place", "form"] (Ay Hj):=by walk_at "sc"
open K19 in
theorem Zrm {C TL:Addr}{f:Addr}{fd:FuncData}(F:Fun K "go_on" "go_on" Hj f fd)(T:Txt K mg)(O:Mc K C)(C_refuse_no_gap:A4 P w K mg base 1 "refuse_no_gap" ["form"] (Zgt K))(C_form_at:A4 P w K mg base 4 "form_at" ["tree", "place"] (Zbl K))(C_with_at:A4 P w K mg base 4 "with_at" ["tree", "place", "form"] (Zf6 K))(C_thing_now:A4 P w K mg base 1 "thing_now" ["thing", "became"] (Zbb K))(C_thing_of_row:Es P w K mg base 7 "thing_of_row" ["machine", "row", "filled", "became"] (Zg2 K C TL))(MK_Machine:Zaq Ao P w K mg base 2 "Machine" C ["self", "tree", "steps"] (Zam K C)):FnOk P w K mg base (Bd P w) 8 f fd ["tree", "record", "place", "form"] (Kz K TL):=by
 refine F.okx sc_go_on (fun vs H Q E h=>?_) (fun cdv A outer s H vs Q E hr h=>?_)
 ·obtain ⟨tv,fv,av,t,tf,p,q0,rd,fl,d,gs,n,rv,rs,xa,oo,rfl,_⟩:=h
  rfl
 ·obtain ⟨tv,fv,av,t,tf,p,q0,rd,fl,d,gs,n,rv,rs,xa,oo,rfl,ht,hz,hp,hs,hl,hg,hf,hz2,hq,hn,hrd,alr,hrl,hav,G,q,qL⟩:=h
  refine ⟨_,Ae (Bq (A1 C_refuse_no_gap hr.m (Aa (A1 C_form_at hr.m (Aa (qv 0) (Aa (qv 2) Ab))) Ab)))
   (Ae (Fp (qv 1) (Dj K (n:=3) rfl (Bv (A9 (i:=4) sc_go_on.nd rfl (Or.inl rfl)) (Bv (A9 (i:=5) sc_go_on.nd rfl (Or.inl rfl)) (Bv (A9 (i:=6) sc_go_on.nd rfl (Or.inl rfl)) (Di))))))
   (Ae (Aq 7 sc_go_on (Zjy MK_Machine hr.m Cz (Aa (A1 C_with_at hr.m (Aa (qv 0) (Aa (qv 2) (Aa (qv 3) Ab)))) (Aa (qv 6) Ab))))
   (Ae (Aq 8 sc_go_on (Ba Ab))
   (Ae (En Wd rfl (D5 K (qv 5)) (A9 (i:=9) sc_go_on.nd rfl (Or.inl rfl)) (Ag (Bq (Cd K Pr P0 P3 Ck (qv 8) (Aa (Lz C_thing_of_row hr.m (Ei (fun _ _ _ h=>h)) (Aa (qv 7) (Aa (qv 9) (Aa (qv 2) (Aa (qv 8) Ab))))) Ab)))))
   (Ag (Au (Ak (Aa (A1 C_thing_now hr.m (Aa (qv 4) (Aa (qv 8) Ab))) (Aa (Bt K (qv 7)) (Aa (Bt K (qv 7)) Ab)))))))))),?_⟩
  have bg:=big
  walk_at "r"
  refine ⟨tv,t,p,fl,_,rfl,ht,hp,hs,hl,hg,fun u H1 s1 tu=>?_⟩
  walk_at "r"
  refine ⟨u,d,gs,rfl,tu,?_⟩
  walk_at "r"
  refine Dc (s1.tup hq) rfl ?_
  walk_at "r"
  unfold tNew
  walk_at "r"
  refine ⟨tv,fv,t,tf,p,fl,rfl,ht.same s1,s1.tup hp,hs,hl,hz,hf.same s1,fun v' H2 s2 hv'=>?_⟩
  have s02:=s1.trans s2
  walk_at "r"
  intro m dx h1 h2 h3
  refine ⟨m,dx,H2,v',_,n,rfl,hn,h1,h2,h3,rfl,hv',hz2,fun H3 L kvs hm M FA=>⟨rfl,?_⟩⟩
  subst hm
  walk_at "r"
  refine ⟨Bf,fun b hb=>?_⟩
  have M0:=M.re (xs:=[]) (.inl hb) rfl
  have nb2:H2 b=none:=by
   cases h:H2 b with
   | none=>rfl
   | some o=>rw [M.base _ _ h] at hb;cases hb
  have sB:Same H2 (upd H2 b (.lst [])):=Same.upd nb2
  have FA0:=FA.same (Same.upd (o:=.lst []) hb).t
  have nrb:rd≠b:=fun z=>by rw [<- z,s02 _ _ hrd] at nb2;cases nb2
  have hpB:=s02.tup hp
  have alr2:=alr.mono (RwX.same s02.a)
  have alr2:Al (RwX K (fun _=>False) H2) rv rs:=alr2.mono (RwX.mono fun b hb _=>hb.elim)
  have hall:∀ xs,Al (RwX K (fun _=>False) (upd H2 b (.lst xs))) rv rs:=fun xs=>alr2.mono (RwX.same (Same.upd nb2).a)
  walk_at "r"
  refine .inl ⟨rd,rfl,⟨_,SqL.of (((M.base.trans (Same.upd hb))) _ _ (s02 _ _ hrd))⟩,?_⟩
  refine Zka (K:=K) (a:=rd) (xs:=rv) (fun i σ' H'=>∃ v9 bv bci Si t',σ'=[some tv,some (.ref q0),some (.ref p),some fv,some av,some (.ref rd),some (.int n),some (.ref L.m),some (.ref b),v9]/\MAt K (upd H2 b (.lst bv)) C kvs (L.with t') H' Si/\Al (ThAt K H') bv bci/\FormsAt K H' kvs (Cu (Bx t fl tf))/\Si.wait=[]/\bci.length=i/\Er (Cu (Bx t fl tf)) fl (rs.drop i) bci Si oo) ⟨none,[],[],_,L.td,rfl,M0,.nil,FA0,rfl,rfl,G⟩ ?_ ?_ ?_
  ·rintro i σ' H' _ ⟨_,bv,_,_,_,_,M',_⟩
   exact SqL.of (M'.base _ _ ((Af nrb).trans (s02 _ _ hrd)))
  ·rintro i y σ' H4 hy ⟨v9,bv,bci,Si,t',rfl,Mi,albi,FAi,hwi,hli,Gi⟩
   obtain ⟨r,hr1,hr2⟩:=(hall bv).get hy
   have hri:=(Ph.mp hr1).1
   have dr:rs.drop i=r::rs.drop (i+1):=by
    rw [R0 hri]
    congr 1
    rw [O5 hri] at hr1
    exact P6 hr1
   rw [dr] at Gi
   have hbl:=albi.1
   have ex:∃ o,RowO (Cu (Bx t fl tf)) fl bci r Si o/\Si.rows.length < 9000/\Si.things.length < 8000/\Ji bci.length r/\(o=none->oo=none)/\∀ S1 x,o=some (S1,x)->S1.wait=[]/\Er (Cu (Bx t fl tf)) fl (rs.drop (i+1)) (bci++[x]) S1 oo:=by
    cases Gi with
    | @cons _ _ _ _ S1 x _ hs9 ht8 ok G1 G2 =>
     refine ⟨_,.ok G1,hs9,ht8,ok,⟨fun z=>?_,fun S2 x2 e=>?_⟩⟩
     ·cases z
     ·cases e;exact ⟨G1.wait hwi,G2⟩
    | late hs9 ht8 ok R1 =>
     refine ⟨_,R1,hs9,ht8,ok,⟨fun _=>rfl,fun S2 x2 e=>?_⟩⟩
     cases e
   obtain ⟨o,G1,hs9,ht8,ok,oN,oS⟩:=ex
   walk_at "r"
   refine B0 (SqL.of (Mi.base _ _ Ad)) ?_
   walk_at "r"
   refine ⟨y,p,b,r,fl,bv,bci,_,kvs,L.with t',Si,_,o,rfl,Mi,hr2,(Same.upd nb2).tup hpB,Ad,albi,ok,FAi,hs9,by rw [hwi];decide,ht8,G1,fun S1 x eo v H5 t5 e5 M5 tv5=>?_,fun eo H' e'=>qL (oN eo) H' (s02.trans ((Same.upd nb2).trans e'))⟩
   obtain ⟨hw1,G2⟩:=oS _ _ eo
   walk_at "r"
   refine Cs (M5.base _ _ Ad) (by omega) ?_
   have M6:=M5.re (b:=b) (xs:=bv++[v]) (.inr ⟨bv,Ad⟩) hw1
   rw [Gn] at M6
   have t56:SameT H5 (upd H5 b (.lst (bv++[v]))):=SameT.set (M5.base _ _ Ad)
   have t46:=(Mi.t e5).trans t56
   refine ⟨_,bv++[v],bci++[x],S1,t5,rfl,M6,(albi.mono (ThAt.same t46)).snoc (ThAt.same t56 _ _ tv5),FAi.same t46,hw1,by rw [O9,hli];rfl,G2⟩
  ·rintro σ' H4 ⟨v9,bv,bci,Si,t',rfl,Mi,albi,FAi,hwi,hli,Gi⟩
   rw [Q4 (by rw [alr.1];exact O4 _)] at Gi
   cases Gi
   obtain ⟨nok,q⟩:=q _ _ rfl
   have s24:Same H2 H4:=(Same.upd nb2).trans Mi.base
   have s04:=s02.trans s24
   walk_at "r"
   refine ⟨av,b,bv,xa,_,rfl,ThAt.same s04.t _ _ hav,SqL.of (Mi.base _ _ Ad),albi,nok,fun v5 tv5=>?_⟩
   obtain ⟨rv5,er5,ar5,spr5⟩:=Mi.rows
   walk_at "r"
   refine ⟨_,rfl,L.m,C,L.dx,_,_,rfl,Mi.ins,O.cl,O.nr,Lb (L.with t') _,?_⟩
   walk_at "r"
   refine ⟨_,rfl,L.m,C,L.dx,_,_,rfl,Mi.ins,O.cl,O.ns,K5 (L.with t') _,?_⟩
   walk_at "r"
   refine ⟨Bg,fun r' hr'=>?_⟩
   have s5:Same H4 (upd H4 r' (.tup [v5,.ref L.rd,.int Si.steps])):=Same.upd hr'
   have mo:∀ c,(c=L.rd\/H c≠none)->H4 c≠none->((L.with t').A c\/upd H2 b (.lst bv) c≠none):=by
    intro c hc _
    rcases hc with z | z
    ·exact .inl (.inl z)
    ·refine .inr ?_
     cases h:H c with
     | none=>exact absurd h z
     | some o=>rw [(s02.trans (Same.upd nb2)) _ _ h];simp
   refine q r' L.rd v5 rv5 _ (s04.trans s5) (SqT.of Ad) (ThAt.same s5.t _ _ tv5) (s5 _ _ er5) ((ar5.mono (RwX.mono mo)).mono (RwX.same s5.a)) ((spr5.mono mo).same s5.a) ?_
   cases h:H L.rd with
   | none=>rfl
   | some o=>have:=(s02.trans (Same.upd (o:=.lst bv) nb2)) _ _ h;rw [show upd H2 b (.lst bv) L.rd=none from Mi.nr] at this;cases this
noncomputable def RefO (K:O1)(H:Hp)(t:Tr)(p:Addr):Bool->Prop
 | true=>∃(pl:List Nat)(far:Int)(rest:List V),SqT K H p (C8 pl far rest)/\Bad t pl far/\pl.length<=1000
 | false=>∃(pl:List Nat)(tx:Tr),SqT K H p (Ar pl)/\Sub t pl/\pl.length<=1000/\(A8 t pl)[pl.length]?=some tx/\tx.wd ≠ "gap"
theorem RefO.same {K:O1}{H H':Hp}{t:Tr}{p:Addr}{b:Bool}(h:RefO K H t p b)(s:Same H H'):RefO K H' t p b:=by
 cases b with
 | true=>obtain ⟨pl,far,rest,a,r⟩:=h;exact ⟨pl,far,rest,s.tup a,r⟩
 | false=>obtain ⟨pl,tx,a,r⟩:=h;exact ⟨pl,tx,s.tup a,r⟩
noncomputable def OdOk (H:Hp)(p:Addr):Bool->Option Addr->Prop
 | true,od=>∃ d,od=some d/\H d=some (.xd [("place",.ref p)])
 | false,od=>od=none
noncomputable def Zae (K:O1)(NP ND:Addr):Sp:=fun vs H _ E=>∃(tv rv fv:V)(t:Tr)(p:Addr)(bad:Bool),vs=[tv,rv,.ref p,fv]/\TrAt K H tv t/\RefO K H t p bad/\∀ od H',Same H H'->OdOk H' p bad od->E (.ref (cond bad NP ND)) od H'
theorem Zmo {NP ND:Addr}{f:Addr}{fd:FuncData}(F:Fun K "go_on" "go_on" Hj f fd)(T:Txt K mg)(C_refuse_no_gap:Es P w K mg base 1 "refuse_no_gap" ["form"] (Zci K ND))(C_form_at:Es P w K mg base 4 "form_at" ["tree", "place"] (fun vs H Q E=>Zbl K vs H Q E\/Mn K NP vs H Q E)):FnOk P w K mg base (Bd P w) 8 f fd ["tree", "record", "place", "form"] (Zae K NP ND):=by
 refine F.okx sc_go_on (fun vs H Q E h=>?_) (fun cdv A outer s H vs Q E hr h=>?_)
 ·obtain ⟨tv,rv,fv,t,p,bad,rfl,_⟩:=h
  rfl
 ·obtain ⟨tv,rv,fv,t,p,bad,rfl,ht,ho,q⟩:=h
  refine ⟨_,Ae (Bq (Lz C_refuse_no_gap hr.m (Ei (fun _ _ _ h=>h)) (Aa (Lz C_form_at hr.m (Ei (fun _ _ _ h=>h)) (Aa (qv 0) (Aa (qv 2) Ab))) Ab)))
   (Ae Ff (Ae Ff (Ae Ff (Ae Ff (Ag Ff))))),?_⟩
  walk_at "r"
  cases bad with
  | true =>
   obtain ⟨pl,far,rest,hp,hb,hl⟩:=ho
   exact .inr ⟨tv,t,p,pl,far,rest,rfl,ht,hp,hb,hl,fun d H' s' e=>q (some d) H' s' ⟨d,rfl,e⟩⟩
  | false =>
   obtain ⟨pl,tx,hp,hs,hl,hx,hn⟩:=ho
   refine .inl ⟨tv,t,p,pl,tx,rfl,ht,hp,hs,hl,hx,fun u H1 s1 hu=>?_⟩
   walk_at "r"
   exact ⟨u,tx,rfl,hu,fun z=>absurd z hn,fun _=>q none H1 s1 rfl⟩
end
inductive Tf:Tr->Prop
 | mk {w:Str} {n:Dt} {ps:List Tr} (h3:ps.length<=3) (hb:Ee w n) (hs:∀ t,t∈ps->Tf t):Tf (.mk w n ps)
theorem Tf.all {t:Tr}{pl:List Nat}(s:Sub t pl):Tf t->∀(j:Nat)(tx:Tr),(A8 t pl)[j]?=some tx->Tf tx:=by
 induction s with
 | nil t =>
  intro h j tx e
  cases t with
  | mk w n ps =>
   match j,e with
   | 0,e=>cases e;exact h
 | @cons w n ts i t r hh s ih =>
  intro h j tx e
  rw [F7 hh] at e
  cases h with
  | mk h3 hb hs =>
   match j,e with
   | 0,e=>cases e;exact .mk h3 hb hs
   | j+1,e=>exact ih (hs _ (Qr hh)) j tx e
theorem Zsd {t:Tr}{pl:List Nat}(s:Sub t pl):∀ k,k<=pl.length->Sub t (pl.take k)/\(A8 t (pl.take k))[k]?=(A8 t pl)[k]?:=by
 induction s with
 | nil t =>
  intro k hk
  have:k=0:=Nat.le_zero.mp hk
  subst this
  exact ⟨.nil t,rfl⟩
 | @cons w n ts i t r hh s ih =>
  intro k hk
  cases k with
  | zero=>exact ⟨.nil _,by rw [F7 hh];rfl⟩
  | succ k =>
   have hk:k+1<=r.length+1:=hk
   obtain ⟨a,b⟩:=ih k (by omega)
   rw [List.take_succ_cons]
   refine ⟨.cons hh a,?_⟩
   rw [F7 hh,F7 hh,Tb,Tb]
   exact b
theorem Zkb {t:Tr}{pl:List Nat}(s:Sub t pl):∃ tx,(A8 t pl)[pl.length]?=some tx:=by
 have:=Ia s
 exact ⟨_,O5 (by omega)⟩
theorem badA {t:Tr}{pl:List Nat}{w:Str}{n:Dt}{ps:List Tr}{far:Int}(s:Sub t pl)(e:(A8 t pl)[pl.length]?=some (.mk w n ps))(h:(ps.length:Int)<=far):Bad t pl far:=⟨s,w,n,ps,e,fun z=>by omega⟩
theorem badB {t:Tr}{pl:List Nat}{k:Nat}{far:Int}(ht:Tf t)(s:Sub t pl)(hk:k < pl.length)(h:far < 0\/3<=far):Bad t (pl.take k) far:=by
 obtain ⟨a,b⟩:=Zsd s k (Su hk)
 obtain ⟨tx,e⟩:=Zkb a
 have hl:(pl.take k).length=k:=by rw [Pq];omega
 have T:=Tf.all a ht _ _ e
 cases T with
 | @mk w n ps h3 hb hs=>exact ⟨a,w,n,ps,e,fun z=>by omega⟩
noncomputable def LeafOk (wd:Str)(nv:V):Prop:=(wd = "num" /\ ∃ i,nv=.int i)\/(wd = "truth" /\ ∃ b,nv=.bl b)\/(wd = "name" /\ ∃ z,nv=.str z)\/(wd = "odd" /\ ∃ z,nv=.str z)\/(wd = "gap" /\ nv=.non)
noncomputable def Zbk (wd:Str)(nv:V)(ar:List (Str×Str×V)):Option (Str×V):=match nv with
 | .str z=>if wd = "name" then D9 ar z else none
 | _=>none
noncomputable def Ec (wd:Str)(nv:V)(k:Nat)(pl:List Nat)(ar:List (Str×Str×V)):(Str×V)×List Rx:=if wd∈(["num", "truth"]:List Str) then ((wd,nv),[]) else match Zbk wd nv ar with
 | some th=>(th,[])
 | none=>(("row",.int (k:Nat)),[⟨wd,A3 pl,[],if wd = "gap" then ar else []⟩])
theorem Zjw (S:MS)(wd:Str)(nv:V)(pl:List Nat)(ar:List (Str×Str×V)):Cf S wd nv pl ar=if wd∈(["num", "truth"]:List Str) then ((wd,nv),S) else match Zbk wd nv ar with
  | some th=>(th,S)
  | none=>(("row",.int (S.rows.length:Nat)),{ S with rows:=S.rows++[⟨wd,A3 pl,[],if wd∈WA then ar else []⟩] }):=by
 unfold Cf
 cases nv <;> rfl
theorem LeafOk.word {wd:Str}{nv:V}(h:LeafOk wd nv):Bp wd=none/\Hf wd (.flat nv)/\(wd∈WA↔wd = "gap"):=by
 rcases h with ⟨rfl,_,rfl⟩ | ⟨rfl,_,rfl⟩ | ⟨rfl,_,rfl⟩ | ⟨rfl,_,rfl⟩ | ⟨rfl,rfl⟩
 ·exact ⟨by decide +kernel,⟨fun _=>⟨_,rfl⟩,fun h=>absurd h (by decide +kernel)⟩,by decide +kernel⟩
 ·exact ⟨by decide +kernel,⟨fun _=>⟨_,rfl⟩,fun h=>absurd h (by decide +kernel)⟩,by decide +kernel⟩
 ·exact ⟨by decide +kernel,⟨fun _=>⟨_,rfl⟩,fun _=>⟨_,rfl⟩⟩,by decide +kernel⟩
 ·exact ⟨by decide +kernel,⟨fun _=>⟨_,rfl⟩,fun _=>⟨_,rfl⟩⟩,by decide +kernel⟩
 ·exact ⟨by decide +kernel,⟨fun _=>⟨_,rfl⟩,fun h=>absurd h (by decide +kernel)⟩,by decide +kernel⟩
theorem Zdn (S:MS){wd:Str}{nv:V}(h:LeafOk wd nv)(pl:List Nat)(ar:List (Str×Str×V)):Cf S wd nv pl ar=((Ec wd nv S.rows.length pl ar).1,{ S with rows:=S.rows++(Ec wd nv S.rows.length pl ar).2 }):=by
 have hw:=h.word.2.2
 rw [Zjw]
 unfold Ec
 by_cases h:wd∈(["num", "truth"]:List Str)
 ·rw [if_pos h,if_pos h]
  simp
 ·rw [if_neg h,if_neg h]
  cases Zbk wd nv ar with
  | some th=>simp
  | none =>
   by_cases hg:wd = "gap"
   ·simp only [if_pos hg,if_pos (hw.mpr hg)]
   ·simp only [if_neg hg,if_neg fun x=>hg (hw.mp x)]
mutual
theorem Zb9:∀(pl:List Nat)(t:Tr)(x:List Nat×Tr),x∈walk pl t->∃ q,x.1=pl++q
 | pl,.mk w n ps,x,h=>by
  rw [walk] at h
  rcases Pb.mp h with rfl | h
  ·exact ⟨[],by simp⟩
  ·exact Zco pl 0 ps x h
theorem Zco:∀(pl:List Nat)(i:Nat)(ts:List Tr)(x:List Nat×Tr),x∈A7 pl i ts->∃ q,x.1=pl++q
 | _,_,[],x,h=>by rw [A7] at h;exact nomatch h
 | pl,i,t::r,x,h=>by
  rw [A7] at h
  rcases Sa.mp h with h | h
  ·obtain ⟨q,e⟩:=Zb9 (pl++[i]) t x h
   exact ⟨[i]++q,by rw [e,Q9]⟩
  ·exact Zco pl (i+1) r x h
end
theorem Zd3 (x:List Nat×Tr)(l:List (List Nat×Tr))(pl:List Nat):B6 (x::l) pl=(B6 l pl).or (if x.1=pl then some x.2 else none):=by
 unfold B6
 rw [Tj,List.find?_append]
 cases h:l.reverse.find? fun x=>decide (x.1=pl) with
 | some y=>simp
 | none =>
  by_cases e:x.1=pl
  ·simp [e]
  ·simp [e]
theorem Zgx {ws:List (List Nat×Tr)}{pl:List Nat}(h:∀ x∈ws,x.1≠pl):B6 ws pl=none:=by
 unfold B6
 rw [List.find?_eq_none.mpr]
 ·rfl
 ·intro x hx
  rw [decide_eq_true_iff]
  exact h x (List.mem_reverse.mp hx)
noncomputable def De (wd:Str):Int:=if wd = "gap" then 0 else 1
theorem Zfq (wd:Str):0<=De wd/\De wd<=1:=by unfold De;split <;> decide
theorem Zib {S:MS}{wd:Str}{nv:V}(h:LeafOk wd nv)(pl:List Nat)(ar:List (Str×Str×V)):Ej S wd (.flat nv) pl ar=⟨S.rows++(Ec wd nv S.rows.length pl ar).2,S.wait,S.things++[(Ec wd nv S.rows.length pl ar).1],S.steps+De wd⟩:=by
 unfold Ej
 rw [h.word.1]
 by_cases g:wd = "gap"
 ·simp only [if_pos g,Zdn _ h,E2,De,Int.add_zero]
 ·simp only [if_neg g,Zdn _ h,E2,De]
noncomputable def G3 (wd:Str)(pl:List Nat)(k:Nat)(x y:Str×V):(Str×V)×List Rx:=if wd∈Ie/\x.1 = "num" /\ y.1 = "num" then (Jf wd (Mq x.2) (Mq y.2),[]) else (("row",.int (k:Nat)),[⟨wd,A3 pl,[x,y],[]⟩])
noncomputable def C7:Tr->List Nat->Option Tr
 | t,[]=>some t
 | .mk _ _ ts,i::r=>match ts[i]? with
  | some t=>C7 t r
  | none=>none
termination_by _ pl=>pl.length
theorem Kv (t:Tr):C7 t []=some t:=by rw [C7]
theorem Ir (w:Str)(n:Dt)(ts:List Tr)(i:Nat)(r:List Nat):C7 (.mk w n ts) (i::r)=(ts[i]?).bind fun t=>C7 t r:=by
 rw [C7]
 cases ts[i]? <;> rfl
theorem Znd (a b:List (List Nat×Tr))(pl:List Nat):B6 (a++b) pl=(B6 b pl).or (B6 a pl):=by
 unfold B6
 rw [Sj,List.find?_append]
 cases b.reverse.find? fun x=>decide (x.1=pl) <;> simp
theorem Zde:∀(pl:List Nat)(i:Nat)(ts:List Tr)(x:List Nat×Tr),x∈A7 pl i ts->∃ k q,i<=k/\x.1=pl++k::q
 | _,_,[],x,h=>by rw [A7] at h;exact nomatch h
 | pl,i,t::r,x,h=>by
  rw [A7] at h
  rcases Sa.mp h with h | h
  ·obtain ⟨q,e⟩:=Zb9 (pl++[i]) t x h
   exact ⟨i,q,O4 _,by rw [e,Q9];rfl⟩
  ·obtain ⟨k,q,hk,e⟩:=Zde pl (i+1) r x h
   exact ⟨k,q,by omega,e⟩
mutual
theorem Zd5:∀(p:List Nat)(t:Tr)(q:List Nat),B6 (walk p t) (p++q)=C7 t q
 | p,.mk w n ps,[]=>by
  rw [walk,Zd3,Zgx,Kv,if_pos (by simp)]
  ·rfl
  ·intro x hx
   obtain ⟨k,q,_,e⟩:=Zde p 0 ps x hx
   rw [e]
   intro z
   have:=congrArg Sw z
   simp at this
 | p,.mk w n ps,k::r=>by
  rw [walk,Zd3,Zcs p 0 ps k r,if_pos (Pw _),Ir,if_neg (fun z=>by have:=congrArg Sw z;simp at this),Option.or_none,T1]
theorem Zcs:∀(p:List Nat)(i:Nat)(ts:List Tr)(k:Nat)(r:List Nat),B6 (A7 p i ts) (p++k::r)=if i<=k then (ts[k - i]?).bind (fun t=>C7 t r) else none
 | p,i,[],k,r=>by
  rw [A7]
  split <;> simp [B6]
 | p,i,t::ts,k,r=>by
  rw [A7,Znd,Zcs p (i+1) ts k r]
  by_cases hk:k=i
  ·subst hk
   rw [if_neg (by omega),if_pos (O4 _),Rt,Option.none_or]
   have:=Zd5 (p++[k]) t r
   rw [Q9] at this
   rw [show p++k::r=p++([k]++r) from rfl,this]
   rfl
  ·have e:B6 (walk (p++[i]) t) (p++k::r)=none:=Zgx fun x hx z=>by
    obtain ⟨q,e⟩:=Zb9 _ _ _ hx
    rw [e,Q9] at z
    have:=List.append_cancel_left z
    simp at this
    exact hk this.1.symm
   rw [e,Option.or_none]
   by_cases hlt:i<=k
   ·rw [if_pos (by omega),if_pos hlt,show k - i=(k - (i+1))+1 by omega]
    rfl
   ·rw [if_neg (by omega),if_neg hlt]
end
theorem Zaj (t:Tr)(pl:List Nat):Cu t pl=(C7 t pl).map fun u=>(u.wd,K0 u):=by
 unfold Cu
 rw [<- Zd5 [] t pl]
 rfl
theorem Zsm (t:Tr)(p q:List Nat):C7 t (p++q)=(C7 t p).bind fun u=>C7 u q:=by
 induction p generalizing t with
 | nil=>rw [Ts,Kv];rfl
 | cons i r ih =>
  cases t with
  | mk w n ts =>
   rw [To,Ir,Ir]
   cases ts[i]? with
   | none=>rfl
   | some u=>exact ih u
inductive StepU (sub:List Nat->Option (Str×Dt)):MS->MS->Prop where
 | come {S:MS} {w:List Wt} {x:Wt} {wd:Str} {d:Dt} (hw:S.wait=w++[x]) (hc:x.came=false) (hs:sub x.pl=some (wd,d)) (hn:Hf wd d):StepU sub S (Ej { S with wait:=w } wd d x.pl x.ar)
 | further {S S2:MS} {w:List Wt} {x:Wt} {wd:Str} {d:Dt} (hw:S.wait=w++[x]) (hc:x.came=true) (hs:sub x.pl=some (wd,d)) (hf:Fb sub wd d x.pl x.ar { S with wait:=w } S2) (hr:x.ar.length<=9000):StepU sub S S2
inductive ChU (sub:List Nat->Option (Str×Dt)):MS->MS->Prop where
 | nil {S:MS}:ChU sub S S
 | cons {S S1 S2:MS} (hs:E8 S) (h1:StepU sub S S1) (h2:ChU sub S1 S2):ChU sub S S2
theorem ChU.trans {sub:List Nat->Option (Str×Dt)}{S S1 S2:MS}(h:ChU sub S S1)(h':ChU sub S1 S2):ChU sub S S2:=by
 induction h with
 | nil=>exact h'
 | cons a b _ ih=>exact .cons a b (ih h')
theorem Zf8 (S:MS)(wd:Str)(nv:V)(pl:List Nat)(ar:List (Str×Str×V)):(Cf S wd nv pl ar).2.steps=S.steps:=by
 unfold Cf
 split
 ·rfl
 split <;> rfl
theorem Nm (S:MS)(wd:Str)(d:Dt)(pl:List Nat)(ar:List (Str×Str×V)):(Ej S wd d pl ar).steps=S.steps+De wd:=by
 unfold Ej De
 by_cases g:wd = "gap"
 ·simp only [if_pos g]
  cases Bp wd with
  | some ns=>simp
  | none=>simp [Zf8]
 ·simp only [if_neg g]
  cases Bp wd with
  | some ns=>rfl
  | none=>exact Zf8 _ _ _ _ _
theorem Zcx {sub:List Nat->Option (Str×Dt)}{wd:Str}{d:Dt}{pl:List Nat}{ar:List (Str×Str×V)}{S S2:MS}(h:Fb sub wd d pl ar S S2):S2.steps=S.steps:=by
 cases h with
 | two=>unfold Ex;split <;> rfl
 | calls=>rfl
 | ifs=>rfl
 | lets=>rfl
 | ifr=>rfl
theorem StepU.le {sub:List Nat->Option (Str×Dt)}{S S1:MS}(h:StepU sub S S1):S.steps<=S1.steps:=by
 cases h with
 | come hw hc hs hn=>rw [Nm];have:=Zfq (by assumption:Str);have:=(Zfq ‹Str›).1;show S.steps<=S.steps+_;omega
 | further hw hc hs hf hr=>rw [Zcx hf];exact Int.le_refl _
theorem ChU.le {sub:List Nat->Option (Str×Dt)}{S S1:MS}(h:ChU sub S S1):S.steps<=S1.steps:=by
 induction h with
 | nil=>exact Int.le_refl _
 | cons _ b _ ih=>exact Int.le_trans b.le ih
theorem ChU.fine {sub:List Nat->Option (Str×Dt)}{S S1:MS}(h:ChU sub S S1)(hw:S1.wait=[])(h5:S1.steps<=500):∃ n,RunM sub n S S1:=by
 induction h with
 | nil=>exact ⟨0,.nil hw⟩
 | @cons S S1 S2 a b c ih =>
  obtain ⟨n,R⟩:=ih hw h5
  refine ⟨n+1,.cons a ?_ R⟩
  cases b with
  | further hw hc hs hf hr=>exact .further hw hc hs hf hr
  | @come w x wd d hw hc hs hn =>
   refine .come hw hc hs hn fun hg=>?_
   have h1:=c.le
   rw [Nm] at h1
   have:De wd=1:=if_neg hg
   have h1:S.steps+De wd<=S2.steps:=h1
   omega
theorem ChU.late {sub:List Nat->Option (Str×Dt)}{S S1:MS}(h:ChU sub S S1)(h0:S.steps<=500)(h5:500 < S1.steps):∃ n,RunL sub n S:=by
 induction h with
 | nil=>omega
 | @cons S S1 S2 a b c ih =>
  cases b with
  | further hw hc hs hf hr =>
   obtain ⟨n,R⟩:=ih (by rw [Zcx hf];exact h0) h5
   exact ⟨n+1,.cons a (.further hw hc hs hf hr) R⟩
  | @come w x wd d hw hc hs hn =>
   by_cases hg:wd ≠ "gap" /\ 500 < S.steps+1
   ·exact ⟨0,.last a hw hc hs hg.1 hg.2⟩
   ·have h6:wd ≠ "gap" -> S.steps+1<=500:=fun z=>by
     rcases Int.lt_or_le 500 (S.steps+1) with h | h
     ·exact absurd ⟨z,h⟩ hg
     ·exact h
    obtain ⟨n,R⟩:=ih (by
     rw [Nm]
     show S.steps+De wd<=500
     unfold De
     by_cases z:wd = "gap"
     ·rw [if_pos z];omega
     ·rw [if_neg z];exact h6 z) h5
    exact ⟨n+1,.cons a (.come hw hc hs hn h6) R⟩
theorem Nt:∀(pl:List Nat)(ts:List Tr)(i:Nat)(u:Tr),A7 pl i (ts++[u])=A7 pl i ts++walk (pl++[i+ts.length]) u
 | pl,[],i,u=>by
  rw [Ts,A7,A7,A7,Qs]
  simp
 | pl,t::r,i,u=>by
  rw [To,A7,A7,Nt pl r (i+1) u,Q9,Ps,show i+1+r.length=i+(r.length+1) by omega]
theorem Ze7 (ts:List Tr)(j:Nat):Bh (ts.take j)<=Bh ts:=by
 have:=Zqw (ts.take j) (ts.drop j)
 rw [List.take_append_drop] at this
 omega
theorem Zb6 {α:Type}{l:List α}{i:Nat}{c:α}(h:l[i]?=some c):l.take (i+1)=l.take i++[c]:=by rw [Ra,h];rfl
mutual
theorem Ng:∀(t:Tr)(x:List Nat×Tr),x∈walk [] t->Sub t x.1/\(A8 t x.1)[x.1.length]?=some x.2
 | .mk w n ps,x,h=>by
  rw [walk] at h
  rcases Pb.mp h with rfl | h
  ·exact ⟨.nil _,rfl⟩
  ·obtain ⟨j,t,r,e1,e2,e3,e4⟩:=Zf4 0 ps x h
   rw [e2,Vo]
   refine ⟨.cons e1 e3,?_⟩
   rw [F7 e1,Ps,Tb]
   exact e4
theorem Zf4:∀(i:Nat)(ts:List Tr)(x:List Nat×Tr),x∈A7 [] i ts->∃(j:Nat)(t:Tr)(r:List Nat),ts[j]?=some t/\x.1=(i+j)::r/\Sub t r/\(A8 t r)[r.length]?=some x.2
 | i,[],x,h=>by rw [A7] at h;cases h
 | i,t::r,x,h=>by
  rw [A7] at h
  rcases Sa.mp h with h | h
  ·rw [Ts,Zbf] at h
   obtain ⟨y,hy,rfl⟩:=Qp.mp h
   obtain ⟨a,b⟩:=Ng t y hy
   exact ⟨0,t,y.1,rfl,rfl,a,b⟩
  ·obtain ⟨j,u,q,e1,e2,e3,e4⟩:=Zf4 (i+1) r x h
   exact ⟨j+1,u,q,e1,by rw [e2];congr 1;omega,e3,e4⟩
end
section
variable {P:Program}{w:World}{K:O1}{mg:Str->Option Value}{base:Heap}
structure XcR (K:O1)(NP ND TL GE:Addr)(b:Bool):Prop where
 g:Pi K (.ref (cond b NP ND)) (.ref GE)=some true
 p:Pi K (.ref (cond b NP ND)) (.ref NP)=some b
 d:b=false->Pi K (.ref (cond b NP ND)) (.ref ND)=some true
 kp:Pu K (.ref (cond b NP ND)) (.ref NP)=some b
 kd:Pu K (.ref (cond b NP ND)) (.ref ND)=some (!b)
 kt:Pu K (.ref (cond b NP ND)) (.ref TL)=some false
 kv:Pu K (.ref (cond b NP ND)) (.type "ValueError")=some true
 x:ExN K (cond b NP ND)
noncomputable def Zgz (K:O1):Sp:=fun vs H Q _=>∃(tv rv fv:V)(t:Tr)(p:Addr)(bad:Bool),vs=[tv,rv,.ref p,fv]/\TrAt K H tv t/\RefO K H t p bad/\∀(r bl:Addr)(H':Hp),Same H H'->SqT K H' r [cond bad (.ref p) (.str "no deed"),.ref bl]->H' bl=some (.lst [.bl bad,.bl (!bad),.bl false,.bl true])->Q (.ref r) H'
theorem C5 {t:TS}{X:St->Hp->Prop}{rt:VK}{bk ct:St->Hp->Prop}{σ:St}{H:Hp}(R:St->Hp->Prop)(h2:∀ σ' H',R σ' H'->X σ' H')(h1:∀ Y:St->Hp->Prop,(∀ σ' H',R σ' H'->Y σ' H')->t ⟨Y,rt,bk,ct⟩ σ H):t ⟨X,rt,bk,ct⟩ σ H:=h1 X h2
theorem Zga {K:O1}{NP ND:Addr}{H:Hp}{Q:VK}{E:XK}{tv rv fv:V}{t:Tr}{p:Addr}{bad:Bool}(ht:TrAt K H tv t)(ho:RefO K H t p bad)(h:∀ od H',Same H H'->OdOk H' p bad od->E (.ref (cond bad NP ND)) od H'):Zae K NP ND [tv,rv,.ref p,fv] H Q E:=⟨tv,rv,fv,t,p,bad,rfl,ht,ho,h⟩
theorem sc_law_refused:A2 ["_law_tree", "_law_record", "_law_place", "_law_form_here", "_law_found", "_law_base", "e"] ["_law_tree", "_law_record", "_law_place", "_law_form_here"] (Ay Kj):=by walk_at "sc"
theorem Zqg {N_NoPlace N_NoDeed N_TooLong GE:Addr}{f:Addr}{fd:FuncData}(F:Fun K "_law_refused" "_law_refused" Kj f fd)(T:Txt K mg)(C_go_on:Es P w K mg base 8 "go_on" ["tree", "record", "place", "form"] (Zae K N_NoPlace N_NoDeed))(X_GapError:C2 K GE)(X_NoPlace:C2 K N_NoPlace)(X_NoDeed:C2 K N_NoDeed)(X_TooLong:C2 K N_TooLong)(G_GapError:mg "GapError" = some (.ref GE))(G_TooLong:mg "TooLong" = some (.ref N_TooLong))(G_NoPlace:mg "NoPlace" = some (.ref N_NoPlace))(G_NoDeed:mg "NoDeed" = some (.ref N_NoDeed))(O:∀ b,XcR K N_NoPlace N_NoDeed N_TooLong GE b)(xC:ExC K N_NoPlace)(nA:NoAttr K N_NoPlace "place"):FnOk P w K mg base Ao 9 f fd ["_law_tree", "_law_record", "_law_place", "_law_form_here"] (Zgz K):=by
 refine F.okq sc_law_refused (fun vs H Q E h=>?_) (fun cdv A outer s H vs Q E hr h=>?_)
 ·obtain ⟨tv,rv,fv,t,p,bad,rfl,_⟩:=h
  rfl
 ·obtain ⟨tv,rv,fv,t,p,bad,rfl,ht,ho,q⟩:=h
  refine ⟨_,Ae (Aq 4 sc_law_refused D4)
   (Ae (Aq 5 sc_law_refused D4)
   (Ae (Zmv rfl rfl (Zfd (Zb5 C_go_on hr.m (fun _=>Aa (qv 0) (Aa (qv 1) (Aa (qv 2) (Aa (qv 3) Ab)))))) (qh_N (i:=6) sc_law_refused.nd rfl rfl X_NoPlace G_NoPlace (fun _ _=>Ag (Aq 4 sc_law_refused (Zri K (qv 6)))) (qh_0 X_NoDeed G_NoDeed (fun _ _=>Ag (Aq 4 sc_law_refused Am)) (qh_0 X_TooLong G_TooLong (fun _ _=>Ag Ff) Zob))))
   (Ae (Zr9 (i:=6) sc_law_refused.nd rfl rfl X_GapError G_GapError rfl rfl (Zfd (Zb5 C_go_on hr.m (fun _=>Aa (qv 0) (Aa (qv 1) (Aa (qv 2) (Aa (qv 3) Ab)))))) (fun _ _=>Ag (Aq 5 sc_law_refused (Ba (Aa (Be (Nj (K:=K)) (by rfl) T.isinstance (by decide +kernel) (Aa (qv 6) (Aa (Nn (v:=.ref N_NoPlace) (by rfl) G_NoPlace rfl) Ab))) (Aa (Be (Nj (K:=K)) (by rfl) T.isinstance (by decide +kernel) (Aa (qv 6) (Aa (Nn (v:=.ref N_NoDeed) (by rfl) G_NoDeed rfl) Ab))) (Aa (Be (Nj (K:=K)) (by rfl) T.isinstance (by decide +kernel) (Aa (qv 6) (Aa (Nn (v:=.ref N_TooLong) (by rfl) G_TooLong rfl) Ab))) (Aa (Be (Zif (K:=K) "ValueError") (by rfl) T.isinstance (by decide +kernel) (Aa (qv 6) (Aa (Ct (v:=.ty "ValueError") (by rfl) T.ValueError (by decide +kernel) rfl) Ab))) Ab))))))))
   (Ag (Au (Ak (Aa (qv 4) (Aa (qv 5) Ab)))))))),?_⟩
  walk_at "r"
  refine C5 (t:=Zg7 _ _) (R:=fun σ' H'=>σ'=[some tv,some rv,some (.ref p),some fv,some (cond bad (.ref p) (.str "no deed")),some .non,none]/\Same H H') ?_ ?_
  rotate_left
  ·intro Y hY
   refine ⟨tv,rfl,rv,rfl,.ref p,rfl,fv,rfl,?_⟩
   dsimp only [Gg]
   refine Zga ht ho fun od H1 s1 ok=>⟨_,rfl,fun a1 ha1=>?_⟩
   have s2:=s1.trans (Same.upd (o:=B9 a1 (.ref (cond bad N_NoPlace N_NoDeed)) od) ha1)
   cases bad with
   | true =>
    obtain ⟨d,rfl,e1⟩:=ok
    refine ⟨true,(O true).p,?_⟩
    rw [if_pos rfl]
    walk_at "r"
    refine ⟨_,rfl,a1,N_NoPlace,d,_,_,rfl,Ad,Same.upd ha1 _ _ e1,xC,nA,rfl,?_⟩
    walk_at "r"
    exact hY _ _ ⟨rfl,s2⟩
   | false =>
    cases ok
    refine ⟨false,(O false).p,?_⟩
    rw [if_neg (by decide)]
    refine ⟨true,(O false).d rfl,?_⟩
    rw [if_pos rfl]
    walk_at "r"
    exact hY _ _ ⟨rfl,s2⟩
  ·rintro _ H1 ⟨rfl,s1⟩
   walk_at "r"
   refine ⟨tv,rfl,rv,rfl,.ref p,rfl,fv,rfl,?_⟩
   dsimp only [Gg]
   refine Zga (ht.same s1) (ho.same s1) fun od H2 s2 ok=>⟨⟨_,rfl,(O bad).g⟩,fun a2 ha2=>?_⟩
   have X:=O bad
   have dk:∀ d,od=some d->∃ fs,upd H2 a2 (B9 a2 (.ref (cond bad N_NoPlace N_NoDeed)) od) d=some (.xd fs):=fun d hd=>by
    cases bad with
    | true=>obtain ⟨d',e,e'⟩:=ok;rw [e] at hd;cases hd;exact ⟨_,Same.upd ha2 _ _ e'⟩
    | false=>rw [show od=none from ok] at hd;cases hd
   have s3:=(s1.trans s2).trans (Same.upd (o:=B9 a2 (.ref (cond bad N_NoPlace N_NoDeed)) od) ha2)
   have e3:upd H2 a2 (B9 a2 (.ref (cond bad N_NoPlace N_NoDeed)) od) a2=some (B9 a2 (.ref (cond bad N_NoPlace N_NoDeed)) od):=Ad
   revert s3 e3 dk
   generalize upd H2 a2 (B9 a2 (.ref (cond bad N_NoPlace N_NoDeed)) od)=H3
   intro dk s3 e3
   walk_at "r"
   refine ⟨a2,_,_,od,_,rfl,e3,dk,X.x,X.kp,?_⟩
   walk_at "r"
   refine ⟨a2,_,_,od,_,rfl,e3,dk,X.x,X.kd,?_⟩
   walk_at "r"
   refine ⟨a2,_,_,od,_,rfl,e3,dk,X.x,X.kt,?_⟩
   walk_at "r"
   refine ⟨a2,_,od,_,rfl,e3,dk,X.x,X.kv,?_⟩
   walk_at "r"
   refine ⟨Fa,fun p4 h4=>?_⟩
   walk_at "r"
   dsimp only [Ends.gone]
   walk_at "r"
   refine ⟨Bb,fun p5 h5=>?_⟩
   have s4:=Same.upd (o:=.lst [.bl bad,.bl (!bad),.bl false,.bl true]) h4
   have s5:=Same.upd (o:=.tup [cond bad (.ref p) (.str "no deed"),.ref p4]) h5
   exact q p5 p4 _ (s3.trans (s4.trans s5)) (SqT.of Ad) (s5 _ _ Ad)
noncomputable def PrW (K:O1)(H:Hp)(v:V)(x:Str×Str):Prop:=∃ a,v=.ref a/\SqT K H a [.str x.1,.str x.2]
theorem PrW.same {K:O1}{H H':Hp}(s:SameT H H')(v:V)(x:Str×Str)(h:PrW K H v x):PrW K H' v x:=let ⟨a,e,q⟩:=h;⟨a,e,s.tup q⟩
noncomputable def BdAt (K:O1)(H:Hp)(b:Addr)(n:Nat):Prop:=∃ bs zs,H b=some (.lst bs)/\Al (PrW K H) bs zs/\bs.length<=n
theorem BdAt.same {K:O1}{H H':Hp}{b:Addr}{n:Nat}(h:BdAt K H b n)(s:Same H H'):BdAt K H' b n:=let ⟨bs,zs,e,al,l⟩:=h;⟨bs,zs,s _ _ e,al.mono (PrW.same s.t),l⟩
noncomputable def GpAt (K:O1)(H:Hp)(v:V)(x:List Nat×Tr):Prop:=∃ a p b,v=.ref a/\SqT K H a [.ref p,.ref b]/\H p=some (.tup (Ar x.1))/\BdAt K H b 1000
theorem GpAt.same {K:O1}{H H':Hp}(s:Same H H')(v:V)(x:List Nat×Tr)(h:GpAt K H v x):GpAt K H' v x:=let ⟨a,p,b,e,q,q',d⟩:=h;⟨a,p,b,e,s.tup q,s _ _ q',d.same s⟩
noncomputable def E1 (x:List Nat×Tr):Bool:=decide (x.2.wd = "gap")
noncomputable def Gs (K:O1)(n:Nat):Sp:=fun vs H Q _=>∃(v:V)(t:Tr)(p b:Addr)(pl:List Nat)(m:Nat),vs=[v,.ref p,.ref b]/\TrAt K H v t/\Tf t/\H p=some (.tup (Ar pl))/\BdAt K H b m/\t.size<=n/\pl.length+t.size<=1000/\m+2 * t.size<=1000/\∀(r:Addr)(ws:List V)(H':Hp),Same H H'->H' r=some (.lst ws)->Al (GpAt K H') ws ((walk pl t).filter E1)->Q (.ref r) H'
theorem sc_law_gaps:A2 ["_law_form_here", "_law_place", "_law_bound", "_law_word", "_law_note", "_law_parts", "_law_found", "_law_k", "_law_more"] ["_law_form_here", "_law_place", "_law_bound"] (Ay Ik):=by walk_at "sc"
theorem Zsl {n:Nat}{f:Addr}{fd:FuncData}(F:Fun K "_law_gaps" "_law_gaps" Ik f fd)(T:Txt K mg)(C__law_gaps:A4 P w K mg base (n+1) "_law_gaps" ["_law_form_here", "_law_place", "_law_bound"] (Gs K n)):FnOk P w K mg base Ao (n+2) f fd ["_law_form_here", "_law_place", "_law_bound"] (Gs K (n+1)):=by
 refine F.okq sc_law_gaps (fun vs H Q E h=>?_) (fun cdv A outer s H vs Q E hr h=>?_)
 ·obtain ⟨v,t,p,b,pl,m,rfl,_⟩:=h
  rfl
 ·obtain ⟨v,t,p,bb,pl,m,rfl,ht,tf,hp,hbd,hz,hd,hm,q⟩:=h
  refine ⟨_,Ae (Fp (qv 0) (Dj K (n:=3) rfl (Bv (A9 (i:=3) sc_law_gaps.nd rfl (Or.inl rfl)) (Bv (A9 (i:=4) sc_law_gaps.nd rfl (Or.inl rfl)) (Bv (A9 (i:=5) sc_law_gaps.nd rfl (Or.inl rfl)) (Di))))))
   (Ae (Aq 6 sc_law_gaps (Ba Ab))
   (Ae (Ax (Aw (A5 K hr.u200) (qv 3) Am (Av _)) (Ag (Bq (Cd K Pr P0 P3 Ck (qv 6) (Aa (Ak (Aa (qv 1) (Aa (qv 2) Ab))) Ab)))) A0)
   (Ae (En Re rfl (Jh rfl T.range (Aa (Be (Cp K) (by rfl) T.len (by decide +kernel) (Aa (qv 5) Ab)) Ab)) (A9 (i:=7) sc_law_gaps.nd rfl (Or.inl rfl)) (Ae (Aq 8 sc_law_gaps (Ba Ab))
   (Ae (Ax (QW.qt (Fo (Aw (A5 K hr.u200) (qv 3) Am (Av _)) (F0 (QW.qt (Du (Aw (A5 K hr.u200) (qv 3) Am (Av _)) (D3 (Aw (A5 K hr.u200) (qv 7) Ac (Av _)))))))) (Ag (Aq 8 sc_law_gaps (Ba (Aa (Ak (Aa (qv 4) (Aa Am Ab))) Ab)))) A0)
   (Ae (Ax (Aw (A5 K hr.u200) (qv 3) Am (Av _)) (Ag (Aq 8 sc_law_gaps (Ba (Aa (Ak (Aa (Ap K (qv 4) Ac) (Aa Am Ab))) (Aa (Ak (Aa (Ap K (qv 4) Ac) (Aa Am Ab))) Ab))))) A0)
   (Ag (Aq 6 sc_law_gaps (Ah (Bc K) (qv 6) (A1 C__law_gaps (hr.mono (by omega)) (Aa (Ap K (qv 5) (qv 7)) (Aa (Ah (Ld K) (qv 1) (Ak (Aa (qv 7) Ab))) (Aa (Ah (Bc K) (qv 2) (qv 8)) Ab)))))))))))
   (Ag (Au (qv 6)))))),?_⟩
  have bg:=big
  have ht0:=ht
  cases ht with
  | @mk b pp wd nv nt us ts qb hn qp l hch =>
  cases tf with
  | mk h3 hbo hts =>
  rw [Tr.size] at hz hd hm
  have flat:∀ z,nt=.flat (.str z)->nv=.str z:=by
   intro z e
   rcases hn with ⟨_,h⟩ | ⟨_,_,_,_,_,h⟩
   ·rw [e] at h;injection h with h;exact h.symm
   ·rw [e] at h;cases h
  walk_at "r"
  refine Dc qb rfl ?_
  walk_at "r"
  refine ⟨Bf,fun a1 h1=>?_⟩
  obtain ⟨H1,s1,e1,z9⟩:=Cn h1 (.lst [])
  rw [z9]
  refine s_gname ?_
  try refine L2.openY (by assumption) ?_
  with_reducible refine s_seq ?_
  refine C5 (t:=Cm _ _ _) (R:=fun σ' H'=>∃ ws,σ'=[some (.ref b),some (.ref p),some (.ref bb),some (.str wd),some nv,some (.ref pp),some (.ref a1),none,none]/\Same H H'/\H' a1=some (.lst ws)/\Al (GpAt K H') ws ([(pl,Tr.mk wd nt ts)].filter E1)) ?_ ?_
  rotate_left
  ·intro Y hY
   walk_at "r"
   rw [Bo]
   by_cases hg:wd = "gap"
   ·rw [decide_eq_true hg]
    walk_at "r"
    refine B0 (SqL.of e1) ?_
    walk_at "r"
    refine ⟨Bb,fun a2 h2=>?_⟩
    have s2:=Same.upd (o:=.tup [.ref p,.ref bb]) h2
    have e2:=s2 _ _ e1
    walk_at "r"
    refine Cs e2 (by show 0 < sizeLine;decide) ?_
    have s02:=(s1.trans s2)
    have s03:=s02.over (o:=.lst [.ref a2]) h1
    have n21:a2≠a1:=fun z=>by rw [z,e1] at h2;cases h2
    refine hY _ _ ⟨[.ref a2],rfl,s03,Ad,?_⟩
    rw [List.filter_cons,if_pos (show E1 (pl,Tr.mk wd nt ts)=true from decide_eq_true hg)]
    refine Al.nil.snoc ⟨a2,p,bb,rfl,SqT.of ((Af n21).trans Ad),s03 _ _ hp,?_⟩
    obtain ⟨bs,zs,c1,c2,c3⟩:=hbd.same s03
    exact ⟨bs,zs,c1,c2,by omega⟩
   ·rw [decide_eq_false hg]
    walk_at "r"
    refine hY _ _ ⟨[],rfl,s1,e1,?_⟩
    rw [List.filter_cons,if_neg (show ¬ E1 (pl,Tr.mk wd nt ts)=true from fun z=>hg (of_decide_eq_true z))]
    exact .nil
  ·rintro _ H2 ⟨ws0,rfl,s2,e2,al2⟩
   walk_at "r"
   refine C1 (s2.tup qp) ?_
   walk_at "r"
   have hul:us.length<=1000:=by
    have:ts.length<=Bh ts:=N7 ts
    omega
   refine ⟨by omega,by omega,?_⟩
   refine Ig (n:=(us.length:Int).toNat) (fun j σ' H'=>∃ v7 v8 r ws,σ'=[some (.ref b),some (.ref p),some (.ref bb),some (.str wd),some nv,some (.ref pp),some (.ref r),v7,v8]/\H' r=some (.lst ws)/\Al (GpAt K H') ws (((pl,Tr.mk wd nt ts)::A7 pl 0 (ts.take j)).filter E1)/\Same H H') ⟨none,none,a1,ws0,rfl,e2,by rw [List.take_zero,A7];exact al2,s2⟩ ?_ ?_
   ·rintro j σ' H3 hj ⟨v7,v8,r,ws,rfl,e3,al,s3⟩
    have hj:j < us.length:=by omega
    have e0:(0:Int)+(j:Int)=((j:Nat):Int):=by omega
    rw [e0]
    have hjt:j < ts.length:=by omega
    have hu:=O5 hj
    have hut:=O5 hjt
    have hsz:=Za9 hut
    walk_at "r"
    refine ⟨Bf,fun a4 h4=>?_⟩
    obtain ⟨H4,s4,e4,z9⟩:=Cn h4 (.lst [])
    rw [z9]
    refine s_gname ?_
    try refine L2.openY (by assumption) ?_
    with_reducible refine s_seq ?_
    refine C5 (t:=Cm _ _ _) (R:=fun σ' H'=>∃ am,σ'=[some (.ref b),some (.ref p),some (.ref bb),some (.str wd),some nv,some (.ref pp),some (.ref r),some (.int ((j:Nat):Int)),some (.ref am)]/\Same H3 H'/\BdAt K H' am 2) ?_ ?_
    rotate_left
    ·intro Y hY
     have none:Y [some (.ref b),some (.ref p),some (.ref bb),some (.str wd),some nv,some (.ref pp),some (.ref r),some (.int ((j:Nat):Int)),some (.ref a4)] H4:=hY _ _ ⟨a4,rfl,s4,[],[],e4,.nil,by decide⟩
     have one:∀ z,nv=.str z->∀ a5,H4 a5=.none->∀ a6,upd H4 a5 (.tup [nv,.str "num"]) a6=.none->Y [some (.ref b),some (.ref p),some (.ref bb),some (.str wd),some nv,some (.ref pp),some (.ref r),some (.int ((j:Nat):Int)),some (.ref a6)] (upd (upd H4 a5 (.tup [nv,.str "num"])) a6 (.lst [.ref a5])):=fun z hz a5 h5 a6 h6=>by
      have s5:=Same.upd (o:=.tup [nv,.str "num"]) h5
      have s6:=Same.upd (o:=.lst [.ref a5]) h6
      have e5:SqT K (upd (upd H4 a5 (.tup [nv,.str "num"])) a6 (.lst [.ref a5])) a5 [.str z,.str "num"]:=by rw [<- hz];exact SqT.of (s6 _ _ Ad)
      exact hY _ _ ⟨a6,rfl,s4.trans (s5.trans s6),[.ref a5],[(z, "num")],Ad,Al.nil.snoc ⟨a5,rfl,e5⟩,by show 1<=2;decide⟩
     walk_at "r"
     rw [Bo]
     by_cases hf:wd = "fn"
     ·obtain ⟨z,e⟩:=hbo.1 (.inl hf)
      rw [decide_eq_true hf]
      walk_at "r"
      refine ⟨Bb,fun a5 h5=>?_⟩
      walk_at "r"
      refine ⟨Br,fun a6 h6=>?_⟩
      exact one z (flat z e) a5 h5 a6 h6
     ·rw [decide_eq_false hf]
      walk_at "r"
      rw [Bo]
      by_cases hl:wd = "let"
      ·obtain ⟨z,e⟩:=hbo.1 (.inr hl)
       rw [decide_eq_true hl]
       walk_at "r"
       refine Bj (fun _=>?_) (fun _=>?_)
       ·walk_at "r"
        refine ⟨Bb,fun a5 h5=>?_⟩
        walk_at "r"
        refine ⟨Br,fun a6 h6=>?_⟩
        exact one z (flat z e) a5 h5 a6 h6
       ·exact none
      ·rw [decide_eq_false hl]
       walk_at "r"
       exact none
    ·rintro _ H5 ⟨am,rfl,s5,bd5⟩
     try refine L2.openY (by assumption) ?_
     with_reducible refine s_seq ?_
     refine C5 (t:=Cm _ _ _) (R:=fun σ' H'=>∃ am,σ'=[some (.ref b),some (.ref p),some (.ref bb),some (.str wd),some nv,some (.ref pp),some (.ref r),some (.int ((j:Nat):Int)),some (.ref am)]/\Same H3 H'/\BdAt K H' am 2) ?_ ?_
     rotate_left
     ·intro Y hY
      walk_at "r"
      rw [Bo]
      by_cases hc:wd = "rec"
      ·obtain ⟨y,z,e⟩:=hbo.2 hc
       obtain ⟨a,ea,qa⟩:∃ a,nv=.ref a/\SqT K H a [.str y,.str z]:=by
        rcases hn with ⟨_,h⟩ | ⟨a,us,e',qa,_,h⟩
        ·rw [e] at h;cases h
        ·refine ⟨a,e',?_⟩
         rw [e] at h
         injection h with h
         obtain ⟨u1,u2,rfl⟩:=lz2 (vs:=us) (by have:=congrArg Sw h;rw [Pa] at this;exact this.symm)
         simp only [Qa,Vl,Wq,Dt.flat.injEq,and_true] at h
         rw [h.1,h.2]
         exact qa
       subst ea
       rw [decide_eq_true hc]
       have s05:=s3.trans s5
       walk_at "r"
       refine Az (s05.tup qa) rfl ?_
       walk_at "r"
       refine ⟨Bb,fun a6 h6=>?_⟩
       have s6:=Same.upd (o:=.tup [.str y,.str "fun"]) h6
       walk_at "r"
       refine Az ((s05.trans s6).tup qa) rfl ?_
       walk_at "r"
       refine ⟨Bb,fun a7 h7=>?_⟩
       have s7:=Same.upd (o:=.tup [.str z,.str "num"]) h7
       walk_at "r"
       refine ⟨Bb,fun a8 h8=>?_⟩
       have s8:=Same.upd (o:=.lst [.ref a6,.ref a7]) h8
       refine hY _ _ ⟨a8,rfl,s5.trans (s6.trans (s7.trans s8)),[.ref a6,.ref a7],[(y, "fun"),(z, "num")],Ad,(Al.nil.snoc ⟨a6,rfl,SqT.of ((s7.trans s8) _ _ Ad)⟩).snoc ⟨a7,rfl,SqT.of (s8 _ _ Ad)⟩,by show 2<=2;decide⟩
      ·rw [decide_eq_false hc]
       walk_at "r"
       exact hY _ _ ⟨am,rfl,s5,bd5⟩
     ·rintro _ H6 ⟨am,rfl,s6,mv,mz,em,alm,lm⟩
      have s06:=s3.trans s6
      obtain ⟨bs,zs,c1,c2,c3⟩:=hbd.same s06
      walk_at "r"
      refine Az (s06.tup qp) (Ci hu) ?_
      walk_at "r"
      refine ⟨Br,fun a7 h7=>?_⟩
      have s7:=Same.upd (o:=.tup [.int ((j:Nat):Int)]) h7
      refine .inr ⟨p,a7,_,_,rfl,rfl,(s06.trans s7) _ _ hp,Ad,by rw [Ce];simp;omega,fun r8 H8 s8 q8=>?_⟩
      have s68:=s7.trans s8
      have q8:H8 r8=some (.tup (Ar (pl++[j]))):=by
       have e:Ar pl++[V.int ((j:Nat):Int)]=Ar (pl++[j]):=by unfold Ar;rw [P4];rfl
       rw [<- e]
       exact q8
      walk_at "r"
      refine Gz (s68 _ _ c1) (s68 _ _ em) (by omega) fun a9 h9=>?_
      have s9:=Same.upd (o:=.lst (bs++mv)) h9
      have s69:=s68.trans s9
      have s09:=s06.trans s69
      walk_at "r"
      refine ⟨us[j],ts[j],r8,a9,pl++[j],m+2,rfl,(hch j _ _ hu hut).same s09,hts _ (Qr hut),s9 _ _ q8,⟨bs++mv,zs++mz,Ad,(c2.mono (PrW.same s69.t)).append (alm.mono (PrW.same s69.t)),by rw [O9];omega⟩,by omega,by rw [O9,Pz];omega,by omega,fun rr ww HR sR eR alR=>?_⟩
      have s3R:=s6.trans (s69.trans sR)
      have l1:ws.length<=1001:=by
       rw [al.1]
       refine Px (List.length_filter_le _ _) ?_
       rw [Ps,Ly]
       have:=Ze7 ts j
       omega
      have l2:ww.length<=1001:=by
       rw [alR.1]
       refine Px (List.length_filter_le _ _) ?_
       rw [Hz]
       omega
      refine Gz (s3R _ _ e3) eR (by omega) fun aF hF=>?_
      have sF:=Same.upd (o:=.lst (ws++ww)) hF
      walk_at "r"
      refine ⟨_,_,aF,ws++ww,rfl,Ad,?_,s3.trans (s3R.trans sF)⟩
      have al':=(al.mono (GpAt.same (s3R.trans sF))).append (alR.mono (GpAt.same sF))
      rw [Zb6 hut,Nt,Vo,Pq,Sq (by omega),<- To,List.filter_append]
      exact al'
   ·rintro σ' H3 ⟨v7,v8,r,ws,rfl,e3,al,s3⟩
    walk_at "r"
    refine q r ws H3 s3 e3 ?_
    rw [walk]
    rw [Qi (by omega)] at al
    exact al
noncomputable def Zeg:Sp:=fun vs H Q _=>∃ c:Int,vs=[.int c]/\∀ z:Int,Q (.int z) H
theorem Zrc:A2 ["_law_cell_here"] ["_law_cell_here"] (Ay Kw):=by walk_at "sc"
theorem Zm5 {f:Addr}{fd:FuncData}(F:Fun K "_law_number" "_law_number" Kw f fd)(T:Txt K mg):FnOk P w K mg base Ao 1 f fd ["_law_cell_here"] Zeg:=by
 refine F.okq Zrc (fun vs H Q E h=>?_) (fun cdv A outer s H vs Q E hr h=>?_)
 ·obtain ⟨c,rfl,_⟩:=h
  rfl
 ·obtain ⟨c,rfl,q⟩:=h
  refine ⟨_,Ae (Ax (Aw (A5 K hr.u200) (Ah Bk (qv 0) Ac) Ac (Av _)) (Ag (Au (Ah Bk (Ah B7 (qv 0) Ac) Ac))) A0)
   (Ae (Ax (Aw (A5 K hr.u200) (Ah Bk (qv 0) Ac) Ac (Av _)) (Ag (Au (Ah Dx (Ah Dx (Ah Zg4 Ac Ac) Ac) (Ah Bk (Ah B7 (qv 0) Ac) Ac)))) A0)
   (Ag (Au (Ah Bk (Ah Iw (qv 0) Ac) (Ah Zg4 Ac Ac))))),?_⟩
  walk_at "r"
  refine Bj (fun h=>?_) (fun h=>?_)
  ·walk_at "r"
   exact q _
  walk_at "r"
  refine Bj (fun h=>?_) (fun h=>?_)
  ·walk_at "r"
   exact q _
  walk_at "r"
  exact q _
theorem Zl8 {n:Int}(h0:0<=n)(h1:n < 10 ^ 18):(Qc (toString n)).length<=19:=by
 have e:=PySem.int_text_length_le10 (a:=n) (k:=18) (by decide) (by omega)
 rw [Str.ofString_eq_toList]
 show ((toString n).toList.map Char.toNat).toArray.size<=19
 rw [O7,Pa,String.length_toList]
 exact e
theorem Zpk {n:Int}(h0:0<=n)(h1:n < 10 ^ 18):n.natAbs.log2 < 1920:=by
 by_cases z:n.natAbs=0
 ·rw [z];decide
 ·rw [Nat.log2_lt z]
  have:n.natAbs < 10 ^ 18:=by omega
  exact Pk this (by decide +kernel)
theorem bk {wd:Str}{d:Dt}(h:wd ≠ "fn" /\ wd ≠ "let" /\ wd ≠ "rec"):Ee wd d:=⟨fun z=>z.elim (fun z=>absurd z h.1) (fun z=>absurd z h.2.1),fun z=>absurd z h.2.2⟩
theorem Oc {wd:Str}{nv:V}(h:wd ≠ "fn" /\ wd ≠ "let" /\ wd ≠ "rec"):Tf (.mk wd (.flat nv) []):=.mk (by decide) (bk h) (fun t ht=>nomatch ht)
theorem Kc {K:O1}{H:Hp}{a p:Addr}{wd:Str}{nv:V}(h1:H a=some (.tup [.str wd,nv,.ref p]))(h2:H p=some (.tup []))(hf:B3 nv=true):TrAt K H (.ref a) (.mk wd (.flat nv) []):=.mk (SqT.of h1) (.inl ⟨hf,rfl⟩) (SqT.of h2) rfl fun j v t e _=>by simp at e
noncomputable def Mu (K:O1):Sp:=fun vs H Q _=>∃(c:Int)(ar pn:Addr)(so:Str)(ts:List Str)(m:Nat),vs=[.int c,.ref ar,.ref pn,.str so]/\BdAt K H ar m/\m<=1000/\H pn=some (.lst (ts.map V.str))/\ts.length=5/\∀ v t H',Same H H'->TrAt K H' v t->Tf t->t.size<=2->Q v H'
theorem Zdy:(["_law_name", "_law_kind", "_law_sort"]:List Str).Nodup:=by decide +kernel
theorem sc_law_end:A2 ["_law_cell_here", "_law_around", "_law_names_here", "_law_sort", "_law_pick", "_law_known"] ["_law_cell_here", "_law_around", "_law_names_here", "_law_sort"] (Ay Ko):=by walk_at "sc"
theorem Zhy {f:Addr}{fd:FuncData}(F:Fun K "_law_end" "_law_end" Ko f fd)(T:Txt K mg)(C__law_number:A4 P w K mg base 1 "_law_number" ["_law_cell_here"] Zeg):FnOk P w K mg base Ao 2 f fd ["_law_cell_here", "_law_around", "_law_names_here", "_law_sort"] (Mu K):=by
 refine F.okq sc_law_end (fun vs H Q E h=>?_) (fun cdv A outer s H vs Q E hr h=>?_)
 ·obtain ⟨c,ar,pn,so,ts,m,rfl,_⟩:=h
  rfl
 ·obtain ⟨c,ar,pn,so,ts,m,rfl,⟨bs,zs,eb,alb,lb⟩,hm,hpn,hts,q⟩:=h
  refine ⟨_,Ae (Aq 4 sc_law_end (Ah Bk (qv 0) Ac))
   (Ae (Aq 0 sc_law_end (Ah B7 (qv 0) Ac))
   (Ae (M8 (i:=5) (N:=["_law_name", "_law_kind", "_law_sort"]) (σ0:=Dv 2 [3]) rfl (Fq rfl (by decide +kernel) (by decide +kernel) (by decide +kernel)) (D5 K (qv 1)) (Fy rfl (by rfl)) (fun _ _ _ _=>Dj K (n:=2) rfl (Bv (A9 (i:=0) Zdy rfl (Or.inl rfl)) (Bv (A9 (i:=1) Zdy rfl (Or.inl rfl)) (Di)))) (fun _ _ _ _=>Zjr (Aw (A5 K hr.u200) (qv 1) (qv 2) (Av _))) (fun _ _ _ _=>qv 0) sc_law_end.nd rfl (Or.inl rfl))
   (Ae (Ax (Aw Eb (qv 4) Ac (Av _)) (Ag (Au (Ak (Aa Am (Aa D4 (Aa (Ak Ab) Ab)))))) A0)
   (Ae (Ax (QW.qt (Du (Aw Eb (qv 4) Ac (Av _)) (D3 (Aw Ho (Be (Cp K) (by rfl) T.len (by decide +kernel) (Aa (qv 5) Ab)) Ac (Av _))))) (Ag (Au (Ak (Aa Am (Aa (Ap K (qv 5) (Ah Bk (qv 0) (Be (Cp K) (by rfl) T.len (by decide +kernel) (Aa (qv 5) Ab)))) (Aa (Ak Ab) Ab)))))) A0)
   (Ae (Ax (QW.qt (Du (Aw (A5 K hr.u200) (qv 4) Ac (Av _)) (D3 (Aw (A5 K hr.u200) (Ah Bk (qv 0) Ac) Ac (Av _))))) (Ag (Au (Ak (Aa Am (Aa (Ap K (qv 2) Ac) (Aa (Ak Ab) Ab)))))) A0)
   (Ae (Ax (QW.qt (Du (Aw (A5 K hr.u200) (qv 4) Ac (Av _)) (D3 (Aw (A5 K hr.u200) (Ah Bk (qv 0) Ac) Ac (Av _))))) (Ag (Au (Ak (Aa Am (Aa (Ah (Bc K) Am (Em Zn6 (by rfl) T.str (by decide +kernel) (Aa (Ah Bk (Ah B7 (qv 0) Ac) Ac) Ab))) (Aa (Ak Ab) Ab)))))) A0)
   (Ae (Ax (Aw (A5 K hr.u200) (qv 3) Am (Av _)) (Ag (Au (Ak (Aa Am (Aa (Ew (A5 K hr.u200) (Ah Bk (qv 0) Ac) Ac (Av _)) (Aa (Ak Ab) Ab)))))) A0)
   (Ae (Ax (Aw (A5 K hr.u200) (qv 3) Am (Av _)) (Ag (Au (Ak (Aa Am (Aa (Ap K (qv 2) (Ah Bk (qv 0) Ac)) (Aa (Ak (Aa (Ak (Aa Am (Aa (Ap K (qv 2) (Ah Bk (Ah B7 (qv 0) Ac) Ac)) (Aa (Ak Ab) Ab)))) Ab)) Ab)))))) A0)
   (Ag (Au (Ak (Aa Am (Aa (A1 C__law_number hr.m (Aa (qv 0) Ab)) (Aa (Ak Ab) Ab)))))))))))))),?_⟩
  have bg:=big
  walk_at "r"
  refine .inl ⟨ar,rfl,⟨_,SqL.of eb⟩,fun D hD=>?_⟩
  refine Iy (K:=K) (a:=ar) (xs:=bs) (Pv:=fun i ys σ' H'=>∃ k0 k1 ks,σ'=[k0,k1,some (.str so)]/\ys=List.map V.str ks/\ks.length<=i/\Same H H') ⟨none,none,[],rfl,rfl,Pw _,Same.upd hD⟩ (fun i ys σ' H' _ ⟨_,_,_,_,_,_,s'⟩=>SqL.of (s' _ _ eb)) ?_ ?_
  ·rintro i y ys σ' H2 hy hys ⟨k0,k1,ks,rfl,rfl,lk,s2⟩
   obtain ⟨z,hz,a,rfl,qa⟩:=alb.get hy
   refine Dc (s2.tup qa) rfl ?_
   walk_at "r"
   refine Bj (fun _=>?_) (fun _=>?_)
   ·walk_at "r"
    have hkl:(ks.map V.str).length < sizeLine:=by
     have:=(Ph.mp hy).1
     rw [Pa]
     omega
    refine ⟨_,hys,hkl,_,Ad,_,_,ks++[z.1],rfl,by rw [P4];rfl,by rw [O9,Pz];omega,s2.over hD⟩
   ·exact ⟨_,hys,_,_,ks,rfl,rfl,by omega,s2⟩
  ·rintro ys σ' H2 hys ⟨k0,k1,ks,rfl,rfl,lk,s2⟩
   have fin:∀(wd:Str)(nv:V)(H1:Hp),Same H H1->B3 nv=true->(wd ≠ "fn" /\ wd ≠ "let" /\ wd ≠ "rec")->∀ a0,H1 a0=none->∀ a1,upd H1 a0 (.tup []) a1=none->Q (.ref a1) (upd (upd H1 a0 (.tup [])) a1 (.tup [.str wd,nv,.ref a0])):=fun wd nv H1 s1 hf hw a0 h0 a1 h1=>by
    have x0:=Same.upd (o:=.tup []) h0
    have x1:=Same.upd (o:=.tup [.str wd,nv,.ref a0]) h1
    exact q _ _ _ (s1.trans (x0.trans x1)) (Kc Ad (x1 _ _ Ad) hf) (Oc hw) (by simp [Tr.size,Bh])
   have hp2:=s2 _ _ hpn
   have nm:∀ i:Int,0<=i->i < 5->∃ x:Str,B2 (ts.map V.str) i=some (.str x):=fun i h0 h1=>by
    obtain ⟨v,hv,hm⟩:=Kn (xs:=ts.map V.str) h0 (by rw [Pa,hts];exact h1)
    obtain ⟨x,_,rfl⟩:=Qp.mp hm
    exact ⟨x,hv⟩
   walk_at "r"
   refine Bj (fun _=>?_) (fun _=>?_)
   ·walk_at "r"
    refine ⟨Bf,fun a0 h0=>?_⟩
    walk_at "r"
    refine ⟨Bg,fun a1 h1=>?_⟩
    exact fin "gap" .non H2 s2 rfl (by decide +kernel) a0 h0 a1 h1
   ·refine s_next ?_
    try refine L2.openY (by assumption) ?_
    with_reducible refine s_seq ?_
    refine C5 (t:=Cm _ _ _) (R:=fun σ' H'=>σ'=[some (.int (c / 8)),some (.ref ar),some (.ref pn),some (.str so),some (.int (c % 8)),some (.ref D)]/\H2=H') ?_ ?_
    rotate_left
    ·intro Y hY
     have go:=hY _ _ ⟨rfl,rfl⟩
     walk_at "r"
     refine Bj (fun _=>?_) (fun _=>?_)
     ·walk_at "r"
      refine El (SqL.of hys) ?_
      walk_at "r"
      refine Bj (fun h=>?_) (fun _=>go)
      have h:(0:Int) < ((ks.map V.str).length:Nat):=of_decide_eq_true h
      walk_at "r"
      refine El (SqL.of hys) ?_
      refine s_rI h ?_
      obtain ⟨v,hv,hm⟩:=Kn (xs:=ks.map V.str) (i:=c / 8 % (((ks.map V.str).length:Nat):Int)) (Qk _ (by omega)) (Rm _ h)
      obtain ⟨x,_,rfl⟩:=Qp.mp hm
      refine Bm (SqL.of hys) hv ?_
      walk_at "r"
      refine ⟨Bf,fun a0 h0=>?_⟩
      walk_at "r"
      refine ⟨Bg,fun a1 h1=>?_⟩
      exact fin "name" (.str x) H2 s2 rfl (by decide +kernel) a0 h0 a1 h1
     ·exact go
    ·rintro _ _ ⟨rfl,rfl⟩
     try refine L2.openY (by assumption) ?_
     with_reducible refine s_seq ?_
     refine C5 (t:=Cm _ _ _) (R:=fun σ' H'=>σ'=[some (.int (c / 8)),some (.ref ar),some (.ref pn),some (.str so),some (.int (c % 8)),some (.ref D)]/\H2=H') ?_ ?_
     rotate_left
     ·intro Y hY
      have go:=hY _ _ ⟨rfl,rfl⟩
      walk_at "r"
      refine Bj (fun _=>?_) (fun _=>?_)
      ·walk_at "r"
       refine Bj (fun h=>?_) (fun _=>go)
       obtain ⟨x,hx⟩:=nm 4 (by decide) (by decide)
       walk_at "r"
       refine Bm (SqL.of hp2) hx ?_
       walk_at "r"
       refine ⟨Bf,fun a0 h0=>?_⟩
       walk_at "r"
       refine ⟨Bg,fun a1 h1=>?_⟩
       exact fin "name" (.str x) H2 s2 rfl (by decide +kernel) a0 h0 a1 h1
      ·exact go
     ·rintro _ _ ⟨rfl,rfl⟩
      try refine L2.openY (by assumption) ?_
      with_reducible refine s_seq ?_
      refine C5 (t:=Cm _ _ _) (R:=fun σ' H'=>σ'=[some (.int (c / 8)),some (.ref ar),some (.ref pn),some (.str so),some (.int (c % 8)),some (.ref D)]/\H2=H') ?_ ?_
      rotate_left
      ·intro Y hY
       have go:=hY _ _ ⟨rfl,rfl⟩
       walk_at "r"
       refine Bj (fun _=>?_) (fun _=>?_)
       ·walk_at "r"
        refine Bj (fun h=>?_) (fun _=>go)
        walk_at "r"
        have o0:0<=c / 8 / 3 % 1000:=Qk _ (by decide)
        have o1:c / 8 / 3 % 1000 < 10 ^ 18:=Int.lt_of_lt_of_le (Rm _ (by decide)) (by decide)
        refine Zji (Zpk o0 o1) ?_
        have h3:(Qc "=").length=1:=by decide +kernel
        refine Zbo (by rw [h3];have:=Zl8 o0 o1;omega) ?_
        walk_at "r"
        refine ⟨Bf,fun a0 h0=>?_⟩
        walk_at "r"
        refine ⟨Bg,fun a1 h1=>?_⟩
        exact fin "odd" _ H2 s2 rfl (by decide +kernel) a0 h0 a1 h1
       ·exact go
      ·rintro _ _ ⟨rfl,rfl⟩
       walk_at "r"
       refine Bj (fun _=>?_) (fun _=>?_)
       ·walk_at "r"
        refine ⟨Bf,fun a0 h0=>?_⟩
        walk_at "r"
        refine ⟨Bg,fun a1 h1=>?_⟩
        exact fin "truth" _ H2 s2 rfl (by decide +kernel) a0 h0 a1 h1
       ·walk_at "r"
        refine Bj (fun _=>?_) (fun _=>?_)
        ·obtain ⟨x,hx⟩:=nm (c / 8 % 4) (Qk _ (by decide)) (by omega)
         obtain ⟨y,hy⟩:=nm (c / 8 / 4 % 5) (Qk _ (by decide)) (by omega)
         walk_at "r"
         refine Bm (SqL.of hp2) hx ?_
         walk_at "r"
         refine Bm (SqL.of hp2) hy ?_
         walk_at "r"
         refine ⟨Bf,fun a0 h0=>?_⟩
         have x0:=Same.upd (o:=.tup []) h0
         walk_at "r"
         refine ⟨Bg,fun a1 h1=>?_⟩
         have x1:=Same.upd (o:=.tup [.str "name",.str y,.ref a0]) h1
         walk_at "r"
         refine ⟨Br,fun a2 h2=>?_⟩
         have x2:=Same.upd (o:=.tup [.ref a1]) h2
         walk_at "r"
         refine ⟨Bg,fun a3 h3=>?_⟩
         have x3:=Same.upd (o:=.tup [.str "fn",.str x,.ref a2]) h3
         have x13:=x2.trans x3
         refine q _ _ _ (s2.trans (x0.trans (x1.trans x13))) (.mk (SqT.of Ad) (.inl ⟨rfl,rfl⟩) (SqT.of (x3 _ _ Ad)) (ts:=[.mk "name" (.flat (.str y)) []]) rfl fun j v t e1 e2=>?_) (.mk (by show 1<=3;decide) ⟨fun _=>⟨x,rfl⟩,fun z=>absurd z (by decide +kernel)⟩ fun t ht=>?_) (by simp [Tr.size,Bh])
         ·match j,e1,e2 with
          | 0,e1,e2 =>
           cases e1
           cases e2
           exact Kc (x13 _ _ Ad) ((x1.trans x13) _ _ Ad) rfl
         ·rw [Qe.mp ht]
          exact Oc (by decide +kernel)
        ·walk_at "r"
         refine ⟨_,rfl,fun z=>?_⟩
         walk_at "r"
         refine ⟨Bf,fun a0 h0=>?_⟩
         walk_at "r"
         refine ⟨Bg,fun a1 h1=>?_⟩
         exact fin "num" _ H2 s2 rfl (by decide +kernel) a0 h0 a1 h1
end
noncomputable def Zr6 (r:Addr)(H H':Hp):Prop:=∀ b o,b≠r->H b=some o->H' b=some o
structure FR (a:Addr)(H H':Hp):Prop where
 r:Zr6 a H H'
 e:∃ cs:List Int,H' a=some (.lst (cs.map V.int))/\cs.length<=63
theorem FR.trans {a:Addr}{H H1 H2:Hp}(x:FR a H H1)(y:FR a H1 H2):FR a H H2:=⟨fun b o n h=>y.r b o n (x.r b o n h),y.e⟩
theorem FR.put {a:Addr}{H H1 H2:Hp}(x:FR a H H1)(s:Same H1 H2):FR a H H2:=⟨fun b o n h=>s b o (x.r b o n h),let ⟨cs,e,l⟩:=x.e;⟨cs,s _ _ e,l⟩⟩
structure FS (K:O1)(H:Hp)(a ar pn:Addr)(ts:List Str)(m:Nat):Prop where
 e:∃ cs:List Int,H a=some (.lst (cs.map V.int))/\cs.length<=63
 bd:BdAt K H ar m
 na:ar≠a
 hp:H pn=some (.lst (ts.map V.str))
 np:pn≠a
 lt:ts.length=5
theorem FR.refl {K:O1}{H:Hp}{a ar pn:Addr}{ts:List Str}{m:Nat}(S:FS K H a ar pn ts m):FR a H H:=⟨fun _ _ _ h=>h,S.e⟩
theorem FR.t {a:Addr}{H H':Hp}(x:FR a H H')(h:∃ cs:List Int,H a=some (.lst (cs.map V.int))/\cs.length<=63):SameT H H':=fun b=>by
 obtain ⟨cs,e,_⟩:=h
 exact ⟨fun xs hb=>x.r b _ (fun z=>by rw [z,e] at hb;cases hb) hb,fun o u hb=>x.r b _ (fun z=>by rw [z,e] at hb;cases hb) hb⟩
theorem FS.step {K:O1}{H H':Hp}{a ar pn:Addr}{ts:List Str}{m:Nat}(S:FS K H a ar pn ts m)(x:FR a H H'):FS K H' a ar pn ts m:=by
 obtain ⟨bs,zs,b1,b2,b3⟩:=S.bd
 exact ⟨x.e,⟨bs,zs,x.r _ _ S.na b1,b2.mono (PrW.same (x.t S.e)),b3⟩,S.na,x.r _ _ S.np S.hp,S.np,S.lt⟩
theorem FS.nm {K:O1}{H:Hp}{a ar pn:Addr}{ts:List Str}{m:Nat}(S:FS K H a ar pn ts m){i:Int}(h0:0<=i)(h1:i < 5):∃ x:Str,B2 (ts.map V.str) i=some (.str x):=by
 obtain ⟨v,hv,hm⟩:=Kn (xs:=ts.map V.str) h0 (by rw [Pa,S.lt];exact h1)
 obtain ⟨x,_,rfl⟩:=Qp.mp hm
 exact ⟨x,hv⟩
theorem FS.more {K:O1}{H:Hp}{a ar pn:Addr}{ts:List Str}{m k:Nat}{bs ms:List V}{zs ws:List (Str×Str)}(S:FS K H a ar pn ts m)(b1:H ar=some (.lst bs))(b2:Al (PrW K H) bs zs)(b3:bs.length<=m)(al:Al (PrW K H) ms ws)(lm:ms.length=k){p:Addr}(hp:H p=none):FS K (upd H p (.lst (bs++ms))) a p pn ts (m+k):=by
 have s:Same H (upd H p (.lst (bs++ms))):=Same.upd hp
 obtain ⟨cs,e,l⟩:=S.e
 exact ⟨⟨cs,s _ _ e,l⟩,⟨bs++ms,zs++ws,Ad,(b2.append al).mono (PrW.same s.t),by rw [O9];omega⟩,(fun z=>by rw [z,e] at hp;cases hp),s _ _ S.hp,S.np,S.lt⟩
noncomputable def G9 (K:O1)(n:Nat):Sp:=fun vs H Q _=>∃(a ar pn:Addr)(ts:List Str)(m room:Nat)(so:Str),vs=[.ref a,.ref ar,.ref pn,.int (room:Nat),.str so]/\FS K H a ar pn ts m/\m+2 * room<=500/\1<=room/\room<=n/\∀ v t H',FR a H H'->TrAt K H' v t->Tf t->t.size+1<=3 * room->Q v H'
theorem N2 {K:O1}{H:Hp}{b p:Addr}{wd:Str}{nv:V}{n:Dt}{us:List V}{ts:List Tr}(h1:H b=some (.tup [.str wd,nv,.ref p]))(hn:IsN K H nv n)(h2:H p=some (.tup us))(al:Al (TrAt K H) us ts):TrAt K H (.ref b) (.mk wd n ts):=.mk (SqT.of h1) hn (SqT.of h2) al.1 fun j v t e1 e2=>al.2 j v t e1 e2
theorem laid {K:O1}{H:Hp}{a:Addr}{H0:Hp}{wd:Str}{nv:V}{n:Dt}{us:List V}{ts:List Tr}{p b:Addr}(r:FR a H0 H)(hn:IsN K H nv n)(al:Al (TrAt K H) us ts)(h1:H p=none)(h2:upd H p (.tup us) b=none):FR a H0 (upd (upd H p (.tup us)) b (.tup [.str wd,nv,.ref p]))/\TrAt K (upd (upd H p (.tup us)) b (.tup [.str wd,nv,.ref p])) (.ref b) (.mk wd n ts):=by
 have s1:=Same.upd (o:=.tup us) h1
 have s2:=Same.upd (o:=.tup [.str wd,nv,.ref p]) h2
 have s:=s1.trans s2
 exact ⟨r.put s,N2 Ad (hn.same s.t) (s2 _ _ Ad) (al.mono fun v t h=>h.same s)⟩
theorem tf_1 {wd:Str}{n:Dt}{t1:Tr}(hb:Ee wd n)(h1:Tf t1):Tf (.mk wd n [t1]):=.mk (by show 1<=3;decide) hb fun t h=>by rw [Qe.mp h];exact h1
theorem Nc {wd:Str}{n:Dt}{t1 t2:Tr}(hb:Ee wd n)(h1:Tf t1)(h2:Tf t2):Tf (.mk wd n [t1,t2]):=.mk (by show 2<=3;decide) hb fun t h=>by
 rcases Pb.mp h with rfl | h
 ·exact h1
 ·rw [Qe.mp h];exact h2
theorem tf_3 {wd:Str}{n:Dt}{t1 t2 t3:Tr}(hb:Ee wd n)(h1:Tf t1)(h2:Tf t2)(h3:Tf t3):Tf (.mk wd n [t1,t2,t3]):=.mk (by show 3<=3;decide) hb fun t h=>by
 rcases Pb.mp h with rfl | h
 ·exact h1
 ·rcases Pb.mp h with rfl | h
  ·exact h2
  ·rw [Qe.mp h];exact h3
theorem sz_1 {wd:Str}{n:Dt}{t1:Tr}:(Tr.mk wd n [t1]).size=1+t1.size:=by simp [Tr.size,Bh]
theorem Mf {wd:Str}{n:Dt}{t1 t2:Tr}:(Tr.mk wd n [t1,t2]).size=1+(t1.size+t2.size):=by simp [Tr.size,Bh]
theorem sz_3 {wd:Str}{n:Dt}{t1 t2 t3:Tr}:(Tr.mk wd n [t1,t2,t3]).size=1+(t1.size+(t2.size+t3.size)):=by simp [Tr.size,Bh]
noncomputable abbrev nm (i:Int):Str×V:=("num",.int i)
noncomputable abbrev Dd (k:Nat):Str×V:=("row",.int (k:Nat))
noncomputable abbrev fm (w:Str)(d:Dt):Option (Str×Dt):=some (w,d)
section
variable {sub:List Nat->Option (Str×Dt)}{rs:List Rx}{w:List Wt}{th:List (Str×V)}{st:Int}{pl:List Nat}{ar:List (Str×Str×V)}{wd:Str}{nv:V}{d:Dt}
theorem one (hz:E8 S)(h:StepU sub S S'):ChU sub S S':=.cons hz h .nil
theorem sm (h:rs.length+(w.length+th.length)<=8900){x:Wt}:E8 ⟨rs,w++[x],th,st⟩:=⟨by show rs.length < 9000;omega,by show (w++[x]).length < 9000;rw [O9,Pz];omega,by show th.length < 9000;omega⟩
theorem Zez (hs:sub pl=some (wd,.flat nv))(ok:LeafOk wd nv)(hz:rs.length+(w.length+th.length)<=8900):ChU sub ⟨rs,w++[⟨pl,ar,false⟩],th,st⟩ ⟨rs++(Ec wd nv rs.length pl ar).2,w,th++[(Ec wd nv rs.length pl ar).1],st+De wd⟩:=by
 refine one (sm hz) ?_
 have:=StepU.come (sub:=sub) (S:=⟨rs,w++[⟨pl,ar,false⟩],th,st⟩) (w:=w) (x:=⟨pl,ar,false⟩) rfl rfl hs ok.word.2.1
 rw [Zib ok] at this
 exact this
theorem Zjn {i:Int}(hs:sub pl=fm "num" (.flat (.int i)))(hz:rs.length+(w.length+th.length)<=8900):ChU sub ⟨rs,w++[⟨pl,ar,false⟩],th,st⟩ ⟨rs,w,th++[nm i],st+1⟩:=by
 have h:=Zez (rs:=rs) (w:=w) (th:=th) (st:=st) (ar:=ar) hs (.inl ⟨rfl,i,rfl⟩) hz
 have e:Ec "num" (.int i) rs.length pl ar=(nm i,[]):=by unfold Ec;rw [if_pos (by decide +kernel)]
 rw [e,Qs] at h
 exact h
theorem Zna (hs:sub pl=fm "gap" (.flat .non))(hz:rs.length+(w.length+th.length)<=8900):ChU sub ⟨rs,w++[⟨pl,ar,false⟩],th,st⟩ ⟨rs++[⟨"gap",A3 pl,[],ar⟩],w,th++[Dd rs.length],st⟩:=by
 have h:=Zez (rs:=rs) (w:=w) (th:=th) (st:=st) (ar:=ar) hs (.inr (.inr (.inr (.inr ⟨rfl,rfl⟩)))) hz
 have e:Ec "gap" .non rs.length pl ar=(Dd rs.length,[⟨"gap",A3 pl,[],ar⟩]):=by
  unfold Ec
  rw [if_neg (by decide +kernel)]
  rfl
 rw [e,show De "gap" = 0 from if_pos rfl,Int.add_zero] at h
 exact h
theorem Zpp (h1:¬ wd∈(["num", "truth"]:List Str))(h2:¬ wd = "name"):Hf wd d:=⟨fun h=>absurd h h1,fun h=>absurd h h2⟩
theorem Zk3 (hs:sub pl=some (wd,d))(hw:Bp wd=some [1,0])(hn:¬ wd∈(["num", "truth"]:List Str)/\¬ wd = "name" /\ ¬ wd = "gap")(hz:rs.length+(w.length+th.length)<=8900):ChU sub ⟨rs,w++[⟨pl,ar,false⟩],th,st⟩ ⟨rs,w++[⟨pl,ar,true⟩]++[⟨pl++[1],ar,false⟩]++[⟨pl++[0],ar,false⟩],th,st+1⟩:=by
 refine one (sm hz) ?_
 have:=StepU.come (sub:=sub) (S:=⟨rs,w++[⟨pl,ar,false⟩],th,st⟩) (w:=w) (x:=⟨pl,ar,false⟩) rfl rfl hs (Zpp hn.1 hn.2.1)
 have e:Ej { (⟨rs,w++[⟨pl,ar,false⟩],th,st⟩:MS) with wait:=w } wd d pl ar=⟨rs,w++[⟨pl,ar,true⟩]++[⟨pl++[1],ar,false⟩]++[⟨pl++[0],ar,false⟩],th,st+1⟩:=by
  unfold Ej
  rw [hw]
  simp only [if_neg hn.2.2]
  simp
 rw [e] at this
 exact this
theorem sm2 (h:rs.length+(w.length+th.length)<=8900){x:Wt}{a b:Str×V}:E8 ⟨rs,w++[x],th++[a]++[b],st⟩:=⟨by show rs.length < 9000;omega,by show (w++[x]).length < 9000;rw [O9,Pz];omega,by show (th++[a]++[b]).length < 9000;simp only [O9,Pz];omega⟩
theorem Zjo {x y:Str×V}(hs:sub pl=some (wd,d))(hw:wd∈Ie)(ok:Ix rs x)(ox:Jx x)(oy:Jx y)(ha:ar.length<=9000)(hz:rs.length+(w.length+th.length)<=8900):ChU sub ⟨rs,w++[⟨pl,ar,true⟩],th++[x]++[y],st⟩ ⟨rs++(G3 wd pl rs.length x y).2,w,th++[(G3 wd pl rs.length x y).1],st⟩:=by
 refine one (sm2 hz) ?_
 have:=StepU.further (sub:=sub) (S:=⟨rs,w++[⟨pl,ar,true⟩],th++[x]++[y],st⟩) (w:=w) (x:=⟨pl,ar,true⟩) rfl rfl hs (.two (th:=th) (x:=x) (y:=y) (.inl hw) (by simp) ok ox oy) ha
 have e:Ex { (⟨rs,w++[⟨pl,ar,true⟩],th++[x]++[y],st⟩:MS) with wait:=w } wd pl th x y=⟨rs++(G3 wd pl rs.length x y).2,w,th++[(G3 wd pl rs.length x y).1],st⟩:=by
  unfold Ex G3
  by_cases h:wd∈Ie/\x.1 = "num" /\ y.1 = "num"
  ·rw [if_pos h,if_pos h]
   simp
  ·rw [if_neg h,if_neg h]
 rw [e] at this
 exact this
theorem Zp3 (i:Int):Ix rs (nm i):=fun h=>absurd (show ("num" : Str) = "row" from h) (by decide +kernel)
theorem Zpn (i:Int):Jx (nm i):=fun _=>⟨i,rfl⟩
end
section
variable {P:Program}{w:World}{K:O1}{mg:Str->Option Value}{base:Heap}
theorem Zsn {K:O1}{TL:Addr}{vs:List V}{H:Hp}{Q Y:VK}{E Z:XK}(h1:∀ v H',Q v H'->Y v H')(h2:∀ c d H',E c d H'->Z c d H')(h:Kz K TL vs H Q E):Kz K TL vs H Y Z:=by
 obtain ⟨tv,fv,av,t,tf,p,q0,rd,fl,d,gs,n,rv,rs,xa,oo,a1,a2,a3,a4,a5,a6,a7,a8,a9,a10,a11,a12,a13,a14,a15,a16,q,qL⟩:=h
 exact ⟨tv,fv,av,t,tf,p,q0,rd,fl,d,gs,n,rv,rs,xa,oo,a1,a2,a3,a4,a5,a6,a7,a8,a9,a10,a11,a12,a13,a14,a15,a16,fun bc S' e=>⟨(q bc S' e).1,fun r' rd' av' rv' H' b1 b2 b3 b4 b5 b6 b7=>h1 _ _ ((q bc S' e).2 r' rd' av' rv' H' b1 b2 b3 b4 b5 b6 b7)⟩,fun e H' s=>h2 _ _ _ (qL e H' s)⟩
noncomputable def Zbe (K:O1)(TL:Addr):Sp:=fun vs H Q _=>∃(a b c d:V)(N:Hp->Prop),vs=[a,b,c,d]/\Kz K TL [a,b,c,d] H Q (fun c d H'=>c=.ref TL/\d=none/\N H')/\∀ H' H2,N H'->Same H' H2->Q .non H2
theorem sc_law_go_on:A2 ["_law_tree", "_law_record", "_law_place", "_law_form_here", "_law_found"] ["_law_tree", "_law_record", "_law_place", "_law_form_here"] (Ay Ka):=by walk_at "sc"
theorem Zkr {TL:Addr}{f:Addr}{fd:FuncData}(F:Fun K "_law_go_on" "_law_go_on" Ka f fd)(T:Txt K mg)(C_go_on:Es P w K mg base 8 "go_on" ["tree", "record", "place", "form"] (Kz K TL))(X_TooLong:C2 K TL)(G_TooLong:mg "TooLong" = some (.ref TL))(O:Pi K (.ref TL) (.ref TL)=some true):FnOk P w K mg base Ao 9 f fd ["_law_tree", "_law_record", "_law_place", "_law_form_here"] (Zbe K TL):=by
 refine F.okq sc_law_go_on (fun vs H Q E h=>?_) (fun cdv A outer s H vs Q E hr h=>?_)
 ·obtain ⟨a,b,c,d,N,rfl,_⟩:=h
  rfl
 ·obtain ⟨a,b,c,d,N,rfl,G,q⟩:=h
  refine ⟨_,Ae (Aq 4 sc_law_go_on D4)
   (Ae (Zox X_TooLong G_TooLong rfl rfl (Zmu (i:=4) sc_law_go_on.nd rfl (Or.inl rfl) (Zb5 C_go_on hr.m (fun _=>Aa (qv 0) (Aa (qv 1) (Aa (qv 2) (Aa (qv 3) Ab)))))) (fun _ _=>Ag (Aq 4 sc_law_go_on D4)))
   (Ag (Au (qv 4)))),?_⟩
  walk_at "r"
  refine ⟨a,rfl,b,rfl,c,rfl,d,rfl,?_⟩
  dsimp only [Gg]
  refine Zsn (fun v H' h=>?_) (fun c d H' h=>?_) G
  ·walk_at "r"
   exact h
  ·obtain ⟨rfl,rfl,n⟩:=h
   refine ⟨⟨TL,rfl,O⟩,fun a1 ha1=>?_⟩
   walk_at "r"
   exact q _ _ n (Same.upd ha1)
end
noncomputable def plusT:Tr:=.mk "plus" (.flat .non) [.mk "num" (.flat (.int 1)) [],.mk "gap" (.flat .non) []]
theorem Zck {t f:Tr}{pl:List Nat}(s:Sub t pl):C7 (Bx t pl f) pl=some f:=by
 induction s with
 | nil t=>rw [N4,Kv]
 | @cons w n ts j t r h s ih =>
  rw [Zaz h,Ir,Tc (Ph.mp h).1]
  exact ih
theorem Zp7 {ts:List Tr}{j:Nat}{t u:Tr}(h:ts[j]?=some t):Bh (ts.set j u)+t.size=Bh ts+u.size:=by
 induction ts generalizing j with
 | nil=>cases h
 | cons a r ih =>
  cases j with
  | zero=>cases h;rw [List.set_cons_zero,Bh,Bh];omega
  | succ j=>have:=ih h;rw [List.set_cons_succ,Bh,Bh];omega
theorem Zla {t f:Tr}{pl:List Nat}(s:Sub t pl):(Bx t pl f).size<=t.size+f.size:=by
 induction s with
 | nil t=>rw [N4];omega
 | @cons w n ts j t r h s ih =>
  rw [Zaz h,Tr.size,Tr.size]
  have:=Zp7 (u:=Bx t r f) h
  omega
theorem Zkp {ar:List (Str×Str×V)}(h:∀ y∈ar,y.2.1 = "num")(bc:List (Str×V)):C4 bc ar=ar:=by
 unfold C4
 induction ar with
 | nil=>rfl
 | cons a r ih =>
  rw [Qa,ih fun y hy=>h y (Q5 _ hy)]
  have e:Dp bc a.2=a.2:=by
   unfold Dp
   rw [if_neg]
   rw [h a (Sl ..)]
   decide +kernel
  rw [e]
noncomputable def Gh (pl:List Nat)(ar:List (Str×Str×V)):List Rx:=[⟨"gap",A3 (pl++[1]),[],ar⟩,⟨"plus",A3 pl,[nm 1,Dd 0],[]⟩]
theorem Zlh {t:Tr}{pl:List Nat}(s:Sub t pl){ar:List (Str×Str×V)}(hal:ar.length<=1000)(ha:∀ y∈ar,y.2.1 = "num"){n:Int}(hn:n<=500):∃ oo,Er (Cu (Bx t pl plusT)) pl [⟨"gap",A3 pl,[],ar⟩] [] ⟨[],[],[],n⟩ oo/\(n+2<=500->oo=some ([Dd 1],⟨Gh pl ar,[],[],n+2⟩))/\(500 < n+2->oo=none):=by
 have w0:Cu (Bx t pl plusT) pl=fm "plus" (.flat .non):=by rw [Zaj,Zck s];rfl
 have wp:∀ q,C7 (Bx t pl plusT) (pl++q)=C7 plusT q:=fun q=>by rw [Zsm,Zck s];rfl
 have w1:Cu (Bx t pl plusT) (pl++[0])=fm "num" (.flat (.int 1)):=by rw [Zaj,wp,plusT,Ir];simp [Kv,Tr.wd,K0]
 have w2:Cu (Bx t pl plusT) (pl++[1])=fm "gap" (.flat .non):=by rw [Zaj,wp,plusT,Ir];simp [Kv,Tr.wd,K0]
 have c1:=Zk3 (rs:=[]) (w:=[]) (th:=[]) (st:=n) (ar:=ar) w0 (by decide +kernel) (by decide +kernel) (by decide)
 have c2:=Zjn (rs:=[]) (w:=[⟨pl,ar,true⟩]++[⟨pl++[1],ar,false⟩]) (th:=[]) (st:=n+1) (ar:=ar) w1 (by show 2<=8900;decide)
 have c3:=Zna (rs:=[]) (w:=[⟨pl,ar,true⟩]) (th:=[nm 1]) (st:=n+1+1) (ar:=ar) w2 (by show 2<=8900;decide)
 have c4:=Zjo (rs:=[⟨"gap",A3 (pl++[1]),[],ar⟩]) (w:=[]) (th:=[]) (st:=n+1+1) (ar:=ar) (x:=nm 1) (y:=Dd 0) w0 (by decide +kernel) (Zp3 1) (Zpn 1) (fun h=>absurd (show ("row" : Str) = "num" from h) (by decide +kernel)) (by omega) (by show 1<=8900;decide)
 have C:ChU (Cu (Bx t pl plusT)) ⟨[],[]++[⟨pl,ar,false⟩],[],n⟩ ⟨Gh pl ar,[],[]++[Dd 1],n+2⟩:=by
  have e:n+1+1=n+2:=by omega
  rw [e] at c2 c3 c4
  have j:G3 "plus" pl 1 (nm 1) (Dd 0)=(Dd 1,[⟨"plus",A3 pl,[nm 1,Dd 0],[]⟩]):=by
   unfold G3
   exact if_neg fun ⟨_,_,h⟩=>absurd (show ("row" : Str) = "num" from h) (by decide +kernel)
  have c4':=c4
  rw [show ([⟨"gap",A3 (pl++[1]),[],ar⟩]:List Rx).length=1 from rfl,j] at c4'
  exact c1.trans (c2.trans (c3.trans c4'))
 have ok:Ji 0 (⟨"gap",A3 pl,[],ar⟩:Rx):=⟨fun y hy=>(nomatch hy),fun y hy h=>by rw [ha y hy] at h;exact absurd h (by decide +kernel),Pw _,hal⟩
 have ea:=Zkp ha []
 by_cases h5:n+2<=500
 ·obtain ⟨k,R⟩:=C.fine rfl h5
  refine ⟨_,.cons (by show 0 < 9000;decide) (by show 0 < 8000;decide) ok (RowG.fill (S:=⟨[],[],[],n⟩) (S':=⟨Gh pl ar,[],[]++[Dd 1],n+2⟩) (th:=[]) rfl (by show RunM _ _ (MS.mk [] ([]++[⟨pl,C4 [] ar,false⟩]) [] n) _;rw [ea];exact R) rfl) .nil,fun _=>rfl,fun h=>by omega⟩
 ·obtain ⟨k,R⟩:=C.late hn (by show 500 < n+2;omega)
  refine ⟨none,.late (by show 0 < 9000;decide) (by show 0 < 8000;decide) ok (RowO.lateF (S:=⟨[],[],[],n⟩) rfl (by show RunL _ _ (MS.mk [] ([]++[⟨pl,C4 [] ar,false⟩]) [] n);rw [ea];exact R)),fun h=>absurd h h5,fun _=>rfl⟩
noncomputable def LgR (K:O1):Option ((Str×V)×List Rx×Int)->V->Hp->Prop
 | none,v,_=>v=.non
 | some (x,rs,m),v,H=>∃(r rd:Addr)(av:V)(rv:List V),v=.ref r/\SqT K H r [av,.ref rd,.int m]/\ThAt K H av x/\H rd=some (.lst rv)/\Al (RwAt K (fun b=>b=rd) H) rv rs
theorem lgo {K:O1}{TL:Addr}{t:Tr}{pl:List Nat}{d:Dt}{gs:List Tr}{n:Int}{rs:List Rx}{xa:Str×V}{H:Hp}{tv fv av:V}{p q0 rd:Addr}{rv:List V}{oo:Option (List (Str×V)×MS)}{Q:VK}{E:XK}(s:Sub t pl)(e:(A8 t pl)[pl.length]?=some (.mk "gap" d gs))(hz:t.size<=100)(hl:pl.length<=100)(G:Er (Cu (Bx t pl plusT)) pl rs [] ⟨[],[],[],n⟩ oo)(nok:∀ bc S',oo=some (bc,S')->J4 bc.length xa)(hn:n<=500)(lr:rs.length<=100)
  (htv:TrAt K H tv t) (hp:SqT K H p (Ar pl)) (hfv:TrAt K H fv plusT) (hq:SqT K H q0 [av,.ref rd,.int n]) (hrd:H rd=some (.lst rv)) (al:Al (RwX K (fun b=>b=rd) H) rv rs) (ha:ThAt K H av xa)
  (hQ:∀ v H2,Same H H2->LgR K (oo.map fun y=>(Dp y.1 xa,y.2.rows,y.2.steps)) v H2->Q v H2):Zbe K TL [tv,.ref q0,.ref p,fv] H Q E:=by
 have wz:=Zla (f:=plusT) s
 have pz:plusT.size=3:=by simp [plusT,Tr.size,Bh]
 refine ⟨tv,.ref q0,.ref p,fv,fun H'=>oo=none/\Same H H',rfl,⟨tv,fv,av,t,plusT,p,q0,rd,pl,d,gs,n,rv,rs,xa,oo,rfl,htv,by omega,hp,s,by omega,e,hfv,by omega,hq,hn,hrd,al,by omega,ha,G,fun bc S' eo=>⟨nok bc S' eo,fun r' rd' av' rv' H' s' q' t' e' al' _ _=>hQ _ _ s' ?_⟩,fun eo H' s'=>⟨rfl,rfl,eo,s'⟩⟩,fun H' H2 ⟨eo,s1⟩ s2=>hQ _ _ (s1.trans s2) (by rw [eo];exact rfl)⟩
 rw [eo]
 exact ⟨r',rd',av',rv',rfl,q',t',e',al'.mono fun v x h=>RwAt.mono (fun b hb _=>.inl hb) _ _ h.1⟩
section
variable {P:Program}{w:World}{K:O1}{mg:Str->Option Value}{base:Heap}
noncomputable def Zcd (K:O1):Sp:=fun vs H Q _=>∃(a:Addr)(k:Int),vs=[.ref a,.int k]/\Script K H a/\0<=k/\k<=1000/\∀ z:Int,Q (.int z) H
theorem Zly:A2 ["_law_script", "_law_k"] ["_law_script", "_law_k"] (Ay Kf):=by walk_at "sc"
theorem Zia {f:Addr}{fd:FuncData}(F:Fun K "_law_cell" "_law_cell" Kf f fd)(T:Txt K mg):FnOk P w K mg base Ao 1 f fd ["_law_script", "_law_k"] (Zcd K):=by
 refine F.okq Zly (fun vs H Q E h=>?_) (fun cdv A outer s H vs Q E hr h=>?_)
 ·obtain ⟨a,k,rfl,_⟩:=h
  rfl
 ·obtain ⟨a,k,rfl,S,h0,h9,q⟩:=h
  obtain ⟨ns,hS,hl⟩:=S.ex
  refine ⟨_,Ae (Ax (Aw Eb (qv 1) (Be (Cp K) (by rfl) T.len (by decide +kernel) (Aa (qv 0) Ab)) (Av _)) (Ag (Au (Ap K (qv 0) (qv 1)))) A0)
   (Ag (Au (Ah (Bc K) (Ah Iw (qv 1) Ac) Ac))),?_⟩
  walk_at "r"
  refine El hS ?_
  walk_at "r"
  refine Bj (fun h=>?_) (fun h=>?_)
  ·have h1:k < (ns.map V.int).length:=by simpa using h
   obtain ⟨v,hv,m⟩:=Kn h0 h1
   obtain ⟨z,_,rfl⟩:=Qp.mp m
   walk_at "r"
   exact Bm hS hv (q z)
  ·walk_at "r"
   exact q _
noncomputable def Jn:Sp:=fun vs H Q _=>∃(c k:Int),vs=[.int c,.int k]/\0<=k/\k<=1000/\∀ z:Int,0<=z->z < 999999999999999989->Q (.int z) H
theorem Zor:A2 ["_law_cell_here", "_law_k"] ["_law_cell_here", "_law_k"] (Ay Jq):=by walk_at "sc"
theorem Zk9 {f:Addr}{fd:FuncData}(F:Fun K "_law_mixed" "_law_mixed" Jq f fd)(T:Txt K mg):FnOk P w K mg base Ao 1 f fd ["_law_cell_here", "_law_k"] Jn:=by
 refine F.okq Zor (fun vs H Q E h=>?_) (fun cdv A outer s H vs Q E hr h=>?_)
 ·obtain ⟨a,k,rfl,_⟩:=h
  rfl
 ·obtain ⟨a,k,rfl,h0,h9,q⟩:=h
  refine ⟨_,Ag (Au (Ah Bk (Ah Iw (Ah (Bc K) (Ah (Bc K) (qv 0) (Ah Iw Ac (qv 1))) Ac) Ac) Ac)),?_⟩
  walk_at "r"
  exact q _ (Qk _ (by decide)) (Rm _ (by decide))
theorem Zgc (c:Int):∃ so:Str,B2 [V.str "num",.str "truth",.str "fun"] (c % 3)=some (.str so):=by
 rcases (show c % 3=0\/c % 3=1\/c % 3=2 by omega) with h | h | h <;> rw [h] <;> exact ⟨_,rfl⟩
theorem Cr:A2 ["_law_cells", "_law_around", "_law_names_here", "_law_room", "_law_sort", "_law_cell_here", "_law_pick", "_law_one", "_law_rest", "_law_name", "_law_kind", "_law_first", "_law_other", "_law_more", "_law_word"] ["_law_cells", "_law_around", "_law_names_here", "_law_room", "_law_sort"] (Ay Iq):=by walk_at "sc"
theorem Zow {n:Nat}{f:Addr}{fd:FuncData}(F:Fun K "_law_form" "_law_form" Iq f fd)(T:Txt K mg)(C__law_mixed:A4 P w K mg base 1 "_law_mixed" ["_law_cell_here", "_law_k"] Jn)(C__law_end:A4 P w K mg base 2 "_law_end" ["_law_cell_here", "_law_around", "_law_names_here", "_law_sort"] (Mu K))(C__law_form:A4 P w K mg base (n+3) "_law_form" ["_law_cells", "_law_around", "_law_names_here", "_law_room", "_law_sort"] (G9 K n)):FnOk P w K mg base Ao (n+4) f fd ["_law_cells", "_law_around", "_law_names_here", "_law_room", "_law_sort"] (G9 K (n+1)):=by
 refine F.okq Cr (fun vs H Q E h=>?_) (fun cdv A outer s H vs Q E hr h=>?_)
 ·obtain ⟨a,ar,pn,ts,m,room,so,rfl,_⟩:=h
  rfl
 ·obtain ⟨a,ar,pn,ts,m,room,so,rfl,S0,hm,h1,hn,q⟩:=h
  refine ⟨_,Ae (Aq 5 Cr Ac)
   (Ae (Ax (Aw Ho (Be (Cp K) (by rfl) T.len (by decide +kernel) (Aa (qv 0) Ab)) Ac (Av _)) (Ag (Aq 5 Cr (Lj K Pr Ur Us Lx (qv 0)))) A0)
   (Ae (Aq 6 Cr (Ah Bk (qv 5) Ac))
   (Ae (Aq 5 Cr (A1 C__law_mixed (hr.mono (by omega)) (Aa (qv 5) (Aa (Be (Cp K) (by rfl) T.len (by decide +kernel) (Aa (qv 0) Ab)) Ab))))
   (Ae (Ax (Aw (A5 K hr.u200) (qv 6) Ac (Av _)) (Ag (Aq 4 Cr (Ap K (Ba (Aa Am (Aa Am (Aa Am Ab)))) (Ah Bk (qv 5) Ac)))) A0)
   (Ae (Ax (QW.qt (Fo (Aw Eb (qv 3) Ac (Av _)) (F0 (Aw Eb (qv 6) Ac (Av _))))) (Ag (Au (A1 C__law_end (hr.mono (by omega)) (Aa (qv 5) (Aa (qv 1) (Aa (qv 2) (Aa (qv 4) Ab))))))) A0)
   (Ae (Aq 7 Cr (Ah (Bc K) Ac (Ah Bk (qv 5) (Ah Dx (qv 3) Ac))))
   (Ae (Aq 8 Cr (Ah Dx (Ah Dx (qv 3) Ac) (qv 7)))
   (Ae (Aq 9 Cr (Ap K (qv 2) (Ah Bk (Ah B7 (qv 5) Ac) Ac)))
   (Ae (Ax (Aw Eb (qv 6) Ac (Av _)) (Ae (Aq 10 Cr (Ap K (Ba (Aa Am (Aa Am (Aa Am Ab)))) (Ah Bk (Ah B7 (qv 5) Ac) Ac)))
   (Ae (Aq 11 Cr (A1 C__law_form (hr.mono (by omega)) (Aa (qv 0) (Aa (qv 1) (Aa (qv 2) (Aa (qv 7) (Aa (qv 10) Ab)))))))
   (Ag (Au (Ak (Aa Am (Aa (qv 9) (Aa (Ak (Aa (qv 11) (Aa (A1 C__law_form (hr.mono (by omega)) (Aa (qv 0) (Aa (Ah (Bc K) (qv 1) (Ba (Aa (Ak (Aa (qv 9) (Aa (qv 10) Ab))) Ab))) (Aa (qv 2) (Aa (qv 8) (Aa (qv 4) Ab)))))) Ab))) Ab)))))))) A0)
   (Ae (Ax (Aw Eb (qv 6) Ac (Av _)) (Ae (Aq 11 Cr (A1 C__law_form (hr.mono (by omega)) (Aa (qv 0) (Aa (qv 1) (Aa (qv 2) (Aa (qv 7) (Aa Am Ab)))))))
   (Ae (Aq 12 Cr (A1 C__law_form (hr.mono (by omega)) (Aa (qv 0) (Aa (qv 1) (Aa (qv 2) (Aa (Ah B7 (Ah (Bc K) (qv 8) Ac) Ac) (Aa (qv 4) Ab)))))))
   (Ag (Au (Ak (Aa Am (Aa D4 (Aa (Ak (Aa (qv 11) (Aa (qv 12) (Aa (A1 C__law_form (hr.mono (by omega)) (Aa (qv 0) (Aa (qv 1) (Aa (qv 2) (Aa (Ah B7 (Ah (Bc K) (qv 8) Ac) Ac) (Aa (qv 4) Ab)))))) Ab)))) Ab)))))))) A0)
   (Ae (Ax (QW.qt (Du (Aw (A5 K hr.u200) (qv 4) Am (Av _)) (D3 (Aw Eb (qv 6) Ac (Av _))))) (Ag (Au (Ak (Aa Am (Aa (qv 9) (Aa (Ak (Aa (A1 C__law_form (hr.mono (by omega)) (Aa (qv 0) (Aa (Ah (Bc K) (qv 1) (Ba (Aa (Ak (Aa (qv 9) (Aa Am Ab))) Ab))) (Aa (qv 2) (Aa (Ah Dx (qv 3) Ac) (Aa Am Ab)))))) Ab)) Ab)))))) A0)
   (Ae (Ax (Aw (A5 K hr.u200) (qv 4) Am (Av _)) (Ae (Aq 13 Cr (Ah (Bc K) (qv 1) (Ba (Aa (Ak (Aa (Ap K (qv 2) (Ah Bk (Ah B7 (qv 5) Ac) Ac)) (Aa Am Ab))) (Aa (Ak (Aa (qv 9) (Aa Am Ab))) Ab)))))
   (Ag (Au (Ak (Aa Am (Aa (Ak (Aa (Ap K (qv 2) (Ah Bk (Ah B7 (qv 5) Ac) Ac)) (Aa (qv 9) Ab))) (Aa (Ak (Aa (A1 C__law_form (hr.mono (by omega)) (Aa (qv 0) (Aa (qv 13) (Aa (qv 2) (Aa (Ah Dx (qv 3) Ac) (Aa Am Ab)))))) Ab)) Ab))))))) A0)
   (Ae (Ax (QW.qt (Du (Aw (A5 K hr.u200) (qv 4) Am (Av _)) (D3 (Aw Ho (qv 6) Ac (Av _))))) (Ae (Aq 11 Cr (A1 C__law_form (hr.mono (by omega)) (Aa (qv 0) (Aa (qv 1) (Aa (qv 2) (Aa (qv 7) (Aa Am Ab)))))))
   (Ag (Au (Ak (Aa Am (Aa D4 (Aa (Ak (Aa (qv 11) (Aa (A1 C__law_form (hr.mono (by omega)) (Aa (qv 0) (Aa (qv 1) (Aa (qv 2) (Aa (qv 8) (Aa Am Ab)))))) Ab))) Ab))))))) A0)
   (Ae (Aq 14 Cr Am)
   (Ae (Ax (Aw (A5 K hr.u200) (qv 4) Am (Av _)) (Ag (Aq 14 Cr (Ap K (Ba (Aa Am (Aa Am (Aa Am Ab)))) (Ah Dx (qv 6) Ac)))) A0)
   (Ae (Aq 11 Cr (A1 C__law_form (hr.mono (by omega)) (Aa (qv 0) (Aa (qv 1) (Aa (qv 2) (Aa (qv 7) (Aa Am Ab)))))))
   (Ag (Au (Ak (Aa (qv 14) (Aa D4 (Aa (Ak (Aa (qv 11) (Aa (A1 C__law_form (hr.mono (by omega)) (Aa (qv 0) (Aa (qv 1) (Aa (qv 2) (Aa (qv 8) (Aa Am Ab)))))) Ab))) Ab)))))))))))))))))))))),?_⟩
  have bg:=big
  try refine L2.openY (by assumption) ?_
  with_reducible refine s_seq ?_
  with_reducible refine s_asg ?_
  with_reducible refine s_c ?_
  refine s_gname ?_
  try refine L2.openY (by assumption) ?_
  with_reducible refine s_seq ?_
  refine C5 (t:=Cm _ _ _) (R:=fun σ' H'=>∃ z:Int,σ'=[some (.ref a),some (.ref ar),some (.ref pn),some (.int (room:Nat)),some (.str so),some (.int z),none,none,none,none,none,none,none,none,none]/\FR a H H') ?_ ?_
  rotate_left
  ·intro Y hY
   obtain ⟨cs,ea,lc⟩:=S0.e
   walk_at "r"
   refine El (SqL.of ea) ?_
   walk_at "r"
   refine Bj (fun h=>?_) (fun _=>?_)
   ·have h:(0:Int) < ((cs.map V.int).length:Nat):=of_decide_eq_true h
    rcases List.eq_nil_or_concat cs with e | ⟨cs',z,e⟩
    ·rw [e] at h;exact absurd h (by decide)
    ·rw [List.concat_eq_append] at e
     subst e
     rw [P4] at ea
     rw [O9] at lc
     walk_at "r"
     refine B0 (SqL.of ea) ?_
     refine Ks ea ?_
     exact hY _ _ ⟨z,rfl,fun b o nb hb=>by rw [Af nb];exact hb,cs',Ad,by omega⟩
   ·exact hY _ _ ⟨0,rfl,FR.refl S0⟩
  ·rintro _ H1 ⟨z,rfl,r1⟩
   have S1:=S0.step r1
   obtain ⟨cs1,ea1,lc1⟩:=r1.e
   walk_at "r"
   refine El (SqL.of ea1) ?_
   walk_at "r"
   refine ⟨z,_,rfl,by omega,by rw [Pa];omega,fun c _ _=>?_⟩
   refine s_gname ?_
   try refine L2.openY (by assumption) ?_
   with_reducible refine s_seq ?_
   refine C5 (t:=Cm _ _ _) (R:=fun σ' H'=>∃ so':Str,σ'=[some (.ref a),some (.ref ar),some (.ref pn),some (.int (room:Nat)),some (.str so'),some (.int c),some (.int (z % 13)),none,none,none,none,none,none,none,none]/\FR a H H') ?_ ?_
   rotate_left
   ·intro Y hY
    walk_at "r"
    refine Bj (fun _=>?_) (fun _=>?_)
    ·walk_at "r"
     refine ⟨Bg,fun a2 h2=>?_⟩
     obtain ⟨so',hso⟩:=Zgc c
     walk_at "r"
     refine Bm (SqL.of Ad) hso ?_
     exact hY _ _ ⟨so',rfl,r1.put (Same.upd h2)⟩
    ·exact hY _ _ ⟨so,rfl,r1⟩
   ·rintro _ H2 ⟨so',rfl,r2⟩
    have S2:=S0.step r2
    have fin:∀ H3 v t,FR a H2 H3->TrAt K H3 v t->Tf t->t.size<=2->Q v H3:=fun H3 v t r3 ht tf hz=>q v t H3 (r2.trans r3) ht tf (by omega)
    have ret0:Mu K [.int c,.ref ar,.ref pn,.str so'] H2 Q E0:=⟨c,ar,pn,so',ts,m,rfl,S2.bd,by omega,S2.hp,S2.lt,fun v t H3 s3 ht tf hz=>fin H3 v t ((FR.refl S2).put s3) ht tf hz⟩
    walk_at "r"
    refine Bj (fun _=>?_) (fun h3=>?_)
    ·walk_at "r"
     exact ret0
    have h3:3<=room:=by
     by_cases y:(room:Int) < 3
     ·exact absurd (decide_eq_true y) h3
     ·omega
    walk_at "r"
    refine Bj (fun _=>?_) (fun _=>?_)
    ·walk_at "r"
     exact ret0
    walk_at "r"
    refine s_rI (by show (0:Int) < (room:Int) - 2;omega) ?_
    walk_at "r"
    obtain ⟨k1,ek1,k11,k12⟩:∃ k:Nat,1+c % ((room:Int) - 2)=(k:Int)/\1<=k/\k+2<=room:=by
     have y0:=Qk c (show (room:Int) - 2≠0 by omega)
     have y1:=Rm c (show (0:Int) < (room:Int) - 2 by omega)
     exact ⟨(1+c % ((room:Int) - 2)).toNat,by omega,by omega,by omega⟩
    rw [ek1]
    obtain ⟨k2,ek2,k22⟩:∃ k:Nat,(room:Int) - 1 - (k1:Int)=(k:Int)/\k1+k+1=room:=⟨room - 1 - k1,by omega,by omega⟩
    rw [ek2]
    obtain ⟨x,hx⟩:=S2.nm (i:=c / 7 % 4) (Qk _ (by decide)) (by omega)
    refine Bm (SqL.of S2.hp) hx ?_
    walk_at "r"
    refine Bj (fun _=>?_) (fun _=>?_)
    ·walk_at "r"
     refine ⟨Bg,fun a3 h3=>?_⟩
     obtain ⟨ki,hki⟩:=Zgc (c / 3)
     have r3:=(FR.refl S2).put (Same.upd (o:=.lst [.str "num",.str "truth",.str "fun"]) h3)
     walk_at "r"
     refine Bm (SqL.of Ad) hki ?_
     revert r3
     generalize upd H2 a3 (.lst [.str "num",.str "truth",.str "fun"])=H3
     intro r3
     walk_at "r"
     refine ⟨a,ar,pn,ts,m,k1,ki,rfl,S2.step r3,by omega,by omega,by omega,fun v1 t1 H4 r4 tr1 tf1 z1=>?_⟩
     have r04:=r3.trans r4
     have S4:=S2.step r04
     obtain ⟨bs,zs,b1,b2,b3⟩:=S4.bd
     walk_at "r"
     refine ⟨Bb,fun a5 h5=>?_⟩
     walk_at "r"
     refine ⟨Br,fun a6 h6=>?_⟩
     have s5:=Same.upd (o:=.tup [.str x,.str ki]) h5
     have s6:=Same.upd (o:=.lst [.ref a5]) h6
     have s56:=s5.trans s6
     have e5:=s6 _ _ (show upd H4 a5 (.tup [.str x,.str ki]) a5=some (.tup [.str x,.str ki]) from Ad)
     have e6:upd (upd H4 a5 (.tup [.str x,.str ki])) a6 (.lst [.ref a5]) a6=some (.lst [.ref a5]):=Ad
     revert s56 e5 e6
     generalize upd (upd H4 a5 (.tup [.str x,.str ki])) a6 (.lst [.ref a5])=H6
     intro s56 e5 e6
     refine Gz (s56 _ _ b1) e6 (by show bs.length+1<=sizeLine;omega) fun a7 h7=>?_
     have S7:=(S4.step ((FR.refl S4).put s56)).more (s56 _ _ b1) (b2.mono (PrW.same s56.t)) b3 (ms:=[.ref a5]) (ws:=[(x,ki)]) (Al.nil.snoc ⟨a5,rfl,SqT.of e5⟩) rfl h7
     have r47:=((FR.refl S4).put s56).put (Same.upd (o:=.lst (bs++[.ref a5])) h7)
     revert S7 r47
     generalize upd H6 a7 (.lst (bs++[.ref a5]))=H7
     intro S7 r47
     walk_at "r"
     refine ⟨a,a7,pn,ts,m+1,k2,so',rfl,S7,by omega,by omega,by omega,fun v2 t2 H8 r8 tr2 tf2 z2=>?_⟩
     have r48:=r47.trans r8
     walk_at "r"
     refine ⟨Bb,fun p9 h9=>?_⟩
     walk_at "r"
     refine ⟨Bg,fun b9 h10=>?_⟩
     obtain ⟨R,TR⟩:=laid (us:=[v1,v2]) (ts:=[t1,t2]) (wd := "let") (nv:=.str x) (n:=.flat (.str x)) (r2.trans (r04.trans r48)) (.inl ⟨rfl,rfl⟩) ((Al.nil.snoc (tr1.sameT (r48.t S4.e))).snoc tr2) h9 h10
     exact q _ _ _ R TR (Nc ⟨fun _=>⟨x,rfl⟩,fun z=>absurd z (by decide +kernel)⟩ tf1 tf2) (by rw [Mf];omega)
    obtain ⟨kr,ekr,kr1⟩:∃ k:Nat,(room:Int) - 1=(k:Int)/\k+1=room:=⟨room - 1,by omega,by omega⟩
    walk_at "r"
    refine Bj (fun _=>?_) (fun p7=>?_)
    ·walk_at "r"
     refine ⟨a,ar,pn,ts,m,k1, "truth",rfl,S2,by omega,by omega,by omega,fun v1 t1 H4 r4 tr1 tf1 z1=>?_⟩
     have S4:=S2.step r4
     obtain ⟨kh,ekh,kh1,kh2⟩:∃ k:Nat,((k2:Int)+1) / 2=(k:Int)/\1<=k/\2 * k<=k2+1:=⟨(k2+1) / 2,by omega,by omega,by omega⟩
     walk_at "r"
     rw [ekh]
     refine ⟨a,ar,pn,ts,m,kh,so',rfl,S4,by omega,by omega,by omega,fun v2 t2 H5 r5 tr2 tf2 z2=>?_⟩
     have S5:=S4.step r5
     walk_at "r"
     rw [ekh]
     refine ⟨a,ar,pn,ts,m,kh,so',rfl,S5,by omega,by omega,by omega,fun v3 t3 H6 r6 tr3 tf3 z3=>?_⟩
     walk_at "r"
     refine ⟨Bg,fun p9 h9=>?_⟩
     walk_at "r"
     refine ⟨Bg,fun b9 h10=>?_⟩
     obtain ⟨R,TR⟩:=laid (us:=[v1,v2,v3]) (ts:=[t1,t2,t3]) (wd := "if") (nv:=.non) (n:=.flat .non) (r2.trans (r4.trans (r5.trans r6))) (.inl ⟨rfl,rfl⟩) (((Al.nil.snoc (tr1.sameT ((r5.trans r6).t S4.e))).snoc (tr2.sameT (r6.t S5.e))).snoc tr3) h9 h10
     exact q _ _ _ R TR (tf_3 (bk (by decide +kernel)) tf1 tf2 tf3) (by rw [sz_3];omega)
    have p7:7<=z % 13:=by
     by_cases y:z % 13 < 7
     ·exact absurd (decide_eq_true y) p7
     ·omega
    refine s_next ?_
    try refine L2.openY (by assumption) ?_
    with_reducible refine s_seq ?_
    refine C5 (t:=Cm _ _ _) (R:=fun σ' H'=>σ'=[some (.ref a),some (.ref ar),some (.ref pn),some (.int (room:Nat)),some (.str so'),some (.int c),some (.int (z % 13)),some (.int (k1:Nat)),some (.int (k2:Nat)),some (.str x),none,none,none,none,none]/\H2=H') ?_ ?_
    rotate_left
    ·intro Y hY
     have go:=hY _ _ ⟨rfl,rfl⟩
     walk_at "r"
     refine Bj (fun _=>?_) (fun _=>?_)
     ·walk_at "r"
      refine Bj (fun _=>?_) (fun _=>go)
      walk_at "r"
      obtain ⟨bs,zs,b1,b2,b3⟩:=S2.bd
      refine ⟨Bb,fun a5 h5=>?_⟩
      walk_at "r"
      refine ⟨Br,fun a6 h6=>?_⟩
      have s5:=Same.upd (o:=.tup [.str x,.str "num"]) h5
      have s6:=Same.upd (o:=.lst [.ref a5]) h6
      have s56:=s5.trans s6
      have e5:=s6 _ _ (show upd H2 a5 (.tup [.str x,.str "num"]) a5=some (.tup [.str x,.str "num"]) from Ad)
      have e6:upd (upd H2 a5 (.tup [.str x,.str "num"])) a6 (.lst [.ref a5]) a6=some (.lst [.ref a5]):=Ad
      revert s56 e5 e6
      generalize upd (upd H2 a5 (.tup [.str x,.str "num"])) a6 (.lst [.ref a5])=H6
      intro s56 e5 e6
      refine Gz (s56 _ _ b1) e6 (by show bs.length+1<=sizeLine;omega) fun a7 h7=>?_
      have S7:=(S2.step ((FR.refl S2).put s56)).more (s56 _ _ b1) (b2.mono (PrW.same s56.t)) b3 (ms:=[.ref a5]) (ws:=[(x, "num")]) (Al.nil.snoc ⟨a5,rfl,SqT.of e5⟩) rfl h7
      have r27:=((FR.refl S2).put s56).put (Same.upd (o:=.lst (bs++[.ref a5])) h7)
      revert S7 r27
      generalize upd H6 a7 (.lst (bs++[.ref a5]))=H7
      intro S7 r27
      walk_at "r"
      rw [ekr]
      refine ⟨a,a7,pn,ts,m+1,kr, "num",rfl,S7,by omega,by omega,by omega,fun v1 t1 H8 r8 tr1 tf1 z1=>?_⟩
      walk_at "r"
      refine ⟨Br,fun p9 h9=>?_⟩
      walk_at "r"
      refine ⟨Bg,fun b9 h10=>?_⟩
      obtain ⟨R,TR⟩:=laid (us:=[v1]) (ts:=[t1]) (wd := "fn") (nv:=.str x) (n:=.flat (.str x)) (r2.trans (r27.trans r8)) (.inl ⟨rfl,rfl⟩) (Al.nil.snoc tr1) h9 h10
      exact q _ _ _ R TR (tf_1 ⟨fun _=>⟨x,rfl⟩,fun z=>absurd z (by decide +kernel)⟩ tf1) (by rw [sz_1];omega)
     ·exact go
    rintro _ _ ⟨rfl,rfl⟩
    walk_at "r"
    refine Bj (fun _=>?_) (fun _=>?_)
    ·obtain ⟨bs,zs,b1,b2,b3⟩:=S2.bd
     obtain ⟨y,hy⟩:=S2.nm (i:=c / 28 % 4) (Qk _ (by decide)) (by omega)
     walk_at "r"
     refine Bm (SqL.of S2.hp) hy ?_
     walk_at "r"
     refine ⟨Bb,fun a5 h5=>?_⟩
     walk_at "r"
     refine ⟨Bb,fun a6 h6=>?_⟩
     walk_at "r"
     refine ⟨Bb,fun a7 h7=>?_⟩
     have s5:=Same.upd (o:=.tup [.str y,.str "fun"]) h5
     have s6:=Same.upd (o:=.tup [.str x,.str "num"]) h6
     have s7:=Same.upd (o:=.lst [.ref a5,.ref a6]) h7
     have s57:=s5.trans (s6.trans s7)
     have e5:=(s6.trans s7) _ _ (show upd H2 a5 (.tup [.str y,.str "fun"]) a5=some (.tup [.str y,.str "fun"]) from Ad)
     have e6:=s7 _ _ (show upd (upd H2 a5 (.tup [.str y,.str "fun"])) a6 (.tup [.str x,.str "num"]) a6=some (.tup [.str x,.str "num"]) from Ad)
     have e7:upd (upd (upd H2 a5 (.tup [.str y,.str "fun"])) a6 (.tup [.str x,.str "num"])) a7 (.lst [.ref a5,.ref a6]) a7=some (.lst [.ref a5,.ref a6]):=Ad
     revert s57 e5 e6 e7
     generalize upd (upd (upd H2 a5 (.tup [.str y,.str "fun"])) a6 (.tup [.str x,.str "num"])) a7 (.lst [.ref a5,.ref a6])=H6
     intro s56 e5 e6 e7
     refine Gz (s56 _ _ b1) e7 (by show bs.length+2<=sizeLine;omega) fun a8 h8=>?_
     have S7:=(S2.step ((FR.refl S2).put s56)).more (s56 _ _ b1) (b2.mono (PrW.same s56.t)) b3 (ms:=[.ref a5,.ref a6]) (ws:=[(y, "fun"),(x, "num")]) ((Al.nil.snoc ⟨a5,rfl,SqT.of e5⟩).snoc ⟨a6,rfl,SqT.of e6⟩) rfl h8
     have r27:=((FR.refl S2).put s56).put (Same.upd (o:=.lst (bs++[.ref a5,.ref a6])) h8)
     revert S7 r27
     generalize upd H6 a8 (.lst (bs++[.ref a5,.ref a6]))=H7
     intro S7 r27
     walk_at "r"
     refine Bm (SqL.of S7.hp) hy ?_
     walk_at "r"
     refine ⟨Bb,fun a9 h9=>?_⟩
     have s9:=Same.upd (o:=.tup [.str y,.str x]) h9
     have e9:upd H7 a9 (.tup [.str y,.str x]) a9=some (.tup [.str y,.str x]):=Ad
     have r79:=(FR.refl S7).put s9
     revert r79 e9
     generalize upd H7 a9 (.tup [.str y,.str x])=H9
     intro e9 r79
     have S9:=S7.step r79
     walk_at "r"
     rw [ekr]
     refine ⟨a,a8,pn,ts,m+2,kr, "num",rfl,S9,by omega,by omega,by omega,fun v1 t1 H8 r8 tr1 tf1 z1=>?_⟩
     walk_at "r"
     refine ⟨Br,fun p9 h9=>?_⟩
     walk_at "r"
     refine ⟨Bg,fun b9 h10=>?_⟩
     obtain ⟨R,TR⟩:=laid (us:=[v1]) (ts:=[t1]) (wd := "rec") (nv:=.ref a9) (n:=.tup [.flat (.str y),.flat (.str x)]) (r2.trans (r27.trans (r79.trans r8))) (.inr ⟨a9,[.str y,.str x],rfl,SqT.of (((r8.t S9.e) a9).1 _ e9),rfl,rfl⟩) (Al.nil.snoc tr1) h9 h10
     exact q _ _ _ R TR (tf_1 ⟨fun z=>absurd z (by decide +kernel),fun _=>⟨y,x,rfl⟩⟩ tf1) (by rw [sz_1];omega)
    refine s_next ?_
    try refine L2.openY (by assumption) ?_
    with_reducible refine s_seq ?_
    refine C5 (t:=Cm _ _ _) (R:=fun σ' H'=>σ'=[some (.ref a),some (.ref ar),some (.ref pn),some (.int (room:Nat)),some (.str so'),some (.int c),some (.int (z % 13)),some (.int (k1:Nat)),some (.int (k2:Nat)),some (.str x),none,none,none,none,none]/\H2=H'/\(so' = "num" -> z % 13<=9)) ?_ ?_
    rotate_left
    ·intro Y hY
     walk_at "r"
     rw [Bo]
     by_cases hs:so' = "num"
     ·rw [decide_eq_true hs]
      walk_at "r"
      refine Bj (fun _=>?_) (fun y=>?_)
      ·walk_at "r"
       refine ⟨a,ar,pn,ts,m,k1, "fun",rfl,S2,by omega,by omega,by omega,fun v1 t1 H4 r4 tr1 tf1 z1=>?_⟩
       have S4:=S2.step r4
       walk_at "r"
       refine ⟨a,ar,pn,ts,m,k2, "num",rfl,S4,by omega,by omega,by omega,fun v2 t2 H5 r5 tr2 tf2 z2=>?_⟩
       walk_at "r"
       refine ⟨Bb,fun p9 h9=>?_⟩
       walk_at "r"
       refine ⟨Bg,fun b9 h10=>?_⟩
       obtain ⟨R,TR⟩:=laid (us:=[v1,v2]) (ts:=[t1,t2]) (wd := "call") (nv:=.non) (n:=.flat .non) (r2.trans (r4.trans r5)) (.inl ⟨rfl,rfl⟩) ((Al.nil.snoc (tr1.sameT (r5.t S4.e))).snoc tr2) h9 h10
       exact q _ _ _ R TR (Nc (bk (by decide +kernel)) tf1 tf2) (by rw [Mf];omega)
      ·refine hY _ _ ⟨rfl,rfl,fun _=>?_⟩
       by_cases y':9 < z % 13
       ·exact absurd (decide_eq_true y') y
       ·omega
     ·rw [decide_eq_false hs]
      walk_at "r"
      exact hY _ _ ⟨rfl,rfl,fun h=>absurd h hs⟩
    rintro _ _ ⟨rfl,rfl,p9⟩
    try refine L2.openY (by assumption) ?_
    with_reducible refine s_seq ?_
    with_reducible refine s_asg ?_
    with_reducible refine s_c ?_
    refine s_gname ?_
    try refine L2.openY (by assumption) ?_
    with_reducible refine s_seq ?_
    refine C5 (t:=Cm _ _ _) (R:=fun σ' H'=>∃ wd:Str,σ'=[some (.ref a),some (.ref ar),some (.ref pn),some (.int (room:Nat)),some (.str so'),some (.int c),some (.int (z % 13)),some (.int (k1:Nat)),some (.int (k2:Nat)),some (.str x),none,none,none,none,some (.str wd)]/\(wd ≠ "fn" /\ wd ≠ "let" /\ wd ≠ "rec")/\FR a H2 H') ?_ ?_
    rotate_left
    ·intro Y hY
     walk_at "r"
     rw [Bo]
     by_cases hs:so' = "num"
     ·have p9:=p9 hs
      rw [decide_eq_true hs]
      walk_at "r"
      refine ⟨Bg,fun a5 h5=>?_⟩
      obtain ⟨wd,hwd,hb⟩:∃ wd:Str,B2 [V.str "plus",.str "plus",.str "minus"] (z % 13 - 7)=some (.str wd)/\(wd ≠ "fn" /\ wd ≠ "let" /\ wd ≠ "rec"):=by
       rcases (show z % 13 - 7=0\/z % 13 - 7=1\/z % 13 - 7=2 by omega) with h | h | h <;> rw [h] <;> exact ⟨_,rfl,by decide +kernel⟩
      walk_at "r"
      refine Bm (SqL.of Ad) hwd ?_
      exact hY _ _ ⟨wd,rfl,hb,(FR.refl S2).put (Same.upd h5)⟩
     ·rw [decide_eq_false hs]
      walk_at "r"
      exact hY _ _ ⟨"less",rfl,by decide +kernel,FR.refl S2⟩
    rintro _ H3 ⟨wd,rfl,hb,r3⟩
    have r2:=r2.trans r3
    have S2:=S2.step r3
    walk_at "r"
    refine ⟨a,ar,pn,ts,m,k1, "num",rfl,S2,by omega,by omega,by omega,fun v1 t1 H4 r4 tr1 tf1 z1=>?_⟩
    have S4:=S2.step r4
    walk_at "r"
    refine ⟨a,ar,pn,ts,m,k2, "num",rfl,S4,by omega,by omega,by omega,fun v2 t2 H5 r5 tr2 tf2 z2=>?_⟩
    walk_at "r"
    refine ⟨Bb,fun p9 h9=>?_⟩
    walk_at "r"
    refine ⟨Bg,fun b9 h10=>?_⟩
    obtain ⟨R,TR⟩:=laid (us:=[v1,v2]) (ts:=[t1,t2]) (wd:=wd) (nv:=.non) (n:=.flat .non) (r2.trans (r4.trans r5)) (.inl ⟨rfl,rfl⟩) ((Al.nil.snoc (tr1.sameT (r5.t S4.e))).snoc tr2) h9 h10
    exact q _ _ _ R TR (Nc (bk hb) tf1 tf2) (by rw [Mf];omega)
noncomputable def Gy (K:O1)(n:Nat):Sp:=fun vs H Q _=>∃(v:V)(t:Tr)(p:Addr)(pl:List Nat),vs=[v,.ref p]/\TrAt K H v t/\SqT K H p (Ar pl)/\t.size<=n/\pl.length+t.size<=1000/\∀(r:Addr)(ws:List V)(H':Hp),Same H H'->H' r=some (.lst ws)->Al (RowAt K H') ws (walk pl t)->Q (.ref r) H'
theorem sc_law_all:A2 ["_law_form_here", "_law_place", "_law_found", "_law_k"] ["_law_form_here", "_law_place"] (Ay Im):=by walk_at "sc"
theorem Zk6 {n:Nat}{f:Addr}{fd:FuncData}(F:Fun K "_law_all" "_law_all" Im f fd)(T:Txt K mg)(C__law_all:A4 P w K mg base (n+1) "_law_all" ["_law_form_here", "_law_place"] (Gy K n)):FnOk P w K mg base Ao (n+2) f fd ["_law_form_here", "_law_place"] (Gy K (n+1)):=by
 refine F.okq sc_law_all (fun vs H Q E h=>?_) (fun cdv A outer s H vs Q E hr h=>?_)
 ·obtain ⟨v,t,p,pl,rfl,_⟩:=h
  rfl
 ·obtain ⟨v,t,p,pl,rfl,ht,hp,hz,hd,q⟩:=h
  refine ⟨_,Ae (Aq 2 sc_law_all (Ba (Aa (Ak (Aa (qv 1) (Aa (qv 0) Ab))) Ab)))
   (Ae (En Re rfl (Jh rfl T.range (Aa (Be (Cp K) (by rfl) T.len (by decide +kernel) (Aa (Ap K (qv 0) Ac) Ab)) Ab)) (A9 (i:=3) sc_law_all.nd rfl (Or.inl rfl)) (Ag (Aq 2 sc_law_all (Ah (Bc K) (qv 2) (A1 C__law_all (hr.mono (by omega)) (Aa (Ap K (Ap K (qv 0) Ac) (qv 3)) (Aa (Ah (Bc K) (qv 1) (Ak (Aa (qv 3) Ab))) Ab)))))))
   (Ag (Au (qv 2)))),?_⟩
  have bg:=big
  have ht0:=ht
  cases ht with
  | @mk b pp wd nv nt us ts qb hn qp l hch =>
  rw [Tr.size] at hz hd
  walk_at "r"
  refine ⟨Bb,fun a1 h1=>?_⟩
  have s1:=Same.upd (o:=.tup [.ref p,.ref b]) h1
  walk_at "r"
  refine ⟨Br,fun a2 h2=>?_⟩
  have s2:=Same.upd (o:=.lst [.ref a1]) h2
  have s02:=s1.trans s2
  have r0:RowAt K (upd (upd H a1 (.tup [.ref p,.ref b])) a2 (.lst [.ref a1])) (.ref a1) (pl,.mk wd nt ts):=⟨a1,p,.ref b,rfl,SqT.of (s2 _ _ Ad),s02.tup hp,ht0.same s02⟩
  have e2:upd (upd H a1 (.tup [.ref p,.ref b])) a2 (.lst [.ref a1]) a2=some (.lst [.ref a1]):=Ad
  revert s02 r0 e2
  generalize upd (upd H a1 (.tup [.ref p,.ref b])) a2 (.lst [.ref a1])=H2
  intro s02 r0 e2
  walk_at "r"
  refine Az (s02.tup qb) rfl ?_
  walk_at "r"
  refine C1 (s02.tup qp) ?_
  walk_at "r"
  have hul:us.length<=1000:=by
   have:ts.length<=Bh ts:=N7 ts
   omega
  refine ⟨by omega,by omega,?_⟩
  refine Ig (n:=(us.length:Int).toNat) (fun j σ' H'=>∃ v3 r ws,σ'=[some (.ref b),some (.ref p),some (.ref r),v3]/\H' r=some (.lst ws)/\Al (RowAt K H') ws ((pl,.mk wd nt ts)::A7 pl 0 (ts.take j))/\Same H H') ⟨none,a2,[.ref a1],rfl,e2,by rw [List.take_zero,A7];exact Al.nil.snoc r0,s02⟩ ?_ ?_
  ·rintro j σ' H3 hj ⟨v3,r,ws,rfl,e3,al,s3⟩
   have hj:j < us.length:=by omega
   have e0:(0:Int)+(j:Int)=((j:Nat):Int):=by omega
   rw [e0]
   have hjt:j < ts.length:=by omega
   have hu:=O5 hj
   have hut:=O5 hjt
   have hsz:=Za9 hut
   walk_at "r"
   refine Az (s3.tup qb) rfl ?_
   walk_at "r"
   refine Az (s3.tup qp) (Ci hu) ?_
   walk_at "r"
   refine ⟨Br,fun a4 h4=>?_⟩
   have s4:=Same.upd (o:=.tup [.int ((j:Nat):Int)]) h4
   refine Dr ((s3.trans s4).tup hp) (SqT.of Ad) (by rw [Ce];simp;omega) fun r5 H5 s5 q5=>?_
   have s35:=s4.trans s5
   have s05:=s3.trans s35
   have q5:SqT K H5 r5 (Ar (pl++[j])):=by
    have e:Ar pl++[V.int ((j:Nat):Int)]=Ar (pl++[j]):=by unfold Ar;rw [P4];rfl
    rw [<- e]
    exact q5
   walk_at "r"
   refine ⟨us[j],ts[j],r5,pl++[j],rfl,(hch j _ _ hu hut).same s05,q5,by omega,by rw [O9,Pz];omega,fun r6 ws6 H6 s6 e6 al6=>?_⟩
   have e36:=(s35.trans s6) _ _ e3
   have l1:ws.length<=1001:=by
    rw [al.1,Ps,Ly]
    have:=Ze7 ts j
    omega
   have l2:ws6.length<=1001:=by rw [al6.1,Hz];omega
   refine Gz e36 e6 (by omega) fun a7 h7=>?_
   have s7:=Same.upd (o:=.lst (ws++ws6)) h7
   walk_at "r"
   refine ⟨_,a7,ws++ws6,rfl,Ad,?_,s05.trans (s6.trans s7)⟩
   have al':=(al.mono (RowAt.same ((s35.trans s6).trans s7).t)).append (al6.mono (RowAt.same s7.t))
   rw [Zb6 hut,Nt,Vo,Pq,Sq (by omega)]
   exact al'
  ·rintro σ' H3 ⟨v3,r,ws,rfl,e3,al,s3⟩
   walk_at "r"
   refine q r ws H3 s3 e3 ?_
   rw [walk]
   rw [Qi (by omega)] at al
   exact al
noncomputable def Zgu (K:O1):Sp:=fun vs H Q _=>∃(c:Int)(p:Addr)(fv:V)(t:Tr)(pl:List Nat)(tx:Tr),vs=[.int c,.ref p,fv]/\SqT K H p (Ar pl)/\TrAt K H fv tx/\Tf t/\Sub t pl/\(A8 t pl)[pl.length]?=some tx/\pl.length<=500 /\
 ∀(r:Addr)(pl':List Nat)(far:Int)(rest:List V)(H':Hp),Same H H'->SqT K H' r (C8 pl' far rest)->Bad t pl' far->pl'.length<=1000->rest.length<=1000->(∀ v∈rest,∃ k,v=V.int k)->Q (.ref r) H'
theorem Zhh (pl:List Nat)(k:Nat):(Ar pl).take k=Ar (pl.take k):=by unfold Ar;rw [List.map_take]
theorem Zcj (pl:List Nat)(k:Nat):(Ar pl).drop k=Ar (pl.drop k):=by unfold Ar;rw [List.map_drop]
theorem Zfk (pl:List Nat):∀ v∈Ar pl,∃ k,v=V.int k:=fun v hv=>by
 unfold Ar at hv
 obtain ⟨k,_,rfl⟩:=Qp.mp hv
 exact ⟨_,rfl⟩
theorem Lf (pl:List Nat)(far:Int)(rest:List V):Ar pl++[.int far]++rest=C8 pl far rest:=by unfold C8;simp
theorem Nf:A2 ["_law_cell_here", "_law_place", "_law_form_here", "_law_way_of", "_law_at"] ["_law_cell_here", "_law_place", "_law_form_here"] (Ay J5):=by walk_at "sc"
theorem Zqf {f:Addr}{fd:FuncData}(F:Fun K "_law_bad" "_law_bad" J5 f fd)(T:Txt K mg):FnOk P w K mg base Ao 1 f fd ["_law_cell_here", "_law_place", "_law_form_here"] (Zgu K):=by
 refine F.okq Nf (fun vs H Q E h=>?_) (fun cdv A outer s H vs Q E hr h=>?_)
 ·obtain ⟨c,p,fv,t,pl,tx,rfl,_⟩:=h
  rfl
 ·obtain ⟨c0,p,fv,t,pl,tx,rfl,hp,hf,tf,hs,hx,hl,q⟩:=h
  refine ⟨_,Ae (Aq 3 Nf (Ah Bk (qv 0) Ac))
   (Ae (Aq 0 Nf (Ah B7 (qv 0) Ac))
   (Ae (Ax (QW.qt (Fo (Aw (A5 K hr.u200) (qv 3) Ac (Av _)) (F0 (Aw (A5 K hr.u200) (Be (Cp K) (by rfl) T.len (by decide +kernel) (Aa (qv 1) Ab)) Ac (Av _))))) (Ag (Au (Ah (Bc K) (Ah (Bc K) (qv 1) (Ak (Aa (Ah (Bc K) (Be (Cp K) (by rfl) T.len (by decide +kernel) (Aa (Ap K (qv 2) Ac) Ab)) (Ah Bk (qv 0) Ac)) Ab))) (Ah (Zo2 K) (Ak (Aa Ac Ab)) (Ah Bk (Ah B7 (qv 0) Ac) Ac))))) A0)
   (Ae (Aq 4 Nf (Ah Bk (qv 0) (Be (Cp K) (by rfl) T.len (by decide +kernel) (Aa (qv 1) Ab))))
   (Ae (Ax (Aw (A5 K hr.u200) (qv 3) Ac (Av _)) (Ag (Au (Ah (Bc K) (Ah (Bc K) (Dm (Ib K) (qv 1) (Dn) (C6 (qv 4))) (Ak (Aa (Ah Dx (Eo Ep Ac) (Ah Bk (Ah B7 (qv 0) Ac) Ac)) Ab))) (Dm (Ib K) (qv 1) (C6 (Ah (Bc K) (qv 4) Ac)) (Dn))))) A0)
   (Ag (Au (Ah (Bc K) (Ah (Bc K) (Dm (Ib K) (qv 1) (Dn) (C6 (qv 4))) (Ak (Aa (Ah (Bc K) Ac (Ah Bk (Ah B7 (qv 0) Ac) Ac)) Ab))) (Dm (Ib K) (qv 1) (C6 (Ah (Bc K) (qv 4) Ac)) (Dn))))))))),?_⟩
  have bg:=big
  have hpl:(Ar pl).length=pl.length:=Ce pl
  cases hf with
  | @mk b pp wd nv n us ps qb hn qp l hch =>
  walk_at "r"
  generalize c0 / 4=c
  have ndI:∀{i j:Int},i≠j->¬ V.int i=V.int j:=fun h z=>h (V.int.inj z)
  by_cases h0:c0 % 4=0
  ·rw [decide_eq_true (show V.int (c0 % 4)=V.int 0 by rw [h0])]
   walk_at "r"
   refine Az qb rfl ?_
   walk_at "r"
   refine C1 qp ?_
   walk_at "r"
   refine ⟨Br,fun a1 h1=>?_⟩
   have s1:=Same.upd (o:=.tup [.int ((us.length:Int)+c % 3)]) h1
   refine Dr (s1.tup hp) (SqT.of Ad) (by rw [hpl];simp;omega) fun r2 H2 s2 q2=>?_
   walk_at "r"
   refine ⟨Br,fun a3 h3=>?_⟩
   have s3:=Same.upd (o:=.tup [.int 0]) h3
   walk_at "r"
   refine Zev (SqT.of Ad) (by simp) (by omega) (by omega) (by simp;omega) fun r4 H4 s4 q4=>?_
   refine Dr ((s3.trans s4).tup q2) q4 (by rw [O9,hpl];simp;omega) fun r5 H5 s5 q5=>?_
   walk_at "r"
   rw [Lf] at q5
   refine q r5 pl _ _ H5 (s1.trans (s2.trans (s3.trans (s4.trans s5)))) q5 (badA hs hx (by rw [<- l];omega)) (by omega) (by simp;omega) fun v hv=>?_
   obtain ⟨ys,h1,h2⟩:=List.mem_flatten.mp hv
   rw [(List.mem_replicate.mp h1).2] at h2
   exact ⟨0,Qe.mp h2⟩
  ·rw [decide_eq_false (ndI h0)]
   walk_at "r"
   refine C1 hp ?_
   walk_at "r"
   rw [hpl]
   by_cases hz:pl.length=0
   ·rw [decide_eq_true (show V.int ((pl.length:Nat):Int)=V.int 0 by rw [hz];rfl)]
    walk_at "r"
    refine Az qb rfl ?_
    walk_at "r"
    refine C1 qp ?_
    walk_at "r"
    refine ⟨Br,fun a1 h1=>?_⟩
    have s1:=Same.upd (o:=.tup [.int ((us.length:Int)+c % 3)]) h1
    refine Dr (s1.tup hp) (SqT.of Ad) (by rw [hpl];simp;omega) fun r2 H2 s2 q2=>?_
    walk_at "r"
    refine ⟨Br,fun a3 h3=>?_⟩
    have s3:=Same.upd (o:=.tup [.int 0]) h3
    walk_at "r"
    refine Zev (SqT.of Ad) (by simp) (by omega) (by omega) (by simp;omega) fun r4 H4 s4 q4=>?_
    refine Dr ((s3.trans s4).tup q2) q4 (by rw [O9,hpl];simp;omega) fun r5 H5 s5 q5=>?_
    walk_at "r"
    rw [Lf] at q5
    refine q r5 pl _ _ H5 (s1.trans (s2.trans (s3.trans (s4.trans s5)))) q5 (badA hs hx (by rw [<- l];omega)) (by omega) (by simp;omega) fun v hv=>?_
    obtain ⟨ys,h1,h2⟩:=List.mem_flatten.mp hv
    rw [(List.mem_replicate.mp h1).2] at h2
    exact ⟨0,Qe.mp h2⟩
   ·rw [decide_eq_false (ndI (show ((pl.length:Nat):Int)≠0 by omega))]
    walk_at "r"
    refine C1 hp ?_
    refine s_rI (by show (0:Int) < ((Ar pl).length:Nat);omega) ?_
    walk_at "r"
    rw [hpl]
    obtain ⟨k,ek,hk⟩:∃ k:Nat,c % ((pl.length:Nat):Int)=(k:Int)/\k < pl.length:=by
     have m0:=Qk c (show ((pl.length:Nat):Int)≠0 by omega)
     have m1:=Rm c (show (0:Int) < ((pl.length:Nat):Int) by omega)
     exact ⟨(c % ((pl.length:Nat):Int)).toNat,by omega,by omega⟩
    by_cases h1:c0 % 4=1
    ·rw [decide_eq_true (show V.int (c0 % 4)=V.int 1 by rw [h1])]
     walk_at "r"
     refine Hv hp fun r1 H1 s1 q1=>?_
     walk_at "r"
     refine ⟨Br,fun a2 h2=>?_⟩
     have s2:=Same.upd (o:=.tup [.int (-1 - c / 7 % 3)]) h2
     rw [ek,Zaw,Zhh] at q1
     refine Dr (s2.tup q1) (SqT.of Ad) (by rw [Ce,Pq];simp;omega) fun r3 H3 s3 q3=>?_
     walk_at "r"
     refine Hv ((s1.trans (s2.trans s3)).tup hp) fun r4 H4 s4 q4=>?_
     rw [ek,show (some ((k:Int)+1))=some (((k+1:Nat)):Int) from rfl,My,Zcj] at q4
     refine Dr (s4.tup q3) q4 (by rw [O9,Ce,Ce,Pq,Q0];simp;omega) fun r5 H5 s5 q5=>?_
     walk_at "r"
     rw [Lf] at q5
     exact q r5 _ _ _ H5 (s1.trans (s2.trans (s3.trans (s4.trans s5)))) q5 (badB tf hs hk (by omega)) (by rw [Pq];omega) (by rw [Ce,Q0];omega) (Zfk _)
    ·rw [decide_eq_false (ndI h1)]
     walk_at "r"
     refine Hv hp fun r1 H1 s1 q1=>?_
     walk_at "r"
     refine ⟨Br,fun a2 h2=>?_⟩
     have s2:=Same.upd (o:=.tup [.int (3+c / 7 % 100)]) h2
     rw [ek,Zaw,Zhh] at q1
     refine Dr (s2.tup q1) (SqT.of Ad) (by rw [Ce,Pq];simp;omega) fun r3 H3 s3 q3=>?_
     walk_at "r"
     refine Hv ((s1.trans (s2.trans s3)).tup hp) fun r4 H4 s4 q4=>?_
     rw [ek,show (some ((k:Int)+1))=some (((k+1:Nat)):Int) from rfl,My,Zcj] at q4
     refine Dr (s4.tup q3) q4 (by rw [O9,Ce,Ce,Pq,Q0];simp;omega) fun r5 H5 s5 q5=>?_
     walk_at "r"
     rw [Lf] at q5
     exact q r5 _ _ _ H5 (s1.trans (s2.trans (s3.trans (s4.trans s5)))) q5 (badB tf hs hk (by omega)) (by rw [Pq];omega) (by rw [Ce,Q0];omega) (Zfk _)
noncomputable def AD (H:Hp)(D:Addr):Addr->Prop:=fun b=>b=D\/H b≠none
noncomputable def Zf3 (K:O1):Sp:=fun vs H Q _=>∃(q0 rl:Addr)(av:V)(n:Int)(rv:List V)(rows:List Rx)(A:Addr->Prop),vs=[.ref q0]/\SqT K H q0 [av,.ref rl,.int n]/\H rl=some (.lst rv)/\Al (RwX K A H) rv rows/\rows.length<=100 /\
 ∀(r q:Addr)(ws:List V)(H':Hp),Same H H'->SqT K H' r [av,.ref q,.int n]->H q=none->H' q=some (.lst ws)->Al (RwX K (AD H q) H') ws rows->Q (.ref r) H'
theorem Zq3:(["_law_row"]:List Str).Nodup:=by decide +kernel
theorem sc_law_copy:A2 ["_law_record", "_law_rows"] ["_law_record"] (Ay J2):=by walk_at "sc"
theorem Zpa {α:Type}{l:List α}{i:Nat}{c:α}(h:l[i]?=some c):l.take (i+1)=l.take i++[c]:=by rw [Ra,h];rfl
theorem Zid {f:Addr}{fd:FuncData}(F:Fun K "_law_copy" "_law_copy" J2 f fd)(T:Txt K mg):FnOk P w K mg base Ao 1 f fd ["_law_record"] (Zf3 K):=by
 refine F.okq sc_law_copy (fun vs H Q E h=>?_) (fun cdv A outer s H vs Q E hr h=>?_)
 ·obtain ⟨q0,rl,av,n,rv,rows,A,rfl,_⟩:=h
  rfl
 ·obtain ⟨q0,rl,av,n,rv,rows,A,rfl,hq0,hrl,alr,h100,q⟩:=h
  refine ⟨_,Ae (M8 (i:=1) (N:=["_law_row"]) (σ0:=Dv 1 []) rfl (Fq rfl (by decide +kernel) (by decide +kernel) (by decide +kernel)) (D5 K (Ap K (qv 0) Ac)) (Fy rfl (by rfl)) (fun _ _ _ _=>A9 (i:=0) Zq3 rfl (Or.inl rfl)) (fun _ _ _ _=>Gw) (fun _ _ _ _=>Ak (Aa (Ap K (qv 0) Ac) (Aa (Ap K (qv 0) Ac) (Aa (Em (Jc K) (by rfl) T.list (by decide +kernel) (Aa (Ap K (qv 0) Ac) Ab)) (Aa (Em (Jc K) (by rfl) T.list (by decide +kernel) (Aa (Ap K (qv 0) Ac) Ab)) Ab))))) sc_law_copy.nd rfl (Or.inl rfl))
   (Ag (Au (Ak (Aa (Ap K (qv 0) Ac) (Aa (qv 1) (Aa (Ap K (qv 0) Ac) Ab)))))),?_⟩
  have bg:=big
  have hrv:rv.length<=100:=by rw [alr.1];exact h100
  walk_at "r"
  refine Az hq0 rfl ?_
  refine .inl ⟨rl,rfl,⟨_,SqL.of hrl⟩,fun D hD=>?_⟩
  have nD:rl≠D:=B8 hrl hD
  refine Iy (K:=K) (a:=rl) (xs:=rv) (Pv:=fun i ys σ' H'=>∃ v0,σ'=[v0]/\H' rl=some (.lst rv)/\ys.length=i/\Al (RwX K (AD H D) H') ys (rows.take i)/\Same H H') ⟨none,rfl,by rw [Af nD];exact hrl,rfl,.nil,Same.upd hD⟩ ?_ ?_ ?_
  ·rintro i ys σ' H' _ ⟨_,_,e,_⟩
   exact SqL.of e
  ·rintro i x ys σ' H' hx hys ⟨v0,rfl,e,hyl,aly,sm⟩
   have hi:=(Ph.mp hx).1
   obtain ⟨rz,hrz,hrw⟩:=alr.get hx
   obtain ⟨⟨a,_,o,er,ov,ev,rfl,h2,_,h4,h5,h6,h7,_,_⟩,a2,p,o2,er2,ea,h2p,h3p⟩:=RwX.same sm.a _ _ hrw
   cases ea
   walk_at "r"
   refine Az h2 rfl ?_
   walk_at "r"
   refine Az h2p rfl ?_
   walk_at "r"
   refine Az h2 rfl ?_
   refine ⟨o,ov,rfl,.inl (SqL.of h4),fun c1 hc1=>?_⟩
   have s1:=Same.upd (o:=.lst ov) hc1
   walk_at "r"
   refine Az (s1.tup h2) rfl ?_
   refine ⟨er,ev,rfl,.inl (SqL.of (s1 _ _ h6)),fun c2 hc2=>?_⟩
   have s2:=Same.upd (o:=.lst ev) hc2
   have e1:=s2 c1 _ (Ad (H:=H') (o:=.lst ov))
   have e2:upd (upd H' c1 (.lst ov)) c2 (.lst ev) c2=some (.lst ev):=Ad
   have s12:=s1.trans s2
   have hc1':H' c1=none:=hc1
   have hc2':H' c2=none:=s1.free hc2
   revert e1 e2 s12
   generalize upd (upd H' c1 (.lst ov)) c2 (.lst ev)=H2
   intro e1 e2 s12
   walk_at "r"
   refine ⟨Fa,fun t ht=>?_⟩
   have s3:=Same.upd (o:=.tup [.str rz.wd,.ref p,.ref c1,.ref c2]) ht
   have s13:=s12.trans s3
   have hys3:=s13 _ _ hys
   have n1:c1≠D:=fun z=>by rw [z,hys] at hc1';cases hc1'
   have n2:c2≠D:=fun z=>by rw [z,hys] at hc2';cases hc2'
   have tS:=SameT.set (o:=.lst (ys++[.ref t])) hys3
   walk_at "r"
   refine ⟨_,hys3,by omega,_,Ad,?_⟩
   refine ⟨_,rfl,?_,by simp [hyl],?_,(sm.trans s13).over hD⟩
   ·rw [Af nD];exact s13 _ _ e
   ·rw [Zpa hrz]
    refine (aly.mono (RwX.same (s13.a.trans (SameA.set hys3 (.inl rfl))))).snoc ?_
    have hp9:upd (upd H2 t (.tup [.str rz.wd,.ref p,.ref c1,.ref c2])) D (.lst (ys++[.ref t])) p=some (.tup (rz.pl.map V.int)):=((s13.t.trans tS) p).1 _ h3p
    refine ⟨⟨t,p,c1,c2,ov,ev,rfl,tS.tup (SqT.of Ad),SqT.of hp9,?_,h5.mono (ThAt.same (s13.t.trans tS)),?_,h7.mono (PrAt.same (s13.t.trans tS)),?_,?_⟩,t,p,c1,c2,rfl,tS.tup (SqT.of Ad),hp9⟩
    ·rw [Af n1];exact s3 _ _ e1
    ·rw [Af n2];exact s3 _ _ e2
    ·rintro (z | z)
     ·exact n1 z
     ·exact z (sm.free hc1')
    ·rintro (z | z)
     ·exact n2 z
     ·exact z (sm.free hc2')
  ·rintro ys σ' H' hys ⟨v0,rfl,e,hyl,aly,sm⟩
   rw [alr.1,Tp] at aly
   walk_at "r"
   refine Az (sm.tup hq0) rfl ?_
   walk_at "r"
   refine Az (sm.tup hq0) rfl ?_
   walk_at "r"
   refine ⟨Bg,fun r hr'=>?_⟩
   have s9:Same H' (upd H' r (.tup [av,.ref D,.int n])):=Same.upd hr'
   exact q r D ys _ (sm.trans s9) (SqT.of Ad) hD (s9 _ _ hys) (aly.mono (RwX.same s9.a))
noncomputable def He (K:O1)(n:Nat):Sp:=fun vs H Q _=>∃(x y:V)(d:Dt)(m:Nat),vs=[x,y]/\m < n/\IsD K H m x d/\IsD K H m y d/\Db d/\∀ H',Same H H'->Q (.bl true) H'
theorem sc_law_same:A2 ["_law_found", "_law_due", "_law_k"] ["_law_found", "_law_due"] (Ay Hg):=by walk_at "sc"
theorem Zsf {n:Nat}{f:Addr}{fd:FuncData}(F:Fun K "_law_same" "_law_same" Hg f fd)(T:Txt K mg)(C__law_same:A4 P w K mg base (n+1) "_law_same" ["_law_found", "_law_due"] (He K n)):FnOk P w K mg base Ao (n+2) f fd ["_law_found", "_law_due"] (He K (n+1)):=by
 refine F.okq sc_law_same (fun vs H Q E h=>?_) (fun cdv A outer s H vs Q E hr h=>?_)
 ·obtain ⟨x,y,d,m,rfl,_⟩:=h
  rfl
 ·obtain ⟨x,y,d,m,rfl,hm,hx,hy,hd,q⟩:=h
  refine ⟨_,Ae (Ax (QW.qt (Fo (Cw (Be (C0 K "bool") (by rfl) T.isinstance (by decide +kernel) (Aa (qv 0) (Aa (Ct (v:=.ty "bool") (by rfl) T.bool (by decide +kernel) rfl) Ab)))) (F0 (Cw (Be (C0 K "bool") (by rfl) T.isinstance (by decide +kernel) (Aa (qv 1) (Aa (Ct (v:=.ty "bool") (by rfl) T.bool (by decide +kernel) rfl) Ab))))))) (Ag (Au (E3 (Be (C0 K "bool") (by rfl) T.isinstance (by decide +kernel) (Aa (qv 0) (Aa (Ct (v:=.ty "bool") (by rfl) T.bool (by decide +kernel) rfl) Ab))) (E3 (Be (C0 K "bool") (by rfl) T.isinstance (by decide +kernel) (Aa (qv 1) (Aa (Ct (v:=.ty "bool") (by rfl) T.bool (by decide +kernel) rfl) Ab))) (Fk (Ew (A5 K hr.u200) (qv 0) (qv 1) (Av _))))))) A0)
   (Ae (Ax (QW.qt (Fo (Cw (Be (C0 K "list") (by rfl) T.isinstance (by decide +kernel) (Aa (qv 1) (Aa (Ct (v:=.ty "list") (by rfl) T.list (by decide +kernel) rfl) Ab)))) (F0 (Cw (Be (C0 K "tuple") (by rfl) T.isinstance (by decide +kernel) (Aa (qv 1) (Aa (Ct (v:=.ty "tuple") (by rfl) T.tuple (by decide +kernel) rfl) Ab))))))) (Ae (Ax (QW.qt (Du (Gf (Cw (Be (C0 K "list") (by rfl) T.isinstance (by decide +kernel) (Aa (qv 0) (Aa (Ct (v:=.ty "list") (by rfl) T.list (by decide +kernel) rfl) Ab))))) (D3 (Gf (Cw (Be (C0 K "tuple") (by rfl) T.isinstance (by decide +kernel) (Aa (qv 0) (Aa (Ct (v:=.ty "tuple") (by rfl) T.tuple (by decide +kernel) rfl) Ab)))))))) (Ag (Au Dl)) A0)
   (Ae (Ax (QW.qt (Fo (Aw (Gp K hr.u200) (Be (C0 K "list") (by rfl) T.isinstance (by decide +kernel) (Aa (qv 0) (Aa (Ct (v:=.ty "list") (by rfl) T.list (by decide +kernel) rfl) Ab))) (Be (C0 K "list") (by rfl) T.isinstance (by decide +kernel) (Aa (qv 1) (Aa (Ct (v:=.ty "list") (by rfl) T.list (by decide +kernel) rfl) Ab))) (Av _)) (F0 (Aw (Gp K hr.u200) (Be (Cp K) (by rfl) T.len (by decide +kernel) (Aa (qv 0) Ab)) (Be (Cp K) (by rfl) T.len (by decide +kernel) (Aa (qv 1) Ab)) (Av _))))) (Ag (Au Dl)) A0)
   (Ae (En Re rfl (Jh rfl T.range (Aa (Be (Cp K) (by rfl) T.len (by decide +kernel) (Aa (qv 1) Ab)) Ab)) (A9 (i:=2) sc_law_same.nd rfl (Or.inl rfl)) (Ag (Ax (Gf (Cw (A1 C__law_same (hr.mono (by omega)) (Aa (Ap K (qv 0) (qv 2)) (Aa (Ap K (qv 1) (qv 2)) Ab))))) (Ag (Au Dl)) A0)))
   (Ag (Au Dl))))) A0)
   (Ae (Ax (Cw (Be (C0 K "str") (by rfl) T.isinstance (by decide +kernel) (Aa (qv 1) (Aa (Ct (v:=.ty "str") (by rfl) T.str (by decide +kernel) rfl) Ab)))) (Ag (Au (E3 (Be (C0 K "str") (by rfl) T.isinstance (by decide +kernel) (Aa (qv 0) (Aa (Ct (v:=.ty "str") (by rfl) T.str (by decide +kernel) rfl) Ab))) (Fk (Ew (A5 K hr.u200) (qv 0) (qv 1) (Av _)))))) A0)
   (Ae (Ax (Cw (Be (C0 K "int") (by rfl) T.isinstance (by decide +kernel) (Aa (qv 1) (Aa (Ct (v:=.ty "int") (by rfl) T.int (by decide +kernel) rfl) Ab)))) (Ag (Au (E3 (Be (C0 K "int") (by rfl) T.isinstance (by decide +kernel) (Aa (qv 0) (Aa (Ct (v:=.ty "int") (by rfl) T.int (by decide +kernel) rfl) Ab))) (Fk (Ew (A5 K hr.u200) (qv 0) (qv 1) (Av _)))))) A0)
   (Ag (Au (E3 (Zaf (Zca (qv 0))) (Fk (Zaf (Zca (qv 1)))))))))),?_⟩
  have bg:=big
  cases hx with
  | flat hv =>
   cases hy with
   | flat _ =>
   cases x with
   | non =>
    walk_at "r"
    refine B1 (b:=false) .non rfl ?_
    walk_at "r"
    refine B1 (b:=false) .non rfl ?_
    walk_at "r"
    refine B1 (b:=false) .non rfl ?_
    walk_at "r"
    refine B1 (b:=false) .non rfl ?_
    walk_at "r"
    refine B1 (b:=false) .non rfl ?_
    walk_at "r"
    refine B1 (b:=false) .non rfl ?_
    walk_at "r"
    rw [decide_eq_true (Eq.refl _)]
    walk_at "r"
    rw [decide_eq_true (Eq.refl _)]
    walk_at "r"
    exact q H (Same.refl _)
   | bl b =>
    walk_at "r"
    refine B1 (b:=true) (.bl b) rfl ?_
    walk_at "r"
    refine B1 (b:=true) (.bl b) rfl ?_
    walk_at "r"
    refine B1 (b:=true) (.bl b) rfl ?_
    walk_at "r"
    rw [decide_eq_true (Eq.refl _)]
    walk_at "r"
    exact q H (Same.refl _)
   | int b =>
    walk_at "r"
    refine B1 (b:=false) (.int b) rfl ?_
    walk_at "r"
    refine B1 (b:=false) (.int b) rfl ?_
    walk_at "r"
    refine B1 (b:=false) (.int b) rfl ?_
    walk_at "r"
    refine B1 (b:=false) (.int b) rfl ?_
    walk_at "r"
    refine B1 (b:=false) (.int b) rfl ?_
    walk_at "r"
    refine B1 (b:=true) (.int b) rfl ?_
    walk_at "r"
    refine B1 (b:=true) (.int b) rfl ?_
    walk_at "r"
    rw [decide_eq_true (Eq.refl _)]
    walk_at "r"
    exact q H (Same.refl _)
   | str b =>
    walk_at "r"
    refine B1 (b:=false) (.str b) rfl ?_
    walk_at "r"
    refine B1 (b:=false) (.str b) rfl ?_
    walk_at "r"
    refine B1 (b:=false) (.str b) rfl ?_
    walk_at "r"
    refine B1 (b:=false) (.str b) rfl ?_
    walk_at "r"
    refine B1 (b:=true) (.str b) rfl ?_
    walk_at "r"
    refine B1 (b:=true) (.str b) rfl ?_
    walk_at "r"
    rw [decide_eq_true (Eq.refl _)]
    walk_at "r"
    exact q H (Same.refl _)
   | _=>exact absurd hv (by simp [B3])
  | @tup k a vs ds qa la ha =>
   cases hy with
   | @tup _ c ws _ qc lc hc =>
   cases hd with
   | tup hl hds =>
   walk_at "r"
   refine Fw (b:=false) qa rfl ?_
   walk_at "r"
   refine Fw (b:=false) qc rfl ?_
   walk_at "r"
   refine Fw (b:=false) qc rfl ?_
   walk_at "r"
   refine Fw (b:=true) qc rfl ?_
   walk_at "r"
   refine Fw (b:=false) qa rfl ?_
   walk_at "r"
   refine Fw (b:=true) qa rfl ?_
   walk_at "r"
   refine Fw (b:=false) qa rfl ?_
   walk_at "r"
   refine Fw (b:=false) qc rfl ?_
   walk_at "r"
   rw [decide_eq_true (Eq.refl _)]
   walk_at "r"
   refine C1 qa ?_
   walk_at "r"
   refine C1 qc ?_
   walk_at "r"
   rw [la,lc,decide_eq_true (Eq.refl _)]
   walk_at "r"
   refine C1 qc ?_
   walk_at "r"
   rw [lc]
   refine ⟨by omega,by omega,?_⟩
   refine Ig (n:=(ds.length:Int).toNat) (fun i σ' H'=>∃ v2,σ'=[some (.ref a),some (.ref c),v2]/\Same H H') ⟨none,rfl,Same.refl _⟩ ?_ ?_
   ·rintro i σ' H' hi ⟨v2,rfl,sm⟩
    have hi:i < ds.length:=by omega
    have e0:(0:Int)+(i:Int)=((i:Nat):Int):=by omega
    rw [e0]
    have hiv:i < vs.length:=by omega
    have hiw:i < ws.length:=by omega
    walk_at "r"
    refine Az (sm.tup qa) (Ci (O5 hiv)) ?_
    walk_at "r"
    refine Az (sm.tup qc) (Ci (O5 hiw)) ?_
    walk_at "r"
    refine ⟨vs[i],ws[i],ds[i],k,rfl,by omega,(ha i _ _ (O5 hiv) (O5 hi)).same sm,(hc i _ _ (O5 hiw) (O5 hi)).same sm,hds _ (We hi),fun H2 s2=>?_⟩
    walk_at "r"
    exact ⟨_,rfl,sm.trans s2⟩
   ·rintro σ' H' ⟨v2,rfl,sm⟩
    walk_at "r"
    exact q H' sm
  | @lst k a vs ds qa la ha =>
   cases hy with
   | @lst _ c ws _ qc lc hc =>
   cases hd with
   | lst hl hds =>
   walk_at "r"
   refine Hr (b:=false) qa rfl ?_
   walk_at "r"
   refine Hr (b:=false) qc rfl ?_
   walk_at "r"
   refine Hr (b:=true) qc rfl ?_
   walk_at "r"
   refine Hr (b:=true) qa rfl ?_
   walk_at "r"
   refine Hr (b:=true) qa rfl ?_
   walk_at "r"
   refine Hr (b:=true) qc rfl ?_
   walk_at "r"
   rw [decide_eq_true (Eq.refl _)]
   walk_at "r"
   refine El qa ?_
   walk_at "r"
   refine El qc ?_
   walk_at "r"
   rw [la,lc,decide_eq_true (Eq.refl _)]
   walk_at "r"
   refine El qc ?_
   walk_at "r"
   rw [lc]
   refine ⟨by omega,by omega,?_⟩
   refine Ig (n:=(ds.length:Int).toNat) (fun i σ' H'=>∃ v2,σ'=[some (.ref a),some (.ref c),v2]/\Same H H') ⟨none,rfl,Same.refl _⟩ ?_ ?_
   ·rintro i σ' H' hi ⟨v2,rfl,sm⟩
    have hi:i < ds.length:=by omega
    have e0:(0:Int)+(i:Int)=((i:Nat):Int):=by omega
    rw [e0]
    have hiv:i < vs.length:=by omega
    have hiw:i < ws.length:=by omega
    walk_at "r"
    refine Bm (sm.seq qa) (Ci (O5 hiv)) ?_
    walk_at "r"
    refine Bm (sm.seq qc) (Ci (O5 hiw)) ?_
    walk_at "r"
    refine ⟨vs[i],ws[i],ds[i],k,rfl,by omega,(ha i _ _ (O5 hiv) (O5 hi)).same sm,(hc i _ _ (O5 hiw) (O5 hi)).same sm,hds _ (We hi),fun H2 s2=>?_⟩
    walk_at "r"
    exact ⟨_,rfl,sm.trans s2⟩
   ·rintro σ' H' ⟨v2,rfl,sm⟩
    walk_at "r"
    exact q H' sm
noncomputable def LETS:Str := "abcdefghijklmnopqrstuvwxyz_"
theorem Zk2:LETS.cps.toList.length=27:=by decide +kernel
theorem Zr2:LETS.length<=sizeLine:=by decide +kernel
theorem Zno (u v:Str):(u++v).length=u.length+v.length:=by
 show (u.cps++v.cps).size=_
 simp [Str.length]
theorem Zfu (c:Nat):(⟨#[c]⟩:Str).length=1:=rfl
noncomputable def Zdw:Sp:=fun vs H Q _=>∃(a:Int),vs=[.int a,.int 5]/\∀(p:Addr)(ts:List Str)(H':Hp),Same H H'->H p=none->ts.length=5->H' p=some (.lst (ts.map V.str))->Q (.ref p) H'
theorem sc_law_names:A2 ["_law_cell_here", "_law_many", "_law_signs", "_law_kept", "_law_size", "_law_at", "_law_names_here", "_law_k", "_law_word", "_law_j", "_law_step"] ["_law_cell_here", "_law_many"] (Ay K4):=by walk_at "sc"
noncomputable def Ke:List V:=[.str "let",.str "in",.str "if",.str "then",.str "else",.str "fn",.str "rec",.str "yes",.str "no"]
noncomputable def NmJ (H:Hp)(a:Int)(D p:Addr)(j:Nat)(σ':St)(H':Hp):Prop:=∃(v7 v8 v9 v10:Option V)(ts:List Str),σ'=[some (.int a),some (.int 5),some (.str LETS),some (.ref D),some (.int (1+a % 8)),some (.int (a / 8 % (1+a % 8))),some (.ref p),v7,v8,v9,v10]/\H' D=some (.lst Ke)/\H' p=some (.lst (ts.map V.str))/\ts.length=j/\Same H H'
theorem Znq {f:Addr}{fd:FuncData}(F:Fun K "_law_names" "_law_names" K4 f fd)(T:Txt K mg)(C__law_mixed:A4 P w K mg base 1 "_law_mixed" ["_law_cell_here", "_law_k"] Jn):FnOk P w K mg base Ao 2 f fd ["_law_cell_here", "_law_many"] Zdw:=by
 refine F.okq sc_law_names (fun vs H Q E h=>?_) (fun cdv A outer s H vs Q E hr h=>?_)
 ·obtain ⟨a,rfl,_⟩:=h
  rfl
 ·obtain ⟨a0,rfl,q⟩:=h
  refine ⟨_,Ae (Aq 2 sc_law_names Am)
   (Ae (Aq 3 sc_law_names (Ba (Oy (xs:=[.str "let",.str "in",.str "if",.str "then",.str "else",.str "fn",.str "rec",.str "yes",.str "no"]) rfl)))
   (Ae (Aq 0 sc_law_names (A1 C__law_mixed hr.m (Aa (qv 0) (Aa Ac Ab))))
   (Ae (Aq 4 sc_law_names (Ah (Bc K) Ac (Ah Bk (qv 0) Ac)))
   (Ae (Aq 5 sc_law_names (Ah Bk (Ah B7 (qv 0) Ac) (qv 4)))
   (Ae (Aq 6 sc_law_names (Ba Ab))
   (Ae (En Re rfl (Jh rfl T.range (Aa (qv 1) Ab)) (A9 (i:=7) sc_law_names.nd rfl (Or.inl rfl)) (Ae (Aq 8 sc_law_names Am)
   (Ae (En Re rfl (Jh rfl T.range (Aa (qv 4) Ab)) (A9 (i:=9) sc_law_names.nd rfl (Or.inl rfl)) (Ae (Aq 10 sc_law_names (Ah (Bc K) (Ah B7 (Ah B7 (qv 0) Ac) (Ah (Bc K) (qv 9) Ac)) (Ah Iw Ac (qv 9))))
   (Ag (Aq 8 sc_law_names (Ah (Bc K) (qv 8) (Ap K (qv 2) (Ah Bk (Ah (Bc K) (qv 10) (Ah Iw (qv 7) (Em Zo3 (by rfl) T.int (by decide +kernel) (Aa (Ew (A5 K hr.u200) (qv 9) (qv 5) (Av _)) Ab)))) Ac)))))))
   (Ae (Ax (Aw (Kl K) (qv 8) (qv 3) (by rfl)) (Ag (Aq 8 sc_law_names (Ah (Bc K) (qv 8) Am))) A0)
   (Ag (Bq (Cd K Pr P0 P3 Ck (qv 6) (Aa (qv 8) Ab))))))))
   (Ag (Au (qv 6))))))))),?_⟩
  have bg:=big
  walk_at "r"
  refine ⟨sz9,fun D hD=>?_⟩
  walk_at "r"
  refine ⟨a0,3,rfl,by decide,by decide,fun a ha0 ha1=>?_⟩
  have hs0:0<=a % 8:=Qk a (by decide)
  have hs1:a % 8 < 8:=Rm a (by decide)
  walk_at "r"
  refine s_rI (by show (0:Int) < 1+a % 8;omega) ?_
  walk_at "r"
  refine ⟨Bf,fun p hp=>?_⟩
  have hpD:D≠p:=fun z=>by rw [<- z,Ad] at hp;cases hp
  have hp0:H p=none:=(Same.upd hD).free hp
  have sm0:Same H (upd (upd H D (.lst Ke)) p (.lst [])):=(Same.upd (o:=.lst Ke) hD).put hp
  have hD0:upd (upd H D (.lst Ke)) p (.lst []) D=some (.lst Ke):=by rw [Af hpD];exact Ad
  walk_at "r"
  refine ⟨by decide,by decide,?_⟩
  refine Ig (n:=5) (NmJ H a D p) ⟨_,_,_,_,[],rfl,hD0,Ad,rfl,sm0⟩ ?_ ?_
  ·rintro j σ' H2 hj ⟨v7,v8,v9,v10,ts,rfl,hD2,hp2,hl2,sm2⟩
   walk_at "r"
   refine ⟨by omega,by omega,?_⟩
   refine Ig (n:=(1+a % 8).toNat) (fun k σ' H'=>∃ v9 v10 t,σ'=[some (.int a),some (.int 5),some (.str LETS),some (.ref D),some (.int (1+a % 8)),some (.int (a / 8 % (1+a % 8))),some (.ref p),some (.int (0+j)),some (.str t),v9,v10]/\t.length=k/\H'=H2) ⟨_,_,Str.empty,rfl,rfl,rfl⟩ ?_ ?_
   ·rintro k σ' H3 hk ⟨v9',v10',t,rfl,hl3,rfl⟩
    walk_at "r"
    refine s_rI (by show (0:Int) < 0+k+1/\(0:Int)+k+1 < 1073741824;omega) ?_
    walk_at "r"
    refine s_mul_r (by split <;> decide) (by split <;> decide) ?_
    walk_at "r"
    obtain ⟨c,hc,_⟩:=Kn (xs:=LETS.cps.toList) (i:=(a / 64 / (0+(k:Int)+1)+5 * (0+(k:Int))+(0+(j:Int)) * (if decide (V.int (0+(k:Int))=V.int (a / 8 % (1+a % 8)))=true then 1 else 0)) % 27) (Qk _ (by decide)) (by rw [Zk2];exact Rm _ (by decide))
    refine Znx Zr2 hc ?_
    refine Zbo (by rw [Zfu];omega) ?_
    exact ⟨_,_,_,rfl,by rw [Zno,Zfu];omega,rfl⟩
   ·rintro σ' H3 ⟨v9',v10',t,rfl,hl3,rfl⟩
    walk_at "r"
    refine F9 (.inl (SqL.of hD2)) rfl rfl ?_
    have fin:∀(t':Str),NmJ H a D p (j+1) [some (.int a),some (.int 5),some (.str LETS),some (.ref D),some (.int (1+a % 8)),some (.int (a / 8 % (1+a % 8))),some (.ref p),some (.int (0+(j:Int))),some (.str t'),v9',v10'] (upd H3 p (.lst (ts.map V.str++[.str t']))):=fun t' =>
     ⟨_,_,_,_,ts++[t'],rfl,by rw [Af hpD];exact hD2,by rw [Ad,P4];rfl,by simp [hl2],sm2.over hp0⟩
    walk_at "r"
    refine Bj (fun _=>?_) (fun _=>?_)
    ·walk_at "r"
     have l1:(Qc "_").length=1:=by decide +kernel
     refine Zbo (by rw [l1];omega) ?_
     walk_at "r"
     refine B0 (SqL.of hp2) ?_
     walk_at "r"
     refine Cs hp2 (by rw [Pa];omega) ?_
     exact fin _
    ·walk_at "r"
     refine B0 (SqL.of hp2) ?_
     walk_at "r"
     refine Cs hp2 (by rw [Pa];omega) ?_
     exact fin _
  ·rintro σ' H2 ⟨v7,v8,v9,v10,ts,rfl,hD2,hp2,hl2,sm2⟩
   walk_at "r"
   exact q p ts _ sm2 hp0 hl2 hp2
noncomputable def Zep (K:O1):Sp:=fun vs H Q _=>∃(a:Addr)(ns:List Int),vs=[.ref a]/\SqL K H a (ns.map V.int)/\ns.length<=63/\∀ H',Q (.bl true) H'
theorem Zjk {t:Tr}:(walk [] (.mk "less" (.flat .non) [t,.mk "gap" (.flat .non) []])).filter E1≠[]:=by
 have h:(([1]:List Nat),(Tr.mk "gap" (.flat .non) []))∈(walk [] (.mk "less" (.flat .non) [t,.mk "gap" (.flat .non) []])).filter E1:=by
  refine U7.mpr ⟨?_,rfl⟩
  rw [walk,A7,A7,A7,walk,A7]
  simp
 exact fun z=>by rw [z] at h;cases h
noncomputable def J7 (x:Str×V)(rs:List Rx)(n:Int):Dt:=.tup [Ht x,.lst (rs.map rzD),.flat (.int n)]
theorem Iz {K:O1}{H:Hp}{A:Addr->Prop}{r rd:Addr}{av:V}{rv:List V}{x:Str×V}{rs:List Rx}{n:Int}(q:SqT K H r [av,.ref rd,.int n])(hx:ThAt K H av x)(hr:H rd=some (.lst rv))(al:Al (RwAt K A H) rv rs):IsD K H 6 (.ref r) (J7 x rs n):=by
 refine .tup q rfl fun j v d h1 h2=>?_
 match j,h1,h2 with
 | 0,h1,h2=>cases h1;cases h2;exact (ThAt.d hx).up (by decide)
 | 1,h1,h2=>cases h1;cases h2;exact Al.lstD al (SqL.of hr) fun v x h=>RwAt.d h
 | 2,h1,h2=>cases h1;cases h2;exact .flat rfl
theorem Za3 {x:Str×V}{rs:List Rx}{n:Int}(hl:rs.length<=100)(h:∀ q∈rs,q.Ok):Db (J7 x rs n):=.tup (by show 3<=5000;decide) fun d hd=>by
 simp only [Pb,P5,or_false] at hd
 rcases hd with rfl | rfl | rfl
 ·exact Zbc _
 ·exact Op (by omega) fun x hx=>Zmq (h x hx)
 ·exact .flat _
theorem Zi6 {H:Hp}{v:V}{t:Tr}(h:TrAt K H v t):∃ b p n,v=.ref b/\SqT K H b [.str t.wd,n,.ref p]:=by
 cases h with
 | mk qm _ _ _ _=>exact ⟨_,_,_,rfl,qm⟩
theorem Zf7 {H:Hp}{a b:Addr}{v:V}{d:Dt}{xs:List V}(q:SqT K H a [v,.ref b])(hv:IsD K H 1 v d)(hb:H b=some (.lst xs))(hf:∀ v∈xs,B3 v=true):IsD K H 2 (.ref a) (.tup [d,.lst (xs.map Dt.flat)]):=by
 refine .tup q rfl fun j u e h1 h2=>?_
 match j,h1,h2 with
 | 0,h1,h2=>cases h1;cases h2;exact hv
 | 1,h1,h2 =>
  cases h1
  cases h2
  refine .lst (SqL.of hb) (by simp) fun j v d h1 h2=>?_
  rw [Qj,h1] at h2
  cases h2
  exact .flat (hf v (Qr h1))
theorem Zdk {pl:List Nat}{far:Int}{rest:List V}(hr:∀ v∈rest,∃ k,v=V.int k):∀ v∈C8 pl far rest,B3 v=true:=by
 intro v hv
 unfold C8 Ar at hv
 rcases Sa.mp hv with h | h
 ·obtain ⟨k,_,rfl⟩:=Qp.mp h
  rfl
 ·rcases Pb.mp h with rfl | h
  ·rfl
  ·obtain ⟨k,rfl⟩:=hr v h
   rfl
theorem Zey {H:Hp}{p:Addr}{xs:List V}(q:SqT K H p xs)(h:∀ v∈xs,B3 v=true):IsD K H 1 (.ref p) (.tup (xs.map Dt.flat)):=by
 refine .tup q (by simp) fun j v d h1 h2=>?_
 rw [Qj,h1] at h2
 cases h2
 exact .flat (h v (Qr h1))
theorem Zcr {xs:List V}(h:xs.length<=5000):Db (.tup (xs.map Dt.flat)):=.tup (by rw [Pa];exact h) fun d hd=>by
 obtain ⟨v,_,rfl⟩:=Qp.mp hd
 exact .flat _
theorem Zff:(["_law_name", "_law_kind"]:List Str).Nodup:=by decide +kernel
theorem sc_law:A2 ["_law_script", "_law_names_here", "_law_tree", "_law_gap", "_law_bound", "_law_rows", "_law_cell_here", "_law_steps", "_law_record", "_law_handed", "_law_form_here", "_law_spots", "_law_place", "_law_here", "_law_due", "_law_found", "_law_filled"] ["_law_script"] (Ay Ki):=by walk_at "sc"
theorem Zn5 {TL:Addr}{f:Addr}{fd:FuncData}(F:Fun K "law" "law" Ki f fd)(T:Txt K mg)(C__law_cell:A4 P w K mg base 1 "_law_cell" ["_law_script", "_law_k"] (Zcd K))(C__law_mixed:A4 P w K mg base 1 "_law_mixed" ["_law_cell_here", "_law_k"] Jn)(C__law_names:A4 P w K mg base 2 "_law_names" ["_law_cell_here", "_law_many"] Zdw)(C__law_form:A4 P w K mg base 17 "_law_form" ["_law_cells", "_law_around", "_law_names_here", "_law_room", "_law_sort"] (G9 K 14))(C__law_gaps:A4 P w K mg base 46 "_law_gaps" ["_law_form_here", "_law_place", "_law_bound"] (Gs K 45))(C__law_all:A4 P w K mg base 46 "_law_all" ["_law_form_here", "_law_place"] (Gy K 45))(C__law_bad:A4 P w K mg base 1 "_law_bad" ["_law_cell_here", "_law_place", "_law_form_here"] (Zgu K))(C__law_refused:A4 P w K mg base 9 "_law_refused" ["_law_tree", "_law_record", "_law_place", "_law_form_here"] (Zgz K))(C__law_copy:A4 P w K mg base 1 "_law_copy" ["_law_record"] (Zf3 K))(C__law_go_on:A4 P w K mg base 9 "_law_go_on" ["_law_tree", "_law_record", "_law_place", "_law_form_here"] (Zbe K TL))(C__law_same:A4 P w K mg base 9 "_law_same" ["_law_found", "_law_due"] (He K 8)):FnOk P w K mg base Ao 48 f fd ["_law_script"] (Zep K):=by
 refine F.okq sc_law (fun vs H Q E h=>?_) (fun cdv A outer s H vs Q E hr h=>?_)
 ·obtain ⟨a,ns,rfl,_⟩:=h
  rfl
 ·obtain ⟨a,ns,rfl,hS,hn,q⟩:=h
  have SC:Script K H a:=⟨ns,hS,hn⟩
  refine ⟨_,Ae (Aq 1 sc_law (A1 C__law_names hr.m (Aa (A1 C__law_cell hr.m (Aa (qv 0) (Aa Ac Ab))) (Aa Ac Ab))))
   (Ae (Aq 2 sc_law (A1 C__law_form hr.m (Aa (Zmg K (Dm (Gk K) (qv 0) (C6 Ac) (C6 Ac)) (C6 (Eo Ep Ac))) (Aa (Ba Ab) (Aa (qv 1) (Aa (Ah (Bc K) Ac (Ah Bk (A1 C__law_cell hr.m (Aa (qv 0) (Aa Ac Ab))) Ac)) (Aa Am Ab)))))))
   (Ae (Ax (Aw (Zdq K hr.u200) (A1 C__law_gaps hr.m (Aa (qv 2) (Aa (Ak Ab) (Aa (Ba Ab) Ab)))) (Ba Ab) (Av _)) (Ag (Aq 2 sc_law (Ak (Aa Am (Aa D4 (Aa (Ak (Aa (qv 2) (Aa (Ak (Aa Am (Aa D4 (Aa (Ak Ab) Ab)))) Ab))) Ab)))))) A0)
   (Ae (Fp (Ap K (A1 C__law_gaps hr.m (Aa (qv 2) (Aa (Ak Ab) (Aa (Ba Ab) Ab)))) Ac) (Dj K (n:=2) rfl (Bv (A9 (i:=3) sc_law.nd rfl (Or.inl rfl)) (Bv (A9 (i:=4) sc_law.nd rfl (Or.inl rfl)) (Di)))))
   (Ae (Aq 5 sc_law (Ba (Aa (Ak (Aa Am (Aa (qv 3) (Aa (Ba Ab) (Aa (Me (N:=["_law_name", "_law_kind"]) (σ0:=Dv 2 []) rfl (Fq rfl (by decide +kernel) (by decide +kernel) (by decide +kernel)) (D5 K (qv 4)) (Fy rfl (by rfl)) (fun _ _ _ _=>Dj K (n:=2) rfl (Bv (A9 (i:=0) Zff rfl (Or.inl rfl)) (Bv (A9 (i:=1) Zff rfl (Or.inl rfl)) (Di)))) (fun _ _ _ _=>Gw) (fun _ _ _ _=>Ak (Aa (qv 0) (Aa (Ak (Aa Am (Aa Ac Ab))) Ab)))) Ab))))) Ab)))
   (Ae (Aq 6 sc_law (A1 C__law_mixed hr.m (Aa (A1 C__law_cell hr.m (Aa (qv 0) (Aa Ac Ab))) (Aa Ac Ab))))
   (Ae (Aq 7 sc_law (Ah Dx Ac (Ah Bk (qv 6) Ac)))
   (Ae (Aq 8 sc_law (Ak (Aa (Ak (Aa Am (Aa Ac Ab))) (Aa (qv 5) (Aa (qv 7) Ab)))))
   (Ae (Ax (Aw (A5 K hr.u200) (Ah Bk (Ah B7 (qv 6) Ac) Ac) Ac (Av _)) (Ag (Aq 8 sc_law (Ak (Aa (Ak (Aa Am (Aa Dl Ab))) (Aa (Ba Ab) (Aa (qv 7) Ab)))))) A0)
   (Ae (Aq 9 sc_law (A1 C__law_copy hr.m (Aa (qv 8) Ab)))
   (Ae (Aq 10 sc_law (Ak (Aa Am (Aa D4 (Aa (Ak (Aa (Ak (Aa Am (Aa Ac (Aa (Ak Ab) Ab)))) (Aa (Ak (Aa Am (Aa D4 (Aa (Ak Ab) Ab)))) Ab))) Ab)))))
   (Ae (Aq 11 sc_law (A1 C__law_all hr.m (Aa (qv 2) (Aa (Ak Ab) Ab))))
   (Ae (Fp (Ap K (qv 11) (Ah Bk (Ah B7 (qv 6) Ac) (Be (Cp K) (by rfl) T.len (by decide +kernel) (Aa (qv 11) Ab)))) (Dj K (n:=2) rfl (Bv (A9 (i:=12) sc_law.nd rfl (Or.inl rfl)) (Bv (A9 (i:=13) sc_law.nd rfl (Or.inl rfl)) (Di)))))
   (Ae (Aq 14 sc_law (Ak (Aa Am (Aa (Ba (Oy (xs:=[.bl false,.bl true,.bl false,.bl true]) rfl)) Ab))))
   (Ae (Ax (QW.qt (Fo (Aw (A5 K hr.u200) (Ap K (qv 13) Ac) Am (Av _)) (F0 (Aw (A5 K hr.u200) (Ah Bk (Ah B7 (Ah B7 (qv 6) Ac) Ac) Ac) Ac (Av _))))) (Ae (Aq 12 sc_law (A1 C__law_bad hr.m (Aa (Ah B7 (qv 6) Ac) (Aa (qv 12) (Aa (qv 13) Ab)))))
   (Ag (Aq 14 sc_law (Ak (Aa (qv 12) (Aa (Ba (Oy (xs:=[.bl true,.bl false,.bl false,.bl true]) rfl)) Ab)))))) A0)
   (Ae (Ax (QW.qt (Fo (Gf (Cw (A1 C__law_same hr.m (Aa (A1 C__law_refused hr.m (Aa (qv 2) (Aa (qv 9) (Aa (qv 12) (Aa (qv 10) Ab))))) (Aa (qv 14) Ab))))) (F0 (Gf (Cw (A1 C__law_same hr.m (Aa (qv 9) (Aa (qv 8) Ab)))))))) (Ag (Au Dl)) A0)
   (Ae (Aq 15 sc_law (A1 C__law_go_on hr.m (Aa (qv 2) (Aa (qv 9) (Aa (qv 3) (Aa (qv 10) Ab))))))
   (Ae (Ax (Aw (Zdq K hr.u200) (Ap K (qv 8) Ac) (Ba Ab) (Av _)) (Ag (Au (A1 C__law_same hr.m (Aa (qv 15) (Aa (qv 8) Ab))))) A0)
   (Ae (Ax (Aw Ho (Ah (Bc K) (qv 7) Ac) Ac (Av _)) (Ag (Au (Zaf (Zca (qv 15))))) A0)
   (Ae (Aq 16 sc_law (Ba (Aa (Ak (Aa Am (Aa (Ah (Bc K) (qv 3) (Ak (Aa Ac Ab))) (Aa (Ba Ab) (Aa (Em (Jc K) (by rfl) T.list (by decide +kernel) (Aa (Ap K (Ap K (qv 5) Ac) Ac) Ab)) Ab))))) (Aa (Ak (Aa Am (Aa (qv 3) (Aa (Ba (Aa (Ak (Aa Am (Aa Ac Ab))) (Aa (Ak (Aa Am (Aa Ac Ab))) Ab))) (Aa (Ba Ab) Ab))))) Ab))))
   (Ag (Au (A1 C__law_same hr.m (Aa (qv 15) (Aa (Ak (Aa (Ak (Aa Am (Aa Ac Ab))) (Aa (qv 16) (Aa (Ah (Bc K) (qv 7) Ac) Ab)))) Ab)))))))))))))))))))))))),?_⟩
  have bg:=big
  walk_at "r"
  refine ⟨a,1,rfl,SC,by decide,by decide,fun z1=>?_⟩
  walk_at "r"
  refine ⟨z1,rfl,fun pn ts Hn sn hpn lts epn=>?_⟩
  obtain ⟨ms,hms,hml⟩:=SC
  have SCn:Script K Hn a:=Script.same ⟨ms,hms,hml⟩ sn
  walk_at "r"
  dsimp only [Zbd]
  walk_at "r"
  refine Li (sn.seq hms) fun pc hpc=>?_
  walk_at "r"
  refine ⟨pc,_,rfl,rfl,SqL.of Ad,fun pr hpr=>?_⟩
  rw [show Bz (ms.map V.int) (some 3) (some 60)=((ms.drop 3).take 57).map V.int from by rw [show (some (3:Int))=some ((3:Nat):Int) from rfl,show (some (60:Int))=some ((60:Nat):Int) from rfl,Zso,List.map_take,List.map_drop]] at hpr ⊢
  rw [<- List.map_reverse]
  generalize ecs:((ms.drop 3).take 57).reverse=cs
  have lcs:cs.length<=63:=by rw [<- ecs,Uw,Pq];omega
  generalize ((ms.drop 3).take 57).map V.int=c0 at hpr ⊢
  have x1:=Same.upd (o:=.lst c0) hpc
  have x2:=Same.upd (o:=.lst (cs.map V.int)) hpr
  have npr:Hn pr=none:=x1.free hpr
  have s1:=x1.trans x2
  have e1:upd (upd Hn pc (.lst c0)) pr (.lst (cs.map V.int)) pr=some (.lst (cs.map V.int)):=Ad
  revert s1 e1
  generalize upd (upd Hn pc (.lst c0)) pr (.lst (cs.map V.int))=H1
  intro s1 e1
  walk_at "r"
  refine ⟨Bf,fun ar har=>?_⟩
  have s2:=Same.upd (o:=.lst []) har
  have e2:upd H1 ar (.lst []) ar=some (.lst []):=Ad
  have nra:ar≠pr:=fun z=>by rw [z,e1] at har;cases har
  revert s2 e2
  generalize upd H1 ar (.lst [])=H2
  intro s2 e2
  have s02:=s1.trans s2
  walk_at "r"
  refine ⟨a,0,rfl,SCn.same s02,by decide,by decide,fun z0=>?_⟩
  obtain ⟨room,er,r1,r14⟩:∃ k:Nat,1+z0 % 14=(k:Int)/\1<=k/\k<=14:=⟨(1+z0 % 14).toNat,by omega,by omega,by omega⟩
  walk_at "r"
  rw [er]
  have npn:pn≠pr:=fun z=>by rw [z] at epn;rw [npr] at epn;cases epn
  refine ⟨pr,ar,pn,ts,0,room, "num",rfl,⟨⟨cs,s2 _ _ e1,lcs⟩,⟨[],[],e2,.nil,O4 _⟩,nra,s02 _ _ epn,npn,lts⟩,by omega,r1,r14,fun tv0 t0 H3 r3 TT0 tf0 hz0=>?_⟩
  have s3:Same Hn H3:=fun c o hc=>r3.r c o (fun z=>by rw [z,npr] at hc;cases hc) (s02 _ _ hc)
  refine s_gname ?_
  try refine L2.openY (by assumption) ?_
  with_reducible refine s_seq ?_
  refine C5 (t:=Cm _ _ _) (R:=fun σ' H'=>∃ tv t,σ'=[some (.ref a),some (.ref pn),some tv,none,none,none,none,none,none,none,none,none,none,none,none,none,none]/\Same Hn H'/\TrAt K H' tv t/\Tf t/\t.size<=44/\(walk [] t).filter E1≠[]) ?_ ?_
  rotate_left
  ·intro Y hY
   walk_at "r"
   refine ⟨Bf,fun p4 h4=>?_⟩
   have s4:=Same.upd (o:=.tup []) h4
   walk_at "r"
   refine ⟨Bf,fun p5 h5=>?_⟩
   have s5:=Same.upd (o:=.lst []) h5
   walk_at "r"
   refine ⟨tv0,t0,p4,p5,[],0,rfl,TT0.same (s4.trans s5),tf0,s5 _ _ Ad,⟨[],[],Ad,.nil,O4 _⟩,by omega,by simp;omega,by omega,fun rg ws H6 s6 e6 al6=>?_⟩
   have s36:=s4.trans (s5.trans s6)
   walk_at "r"
   refine ⟨Bf,fun p7 h7=>?_⟩
   have s7:=Same.upd (o:=.lst []) h7
   walk_at "r"
   refine Zfc (SqL.of (s7 _ _ e6)) (SqL.of Ad) ?_
   have s37:=s36.trans s7
   walk_at "r"
   cases ws with
   | cons y r =>
    walk_at "r"
    refine hY _ _ ⟨tv0,t0,rfl,s3.trans s37,TT0.same s37,tf0,by omega,fun z=>?_⟩
    rw [z] at al6
    cases al6.1
   | nil =>
    rw [show ([]:List V).isEmpty=true from rfl]
    walk_at "r"
    refine ⟨Bf,fun g0 k0=>?_⟩
    have y0:=Same.upd (o:=.tup []) k0
    walk_at "r"
    refine ⟨Bg,fun g1 k1=>?_⟩
    have y1:=Same.upd (o:=.tup [.str "gap",.non,.ref g0]) k1
    walk_at "r"
    refine ⟨Bb,fun g2 k2=>?_⟩
    have y2:=Same.upd (o:=.tup [tv0,.ref g1]) k2
    walk_at "r"
    refine ⟨Bg,fun g3 k3=>?_⟩
    have y3:=Same.upd (o:=.tup [.str "less",.non,.ref g2]) k3
    have y13:=y2.trans y3
    have y03:=y0.trans (y1.trans y13)
    refine hY _ _ ⟨.ref g3,.mk "less" (.flat .non) [t0,.mk "gap" (.flat .non) []],rfl,s3.trans (s37.trans y03),N2 (us:=[tv0,.ref g1]) (ts:=[t0,.mk "gap" (.flat .non) []]) Ad (.inl ⟨rfl,rfl⟩) (y3 _ _ Ad) ((Al.nil.snoc (TT0.same (s37.trans y03))).snoc (Kc (y13 _ _ Ad) ((y1.trans y13) _ _ Ad) rfl)),Nc (bk (by decide +kernel)) tf0 (Oc (by decide +kernel)),?_,Zjk⟩
    rw [Mf]
    have:(Tr.mk "gap" (.flat .non) []).size=1:=by simp [Tr.size,Bh]
    omega
  ·rintro _ H4 ⟨tv,t,rfl,s4,TT,tf,sz,hg⟩
   obtain ⟨x0,fr,hfr⟩:=List.exists_cons_of_ne_nil hg
   have hm:=U7.mp (show x0∈(walk [] t).filter E1 by rw [hfr];exact Sl ..)
   obtain ⟨sb,pe⟩:=Ng t x0 hm.1
   have hgw:x0.2.wd = "gap" := of_decide_eq_true hm.2
   have dep:=Kb [] t x0 hm.1
   obtain ⟨pl,tx⟩:=x0
   have dep:pl.length+1<=0+t.size:=dep
   have sb:Sub t pl:=sb
   obtain ⟨gw,gd,gps⟩:=tx
   have hgw:gw = "gap" := hgw
   subst hgw
   have pe:(A8 t pl)[pl.length]?=some (.mk "gap" gd gps):=pe
   walk_at "r"
   refine ⟨Bf,fun p5 h5=>?_⟩
   have s5:=Same.upd (o:=.tup []) h5
   walk_at "r"
   refine ⟨Bf,fun p6 h6=>?_⟩
   have s6:=Same.upd (o:=.lst []) h6
   walk_at "r"
   refine ⟨tv,t,p5,p6,[],0,rfl,TT.same (s5.trans s6),tf,s6 _ _ Ad,⟨[],[],Ad,.nil,O4 _⟩,by omega,by simp;omega,by omega,fun rg ws H7 s7 e7 al7=>?_⟩
   have s47:=s5.trans (s6.trans s7)
   rw [hfr] at al7
   cases ws with
   | nil=>cases al7.1
   | cons y0 yr =>
   obtain ⟨ga,gp,gb,rfl,qg,egp,bs,zs,eb,alb,lb⟩:=al7.2 0 y0 _ rfl rfl
   walk_at "r"
   refine Bm (SqL.of e7) (show B2 (V.ref ga::yr) ((0:Nat):Int)=some (V.ref ga) from Ci rfl) ?_
   walk_at "r"
   refine Dc qg rfl ?_
   walk_at "r"
   refine ⟨Bf,fun ao hao=>?_⟩
   have s8:=Same.upd (o:=.lst []) hao
   have e8:upd H7 ao (.lst []) ao=some (.lst []):=Ad
   revert s8 e8
   generalize upd H7 ao (.lst [])=H8
   intro s8 e8
   walk_at "r"
   refine .inl ⟨gb,rfl,⟨_,SqL.of (s8 _ _ eb)⟩,fun D hD=>?_⟩
   refine Iy (K:=K) (a:=gb) (xs:=bs) (Pv:=fun i ys σ' H'=>∃ k0 k1,σ'=[k0,k1]/\Al (L2.PrAt K H') ys ((zs.take i).map fun z=>(z.1,(("num" : Str),V.int 3)))/\Same H8 H') ⟨none,none,rfl,.nil,Same.upd hD⟩ (fun i ys σ' H' _ ⟨_,_,_,_,s'⟩=>SqL.of (s' _ _ (s8 _ _ eb))) ?_ ?_
   ·rintro i y ys σ' H9 hy hys ⟨k0,k1,rfl,al9,s9⟩
    obtain ⟨z,hz,a9,rfl,q9⟩:=alb.get hy
    walk_at "r"
    refine Dc ((s8.trans s9).tup q9) rfl ?_
    walk_at "r"
    refine ⟨Bb,fun u1 hu1=>?_⟩
    have t1:=Same.upd (o:=.tup [.str "num",.int 3]) hu1
    walk_at "r"
    refine ⟨Bb,fun u2 hu2=>?_⟩
    have t2:=Same.upd (o:=.tup [.str z.1,.ref u1]) hu2
    have t12:=t1.trans t2
    have lz:=alb.1
    have hyl:ys.length<=2000:=by
     rw [al9.1,Pa,Pq]
     omega
    refine ⟨ys,t12 _ _ hys,by omega,_,Ad,_,_,rfl,?_,(s9.trans t12).over hD⟩
    rw [Zb6 hz,P4,U0]
    have sA:SameT _ (upd _ D (.lst (ys++[.ref u2]))):=SameT.set (t12 _ _ hys)
    exact ((al9.mono (L2.PrAt.same t12.t)).mono (L2.PrAt.same sA)).snoc (L2.PrAt.same sA _ _ ⟨u2,.ref u1,rfl,SqT.of Ad,rfl,u1,rfl,SqT.of (t2 _ _ Ad)⟩)
   ·rintro ys σ' H9 hys ⟨k0,k1,rfl,al9,s9⟩
    have lz:=alb.1
    rw [Qi (by omega)] at al9
    obtain ⟨arr,earr⟩:∃ arr,arr=zs.map fun z=>(z.1,(("num" : Str),V.int 3)):=⟨_,rfl⟩
    rw [<- earr] at al9
    have arl:arr.length<=1000:=by rw [earr,Pa];omega
    have arn:∀ y∈arr,y.2.1 = "num" := fun y hy=>by
     rw [earr] at hy
     obtain ⟨z,_,rfl⟩:=Qp.mp hy
     rfl
    walk_at "r"
    refine ⟨Fa,fun ra hra=>?_⟩
    have t1:=Same.upd (o:=.tup [.str "gap",.ref gp,.ref ao,.ref D]) hra
    have er1:upd H9 ra (.tup [.str "gap",.ref gp,.ref ao,.ref D]) ra=some (.tup [.str "gap",.ref gp,.ref ao,.ref D]):=Ad
    revert t1 er1
    generalize upd H9 ra (.tup [.str "gap",.ref gp,.ref ao,.ref D])=HA
    intro t1 er1
    walk_at "r"
    refine ⟨Br,fun rl hrl=>?_⟩
    have t2:=Same.upd (o:=.lst [.ref ra]) hrl
    have er2:upd HA rl (.lst [.ref ra]) rl=some (.lst [.ref ra]):=Ad
    have nlo:ao≠rl:=fun z=>by rw [<- z,(s9.trans t1) _ _ e8] at hrl;cases hrl
    have nld:D≠rl:=fun z=>by rw [<- z,t1 _ _ hys] at hrl;cases hrl
    revert t2 er2
    generalize upd HA rl (.lst [.ref ra])=HB
    intro t2 er2
    have t12:=t1.trans t2
    have tAB:=t2
    have t9B:=t12
    have s7B:=s8.trans (s9.trans t12)
    have s4B:=s47.trans s7B
    have snB:=s4.trans s4B
    have alR:Al (RwX K (fun b=>b=rl) HB) [.ref ra] [⟨"gap",A3 pl,[],arr⟩]:=Al.nil.snoc ⟨⟨ra,gp,ao,D,[],ys,rfl,SqT.of (t2 _ _ er1),by rw [C9];exact SqT.of (s7B _ _ egp),(s9.trans t12) _ _ e8,.nil,t12 _ _ hys,al9.mono (L2.PrAt.same t12.t),nlo,nld⟩,ra,gp,ao,D,rfl,SqT.of (t2 _ _ er1),by rw [C9];exact s7B _ _ egp⟩
    walk_at "r"
    refine ⟨a,2,rfl,SCn.same snB,by decide,by decide,fun z2=>?_⟩
    walk_at "r"
    refine ⟨z2,0,rfl,by decide,by decide,fun c c0 _=>?_⟩
    walk_at "r"
    refine ⟨Bb,fun a1 ha1=>?_⟩
    have t3:=Same.upd (o:=.tup [.str "row",.int 0]) ha1
    walk_at "r"
    refine ⟨Bg,fun a2 ha2=>?_⟩
    have t4:=Same.upd (o:=.tup [.ref a1,.ref rl,.int (500 - c % 3)]) ha2
    have t34:=t3.trans t4
    have eq4:upd (upd HB a1 (.tup [.str "row",.int 0])) a2 (.tup [.ref a1,.ref rl,.int (500 - c % 3)]) a2=some (.tup [.ref a1,.ref rl,.int (500 - c % 3)]):=Ad
    have eq3:=t4 _ _ (show upd HB a1 (.tup [.str "row",.int 0]) a1=some (.tup [.str "row",.int 0]) from Ad)
    revert t34 eq4 eq3
    generalize upd (upd HB a1 (.tup [.str "row",.int 0])) a2 (.tup [.ref a1,.ref rl,.int (500 - c % 3)])=HC
    intro t34 eq4 eq3
    refine s_gname ?_
    try refine L2.openY (by assumption) ?_
    with_reducible refine s_seq ?_
    refine C5 (t:=Cm _ _ _) (R:=fun σ' H'=>∃ aq av rd rv rs xa,σ'=[some (.ref a),some (.ref pn),some tv,some (.ref gp),some (.ref gb),some (.ref rl),some (.int c),some (.int (500 - c % 3)),some (.ref aq),none,none,none,none,none,none,none,none]/\Same HC H'/\SqT K H' aq [av,.ref rd,.int (500 - c % 3)]/\H' rd=some (.lst rv)/\Al (RwX K (fun b=>b=rd) H') rv rs/\ThAt K H' av xa/\(rs=[]/\xa=(("truth" : Str),V.bl true)\/rs=[⟨"gap",A3 pl,[],arr⟩]/\xa=Dd 0)) ?_ ?_
    rotate_left
    ·intro Y hY
     walk_at "r"
     refine Bj (fun _=>?_) (fun _=>?_)
     ·walk_at "r"
      refine ⟨Bb,fun b1 hb1=>?_⟩
      have v1:=Same.upd (o:=.tup [.str "truth",.bl true]) hb1
      walk_at "r"
      refine ⟨Bf,fun b2 hb2=>?_⟩
      have v2:=Same.upd (o:=.lst []) hb2
      walk_at "r"
      refine ⟨Bg,fun b3 hb3=>?_⟩
      have v3:=Same.upd (o:=.tup [.ref b1,.ref b2,.int (500 - c % 3)]) hb3
      refine hY _ _ ⟨b3,.ref b1,b2,[],[],_,rfl,v1.trans (v2.trans v3),SqT.of Ad,v3 _ _ Ad,.nil,⟨rfl,b1,rfl,SqT.of ((v2.trans v3) _ _ Ad)⟩,.inl ⟨rfl,rfl⟩⟩
     ·refine hY _ _ ⟨a2,.ref a1,rl,[.ref ra],_,_,rfl,Same.refl _,SqT.of eq4,t34 _ _ er2,alR.mono (RwX.same t34.a),⟨rfl,a1,rfl,SqT.of eq3⟩,.inr ⟨rfl,rfl⟩⟩
    ·rintro _ HD ⟨aq,av,rd,rv,rs,xa,rfl,sD,qq,erd,alq,tha,hrec⟩
     have lrs:rs.length<=1:=by rcases hrec with ⟨rfl,_⟩ | ⟨rfl,_⟩ <;> simp
     walk_at "r"
     refine ⟨aq,rd,av,_,rv,rs,fun b=>b=rd,rfl,qq,erd,alq,by omega,fun rc qc ws HE sE qE nE eE alE=>?_⟩
     walk_at "r"
     refine ⟨Bf,fun f0 k0=>?_⟩
     have w0:=Same.upd (o:=.tup []) k0
     walk_at "r"
     refine ⟨Bg,fun f1 k1=>?_⟩
     have w1:=Same.upd (o:=.tup [.str "num",.int 1,.ref f0]) k1
     walk_at "r"
     refine ⟨Bf,fun f2 k2=>?_⟩
     have w2:=Same.upd (o:=.tup []) k2
     walk_at "r"
     refine ⟨Bg,fun f3 k3=>?_⟩
     have w3:=Same.upd (o:=.tup [.str "gap",.non,.ref f2]) k3
     walk_at "r"
     refine ⟨Bb,fun f4 k4=>?_⟩
     have w4:=Same.upd (o:=.tup [.ref f1,.ref f3]) k4
     walk_at "r"
     refine ⟨Bg,fun f5 k5=>?_⟩
     have w5:=Same.upd (o:=.tup [.str "plus",.non,.ref f4]) k5
     have Gr:=w4.trans w5
     have Ge:=w3.trans Gr
     have Gv:=w2.trans Ge
     have G5:=w1.trans Gv
     have w05:=w0.trans G5
     have TF:TrAt K _ (.ref f5) plusT:=N2 (us:=[.ref f1,.ref f3]) (ts:=[.mk "num" (.flat (.int 1)) [],.mk "gap" (.flat .non) []]) Ad (.inl ⟨rfl,rfl⟩) (w5 _ _ Ad) ((Al.nil.snoc (Kc (Gv _ _ Ad) (G5 _ _ Ad) rfl)).snoc (Kc (Gr _ _ Ad) (Ge _ _ Ad) rfl))
     revert w05 TF
     generalize upd (upd (upd (upd (upd (upd HE f0 _) f1 _) f2 _) f3 _) f4 _) f5 _=HF
     intro w05 TF
     clear w0 w1 w2 w3 w4 w5 Gr Ge Gv G5
     have sCF:=sD.trans (sE.trans w05)
     have sBF:=t34.trans sCF
     have s4F:=s4B.trans sBF
     walk_at "r"
     refine ⟨Bf,fun g0 kg=>?_⟩
     have wg:=Same.upd (o:=.tup []) kg
     walk_at "r"
     refine ⟨tv,t,g0,[],rfl,TT.same (s4F.trans wg),SqT.of Ad,by omega,by simp;omega,fun ra2 wsA HG sG eG alG=>?_⟩
     have sFG:=wg.trans sG
     have la:=alG.1
     rw [Hz] at la
     have t1z:1<=t.size:=by cases t;rw [Tr.size];omega
     walk_at "r"
     refine El (SqL.of eG) ?_
     refine s_rI (by show (0:Int) < (wsA.length:Nat);omega) ?_
     obtain ⟨k,ek,hk⟩:∃ k:Nat,c / 9 % ((wsA.length:Nat):Int)=(k:Int)/\k < wsA.length:=by
      have m0:=Qk (c / 9) (show ((wsA.length:Nat):Int)≠0 by omega)
      have m1:=Rm (c / 9) (show (0:Int) < ((wsA.length:Nat):Int) by omega)
      exact ⟨(c / 9 % ((wsA.length:Nat):Int)).toNat,by omega,by omega⟩
     rw [ek]
     refine Bm (SqL.of eG) (Ci (O5 hk)) ?_
     obtain ⟨x,hx,xa0,hp,hu,ex,qx0,qx,hx2⟩:=alG.get (O5 hk)
     rw [ex]
     have hxm:=Qr hx
     obtain ⟨sbx,pex⟩:=Ng t x hxm
     have dpx:=Kb [] t x hxm
     have dpx:x.1.length+1<=0+t.size:=dpx
     have tfx:=Tf.all sbx tf _ _ pex
     walk_at "r"
     refine Dc qx0 rfl ?_
     walk_at "r"
     refine ⟨Fa,fun d1 hd1=>?_⟩
     have t1:=Same.upd (o:=.lst [.bl false,.bl true,.bl false,.bl true]) hd1
     walk_at "r"
     refine ⟨Bb,fun d2 hd2=>?_⟩
     have t2:=Same.upd (o:=.tup [.str "no deed",.ref d1]) hd2
     have t12:=t1.trans t2
     have ed1:=t2 _ _ (show upd HG d1 (.lst [.bl false,.bl true,.bl false,.bl true]) d1=some (.lst [.bl false,.bl true,.bl false,.bl true]) from Ad)
     have ed2:upd (upd HG d1 (.lst [.bl false,.bl true,.bl false,.bl true])) d2 (.tup [.str "no deed",.ref d1]) d2=some (.tup [.str "no deed",.ref d1]):=Ad
     revert t12 ed1 ed2
     generalize upd (upd HG d1 (.lst [.bl false,.bl true,.bl false,.bl true])) d2 (.tup [.str "no deed",.ref d1])=HI
     intro t12 ed1 ed2
     refine s_gname ?_
     try refine L2.openY (by assumption) ?_
     with_reducible refine s_seq ?_
     refine C5 (t:=Cm _ _ _) (R:=fun σ' H'=>∃ pp bad dp bl,σ'=[some (.ref a),some (.ref pn),some tv,some (.ref gp),some (.ref gb),some (.ref rl),some (.int c),some (.int (500 - c % 3)),some (.ref aq),some (.ref rc),some (.ref f5),some (.ref ra2),some (.ref pp),some hu,some (.ref dp),none,none]/\Same HG H'/\RefO K H' t pp bad/\SqT K H' dp [cond bad (.ref pp) (.str "no deed"),.ref bl]/\H' bl=some (.lst [.bl bad,.bl (!bad),.bl false,.bl true])/\∃ dd,IsD K H' 1 (cond bad (.ref pp) (.str "no deed")) dd/\Db dd) ?_ ?_
     rotate_left
     ·intro Y hY
      obtain ⟨ha,hpp,hn',rfl,qh⟩:=Zi6 (hx2.same t12)
      walk_at "r"
      refine Az qh rfl ?_
      walk_at "r"
      rw [Bo]
      by_cases hw:x.2.wd = "gap"
      ·rw [decide_eq_true hw]
       walk_at "r"
       refine ⟨_,hp,_,t,x.1,x.2,rfl,t12.tup qx,hx2.same t12,tf,sbx,pex,by omega,fun pp pl' far rest HJ sJ qJ bJ l1 l2 hint=>?_⟩
       walk_at "r"
       refine ⟨Fa,fun d3 h3=>?_⟩
       have t5:=Same.upd (o:=.lst [.bl true,.bl false,.bl false,.bl true]) h3
       walk_at "r"
       refine ⟨Bb,fun d4 h4=>?_⟩
       have t6:=Same.upd (o:=.tup [.ref pp,.ref d3]) h4
       have t56:=t5.trans t6
       exact hY _ _ ⟨pp,true,d4,d3,rfl,t12.trans (sJ.trans t56),⟨pl',far,rest,t56.tup qJ,bJ,l1⟩,SqT.of Ad,t6 _ _ Ad,_,Zey (t56.tup qJ) (Zdk hint),Zcr (by unfold C8;rw [O9,Ps,Ce];omega)⟩
      ·rw [decide_eq_false hw]
       walk_at "r"
       refine Bj (fun _=>?_) (fun _=>?_)
       ·walk_at "r"
        refine ⟨_,hp,_,t,x.1,x.2,rfl,t12.tup qx,hx2.same t12,tf,sbx,pex,by omega,fun pp pl' far rest HJ sJ qJ bJ l1 l2 hint=>?_⟩
        walk_at "r"
        refine ⟨Fa,fun d3 h3=>?_⟩
        have t5:=Same.upd (o:=.lst [.bl true,.bl false,.bl false,.bl true]) h3
        walk_at "r"
        refine ⟨Bb,fun d4 h4=>?_⟩
        have t6:=Same.upd (o:=.tup [.ref pp,.ref d3]) h4
        have t56:=t5.trans t6
        exact hY _ _ ⟨pp,true,d4,d3,rfl,t12.trans (sJ.trans t56),⟨pl',far,rest,t56.tup qJ,bJ,l1⟩,SqT.of Ad,t6 _ _ Ad,_,Zey (t56.tup qJ) (Zdk hint),Zcr (by unfold C8;rw [O9,Ps,Ce];omega)⟩
       ·walk_at "r"
        exact hY _ _ ⟨hp,false,d2,d1,rfl,t12,⟨x.1,x.2,t12.tup qx,sbx,by omega,pex,hw⟩,SqT.of ed2,ed1,_,.flat rfl,.flat _⟩
     ·rintro _ HK ⟨pp,bad,dp,bl,rfl,sK,ho,qdp,ebl,dd,idd,okd⟩
      have sDK:=sE.trans (w05.trans (sFG.trans sK))
      have s4K:=s4F.trans (sFG.trans sK)
      walk_at "r"
      refine ⟨tv,.ref rc,.ref f5,t,pp,bad,rfl,TT.same s4K,ho,fun r2 bl2 HL sL qL eL=>?_⟩
      have fl4:∀ v∈[V.bl bad,.bl (!bad),.bl false,.bl true],B3 v=true:=by
       cases bad <;> decide
      walk_at "r"
      refine ⟨.ref r2,.ref dp,.tup [dd,.lst ([V.bl bad,.bl (!bad),.bl false,.bl true].map Dt.flat)],2,rfl,by decide,Zf7 qL (idd.same sL) eL fl4,Zf7 (sL.tup qdp) (idd.same sL) (sL _ _ ebl) fl4,.tup (by show 2<=5000;decide) ?_,fun HM sM=>?_⟩
      ·intro d hd
       rcases Pb.mp hd with rfl | hd
       ·exact okd
       ·rw [Qe.mp hd]
        exact .lst (by show 4<=5000;decide) fun d hd=>by
         obtain ⟨v,_,rfl⟩:=Qp.mp hd
         exact .flat _
      have sKM:=sL.trans sM
      have sDM:=sDK.trans sKM
      have okR:∀ q∈rs,q.Ok:=by
       rcases hrec with ⟨rfl,_⟩ | ⟨rfl,_⟩
       ·exact fun q hq=>(nomatch hq)
       ·intro q hq
        rw [Qe.mp hq]
        exact ⟨by show (A3 pl).length<=5000;unfold A3;rw [Pa];omega,Pw _,by show arr.length<=5000;omega⟩
      have sEM:=w05.trans (sFG.trans (sK.trans sKM))
      walk_at "r"
      refine ⟨.ref rc,.ref aq,J7 xa rs (500 - c % 3),6,rfl,by decide,Iz (sEM.tup qE) (ThAt.same sDM.t _ _ tha) (sEM _ _ eE) (alE.mono fun v x h=>RwAt.same sEM.a _ _ h.1),Iz (sDM.tup qq) (ThAt.same sDM.t _ _ tha) (sDM _ _ erd) (alq.mono fun v x h=>RwAt.same sDM.a _ _ h.1),Za3 (by omega) okR,fun HO sO=>?_⟩
      have sEO:=sEM.trans sO
      have sDO:=sDM.trans sO
      have s4O:=s4K.trans (sKM.trans sO)
      have sFO:=(sFG.trans (sK.trans sKM)).trans sO
      have s7O:=s7B.trans (t34.trans (sD.trans sDO))
      obtain ⟨oo,G,hoo⟩:∃ oo,Er (Cu (Bx t pl plusT)) pl rs [] ⟨[],[],[],500 - c % 3⟩ oo/\(rs=[]/\xa=(("truth" : Str),V.bl true)/\oo=some ([],⟨[],[],[],500 - c % 3⟩)\/rs=[⟨"gap",A3 pl,[],arr⟩]/\xa=Dd 0/\(500 - c % 3+2<=500/\oo=some ([Dd 1],⟨Gh pl arr,[],[],500 - c % 3+2⟩)\/500 < 500 - c % 3+2/\oo=none)):=by
       rcases hrec with ⟨e1,e2⟩ | ⟨e1,e2⟩
       ·rw [e1];exact ⟨_,.nil,.inl ⟨rfl,e2,rfl⟩⟩
       ·obtain ⟨oo,G,g1,g2⟩:=Zlh (n:=500 - c % 3) sb arl arn (by omega)
        rw [e1]
        refine ⟨oo,G,.inr ⟨rfl,e2,?_⟩⟩
        by_cases h:500 - c % 3+2<=500
        ·exact .inl ⟨h,g1 h⟩
        ·exact .inr ⟨by omega,g2 (by omega)⟩
      walk_at "r"
      refine lgo (oo:=oo) (pl:=pl) sb pe (by omega) (by show pl.length<=100;omega) G ?_ (by omega) (by omega) (TT.same s4O) (SqT.of (s7O _ _ egp)) (TF.same sFO) (sEO.tup qE) (sEO _ _ eE) ((alE.mono (RwX.same sEO.a)).mono (RwX.mono fun b hb _=>by rw [hb];exact .inl rfl)) (ThAt.same sDO.t _ _ tha) fun v HP sP R=>?_
      ·intro bc S' eo
       rcases hoo with ⟨_,e2,e3⟩ | ⟨_,e2,⟨_,e3⟩ | ⟨_,e3⟩⟩
       ·rw [e2];exact fun z=>absurd (show ("truth" : Str) = "row" from z) (by decide +kernel)
       ·rw [e3] at eo;cases eo;rw [e2];exact fun _=>⟨0,rfl,by decide⟩
       ·rw [e3] at eo;cases eo
      have sDP:=sDO.trans sP
      walk_at "r"
      refine Az (sDP.tup qq) rfl ?_
      walk_at "r"
      refine ⟨Bf,fun p7 h7=>?_⟩
      have s7':=Same.upd (o:=.lst []) h7
      refine Zfc (SqL.of (s7' _ _ (sDP _ _ erd))) (SqL.of Ad) ?_
      refine ⟨_,rfl,?_⟩
      have lv:=alq.1
      revert s7'
      generalize upd HP p7 (.lst [])=HR
      intro s7'
      have sDR:=sDP.trans s7'
      rcases hoo with ⟨e1,e2,e3⟩ | ⟨e1,e2,h⟩
      ·subst e1
       subst e2
       have ev:rv=[]:=Rw lv
       subst ev
       rw [e3] at R
       obtain ⟨r',rd',av',rv',rfl,qR,tR,eR,alR'⟩:=R
       rw [show ([]:List V).isEmpty=true from rfl]
       walk_at "r"
       exact ⟨.ref r',.ref aq,J7 (("truth" : Str),V.bl true) [] (500 - c % 3),6,rfl,by decide,Iz (s7'.tup qR) (ThAt.same s7'.t _ _ tR) (s7' _ _ eR) (alR'.mono fun v x h=>RwAt.same s7'.a _ _ h),Iz (sDR.tup qq) (ThAt.same sDR.t _ _ tha) (sDR _ _ erd) (alq.mono fun v x h=>RwAt.same sDR.a _ _ h.1),Za3 (by decide) okR,fun _ _=>q _⟩
      ·subst e1
       subst e2
       have ev:rv.isEmpty=false:=by
        cases rv with
        | nil=>cases lv
        | cons=>rfl
       rw [ev]
       walk_at "r"
       rcases h with ⟨h5,e3⟩ | ⟨h5,e3⟩
       ·rw [decide_eq_false (show ¬ (500:Int) < 500 - c % 3+2 by omega)]
        rw [e3] at R
        obtain ⟨r',rd',av',rv',rfl,qR,tR,eR,alR'⟩:=R
        have s7R:=s7O.trans (sP.trans s7')
        have sBR:=t34.trans (sD.trans sDR)
        walk_at "r"
        refine ⟨Br,fun u1 k1=>?_⟩
        have y1:=Same.upd (o:=.tup [.int 1]) k1
        refine Dr ((s7R.trans y1).tup (SqT.of egp)) (SqT.of Ad) (by show (Ar pl).length+1<=sizeLine;rw [Ce];omega) fun u2 HS y2 q2=>?_
        have z2:=y1.trans y2
        walk_at "r"
        refine ⟨Bf,fun u3 k3=>?_⟩
        have y3:=Same.upd (o:=.lst []) k3
        have z3:=z2.trans y3
        have f3:upd HS u3 (.lst []) u3=some (.lst []):=Ad
        have q3:=y3.tup q2
        revert z3 f3 q3
        generalize upd HS u3 (.lst [])=HT
        intro z3 f3 q3
        walk_at "r"
        refine Bm (SqL.of ((sBR.trans z3) _ _ er2)) (show B2 [V.ref ra] ((0:Nat):Int)=some (V.ref ra) from Ci rfl) ?_
        walk_at "r"
        refine Az (SqT.of ((tAB.trans (sBR.trans z3)) _ _ er1)) rfl ?_
        refine ⟨D,ys,rfl,.inl (SqL.of ((t9B.trans (sBR.trans z3)) _ _ hys)),fun u4 k4=>?_⟩
        have y4:=Same.upd (o:=.lst ys) k4
        have f4:upd HT u4 (.lst ys) u4=some (.lst ys):=Ad
        have z4:=z3.trans y4
        have f3:=y4 _ _ f3
        have q3:=y4.tup q3
        revert z4 f4 f3 q3
        generalize upd HT u4 (.lst ys)=HU
        intro f4 z4 f3 q3
        walk_at "r"
        refine ⟨Fa,fun u5 k5=>?_⟩
        have y5:=Same.upd (o:=.tup [.str "gap",.ref u2,.ref u3,.ref u4]) k5
        have f5':upd HU u5 (.tup [.str "gap",.ref u2,.ref u3,.ref u4]) u5=some (.tup [.str "gap",.ref u2,.ref u3,.ref u4]):=Ad
        revert y5 f5'
        generalize upd HU u5 (.tup [.str "gap",.ref u2,.ref u3,.ref u4])=HV
        intro y5 f5'
        walk_at "r"
        refine ⟨Bb,fun u6 k6=>?_⟩
        have y6:=Same.upd (o:=.tup [.str "num",.int 1]) k6
        walk_at "r"
        refine ⟨Bb,fun u7 k7=>?_⟩
        have y7:=Same.upd (o:=.tup [.str "row",.int 0]) k7
        walk_at "r"
        refine ⟨Bb,fun u8 k8=>?_⟩
        have y8:=Same.upd (o:=.lst [.ref u6,.ref u7]) k8
        walk_at "r"
        refine ⟨Bf,fun u9 k9=>?_⟩
        have y9:=Same.upd (o:=.lst []) k9
        walk_at "r"
        refine ⟨Fa,fun v1 l1=>?_⟩
        have x1:=Same.upd (o:=.tup [.str "plus",.ref gp,.ref u8,.ref u9]) l1
        walk_at "r"
        refine ⟨Bb,fun v2 l2=>?_⟩
        have x2:=Same.upd (o:=.lst [.ref u5,.ref v1]) l2
        walk_at "r"
        refine ⟨Bb,fun v3 l3=>?_⟩
        have x3:=Same.upd (o:=.tup [.str "row",.int 1]) l3
        walk_at "r"
        refine ⟨Bg,fun v4 l4=>?_⟩
        have x4:=Same.upd (o:=.tup [.ref v3,.ref v2,.int (500 - c % 3+2)]) l4
        have x34:=x3.trans x4
        have x24:=x2.trans x34
        have x14:=x1.trans x24
        have x94:=y9.trans x14
        have x84:=y8.trans x94
        have x74:=y7.trans x84
        have x64:=y6.trans x74
        have x54:=y5.trans x64
        have zz:=z4.trans x54
        have sRZ:=s7'.trans zz
        have sBZ:=sBR.trans zz
        walk_at "r"
        refine ⟨.ref r',.ref v4,J7 (Dd 1) (Gh pl arr) (500 - c % 3+2),6,rfl,by decide,Iz (sRZ.tup qR) (ThAt.same sRZ.t _ _ tR) (sRZ _ _ eR) (alR'.mono fun v x h=>RwAt.same sRZ.a _ _ h),Iz (A:=fun _=>False) (SqT.of Ad) ⟨rfl,v3,rfl,SqT.of (x4 _ _ Ad)⟩ (x34 _ _ Ad) (rs:=Gh pl arr) ((Al.nil.snoc ⟨u5,u2,u3,u4,[],ys,rfl,SqT.of (x64 _ _ f5'),?_,x54 _ _ f3,.nil,x54 _ _ f4,al9.mono (L2.PrAt.same (t9B.trans sBZ).t),id,id⟩).snoc ⟨v1,gp,u8,u9,[.ref u6,.ref u7],[],rfl,SqT.of (x24 _ _ Ad),?_,x94 _ _ Ad,(Al.nil.snoc ⟨rfl,u6,rfl,SqT.of (x74 _ _ Ad)⟩).snoc ⟨rfl,u7,rfl,SqT.of (x84 _ _ Ad)⟩,x14 _ _ Ad,.nil,id,id⟩),Za3 (by show 2<=100;decide) ?_,fun _ _=>q _⟩
        ·show SqT K _ gp ((A3 pl).map V.int)
         rw [C9]
         exact (s7R.trans zz).tup (SqT.of egp)
        ·intro q hq
         unfold Gh at hq
         rcases Pb.mp hq with rfl | hq
         ·exact ⟨by show (A3 (pl++[1])).length<=5000;unfold A3;rw [Pa,O9,Pz];omega,Pw _,by show arr.length<=5000;omega⟩
         ·rw [Qe.mp hq]
          exact ⟨by show (A3 pl).length<=5000;unfold A3;rw [Pa];omega,by show 2<=5000;decide,Pw _⟩
        ·show SqT K _ u2 ((A3 (pl++[1])).map V.int)
         rw [C9]
         have e:Ar (pl++[1])=Ar pl++[V.int 1]:=by unfold Ar;rw [P4];rfl
         rw [e]
         exact x54.tup q3
       ·rw [decide_eq_true h5]
        rw [e3] at R
        have R:v=.non:=R
        subst R
        walk_at "r"
        rw [decide_eq_true (show V.non=V.non from rfl)]
        exact q _
end
local macro_rules | `(tactic| walk_at "zA")=>`(tactic| exact (let +zeta a:=_; let +zeta b:=_; let +zeta c:=_; have +usedOnly q:(‹Stmt›:Stmt)=.Assign a b c:=rfl; .Assign a b c))
local macro_rules | `(tactic| walk_at "zC")=>`(tactic| exact (let +zeta a:=_; let +zeta b:=_; let +zeta c:=_; let +zeta d:=_; let +zeta e:=_; let +zeta f:=_; let +zeta g:=_; let +zeta h:=_; let +zeta i:=_; let +zeta j:=_; let +zeta k:=_; have +usedOnly q:(‹Stmt›:Stmt)=.ClassDef a b c d e f g h i j k:=rfl; .ClassDef a b c d e f g h i j k))
local macro_rules | `(tactic| walk_at "zF")=>`(tactic| exact (let +zeta a:=_; let +zeta b:=_; let +zeta c:=_; let +zeta d:=_; let +zeta e:=_; let +zeta f:=_; let +zeta g:=_; let +zeta h:=_; let +zeta i:=_; let +zeta j:=_; have +usedOnly q:(‹Stmt›:Stmt)=.FunctionDef a b c d e f g h i j:=rfl; .FunctionDef a b c d e f g h i j))
noncomputable def w0:Stmt:=by let +zeta s:=As 0;walk_at "zA"
noncomputable def w1:Stmt:=by let +zeta s:=As 1;walk_at "zC"
noncomputable def w2:Stmt:=by let +zeta s:=As 2;walk_at "zC"
noncomputable def w3:Stmt:=by let +zeta s:=As 3;walk_at "zC"
noncomputable def w4:Stmt:=by let +zeta s:=As 4;walk_at "zC"
noncomputable def w5:Stmt:=by let +zeta s:=As 5;walk_at "zA"
noncomputable def w6:Stmt:=by let +zeta s:=As 6;walk_at "zF"
noncomputable def w7:Stmt:=by let +zeta s:=As 7;walk_at "zA"
noncomputable def w8:Stmt:=by let +zeta s:=As 8;walk_at "zF"
noncomputable def w9:Stmt:=by let +zeta s:=As 9;walk_at "zF"
noncomputable def w10:Stmt:=by let +zeta s:=As 10;walk_at "zF"
noncomputable def w11:Stmt:=by let +zeta s:=As 11;walk_at "zF"
noncomputable def w12:Stmt:=by let +zeta s:=As 12;walk_at "zF"
noncomputable def w13:Stmt:=by let +zeta s:=As 13;walk_at "zF"
noncomputable def w14:Stmt:=by let +zeta s:=As 14;walk_at "zA"
noncomputable def G5:Stmt:=by let +zeta s:=As 15;walk_at "zF"
noncomputable def w16:Stmt:=by let +zeta s:=As 16;walk_at "zA"
noncomputable def w17:Stmt:=by let +zeta s:=As 17;walk_at "zF"
noncomputable def w18:Stmt:=by let +zeta s:=As 18;walk_at "zA"
noncomputable def w19:Stmt:=by let +zeta s:=As 19;walk_at "zF"
noncomputable def w20:Stmt:=by let +zeta s:=As 20;walk_at "zA"
noncomputable def w21:Stmt:=by let +zeta s:=As 21;walk_at "zA"
noncomputable def w22:Stmt:=by let +zeta s:=As 22;walk_at "zA"
noncomputable def w23:Stmt:=by let +zeta s:=As 23;walk_at "zA"
noncomputable def w24:Stmt:=by let +zeta s:=As 24;walk_at "zF"
noncomputable def Gv:Stmt:=by let +zeta s:=As 25;walk_at "zF"
noncomputable def Zpw:Stmt:=by let +zeta s:=(Bw 26 0);walk_at "zF"
noncomputable def Zom:Stmt:=by let +zeta s:=(Bw 26 1);walk_at "zF"
noncomputable def Zm9:Stmt:=by let +zeta s:=(Bw 26 2);walk_at "zF"
noncomputable def Zme:Stmt:=by let +zeta s:=(Bw 26 3);walk_at "zF"
noncomputable def Zqz:Stmt:=by let +zeta s:=(Bw 26 4);walk_at "zF"
noncomputable def Zh4:Stmt:=by let +zeta s:=(Bw 26 5);walk_at "zF"
noncomputable def Zl9:Stmt:=by let +zeta s:=(Bw 26 6);walk_at "zF"
noncomputable def Zlj:Stmt:=by let +zeta s:=(Bw 26 7);walk_at "zF"
noncomputable def Zqe:Stmt:=by let +zeta s:=(Bw 26 8);walk_at "zF"
noncomputable def Zsb:Stmt:=by let +zeta s:=(Bw 26 9);walk_at "zF"
noncomputable def Zj4:Stmt:=by let +zeta s:=(Bw 26 10);walk_at "zF"
noncomputable def Zok:Stmt:=by let +zeta s:=(Bw 26 11);walk_at "zF"
noncomputable def Zkj:Stmt:=by let +zeta s:=(Bw 26 12);walk_at "zF"
noncomputable def w26:Stmt:=let +zeta a:=_;let +zeta b:=_;let +zeta c:=_;let +zeta d:=_;let +zeta e:=_;let +zeta f:=_;let +zeta g:=_;let +zeta h:=_;let +zeta i:=_;let +zeta j:=_;let +zeta k:=_;have +usedOnly q:As 26=.ClassDef a b c d e f g h i j k:=rfl;.ClassDef a b c [Zpw,Zom,Zm9,Zme,Zqz,Zh4,Zl9,Zlj,Zqe,Zsb,Zj4,Zok,Zkj] e f g h i j k
noncomputable def w27:Stmt:=by let +zeta s:=As 27;walk_at "zA"
noncomputable def w28:Stmt:=by let +zeta s:=As 28;walk_at "zF"
noncomputable def w29:Stmt:=by let +zeta s:=As 29;walk_at "zF"
noncomputable def w30:Stmt:=by let +zeta s:=As 30;walk_at "zF"
noncomputable def w31:Stmt:=by let +zeta s:=As 31;walk_at "zA"
noncomputable def w32:Stmt:=by let +zeta s:=As 32;walk_at "zF"
noncomputable def w33:Stmt:=by let +zeta s:=As 33;walk_at "zF"
noncomputable def w34:Stmt:=by let +zeta s:=As 34;walk_at "zF"
noncomputable def Ge:Stmt:=by let +zeta s:=As 35;walk_at "zF"
noncomputable def w36:Stmt:=by let +zeta s:=As 36;walk_at "zF"
noncomputable def w37:Stmt:=by let +zeta s:=As 37;walk_at "zF"
noncomputable def w38:Stmt:=by let +zeta s:=As 38;walk_at "zF"
noncomputable def w39:Stmt:=by let +zeta s:=As 39;walk_at "zF"
noncomputable def w40:Stmt:=by let +zeta s:=As 40;walk_at "zF"
noncomputable def w41:Stmt:=by let +zeta s:=As 41;walk_at "zF"
noncomputable def w42:Stmt:=by let +zeta s:=As 42;walk_at "zF"
noncomputable def w43:Stmt:=by let +zeta s:=As 43;walk_at "zF"
noncomputable def w44:Stmt:=by let +zeta s:=As 44;walk_at "zF"
noncomputable def Gr:Stmt:=by let +zeta s:=As 45;walk_at "zF"
noncomputable def PWc:Program:=let +zeta a:=_;let +zeta b:=_;let +zeta c:=_;let +zeta d:=_;let +zeta e:=_;let +zeta f:=_;let +zeta g:=_;let +zeta h:=_;let +zeta i:=_;let +zeta j:=_;have +usedOnly q:Sf=⟨⟨a,b,c,d,e⟩,f,g,h,i,j⟩:=rfl;⟨⟨[w0,w1,w2,w3,w4,w5,w6,w7,w8,w9,w10,w11,w12,w13,w14,G5,w16,w17,w18,w19,w20,w21,w22,w23,w24,Gv,w26,w27,w28,w29,w30,w31,w32,w33,w34,Ge,w36,w37,w38,w39,w40,w41,w42,w43,w44,Gr],b,c,d,e⟩,f,g,h,i,j⟩
theorem e_PW:PWc=PWc:=rfl
name_quick x_PW for K56.PWc by K56.e_PW
end K56
noncomputable def PySem.W.Fast.tw8610768613736925090:PySem.Program:=PySem.W.Fast.tw930678386193114258
theorem PySem.W.Fast.te8610768613736925090:Sf=PySem.W.Fast.tw8610768613736925090:=(rfl:Sf=K56.PWc).trans PySem.W.Fast.te930678386193114258
namespace K56
open PySem L2
noncomputable def VWc:Program:={ Sf with main:={ Sf.main with body:=[w1,w2,w3,w4,w6,w8,w9,w10,w11,w12,w13,G5,w17,w19,w21,w22,w23,w24,Gv,w26,w28,w29,w30,w32,w33,w34,Ge,w36,w37,w38,w39,w40,w41,w42,w43,w44,Gr] } }
noncomputable def S0:List Stmt:=[w3]
noncomputable def S1:List Stmt:=[w2]
noncomputable def S2:List Stmt:=[Gv]
noncomputable def S3:List Stmt:=[w41,w42,w43,w44,Gr]
noncomputable def S4:List Stmt:=[w27,w28,w29,w30,w31,w32,w33,w34,Ge,w36,w37,w38,w39,w40]
noncomputable def S5:List Stmt:=[w0,w1]
noncomputable def S6:List Stmt:=[w26]
noncomputable def S7:List Stmt:=[w11,w12,w13,w14,G5,w16,w17,w18,w19,w20,w21,w22,w23,w24]
noncomputable def S8:List Stmt:=[w4,w5,w6,w7,w8,w9,w10]
noncomputable def SB:Program×List (List Stmt):=(VWc,[S0,S1,S2,S3,S4,S5,S6,S7,S8])
theorem e_SB:SB=SB:=rfl
name_quick x_SB for K56.SB by K56.e_SB
end K56
noncomputable def PySem.W.Fast.tw8863441613092683250:PySem.Program:=PySem.W.Fast.tw13348436962161010396
theorem PySem.W.Fast.te8863441613092683250:K56.VWc=PySem.W.Fast.tw8863441613092683250:=PySem.W.Fast.te13348436962161010396
noncomputable def PySem.W.Fast.tw4561269367658944228:List Ri:=PySem.W.Fast.tw4373823609812664552
theorem PySem.W.Fast.te4561269367658944228:K56.S0=PySem.W.Fast.tw4561269367658944228:=PySem.W.Fast.te4373823609812664552
noncomputable def PySem.W.Fast.tw17184928008053032007:List Ri:=PySem.W.Fast.tw13885261900588669965
theorem PySem.W.Fast.te17184928008053032007:K56.S1=PySem.W.Fast.tw17184928008053032007:=PySem.W.Fast.te13885261900588669965
noncomputable def PySem.W.Fast.tw5300564862150886891:List Ri:=PySem.W.Fast.tw15487159022844636914
theorem PySem.W.Fast.te5300564862150886891:K56.S2=PySem.W.Fast.tw5300564862150886891:=PySem.W.Fast.te15487159022844636914
noncomputable def PySem.W.Fast.tw16859770143890145583:List Ri:=PySem.W.Fast.tw9865947522114985036
theorem PySem.W.Fast.te16859770143890145583:K56.S3=PySem.W.Fast.tw16859770143890145583:=PySem.W.Fast.te9865947522114985036
noncomputable def PySem.W.Fast.tw2702628962879003825:List Ri:=PySem.W.Fast.tw18189094144948752225
theorem PySem.W.Fast.te2702628962879003825:K56.S4=PySem.W.Fast.tw2702628962879003825:=PySem.W.Fast.te18189094144948752225
noncomputable def PySem.W.Fast.tw15359593775788977398:List Ri:=PySem.W.Fast.tw12517630327969462137
theorem PySem.W.Fast.te15359593775788977398:K56.S5=PySem.W.Fast.tw15359593775788977398:=PySem.W.Fast.te12517630327969462137
noncomputable def PySem.W.Fast.tw5091630048638253625:List Ri:=PySem.W.Fast.tw3665952603346266112
theorem PySem.W.Fast.te5091630048638253625:K56.S6=PySem.W.Fast.tw5091630048638253625:=PySem.W.Fast.te3665952603346266112
noncomputable def PySem.W.Fast.tw6880943386514136701:List Ri:=PySem.W.Fast.tw14435201560965573248
theorem PySem.W.Fast.te6880943386514136701:K56.S7=PySem.W.Fast.tw6880943386514136701:=PySem.W.Fast.te14435201560965573248
noncomputable def PySem.W.Fast.tw7121938885091221438:List Ri:=PySem.W.Fast.tw11431504965686458167
theorem PySem.W.Fast.te7121938885091221438:K56.S8=PySem.W.Fast.tw7121938885091221438:=PySem.W.Fast.te11431504965686458167
namespace K56
open PySem L2 PySem.W
noncomputable def zs (i j:Nat):Stmt:=match As i with | .ClassDef _ _ _ b _ _ _ _ _ _ _=>b.getD j (.Pass ⟨0,0,0,0⟩) | s=>s
noncomputable def ze (P:Params)(s:Str)(t:Tok)(v:Value):DictEntry:=⟨PyData.keyHash P s,.str s t,v⟩
noncomputable abbrev B:=Rj
noncomputable def evb (l:List Obj):Bool->List Obj:=@List.rec Obj (fun _=>Bool->List Obj) (fun _=>[]) (fun a _ ih b=>@Bool.rec (fun _=>List Obj) (ih true) (a::ih false) b) l
noncomputable def tO (l:List Obj):B:=@Nat.rec (fun _=>List Obj->B) (fun _=>.nil) (fun _ ih l=>@List.rec Obj (fun _=>B) .nil (fun x r _=>.node x (ih (evb r true)) (ih (evb r false))) l) 12 l
noncomputable def zv:List (Str×Tok)->List Value
 | []=>[]
 | (a,b)::t=>.str a b::zv t
noncomputable def zu (l:List (Str×Tok)):Obj:=⟨.type "tuple",none,.seq ⟨zv l⟩,#[]⟩
noncomputable def zt (c:String)(d:Data):Obj:=⟨.type c,none,d,#[]⟩
noncomputable def zf (n q:Str)(s:Stmt)(m:Str)(t:Tok)(c:Addr):Obj:=⟨.type "function",none,.func (Rs n q (Gu s) (Et s) (Ay s) .none .none .none (.str m t) none (.ref c) .none),#[]⟩
noncomputable def zh (n q:Str)(s:Stmt):Obj:=⟨.none,none,.func ⟨n,q,Gu s,.stmts (Et s),Ay s,0,[],.none,.none,.none,.none,none,.none,.none,0⟩,#[]⟩
noncomputable def zk (n q:Str)(t:Tok)(l a g:Int)(r:Addr)(b:Bool)(x:Value)(u:Int)(v:Tok):Obj:=⟨.type "code",none,.fields #[.str n t,.str q (t+1),.str "/claim/cut.py" (t+2),.int l 0,.int a 0,.int 0 0,.int 0 0,.int g 0,.ref r,.bool b,.int 181 0,.ref (r+1),.none,.none,.none,x,.int u 0,.int l 0,.str "/claim/cut.py" v],#[]⟩
noncomputable def zw:List (Int×Int×Addr)->List Value
 | []=>[]
 | (a,b,c)::t=>.int a 0::.int b 0::.ref c::zw t
noncomputable def zy (l:List (Int×Int×Addr)):Obj:=⟨.none,none,.fields ⟨zw l⟩,#[]⟩
noncomputable def zc (n q:Str)(t:Tok)(l a g:Int)(r:Addr)(u:Int)(v:Tok):Obj:=⟨.type "code",none,.fields #[.str n t,.str q (t+1),.str "/claim/cut.py" (t+2),.int l 0,.int a 0,.int 0 0,.int 0 0,.int g 0,.ref r,.bool true,.int 181 0,.ref (r+1),.none,.ref (r+2),.ref (r+3),.ref (r+4),.int u 0,.int l 0,.str "/claim/cut.py" v],#[]⟩
noncomputable def zb (n:Str):=zc n n
noncomputable def zi (n:Str):=zf n n
noncomputable def zj (n:Str):=zh n n
noncomputable def d0 (P:Params):=[ze P "__name__" 165 (.str "gapscribe.places" 273),ze P "__doc__" 166 .none,ze P "__package__" 167 .none,ze P "__loader__" 168 (.builtin "__main__.__loader__#opaque"),ze P "__spec__" 169 .none,ze P "__annotations__" 170 (.ref 6),ze P "__builtins__" 171 (.ref 4),ze P "__file__" 173 (.str "/claim/cut.py" 172),ze P "__cached__" 174 .none,ze P "GapError" 206 (.ref 24),ze P "NoDeed" 222 (.ref 37),ze P "TooLong" 238 (.ref 49),ze P "NoPlace" 263 (.ref 68),ze P "is_whole" 272 (.ref 77),ze P "placed_forms" 286 (.ref 84),ze P "has_part" 294 (.ref 91),ze P "forms_down_to" 304 (.ref 98)]
noncomputable def z0 (P:Params):=zt "dict" (.dict ⟨d0 P⟩ 17)
noncomputable def z1:=zt "tuple" (.seq #[])
noncomputable def z2:=zy [(2,0,20),(4,0,33),(6,0,45),(8,0,57),(13,0,76),(16,0,83),(25,0,90),(27,0,97)]
noncomputable def z3:=zk "<module>" "<module>" 182 1 0 0 11 false .none 185 186
noncomputable def z4:=Obj.mk (.type "frame") none Data.plain #[some (.ref 13),some (.ref 3),some (.ref 3),none,some (.str "__main__" 164),none,some (.ref 0)]
noncomputable def z5:=zt "tuple" (.seq #[.type "ValueError"])
noncomputable def h0_0 (P:Params)(t:List Obj):=(boot_o_0 P)::(boot_o_1 P)::(boot_o_2 P)::(z0 P)::(boot_o_4 P)::(boot_o_5 P)::(boot_o_6 P)::(boot_o_7 P)::(boot_o_8 P)::(boot_o_9 P)::(boot_o_10 P)::z1::z2::z3::z4::z5::t
noncomputable def z6:=zt "builtin_function_or_method" (.fields #[.builtin "type.__prepare__",.type "type"])
noncomputable def z7 (P:Params):=zt "dict" (.dict #[ze P "__module__" 196 (.str "gapscribe.errors" 187),ze P "__qualname__" 198 (.str "GapError" 197),ze P "__firstlineno__" 200 (.int 2 199),ze P "__static_attributes__" 201 (.ref 22)] 4)
noncomputable def z8:=Obj.mk .none none (.fields #[]) #[]
noncomputable def z9:=zk "GapError" "GapError" 191 2 0 0 18 false .none 194 195
noncomputable def z10:=Obj.mk (.type "frame") none Data.plain #[some (.ref 20),some (.ref 3),some (.ref 17),none,some (.str "gapscribe.errors" 187),none,some (.ref 0)]
noncomputable def z11 (P:Params):=zt "dict" (.dict #[ze P "__module__" 196 (.str "gapscribe.errors" 187),ze P "__firstlineno__" 200 (.int 2 199),ze P "__static_attributes__" 201 (.ref 22),ze P "__weakref__" 203 (.ref 25),ze P "__doc__" 204 .none] 3)
noncomputable def z12:=Obj.mk (.type "type") none (.cls (ClassData.mk "GapError" [.type "ValueError"] [.ref 24,.type "ValueError",.type "Exception",.type "BaseException",.type "object"] 23 "GapError" true [] [.ref 37,.ref 49,.ref 68] false none false)) #[some (.ref 15),none,some (.str "GapError" 189),some (.str "GapError" 197),some (.builtin "ValueError.__new__"),some (.bool true)]
noncomputable def z13:=zt "getset_descriptor" (.fields #[.str "__weakref__" 202,.ref 24,.builtin "ExceptionGroup.__weakref__",.none])
noncomputable def z14:=zt "super" (.fields #[.ref 24,.ref 24,.ref 24])
noncomputable def z15:=zt "builtin_function_or_method" (.fields #[.builtin "object.__init_subclass__",.ref 24])
noncomputable def z16:=zt "tuple" (.seq #[.ref 24])
noncomputable def z17 (P:Params):=zt "dict" (.dict #[ze P "__module__" 214 (.str "gapscribe.errors" 187),ze P "__qualname__" 216 (.str "NoDeed" 215),ze P "__firstlineno__" 218 (.int 4 217),ze P "__static_attributes__" 219 (.ref 35)] 4)
noncomputable def F8 (P:Params)(t:List Obj):List Obj:=z6::(z7 P)::z1::z8::z9::z10::z1::(z11 P)::z12::z13::z14::z15::z16::z6::(z17 P)::z1::t
noncomputable def z18:=zk "NoDeed" "NoDeed" 209 4 0 0 31 false .none 212 213
noncomputable def z19:=Obj.mk (.type "frame") none Data.plain #[some (.ref 33),some (.ref 3),some (.ref 30),none,some (.str "gapscribe.errors" 187),none,some (.ref 0)]
noncomputable def z20 (P:Params):=zt "dict" (.dict #[ze P "__module__" 214 (.str "gapscribe.errors" 187),ze P "__firstlineno__" 218 (.int 4 217),ze P "__static_attributes__" 219 (.ref 35),ze P "__doc__" 220 .none] 2)
noncomputable def z21:=Obj.mk (.type "type") none (.cls (ClassData.mk "NoDeed" [.ref 24] [.ref 37,.ref 24,.type "ValueError",.type "Exception",.type "BaseException",.type "object"] 36 "NoDeed" true [] [] false none false)) #[some (.ref 28),none,some (.str "NoDeed" 207),some (.str "NoDeed" 215),some (.builtin "ValueError.__new__"),some (.bool true)]
noncomputable def z22:=zt "super" (.fields #[.ref 37,.ref 37,.ref 37])
noncomputable def z23:=zt "builtin_function_or_method" (.fields #[.builtin "object.__init_subclass__",.ref 37])
noncomputable def z24 (P:Params):=zt "dict" (.dict #[ze P "__module__" 230 (.str "gapscribe.errors" 187),ze P "__qualname__" 232 (.str "TooLong" 231),ze P "__firstlineno__" 234 (.int 6 233),ze P "__static_attributes__" 235 (.ref 47)] 4)
noncomputable def z25:=zk "TooLong" "TooLong" 225 6 0 0 43 false .none 228 229
noncomputable def z26:=Obj.mk (.type "frame") none Data.plain #[some (.ref 45),some (.ref 3),some (.ref 42),none,some (.str "gapscribe.errors" 187),none,some (.ref 0)]
noncomputable def Fv (P:Params)(t:List Obj):List Obj:=z8::z18::z19::z1::(z20 P)::z21::z22::z23::z16::z6::(z24 P)::z1::z8::z25::z26::z1::t
noncomputable def z27 (P:Params):=zt "dict" (.dict #[ze P "__module__" 230 (.str "gapscribe.errors" 187),ze P "__firstlineno__" 234 (.int 6 233),ze P "__static_attributes__" 235 (.ref 47),ze P "__doc__" 236 .none] 2)
noncomputable def z28:=Obj.mk (.type "type") none (.cls (ClassData.mk "TooLong" [.ref 24] [.ref 49,.ref 24,.type "ValueError",.type "Exception",.type "BaseException",.type "object"] 48 "TooLong" true [] [] false none false)) #[some (.ref 40),none,some (.str "TooLong" 223),some (.str "TooLong" 231),some (.builtin "ValueError.__new__"),some (.bool true)]
noncomputable def z29:=zt "super" (.fields #[.ref 49,.ref 49,.ref 49])
noncomputable def z30:=zt "builtin_function_or_method" (.fields #[.builtin "object.__init_subclass__",.ref 49])
noncomputable def d1 (P:Params):=[ze P "__module__" 246 (.str "gapscribe.errors" 187),ze P "__qualname__" 248 (.str "NoPlace" 247),ze P "__firstlineno__" 250 (.int 8 249),ze P "__init__" 258 (.ref 65),ze P "__static_attributes__" 260 (.ref 66)]
noncomputable def z31 (P:Params):=zt "dict" (.dict ⟨d1 P⟩ 5)
noncomputable def z32:=zy [(10,4,64)]
noncomputable def z33:=zk "NoPlace" "NoPlace" 241 8 0 0 55 false .none 244 245
noncomputable def z34:=Obj.mk (.type "frame") none Data.plain #[some (.ref 57),some (.ref 3),some (.ref 54),none,some (.str "gapscribe.errors" 187),none,some (.ref 0)]
noncomputable def z35:=zu [("self",254),("place",255)]
noncomputable def z36:=zh "__init__" "NoPlace.__init__" Kg
noncomputable def Fz (P:Params)(t:List Obj):List Obj:=(z27 P)::z28::z29::z30::z16::z6::(z31 P)::z1::z32::z33::z34::z1::z8::z35::z1::z36::t
noncomputable def z37:=zc "__init__" "NoPlace.__init__" 251 10 2 3 59 256 257
noncomputable def z38:=zf "__init__" "NoPlace.__init__" Kg "gapscribe.errors" 187 64
noncomputable def z39:=zu [("place",259)]
noncomputable def z40 (P:Params):=zt "dict" (.dict #[ze P "__module__" 246 (.str "gapscribe.errors" 187),ze P "__firstlineno__" 250 (.int 8 249),ze P "__init__" 258 (.ref 65),ze P "__static_attributes__" 260 (.ref 66),ze P "__doc__" 261 .none] 2)
noncomputable def z41:=Obj.mk (.type "type") none (.cls (ClassData.mk "NoPlace" [.ref 24] [.ref 68,.ref 24,.type "ValueError",.type "Exception",.type "BaseException",.type "object"] 67 "NoPlace" true [] [] false none false)) #[some (.ref 52),none,some (.str "NoPlace" 239),some (.str "NoPlace" 247),some (.builtin "ValueError.__new__"),some (.bool true)]
noncomputable def z42:=zt "super" (.fields #[.ref 68,.ref 68,.ref 68])
noncomputable def z43:=zt "builtin_function_or_method" (.fields #[.builtin "object.__init_subclass__",.ref 68])
noncomputable def z44:=zu [("thing",269)]
noncomputable def z45:=zj "is_whole" Jl
noncomputable def z46:=zb "is_whole" 266 13 1 3 71 270 271
noncomputable def z47:=zi "is_whole" Jl "gapscribe.forms" 264 76
noncomputable def Fm (P:Params)(t:List Obj):List Obj:=z37::z38::z39::(z40 P)::z41::z42::z43::z1::z8::z44::z1::z45::z46::z47::z1::z8::t
noncomputable def z48:=zu [("tree",278),("told",279),("waiting",280),("pair",281),("number",282),("part",283)]
noncomputable def z49:=zj "placed_forms" Jj
noncomputable def z50:=zb "placed_forms" 275 16 1 3 78 284 285
noncomputable def z51:=zi "placed_forms" Jj "gapscribe.places" 273 83
noncomputable def z52:=zu [("form",290),("number",291)]
noncomputable def z53:=zj "has_part" Ii
noncomputable def z54:=zb "has_part" 287 25 2 3 85 292 293
noncomputable def z55:=zi "has_part" Ii "gapscribe.places" 273 90
noncomputable def z56:=zu [("tree",298),("place",299),("passed",300),("number",301)]
noncomputable def F4 (P:Params)(t:List Obj):List Obj:=z48::z1::z49::z50::z51::z1::z8::z52::z1::z53::z54::z55::z1::z8::z56::z1::t
noncomputable def z57:=zj "forms_down_to" Iv
noncomputable def z58:=zb "forms_down_to" 295 27 2 3 92 302 303
noncomputable def z59:=zi "forms_down_to" Iv "gapscribe.places" 273 97
noncomputable def h6_0 (P:Params)(t:List Obj):=z57::z58::z59::t
noncomputable def Rtree_143:Params->B:=fun P=>tO (h0_0 P (F8 P (Fv P (Fz P (Fm P (F4 P (h6_0 P [])))))))
noncomputable def d2 (P:Params):=[ze P "__name__" 165 (.str "gapscribe.machine" 364),ze P "__doc__" 166 .none,ze P "__package__" 167 .none,ze P "__loader__" 168 (.builtin "__main__.__loader__#opaque"),ze P "__spec__" 169 .none,ze P "__annotations__" 170 (.ref 6),ze P "__builtins__" 171 (.ref 4),ze P "__file__" 173 (.str "/claim/cut.py" 172),ze P "__cached__" 174 .none,ze P "GapError" 206 (.ref 24),ze P "NoDeed" 222 (.ref 37),ze P "TooLong" 238 (.ref 49),ze P "NoPlace" 263 (.ref 68),ze P "is_whole" 272 (.ref 77),ze P "placed_forms" 286 (.ref 84),ze P "has_part" 294 (.ref 91),ze P "forms_down_to" 304 (.ref 98),ze P "form_at" 312 (.ref 105),ze P "with_part" 322 (.ref 112),ze P "with_at" 334 (.ref 119),ze P "refuse_no_gap" 343 (.ref 126),ze P "is_finished" 353 (.ref 133),ze P "names_bound" 363 (.ref 140),ze P "MOST_STEPS" 367 (.int 500 366),ze P "PARTS_AWAITED" 390 (.ref 141),ze P "WORDS_WITH_AROUND" 395 (.ref 148),ze P "are_numbers" 401 (.ref 153)]
noncomputable def z60 (P:Params):=zt "dict" (.dict ⟨d2 P⟩ 27)
noncomputable def z61:=zy [(2,0,20),(4,0,33),(6,0,45),(8,0,57),(13,0,76),(16,0,83),(25,0,90),(27,0,97),(34,0,104),(36,0,111),(39,0,118),(45,0,125),(49,0,132),(52,0,139),(64,0,152)]
noncomputable def h7_0 (P:Params)(t:List Obj):=(boot_o_0 P)::(boot_o_1 P)::(boot_o_2 P)::(z60 P)::(boot_o_4 P)::(boot_o_5 P)::(boot_o_6 P)::(boot_o_7 P)::(boot_o_8 P)::(boot_o_9 P)::(boot_o_10 P)::z1::z61::z3::z4::z5::t
noncomputable def z62:=zu [("tree",308),("place",309)]
noncomputable def z63:=zj "form_at" Hy
noncomputable def z64:=zb "form_at" 305 34 2 3 99 310 311
noncomputable def z65:=zi "form_at" Hy "gapscribe.places" 273 104
noncomputable def z66:=zu [("form",316),("number",317),("part",318),("parts",319)]
noncomputable def z67:=zj "with_part" La
noncomputable def z68:=zb "with_part" 313 36 3 3 106 320 321
noncomputable def Hc (P:Params)(t:List Obj):List Obj:=z57::z58::z59::z1::z8::z62::z1::z63::z64::z65::z1::z8::z66::z1::z67::z68::t
noncomputable def z69:=zi "with_part" La "gapscribe.places" 273 111
noncomputable def z70:=zu [("tree",326),("place",327),("form",328),("made",329),("number",330),("above",331)]
noncomputable def z71:=zj "with_at" Kq
noncomputable def z72:=zb "with_at" 323 39 3 3 113 332 333
noncomputable def z73:=zi "with_at" Kq "gapscribe.places" 273 118
noncomputable def z74:=zu [("form",340)]
noncomputable def z75:=zj "refuse_no_gap" Hi
noncomputable def z76:=zb "refuse_no_gap" 337 45 1 3 120 341 342
noncomputable def z77:=zi "refuse_no_gap" Hi "gapscribe.deeds" 335 125
noncomputable def G0 (P:Params)(t:List Obj):List Obj:=z69::z1::z8::z70::z1::z71::z72::z73::z1::z8::z74::z1::z75::z76::z77::z1::t
noncomputable def z78:=zu [("thing",349),("rows",350)]
noncomputable def z79:=zj "is_finished" Lc
noncomputable def z80:=zb "is_finished" 346 49 2 3 127 351 352
noncomputable def z81:=zi "is_finished" Lc "gapscribe.rows" 344 132
noncomputable def z82:=zu [("form",359),("number",360)]
noncomputable def z83:=zj "names_bound" K1
noncomputable def z84:=zb "names_bound" 356 52 2 3 134 361 362
noncomputable def z85:=zi "names_bound" K1 "gapscribe.scopes" 354 139
noncomputable def z86 (P:Params):=zt "dict" (.dict #[ze P "plus" 368 (.ref 142),ze P "minus" 371 (.ref 143),ze P "less" 374 (.ref 144),ze P "call" 377 (.ref 145),ze P "if" 380 (.ref 146),ze P "let" 382 (.ref 147)] 6)
noncomputable def z87:=zt "tuple" (.seq #[.int 1 369,.int 0 370])
noncomputable def z88:=zt "tuple" (.seq #[.int 1 372,.int 0 373])
noncomputable def Hb (P:Params)(t:List Obj):List Obj:=z8::z78::z1::z79::z80::z81::z1::z8::z82::z1::z83::z84::z85::(z86 P)::z87::z88::t
noncomputable def z89:=zt "tuple" (.seq #[.int 1 375,.int 0 376])
noncomputable def z90:=zt "tuple" (.seq #[.int 1 378,.int 0 379])
noncomputable def z91:=zt "tuple" (.seq #[.int 0 381])
noncomputable def z92:=zt "tuple" (.seq #[.int 0 383])
noncomputable def z93:=zu [("gap",391),("fn",392),("rec",393),("if",394)]
noncomputable def z94:=zj "are_numbers" Js
noncomputable def z95:=zk "are_numbers" "are_numbers" 396 64 1 3 149 true (.ref 151) 399 400
noncomputable def z96:=zi "are_numbers" Js "gapscribe.machine" 364 152
noncomputable def Zrl (P:Params)(t:List Obj):List Obj:=z89::z90::z91::z92::z93::z1::z8::z94::z95::z96::t
noncomputable def Rtree_200:Params->B:=fun P=>tO (h7_0 P (F8 P (Fv P (Fz P (Fm P (F4 P (Hc P (G0 P (Hb P (Zrl P []))))))))))
noncomputable def d3 (P:Params):=d2 P++[ze P "reckoned" 410 (.ref 160)]
noncomputable def z97 (P:Params):=zt "dict" (.dict ⟨d3 P⟩ 28)
noncomputable def z98:=zy [(2,0,20),(4,0,33),(6,0,45),(8,0,57),(13,0,76),(16,0,83),(25,0,90),(27,0,97),(34,0,104),(36,0,111),(39,0,118),(45,0,125),(49,0,132),(52,0,139),(64,0,152),(66,0,159)]
noncomputable def Zni (P:Params)(t:List Obj):List Obj:=(boot_o_0 P)::(boot_o_1 P)::(boot_o_2 P)::(z97 P)::(boot_o_4 P)::(boot_o_5 P)::(boot_o_6 P)::(boot_o_7 P)::(boot_o_8 P)::(boot_o_9 P)::(boot_o_10 P)::z1::z98::z3::z4::z5::t
noncomputable def z99:=zu [("word",405),("left",406),("right",407)]
noncomputable def z100:=zj "reckoned" J1
noncomputable def z101:=zb "reckoned" 402 66 3 3 154 408 409
noncomputable def Ip (P:Params)(t:List Obj):List Obj:=z89::z90::z91::z92::z93::z1::z8::z94::z95::z96::z1::z8::z99::z1::z100::z101::t
noncomputable def M9:Obj:=zi "reckoned" J1 "gapscribe.machine" 364 159
noncomputable def Zqu (P:Params)(t:List Obj):List Obj:=M9::t
noncomputable def Rtree_211:Params->B:=fun P=>tO (Zni P (F8 P (Fv P (Fz P (Fm P (F4 P (Hc P (G0 P (Hb P (Ip P (Zqu P [])))))))))))
noncomputable def d4 (P:Params):=d3 P++[ze P "Machine" 560 (.ref 259)]
noncomputable def z103 (P:Params):=zt "dict" (.dict ⟨d4 P⟩ 29)
noncomputable def z104:=zy [(2,0,20),(4,0,33),(6,0,45),(8,0,57),(13,0,76),(16,0,83),(25,0,90),(27,0,97),(34,0,104),(36,0,111),(39,0,118),(45,0,125),(49,0,132),(52,0,139),(64,0,152),(66,0,159),(72,0,166)]
noncomputable def Zqt (P:Params)(t:List Obj):List Obj:=(boot_o_0 P)::(boot_o_1 P)::(boot_o_2 P)::(z103 P)::(boot_o_4 P)::(boot_o_5 P)::(boot_o_6 P)::(boot_o_7 P)::(boot_o_8 P)::(boot_o_9 P)::(boot_o_10 P)::z1::z104::z3::z4::z5::t
noncomputable def d5 (P:Params):=[ze P "__module__" 418 (.str "gapscribe.machine" 364),ze P "__qualname__" 420 (.str "Machine" 419),ze P "__firstlineno__" 422 (.int 72 421),ze P "__init__" 431 (.ref 174),ze P "make_steps" 439 (.ref 181),ze P "new_row" 451 (.ref 188),ze P "thing_of_form" 460 (.ref 195),ze P "thing_of_parts" 470 (.ref 202),ze P "thing_at_the_end" 480 (.ref 209),ze P "come_to" 486 (.ref 214),ze P "thing_of_leaf" 498 (.ref 221),ze P "go_further" 509 (.ref 228),ze P "taken_things" 518 (.ref 235),ze P "is_function" 526 (.ref 242),ze P "call" 535 (.ref 249),ze P "go_within" 547 (.ref 256),ze P "__static_attributes__" 553 (.ref 257)]
noncomputable def z105 (P:Params):=zt "dict" (.dict ⟨d5 P⟩ 17)
noncomputable def z106:=zy [(74,4,173),(82,4,180),(87,4,187),(92,4,194),(96,4,201),(101,4,208),(110,4,213),(120,4,220),(128,4,227),(142,4,234),(147,4,241),(150,4,248),(154,4,255)]
noncomputable def z107:=zk "Machine" "Machine" 413 72 0 0 164 false .none 416 417
noncomputable def z108:=Obj.mk (.type "frame") none Data.plain #[some (.ref 166),some (.ref 3),some (.ref 163),none,some (.str "gapscribe.machine" 364),none,some (.ref 0)]
noncomputable def z109:=zu [("self",426),("tree",427),("steps",428)]
noncomputable def z110:=zh "__init__" "Machine.__init__" Kr
noncomputable def Om:Obj:=zc "__init__" "Machine.__init__" 423 74 3 3 168 429 430
noncomputable def Zal:Obj:=zf "__init__" "Machine.__init__" Kr "gapscribe.machine" 364 173
noncomputable def Mt (P:Params)(t:List Obj):List Obj:=M9::z1::z6::(z105 P)::z1::z106::z107::z108::z1::z8::z109::z1::z110::Om::Zal::z1::t
noncomputable def z113:=zu [("self",435),("many",436)]
noncomputable def z114:=zh "make_steps" "Machine.make_steps" Il
noncomputable def z115:=zc "make_steps" "Machine.make_steps" 432 82 2 3 175 437 438
noncomputable def z116:=zf "make_steps" "Machine.make_steps" Il "gapscribe.machine" 364 180
noncomputable def z117:=zu [("self",443),("word",444),("place",445),("operands",446),("around",447),("kept",448)]
noncomputable def z118:=zh "new_row" "Machine.new_row" Jr
noncomputable def z119:=zc "new_row" "Machine.new_row" 440 87 5 3 182 449 450
noncomputable def z120:=zf "new_row" "Machine.new_row" Jr "gapscribe.machine" 364 187
noncomputable def z121:=zu [("self",455),("place",456),("around",457)]
noncomputable def Kd (P:Params)(t:List Obj):List Obj:=z8::z113::z1::z114::z115::z116::z1::z8::z117::z1::z118::z119::z120::z1::z8::z121::t
noncomputable def z122:=zh "thing_of_form" "Machine.thing_of_form" Jz
noncomputable def z123:=zc "thing_of_form" "Machine.thing_of_form" 452 92 3 3 189 458 459
noncomputable def z124:=zf "thing_of_form" "Machine.thing_of_form" Jz "gapscribe.machine" 364 194
noncomputable def z125:=zu [("self",464),("place",465),("operands",466),("around",467)]
noncomputable def z126:=zh "thing_of_parts" "Machine.thing_of_parts" J6
noncomputable def z127:=zc "thing_of_parts" "Machine.thing_of_parts" 461 96 4 3 196 468 469
noncomputable def z128:=zf "thing_of_parts" "Machine.thing_of_parts" J6 "gapscribe.machine" 364 201
noncomputable def z129:=zu [("self",474),("place",475),("around",476),("parts_came",477)]
noncomputable def z130:=zh "thing_at_the_end" "Machine.thing_at_the_end" Jt
noncomputable def Jp (P:Params)(t:List Obj):List Obj:=z1::z122::z123::z124::z1::z8::z125::z1::z126::z127::z128::z1::z8::z129::z1::z130::t
noncomputable def z131:=zc "thing_at_the_end" "Machine.thing_at_the_end" 471 101 1 3 203 478 479
noncomputable def z132:=zf "thing_at_the_end" "Machine.thing_at_the_end" Jt "gapscribe.machine" 364 208
noncomputable def z133:=zh "come_to" "Machine.come_to" Hx
noncomputable def z134:=zk "come_to" "Machine.come_to" 481 110 3 3 210 true (.ref 212) 484 485
noncomputable def z135:=zf "come_to" "Machine.come_to" Hx "gapscribe.machine" 364 213
noncomputable def z136:=zu [("self",490),("word",491),("note",492),("place",493),("around",494),("bound",495)]
noncomputable def z137:=zh "thing_of_leaf" "Machine.thing_of_leaf" Jo
noncomputable def z138:=zc "thing_of_leaf" "Machine.thing_of_leaf" 487 120 5 3 215 496 497
noncomputable def z139:=zf "thing_of_leaf" "Machine.thing_of_leaf" Jo "gapscribe.machine" 364 220
noncomputable def Kx (P:Params)(t:List Obj):List Obj:=z131::z132::z1::z8::z133::z134::z135::z1::z8::z136::z1::z137::z138::z139::z1::z8::t
noncomputable def z140:=zu [("self",502),("place",503),("around",504),("word",505),("operands",506)]
noncomputable def z141:=zh "go_further" "Machine.go_further" Je
noncomputable def z142:=zc "go_further" "Machine.go_further" 499 128 3 3 222 507 508
noncomputable def z143:=zf "go_further" "Machine.go_further" Je "gapscribe.machine" 364 227
noncomputable def z144:=zu [("self",513),("many",514),("taken",515)]
noncomputable def z145:=zh "taken_things" "Machine.taken_things" J9
noncomputable def z146:=zc "taken_things" "Machine.taken_things" 510 142 2 3 229 516 517
noncomputable def z147:=zf "taken_things" "Machine.taken_things" J9 "gapscribe.machine" 364 234
noncomputable def z148:=zu [("self",522),("thing",523)]
noncomputable def Jk (P:Params)(t:List Obj):List Obj:=z140::z1::z141::z142::z143::z1::z8::z144::z1::z145::z146::z147::z1::z8::z148::z1::t
noncomputable def z149:=zh "is_function" "Machine.is_function" Jg
noncomputable def N9:Obj:=zc "is_function" "Machine.is_function" 519 147 2 3 236 524 525
noncomputable def z151:=zf "is_function" "Machine.is_function" Jg "gapscribe.machine" 364 241
noncomputable def z152:=zu [("self",530),("operands",531),("row",532)]
noncomputable def z153:=zh "call" "Machine.call" Jd
noncomputable def z154:=zc "call" "Machine.call" 527 150 2 3 243 533 534
noncomputable def z155:=zf "call" "Machine.call" Jd "gapscribe.machine" 364 248
noncomputable def z156:=zu [("self",539),("place",540),("number",541),("around",542),("things",543),("names",544)]
noncomputable def z157:=zh "go_within" "Machine.go_within" Jy
noncomputable def z158:=zc "go_within" "Machine.go_within" 536 154 5 3 250 545 546
noncomputable def Nb (P:Params)(t:List Obj):List Obj:=z149::N9::z151::z1::z8::z152::z1::z153::z154::z155::z1::z8::z156::z1::z157::z158::t
noncomputable def Zbi:Obj:=zf "go_within" "Machine.go_within" Jy "gapscribe.machine" 364 255
noncomputable def z160:=zu [("forms",548),("rows",549),("steps",550),("things",551),("waiting",552)]
noncomputable def d6 (P:Params):=[ze P "__module__" 418 (.str "gapscribe.machine" 364),ze P "__firstlineno__" 422 (.int 72 421),ze P "__init__" 431 (.ref 174),ze P "make_steps" 439 (.ref 181),ze P "new_row" 451 (.ref 188),ze P "thing_of_form" 460 (.ref 195),ze P "thing_of_parts" 470 (.ref 202),ze P "thing_at_the_end" 480 (.ref 209),ze P "come_to" 486 (.ref 214),ze P "thing_of_leaf" 498 (.ref 221),ze P "go_further" 509 (.ref 228),ze P "taken_things" 518 (.ref 235),ze P "is_function" 526 (.ref 242),ze P "call" 535 (.ref 249),ze P "go_within" 547 (.ref 256),ze P "__static_attributes__" 553 (.ref 257),ze P "__dict__" 555 (.ref 260),ze P "__weakref__" 557 (.ref 261),ze P "__doc__" 558 .none]
noncomputable def Zau (P:Params):Obj:=zt "dict" (.dict ⟨d6 P⟩ 4)
noncomputable def Nl:Obj:=Obj.mk (.type "type") none (.cls (ClassData.mk "Machine" [.type "object"] [.ref 259,.type "object"] 258 "Machine" true [] [] false none false)) #[none,none,some (.str "Machine" 411),some (.str "Machine" 419),some (.builtin "object.__new__"),some (.bool true)]
noncomputable def z163:=zt "getset_descriptor" (.fields #[.str "__dict__" 554,.ref 259,.builtin "function.__dict__",.builtin "function.__dict__#set"])
noncomputable def z164:=zt "getset_descriptor" (.fields #[.str "__weakref__" 556,.ref 259,.builtin "ExceptionGroup.__weakref__",.none])
noncomputable def z165:=zt "super" (.fields #[.ref 259,.ref 259,.ref 259])
noncomputable def z166:=zt "builtin_function_or_method" (.fields #[.builtin "object.__init_subclass__",.ref 259])
noncomputable def Zlc (P:Params)(t:List Obj):List Obj:=Zbi::z160::(Zau P)::Nl::z163::z164::z165::z166::t
noncomputable def Rtree_316:Params->B:=fun P=>tO (Zqt P (F8 P (Fv P (Fz P (Fm P (F4 P (Hc P (G0 P (Hb P (Ip P (Mt P (Kd P (Jp P (Kx P (Jk P (Nb P (Zlc P [])))))))))))))))))
noncomputable def Znc (P:Params)(t:List Obj):List Obj:=(boot_o_0 P)::(boot_o_1 P)::(boot_o_2 P)::(z97 P)::(boot_o_4 P)::(boot_o_5 P)::(boot_o_6 P)::(boot_o_7 P)::(boot_o_8 P)::(boot_o_9 P)::(boot_o_10 P)::z1::z104::z3::z4::z5::t
noncomputable def d7 (P:Params):=[ze P "__module__" 418 (.str "gapscribe.machine" 364),ze P "__qualname__" 420 (.str "Machine" 419),ze P "__firstlineno__" 422 (.int 72 421),ze P "__init__" 431 (.ref 174),ze P "make_steps" 439 (.ref 181),ze P "new_row" 451 (.ref 188),ze P "thing_of_form" 460 (.ref 195),ze P "thing_of_parts" 470 (.ref 202),ze P "thing_at_the_end" 480 (.ref 209),ze P "come_to" 486 (.ref 214),ze P "thing_of_leaf" 498 (.ref 221),ze P "go_further" 509 (.ref 228),ze P "taken_things" 518 (.ref 235)]
noncomputable def z167 (P:Params):=zt "dict" (.dict ⟨d7 P⟩ 13)
noncomputable def z168:=zy [(74,4,173),(82,4,180),(87,4,187),(92,4,194),(96,4,201),(101,4,208),(110,4,213),(120,4,220),(128,4,227),(142,4,234)]
noncomputable def Zns (P:Params)(t:List Obj):List Obj:=M9::z1::z6::(z167 P)::z1::z168::z107::z108::z1::z8::z109::z1::z110::Om::Zal::z1::t
noncomputable def Zsc (P:Params)(t:List Obj):List Obj:=z149::N9::t
noncomputable def Rtree_398:Params->B:=fun P=>tO (Znc P (F8 P (Fv P (Fz P (Fm P (F4 P (Hc P (G0 P (Hb P (Ip P (Zns P (Kd P (Jp P (Kx P (Jk P (Zsc P []))))))))))))))))
noncomputable def d8 (P:Params):=[ze P "__name__" 165 (.str "law_gapscribe_k56_refused_fillings" 593),ze P "__doc__" 166 .none,ze P "__package__" 167 .none,ze P "__loader__" 168 (.builtin "__main__.__loader__#opaque"),ze P "__spec__" 169 .none,ze P "__annotations__" 170 (.ref 6),ze P "__builtins__" 171 (.ref 4),ze P "__file__" 173 (.str "/claim/cut.py" 172),ze P "__cached__" 174 .none,ze P "GapError" 206 (.ref 24),ze P "NoDeed" 222 (.ref 37),ze P "TooLong" 238 (.ref 49),ze P "NoPlace" 263 (.ref 68),ze P "is_whole" 272 (.ref 77),ze P "placed_forms" 286 (.ref 84),ze P "has_part" 294 (.ref 91),ze P "forms_down_to" 304 (.ref 98),ze P "form_at" 312 (.ref 105),ze P "with_part" 322 (.ref 112),ze P "with_at" 334 (.ref 119),ze P "refuse_no_gap" 343 (.ref 126),ze P "is_finished" 353 (.ref 133),ze P "names_bound" 363 (.ref 140),ze P "MOST_STEPS" 367 (.int 500 366),ze P "PARTS_AWAITED" 390 (.ref 141),ze P "WORDS_WITH_AROUND" 395 (.ref 148),ze P "are_numbers" 401 (.ref 153),ze P "reckoned" 410 (.ref 160),ze P "Machine" 560 (.ref 259),ze P "thing_now" 570 (.ref 270),ze P "thing_of_row" 576 (.ref 275),ze P "go_on" 592 (.ref 282),ze P "_law_cell" 602 (.ref 289),ze P "_law_mixed" 610 (.ref 296),ze P "_law_same" 619 (.ref 303),ze P "_law_names" 636 (.ref 310),ze P "_law_number" 643 (.ref 317),ze P "_law_end" 649 (.ref 322),ze P "_law_form" 670 (.ref 329),ze P "_law_go_on" 681 (.ref 336),ze P "_law_copy" 687 (.ref 341)]
noncomputable def z169 (P:Params):=zt "dict" (.dict ⟨d8 P⟩ 41)
noncomputable def z170:=zy [(2,0,20),(4,0,33),(6,0,45),(8,0,57),(13,0,76),(16,0,83),(25,0,90),(27,0,97),(34,0,104),(36,0,111),(39,0,118),(45,0,125),(49,0,132),(52,0,139),(64,0,152),(66,0,159),(72,0,166),(158,0,269),(160,0,274),(169,0,281),(178,0,288),(182,0,295),(184,0,302),(201,0,309),(217,0,316),(223,0,321),(240,0,328),(274,0,335),(281,0,340)]
noncomputable def Zjh (P:Params)(t:List Obj):List Obj:=(boot_o_0 P)::(boot_o_1 P)::(boot_o_2 P)::(z169 P)::(boot_o_4 P)::(boot_o_5 P)::(boot_o_6 P)::(boot_o_7 P)::(boot_o_8 P)::(boot_o_9 P)::(boot_o_10 P)::z1::z170::z3::z4::z5::t
noncomputable def z171:=zu [("thing",566),("became",567)]
noncomputable def z172:=zj "thing_now" Kt
noncomputable def z173:=zb "thing_now" 563 158 2 3 264 568 569
noncomputable def z174:=zi "thing_now" Kt "gapscribe.going" 561 269
noncomputable def Zb4 (P:Params)(t:List Obj):List Obj:=Zbi::z160::(Zau P)::Nl::z163::z164::z165::z166::z1::z8::z171::z1::z172::z173::z174::z1::t
noncomputable def z175:=zj "thing_of_row" K7
noncomputable def z176:=zk "thing_of_row" "thing_of_row" 571 160 4 3 271 true (.ref 273) 574 575
noncomputable def z177:=zi "thing_of_row" K7 "gapscribe.going" 561 274
noncomputable def z178:=zu [("tree",580),("record",581),("place",582),("form",583),("answer",584),("rows",585),("steps",586),("machine",587),("became",588),("row",589)]
noncomputable def z179:=zj "go_on" Hj
noncomputable def z180:=zb "go_on" 577 169 4 3 276 590 591
noncomputable def z181:=zi "go_on" Hj "gapscribe.going" 561 281
noncomputable def z182:=zu [("_law_script",598),("_law_k",599)]
noncomputable def z183:=zj "_law_cell" Kf
noncomputable def Of (P:Params)(t:List Obj):List Obj:=z8::z175::z176::z177::z1::z8::z178::z1::z179::z180::z181::z1::z8::z182::z1::z183::t
noncomputable def z184:=zb "_law_cell" 595 178 2 3 283 600 601
noncomputable def z185:=zi "_law_cell" Kf "law_gapscribe_k56_refused_fillings" 593 288
noncomputable def z186:=zu [("_law_cell_here",606),("_law_k",607)]
noncomputable def z187:=zj "_law_mixed" Jq
noncomputable def z188:=zb "_law_mixed" 603 182 2 3 290 608 609
noncomputable def z189:=zi "_law_mixed" Jq "law_gapscribe_k56_refused_fillings" 593 295
noncomputable def z190:=zu [("_law_found",614),("_law_due",615),("_law_k",616)]
noncomputable def z191:=zj "_law_same" Hg
noncomputable def z192:=zb "_law_same" 611 184 2 3 297 617 618
noncomputable def z193:=zi "_law_same" Hg "law_gapscribe_k56_refused_fillings" 593 302
noncomputable def Zas (P:Params)(t:List Obj):List Obj:=z184::z185::z1::z8::z186::z1::z187::z188::z189::z1::z8::z190::z1::z191::z192::z193::t
noncomputable def z194:=zu [("_law_cell_here",623),("_law_many",624),("_law_signs",625),("_law_kept",626),("_law_size",627),("_law_at",628),("_law_names_here",629),("_law_k",630),("_law_word",631),("_law_j",632),("_law_step",633)]
noncomputable def z195:=zj "_law_names" K4
noncomputable def z196:=zb "_law_names" 620 201 2 3 304 634 635
noncomputable def z197:=zi "_law_names" K4 "law_gapscribe_k56_refused_fillings" 593 309
noncomputable def z198:=zu [("_law_cell_here",640)]
noncomputable def z199:=zj "_law_number" Kw
noncomputable def z200:=zb "_law_number" 637 217 1 3 311 641 642
noncomputable def z201:=zi "_law_number" Kw "law_gapscribe_k56_refused_fillings" 593 316
noncomputable def Zbz (P:Params)(t:List Obj):List Obj:=z1::z8::z194::z1::z195::z196::z197::z1::z8::z198::z1::z199::z200::z201::z1::z8::t
noncomputable def z202:=zj "_law_end" Ko
noncomputable def z203:=zk "_law_end" "_law_end" 644 223 4 3 318 true (.ref 320) 647 648
noncomputable def z204:=zi "_law_end" Ko "law_gapscribe_k56_refused_fillings" 593 321
noncomputable def z205:=zu [("_law_cells",653),("_law_around",654),("_law_names_here",655),("_law_room",656),("_law_sort",657),("_law_cell_here",658),("_law_pick",659),("_law_one",660),("_law_rest",661),("_law_name",662),("_law_kind",663),("_law_first",664),("_law_other",665),("_law_more",666),("_law_word",667)]
noncomputable def z206:=zj "_law_form" Iq
noncomputable def z207:=zb "_law_form" 650 240 5 3 323 668 669
noncomputable def z208:=zi "_law_form" Iq "law_gapscribe_k56_refused_fillings" 593 328
noncomputable def z209:=zu [("_law_tree",674),("_law_record",675),("_law_place",676),("_law_form_here",677),("_law_found",678)]
noncomputable def z210:=zj "_law_go_on" Ka
noncomputable def z211:=zb "_law_go_on" 671 274 4 3 330 679 680
noncomputable def Ni (P:Params)(t:List Obj):List Obj:=z202::z203::z204::z1::z8::z205::z1::z206::z207::z208::z1::z8::z209::z1::z210::z211::t
noncomputable def Nv:Obj:=zi "_law_go_on" Ka "law_gapscribe_k56_refused_fillings" 593 335
noncomputable def z213:=zj "_law_copy" J2
noncomputable def Zb7:Obj:=zk "_law_copy" "_law_copy" 682 281 1 3 337 true (.ref 339) 685 686
noncomputable def Nk:Obj:=zi "_law_copy" J2 "law_gapscribe_k56_refused_fillings" 593 340
noncomputable def Zls (P:Params)(t:List Obj):List Obj:=Nv::z1::z8::z213::Zb7::Nk::t
noncomputable def Rtree_481:Params->B:=fun P=>tO (Zjh P (F8 P (Fv P (Fz P (Fm P (F4 P (Hc P (G0 P (Hb P (Ip P (Mt P (Kd P (Jp P (Kx P (Jk P (Nb P (Zb4 P (Of P (Zas P (Zbz P (Ni P (Zls P []))))))))))))))))))))))
noncomputable def d9 (P:Params):=d8 P++[ze P "_law_gaps" 702 (.ref 348),ze P "_law_all" 712 (.ref 355),ze P "_law_bad" 723 (.ref 362),ze P "_law_refused" 736 (.ref 369),ze P "law" 742 (.ref 374)]
noncomputable def z216 (P:Params):=zt "dict" (.dict ⟨d9 P⟩ 46)
noncomputable def z217:=zy [(2,0,20),(4,0,33),(6,0,45),(8,0,57),(13,0,76),(16,0,83),(25,0,90),(27,0,97),(34,0,104),(36,0,111),(39,0,118),(45,0,125),(49,0,132),(52,0,139),(64,0,152),(66,0,159),(72,0,166),(158,0,269),(160,0,274),(169,0,281),(178,0,288),(182,0,295),(184,0,302),(201,0,309),(217,0,316),(223,0,321),(240,0,328),(274,0,335),(281,0,340),(284,0,347),(297,0,354),(302,0,361),(311,0,368),(327,0,373)]
noncomputable def Ze6 (P:Params)(t:List Obj):List Obj:=(boot_o_0 P)::(boot_o_1 P)::(boot_o_2 P)::(z216 P)::(boot_o_4 P)::(boot_o_5 P)::(boot_o_6 P)::(boot_o_7 P)::(boot_o_8 P)::(boot_o_9 P)::(boot_o_10 P)::z1::z217::z3::z4::z5::t
noncomputable def z218:=zu [("_law_form_here",691),("_law_place",692),("_law_bound",693),("_law_word",694),("_law_note",695),("_law_parts",696),("_law_found",697),("_law_k",698),("_law_more",699)]
noncomputable def z219:=zj "_law_gaps" Ik
noncomputable def z220:=zb "_law_gaps" 688 284 3 3 342 700 701
noncomputable def z221:=zi "_law_gaps" Ik "law_gapscribe_k56_refused_fillings" 593 347
noncomputable def z222:=zu [("_law_form_here",706),("_law_place",707),("_law_found",708),("_law_k",709)]
noncomputable def Zdh (P:Params)(t:List Obj):List Obj:=Nv::z1::z8::z213::Zb7::Nk::z1::z8::z218::z1::z219::z220::z221::z1::z8::z222::t
noncomputable def z223:=zj "_law_all" Im
noncomputable def z224:=zb "_law_all" 703 297 2 3 349 710 711
noncomputable def z225:=zi "_law_all" Im "law_gapscribe_k56_refused_fillings" 593 354
noncomputable def z226:=zu [("_law_cell_here",716),("_law_place",717),("_law_form_here",718),("_law_way_of",719),("_law_at",720)]
noncomputable def z227:=zj "_law_bad" J5
noncomputable def z228:=zb "_law_bad" 713 302 3 3 356 721 722
noncomputable def z229:=zi "_law_bad" J5 "law_gapscribe_k56_refused_fillings" 593 361
noncomputable def z230:=zu [("_law_tree",727),("_law_record",728),("_law_place",729),("_law_form_here",730),("_law_found",731),("_law_base",732),("e",733)]
noncomputable def z231:=zj "_law_refused" Kj
noncomputable def Zgp (P:Params)(t:List Obj):List Obj:=z1::z223::z224::z225::z1::z8::z226::z1::z227::z228::z229::z1::z8::z230::z1::z231::t
noncomputable def z232:=zb "_law_refused" 724 311 4 3 363 734 735
noncomputable def z233:=zi "_law_refused" Kj "law_gapscribe_k56_refused_fillings" 593 368
noncomputable def z234:=zj "law" Ki
noncomputable def z235:=zk "law" "law" 737 327 1 3 370 true (.ref 372) 740 741
noncomputable def z236:=zi "law" Ki "law_gapscribe_k56_refused_fillings" 593 373
noncomputable def Zfm (P:Params)(t:List Obj):List Obj:=z232::z233::z1::z8::z234::z235::z236::t
noncomputable def Rtree_516:Params->B:=fun P=>tO (Ze6 P (F8 P (Fv P (Fz P (Fm P (F4 P (Hc P (G0 P (Hb P (Ip P (Mt P (Kd P (Jp P (Kx P (Jk P (Nb P (Zb4 P (Of P (Zas P (Zbz P (Ni P (Zdh P (Zgp P (Zfm P []))))))))))))))))))))))))
noncomputable def Rheap_517:Params->Heap:=fun P=>⟨⟨Ze6 P (F8 P (Fv P (Fz P (Fm P (F4 P (Hc P (G0 P (Hb P (Ip P (Mt P (Kd P (Jp P (Kx P (Jk P (Nb P (Zb4 P (Of P (Zas P (Zbz P (Ni P (Zdh P (Zgp P (Zfm P [])))))))))))))))))))))))⟩,Life.mk [] [] [] 0 [] [] false #[] [] 0 false false false 0 [2000,10,10] false 0 true [] [] 0 false⟩
noncomputable def KK:Params->O1:=fun P=>(nat_lit 2,boot_o_2 P)::(nat_lit 3,z216 P)::(nat_lit 23,z11 P)::(nat_lit 24,z12)::(nat_lit 36,z20 P)::(nat_lit 37,z21)::(nat_lit 48,z27 P)::(nat_lit 49,z28)::(nat_lit 64,z37)::(nat_lit 65,z38)::(nat_lit 67,z40 P)::(nat_lit 68,z41)::(nat_lit 76,z46)::(nat_lit 77,z47)::(nat_lit 83,z50)::(nat_lit 84,z51)::(nat_lit 90,z54)::(nat_lit 91,z55)::(nat_lit 97,z58)::(nat_lit 98,z59)::(nat_lit 104,z64)::(nat_lit 105,z65)::(nat_lit 111,z68)::(nat_lit 112,z69)::(nat_lit 118,z72)::(nat_lit 119,z73)::(nat_lit 125,z76)::(nat_lit 126,z77)::(nat_lit 132,z80)::(nat_lit 133,z81)::(nat_lit 139,z84)::(nat_lit 140,z85)::(nat_lit 141,z86 P)::(nat_lit 142,z87)::(nat_lit 143,z88)::(nat_lit 144,z89)::(nat_lit 145,z90)::(nat_lit 146,z91)::(nat_lit 147,z92)::(nat_lit 148,z93)::(nat_lit 152,z95)::(nat_lit 153,z96)::(nat_lit 159,z101)::(nat_lit 160,M9)::(nat_lit 173,Om)::(nat_lit 174,Zal)::(nat_lit 180,z115)::(nat_lit 181,z116)::(nat_lit 187,z119)::(nat_lit 188,z120)::(nat_lit 194,z123)::(nat_lit 195,z124)::(nat_lit 201,z127)::(nat_lit 202,z128)::(nat_lit 208,z131)::(nat_lit 209,z132)::(nat_lit 213,z134)::(nat_lit 214,z135)::(nat_lit 220,z138)::(nat_lit 221,z139)::(nat_lit 227,z142)::(nat_lit 228,z143)::(nat_lit 234,z146)::(nat_lit 235,z147)::(nat_lit 241,N9)::(nat_lit 242,z151)::(nat_lit 248,z154)::(nat_lit 249,z155)::(nat_lit 255,z158)::(nat_lit 256,Zbi)::(nat_lit 258,Zau P)::(nat_lit 259,Nl)::(nat_lit 269,z173)::(nat_lit 270,z174)::(nat_lit 274,z176)::(nat_lit 275,z177)::(nat_lit 281,z180)::(nat_lit 282,z181)::(nat_lit 288,z184)::(nat_lit 289,z185)::(nat_lit 295,z188)::(nat_lit 296,z189)::(nat_lit 302,z192)::(nat_lit 303,z193)::(nat_lit 309,z196)::(nat_lit 310,z197)::(nat_lit 316,z200)::(nat_lit 317,z201)::(nat_lit 321,z203)::(nat_lit 322,z204)::(nat_lit 328,z207)::(nat_lit 329,z208)::(nat_lit 335,z211)::(nat_lit 336,Nv)::(nat_lit 340,Zb7)::(nat_lit 341,Nk)::(nat_lit 347,z220)::(nat_lit 348,z221)::(nat_lit 354,z224)::(nat_lit 355,z225)::(nat_lit 361,z228)::(nat_lit 362,z229)::(nat_lit 368,z232)::(nat_lit 369,z233)::(nat_lit 373,z235)::(nat_lit 374,z236)::[]
noncomputable def KA:List Addr:=[2,3,23,24,36,37,48,49,64,65,67,68,76,77,83,84,90,91,97,98,104,105,111,112,118,119,125,126,132,133,139,140,141,142,143,144,145,146,147,148,152,153,159,160,173,174,180,181,187,188,194,195,201,202,208,209,213,214,220,221,227,228,234,235,241,242,248,249,255,256,258,259,269,270,274,275,281,282,288,289,295,296,302,303,309,310,316,317,321,322,328,329,335,336,340,341,347,348,354,355,361,362,368,369,373,374]
noncomputable def RB (P:Params):List Rj×List Heap:=([Rtree_143 P,Rtree_200 P,Rtree_211 P,Rtree_316 P,Rtree_398 P,Rtree_481 P,Rtree_516 P],[Rheap_517 P])
theorem e_RB:RB=RB:=rfl
name_quick x_RB for K56.RB by K56.e_RB
end K56
namespace PySem.W.Fast
noncomputable def tw12651966137487308701:Ru->Rj:=tw5385951815132542438
theorem te12651966137487308701:K56.Rtree_143=tw12651966137487308701:=te5385951815132542438
noncomputable def tw11513549436324448085:Ru->Rj:=tw6556497942760597725
theorem te11513549436324448085:K56.Rtree_200=tw11513549436324448085:=te6556497942760597725
noncomputable def tw14393201040361781632:Ru->Rj:=tw17529051622761570299
theorem te14393201040361781632:K56.Rtree_211=tw14393201040361781632:=te17529051622761570299
noncomputable def tw14691273072150924851:Ru->Rj:=tw18149299432542118448
theorem te14691273072150924851:K56.Rtree_316=tw14691273072150924851:=te18149299432542118448
noncomputable def tw7872701455350758096:Ru->Rj:=tw15948390570363204645
theorem te7872701455350758096:K56.Rtree_398=tw7872701455350758096:=te15948390570363204645
noncomputable def tw11274790058563740369:Ru->Rj:=tw8345510619236449590
theorem te11274790058563740369:K56.Rtree_481=tw11274790058563740369:=te8345510619236449590
noncomputable def tw14252180593056057937:Ru->Rj:=tw8091831626693882145
theorem te14252180593056057937:K56.Rtree_516=tw14252180593056057937:=te8091831626693882145
noncomputable def tw13389753646161354589:Ru->PySem.Heap:=tw4042708048641395127
theorem te13389753646161354589:K56.Rheap_517=tw13389753646161354589:=te4042708048641395127
end PySem.W.Fast
local macro_rules | `(tactic| walk_at "gd")=>`(tactic| (refine' ⟨?ka,_,L2.fun_mk ?kl ?kc ?kk⟩; (case ka=>k_is); (case kl=>k_is); (case kc=>k_is); (case kk=>k_is)))
local macro_rules | `(tactic| walk_at "gm")=>`(tactic| (refine' ⟨?ka,?ki,_,L2.fun_mk ?kl ?kc ?kk⟩; (case ka=>k_is); (case ki=>k_is); (case kl=>k_is); (case kc=>k_is); (case kk=>k_is)))
namespace K56
open PySem L2
noncomputable abbrev Oh:=Zep
theorem all1 {α:Type}{P:List α->Prop}(h:∀ a,P [a]):∀ us:List α,us.length=1->P us
 | [a],_=>h a
theorem all2 {α:Type}{P:List α->Prop}(h:∀ a b,P [a,b]):∀ us:List α,us.length=2->P us
 | [a,b],_=>h a b
theorem all3 {α:Type}{P:List α->Prop}(h:∀ a b c,P [a,b,c]):∀ us:List α,us.length=3->P us
 | [a,b,c],_=>h a b c
theorem all4 {α:Type}{P:List α->Prop}(h:∀ a b c d,P [a,b,c,d]):∀ us:List α,us.length=4->P us
 | [a,b,c,d],_=>h a b c d
theorem all5 {α:Type}{P:List α->Prop}(h:∀ a b c d e,P [a,b,c,d,e]):∀ us:List α,us.length=5->P us
 | [a,b,c,d,e],_=>h a b c d e
local macro_rules | `(tactic| walk_at "bi")=>`(tactic| first | exact fun _ _ _ _ _ _=>K56.all1 fun _=>rfl | exact fun _ _ _ _ _ _=>K56.all2 fun _ _=>rfl | exact fun _ _ _ _ _ _=>K56.all3 fun _ _ _=>rfl | exact fun _ _ _ _ _ _=>K56.all4 fun _ _ _ _=>rfl | exact fun _ _ _ _ _ _=>K56.all5 fun _ _ _ _ _=>rfl)
theorem Zda {P:Program}{w:World}{K:O1}{mg:Str->Option Value}{base:Heap}{f:Addr}{fd:FuncData}(F:Fun K "_law_same" "_law_same" Hg f fd)(T:Txt K mg)
  (mk:∀ n,FnOk P w K mg base Ao (n+1) f fd ["_law_found", "_law_due"] (He K n)->A4 P w K mg base (n+1) "_law_same" ["_law_found", "_law_due"] (He K n)):∀ n,FnOk P w K mg base Ao (n+1) f fd ["_law_found", "_law_due"] (He K n)
 | 0=>by
  have no:∀ vs H Q E,¬ He K 0 vs H Q E:=by
   rintro vs H Q E ⟨x,y,d,m,_,h,_⟩
   exact absurd h (Nat.not_lt_zero _)
  exact ⟨fun vs H Q E h=>absurd h (no _ _ _ _),fun A outer s H args us vs Q E _ _ _ _ h=>absurd h (no _ _ _ _)⟩
 | n+1=>Zsf F T (mk n (Zda F T mk n))
theorem Zmk {K:O1}{GE:Addr}{ddG:Option Addr}{cdG:ClassData}{slG:Array (Option Value)}{cG:Value}(ho:K.lookup GE=some ⟨cG,ddG,.cls cdG,slG⟩)(hok:Sd K cdG.ns=true)(hni:Pm K cdG.ns "__init__" = some none):Rr K VE (.ref GE::VE)=true/\(Qo K GE).isSome=true:=by
 have e:Rr K VE VE=true:=by unfold Rr;rfl
 refine ⟨?_,by unfold Qo;rw [ho];rfl⟩
 unfold Rr
 dsimp only
 rw [ho]
 dsimp only
 rw [hok,hni,e]
 simp
theorem Zf0 {K:O1}{C GE:Addr}{ddC:Option Addr}{cdC:ClassData}{slC:Array (Option Value)}{k0 k1 k2 k3 k5:Option Value}(hC:K.lookup C=some ⟨.type "type",ddC,.cls cdC,slC⟩)(hm:cdC.mro=.ref C::.ref GE::VE)(hs:slC.toList=[k0,k1,k2,k3,some (.builtin "ValueError.__new__"),k5])(hd:cdC.hasDel=false)(h:Rr K VE (.ref GE::VE)=true):Zb3 K C/\((Qo K C).any fun cd=>Gj cd.mro)=true:=by
 refine ⟨?_,?_⟩
 ·obtain ⟨nm,bs,mro,ns,qn,hd',sn,sub,ab,col,del⟩:=cdC
  obtain ⟨l⟩:=slC
  dsimp only at hm hd hs
  subst hm hd hs
  exact ⟨_,_,_,_,_,_,_,_,_,_,_,_,_,_,_,_,hC,h⟩
 ·unfold Qo
  rw [hC]
  dsimp only
  show Gj cdC.mro=true
  rw [hm]
  show Gj VE=true
  decide
theorem Hw {K:O1}{C X:Addr}{b:Bool}{c:Value}{dd:Option Addr}{cd:ClassData}{sl:Array (Option Value)}(hX:K.lookup X=some ⟨c,dd,.cls cd,sl⟩)(ht:Ql K (.ref X)=some (.type "type"))(hs:Pi K (.ref C) (.ref X)=some b)(hn:b=false->(C == X)=false):Pu K (.ref C) (.ref X)=some b:=by
 unfold Pu
 by_cases h:((Value.ref C) == (Value.ref X))=true
 ·rw [if_pos h]
  have e:=beq_iff_eq.mp h
  injection e with e
  subst e
  cases b with
  | true=>rfl
  | false=>have:=hn rfl;simp at this
 ·rw [if_neg h]
  unfold PySem.W.kitCls
  dsimp only
  rw [if_pos]
  ·exact hs
  ·rw [ht]
   unfold Qo
   rw [hX]
   simp
theorem Zeh {K:O1}{C:Addr}(hs:Pi K (.ref C) (.type "ValueError")=some true):Pu K (.ref C) (.type "ValueError")=some true:=by
 unfold Pu
 rw [if_neg (by intro h;have:=beq_iff_eq.mp h;cases this)]
 unfold PySem.W.kitCls
 dsimp only
 rw [if_pos (by rfl)]
 exact hs
theorem Zcb {K:O1}{C GE:Addr}{ddC:Option Addr}{cdC:ClassData}{slC:Array (Option Value)}{k0 k1 k2 k3 k5:Option Value}(hC:K.lookup C=some ⟨.type "type",ddC,.cls cdC,slC⟩)(hm:cdC.mro=.ref C::.ref GE::VE)(hs:slC.toList=[k0,k1,k2,k3,some (.builtin "ValueError.__new__"),k5])(hd:cdC.hasDel=false)(h:Rr K VE (.ref GE::VE)=true)(hok:Sd K cdC.ns=true)(hni:Pm K cdC.ns "__init__" = some none):Ju K C:=by
 obtain ⟨nm,bs,mro,ns,qn,hd',sn,sub,ab,col,del⟩:=cdC
 obtain ⟨l⟩:=slC
 dsimp only at hm hd hok hni hs
 subst hm hd hs
 exact ⟨_,_,_,_,_,_,_,_,_,_,_,_,_,_,_,_,hC,h,hok,hni⟩
noncomputable def G7 (t1 t2 t3 t4 t5 t6:Addr):List (Str×V):=[("plus",.ref t1),("minus",.ref t2),("less",.ref t3),("call",.ref t4),("if",.ref t5),("let",.ref t6)]
theorem Zmi {t1 t2 t3 t4 t5 t6:Addr}:((G7 t1 t2 t3 t4 t5 t6).map (·.1)).Nodup:=by
 show (["plus", "minus", "less", "call", "if", "let"]:List Str).Nodup
 decide +kernel
theorem Zq2 {K:O1}{t1 t2 t3 t4 t5 t6:Addr}(h1:∀ H,SqT K H t1 ([1,0].map V.int))(h2:∀ H,SqT K H t2 ([1,0].map V.int))(h3:∀ H,SqT K H t3 ([1,0].map V.int))(h4:∀ H,SqT K H t4 ([1,0].map V.int))(h5:∀ H,SqT K H t5 ([0].map V.int))(h6:∀ H,SqT K H t6 ([0].map V.int))(wd:Str) :
  (Cv (G7 t1 t2 t3 t4 t5 t6) wd).isSome=(Bp wd).isSome/\∀ ns,Bp wd=some ns->∃ b,Cv (G7 t1 t2 t3 t4 t5 t6) wd=some (.ref b)/\∀ H,SqT K H b (ns.map V.int):=by
 by_cases e1:wd = "plus"
 ·subst e1
  have p:Bp "plus" = some [1,0]:=by decide +kernel
  exact ⟨by rw [p];rfl,fun ns h=>by rw [p] at h;cases h;exact ⟨t1,rfl,h1⟩⟩
 by_cases e2:wd = "minus"
 ·subst e2
  have p:Bp "minus" = some [1,0]:=by decide +kernel
  exact ⟨by rw [p];rfl,fun ns h=>by rw [p] at h;cases h;exact ⟨t2,rfl,h2⟩⟩
 by_cases e3:wd = "less"
 ·subst e3
  have p:Bp "less" = some [1,0]:=by decide +kernel
  exact ⟨by rw [p];rfl,fun ns h=>by rw [p] at h;cases h;exact ⟨t3,rfl,h3⟩⟩
 by_cases e4:wd = "call"
 ·subst e4
  have p:Bp "call" = some [1,0]:=by decide +kernel
  exact ⟨by rw [p];rfl,fun ns h=>by rw [p] at h;cases h;exact ⟨t4,rfl,h4⟩⟩
 by_cases e5:wd = "if"
 ·subst e5
  have p:Bp "if" = some [0]:=by decide +kernel
  exact ⟨by rw [p];rfl,fun ns h=>by rw [p] at h;cases h;exact ⟨t5,rfl,h5⟩⟩
 by_cases e6:wd = "let"
 ·subst e6
  have p:Bp "let" = some [0]:=by decide +kernel
  exact ⟨by rw [p];rfl,fun ns h=>by rw [p] at h;cases h;exact ⟨t6,rfl,h6⟩⟩
 have p:Bp wd=none:=by
  unfold Bp
  rw [if_neg (by simp [e1,e2,e3,e4]),if_neg (by simp [e5,e6])]
 have q:Cv (G7 t1 t2 t3 t4 t5 t6) wd=none:=by
  unfold Cv G7
  simp [Pc e1,Pc e2,Pc e3,Pc e4,Pc e5,Pc e6]
 rw [p,q]
 exact ⟨rfl,fun ns h=>nomatch h⟩
theorem Zgd {P:Program}{w:World}{K:O1}{mg:Str->Option Value}{base:Heap}{f:Addr}{fd:FuncData}(F:Fun K "_law_form" "_law_form" Iq f fd)(T:Txt K mg)(C__law_mixed:A4 P w K mg base 1 "_law_mixed" ["_law_cell_here", "_law_k"] Jn)(C__law_end:A4 P w K mg base 2 "_law_end" ["_law_cell_here", "_law_around", "_law_names_here", "_law_sort"] (Mu K))
  (mk:∀ n,FnOk P w K mg base Ao (n+3) f fd ["_law_cells", "_law_around", "_law_names_here", "_law_room", "_law_sort"] (G9 K n)->A4 P w K mg base (n+3) "_law_form" ["_law_cells", "_law_around", "_law_names_here", "_law_room", "_law_sort"] (G9 K n)):∀ n,FnOk P w K mg base Ao (n+3) f fd ["_law_cells", "_law_around", "_law_names_here", "_law_room", "_law_sort"] (G9 K n)
 | 0=>by
  have no:∀ vs H Q E,¬ G9 K 0 vs H Q E:=by
   rintro vs H Q E ⟨a,ar,pn,ts,m,room,so,_,_,_,h1,h2,_⟩
   omega
  exact ⟨fun vs H Q E h=>absurd h (no _ _ _ _),fun A outer s H args us vs Q E _ _ _ _ h=>absurd h (no _ _ _ _)⟩
 | n+1=>Zow F T C__law_mixed C__law_end (mk n (Zgd F T C__law_mixed C__law_end mk n))
theorem Zcp {P:Program}{w:World}{K:O1}{mg:Str->Option Value}{base:Heap}{f:Addr}{fd:FuncData}(F:Fun K "_law_all" "_law_all" Im f fd)(T:Txt K mg)
  (mk:∀ n,FnOk P w K mg base Ao (n+1) f fd ["_law_form_here", "_law_place"] (Gy K n)->A4 P w K mg base (n+1) "_law_all" ["_law_form_here", "_law_place"] (Gy K n)):∀ n,FnOk P w K mg base Ao (n+1) f fd ["_law_form_here", "_law_place"] (Gy K n)
 | 0=>by
  have no:∀ vs H Q E,¬ Gy K 0 vs H Q E:=by
   rintro vs H Q E ⟨v,t,p,pl,_,_,_,h,_⟩
   have h:t.size<=0:=h;cases t;rw [Tr.size] at h;omega
  exact ⟨fun vs H Q E h=>absurd h (no _ _ _ _),fun A outer s H args us vs Q E _ _ _ _ h=>absurd h (no _ _ _ _)⟩
 | n+1=>Zk6 F T (mk n (Zcp F T mk n))
theorem Zem {P:Program}{w:World}{K:O1}{mg:Str->Option Value}{base:Heap}{f:Addr}{fd:FuncData}(F:Fun K "_law_gaps" "_law_gaps" Ik f fd)(T:Txt K mg)
  (mk:∀ n,FnOk P w K mg base Ao (n+1) f fd ["_law_form_here", "_law_place", "_law_bound"] (Gs K n)->A4 P w K mg base (n+1) "_law_gaps" ["_law_form_here", "_law_place", "_law_bound"] (Gs K n)):∀ n,FnOk P w K mg base Ao (n+1) f fd ["_law_form_here", "_law_place", "_law_bound"] (Gs K n)
 | 0=>by
  have no:∀ vs H Q E,¬ Gs K 0 vs H Q E:=by
   rintro vs H Q E ⟨v,t,p,b,pl,m,_,_,_,_,_,h,_⟩
   have h:t.size<=0:=h;cases t;rw [Tr.size] at h;omega
  exact ⟨fun vs H Q E h=>absurd h (no _ _ _ _),fun A outer s H args us vs Q E _ _ _ _ h=>absurd h (no _ _ _ _)⟩
 | n+1=>Zsl F T (mk n (Zem F T mk n))
noncomputable abbrev Gd (K:O1)(n:Str)(st:Stmt)(f:Addr):Prop:=Pm K mainGlobals n=some (some (.ref f))/\∃ fd,Fun K n n st f fd
noncomputable abbrev Gm (K:O1)(C:Addr)(n q:Str)(st:Stmt)(f:Addr):Prop:=Pf K (.ref C) n=some (some (.ref f))/\T0 K (.ref f)=true/\∃ fd,Fun K n q st f fd
noncomputable abbrev Bi (n q:Str)(st:Stmt)(ps:List Str):Prop:=∀(kV doc pm:Value)(an:Option Addr)(cdv ct:Value)(us:List Value),us.length=ps.length->bindArgs (Rs n q (Gu st) (Et st) (Ay st) .none kV doc pm an cdv ct) ⟨us,[]⟩=pure (ps.zip us)
section
variable {P:Program}{w:World}{K:O1}{mg:Str->Option Value}{base h:Heap}(X:K.In h)(G:h.Ns mainGlobals mg){n q:Str}{st:Stmt}{f C:Addr}{k:Nat}{ps:List Str}{sp:Sp}
include X G
theorem cal (g:Gd K n st f)(ok:∀ fd,Fun K n n st f fd->FnOk P w K mg base Ao k f fd ps sp)(b:Bi n n st ps:=by walk_at "bi"):A4 P w K mg base k n ps sp:=by
 obtain ⟨a,fd,F⟩:=g
 exact Km (ok fd F) (Vj X G a) F.kp (F.binds b)
theorem calx (g:Gd K n st f)(ok:∀ fd,Fun K n n st f fd->FnOk P w K mg base (Bd P w) k f fd ps sp)(b:Bi n n st ps:=by walk_at "bi"):Es P w K mg base k n ps sp:=by
 obtain ⟨a,fd,F⟩:=g
 exact Zoy (ok fd F) (Vj X G a) F.kp (F.binds b)
omit X G
theorem met {CX:B4}(cl:Cls K C)(g:Gm K C n q st f)(ok:∀ fd,Fun K n q st f fd->FnOk P w K mg base CX k f fd ps sp)(b:Bi n q st ps:=by walk_at "bi"):Cc CX P w K mg base k C n ps sp:=by
 obtain ⟨a,i,fd,F⟩:=g
 exact ⟨f,fd,ok fd F,cl,⟨a,i,F.kp⟩,F.binds b⟩
end
theorem all_mk {l:Wn}{w:World}{K:O1}{h:Heap}{mg:Str->Option Value}{fa f1 f2 f3 f4 f5 f6 f7 f8 f9 f10 f11 f12 f13 f14 f15 f16 f17 f18 f19 f20 f21 f22 f23 f24 f25 f26 f27 f28 f29:Addr}(X:K.In h)(G:h.Ns mainGlobals mg)(hfa:mg "law" = some (.ref fa))
  (a1:Gd K "is_whole" Jl f1) (a2:Gd K "placed_forms" Jj f2) (a3:Gd K "has_part" Ii f3) (a4:Gd K "forms_down_to" Iv f4) (a5:Gd K "form_at" Hy f5) (a6:Gd K "with_part" La f6) (a7:Gd K "with_at" Kq f7) (a8:Gd K "refuse_no_gap" Hi f8) (a9:Gd K "is_finished" Lc f9) (a10:Gd K "names_bound" K1 f10) (a11:Gd K "are_numbers" Js f11) (a12:Gd K "reckoned" J1 f12) (a13:Gd K "thing_now" Kt f13) (a14:Gd K "thing_of_row" K7 f14) (a15:Gd K "go_on" Hj f15)
  (a16:Gd K "_law_cell" Kf f16) (a17:Gd K "_law_mixed" Jq f17) (a18:Gd K "_law_same" Hg f18) (a19:Gd K "_law_names" K4 f19) (a20:Gd K "_law_number" Kw f20) (a21:Gd K "_law_end" Ko f21) (a22:Gd K "_law_form" Iq f22) (a23:Gd K "_law_go_on" Ka f23) (a24:Gd K "_law_copy" J2 f24) (a25:Gd K "_law_gaps" Ik f25) (a26:Gd K "_law_all" Im f26) (a27:Gd K "_law_bad" J5 f27) (a28:Gd K "_law_refused" Kj f28) (a29:Gd K "law" Ki f29) (z1:Pm K mainGlobals "isinstance" = some none)
  (z2:Pm K mainGlobals "int" = some none) (z3:Pm K mainGlobals "bool" = some none) (z4:Pm K mainGlobals "reversed" = some none) (z5:Pm K mainGlobals "list" = some none) (z6:Pm K mainGlobals "enumerate" = some none) (z7:Pm K mainGlobals "len" = some none) (z8:Pm K mainGlobals "zip" = some none) (z9:Pm K mainGlobals "all" = some none) (z10:Pm K mainGlobals "tuple" = some none) (z11:Pm K mainGlobals "range" = some none) (z12:Pm K mainGlobals "str" = some none) (z13:Pm K mainGlobals "ValueError" = some none)
  (z14:Pm K mainGlobals "dict" = some none) {u1:Tok} (b1:Pm K mainGlobals "MOST_STEPS" = some (some (.int 500 u1))) {wa pa t1 t2 t3 t4 t5 t6:Addr} {wo o1 o2 o3 o4 o5 o6:Option Addr} {wi i1 i2 i3 i4 i5 i6:Array Value} {wn pn n1 n2 n3 n4 n5 n6:Nat} {ws s1 s2 s3 s4 s5 s6:Array (Option Value)} {pi:Array DictEntry} (b2:Pm K mainGlobals "WORDS_WITH_AROUND" = some (some (.ref wa))) (b3:K.lookup wa=some ⟨.type "tuple",wo,.seq wi wn,ws⟩) (b4:D6 wi.toList=some (WA.map V.str)) (b5:Pm K mainGlobals "PARTS_AWAITED" = some (some (.ref pa)))
  (b6:K.lookup pa=some ⟨.type "dict",none,.dict pi pn,#[]⟩) (b7:(pa == sysModules)=false) (b8:Ents w.params pi.toList (G7 t1 t2 t3 t4 t5 t6)) (gt1:K.lookup t1=some ⟨.type "tuple",o1,.seq i1 n1,s1⟩) (gu1:D6 i1.toList=some ([1,0].map V.int)) (gt2:K.lookup t2=some ⟨.type "tuple",o2,.seq i2 n2,s2⟩) (gu2:D6 i2.toList=some ([1,0].map V.int)) (gt3:K.lookup t3=some ⟨.type "tuple",o3,.seq i3 n3,s3⟩) (gu3:D6 i3.toList=some ([1,0].map V.int)) (gt4:K.lookup t4=some ⟨.type "tuple",o4,.seq i4 n4,s4⟩) (gu4:D6 i4.toList=some ([1,0].map V.int))
  (gt5:K.lookup t5=some ⟨.type "tuple",o5,.seq i5 n5,s5⟩) (gu5:D6 i5.toList=some ([0].map V.int)) (gt6:K.lookup t6=some ⟨.type "tuple",o6,.seq i6 n6,s6⟩) (gu6:D6 i6.toList=some ([0].map V.int)) {GE TL AM g1 g2 g3 g4 g5 g6 g7 g8 g9 g10 g11 g12 g13:Addr} {cG cN cM:Value} {dG dN dT dM:Option Addr} {kG kT:ClassData} {lG lN lT lM:Array (Option Value)} {eN eM:Array DictEntry} {nN nM:Nat} {j0 j1 j2 j3 j5:Option Value} (x1:Pm K mainGlobals "GapError" = some (some (.ref GE))) (x2:K.lookup GE=some ⟨cG,dG,.cls kG,lG⟩) (x3:K.lookup kG.ns=some ⟨cN,dN,.dict eN nN,lN⟩)
  (x4:(eN.toList.all fun e=>match e.key with | .str _ _=>true | _=>false)=true) (x5:Pm K kG.ns "__init__" = some none) (x6:Ql K (.ref GE)=some (.type "type")) (x7:Pi K (.ref GE) (.type "BaseException")=some true) (x8:V8 K (.builtin "object.__class__") "__get__" = some (some (.builtin "getset_descriptor.__get__"))) (x9:Wk K (.builtin "object.__class__")=some true) (y1:Pm K mainGlobals "TooLong" = some (some (.ref TL))) (y2:K.lookup TL=some ⟨.type "type",dT,.cls kT,lT⟩) (y3:kT.mro=.ref TL::.ref GE::VE)
  (y4:lT.toList=[j0,j1,j2,j3,some (.builtin "ValueError.__new__"),j5]) (y5:kT.hasDel=false) (y6:K.lookup kT.ns=some ⟨cM,dM,.dict eM nM,lM⟩) (y7:(eM.toList.all fun e=>match e.key with | .str _ _=>true | _=>false)=true) (y8:Pm K kT.ns "__init__" = some none) (y9:Ql K (.ref TL)=some (.type "type")) (yf:Pi K (.ref TL) (.ref TL)=some true) (yg:Pi K (.ref TL) (.type "BaseException")=some true) {NP ND gi:Addr} {dP dD dQ:Option Addr} {kP kD:ClassData} {lP lD lQ:Array (Option Value)} {cQ:Value} {eQ:Array DictEntry}
  {nQ:Nat} {e0 e1 e2 e3 e5 q0 q1 q2 q3 q5:Option Value} (p1:Pm K mainGlobals "NoPlace" = some (some (.ref NP))) (d1:Pm K mainGlobals "NoDeed" = some (some (.ref ND))) (p2:K.lookup NP=some ⟨.type "type",dP,.cls kP,lP⟩) (p3:kP.mro=.ref NP::.ref GE::VE) (p4:lP.toList=[e0,e1,e2,e3,some (.builtin "ValueError.__new__"),e5]) (p5:kP.hasDel=false) (p9:Ql K (.ref NP)=some (.type "type")) (pa':R6 K NP=true) (pb:Pf K (.ref NP) "__getattribute__" = some (some (.builtin "BaseException.__getattribute__")))
  (pc:Pf K (.ref NP) "__getattr__" = some none) (pd:Pf K (.ref NP) "__setattr__" = some (some (.builtin "object.__setattr__"))) (pe:Pf K (.ref NP) "__class__" = some (some (.builtin "object.__class__"))) (pf:Pi K (.ref NP) (.type "BaseException")=some true) (pg:Pi K (.ref NP) (.type "ValueError")=some true) (ph:Pi K (.ref NP) (.ref GE)=some true) (pi':Pi K (.ref NP) (.ref NP)=some true) (pj:Pi K (.ref NP) (.ref ND)=some false) (pk:Pi K (.ref NP) (.ref TL)=some false)
  (pl':(NP == TL)=false) (d2:K.lookup ND=some ⟨.type "type",dD,.cls kD,lD⟩) (d3:kD.mro=.ref ND::.ref GE::VE) (d4:lD.toList=[q0,q1,q2,q3,some (.builtin "ValueError.__new__"),q5]) (d5:kD.hasDel=false) (d9:Ql K (.ref ND)=some (.type "type")) (da:R6 K ND=true) (db:Pf K (.ref ND) "__getattribute__" = some (some (.builtin "BaseException.__getattribute__"))) (dc:Pf K (.ref ND) "__getattr__" = some none) (dd:Pf K (.ref ND) "__setattr__" = some (some (.builtin "object.__setattr__"))) (de:Pf K (.ref ND) "__class__" = some (some (.builtin "object.__class__")))
  (df:Pi K (.ref ND) (.type "BaseException")=some true) (dg:Pi K (.ref ND) (.type "ValueError")=some true) (dh:Pi K (.ref ND) (.ref GE)=some true) (di:Pi K (.ref ND) (.ref NP)=some false) (dj:Pi K (.ref ND) (.ref ND)=some true) (dk:Pi K (.ref ND) (.ref TL)=some false) (dl:(ND == TL)=false) (pmm:(NP == ND)=false) (dmm:(ND == NP)=false) (d6:K.lookup kD.ns=some ⟨cQ,dQ,.dict eQ nQ,lQ⟩) (d7:(eQ.toList.all fun e=>match e.key with | .str _ _=>true | _=>false)=true) (d8:Pm K kD.ns "__init__" = some none)
  (pz:Qm K (.ref NP)=true) (po:Pf K (.ref NP) "place" = some none) (pq:Gm K NP "__init__" "NoPlace.__init__" Kg gi) (m0:Pm K mainGlobals "Machine" = some (some (.ref AM))) (m1:Tl K AM Str.empty=true) (m2:R6 K AM=true) (m3:V7 K AM=true) (m4:Pf K (.ref AM) "__setattr__" = some (some (.builtin "object.__setattr__"))) (m5:Wj K AM=true) (m6:Qm K (.ref AM)=true) (m7:Pf K (.ref AM) "forms" = some none) (m8:Pf K (.ref AM) "rows" = some none)
  (m9:Pf K (.ref AM) "waiting" = some none) (ma:Pf K (.ref AM) "things" = some none) (mb:Pf K (.ref AM) "steps" = some none) (h1:Gm K AM "__init__" "Machine.__init__" Kr g1) (h2:Gm K AM "make_steps" "Machine.make_steps" Il g2) (h3:Gm K AM "new_row" "Machine.new_row" Jr g3) (h4:Gm K AM "thing_of_leaf" "Machine.thing_of_leaf" Jo g4) (h5:Gm K AM "come_to" "Machine.come_to" Hx g5) (h6:Gm K AM "taken_things" "Machine.taken_things" J9 g6) (h7:Gm K AM "go_further" "Machine.go_further" Je g7)
  (h8:Gm K AM "thing_at_the_end" "Machine.thing_at_the_end" Jt g8) (h9:Gm K AM "thing_of_form" "Machine.thing_of_form" Jz g9) (h10:Gm K AM "thing_of_parts" "Machine.thing_of_parts" J6 g10) (h11:Gm K AM "go_within" "Machine.go_within" Jy g11) (h12:Gm K AM "is_function" "Machine.is_function" Jg g12) (h13:Gm K AM "call" "Machine.call" Jd g13) :
  ∃ fd:FuncData,(∀(s:Shared)(v:Value),BindsTo s fd ⟨[v],[]⟩ [("_law_script",v)])/\∀ base:Heap,K.In base->base.Ns mainGlobals mg->FnOk l.prog w K mg base Ao 48 fa fd ["_law_script"] (Oh K):=by
 obtain ⟨aL,fd,FL⟩:=a29
 have e:=hfa.symm.trans (Vj X G aL)
 cases e
 have FX:=FL
 obtain ⟨_,_,kV,doc,pm,an,cdv,ct,_,ef,_,_⟩:=FL.ex
 refine ⟨fd,fun s v=>by rw [ef];exact .of_eq rfl,fun base _ _=>?_⟩
 have gl:=fun {n v}=>@Vj K h mg n v X G
 have no:=fun {n}=>@PySem.W.mg_none_of K h mg n X G
 have T:Txt K mg:=⟨no z1,no z2,no z3,no z4,no z5,no z6,no z7,no z8,no z9,no z10,no z11,no z12,no z13,no z14⟩
 have GMS:D8 mg "MOST_STEPS" (.int 500):=⟨_,gl b1,⟨_,rfl⟩⟩
 have GWA:D8 mg "WORDS_WITH_AROUND" (.ref wa):=⟨_,gl b2,rfl⟩
 have HWA:=Gc b3 b4 (by decide)
 have GPA:D8 mg "PARTS_AWAITED" (.ref pa):=⟨_,gl b5,rfl⟩
 have HPA:Fx l.prog w K pa (G7 t1 t2 t3 t4 t5 t6):=Zn9 b6 b7 b8 Zmi
 have HPK:=Zq2 (K:=K) (Gc gt1 gu1 (by decide)) (Gc gt2 gu2 (by decide)) (Gc gt3 gu3 (by decide)) (Gc gt4 gu4 (by decide)) (Gc gt5 gu5 (by decide)) (Gc gt6 gu6 (by decide))
 obtain ⟨tG,iG⟩:=Zmk x2 (by unfold Sd;rw [x3];show (eN.all fun e=>match e.key with | .str _ _=>true | _=>false)=true;rw [<- Wh];exact x4) x5
 have rTL:=Zcb y2 y3 y4 y5 tG (by unfold Sd;rw [y6];show (eM.all fun e=>match e.key with | .str _ _=>true | _=>false)=true;rw [<- Wh];exact y7) y8
 have gTL:=gl y1
 have XTL:C2 K TL:=⟨y9,by unfold Qo;rw [y2];rfl,yg⟩
 have gG:=gl x1
 have gNP:=gl p1
 have gND:=gl d1
 have XG:C2 K GE:=⟨x6,iG,x7⟩
 have XNP:C2 K NP:=⟨p9,by unfold Qo;rw [p2];rfl,pf⟩
 have XND:C2 K ND:=⟨d9,by unfold Qo;rw [d2];rfl,df⟩
 have eP:=Zf0 p2 p3 p4 p5 tG
 have xC:ExC K NP:=⟨eP.2,pa',pb,pc,pd,p9⟩
 have xD:ExC K ND:=⟨(Zf0 d2 d3 d4 d5 tG).2,da,db,dc,dd,d9⟩
 have nA:NoAttr K NP "place" := po
 have rND:=Zcb d2 d3 d4 d5 tG (by unfold Sd;rw [d6];show (eQ.all fun e=>match e.key with | .str _ _=>true | _=>false)=true;rw [<- Wh];exact d7) d8
 have XR:∀ b,XcR K NP ND TL GE b:=fun b=>by
  cases b
  ·exact ⟨dh,di,fun _=>dj,Hw p2 p9 di fun _=>dmm,Hw d2 d9 dj (fun h=>nomatch h),Hw y2 y9 dk fun _=>dl,Zeh dg,{ toExC:=xD,ca:=de,cg:=x8,ct:=x9 }⟩
  ·exact ⟨ph,pi',(fun h=>nomatch h),Hw p2 p9 pi' (fun h=>nomatch h),Hw d2 d9 pj fun _=>pmm,Hw y2 y9 pk fun _=>pl',Zeh pg,{ toExC:=xC,ca:=pe,cg:=x8,ct:=x9 }⟩
 obtain ⟨pqa,pqi,fdi,Fi⟩:=pq
 have RZ:Rz K NP gi:=⟨eP.1,pqa,pqi,pz,pf,p9⟩
 have clM:Cls K AM:=⟨m1,m2,m3,m4⟩
 have MCx:Mc K AM:=⟨clM,m7,m8,m9,ma,mb⟩
 have me:=fun {CX k n q st f ps sp}=>@met l.prog w K mg base n q st f AM k ps sp CX clM
 have ca:=fun {k n st f ps sp}=>@cal l.prog w K mg base h X G n st f k ps sp
 have cx:=fun {k n st f ps sp}=>@calx l.prog w K mg base h X G n st f k ps sp
 have C_is_whole:=ca a1 fun _ F=>Zr7 F T
 have C_placed_forms:=ca a2 fun _ F=>Zn4 F T
 have C_has_part:=ca a3 fun _ F=>Ziu F T C_is_whole
 have CZ_has_part:=ca a3 fun _ F=>Zm6 F T C_is_whole
 have C_forms_down_to:=ca a4 fun _ F=>Zju F T C_has_part
 have CX_forms_down_to:=cx a4 fun _ F=>Zqn F T CZ_has_part RZ (Zpf Fi) (Fi.binds (by walk_at "bi")) gNP xC nA
 have C_form_at:=ca a5 fun _ F=>Zc0 F T C_forms_down_to
 have CX_form_at:=cx a5 fun _ F=>Zej (Zgk (Zc0 F T C_forms_down_to)) (Zn8 F T CX_forms_down_to)
 have C_with_part:=ca a6 fun _ F=>Zr3 F T
 have C_with_at:=ca a7 fun _ F=>Zqh F T C_forms_down_to C_with_part
 have C_refuse_no_gap:=ca a8 fun _ F=>Zmd F T
 have CX_refuse:=cx a8 fun _ F=>Zh9 F T rND gND
 have C_is_finished:=ca a9 fun _ F=>Ziy F T
 have C_names_bound:=ca a10 fun _ F=>Zqr F T
 have C_are_numbers:=ca a11 fun _ F=>Znh F T
 have C_reckoned:=ca a12 fun _ F=>Zj3 F T
 have C_thing_now:=ca a13 fun _ F=>Zhw F T
 have M1:=me h2 fun _ F=>Znt F T MCx GMS
 have M2:=me h3 fun _ F=>Zoc F T MCx GWA HWA
 have M3:=me h4 fun _ F=>Zk1 F T MCx M2
 have M5:=me h6 fun _ F=>Zmt F T MCx
 have MW:=me h11 fun _ F=>Znm F T MCx C_names_bound
 have MI:=me h12 fun _ F=>Zlx F T MCx C_is_finished
 have MCa:=me h13 fun _ F=>Zol F T MCx MW
 have M6:=me h7 fun _ F=>Zpj F T MCx GPA HPA HPK M5 M2 MW MCa MI C_are_numbers C_reckoned
 have M1L:=me h2 fun _ F=>Zht F T MCx GMS rTL gTL
 have M4X:=me h5 fun _ F=>Zej (Zgk (Zl5 F T MCx GPA HPA HPK M1 M3)) (Zlt F T MCx GPA HPA HPK M1L M3)
 have M7X:=me h8 fun _ F=>Zl1 F T MCx M4X M6
 have MFX:=me h9 fun _ F=>Zr4 (Zpl F T MCx M7X)
 have MPX:=me h10 fun _ F=>Znf (Zkh F T MCx M7X)
 have MkM:Zaq Ao l.prog w K mg base 2 "Machine" AM ["self", "tree", "steps"] (Zam K AM):=by
  obtain ⟨a,i,fd,F⟩:=h1
  exact ⟨g1,fd,Zpt F T MCx C_placed_forms M1,⟨m5,a,i,m6⟩,gl m0,F.binds (by walk_at "bi")⟩
 have C_thing_of_row:=cx a14 fun _ F=>Zjz F T MCx GPA HPA HPK C_thing_now M2 MFX MPX
 have C_go_on:=cx a15 fun _ F=>Zrm F T MCx C_refuse_no_gap C_form_at C_with_at C_thing_now C_thing_of_row MkM
 have C_go_onR:=cx a15 fun _ F=>Zmo F T CX_refuse CX_form_at
 have C__law_cell:=ca a16 fun _ F=>Zia F T
 have C__law_mixed:=ca a17 fun _ F=>Zk9 F T
 have C__law_same:=ca a18 fun _ F=>Zda F T (fun n h=>Km h (gl a18.1) F.kp (F.binds (by walk_at "bi"))) 8
 have C__law_names:=ca a19 fun _ F=>Znq F T C__law_mixed
 have C__law_number:=ca a20 fun _ F=>Zm5 F T
 have C__law_end:=ca a21 fun _ F=>Zhy F T C__law_number
 have C__law_form:=ca a22 fun _ F=>Zgd F T C__law_mixed C__law_end (fun n h=>Km h (gl a22.1) F.kp (F.binds (by walk_at "bi"))) 14
 have C__law_go_on:=ca a23 fun _ F=>Zkr F T C_go_on XTL gTL yf
 have C__law_copy:=ca a24 fun _ F=>Zid F T
 have C__law_gaps:=ca a25 fun _ F=>Zem F T (fun n h=>Km h (gl a25.1) F.kp (F.binds (by walk_at "bi"))) 45
 have C__law_all:=ca a26 fun _ F=>Zcp F T (fun n h=>Km h (gl a26.1) F.kp (F.binds (by walk_at "bi"))) 45
 have C__law_bad:=ca a27 fun _ F=>Zqf F T
 have C__law_refused:=ca a28 fun _ F=>Zqg F T C_go_onR XG XNP XND XTL gG gTL gNP gND XR xC nA
 exact Zn5 FX T C__law_cell C__law_mixed C__law_names C__law_form C__law_gaps C__law_all C__law_bad C__law_refused C__law_copy C__law_go_on C__law_same
theorem walk {l:Wn}{q:Program}{loose:List Str}{XP:(Str->Option Value)->Heap->Prop}{YP:World->Heap->Prop}{d:DefRec}{K:Params->O1}(hn:l.most=some 63)(hdf:d.params.defaults=[])
  (hY:∀(w:World)(h:Heap),YP w h->(K w.params).In h)
  (F:∀(w:World)(mg:Str->Option Value)(fa:Addr)(h:Heap),(K w.params).In h->h.Ns mainGlobals mg->mg d.name=some (.ref fa) ->
   ∃ fd:FuncData,(∀(s:Shared)(u:Value),BindsTo s fd ⟨[u],[]⟩ [("_law_script",u)])/\∀ base:Heap,(K w.params).In base->base.Ns mainGlobals mg->FnOk l.prog w (K w.params) mg base Ao 48 fa fd ["_law_script"] (Oh (K w.params))) :
  PySem.W.WalkO q loose XP YP l.row.toRowW d [] (fun f vs=>PySem.call f vs) :=
 L2.walk_of (n:=63) (k:=48) (x := "_law_script") (CX:=fun _=>Ao) (sp:=fun w=>Oh (K w.params)) hn (by decide) hdf ⟨rfl,by decide,by decide⟩ hY F (fun _ _ a ns hl _ hS=>⟨a,ns,rfl,hS,hl,fun _=>rfl⟩) fun _ _ _ _ _ z=>z
end K56
open PySem PySem.W PyProof.Rows
set_option maxRecDepth 100000 in
set_option maxHeartbeats 0 in
theorem PySem.Challenge.cw_gapscribe_k56_refused_fillings_holds : PySem.Challenge.rw_gapscribe_k56_refused_fillings.Holds := by
 w_on; o_law; o_head (PySem.W.kHook K56.KK K56.KA (fun _=>by kernel_rfl)); (case hw=>w_witness2)
 k_fill
 refine K56.walk (l:=PySem.Challenge.rw_gapscribe_k56_refused_fillings) rfl rfl (fun w h Y=>PySem.W.kIn_of Y) ?F
 case F =>
  intro w mg fa h KX G hmg
  refine' K56.all_mk KX G hmg ?a1 ?a2 ?a3 ?a4 ?a5 ?a6 ?a7 ?a8 ?a9 ?a10 ?a11 ?a12 ?a13 ?a14 ?a15 ?a16 ?a17 ?a18 ?a19 ?a20 ?a21 ?a22 ?a23 ?a24 ?a25 ?a26 ?a27 ?a28 ?a29 ?z1 ?z2 ?z3 ?z4 ?z5 ?z6 ?z7 ?z8 ?z9 ?z10 ?z11 ?z12 ?z13 ?z14 ?b1 ?b2 ?b3 ?b4 ?b5 ?b6 ?b7 ?b8 ?gt1 ?gu1 ?gt2 ?gu2 ?gt3 ?gu3 ?gt4 ?gu4 ?gt5 ?gu5 ?gt6 ?gu6 ?x1 ?x2 ?x3 ?x4 ?x5 ?x6 ?x7 ?x8 ?x9 ?y1 ?y2 ?y3 ?y4 ?y5 ?y6 ?y7 ?y8 ?y9 ?yf ?yg ?p1 ?d1 ?p2 ?p3 ?p4 ?p5 ?p9 ?pa' ?pb ?pc ?pd ?pe ?pf ?pg ?ph ?pi' ?pj ?pk ?pl' ?d2 ?d3 ?d4 ?d5 ?d9 ?da ?db ?dc ?dd ?de ?df ?dg ?dh ?di ?dj ?dk ?dl ?pmm ?dmm ?d6 ?d7 ?d8 ?pz ?po ?pq ?m0 ?m1 ?m2 ?m3 ?m4 ?m5 ?m6 ?m7 ?m8 ?m9 ?ma ?mb ?h1 ?h2 ?h3 ?h4 ?h5 ?h6 ?h7 ?h8 ?h9 ?h10 ?h11 ?h12 ?h13
  (case a1=>walk_at "gd")
  (case a2=>walk_at "gd")
  (case a3=>walk_at "gd")
  (case a4=>walk_at "gd")
  (case a5=>walk_at "gd")
  (case a6=>walk_at "gd")
  (case a7=>walk_at "gd")
  (case a8=>walk_at "gd")
  (case a9=>walk_at "gd")
  (case a10=>walk_at "gd")
  (case a11=>walk_at "gd")
  (case a12=>walk_at "gd")
  (case a13=>walk_at "gd")
  (case a14=>walk_at "gd")
  (case a15=>walk_at "gd")
  (case a16=>walk_at "gd")
  (case a17=>walk_at "gd")
  (case a18=>walk_at "gd")
  (case a19=>walk_at "gd")
  (case a20=>walk_at "gd")
  (case a21=>walk_at "gd")
  (case a22=>walk_at "gd")
  (case a23=>walk_at "gd")
  (case a24=>walk_at "gd")
  (case a25=>walk_at "gd")
  (case a26=>walk_at "gd")
  (case a27=>walk_at "gd")
  (case a28=>walk_at "gd")
  (case a29=>walk_at "gd")
  (case z1=>k_is)
  (case z2=>k_is)
  (case z3=>k_is)
  (case z4=>k_is)
  (case z5=>k_is)
  (case z6=>k_is)
  (case z7=>k_is)
  (case z8=>k_is)
  (case z9=>k_is)
  (case z10=>k_is)
  (case z11=>k_is)
  (case z12=>k_is)
  (case z13=>k_is)
  (case z14=>k_is)
  (case b1=>k_is)
  (case b2=>k_is)
  (case b3=>k_is)
  (case b4=>rfl)
  (case b5=>k_is)
  (case b6=>k_is)
  (case b7=>rfl)
  (case b8=>(repeat (first | exact .nil | refine .cons rfl ?_)))
  (case gt1=>k_is)
  (case gu1=>rfl)
  (case gt2=>k_is)
  (case gu2=>rfl)
  (case gt3=>k_is)
  (case gu3=>rfl)
  (case gt4=>k_is)
  (case gu4=>rfl)
  (case gt5=>k_is)
  (case gu5=>rfl)
  (case gt6=>k_is)
  (case gu6=>rfl)
  (case x1=>k_is)
  (case x2=>k_is)
  (case x3=>k_is)
  (case x4=>rfl)
  (case x5=>k_is)
  (case x6=>k_is)
  (case x7=>k_is)
  (case x8=>k_is)
  (case x9=>k_is)
  (case y1=>k_is)
  (case y2=>k_is)
  (case y3=>rfl)
  (case y4=>rfl)
  (case y5=>rfl)
  (case y6=>k_is)
  (case y7=>rfl)
  (case y8=>k_is)
  (case y9=>k_is)
  (case yf=>k_is)
  (case yg=>k_is)
  (case p1=>k_is)
  (case d1=>k_is)
  (case p2=>k_is)
  (case p3=>rfl)
  (case p4=>rfl)
  (case p5=>rfl)
  (case p9=>k_is)
  (case pa'=>k_is)
  (case pb=>k_is)
  (case pc=>k_is)
  (case pd=>k_is)
  (case pe=>k_is)
  (case pf=>k_is)
  (case pg=>k_is)
  (case ph=>k_is)
  (case pi'=>k_is)
  (case pj=>k_is)
  (case pk=>k_is)
  (case pl'=>rfl)
  (case d2=>k_is)
  (case d3=>rfl)
  (case d4=>rfl)
  (case d5=>rfl)
  (case d9=>k_is)
  (case da=>k_is)
  (case db=>k_is)
  (case dc=>k_is)
  (case dd=>k_is)
  (case de=>k_is)
  (case df=>k_is)
  (case dg=>k_is)
  (case dh=>k_is)
  (case di=>k_is)
  (case dj=>k_is)
  (case dk=>k_is)
  (case dl=>rfl)
  (case pmm=>rfl)
  (case dmm=>rfl)
  (case d6=>k_is)
  (case d7=>rfl)
  (case d8=>k_is)
  (case pz=>k_is)
  (case po=>k_is)
  (case pq=>walk_at "gm")
  (case m0=>k_is)
  (case m1=>k_is)
  (case m2=>k_is)
  (case m3=>k_is)
  (case m4=>k_is)
  (case m5=>k_is)
  (case m6=>k_is)
  (case m7=>k_is)
  (case m8=>k_is)
  (case m9=>k_is)
  (case ma=>k_is)
  (case mb=>k_is)
  (case h1=>walk_at "gm")
  (case h2=>walk_at "gm")
  (case h3=>walk_at "gm")
  (case h4=>walk_at "gm")
  (case h5=>walk_at "gm")
  (case h6=>walk_at "gm")
  (case h7=>walk_at "gm")
  (case h8=>walk_at "gm")
  (case h9=>walk_at "gm")
  (case h10=>walk_at "gm")
  (case h11=>walk_at "gm")
  (case h12=>walk_at "gm")
  (case h13=>walk_at "gm")
#print axioms PySem.Challenge.cw_gapscribe_k56_refused_fillings_holds
