import PyProof.Rows.All
import Wide.All
import OpenK.AllK
import Wide.FinOn
import Lean
import PyProof.EqAt
import PyProof.EqKinds
import PyProof.TupleCall
import PyProof.StrBlock2
import KE.KDictOf
import PyProof.AttrMissHeap
import KE.KRevSl
import KE.KDictSum
import PyProof.Rows.SortStr
import PySem.Challenge.RW_gapscribe_k27_rows_lead
set_option compiler.extract_closed false
set_option bootstrap.genMatcherCode false
set_option genSizeOfSpec false
set_option Elab.async false
set_option linter.all false
set_option maxRecDepth 100000
open Array renaming length_toList->Sj
open Bool renaming false_ne_true->Oz,false_and->Pf,and_eq_true->Pt,true_and->Pp,eq_iff_iff->Q4,false_eq_true->Rl,and_false->Uq
open Classical renaming choose_spec->Rx
open False renaming elim->Qc
open Int renaming emod_lt_of_pos->P6,emod_nonneg->Py,toNat_natCast->So
open List renaming getElem?_eq_getElem->Oo,size_toArray->Ot,getElem?_eq_some_iff->O3,length_append->O2,length_cons->O5,replicate->O0,mem_cons->Oy,length_map->Pa,mem_cons_of_mem->Pe,mem_of_getElem?->Pn,drop_eq_getElem_cons->Qf,getElem?_append_right->Qw,take_of_length_le->Qi,mem_cons_self->Pr,all_eq_true->Pl,getElem?_append_left->Qx,mem_append_right->Qn,length_singleton->Qo,range->O7,length_take->Ps,not_mem_nil->Pw,map_append->Po,drop_of_length_le->Qz,append_assoc->P8,eq_nil_of_length_eq_zero->Rh,map_cons->Ph,mem_singleton->Qp,mem_append->P9,append_nil->Qa,lookup_cons->Qq,replicate_succ->Rb,getElem?_cons_succ->Rt,getElem?_map->Rc,take_succ_cons->Rk,nil_append->Q5,find?_cons->Q6,getElem_mem->Re,flatMap_append->Ry,getElem?_set_self->Sg,take_zero->Rf,mem_append_left->Si,reverse_append->Sk,length_drop->R1,flatMap_singleton->Tv,lookup->Q8,length_set->R4,getElem?_eq_none->Tz,all_cons->Ro,flatten_cons->Sq,take_add_one->Sr,getElem?_set_ne->T2,drop_zero->R8,cons_append->Ss,length_reverse->T4,eq_of_mem_replicate->Va,forIn_cons->Sv,reverse_singleton->Vd,length_replicate->Ve,mem_map->Sc,take_append_drop->Vf,take_length->Ue,any_cons->Sw,dropLast_concat_getLast->Wb,filterMap_cons->Vh,nodup_cons->Ug,mem_filterMap->Vl,forIn_nil->Ur,flatMap_cons->Vu,length->Tb,drop_length->Vy,mem_filter->Vz,of_mem_zip->V2,map_map->U2,foldl->Td
open Nat renaming le_refl->Os,lt_of_lt_of_le->O9,ne_of_lt->O1,le_trans->Pi,zero_le->Pj,lt_irrefl->Qk,ne_of_gt->Qs,sub_self->Q7,lt_succ_self->R0,le_add_right->Su,sub_zero->Rp,le_succ->Rq,min_eq_right->Ud,min_eq_left->Um,zero_add->Ta,lt_succ_of_lt->Vr,le_of_lt->Uy,succ_pos->U1
open Ne renaming symm->Pm
open Option renaming isSome_iff_exists->Ri,map_some->R6
open Option.some renaming inj->Ox
open PyProof.Rows renaming callWith_type1->Q3,slot_tuple_getitem->Rs,boot_enumerate->Wc
open PySem renaming wpAny_bind->On,wpAny_pure->Oq,wpAny_field->O8,wpAny_callSpecial?_slot->Qy,wpAny_holding->P0,wpAny_setField_rec->Q0,wpAny_truthy_bool->Q1,wpAny_call_entry->Q2,wpAny_seqItems->Qr,mem_of_lookup->Rj,Params->Ql,wpAny_newObj_type->Rm,wpAny_passesOwn->Rn,wpAny_getItem_str_slice->Ts,Stmt->Qt,wpAny_Call_Name_kw->Sl,wpAny_pyIter_tuple->Sm,builtinLookup_eq_fast->Tx,call_meets->Q9,wpAny_attempt->Sa,richCompare_meets_room->Vc,wpAny_pyIter_list->Ua,noFill_tuple_add->Uc,wpAny_updateSeq_pair->Vg,plainId_quiet->Sx,wpAny_execs_nil->Uf,post_val_or_str->Uh,wpAny_specialOf->Ui,codeAny_builtin->Uj,wpAny_updateSeq->Uk,typeLookup_type->Ul,wpAny_ite_false->Uo,codeAny_mono->Sz,wpAny_mono->Sd,wpAny_pyIter_enum->Vt,wpAny_standAt->Ut,seq_tuple_add->Uv,wpAny_onRaise->Uw,wpAny_isInstance->Vw,Within->Ux,concat_meets->Uz,wpAny_typeOf->U0,typeIs_int->Tc,wpAny_rule->Te,sizeLine_eq->U3,seqIndex_of->U4,wpAny_letGo->U5
open PySem.Around renaming under_plainId->T3
open PySem.AutoSeq1 renaming wpAny_loadPart'->Tg,sub_list_list->Wa
open PySem.Builtin.List renaming listTooLong->To,listLengthHint->U6,listExtendWith->U7
open PySem.Builtin.Range renaming rangeSize->Tp
open PySem.Builtin.Slice renaming slicePlaces->Tj,sliceAdjust->U8
open PySem.Builtin.SmallTypes renaming ownedTupleIsFree->Qv,nextOf->Qe,ownedTupleHandOut->V5
open PySem.Builtin.Str renaming strSliceIndices->Ti
open PySem.Builtin.Tuple renaming tupleExact->Tl
open PySem.Calls renaming spliced_cons->Vn,spliced_nil->Vq
open PySem.Challenge renaming pw_gapscribe_k27_rows_lead->Rr
open PySem.F renaming plainAttrs_list->Pk,slot_list_append->Qg,type_list_append->Qh,slot_zip_next->Ra,slot_tuple_iterator_next->Tf,plain_extend_loop->Sf,slot_enumerate_next->Th,slot_tuple_mul->Sh,args_tuple_add_2->Tk,entry_tuple_add->Tq,args_zip_next_1->Tt,slot_tuple_add->Tu,entry_zip_next->Tw,slot_list_pop->T0,type_list_pop->T1,args_tuple_mul_2->U9,args_tuple_iterator_next_1->V6,entry_tuple_iterator_next->V7,entry_tuple_mul->Vb,args_enumerate_next_1->V8,entry_enumerate_next->V9
open PySem.Heap renaming get?_push_of_some->Ou,get?_push_size->O4,lt_size->Ow,SameBut->O6,size_push->Pz,get?_update_other->Ru,get?_update_self->Rv,ExtBut->Rg
open PySem.Heap.IsList renaming push->Vx
open PySem.Heap.SameBut renaming refl->Vs
open PySem.Obj renaming mapSeq->P3
open PySem.Paired renaming length->Us
open PySem.PassesOwn renaming never->Pb
open PySem.SeqAt renaming EqAt->Ov,RcAt->Se
open PySem.SeqAt.EqAt renaming same->R5,str_str->T6,of_refs->T7,int_str->Vj,str_int->Vk
open PySem.SeqAt.RcAt renaming tuples->Ub
open PySem.Str renaming ofString->Pq,empty->P5
open PySem.Txt renaming slice->Qm,join->Qu,slice_le->Sb
open PySem.W renaming Frag->Om,findIn->Pc,kitOne->Pg,nsIn->Pd,emptyDict->P7,kia_one->Px,instObj->Qj,keepIn->Qb,fnOf->P4,BT->Qd,plainGet->Rz,makesIn->R3,hasDictIn->Sn,codeIn->R7,Looks->R9,plainOver->T8,kitx_list->T9,plainGet_of->Vi,isFn->Sy,kitx_tuple->Vm,lookIn->Up,methodObj->Vo,specialIn->Vp,mroIn->Uu,makes_of->Vv,takerIn->V0,takesIn->V1,OpenLaw->V3,kitMeta->V4
namespace L2
open PySem PySem.Spec PyProof.Rows
noncomputable abbrev Au:=Sum Int Str
noncomputable def Gg:Au->Value->Bool
 | .inl k,v=>Value.isInt k v
 | .inr x,v=>Value.isStrOf x v
noncomputable def keyH (w:World):Au->Int
 | .inl k=>hashInt k
 | .inr x=>hashStr w x
theorem En:∀{k:Au}{v:Value},Gg k v=true->(∃ i t,k=Sum.inl i/\v=Value.int i t)\/(∃ x t,k=Sum.inr x/\v=Value.str x t)
 | .inl i,v,h=>by
  obtain ⟨t,e⟩:=Value.isInt_shape (k:=i) (v:=v) h
  exact .inl ⟨i,t,rfl,e⟩
 | .inr x,v,h=>by
  obtain ⟨t,e⟩:=Value.isStrOf_shape (x:=x) (v:=v) h
  exact .inr ⟨x,t,rfl,e⟩
theorem Zow (i:Int)(t:Tok):Gg (.inl i) (.int i t)=true:=by simp [Gg,Value.isInt]
theorem Zoq (x:Str)(t:Tok):Gg (.inr x) (.str x t)=true:=by simp [Gg,Value.isStrOf]
theorem Zkl (a b:Int):decide ((Sum.inl a:Au)=Sum.inl b)=(a == b):=by
 by_cases e:a=b
 ·subst e;simp
 ·have h:¬ (Sum.inl a:Au)=Sum.inl b:=fun q=>e (Sum.inl.inj q)
  rw [decide_eq_false h]
  exact (beq_eq_false_iff_ne.mpr e).symm
theorem Zjw (a b:Str):decide ((Sum.inr a:Au)=Sum.inr b)=decide (a=b):=by
 by_cases e:a=b
 ·subst e;simp
 ·have h:¬ (Sum.inr a:Au)=Sum.inr b:=fun q=>e (Sum.inr.inj q)
  rw [decide_eq_false h,decide_eq_false e]
theorem Zko (a:Int)(b:Str):decide ((Sum.inl a:Au)=Sum.inr b)=false:=decide_eq_false (fun q=>nomatch q)
theorem Zqu (a:Str)(b:Int):decide ((Sum.inr a:Au)=Sum.inl b)=false:=decide_eq_false (fun q=>nomatch q)
noncomputable def C3 (prog:Program)(w:World):PySem.KeyKind prog w Au where
 is:=Gg
 hash:=keyH w
 inj:=fun v a b ha hb=>by
  rcases En ha with ⟨i,t,rfl,rfl⟩ | ⟨x,t,rfl,rfl⟩
  ·rcases En hb with ⟨j,u,rfl,e⟩ | ⟨y,u,rfl,e⟩
   ·injection e with e1 _;rw [e1]
   ·exact nomatch e
  ·rcases En hb with ⟨j,u,rfl,e⟩ | ⟨y,u,rfl,e⟩
   ·exact nomatch e
   ·injection e with e1 _;rw [e1]
 byValue:=fun k v h=>by
  rcases En h with ⟨i,t,rfl,rfl⟩ | ⟨x,t,rfl,rfl⟩ <;> rfl
 pyHash:=fun hv h=>by
  rcases En hv with ⟨i,t,rfl,rfl⟩ | ⟨x,t,rfl,rfl⟩
  ·exact wpAny_pyHash_int h
  ·exact wpAny_pyHash_str h
 eqBool:=fun hu hv h=>by
  rcases En hu with ⟨i,t,rfl,rfl⟩ | ⟨x,t,rfl,rfl⟩
  ·rcases En hv with ⟨j,u,rfl,rfl⟩ | ⟨y,u,rfl,rfl⟩
   ·rw [Zkl] at h;exact wpAny_eqBool_int h
   ·rw [Zko] at h;exact Vj i t y u _ _ _ _ h
  ·rcases En hv with ⟨j,u,rfl,rfl⟩ | ⟨y,u,rfl,rfl⟩
   ·rw [Zqu] at h;exact Vk x t j u _ _ _ _ h
   ·rw [Zjw] at h;exact wpAny_eqBool_str h
 «strs»:=fun k x t v h=>by
  rcases En h with ⟨i,u,rfl,e⟩ | ⟨y,u,rfl,e⟩
  ·exact nomatch e
  ·injection e with e1 _
   subst e1
   cases v <;> rfl
theorem Zjb (prog:Program)(w:World)(i:Int)(t:Tok):(C3 prog w).is (.inl i) (.int i t)=true:=Zow i t
theorem Zpf (prog:Program)(w:World)(x:Str)(t:Tok):(C3 prog w).is (.inr x) (.str x t)=true:=Zoq x t
inductive V where
 | non | bl (b:Bool) | int (i:Int) | str (x:Str) | byt (b:Array UInt8) | flt (b:UInt64) | ref (a:Addr) | ty (n:String)
 deriving DecidableEq
noncomputable def RelV:V->Value->Prop
 | .non,u=>u=Value.none
 | .bl b,u=>u=Value.bool b
 | .int i,u=>∃ t,u=Value.int i t
 | .str x,u=>∃ t,u=Value.str x t
 | .byt b,u=>∃ t,u=Value.bytes b t
 | .flt b,u=>∃ t,u=Value.float b t
 | .ref a,u=>u=Value.ref a
 | .ty n,u=>u=Value.type n
noncomputable abbrev Vals:List V->List Value->Prop:=Paired RelV
theorem Vals.length {xs:List V}{us:List Value}(r:Vals xs us):xs.length=us.length:=Us r
theorem Vals.get:∀{xs:List V}{us:List Value}{i:Nat}{x:V},Vals xs us->xs[i]?=some x->∃ u,us[i]?=some u/\RelV x u
 | _,_,_,_,.nil,e=>by simp at e
 | _,_,0,_,.cons r _,e=>by simp at e;subst e;exact ⟨_,rfl,r⟩
 | _,_,i+1,x,.cons _ t,e=>by
  obtain ⟨u,h1,h2⟩:=Vals.get (i:=i) (x:=x) t (by simpa using e)
  exact ⟨u,by simpa using h1,h2⟩
theorem Vals.set {x:V}{u:Value}(r:RelV x u):∀{xs:List V}{us:List Value}(i:Nat),Vals xs us->Vals (xs.set i x) (us.set i u)
 | _,_,_,.nil=>.nil
 | _,_,0,.cons _ t=>.cons r t
 | _,_,i+1,.cons q t=>.cons q (Vals.set r i t)
theorem Vals.append:∀{xs ys:List V}{us ws:List Value},Vals xs us->Vals ys ws->Vals (xs++ys) (us++ws)
 | _,_,_,_,.nil,s=>s
 | _,_,_,_,.cons r t,s=>.cons r (Vals.append t s)
theorem Vals.take:∀{xs:List V}{us:List Value}(n:Nat),Vals xs us->Vals (xs.take n) (us.take n)
 | _,_,0,_=>.nil
 | _,_,_+1,.nil=>.nil
 | _,_,n+1,.cons r t=>.cons r (Vals.take n t)
theorem Vals.drop:∀{xs:List V}{us:List Value}(n:Nat),Vals xs us->Vals (xs.drop n) (us.drop n)
 | _,_,0,r=>r
 | _,_,_+1,.nil=>.nil
 | _,_,n+1,.cons _ t=>Vals.drop n t
noncomputable def RelO:Option V->Option Value->Prop
 | some v,some u=>RelV v u
 | none,none=>True
 | _,_=>False
noncomputable def KV {κ:Type}:List (κ×V)->List (κ×Value)->Prop:=Paired fun (p:κ×V) (q:κ×Value)=>p.1=q.1/\RelV p.2 q.2
noncomputable def kV:Au->V
 | .inl i=>.int i
 | .inr x=>.str x
inductive HO where
  | lst (xs:List V)
  | tup (xs:List V)
  | dK (kvs:List (Au×V)) | dT (kvs:List (List Au×V))
  | set (S:Int->Bool) (n:Nat)
  | ins (C dx:Addr) (fs:List (Str×V))
  | own (x:Addr)
  | xd (fs:List (Str×V))
  | met (f x:Addr)
  | rng (lo hi:Int)
  | frz (o:Obj) (u:HO)
  | tbl (ps:Array Value)
  | ext (φ:Heap->Prop)
noncomputable abbrev Hp:=Addr->Option HO
noncomputable def upd (H:Hp)(a:Addr)(o:HO):Hp:=fun b=>if b=a then some o else H b
theorem Ad {H:Hp}{a:Addr}{o:HO}:upd H a o a=some o:=by unfold upd;rw [if_pos rfl]
theorem Ai {H:Hp}{a b:Addr}{o:HO}(h:b≠a):upd H a o b=H b:=by unfold upd;rw [if_neg h]
theorem Nj {H:Hp}{a:Addr}{o u:HO}:upd (upd H a o) a u=upd H a u:=by
 funext b;unfold upd;split <;> rfl
theorem Fz {H:Hp}{a b:Addr}{o u:HO}(h:H a=some o)(h':H b=some u)(d:o≠u):a≠b:=by
 intro e;subst e;rw [h] at h';exact d (Ox h')
theorem Bc {H:Hp}{a b:Addr}{o:HO}(h:H a=some o)(h':H b=none):a≠b:=by
 intro e;subst e;rw [h] at h';cases h'
section
variable (P:Program)(w:World)
noncomputable def ObjOk (H:Hp)(h:Heap)(a:Addr):HO->Prop
 | .lst xs=>xs.length<=sizeLine/\∃(its:List Value)(n:Nat),Vals xs its/\h.get? a=some { cls:=.type "list",data:=.seq its.toArray n }
 | .tup xs=>xs.length<=sizeLine/\∃ its:List Value,Vals xs its/\IsTup h a its.toArray
 | .dK kvs=>kvs.length<=sizeLine/\(a == sysModules)=false/\∃ vs,KV kvs vs/\h.DictOf (C3 P w) a vs
 | .dT kvs=>kvs.length<=sizeLine/\(a == sysModules)=false/\∃ xs:List (List Au×Addr×Value),
   Paired (fun (p:List Au×V) (q:List Au×Addr×Value)=>p.1=q.1/\H q.2.1=some (.tup (p.1.map kV))/\RelV p.2 q.2.2) kvs xs /\
   ∃ o es ep,h.get? a=some o/\o.ExactDict/\o.data=.dict es ep/\es.toList=xs.map (entryOfKey (tupleKind (C3 P w)))/\(xs.map (·.1)).Nodup
 | .set S n=>h.SetOf (intKind P w) a S n
 | .ins C dx fs=>H dx=some (.own a)/\fs.length<=1000/\dx≠a/\h.get? a=some (Qj C dx) /\
   ∃ mA,h.Ns1 dx mA/\(∀ f,RelO (fs.lookup f) (mA f))/\Ux mA (fs.map (·.1))
 | .own _=>∃ o,h.get? a=some o
 | .xd fs=>∃ mA,h.Ns1 a mA/\∀ f,RelO (fs.lookup f) (mA f)
 | .rng lo hi=>∃ t u v,h.get? a=some { cls:=.type "range",data:=.fields #[.int lo t,.int hi u,.int 1 v] }
 | .frz o u=>h.get? a=some o/\ObjOk H h a u
 | .tbl ps=>h.get? a=some { cls:=.none,data:=.fields ps }
 | .met f x=>h.get? a=some (Vo (.ref f) (.ref x))
 | .ext φ=>φ h/\(∃ o,h.get? a=some o)/\∀ h1 h2:Heap,φ h1->(∀ o,h1.get? a=some o->h2.get? a=some o)->φ h2
noncomputable def HOk (H:Hp)(h:Heap):Prop:=∀ a o,H a=some o->ObjOk P w H h a o
end
section
variable {P:Program}{w:World}{H H':Hp}{h h':Heap}{a:Addr}{o:HO}
theorem ObjOk.lt (x:ObjOk P w H h a o):a < h.objs.size:=by
 cases o with
 | lst xs=>obtain ⟨_,_,_,_,e⟩:=x;exact Ow e
 | tup xs=>obtain ⟨_,_,_,p⟩:=x;exact p.lt
 | dK kvs=>obtain ⟨_,_,_,_,o,_,_,e,_⟩:=x;exact Ow e
 | dT kvs=>obtain ⟨_,_,_,_,o,_,_,e,_⟩:=x;exact Ow e
 | set S n=>obtain ⟨o,_,_,_,e,_⟩:=x;exact Ow e
 | ins C dx fs=>obtain ⟨_,_,_,e,_⟩:=x;exact Ow e
 | own y=>obtain ⟨_,e⟩:=x;exact Ow e
 | xd fs=>obtain ⟨_,⟨_,_,_,e,_⟩,_⟩:=x;exact Ow e
 | rng lo hi=>obtain ⟨_,_,_,e⟩:=x;exact Ow e
 | frz ob u=>obtain ⟨e,_⟩:=x;exact Ow e
 | tbl ps=>exact Ow (show h.get? a=some _ from x)
 | met f y=>exact Ow (show h.get? a=some _ from x)
 | ext φ=>obtain ⟨_,⟨_,e⟩,_⟩:=x;exact Ow e
theorem Paired.mapP {α β:Type}{F G:α->β->Prop}:∀{l₁:List α}{l₂:List β},Paired F l₁ l₂->(∀ a b,F a b->G a b)->Paired G l₁ l₂
 | _,_,.nil,_=>.nil
 | _,_,.cons r t,f=>.cons (f _ _ r) (Paired.mapP t f)
theorem ObjOk.stay (x:ObjOk P w H h a o)(k:∀ b u,(b=a\/H b=some (.own a))->h.get? b=some u->h'.get? b=some u)
  (ho:∀ b,H b=some (.own a)->H' b=some (.own a)) (ht:∀ b xs,H b=some (.tup xs)->H' b=some (.tup xs)):ObjOk P w H' h' a o:=by
 induction o with
 | lst xs=>obtain ⟨z,its,n,r,e⟩:=x;exact ⟨z,its,n,r,k _ _ (.inl rfl) e⟩
 | tup xs=>obtain ⟨z,its,r,ob,e,c⟩:=x;exact ⟨z,its,r,ob,k _ _ (.inl rfl) e,c⟩
 | dK kvs=>obtain ⟨z,y,vs,r,ob,es,ep,e,c⟩:=x;exact ⟨z,y,vs,r,ob,es,ep,k _ _ (.inl rfl) e,c⟩
 | dT kvs =>
  obtain ⟨z,y,xs,r,ob,es,ep,e,c⟩:=x
  exact ⟨z,y,xs,Paired.mapP r fun p q z=>⟨z.1,ht _ _ z.2.1,z.2.2⟩,ob,es,ep,k _ _ (.inl rfl) e,c⟩
 | set S n=>obtain ⟨ob,es,ep,t,e,c⟩:=x;exact ⟨ob,es,ep,t,k _ _ (.inl rfl) e,c⟩
 | ins C dx fs =>
  obtain ⟨d,z,ne,e,mA,⟨od,es,ep,e2,c⟩,r⟩:=x
  exact ⟨ho _ d,z,ne,k _ _ (.inl rfl) e,mA,⟨od,es,ep,k _ _ (.inr d) e2,c⟩,r⟩
 | own y=>obtain ⟨ob,e⟩:=x;exact ⟨ob,k _ _ (.inl rfl) e⟩
 | xd fs=>obtain ⟨mA,⟨od,es,ep,e,c⟩,r⟩:=x;exact ⟨mA,⟨od,es,ep,k _ _ (.inl rfl) e,c⟩,r⟩
 | rng lo hi=>obtain ⟨t,u,v,e⟩:=x;exact ⟨t,u,v,k _ _ (.inl rfl) e⟩
 | frz ob u ih=>obtain ⟨e,q⟩:=x;exact ⟨k _ _ (.inl rfl) e,ih q⟩
 | tbl ps =>
  have e:h.get? a=some { cls:=.none,data:=.fields ps }:=x
  show h'.get? a=some { cls:=.none,data:=.fields ps }
  exact k a _ (.inl rfl) e
 | met f y =>
  have e:h.get? a=some (Vo (.ref f) (.ref y)):=x
  show h'.get? a=some (Vo (.ref f) (.ref y))
  exact k a _ (.inl rfl) e
 | ext φ=>obtain ⟨p,⟨o,e⟩,st⟩:=x;exact ⟨st _ _ p fun o q=>k _ _ (.inl rfl) q,⟨o,k _ _ (.inl rfl) e⟩,st⟩
theorem HOk.lt (x:HOk P w H h)(e:H a=some o):a < h.objs.size:=(x a o e).lt
theorem HOk.fresh (x:HOk P w H h)(e:h.objs.size<=a):H a=none:=by
 cases q:H a with
 | none=>rfl
 | some u=>exact absurd (O9 (x.lt q) e) (Qk _)
theorem HOk.kept (x:HOk P w H h)(k:∀ b u,h.get? b=some u->h'.get? b=some u):HOk P w H h':=fun a o e =>
 (x a o e).stay (fun b u _ q=>k b u q) (fun _ q=>q) fun _ _ q=>q
theorem HOk.laid (x:HOk P w H h)(k:∀ b u,h.get? b=some u->h'.get? b=some u)(hp:h.objs.size<=a)(new:ObjOk P w (upd H a o) h' a o):HOk P w (upd H a o) h':=fun b u e=>by
 have hn:=x.fresh hp
 by_cases hb:b=a
 ·subst hb;rw [Ad] at e;cases e;exact new
 ·rw [Ai hb] at e
  exact (x b u e).stay (fun c v _ q=>k c v q) (fun c q=>by rw [Ai (Bc q hn)];exact q) fun c xs q=>by rw [Ai (Bc q hn)];exact q
end
noncomputable def Rd (H:Hp)(a:Addr)(u:HO):Prop:=H a=some u\/∃ o,H a=some (.frz o u)
theorem Rd.ok {P:Program}{w:World}{H:Hp}{h:Heap}{a:Addr}{u:HO}(r:Rd H a u)(x:HOk P w H h):ObjOk P w H h a u:=by
 rcases r with r | ⟨o,r⟩
 ·exact x a u r
 ·obtain ⟨_,q⟩:=x a _ r
  exact q
noncomputable def Mut:Option HO->Prop
 | some (.lst _)=>True
 | some (.dK _)=>True
 | some (.dT _)=>True
 | some (.set _ _)=>True
 | some (.ins _ _ _)=>True
 | some (.ext _)=>True
 | _=>False
section
variable {P:Program}{w:World}{H:Hp}{h h':Heap}{x e:Addr}{o':HO}
theorem HOk.write (ok:HOk P w H h)(mu:Mut (H x))(he:e=x\/H e=some (.own x))(k:∀ b u,b≠e->h.get? b=some u->h'.get? b=some u)(heo:∃ u,h'.get? e=some u)
  (new:ObjOk P w (upd H x o') h' x o'):HOk P w (upd H x o') h':=fun b u q=>by
 have nown:∀ c y,H c=some (.own y)->c≠x:=fun c y r z=>by subst z;rw [r] at mu;exact mu
 have ntup:∀ c xs,H c=some (.tup xs)->c≠x:=fun c xs r z=>by subst z;rw [r] at mu;exact mu
 by_cases hb:b=x
 ·subst hb;rw [Ad] at q;cases q;exact new
 ·rw [Ai hb] at q
  by_cases hbe:b=e
  ·have q':H b=some (.own x):=by
    rcases he with z | z
    ·exact absurd (hbe.trans z) hb
    ·rw [hbe];exact z
   rw [q] at q';cases q'
   obtain ⟨v,hv⟩:=heo
   exact ⟨v,by rw [hbe];exact hv⟩
  ·refine (ok b u q).stay (fun c v hc r=>k c v ?_ r) (fun c r=>by rw [Ai (nown c b r)];exact r) fun c xs r=>by rw [Ai (ntup c xs r)];exact r
   rcases hc with rfl | hc
   ·exact hbe
   ·rintro rfl
    rcases he with z | z
    ·exact nown c b hc z
    ·rw [hc] at z;cases z;exact hb rfl
end
structure Un (fs ex:List Addr)(H H':Hp)(h h':Heap):Prop where
 keep:∀ b o,h.get? b=some o->H b=none->b ∉ fs->b ∉ ex->h'.get? b=some o
 slot:∀ b o,h.get? b=some o->H b=none->b∈fs->b ∉ ex->∃ sl,h'.get? b=some { o with slots:=sl }
 free:∀ b o,h.get? b=some o->H b=none->b ∉ ex->H' b=none
 there:∀ b o,h.get? b=some o->b ∉ ex->∃ o',h'.get? b=some o'
 tups:∀ b xs,H b=some (.tup xs)->H' b=some (.tup xs)
 frzs:∀ b o u,H b=some (.frz o u)->H' b=some (.frz o u)
 tbls:∀ b ps,H b=some (.tbl ps)->∃ more,H' b=some (.tbl (ps++more))
section
variable {fs fs' ex ex':List Addr}{H H1 H2:Hp}{h h1 h2 h':Heap}{a x e:Addr}{o:HO}
theorem Un.any (u:Un fs ex H H1 h h1){b:Addr}{ob:Obj}(q:h.get? b=some ob)(n:H b=none)(hx:b ∉ ex):∃ sl,h1.get? b=some { ob with slots:=sl }:=by
 by_cases hb:b∈fs
 ·exact u.slot b ob q n hb hx
 ·exact ⟨ob.slots,u.keep b ob q n hb hx⟩
theorem Un.kept (k:∀ b u,h.get? b=some u->h'.get? b=some u):Un fs ex H H h h' :=
 ⟨fun b ob q _ _ _=>k b ob q,fun b ob q _ _ _=>⟨ob.slots,k b ob q⟩,fun _ _ _ n _=>n,fun b ob q _=>⟨ob,k b ob q⟩,fun _ _ q=>q,fun _ _ _ q=>q,fun _ ps q=>⟨#[],by rw [q];simp⟩⟩
theorem Un.refl:Un fs ex H H h h:=Un.kept fun _ _ q=>q
theorem Un.laid (k:∀ b u,h.get? b=some u->h'.get? b=some u)(hp:h.objs.size<=a)(hn:H a=none):Un fs ex H (upd H a o) h h' where
 keep:=fun b u q _ _ _=>k b u q
 slot:=fun b u q _ _ _=>⟨u.slots,k b u q⟩
 free:=fun b u q n _=>by rw [Ai (O1 (O9 (Ow q) hp))];exact n
 there:=fun b u q _=>⟨u,k b u q⟩
 tups:=fun b xs q=>by rw [Ai (Bc q hn)];exact q
 frzs:=fun b u xs q=>by rw [Ai (Bc q hn)];exact q
 tbls:=fun b ps q=>⟨#[],by rw [Ai (Bc q hn),q];simp⟩
theorem Un.write (mu:Mut (H x))(he:e=x\/H e=some (.own x))(k:∀ b u,b≠e->h.get? b=some u->h'.get? b=some u)(heo:∃ u,h'.get? e=some u):Un fs ex H (upd H x o) h h':=by
 have hx:∀ b,H b=none->b≠x:=fun b n z=>by subst z;rw [n] at mu;exact mu
 have hb:∀ b,H b=none->b≠e:=fun b n z=>by
  subst z
  rcases he with r | r
  ·exact hx b n r
  ·rw [n] at r;cases r
 have hm:∀ b u,H b=some u->¬ Mut (some u)->b≠x:=fun b u q nm z=>by subst z;rw [q] at mu;exact nm mu
 refine ⟨fun b u q n _ _=>k b u (hb b n) q,fun b u q n _ _=>⟨u.slots,k b u (hb b n) q⟩,fun b u q n _=>by rw [Ai (hx b n)];exact n,fun b u q _=>?_,
  fun b xs q=>by rw [Ai (hm b _ q fun z=>z)];exact q,fun b u xs q=>by rw [Ai (hm b _ q fun z=>z)];exact q,fun b ps q=>⟨#[],by rw [Ai (hm b _ q fun z=>z),q];simp⟩⟩
 by_cases hbe:b=e
 ·subst hbe;exact heo
 ·exact ⟨u,k b u hbe q⟩
end
noncomputable def trk (h:Heap)(H:Hp):List Addr:=(O7 h.objs.size).filter fun a=>(H a).isSome
noncomputable def Ej (h:Heap)(H:Hp):Heap:=PySem.W.hideAll h (trk h H)
theorem Zg5 (h:Heap)(H:Hp):(Ej h H).objs.size=h.objs.size:=PySem.W.hideAll_size _ _
theorem Ziw {h:Heap}{H:Hp}{b:Addr}{o:Obj}(e:h.get? b=some o)(n:H b=none):(Ej h H).get? b=some o :=
 PySem.W.hideAll_get _ e fun hm=>by
  have q:(H b).isSome=true:=(Vz.mp hm).2
  rw [n] at q;simp at q
theorem Zpm {h:Heap}{H:Hp}{b:Addr}{o:Obj}(e:(Ej h H).get? b=some o):h.get? b=some o/\H b=none:=by
 have e':h.get? b=some o:=PySem.W.of_hideAll (trk h H) e
 refine ⟨e',?_⟩
 cases q:H b with
 | none=>rfl
 | some x =>
  have hm:b∈trk h H:=Vz.mpr ⟨List.mem_range.mpr (Ow e'),by simp [q]⟩
  have z:(Ej h H).get? b=none:=PySem.W.hideAll_none (trk h H) hm
  rw [z] at e;cases e
structure Mod (K:Om)(mg:Str->Option Value)(base:Heap):Prop where
 kin:K.In base
 glob:base.Ns mainGlobals mg
 blt:∃ mb,base.Ns builtinsNs mb/\∀ x:Str,x ≠ "__name__" -> mb x=bootBuiltins x
 nolimit:base.NoLimit
structure Cx where
 prog:Program
 w:World
 K:Om
 mg:Str->Option Value
 base:Heap
 A:Around
 N:List Str
 s₀:Shared
 H₀:Hp
 env:Env
 outer:List Env
 stack:List Env
 ex:List Addr
 fn:Str->Bool
 calm:Bool
 pn:List (Addr×Obj)
 xe:Value->Shared->Prop
noncomputable def Cd (l:List Env):List Addr:=l.filterMap (·.frame)
noncomputable abbrev Cx.fs (X:Cx):List Addr:=Cd X.outer
noncomputable def Vis (sc:Scope)(x:Str):Prop:=sc.names.lookup x=some .local\/sc.names.lookup x=some .cell\/sc.names.lookup x=some .free
noncomputable def Ev (sc:Scope)(x:Str):Prop:=sc.names.lookup x=some .local\/sc.names.lookup x=some .cell
noncomputable def Look (env:Env)(h:Heap)(m:Str->Option Value)(x:Str)(u:Value):Prop :=
 (env.kindOf x=some .local/\m x=some u)\/((env.kindOf x=some .cell\/env.kindOf x=some .free)/\∃ c,env.cells.lookup x=some c/\h.IsCell c (some u))
structure Cx.Ok (X:Cx):Prop where
 mod:Mod X.K X.mg X.base
 kind:X.env.scope.kind=.function
 glob:X.env.globals=mainGlobals
 blt:X.env.builtins=builtinsNs
 above:X.s₀.heap.objs.size<=X.env.locals
 inj:∀ x y c,X.env.cells.lookup x=some c->X.env.cells.lookup y=some c->x=y
 has:∀ x,(X.env.kindOf x=some .cell\/X.env.kindOf x=some .free)->∃ c,X.env.cells.lookup x=some c
 cab:∀ x c,X.fn x=true->X.env.cells.lookup x=some c->X.s₀.heap.objs.size<=c
 hd:X.calm=true->X.A.handled=none
 frames:X.A.frames=some X.stack
 stk:X.stack=X.outer\/(X.stack=X.env::X.outer/\X.env.frame=some X.env.locals)
 exf:∀ b∈X.ex,b≠X.env.locals/\∀ x c,X.env.cells.lookup x=some c->c≠b
 bs:∀ b o,X.base.get? b=some o->X.s₀.heap.get? b=some o/\X.H₀ b=none
 bsz:X.base.objs.size<=X.s₀.heap.objs.size
 noex:∀ b o,X.base.get? b=some o->b ∉ X.ex
 exfs:∀ b∈X.ex,b ∉ X.fs
 funs:X.s₀.heap.FunFrames X.base X.outer
 frf:∀ b∈X.fs,X.H₀ b=none
structure Inv (X:Cx)(pins:List (Addr×Obj))(σ:List (Option V))(H:Hp)(s:Shared):Prop where
 ok:X.Ok
 os:s.os=X.s₀.os
 bare:AllBare s.gens
 base:Un X.fs X.ex X.H₀ H X.s₀.heap s.heap
 loc:∃ m,s.heap.Ns X.env.locals m/\∀(i:Nat)(x:Str)(v:V),X.N[i]?=some x->σ[i]?=some (some v)->Vis X.env.scope x->∃ u,RelV v u/\Look X.env s.heap m x u
 cell:∀ x c,X.env.cells.lookup x=some c->∃ v,s.heap.IsCell c v
 free:H X.env.locals=none
 freeC:∀ x c,X.env.cells.lookup x=some c->H c=none
 pin:∀ p∈X.pn++pins,s.heap.get? p.1=some p.2/\H p.1=none/\p.1≠X.env.locals/\p.1 ∉ X.fs/\∀ v,p.2.data≠.cell v
 hok:HOk X.prog X.w H s.heap
 len:σ.length=X.N.length
section
variable {X:Cx}{pins:List (Addr×Obj)}{σ:List (Option V)}{H H':Hp}{s:Shared}{h':Heap}
theorem Cx.Ok.nofr (ok:X.Ok){b:Addr}{o:Obj}(e:X.base.get? b=some o):b ∉ X.fs:=fun hb=>by
 have:=(ok.funs.mem hb).1
 rw [e] at this;cases this
theorem Inv.bs (I:Inv X pins σ H s):∀ b o,X.base.get? b=some o->s.heap.get? b=some o/\H b=none:=fun b o e =>
 ⟨I.base.keep b o (I.ok.bs b o e).1 (I.ok.bs b o e).2 (I.ok.nofr e) (I.ok.noex b o e),I.base.free b o (I.ok.bs b o e).1 (I.ok.bs b o e).2 (I.ok.noex b o e)⟩
theorem Inv.bk (I:Inv X pins σ H s):∀ b o,X.base.get? b=some o->s.heap.get? b=some o:=fun b o e=>(I.bs b o e).1
theorem Inv.mod (I:Inv X pins σ H s):Mod X.K X.mg X.base:=I.ok.mod
theorem Inv.kIn (I:Inv X pins σ H s):X.K.In s.heap:=I.ok.mod.kin.keeps I.bk
theorem Inv.lt (I:Inv X pins σ H s):X.env.locals < s.heap.objs.size:=let ⟨_,hn,_⟩:=I.loc;hn.lt
theorem Inv.sz (I:Inv X pins σ H s):X.s₀.heap.objs.size<=s.heap.objs.size:=Pi I.ok.above (Uy I.lt)
theorem Inv.nofs (I:Inv X pins σ H s){a:Addr}(h:s.heap.objs.size<=a):a ∉ X.fs:=fun hb=>by
 obtain ⟨_,o,ho,_⟩:=I.ok.funs.mem hb
 exact absurd (O9 (Ow ho) (Pi I.sz h)) (Qk _)
theorem Inv.cne (I:Inv X pins σ H s):∀ x c,X.env.cells.lookup x=some c->c≠X.env.locals:=fun x c e z=>by
 obtain ⟨v,o,ho,hd⟩:=I.cell x c e
 obtain ⟨m,⟨o',es,ep,ho',hd',_⟩,_⟩:=I.loc
 rw [z,ho'] at ho;cases ho;rw [hd'] at hd;cases hd
theorem Inv.funs (I:Inv X pins σ H s):s.heap.FunFrames X.base X.outer:=by
 have all:∀(l:List Env),(∀ b∈Cd l,b∈X.fs)->X.s₀.heap.FunFrames X.base l->s.heap.FunFrames X.base l:=by
  intro l
  induction l with
  | nil=>intro _ _;trivial
  | cons env r ih =>
   intro hs hl
   obtain ⟨hk,⟨L,o,hf,hn,ho,hd⟩,hr⟩:=hl
   have hL:L∈X.fs:=hs L (by unfold Cd;rw [Vh,hf];exact Pr)
   obtain ⟨sl,e⟩:=I.base.slot L o ho (I.ok.frf L hL) hL fun z=>I.ok.exfs L z hL
   exact ⟨hk,⟨L,_,hf,hn,e,hd⟩,ih (fun b hb=>hs b (by unfold Cd;rw [Vh,hf];exact Pe _ hb)) hr⟩
 exact all X.outer (fun _ hb=>hb) I.ok.funs
theorem Inv.stack (I:Inv X pins σ H s):s.heap.FunFrames X.base X.stack:=by
 rcases I.ok.stk with e | ⟨e,hf⟩
 ·rw [e];exact I.funs
 ·rw [e]
  obtain ⟨m,hn,_⟩:=I.loc
  refine .cons (by rw [I.ok.kind];decide) hf hn ?_ I.funs
  exact Heap.get?_none_of_le (Pi I.ok.bsz I.ok.above)
theorem Inv.stkSub (I:Inv X pins σ H s):∀ b∈Cd X.stack,b∈X.env.locals::X.fs:=fun b hb=>by
 rcases I.ok.stk with e | ⟨e,hf⟩
 ·rw [e] at hb;exact Pe _ hb
 ·rw [e] at hb
  unfold Cd at hb
  rw [Vh,hf] at hb
  exact hb
theorem Inv.stkFree (I:Inv X pins σ H s):∀ b∈Cd X.stack,H b=none:=fun b hb=>by
 rcases Oy.mp (I.stkSub b hb) with e | hb
 ·rw [e];exact I.free
 ·obtain ⟨_,o,ho,_⟩:=I.ok.funs.mem hb
  exact I.base.free b o ho (I.ok.frf b hb) fun z=>I.ok.exfs b z hb
theorem Inv.step {g':Array GenState}{t':Nat}{d':Drawn}{ch:List Addr}(I:Inv X pins σ H s)
  (hch:∀ b∈ch,(b∈X.ex\/X.s₀.heap.objs.size<=b)/\b≠X.env.locals/\(∀ x c,X.env.cells.lookup x=some c->c≠b)/\∀ p∈X.pn++pins,p.1≠b)
  (keep:∀ b o,b≠X.env.locals->b ∉ X.fs->b ∉ ch->s.heap.get? b=some o->H b=none->h'.get? b=some o)
  (slot:∀ b o,b≠X.env.locals->b∈X.fs->b ∉ ch->s.heap.get? b=some o->H b=none->∃ sl,h'.get? b=some { o with slots:=sl }) (free:∀ b o,b ∉ ch->s.heap.get? b=some o->H b=none->H' b=none)
  (there:∀ b o,b ∉ ch->s.heap.get? b=some o->∃ o',h'.get? b=some o')
  (tups:∀ b xs,H b=some (.tup xs)->H' b=some (.tup xs)) (frzs:∀ b o u,H b=some (.frz o u)->H' b=some (.frz o u)) (tbls:∀ b ps,H b=some (.tbl ps)->∃ more,H' b=some (.tbl (ps++more)))
  (ns:∀ m,s.heap.Ns X.env.locals m->h'.Ns X.env.locals m) (hok:HOk X.prog X.w H' h') (hg:AllBare g') :
  Inv X pins σ H' { s with heap:=h',gens:=g',drawn:=d',toks:=t' }:=by
 have neL:∀ b o,X.s₀.heap.get? b=some o->b≠X.env.locals:=fun b o e=>O1 (O9 (Ow e) I.ok.above)
 have neC:∀ b o,X.s₀.heap.get? b=some o->b ∉ X.ex->b ∉ ch:=fun b o e hx hb=>by
  rcases (hch b hb).1 with z | z
  ·exact hx z
  ·exact absurd (O9 (Ow e) z) (Qk _)
 have cellK:∀ x c,X.env.cells.lookup x=some c->∀ v,s.heap.IsCell c v->h'.IsCell c v:=fun x c e v ⟨o,ho,hd⟩=>by
  have nch:c ∉ ch:=fun z=>(hch c z).2.2.1 x c e rfl
  by_cases hc:c∈X.fs
  ·obtain ⟨sl,q⟩:=slot c o (I.cne x c e) hc nch ho (I.freeC x c e)
   exact ⟨_,q,hd⟩
  ·exact ⟨o,keep c o (I.cne x c e) hc nch ho (I.freeC x c e),hd⟩
 refine ⟨I.ok,I.os,hg,⟨fun b o e n hb hx=>?_,fun b o e n hb hx=>?_,fun b o e n hx=>?_,fun b o e hx=>?_,fun b xs e=>tups b xs (I.base.tups b xs e),fun b o xs e=>frzs b o xs (I.base.frzs b o xs e),fun b ps e=>?_⟩,?_,fun x c e=>?_,?_,fun x c e=>?_,fun p hp=>?_,hok,I.len⟩
 ·exact keep b o (neL b o e) hb (neC b o e hx) (I.base.keep b o e n hb hx) (I.base.free b o e n hx)
 ·obtain ⟨sl,e1⟩:=I.base.slot b o e n hb hx
  obtain ⟨sl',e2⟩:=slot b _ (neL b o e) hb (neC b o e hx) e1 (I.base.free b o e n hx)
  exact ⟨sl',e2⟩
 ·obtain ⟨o',e1⟩:=I.base.there b o e hx
  exact free b o' (neC b o e hx) e1 (I.base.free b o e n hx)
 ·obtain ⟨o',e1⟩:=I.base.there b o e hx
  exact there b o' (neC b o e hx) e1
 ·obtain ⟨m1,e1⟩:=I.base.tbls b ps e
  obtain ⟨m2,e2⟩:=tbls b _ e1
  exact ⟨m1++m2,by rw [e2,Array.append_assoc]⟩
 ·obtain ⟨m,hn,hl⟩:=I.loc
  refine ⟨m,ns m hn,fun i x v e1 e2 e3=>?_⟩
  obtain ⟨u,r,l⟩:=hl i x v e1 e2 e3
  refine ⟨u,r,?_⟩
  rcases l with l | ⟨k,c,e,z⟩
  ·exact .inl l
  ·exact .inr ⟨k,c,e,cellK x c e _ z⟩
 ·obtain ⟨v,z⟩:=I.cell x c e
  exact ⟨v,cellK x c e v z⟩
 ·obtain ⟨m,⟨o,_,_,ho,_⟩,_⟩:=I.loc
  exact free _ o (fun z=>(hch _ z).2.1 rfl) ho I.free
 ·obtain ⟨v,o,ho,hd⟩:=I.cell x c e
  exact free c o (fun z=>(hch c z).2.2.1 x c e rfl) ho (I.freeC x c e)
 ·obtain ⟨e,n,ne,nf,d⟩:=I.pin p hp
  have nch:p.1 ∉ ch:=fun z=>(hch p.1 z).2.2.2 p hp rfl
  exact ⟨keep p.1 p.2 ne nf nch e n,free p.1 p.2 nch e n,ne,nf,d⟩
theorem Inv.un {t':Nat}(I:Inv X pins σ H s)(u:Un X.fs [] H H' s.heap h')(hok:HOk X.prog X.w H' h'):Inv X pins σ H' { s with heap:=h',toks:=t' }:=by
 obtain ⟨m,⟨o,es,ep,ho,r⟩,_⟩:=id I.loc
 obtain ⟨sl,hL⟩:=u.any ho I.free (by simp)
 exact I.step (g':=s.gens) (d':=s.drawn) (ch:=[]) (fun _ z=>nomatch z) (fun b o _ hb _ e n=>u.keep b o e n hb (by simp)) (fun b o _ hb _ e n=>u.slot b o e n hb (by simp)) (fun b o _ e n=>u.free b o e n (by simp)) (fun b o _ e=>u.there b o e (by simp)) u.tups u.frzs u.tbls (fun m' hm=>by
  obtain ⟨o',es',ep',ho',r'⟩:=hm
  rw [ho] at ho';cases ho'
  exact ⟨_,es',ep',hL,r'⟩) hok I.bare
theorem Inv.call {g':Array GenState}{t':Nat}{d':Drawn}{ch:List Addr}(I:Inv X pins σ H s)(u:Un (Cd X.stack) ch H H' s.heap h')(hok:HOk X.prog X.w H' h')(hg:AllBare g')
  (hch:∀ b∈ch,(b∈X.ex\/X.s₀.heap.objs.size<=b)/\b≠X.env.locals/\(∀ x c,X.env.cells.lookup x=some c->c≠b)/\∀ p∈X.pn++pins,p.1≠b) :
  Inv X pins σ H' { s with heap:=h',gens:=g',drawn:=d',toks:=t' }:=by
 obtain ⟨m,⟨o,es,ep,ho,r⟩,_⟩:=id I.loc
 obtain ⟨sl,hL⟩:=u.any ho I.free fun z=>(hch _ z).2.1 rfl
 exact I.step (ch:=ch) hch (fun b o hL hb hc e n=>u.keep b o e n (fun z=>(Oy.mp (I.stkSub b z)).elim hL hb) hc) (fun b o _ _ hc e n=>u.any e n hc) (fun b o hc e n=>u.free b o e n hc) (fun b o hc e=>u.there b o e hc) u.tups u.frzs u.tbls (fun m' hm=>by
  obtain ⟨o',es',ep',ho',r'⟩:=hm
  rw [ho] at ho';cases ho'
  exact ⟨_,es',ep',hL,r'⟩) hok hg
theorem Inv.turned {t':Nat}{it:Addr}(I:Inv X pins σ H s)(k:∀ b o,b≠it->s.heap.get? b=some o->h'.get? b=some o)(hn:H it=none)(hL:it≠X.env.locals)
  (h1:it∈X.ex\/X.s₀.heap.objs.size<=it) (h2:∀ x c,X.env.cells.lookup x=some c->c≠it) (h3:∀ p∈X.pn++pins,p.1≠it):Inv X pins σ H { s with heap:=h',toks:=t' }:=by
 have nit:∀ b u,H b=some u->b≠it:=fun b u e z=>by rw [z,hn] at e;cases e
 refine I.step (g':=s.gens) (d':=s.drawn) (ch:=[it]) (fun b hb=>?_) (fun b o _ _ hc e _=>k b o (fun z=>hc (by simp [z])) e) (fun b o _ _ hc e _=>⟨o.slots,k b o (fun z=>hc (by simp [z])) e⟩) (fun _ _ _ _ n=>n)
  (fun b o hc e=>⟨o,k b o (fun z=>hc (by simp [z])) e⟩) (fun _ _ e=>e) (fun _ _ _ e=>e) (fun b ps e=>⟨#[],by rw [e];simp⟩) (fun m hm=>?_) (fun b u e=>?_) I.bare
 ·have e:b=it:=by simpa using hb
  subst e
  exact ⟨h1,hL,h2,h3⟩
 ·obtain ⟨o,es,ep,ho,r⟩:=hm
  exact ⟨o,es,ep,k _ o (Pm hL) ho,r⟩
 ·refine (I.hok b u e).stay (fun c v hc q=>k c v ?_ q) (fun _ q=>q) fun _ _ q=>q
  rcases hc with z | z
  ·rw [z];exact nit b u e
  ·exact nit c _ z
theorem Inv.tok (I:Inv X pins σ H s)(t:Nat):Inv X pins σ H { s with toks:=t }:=I.un (h':=s.heap) (t':=t) Un.refl I.hok
theorem Inv.kept {t':Nat}(I:Inv X pins σ H s)(k:∀ b u,s.heap.get? b=some u->h'.get? b=some u):Inv X pins σ H { s with heap:=h',toks:=t' }:=I.un (Un.kept k) (I.hok.kept k)
theorem Inv.laid {a:Addr}{o:HO}{t':Nat}(I:Inv X pins σ H s)(k:∀ b u,s.heap.get? b=some u->h'.get? b=some u)(hp:s.heap.objs.size<=a)(new:ObjOk X.prog X.w (upd H a o) h' a o) :
  Inv X pins σ (upd H a o) { s with heap:=h',toks:=t' }:=I.un (Un.laid k hp (I.hok.fresh hp)) (I.hok.laid k hp new)
theorem Inv.write {x e:Addr}{o:HO}{t':Nat}(I:Inv X pins σ H s)(mu:Mut (H x))(he:e=x\/H e=some (.own x))(k:∀ b u,b≠e->s.heap.get? b=some u->h'.get? b=some u)(heo:∃ u,h'.get? e=some u)
  (new:ObjOk X.prog X.w (upd H x o) h' x o):Inv X pins σ (upd H x o) { s with heap:=h',toks:=t' }:=I.un (Un.write mu he k heo) (I.hok.write mu he k heo new)
theorem Inv.pins_of {pins':List (Addr×Obj)}(I:Inv X pins σ H s)(h:∀ p∈pins',s.heap.get? p.1=some p.2/\H p.1=none/\p.1≠X.env.locals/\p.1 ∉ X.fs/\∀ v,p.2.data≠.cell v):Inv X pins' σ H s :=
 ⟨I.ok,I.os,I.bare,I.base,I.loc,I.cell,I.free,I.freeC,fun p hp=>(P9.mp hp).elim (fun z=>I.pin p (Si _ z)) (h p),I.hok,I.len⟩
theorem Zb5 {N:List Str}(hN:N.Nodup){i j:Nat}{x:Str}(a:N[i]?=some x)(b:N[j]?=some x):i=j:=by
 obtain ⟨h1,e1⟩:=O3.mp a
 obtain ⟨h2,e2⟩:=O3.mp b
 exact (List.getElem_inj hN).mp (e1.trans e2.symm)
theorem Zb9 {M:Model}{A:Around}{E:Value->Shared->Prop}{i:Nat}{x:Str}{v:V}{u:Value}{Q:Unit->Shared->Prop}(I:Inv X pins σ H s)(hN:X.N.Nodup)(hi:X.N[i]?=some x)(hx:Ev X.env.scope x)(r:RelV v u)
  (h:∀ s',Inv X pins (σ.set i (some v)) H s'->(∃ a,O6 a s.heap s'.heap/\(a=X.env.locals\/X.env.cells.lookup x=some a))->Q () s') (hf:X.fn x=true\/X.env.scope.names.lookup x=some .local:=by first | exact .inl rfl | exact .inr rfl | assumption):wpAny M A (storeName X.env x u) Q E s:=by
 obtain ⟨m,hn,hl⟩:=id I.loc
 have hcls:(X.env.scope.kind == .class || (X.env.scope.kind == .module && X.env.locals != X.env.globals))=false:=by rw [I.ok.kind];rfl
 have hiσ:i < σ.length:=by rw [I.len];exact (O3.mp hi).1
 have cne:=I.cne
 have tracked:∀{a:Addr}{h':Heap},(∃ o,s.heap.get? a=some o/\H a=none)->O6 a s.heap h'->HOk X.prog X.w H h':=fun {a h'} ha hs b ob e=>by
  obtain ⟨_,_,hfree⟩:=ha
  refine (I.hok b ob e).stay (fun c w' hc q=>(hs.2 c ?_).trans q) (fun _ q=>q) fun _ _ q=>q
  rintro rfl
  rcases hc with rfl | hc
  ·rw [hfree] at e;cases e
  ·rw [hfree] at hc;cases hc
 rcases hx with hk | hk
 ·refine wpAny_storeName_local hk hn (fun h' hn' hs=>?_) hcls
  obtain ⟨oL,_,_,hoL,_⟩:=id hn
  refine h _ ⟨I.ok,I.os,I.bare,⟨fun b o e n hb hx=>?_,fun b o e n hb hx=>?_,I.base.free,fun b o e hx=>?_,I.base.tups,I.base.frzs,I.base.tbls⟩,⟨_,hn',fun j y v' e1 e2 e3=>?_⟩,fun y c e=>?_,I.free,I.freeC,fun p hp=>?_,tracked ⟨oL,hoL,I.free⟩ hs,by simpa using I.len⟩ ⟨_,hs,.inl rfl⟩
  ·exact (hs.2 b (O1 (O9 (Ow e) I.ok.above))).trans (I.base.keep b o e n hb hx)
  ·obtain ⟨sl,e1⟩:=I.base.slot b o e n hb hx
   exact ⟨sl,(hs.2 b (O1 (O9 (Ow e) I.ok.above))).trans e1⟩
  ·obtain ⟨o',e1⟩:=I.base.there b o e hx
   exact ⟨o',(hs.2 b (O1 (O9 (Ow e) I.ok.above))).trans e1⟩
  ·by_cases hj:j=i
   ·subst hj
    rw [hi] at e1;cases e1
    rw [Sg hiσ] at e2
    cases e2
    exact ⟨u,r,.inl ⟨hk,by simp⟩⟩
   ·rw [T2 (Pm hj)] at e2
    obtain ⟨u',r',q⟩:=hl j y v' e1 e2 e3
    refine ⟨u',r',?_⟩
    rcases q with ⟨k,e⟩ | ⟨k,c,e,z⟩
    ·refine .inl ⟨k,?_⟩
     have:y≠x:=fun e=>hj (Zb5 hN e1 (e ▸ hi))
     simp [this,e]
    ·exact .inr ⟨k,c,e,z.sameBut hs (cne y c e)⟩
  ·obtain ⟨w',z⟩:=I.cell y c e
   exact ⟨w',z.sameBut hs (cne y c e)⟩
  ·obtain ⟨e,n,ne,nf,d⟩:=I.pin p hp
   exact ⟨(hs.2 p.1 ne).trans e,n,ne,nf,d⟩
 ·have hfn:X.fn x=true:=by
   rcases hf with z | z
   ·exact z
   ·rw [z] at hk;cases hk
  obtain ⟨c,hc⟩:=I.ok.has x (.inl hk)
  obtain ⟨w',z⟩:=I.cell x c hc
  refine wpAny_storeName_cell I.ok.kind hk hc z (fun h' hc' hs=>?_)
  obtain ⟨oc,hoc,hocd⟩:=id z
  refine h { s with heap:=h' } ⟨I.ok,I.os,I.bare,⟨fun b o e n hb hx=>?_,fun b o e n hb hx=>?_,I.base.free,fun b o e hx=>?_,I.base.tups,I.base.frzs,I.base.tbls⟩,⟨m,hn.sameBut hs (Pm (cne x c hc)),fun j y v' e1 e2 e3=>?_⟩,fun y c' e=>?_,I.free,I.freeC,fun p hp=>?_,tracked ⟨oc,hoc,I.freeC x c hc⟩ hs,by simpa using I.len⟩ ⟨c,hs,.inr hc⟩
  ·exact (hs.2 b (O1 (O9 (Ow e) (I.ok.cab x c hfn hc)))).trans (I.base.keep b o e n hb hx)
  ·obtain ⟨sl,e1⟩:=I.base.slot b o e n hb hx
   exact ⟨sl,(hs.2 b (O1 (O9 (Ow e) (I.ok.cab x c hfn hc)))).trans e1⟩
  ·obtain ⟨o',e1⟩:=I.base.there b o e hx
   exact ⟨o',(hs.2 b (O1 (O9 (Ow e) (I.ok.cab x c hfn hc)))).trans e1⟩
  ·by_cases hj:j=i
   ·subst hj
    rw [hi] at e1;cases e1
    rw [Sg hiσ] at e2
    cases e2
    exact ⟨u,r,.inr ⟨.inl hk,c,hc,hc'⟩⟩
   ·rw [T2 (Pm hj)] at e2
    obtain ⟨u',r',q⟩:=hl j y v' e1 e2 e3
    refine ⟨u',r',?_⟩
    rcases q with q | ⟨k,c',e,z'⟩
    ·exact .inl q
    ·refine .inr ⟨k,c',e,z'.sameBut hs ?_⟩
     rintro rfl
     exact hj (Zb5 hN e1 (I.ok.inj _ _ _ e hc ▸ hi))
  ·by_cases hcc:c'=c
   ·subst hcc;exact ⟨_,hc'⟩
   ·obtain ⟨w2,z2⟩:=I.cell y c' e
    exact ⟨w2,z2.sameBut hs hcc⟩
  ·obtain ⟨e,n,ne,nf,d⟩:=I.pin p hp
   refine ⟨(hs.2 p.1 ?_).trans e,n,ne,nf,d⟩
   intro q
   rw [q,hoc] at e
   have q':oc=p.2:=Ox e
   exact d w' (by rw [<- q'];exact hocd)
theorem Zdg {M:Model}{A:Around}{E:Value->Shared->Prop}{i:Nat}{x:Str}{v:V}{u:Value}{Q:Unit->Shared->Prop}(I:Inv X pins σ H s)(hN:X.N.Nodup)(hi:X.N[i]?=some x)(hx:Ev X.env.scope x)(r:RelV v u)
  (h:∀ s',Inv X pins (σ.set i (some v)) H s'->Q () s') (hf:X.fn x=true\/X.env.scope.names.lookup x=some .local:=by first | exact .inl rfl | exact .inr rfl | assumption):wpAny M A (storeName X.env x u) Q E s :=
 Zb9 I hN hi hx r (fun s' I' _=>h s' I') hf
theorem Inv.call' {s':Shared}{ch:List Addr}(I:Inv X pins σ H s)(ho:s'.os=s.os)(u:Un (Cd X.stack) ch H H' s.heap s'.heap)(hok:HOk X.prog X.w H' s'.heap)(hg:AllBare s'.gens)
  (hch:∀ b∈ch,(b∈X.ex\/X.s₀.heap.objs.size<=b)/\b≠X.env.locals/\(∀ x c,X.env.cells.lookup x=some c->c≠b)/\∀ p∈X.pn++pins,p.1≠b):Inv X pins σ H' s':=by
 obtain ⟨h',g',d',t',o'⟩:=s'
 have e:o'=s.os:=ho
 subst e
 exact I.call (g':=g') (t':=t') (d':=d') u hok hg hch
end
noncomputable abbrev XK:=Value->Option Addr->Hp->Prop
noncomputable abbrev St:=List (Option V)
noncomputable abbrev VK:=V->Hp->Prop
noncomputable abbrev TE:=St->Hp->VK->Prop
noncomputable abbrev TT:=St->Hp->(Bool->Hp->Prop)->Prop
noncomputable abbrev TA:=St->Hp->(List V->Hp->Prop)->Prop
structure Cr where
 nx:St->Hp->Prop
 rt:VK
 bk:St->Hp->Prop:=fun _ _=>False
 ct:St->Hp->Prop:=fun _ _=>False
noncomputable abbrev TS:=Cr->St->Hp->Prop
noncomputable def EP (X:Cx)(pins:List (Addr×Obj))(σ:St)(Q:VK)(u:Value)(s':Shared):Prop:=∃ v H',Inv X pins σ H' s'/\RelV v u/\Q v H'
noncomputable def TP (X:Cx)(pins:List (Addr×Obj))(σ:St)(Q:Bool->Hp->Prop)(b:Bool)(s':Shared):Prop:=∃ H',Inv X pins σ H' s'/\Q b H'
noncomputable def AP (X:Cx)(pins:List (Addr×Obj))(σ:St)(Q:List V->Hp->Prop)(us:List Value)(s':Shared):Prop:=∃ vs H',Inv X pins σ H' s'/\Vals vs us/\Q vs H'
noncomputable def SP (X:Cx)(pins:List (Addr×Obj))(D:Cr)(f:Flow)(s':Shared):Prop :=
 match f with
 | .next=>∃ σ' H',Inv X pins σ' H' s'/\D.nx σ' H'
 | .brk=>∃ σ' H',Inv X pins σ' H' s'/\D.bk σ' H'
 | .cont=>∃ σ' H',Inv X pins σ' H' s'/\D.ct σ' H'
 | .ret u=>∃ v σ' H',Inv X pins σ' H' s'/\RelV v u/\D.rt v H'
noncomputable def PE (X:Cx)(e:Expr)(t:TE):Prop :=
 ∀(pins:List (Addr×Obj))(s:Shared)(σ:St)(H:Hp)(Q:VK),Inv X pins σ H s->t σ H Q->wpAny (model X.prog X.w) X.A (eval e X.env) (EP X pins σ Q) X.xe s
noncomputable def PT (X:Cx)(e:Expr)(t:TT):Prop :=
 ∀(pins:List (Addr×Obj))(s:Shared)(σ:St)(H:Hp)(Q:Bool->Hp->Prop),Inv X pins σ H s->t σ H Q->wpAny (model X.prog X.w) X.A (isTrue e X.env (eval e X.env)) (TP X pins σ Q) X.xe s
noncomputable def PW (X:Cx)(e:Expr)(t:TT):Prop :=
 ∀(whole:Sem Value)(pins:List (Addr×Obj))(s:Shared)(σ:St)(H:Hp)(Q:Bool->Hp->Prop),Inv X pins σ H s->t σ H Q->wpAny (model X.prog X.w) X.A (isTrue e X.env whole) (TP X pins σ Q) X.xe s
theorem PW.pt {X:Cx}{e:Expr}{t:TT}(h:PW X e t):PT X e t:=h _
noncomputable def PA (X:Cx)(es:List Expr)(t:TA):Prop :=
 ∀(pos:Pos)(pins:List (Addr×Obj))(s:Shared)(σ:St)(H:Hp)(Q:List V->Hp->Prop),Inv X pins σ H s->t σ H Q->wpAny (model X.prog X.w) X.A (spliced (backTo pos (starEach es X.env))) (AP X pins σ Q) X.xe s
noncomputable def PS (X:Cx)(st:Stmt)(t:TS):Prop :=
 ∀(pins:List (Addr×Obj))(s:Shared)(σ:St)(H:Hp)(D:Cr),Inv X pins σ H s->t D σ H->wpAny (model X.prog X.w) X.A (exec st X.env) (SP X pins D) X.xe s
noncomputable def PSs (X:Cx)(st:List Stmt)(t:TS):Prop :=
 ∀(pins:List (Addr×Obj))(s:Shared)(σ:St)(H:Hp)(D:Cr),Inv X pins σ H s->t D σ H->wpAny (model X.prog X.w) X.A (execs st X.env) (SP X pins D) X.xe s
theorem Ah {α:Type}{t:Sem α}{Q Q':α->Shared->Prop}{M:Model}{A:Around}{E:Value->Shared->Prop}{s:Shared}(h:wpAny M A t Q E s)(hQ:∀ a s,Q a s->Q' a s):wpAny M A t Q' E s:=Sd h hQ fun _ _ x=>x
section
variable {X:Cx}
noncomputable def Em (i:Nat):TE:=fun σ H Q=>∃ v,σ[i]?=some (some v)/\Q v H
noncomputable def tC (v:V):TE:=fun _ H Q=>Q v H
theorem Zqt {i:Nat}{x:Str}{pos:Pos}(hN:X.N[i]?=some x)(hv:Vis X.env.scope x)(hd:(x == ("__debug__" : Str))=false:=by decide)(hcd:(x == ("__classdict__" : Str))=false:=by decide):PE X (.Name x pos) (Em i):=by
 intro pins s σ H Q I h
 obtain ⟨v,e,h⟩:=h
 obtain ⟨m,hn,hl⟩:=I.loc
 obtain ⟨u,r,l⟩:=hl i x v hN e hv
 have fin:EP X pins σ Q u s:=⟨v,H,I,r,h⟩
 rcases l with ⟨hk,hm⟩ | ⟨hk,c,hc,hcell⟩
 ·exact wpAny_Name (wpAny_loadName_local I.ok.kind hk hn hm fin) hd
 ·rcases hk with hk | hk
  ·exact wpAny_Name (wpAny_loadName_cell I.ok.kind hk hc hcell fin) hd
  ·exact wpAny_Name (wpAny_loadName_free I.ok.kind hk hc hcell fin hcd) hd
theorem Zdu {i j pos}:PE X (.Constant (.int i) j pos) (tC (.int i)):=fun _ _ _ H _ I h=>wpAny_Constant_int ⟨.int i,H,I.tok _,⟨_,rfl⟩,h⟩
theorem Zdi {b j pos}:PE X (.Constant (.bool b) j pos) (tC (.bl b)):=fun _ _ _ H _ I h=>Constant_bool ⟨.bl b,H,I,rfl,h⟩
theorem Zch {j pos}:PE X (.Constant .none j pos) (tC .non):=fun _ _ _ H _ I h=>Constant_none ⟨.non,H,I,rfl,h⟩
theorem Zfp {x j pos}:PE X (.Constant (.str x) j pos) (tC (.str x)):=fun _ _ _ H _ I h=>Calls.Constant_str ⟨.str x,H,I.tok _,⟨_,rfl⟩,h⟩
noncomputable def Gl (X:Cx)(x:Str):Prop:=X.env.kindOf x=some .globalImplicit
theorem Kz {E:Value->Shared->Prop}{pins:List (Addr×Obj)}{s:Shared}{σ:St}{H:Hp}{x:Str}{u:Value}{pos:Pos}{Q:Value->Shared->Prop}(I:Inv X pins σ H s)(hg:Gl X x)(hm:X.mg x=some u)(h:Q u s)
  (hd:(x == ("__debug__" : Str))=false:=by decide):wpAny (model X.prog X.w) X.A (eval (.Name x pos) X.env) Q E s :=
 Calls.Name_function_global I.ok.kind hg (Calls.loadGlobal_global (by rw [I.ok.glob];exact I.mod.glob.keeps I.bk) hm h) hd
theorem Dx {E:Value->Shared->Prop}{pins:List (Addr×Obj)}{s:Shared}{σ:St}{H:Hp}{x:Str}{u:Value}{pos:Pos}{Q:Value->Shared->Prop}(I:Inv X pins σ H s)(hg:Gl X x)(hm:X.mg x=none)(hv:bootBuiltins x=some u)(h:Q u s)
  (hn:x ≠ "__name__" := by decide) (hd:(x == ("__debug__" : Str))=false:=by decide):wpAny (model X.prog X.w) X.A (eval (.Name x pos) X.env) Q E s:=by
 obtain ⟨mb,h1,h2⟩:=I.mod.blt
 exact Calls.Name_function_global I.ok.kind hg (Calls.loadGlobal_builtin (by rw [I.ok.glob];exact I.mod.glob.keeps I.bk) hm (by rw [I.ok.blt];exact h1.keeps I.bk) ((h2 x hn).trans hv) h) hd
theorem Zeb {x:Str}{v:V}{u:Value}{pos:Pos}(hg:Gl X x)(hm:X.mg x=some u)(r:RelV v u)(hd:(x == ("__debug__" : Str))=false:=by decide):PE X (.Name x pos) (tC v) :=
 fun _ _ _ H _ I h=>Kz I hg hm ⟨v,H,I,r,h⟩ hd
theorem Zmg {x:Str}{v:V}{u:Value}{pos:Pos}(hg:Gl X x)(hm:X.mg x=none)(hv:bootBuiltins x=some u)(r:RelV v u)(hn:x ≠ "__name__" := by decide)(hd:(x == ("__debug__" : Str))=false:=by decide):PE X (.Name x pos) (tC v) :=
 fun _ _ _ H _ I h=>Dx I hg hm hv ⟨v,H,I,r,h⟩ hn hd
variable {a b:Expr}{ta tb:TE}{pos:Pos}
noncomputable def PC (X:Cx)(op:CmpOp)(a b:Expr)(t:TE):Prop :=
 ∀(pins:List (Addr×Obj))(s:Shared)(σ:St)(H:Hp)(Q:VK),Inv X pins σ H s->t σ H Q ->
  wpAny (model X.prog X.w) X.A (eval a X.env) (fun v s₁=>wpAny (model X.prog X.w) X.A (eval b X.env) (fun u s₂=>wpAny (model X.prog X.w) X.A (compareOp op v u) (EP X pins σ Q) X.xe s₂) X.xe s₁) X.xe s
theorem Zf2 (b:Expr){op:CmpOp}(h:op≠.In)(h2:op≠.NotIn):behindInMarks op b=false:=by
 have e1:(op == CmpOp.In)=false:=by cases op <;> first | rfl | exact absurd rfl h
 have e2:(op == CmpOp.NotIn)=false:=by cases op <;> first | rfl | exact absurd rfl h2
 cases b <;> simp [behindInMarks,e1,e2]
noncomputable def Mr (ta:TE):TE:=fun σ H Q=>ta σ H fun x H1=>Q (.bl (decide (x=.non))) H1
theorem RelV.none_iff {x:V}{v:Value}(r:RelV x v):(v == Value.none)=decide (x=.non):=by
 cases x with
 | non=>cases r;rfl
 | bl _=>cases r;rfl
 | int _=>obtain ⟨t,rfl⟩:=r;rfl
 | str _=>obtain ⟨t,rfl⟩:=r;rfl
 | byt _=>obtain ⟨t,rfl⟩:=r;rfl
 | flt _=>obtain ⟨t,rfl⟩:=r;rfl
 | ref _=>cases r;rfl
 | ty _=>cases r;rfl
theorem Znr {j pos'}(ha:PE X a ta):PC X .Is a (.Constant .none j pos') (Mr ta):=by
 intro pins s σ H Q I h
 refine Ah (ha pins s σ H _ I h) fun v s1 zq=>?_
 obtain ⟨x,H1,I1,r1,q1⟩:=zq
 exact Constant_none (is_none_gen ⟨.bl _,H1,I1,by rw [r1.none_iff];rfl,q1⟩)
noncomputable def tB (t:TE):TT:=fun σ H Q=>t σ H fun x H1=>∃ c,x=.bl c/\Q c H1
theorem Znb {op:CmpOp}{t:TE}(h:PC X op a b t)(h1:behindInMarks op b=false:=by first | exact Zf2 _ (by decide) (by decide) | rfl):PE X (.Compare a [op] [b] pos) t:=fun pins s σ H Q I hw=>wpAny_Compare1 (h pins s σ H Q I hw) h1
theorem Zmw {e:Expr}{t:TE}(h:PE X e t)(he:∀ whole,isTrue e X.env whole=(do let v <- whole;standAt e.pos;holding [v] (truthy v)):=by intro _;rfl):PT X e (tB t):=by
 intro pins s σ H Q I hw
 refine isTrue_plain (Ah (h pins s σ H _ I hw) fun v s1 zq=>?_) (he _)
 obtain ⟨x,H1,I1,r1,q1⟩:=zq
 obtain ⟨d,rfl,q⟩:=q1
 cases r1
 exact Q1 ⟨H1,I1,q⟩
variable {tA tB':TT}{rest:List Expr}
noncomputable def Nr (t u:TT):TT:=fun σ H Q=>t σ H fun c H1=>if c=true then u σ H1 Q else Q false H1
noncomputable def tOr (t u:TT):TT:=fun σ H Q=>t σ H fun c H1=>if c=true then Q true H1 else u σ H1 Q
noncomputable def Zan (t:TT):TT:=fun σ H Q=>t σ H fun c H1=>Q (!c) H1
theorem pw_and1 (ha:PT X a tA):PW X (.BoolOp .And [a] pos) tA:=by
 intro wh pins s σ H Q I h
 refine isTrue_and (Ah (ha pins s σ H Q I h) fun c s1 e=>?_)
 cases c with
 | true=>exact isTrue_and_nil e
 | false=>exact e
theorem pw_or1 (ha:PT X a tA):PW X (.BoolOp .Or [a] pos) tA:=by
 intro wh pins s σ H Q I h
 refine isTrue_or (Ah (ha pins s σ H Q I h) fun c s1 e=>?_)
 cases c with
 | false=>exact isTrue_or_nil e
 | true=>exact e
theorem pw_and (ha:PT X a tA)(hb:PW X (.BoolOp .And (b::rest) pos) tB'):PW X (.BoolOp .And (a::b::rest) pos) (Nr tA tB'):=by
 intro wh pins s σ H Q I h
 refine isTrue_and (Ah (ha pins s σ H _ I h) fun c s1 zq=>?_)
 obtain ⟨H1,I1,q1⟩:=zq
 cases c with
 | true=>exact hb wh pins s1 σ H1 Q I1 q1
 | false=>exact ⟨H1,I1,q1⟩
theorem pw_or (ha:PT X a tA)(hb:PW X (.BoolOp .Or (b::rest) pos) tB'):PW X (.BoolOp .Or (a::b::rest) pos) (tOr tA tB'):=by
 intro wh pins s σ H Q I h
 refine isTrue_or (Ah (ha pins s σ H _ I h) fun c s1 zq=>?_)
 obtain ⟨H1,I1,q1⟩:=zq
 cases c with
 | true=>exact ⟨H1,I1,q1⟩
 | false=>exact hb wh pins s1 σ H1 Q I1 q1
theorem Zny (ha:PT X a tA):PT X (.UnaryOp .Not a pos) (Zan tA):=by
 intro pins s σ H Q I h
 exact isTrue_not (ha pins s σ H (fun c H1=>Q (!c) H1) I h)
noncomputable def Hx (ta tb:TE):TE:=fun σ H Q=>ta σ H fun x H1=>∃ c,x=.bl c/\if c=true then tb σ H1 Q else Q (.bl false) H1
noncomputable def Oj (ta tb:TE):TE:=fun σ H Q=>ta σ H fun x H1=>∃ c,x=.bl c/\if c=true then Q (.bl true) H1 else tb σ H1 Q
noncomputable def Mz (ta:TE):TE:=fun σ H Q=>ta σ H fun x H1=>∃ c,x=.bl c/\Q (.bl (!c)) H1
theorem Zkh {op}{t:TE}(h:PE X a t):PE X (.BoolOp op [a] pos) t:=fun pins s σ H Q I hw=>BoolOp_one (h pins s σ H Q I hw)
theorem Zrb (ha:PE X a ta)(hb:PE X (.BoolOp .And (b::rest) pos) tb):PE X (.BoolOp .And (a::b::rest) pos) (Hx ta tb):=by
 intro pins s σ H Q I h
 refine BoolOp_and (Ah (ha pins s σ H _ I h) fun v s1 zq=>?_)
 obtain ⟨x,H1,I1,r1,q1⟩:=zq
 obtain ⟨c,rfl,q1⟩:=q1
 cases r1
 refine Q1 ?_
 cases c with
 | true=>exact hb pins s1 σ H1 Q I1 q1
 | false=>exact ⟨.bl false,H1,I1,rfl,q1⟩
theorem Znu (ha:PE X a ta)(hb:PE X (.BoolOp .Or (b::rest) pos) tb):PE X (.BoolOp .Or (a::b::rest) pos) (Oj ta tb):=by
 intro pins s σ H Q I h
 refine BoolOp_or (Ah (ha pins s σ H _ I h) fun v s1 zq=>?_)
 obtain ⟨x,H1,I1,r1,q1⟩:=zq
 obtain ⟨c,rfl,q1⟩:=q1
 cases r1
 refine Q1 ?_
 cases c with
 | false=>exact hb pins s1 σ H1 Q I1 q1
 | true=>exact ⟨.bl true,H1,I1,rfl,q1⟩
theorem Zn3 (ha:PE X a ta):PE X (.UnaryOp .Not a pos) (Mz ta):=by
 intro pins s σ H Q I h
 refine UnaryOp_ (Ah (ha pins s σ H _ I h) fun v s1 zq=>?_)
 obtain ⟨x,H1,I1,r1,q1⟩:=zq
 obtain ⟨c,rfl,q1⟩:=q1
 cases r1
 exact not_of (Q1 ⟨.bl (!c),H1,I1,rfl,q1⟩)
end
noncomputable def SqL (K:Om)(H:Hp)(a:Addr)(xs:List V):Prop :=
 Rd H a (.lst xs) \/
  ∃(o:Obj)(its:Array Value)(n:Nat),K.lookup a=some o/\o.cls=.type "list" /\ o.dict=none/\o.data=.seq its n/\its.size<=sizeLine/\Vals xs its.toList
noncomputable def SqT (K:Om)(H:Hp)(a:Addr)(xs:List V):Prop :=
 Rd H a (.tup xs) \/
  ∃(o:Obj)(its:Array Value)(n:Nat),K.lookup a=some o/\o.cls=.type "tuple" /\ o.data=.seq its n/\its.size<=sizeLine/\Vals xs its.toList
noncomputable def K6:Value->Option V
 | .none=>some .non
 | .bool b=>some (.bl b)
 | .int i _=>some (.int i)
 | .str x _=>some (.str x)
 | .bytes b _=>some (.byt b)
 | .float b _=>some (.flt b)
 | .ref a=>some (.ref a)
 | .type n=>some (.ty n)
 | _=>none
theorem RelV.abs {x:V}{u:Value}(r:RelV x u):K6 u=some x:=by
 cases x with
 | non=>cases r;rfl
 | bl _=>cases r;rfl
 | int _=>obtain ⟨t,rfl⟩:=r;rfl
 | str _=>obtain ⟨t,rfl⟩:=r;rfl
 | byt _=>obtain ⟨t,rfl⟩:=r;rfl
 | flt _=>obtain ⟨t,rfl⟩:=r;rfl
 | ref _=>cases r;rfl
 | ty _=>cases r;rfl
theorem RelV.inj {x y:V}{u:Value}(r:RelV x u)(q:RelV y u):x=y:=Ox (r.abs.symm.trans q.abs)
theorem Vals.inj:∀{xs ys:List V}{us:List Value},Vals xs us->Vals ys us->xs=ys
 | _,_,_,.nil,.nil=>rfl
 | _,_,_,.cons r t,.cons r' t'=>by rw [r.inj r',Vals.inj t t']
section
variable {X:Cx}{pins:List (Addr×Obj)}{σ:St}{H:Hp}{s:Shared}{a:Addr}{xs ys:List V}
theorem SqL.of {K:Om}(h:H a=some (.lst xs)):SqL K H a xs:=.inl (.inl h)
theorem SqT.of {K:Om}(h:H a=some (.tup xs)):SqT K H a xs:=.inl (.inl h)
theorem Inv.list (I:Inv X pins σ H s)(h:SqL X.K H a xs):∃ its:List Value,Vals xs its/\PlainL s.heap a its.toArray/\xs.length<=sizeLine:=by
 rcases h with h | ⟨o,its,n,hk,hc,hd,hs,hz,r⟩
 ·obtain ⟨z,its,n,r,e⟩:=h.ok I.hok
  exact ⟨its,r,⟨_,n,e,rfl,rfl,rfl⟩,z⟩
 ·refine ⟨its.toList,r,⟨o,n,I.kIn a o hk,hc,hd,by simpa using hs⟩,?_⟩
  have e:=r.length
  simp only [Sj] at e
  omega
theorem Inv.tuple (I:Inv X pins σ H s)(h:SqT X.K H a xs):∃ its:List Value,Vals xs its/\IsTup s.heap a its.toArray/\xs.length<=sizeLine:=by
 rcases h with h | ⟨o,its,n,hk,hc,hs,hz,r⟩
 ·obtain ⟨z,its,r,p⟩:=h.ok I.hok
  exact ⟨its,r,p,z⟩
 ·refine ⟨its.toList,r,⟨o,I.kIn a o hk,hc,n,by simpa using hs⟩,?_⟩
  have e:=r.length
  simp only [Sj] at e
  omega
theorem Inv.list_inj (I:Inv X pins σ H s)(h:SqL X.K H a xs)(h':SqL X.K H a ys):xs=ys:=by
 obtain ⟨its,r,⟨o,n,e,_,_,d⟩,_⟩:=I.list h
 obtain ⟨its',r',⟨o',n',e',_,_,d'⟩,_⟩:=I.list h'
 rw [e] at e';cases e'
 rw [d] at d'
 injection d' with d1 _
 have:its=its':=by simpa using congrArg Array.toList d1
 subst this
 exact r.inj r'
theorem Inv.tuple_inj (I:Inv X pins σ H s)(h:SqT X.K H a xs)(h':SqT X.K H a ys):xs=ys:=by
 obtain ⟨its,r,⟨o,e,_,n,d⟩,_⟩:=I.tuple h
 obtain ⟨its',r',⟨o',e',_,n',d'⟩,_⟩:=I.tuple h'
 rw [e] at e';cases e'
 rw [d] at d'
 injection d' with d1 _
 have:its=its':=by simpa using congrArg Array.toList d1
 subst this
 exact r.inj r'
end
noncomputable abbrev Cx.wish (X:Cx)(E:Value->Shared->Prop):Cx:={ X with xe:=E }
noncomputable abbrev Cx.nox (X:Cx):Cx:=X.wish fun _ _=>False
theorem Cx.Ok.wish {X:Cx}(ok:X.Ok)(E:Value->Shared->Prop):(X.wish E).Ok :=
 ⟨ok.mod,ok.kind,ok.glob,ok.blt,ok.above,ok.inj,ok.has,ok.cab,ok.hd,ok.frames,ok.stk,ok.exf,ok.bs,ok.bsz,ok.noex,ok.exfs,ok.funs,ok.frf⟩
theorem Cx.Ok.unwish {X:Cx}{E:Value->Shared->Prop}(ok:(X.wish E).Ok):X.Ok :=
 ⟨ok.mod,ok.kind,ok.glob,ok.blt,ok.above,ok.inj,ok.has,ok.cab,ok.hd,ok.frames,ok.stk,ok.exf,ok.bs,ok.bsz,ok.noex,ok.exfs,ok.funs,ok.frf⟩
section
variable {X:Cx}{pins:List (Addr×Obj)}{σ:St}{H:Hp}{s:Shared}{E:Value->Shared->Prop}
theorem Inv.wish (I:Inv X pins σ H s)(E:Value->Shared->Prop):Inv (X.wish E) pins σ H s:=⟨I.ok.wish E,I.os,I.bare,I.base,I.loc,I.cell,I.free,I.freeC,I.pin,I.hok,I.len⟩
theorem Inv.unwish (I:Inv (X.wish E) pins σ H s):Inv X pins σ H s:=⟨I.ok.unwish,I.os,I.bare,I.base,I.loc,I.cell,I.free,I.freeC,I.pin,I.hok,I.len⟩
theorem SP.unwish {D:Cr}{f:Flow}{s':Shared}(h:SP (X.wish E) pins D f s'):SP X pins D f s':=by
 cases f with
 | next=>obtain ⟨σ',H',I,q⟩:=h;exact ⟨σ',H',I.unwish,q⟩
 | brk=>obtain ⟨σ',H',I,q⟩:=h;exact ⟨σ',H',I.unwish,q⟩
 | cont=>obtain ⟨σ',H',I,q⟩:=h;exact ⟨σ',H',I.unwish,q⟩
 | ret u=>obtain ⟨v,σ',H',I,r,q⟩:=h;exact ⟨v,σ',H',I.unwish,r,q⟩
theorem PSs.nox {st:List Stmt}{t:TS}(h:PSs X.nox st t):PSs X st t:=fun pins s σ H D I hw =>
 Sd (h pins s σ H D (I.wish _) hw) (fun _ _ q=>q.unwish) fun _ _ z=>Qc z
end
section
variable {X:Cx}{st:Stmt}{rest:List Stmt}{t u:TS}{e:Expr}{te:TE}{pos:Pos}
noncomputable def Mu:TS:=fun D σ H=>D.nx σ H
noncomputable def N8 (t u:TS):TS:=fun D σ H=>t { D with nx:=u D } σ H
theorem Zq0:PSs X [] Mu:=fun _ _ σ H _ I h=>Uf ⟨σ,H,I,h⟩
theorem Zpx (h1:PS X st t)(h2:PSs X rest u):PSs X (st::rest) (N8 t u):=by
 intro pins s σ H D I h
 refine wpAny_execs_cons (Ah (h1 pins s σ H { D with nx:=u D } I h) fun f s1 q=>?_)
 cases f with
 | next =>
  obtain ⟨σ',H',I',q⟩:=q
  exact h2 pins s1 σ' H' D I' q
 | ret v=>exact q
 | brk=>exact q
 | cont=>exact q
theorem Zil (h1:PS X st t):PSs X [st] t:=by
 intro pins s σ H D I h
 refine wpAny_execs_cons (Ah (h1 pins s σ H D I h) fun f s1 q=>?_)
 cases f with
 | next=>exact Uf q
 | ret v=>exact q
 | brk=>exact q
 | cont=>exact q
theorem Inv.quiet {pins:List (Addr×Obj)}{σ:St}{H:Hp}{s:Shared}(I:Inv X pins σ H s):interactive X.env=false:=by simp [interactive,I.ok.kind]
noncomputable def Oi (te:TE):TS:=fun D σ H=>te σ H fun _ H1=>D.nx σ H1
theorem Zhr (he:PE X e te)(hs:swapsWith e none pos.line X.env=pure false:=by rfl):PS X (.Expr e pos) (Oi te):=by
 intro pins s σ H D I h
 exact wpAny_Expr_any (Ah (he pins s σ H _ I h) fun v s1 ⟨x,H1,I1,r1,q1⟩=>⟨σ,H1,I1,q1⟩) I.quiet hs
noncomputable def Lv (te:TE):TS:=fun D σ H=>te σ H D.rt
theorem Zqe (he:PE X e te):PS X (.Return (some e) pos) (Lv te):=by
 intro pins s σ H D I h
 exact wpAny_Return_some (Ah (he pins s σ H _ I h) fun v s1 ⟨x,H1,I1,r1,q1⟩=>⟨x,σ,H1,I1,r1,q1⟩)
noncomputable def Lr (c:TT)(t u:TS):TS:=fun D σ H=>c σ H fun b H1=>if b=true then t D σ H1 else u D σ H1
theorem Zg0 {c:Expr}{a b:List Stmt}{tc:TT}(hc:PT X c tc)(ha:PSs X a t)(hb:PSs X b u):PS X (.If c a b pos) (Lr tc t u):=by
 intro pins s σ H D I h
 refine wpAny_If (Ah (hc pins s σ H _ I h) fun d s1 zq=>?_)
 obtain ⟨H1,I1,q1⟩:=zq
 cases d with
 | true=>exact ha pins s1 σ H1 D I1 q1
 | false=>exact hb pins s1 σ H1 D I1 q1
end
noncomputable abbrev TG:=V->St->Hp->(St->Hp->Prop)->Prop
noncomputable abbrev Ci:=List V->St->Hp->(St->Hp->Prop)->Prop
noncomputable def PG (X:Cx)(target:Expr)(t:TG):Prop :=
 ∀(pins:List (Addr×Obj))(s:Shared)(σ:St)(H:Hp)(v:V)(u:Value)(Q:St->Hp->Prop),Inv X pins σ H s->RelV v u->t v σ H Q ->
  wpAny (model X.prog X.w) X.A (assign target X.env u) (fun _ s'=>∃ σ' H',Inv X pins σ' H' s'/\Q σ' H') X.xe s
noncomputable def PGs (X:Cx)(ts:List Expr)(t:Ci):Prop :=
 ∀(pins:List (Addr×Obj))(s:Shared)(σ:St)(H:Hp)(vs:List V)(us:List Value)(Q:St->Hp->Prop),Inv X pins σ H s->Vals vs us->t vs σ H Q ->
  wpAny (model X.prog X.w) X.A (assignInOrder ((assignEach ts X.env).map (·.2)) us) (fun _ s'=>∃ σ' H',Inv X pins σ' H' s'/\Q σ' H') X.xe s
noncomputable abbrev J8:=V->V->V->Hp->(Hp->Prop)->Prop
noncomputable def Za6 (X:Cx)(t:J8):Prop :=
 ∀(pins:List (Addr×Obj))(s:Shared)(σ:St)(H:Hp)(o i v:V)(ov iv u:Value)(Q:Hp->Prop),Inv X pins σ H s->RelV o ov->RelV i iv->RelV v u->t o i v H Q ->
  wpAny (model X.prog X.w) X.A (setItem ov iv u) (fun _ s'=>∃ H',Inv X pins σ H' s'/\Q H') X.xe s
section
variable {X:Cx}{pos:Pos}
noncomputable def Fm (i:Nat):TG:=fun v σ H Q=>Q (σ.set i (some v)) H
theorem Zj9 {i:Nat}{x:Str}(hN:X.N.Nodup)(hi:X.N[i]?=some x)(hx:Ev X.env.scope x)(hf:X.fn x=true\/X.env.scope.names.lookup x=some .local:=by first | exact .inl rfl | exact .inr rfl | assumption):PG X (.Name x pos) (Fm i):=by
 intro pins s σ H v u Q I r h
 exact wpAny_assign_Name (Zdg I hN hi hx r (fun s' I'=>⟨_,H,I',h⟩) hf)
noncomputable def Ms:Ci:=fun vs σ H Q=>vs=[]/\Q σ H
noncomputable def Zav (t:TG)(u:Ci):Ci:=fun vs σ H Q=>∃ v r,vs=v::r/\t v σ H fun σ' H'=>u r σ' H' Q
theorem Zi6:PGs X [] Ms:=by
 intro pins s σ H vs us Q I r h
 obtain ⟨e,h⟩:=h
 subst e
 cases r
 exact assignInOrder_nil ⟨σ,H,I,h⟩
theorem Zik {e:Expr}{es:List Expr}{t:TG}{u:Ci}(h1:PG X e t)(h2:PGs X es u)
  (hs:(assignEach (e::es) X.env).map (·.2)=assign e X.env::(assignEach es X.env).map (·.2):=by rfl):PGs X (e::es) (Zav t u):=by
 intro pins s σ H vs us Q I r h
 obtain ⟨v,vr,e1,h⟩:=h
 subst e1
 cases r with
 | cons r rr =>
  rw [hs]
  refine assignInOrder_cons (Ah (h1 pins s σ H _ _ _ I r h) fun _ s1 zq=>?_)
  obtain ⟨σ1,H1,I1,q1⟩:=zq
  exact h2 pins s1 σ1 H1 _ _ Q I1 rr q1
noncomputable def Ll (K:Om)(n:Nat)(t:Ci):TG:=fun v σ H Q=>∃ a xs,v=.ref a/\SqT K H a xs/\xs.length=n/\t xs σ H Q
theorem Zl9 {es:List Expr}{k:Nat}{t:Ci}{n:Nat}(hc:X.calm=true)(h:PGs X es t)
  (hn:(assignEach es X.env).length=n:=by rfl) (hst:(assignEach es X.env).findIdx? (·.1)=none:=by rfl):PG X (.Tuple es k pos) (Ll X.K n t):=by
 intro pins s σ H v u Q I r hw
 obtain ⟨a,xs,e1,hq,hl,hw⟩:=hw
 subst e1
 cases r
 obtain ⟨its,rv,ht,hz⟩:=I.tuple hq
 refine assign_Tuple_tuple (I.ok.hd hc) ht (by simp [hn,<- hl,rv.length]) hst fun h' hx=>?_
 have I1:Inv X pins σ H { s with heap:=h' }:=I.kept (t':=s.toks) fun b o e=>hx b o (O1 (Ow e)) e
 exact h pins _ σ H xs _ Q I1 (by simpa using rv) hw
noncomputable def My (to ti:TE)(t:J8):TG:=fun v σ H Q=>to σ H fun o H1=>ti σ H1 fun i H2=>t o i v H2 fun H3=>Q σ H3
theorem Zhi {o i:Expr}{to ti:TE}{t:J8}(ho:PE X o to)(hi:PE X i ti)(hs:Za6 X t)
  (ha:∀ v,assign (.Subscript o i pos) X.env v=(do
   let ov <- holding [v] (eval o X.env)
   let iv <- holding [v,ov] (eval i X.env)
   standAt pos
   holding [v,ov,iv] (setItem ov iv v)
   release [v,ov,iv] []):=by intro _;rfl):PG X (.Subscript o i pos) (My to ti t):=by
 intro pins s σ H v u Q I r h
 rw [ha]
 refine On (P0 (Ah (ho pins s σ H _ I h) fun ov s1 zq=>?_))
 obtain ⟨x,H1,I1,r1,q1⟩:=zq
 refine On (P0 (Ah (hi pins s1 σ H1 _ I1 q1) fun iv s2 zq=>?_))
 obtain ⟨y,H2,I2,r2,q2⟩:=zq
 refine On (Ut (On (P0 (Ah (hs pins s2 σ H2 x y v ov iv u _ I2 r1 r2 r q2) fun _ s3 zq=>?_))))
 obtain ⟨H3,I3,q3⟩:=zq
 exact wpAny_release ⟨σ,H3,I3,q3⟩
noncomputable def Fe (te:TE)(g:TG):TS:=fun D σ H=>te σ H fun x H1=>g x σ H1 D.nx
theorem Zm2 {tg e:Expr}{te:TE}{g:TG}(he:PE X e te)(hg:PG X tg g)(hs:swapsWithSole [tg] e pos.line X.env=pure false:=by rfl)(hw:swappedStores [tg] e X.env=pure none:=by rfl)
  (h1:(assignEach [tg] X.env).map (·.2)=[assign tg X.env]:=by rfl):PS X (.Assign [tg] e pos) (Fe te g):=by
 intro pins s σ H D I h
 refine wpAny_Assign_stores (Ah (he pins s σ H _ I h) fun v s1 zq=>?_) hs hw
 obtain ⟨x,H1,I1,r1,q1⟩:=zq
 rw [h1]
 exact Ah (hg pins s1 σ H1 x v _ I1 r1 q1) fun _ s2 q=>q
theorem Zl7 {i:Nat}{x:Str}{e:Expr}{te:TE}{pos':Pos}(hN:X.N.Nodup)(hi:X.N[i]?=some x)(hx:Ev X.env.scope x)(he:PE X e te)(hs:swapsWith e (some (.Name x pos')) pos.line X.env=pure false:=by rfl)(hf:X.fn x=true\/X.env.scope.names.lookup x=some .local:=by first | exact .inl rfl | exact .inr rfl | assumption) :
  PS X (.Assign [.Name x pos'] e pos) (Fe te (Fm i)):=by
 intro pins s σ H D I h
 refine wpAny_Assign_Name (Ah (he pins s σ H _ I h) fun v s1 zq=>?_) hs
 obtain ⟨y,H1,I1,r1,q1⟩:=zq
 exact Zdg I1 hN hi hx r1 (fun s2 I2=>⟨_,H1,I2,q1⟩) hf
end
section
variable {X:Cx}{pos:Pos}
noncomputable def Zgu (c:TT)(tb:TS):TS:=fun D σ H=>∃ W:Nat->St->Hp->Prop,(∃ m,W m σ H)/\∀ m σ H,W m σ H ->
 c σ H fun b H1=>if b=true then ∃ N:St->Hp->Prop,(∀ σ' H',N σ' H'->∃ m',m' < m/\W m' σ' H')/\tb { D with nx:=N,ct:=N,bk:=D.nx } σ H1 else D.nx σ H1
theorem Zmh {c:Expr}{body:List Stmt}{tc:TT}{tb:TS}(hp:PassesOwn (model X.prog X.w) X.A X.env X.xe)(hc:PT X c tc)(hb:PSs X body tb):PS X (.While c body [] pos) (Zgu tc tb):=by
 intro pins s σ H D I h
 obtain ⟨W,⟨m0,w0⟩,turn⟩:=h
 refine wpAny_While (codeAny_whileLoop (fun n s'=>∃ σ' H',Inv X pins σ' H' s'/\W n σ' H') ?_ m0 ⟨σ,H,I,w0⟩)
 rintro n s1 ⟨σ1,H1,I1,w1⟩
 refine Rn hp (Ah (hc pins s1 σ1 H1 _ I1 (turn n σ1 H1 w1)) fun b s2 zq=>?_)
 obtain ⟨H2,I2,q2⟩:=zq
 cases b with
 | true =>
  obtain ⟨N,hN,q2⟩:=q2
  rw [if_pos rfl]
  refine Rn hp (Ah (hb pins s2 σ1 H2 _ I2 q2) fun f s3 q3=>?_)
  cases f with
  | next =>
   obtain ⟨σ3,H3,I3,n3⟩:=q3
   obtain ⟨m',hm,w3⟩:=hN σ3 H3 n3
   exact ⟨m',hm,σ3,H3,I3,w3⟩
  | cont =>
   obtain ⟨σ3,H3,I3,n3⟩:=q3
   obtain ⟨m',hm,w3⟩:=hN σ3 H3 n3
   exact ⟨m',hm,σ3,H3,I3,w3⟩
  | brk=>exact q3
  | ret v=>exact q3
 | false =>
  rw [if_neg Oz]
  exact Uf ⟨σ1,H2,I2,q2⟩
end
structure It where
 go:Nat->Hp->Prop
 yld:Nat->Hp->V->Hp->Prop
 stop:Nat->Hp->Prop
noncomputable def FpOk (X:Cx)(pins:List (Addr×Obj))(H:Hp)(b:Addr):Prop :=
 H b=none/\b≠X.env.locals/\b ∉ X.fs/\(b∈X.ex\/X.s₀.heap.objs.size<=b)/\(∀ x c,X.env.cells.lookup x=some c->c≠b)/\∀ p∈X.pn++pins,p.1≠b
theorem Inv.fpOk {X:Cx}{pins:List (Addr×Obj)}{σ:St}{H H':Hp}{s:Shared}{b:Addr}(I:Inv X pins σ H s)(hb:s.heap.objs.size<=b)(hn:H' b=none):FpOk X pins H' b:=by
 refine ⟨hn,Qs (O9 I.lt hb),I.nofs hb,.inr (Pi I.sz hb),fun x c e z=>?_,fun p hp z=>?_⟩
 ·obtain ⟨v,q⟩:=I.cell x c e
  exact absurd (O9 q.lt (by rw [z];exact hb)) (Qk _)
 ·exact absurd (O9 (Ow (I.pin p hp).1) (by rw [z];exact hb)) (Qk _)
structure Ei (P:Program)(w:World)(K:Om)(tg:Expr)(J:It)(fp:List Addr)(it:Addr)(tn:Nat->Heap->Prop):Prop where
 mem:it∈fp
 obj:∀ i h,tn i h->∀ b∈fp,∃ o,h.get? b=some o/\∀ v,o.data≠.cell v
 keep:∀ i h h',tn i h->(∀ b∈fp,∀ o,h.get? b=some o->h'.get? b=some o)->tn i h'
 item:∀(X:Cx),X.prog=P->X.w=w->X.K=K->X.calm=true->∀(i:Nat)(pins:List (Addr×Obj))(s:Shared)(σ:St)(H:Hp)(E:Value->Shared->Prop),Inv X pins σ H s->(∀ b∈fp,FpOk X pins H b)->tn i s.heap->J.go i H ->
  wpAny (model P w) X.A (pyNext (.ref it)) (fun r s1=>∃ u,r=some u /\
   wpAny (model P w) X.A (letOwnedTupleGo tg (.ref it) u) (fun _ s2=>∃ x H',Inv X pins σ H' s2/\RelV x u/\J.yld i H x H'/\tn (i+1) s2.heap/\∀ b∈fp,H' b=none) E s1) E s
 done:∀(X:Cx),X.prog=P->X.w=w->X.K=K->X.calm=true->∀(i:Nat)(pins:List (Addr×Obj))(s:Shared)(σ:St)(H:Hp)(E:Value->Shared->Prop),Inv X pins σ H s->(∀ b∈fp,FpOk X pins H b)->tn i s.heap->J.stop i H ->
  wpAny (model P w) X.A (pyNext (.ref it)) (fun r s1=>r=none/\Inv X pins σ H s1) E s
 self:∀(A:Around)(i:Nat)(s:Shared)(Q:Value->Shared->Prop)(E:Value->Shared->Prop),tn i s.heap->Q (.ref it) s->wpAny (model P w) A (pyIter (.ref it)) Q E s
noncomputable abbrev TI:=St->Hp->(It->Hp->Prop)->Prop
noncomputable def PIE (X:Cx)(pins:List (Addr×Obj))(σ:St)(tg:Expr)(R:It->Hp->Prop)(itv:Value)(s2:Shared):Prop :=
 ∃(it:Addr)(fp:List Addr)(tn:Nat->Heap->Prop)(J:It)(H':Hp),itv=.ref it/\Inv X pins σ H' s2/\Ei X.prog X.w X.K tg J fp it tn/\tn 0 s2.heap/\(∀ b∈fp,FpOk X pins H' b)/\R J H'
noncomputable def PI (X:Cx)(tg iter:Expr)(wi:TI):Prop :=
 ∀(pins:List (Addr×Obj))(s:Shared)(σ:St)(H:Hp)(R:It->Hp->Prop),Inv X pins σ H s->wi σ H R ->
  wpAny (model X.prog X.w) X.A (eval iter X.env) (fun v s1=>wpAny (model X.prog X.w) X.A (pyIter v) (PIE X pins σ tg R) X.xe s1) X.xe s
theorem G5 {M:Model}{A:Around}{E:Value->Shared->Prop}{s:Shared}{tg:Expr}{it:Addr}{u:Value}{o:Obj}{n:String}{vs:Array Value}{Q:Unit->Shared->Prop}(ho:s.heap.get? it=some o)(hc:o.cls=.type n)(hd:o.data=.fields vs)
  (hn:["enumerate", "zip", "dict_itemiterator", "dict_reverseitemiterator", "odict_iterator", "itertools.zip_longest", "itertools.pairwise"].contains n=false) (hQ:Q () s):wpAny M A (letOwnedTupleGo tg (.ref it) u) Q E s:=by
 unfold letOwnedTupleGo
 cases tg <;> first
  | exact Oq hQ
  | (cases u <;> first
    | exact Oq hQ
    | (refine On (wpAny_load ho ?_)
       rw [hc,hd]
       show wpAny M A (if (["enumerate", "zip", "dict_itemiterator", "dict_reverseitemiterator", "odict_iterator", "itertools.zip_longest", "itertools.pairwise"].contains n && vs[0]? == some (rawInt _))=true then _ else _) Q E s
       rw [if_neg (by intro h;rw [hn,Pf] at h;cases h)]
       exact Oq hQ))
noncomputable def F9 (K:Om)(a:Addr):It :=
 ⟨fun i H=>∃ xs x,SqL K H a xs/\xs[i]?=some x,fun i H x H'=>H'=H/\∀ xs,SqL K H a xs->xs[i]?=some x,fun i H=>∃ xs,SqL K H a xs/\xs.length<=i⟩
noncomputable def Ge (K:Om)(a:Addr):It :=
 ⟨fun i H=>∃ xs x,SqT K H a xs/\xs[i]?=some x,fun i H x H'=>H'=H/\∀ xs,SqT K H a xs->xs[i]?=some x,fun i H=>∃ xs,SqT K H a xs/\xs.length<=i⟩
noncomputable def Fh (lo:Int)(n:Nat):It:=⟨fun i _=>i < n,fun i H x H'=>H'=H/\x=.int (lo+i),fun i _=>n<=i⟩
theorem Zra {P:Program}{w:World}{K:Om}{tg:Expr}(a it:Addr):Ei P w K tg (F9 K a) [it] it (fun i h=>h.IsListIter it a i) where
 mem:=by simp
 obj:=fun i h st b hb=>by
  have e:b=it:=by simpa using hb
  subst e
  obtain ⟨o,e,c,d⟩:=st
  exact ⟨o,e,fun v z=>by rw [d] at z;cases z⟩
 keep:=fun i h h' st k=>st.at fun o e=>k it (by simp) o e
 item:=by
  intro X hP hw hK hc i pins s σ H E I hf st hg
  subst hP hw hK
  obtain ⟨xs,x,hq,hx⟩:=hg
  obtain ⟨its,rv,p,hz⟩:=I.list hq
  obtain ⟨u,hu,ru⟩:=rv.get hx
  obtain ⟨f0,f1,f2,f3,f4,f5⟩:=hf it (by simp)
  refine wpAny_pyNext_list_item st p.isList (x:=u) (by simpa using hu) fun h' st' sb=>?_
  have I1:Inv X pins σ H { s with heap:=h' }:=I.turned (t':=s.toks) (fun b o hb e=>(sb.2 b hb).trans e) f0 f1 f3 f4 f5
  obtain ⟨o,e,c,d⟩:=id st'
  exact ⟨u,rfl,G5 (s:={ s with heap:=h' }) e c d (by decide) ⟨x,H,I1,ru,⟨rfl,fun ys hy=>by rw [I.list_inj hy hq];exact hx⟩,st',fun b hb=>(hf b hb).1⟩⟩
 done:=by
  intro X hP hw hK hc i pins s σ H E I hf st hg
  subst hP hw hK
  obtain ⟨xs,hq,hx⟩:=hg
  obtain ⟨its,rv,p,hz⟩:=I.list hq
  obtain ⟨f0,f1,f2,f3,f4,f5⟩:=hf it (by simp)
  have hl:=rv.length
  exact wpAny_pyNext_list_end (I.ok.hd hc) st p.isList (by simp;omega) fun h' eb=>⟨rfl,I.turned (t':=s.toks) (fun b o hb e=>eb b o hb e) f0 f1 f3 f4 f5⟩
 self:=fun _ _ _ _ _ st h=>wpAny_pyIter_listiter st h
theorem Zpg {P:Program}{w:World}{K:Om}{tg:Expr}(a it:Addr):Ei P w K tg (Ge K a) [it] it (fun i h=>h.IsTupleIter it a i) where
 mem:=by simp
 obj:=fun i h st b hb=>by
  have e:b=it:=by simpa using hb
  subst e
  obtain ⟨o,e,c,d⟩:=st
  exact ⟨o,e,fun v z=>by rw [d] at z;cases z⟩
 keep:=fun i h h' st k=>st.at fun o e=>k it (by simp) o e
 item:=by
  intro X hP hw hK hc i pins s σ H E I hf st hg
  subst hP hw hK
  obtain ⟨xs,x,hq,hx⟩:=hg
  obtain ⟨its,rv,p,hz⟩:=I.tuple hq
  obtain ⟨u,hu,ru⟩:=rv.get hx
  obtain ⟨f0,f1,f2,f3,f4,f5⟩:=hf it (by simp)
  refine wpAny_pyNext_tuple_item st (show s.heap.IsTuple a its.toArray from p) (x:=u) (by simpa using hu) fun h' st' sb=>?_
  have I1:Inv X pins σ H { s with heap:=h' }:=I.turned (t':=s.toks) (fun b o hb e=>(sb.2 b hb).trans e) f0 f1 f3 f4 f5
  obtain ⟨o,e,c,d⟩:=id st'
  exact ⟨u,rfl,G5 (s:={ s with heap:=h' }) e c d (by decide) ⟨x,H,I1,ru,⟨rfl,fun ys hy=>by rw [I.tuple_inj hy hq];exact hx⟩,st',fun b hb=>(hf b hb).1⟩⟩
 done:=by
  intro X hP hw hK hc i pins s σ H E I hf st hg
  subst hP hw hK
  obtain ⟨xs,hq,hx⟩:=hg
  obtain ⟨its,rv,p,hz⟩:=I.tuple hq
  obtain ⟨f0,f1,f2,f3,f4,f5⟩:=hf it (by simp)
  have hl:=rv.length
  exact wpAny_pyNext_tuple_end (I.ok.hd hc) st (show s.heap.IsTuple a its.toArray from p) (by simp;omega) fun h' eb=>⟨rfl,I.turned (t':=s.toks) (fun b o hb e=>eb b o hb e) f0 f1 f3 f4 f5⟩
 self:=fun _ _ _ _ _ st h=>wpAny_pyIter_tupleiter st h
theorem Zg8 {P:Program}{w:World}{K:Om}{tg:Expr}(it:Addr)(lo:Int)(n:Nat):Ei P w K tg (Fh lo n) [it] it (fun i h=>IsRangeIter h it (lo+(i:Nat) * 1) ((n:Int) - (i:Nat)) 1) where
 mem:=by simp
 obj:=fun i h st b hb=>by
  have e:b=it:=by simpa using hb
  subst e
  exact ⟨_,st,fun v z=>by
   have z':Data.fields _=Data.cell v:=z
   cases z'⟩
 keep:=fun i h h' st k=>k it (by simp) _ st
 item:=by
  intro X hP hw hK hc i pins s σ H E I hf st hg
  subst hP hw hK
  obtain ⟨f0,f1,f2,f3,f4,f5⟩:=hf it (by simp)
  have W:=Walks.range (prog:=X.prog) (w:=X.w) (I.ok.hd hc) it lo 1 n
  refine W.item i s _ _ hg st fun v h' tk hv st' kk=>?_
  obtain ⟨t,rfl⟩:=hv
  have I1:Inv X pins σ H { s with heap:=h',toks:=tk }:=I.turned (fun b o hb e=>kk b o (by simpa using hb) e) f0 f1 f3 f4 f5
  refine ⟨_,rfl,G5 (s:={ s with heap:=h',toks:=tk }) (n := "range_iterator") st' rfl rfl (by decide) ⟨.int (lo+i),H,I1,⟨t,?_⟩,⟨rfl,rfl⟩,st',fun b hb=>(hf b hb).1⟩⟩
  rw [Int.mul_one]
 done:=by
  intro X hP hw hK hc i pins s σ H E I hf st hg
  subst hP hw hK
  obtain ⟨f0,f1,f2,f3,f4,f5⟩:=hf it (by simp)
  exact wpAny_pyNext_range_end (I.ok.hd hc) st (by have:n<=i:=hg;omega) fun h' eb=>⟨rfl,I.turned (t':=s.toks) (fun b o hb e=>eb b o hb e) f0 f1 f3 f4 f5⟩
 self:=fun _ _ _ _ _ st h=>wpAny_pyIter_rangeiter st h
section
variable {X:Cx}{tg:Expr}
theorem Zo8 {pins:List (Addr×Obj)}{σ:St}{H:Hp}{s:Shared}{R:It->Hp->Prop}{E:Value->Shared->Prop}{lo hi:Int}{t u v:Tok}{tk:Nat}(I:Inv X pins σ H s)(h1:-(2 ^ 62)<=lo)(h2:lo < 2 ^ 62)(h3:-(2 ^ 62)<=hi)(h4:hi < 2 ^ 62)
  (q:R (Fh lo (hi - lo).toNat) H):wpAny (model X.prog X.w) X.A (pyIter (.ref s.heap.objs.size)) (PIE X pins σ tg R) E { s with heap:=s.heap.push { cls:=.type "range",data:=.fields #[.int lo t,.int hi u,.int 1 v] },toks:=tk }:=by
 refine wpAny_pyIter_range (IsRange.new ..) (small_one h1 h2 h3 h4) ?_
 have I1:Inv X pins σ H { s with heap:=s.heap.push { cls:=.type "range",data:=.fields #[.int lo t,.int hi u,.int 1 v] },toks:=tk }:=I.kept fun b o e=>Ou _ e
 refine ⟨(s.heap.push { cls:=.type "range",data:=.fields #[.int lo t,.int hi u,.int 1 v] }).objs.size,[(s.heap.push { cls:=.type "range",data:=.fields #[.int lo t,.int hi u,.int 1 v] }).objs.size],_,_,H,rfl,
  I1.kept (t':=tk) fun b o e=>Ou _ e,Zg8 _ lo (hi - lo).toNat,?_,fun b hb=>?_,q⟩
 ·have e1:lo+((0:Nat):Int) * 1=lo:=by simp
  have e2:(((hi - lo).toNat:Nat):Int) - ((0:Nat):Int)=Tp lo hi 1:=by rw [rangeSize_one];split <;> omega
  show IsRangeIter _ _ (lo+((0:Nat):Int) * 1) ((((hi - lo).toNat:Nat):Int) - ((0:Nat):Int)) 1
  rw [e1,e2]
  exact O4 _ rfl
 ·have e:b=(s.heap.push { cls:=.type "range",data:=.fields #[.int lo t,.int hi u,.int 1 v] }).objs.size:=by simpa using hb
  subst e
  exact I1.fpOk (Os _) (I1.hok.fresh (Os _))
noncomputable def Mq (ta:TA):TI:=fun σ H R=>ta σ H fun vs H1=>∃ j:Int,vs=[.int j]/\-(2 ^ 62)<=j/\j < 2 ^ 62/\R (Fh 0 j.toNat) H1
theorem Zid {a:Expr}{ta:TA}{p pos:Pos}(hg:Gl X "range")(hm:X.mg "range" = none)(ha:PA X [a] ta)(hs:starEach [a] X.env=[(false,eval a X.env)]:=by rfl):PI X tg (.Call (.Name "range" p) [a] [] pos) (Mq ta):=by
 intro pins s σ H R I h
 refine Call_ (Dx I hg hm boot_range (Q3 (Ah (ha pos pins s σ H _ I h) fun us s1 zq=>?_) hs rfl))
 obtain ⟨vs,H1,I1,r1,q1⟩:=zq
 obtain ⟨j,e,q1,q2,q⟩:=q1
 subst e
 cases r1 with
 | cons r rr =>
  cases rr
  obtain ⟨t,rfl⟩:=r
  exact call_range_1 (Zo8 I1 (by omega) (by omega) q1 q2 (by simpa using q))
noncomputable def Oa (wi:TI)(g:TG)(tb:TS):TS:=fun D σ H=>wi σ H fun J H1=>∃ W:Nat->Nat->St->Hp->Prop,(∃ m,W 0 m σ H1)/\∀ i m σ H,W i m σ H ->
 (J.stop i H/\D.nx σ H)\/(J.go i H/\∃ N:St->Hp->Prop,(∀ σ' H',N σ' H'->∃ m',m' < m/\W (i+1) m' σ' H')/\∀ x H',J.yld i H x H'->g x σ H' fun σ2 H2=>tb { D with nx:=N,ct:=N,bk:=D.nx } σ2 H2)
noncomputable def Jk (fp:List Addr)(h:Heap):List (Addr×Obj):=fp.filterMap fun b=>(h.get? b).map fun o=>(b,o)
theorem Lj {fp:List Addr}{h:Heap}{b:Addr}{o:Obj}(hb:b∈fp)(e:h.get? b=some o):(b,o)∈Jk fp h:=Vl.mpr ⟨b,hb,by rw [e];rfl⟩
theorem Znv {fp:List Addr}{h:Heap}{p:Addr×Obj}(hp:p∈Jk fp h):p.1∈fp/\h.get? p.1=some p.2:=by
 obtain ⟨b,hb,e⟩:=Vl.mp hp
 cases q:h.get? b with
 | none=>rw [q] at e;cases e
 | some o =>
  rw [q] at e
  have e':(b,o)=p:=Ox e
  subst e'
  exact ⟨hb,q⟩
theorem Inv.pinned {pins:List (Addr×Obj)}{σ:St}{H:Hp}{s:Shared}{fp:List Addr}(I:Inv X pins σ H s)(hf:∀ b∈fp,FpOk X pins H b)(ho:∀ b∈fp,∃ o,s.heap.get? b=some o/\∀ v,o.data≠.cell v):Inv X (pins++Jk fp s.heap) σ H s :=
 I.pins_of fun p hp=>(P9.mp hp).elim (fun z=>I.pin p (Qn _ z)) fun z=>by
  obtain ⟨hb,e⟩:=Znv z
  obtain ⟨f0,f1,f2,_⟩:=hf p.1 hb
  obtain ⟨o,e',d⟩:=ho p.1 hb
  rw [e] at e';cases e'
  exact ⟨e,f0,f1,f2,d⟩
theorem Inv.unpinned {pins pl:List (Addr×Obj)}{σ:St}{H:Hp}{s:Shared}(I:Inv X (pins++pl) σ H s):Inv X pins σ H s:=I.pins_of fun p hp=>I.pin p (Qn _ (Si _ hp))
theorem Zps {iter:Expr}{body:List Stmt}{wi:TI}{g:TG}{tb:TS}{pos:Pos}(hp:PassesOwn (model X.prog X.w) X.A X.env X.xe)(hc:X.calm=true)(hi:PI X tg iter wi)(hg:PG X tg g)(hb:PSs X body tb)
  (hs:∀ x,foldedSetIterable iter X.env x=pure x:=by intro _;rfl):PS X (.For tg iter body [] pos) (Oa wi g tb):=by
 intro pins s σ H D I h
 refine wpAny_For (Ah (hi pins s σ H _ I h) fun v s1 h1=>Ah h1 fun itv s2 h2=>?_) hs
 obtain ⟨it,fp,tn,J,H2,e,I2,T,st2,f2,W,⟨m0,w0⟩,turn⟩:=h2
 subst e
 have stat:∀{H':Hp},(∀ b∈fp,H' b=none)->∀ b∈fp,FpOk X pins H' b:=fun hn b hb=>⟨hn b hb,(f2 b hb).2⟩
 refine codeAny_forLoop_any (fun n s'=>∃ i σ' H',Inv X pins σ' H' s'/\tn i s'.heap/\(∀ b∈fp,H' b=none)/\W i n σ' H') ?_ m0 ⟨0,σ,H2,I2,st2,fun b hb=>(f2 b hb).1,w0⟩
 rintro n s3 ⟨i,σ3,H3,I3,st3,fr3,w3⟩
 rcases turn i n σ3 H3 w3 with ⟨stop,qn⟩ | ⟨go,N,hN,step⟩
 ·refine Rn hp (Ah (T.done X rfl rfl rfl hc i pins s3 σ3 H3 X.xe I3 (stat fr3) st3 stop) fun r s4 zq=>?_)
  obtain ⟨hr,I4⟩:=zq
  subst hr
  exact Uf ⟨σ3,H3,I4,qn⟩
 ·refine Rn hp (Ah (T.item X rfl rfl rfl hc i pins s3 σ3 H3 X.xe I3 (stat fr3) st3 go) fun r s4 zq=>?_)
  obtain ⟨u,hr,h4⟩:=zq
  subst hr
  refine Rn hp (Ah h4 fun _ s5 zq=>?_)
  obtain ⟨x,H5,I5,r5,y5,st5,fr5⟩:=zq
  have I5':=I5.pinned (stat fr5) (T.obj _ _ st5)
  refine Rn hp (Ah (hg _ s5 σ3 H5 x u _ I5' r5 (step x H5 y5)) fun _ s6 zq=>?_)
  obtain ⟨σ6,H6,I6,q6⟩:=zq
  refine Rn hp (Ah (hb _ s6 σ6 H6 _ I6 q6) fun f s7 q7=>?_)
  have again:∀{σ7:St}{H7:Hp},Inv X (pins++Jk fp s5.heap) σ7 H7 s7->N σ7 H7->∃ m,m < n/\∃ i σ' H',Inv X pins σ' H' s7/\tn i s7.heap/\(∀ b∈fp,H' b=none)/\W i m σ' H':=fun {σ7 H7} I7 n7=>by
   obtain ⟨m',hm,w7⟩:=hN σ7 H7 n7
   refine ⟨m',hm,i+1,σ7,H7,I7.unpinned,T.keep _ _ _ st5 fun b hb o e=>(I7.pin (b,o) (Qn _ (Qn _ (Lj hb e)))).1,fun b hb=>?_,w7⟩
   obtain ⟨o,e,d⟩:=T.obj _ _ st5 b hb
   exact (I7.pin (b,o) (Qn _ (Qn _ (Lj hb e)))).2.1
  cases f with
  | next=>obtain ⟨σ7,H7,I7,n7⟩:=q7;exact again I7 n7
  | cont=>obtain ⟨σ7,H7,I7,n7⟩:=q7;exact again I7 n7
  | brk=>obtain ⟨σ7,H7,I7,q7⟩:=q7;exact ⟨σ7,H7,I7.unpinned,q7⟩
  | ret v=>obtain ⟨x7,σ7,H7,I7,r7,q7⟩:=q7;exact ⟨x7,σ7,H7,I7.unpinned,r7,q7⟩
end
theorem Lo {K:Om}{a:Addr}{xs:List V}{g:TG}{tb:TS}{D:Cr}{σ:St}{H:Hp}(Pv:Nat->St->Hp->Prop)(h0:Pv 0 σ H)(hl:∀ i σ H,i<=xs.length->Pv i σ H->SqL K H a xs)
  (hs:∀ i x σ H,xs[i]?=some x->Pv i σ H->g x σ H fun σ2 H2=>tb { D with nx:=Pv (i+1),ct:=Pv (i+1),bk:=D.nx } σ2 H2) (hd:∀ σ H,Pv xs.length σ H->D.nx σ H) :
  ∃ W:Nat->Nat->St->Hp->Prop,(∃ m,W 0 m σ H)/\∀ i m σ H,W i m σ H ->
   ((F9 K a).stop i H/\D.nx σ H)\/((F9 K a).go i H/\∃ N:St->Hp->Prop,(∀ σ' H',N σ' H'->∃ m',m' < m/\W (i+1) m' σ' H')/\∀ x H',(F9 K a).yld i H x H'->g x σ H' fun σ2 H2=>tb { D with nx:=N,ct:=N,bk:=D.nx } σ2 H2):=by
 refine ⟨fun i m σ H=>m=xs.length - i/\i<=xs.length/\Pv i σ H,⟨xs.length,by simp,Pj _,h0⟩,?_⟩
 rintro i m σ H ⟨rfl,hi,p⟩
 have q:=hl i σ H hi p
 by_cases hlt:i < xs.length
 ·refine .inr ⟨⟨xs,xs[i],q,by simp [hlt]⟩,Pv (i+1),fun σ' H' p'=>⟨xs.length - (i+1),by omega,rfl,hlt,p'⟩,fun x H' y=>?_⟩
  obtain ⟨e,y⟩:=y
  subst e
  exact hs i x σ _ (y xs q) p
 ·have e:i=xs.length:=by omega
  subst e
  exact .inl ⟨⟨xs,q,Os _⟩,hd σ H p⟩
theorem Nc {K:Om}{a:Addr}{xs:List V}{g:TG}{tb:TS}{D:Cr}{σ:St}{H:Hp}(Pv:Nat->St->Hp->Prop)(h0:Pv 0 σ H)(hl:∀ i σ H,i<=xs.length->Pv i σ H->SqT K H a xs)
  (hs:∀ i x σ H,xs[i]?=some x->Pv i σ H->g x σ H fun σ2 H2=>tb { D with nx:=Pv (i+1),ct:=Pv (i+1),bk:=D.nx } σ2 H2) (hd:∀ σ H,Pv xs.length σ H->D.nx σ H) :
  ∃ W:Nat->Nat->St->Hp->Prop,(∃ m,W 0 m σ H)/\∀ i m σ H,W i m σ H ->
   ((Ge K a).stop i H/\D.nx σ H)\/((Ge K a).go i H/\∃ N:St->Hp->Prop,(∀ σ' H',N σ' H'->∃ m',m' < m/\W (i+1) m' σ' H')/\∀ x H',(Ge K a).yld i H x H'->g x σ H' fun σ2 H2=>tb { D with nx:=N,ct:=N,bk:=D.nx } σ2 H2):=by
 refine ⟨fun i m σ H=>m=xs.length - i/\i<=xs.length/\Pv i σ H,⟨xs.length,by simp,Pj _,h0⟩,?_⟩
 rintro i m σ H ⟨rfl,hi,p⟩
 have q:=hl i σ H hi p
 by_cases hlt:i < xs.length
 ·refine .inr ⟨⟨xs,xs[i],q,by simp [hlt]⟩,Pv (i+1),fun σ' H' p'=>⟨xs.length - (i+1),by omega,rfl,hlt,p'⟩,fun x H' y=>?_⟩
  obtain ⟨e,y⟩:=y
  subst e
  exact hs i x σ _ (y xs q) p
 ·have e:i=xs.length:=by omega
  subst e
  exact .inl ⟨⟨xs,q,Os _⟩,hd σ H p⟩
theorem Hb {lo:Int}{n:Nat}{g:TG}{tb:TS}{D:Cr}{σ:St}{H:Hp}(Pv:Nat->St->Hp->Prop)(h0:Pv 0 σ H)
  (hs:∀ i σ H,i < n->Pv i σ H->g (.int (lo+i)) σ H fun σ2 H2=>tb { D with nx:=Pv (i+1),ct:=Pv (i+1),bk:=D.nx } σ2 H2) (hd:∀ σ H,Pv n σ H->D.nx σ H) :
  ∃ W:Nat->Nat->St->Hp->Prop,(∃ m,W 0 m σ H)/\∀ i m σ H,W i m σ H ->
   ((Fh lo n).stop i H/\D.nx σ H)\/((Fh lo n).go i H/\∃ N:St->Hp->Prop,(∀ σ' H',N σ' H'->∃ m',m' < m/\W (i+1) m' σ' H')/\∀ x H',(Fh lo n).yld i H x H'->g x σ H' fun σ2 H2=>tb { D with nx:=N,ct:=N,bk:=D.nx } σ2 H2):=by
 refine ⟨fun i m σ H=>m=n - i/\i<=n/\Pv i σ H,⟨n,by simp,Pj _,h0⟩,?_⟩
 rintro i m σ H ⟨rfl,hi,p⟩
 by_cases hlt:i < n
 ·refine .inr ⟨hlt,Pv (i+1),fun σ' H' p'=>⟨n - (i+1),by omega,rfl,hlt,p'⟩,fun x H' y=>?_⟩
  obtain ⟨e,y⟩:=y
  subst e y
  exact hs i σ _ hlt p
 ·have e:i=n:=by omega
  subst e
  exact .inl ⟨Os _,hd σ H p⟩
noncomputable abbrev R2:=V->V->Hp->VK->Prop
noncomputable def OpR (X:Cx)(f:Value->Value->Sem Value)(r:R2):Prop :=
 ∀(pins:List (Addr×Obj))(s:Shared)(σ:St)(H:Hp)(x y:V)(v u:Value)(Q:VK),Inv X pins σ H s->RelV x v->RelV y u->r x y H Q ->
  wpAny (model X.prog X.w) X.A (f v u) (EP X pins σ Q) X.xe s
noncomputable def UnR (X:Cx)(f:Value->Sem Value)(r:V->Hp->VK->Prop):Prop :=
 ∀(pins:List (Addr×Obj))(s:Shared)(σ:St)(H:Hp)(x:V)(v:Value)(Q:VK),Inv X pins σ H s->RelV x v->r x H Q ->
  wpAny (model X.prog X.w) X.A (f v) (EP X pins σ Q) X.xe s
noncomputable def Cf (X:Cx)(f:Value)(r:List V->Hp->VK->Prop):Prop :=
 ∀(pins:List (Addr×Obj))(s:Shared)(σ:St)(H:Hp)(xs:List V)(us:List Value)(Q:VK),Inv X pins σ H s->Vals xs us->r xs H Q ->
  wpAny (model X.prog X.w) X.A (call f us) (EP X pins σ Q) X.xe s
noncomputable def TruR (X:Cx)(r:V->Hp->(Bool->Hp->Prop)->Prop):Prop :=
 ∀(pins:List (Addr×Obj))(s:Shared)(σ:St)(H:Hp)(x:V)(v:Value)(Q:Bool->Hp->Prop),Inv X pins σ H s->RelV x v->r x H Q ->
  wpAny (model X.prog X.w) X.A (truthy v) (TP X pins σ Q) X.xe s
noncomputable def Cw (r:R2)(ta tb:TE):TE:=fun σ H Q=>ta σ H fun x H1=>tb σ H1 fun y H2=>r x y H2 Q
noncomputable def tUn (r:V->Hp->VK->Prop)(ta:TE):TE:=fun σ H Q=>ta σ H fun x H1=>r x H1 Q
noncomputable def rI (C:Int->Int->Prop)(g:Int->Int->V):R2:=fun x y H Q=>∃ i j,x=.int i/\y=.int j/\C i j/\Q (g i j) H
noncomputable def Dq (g:Int->Int->V):R2:=fun x y H Q=>∃ i j,x=.int i/\y=.int j/\Q (g i j) H
noncomputable def rU (g:Int->V):V->Hp->VK->Prop:=fun x H Q=>∃ i,x=.int i/\Q (g i) H
section
variable {X:Cx}{a b c:Expr}{ta tb tc:TE}{pos:Pos}
theorem Mp (ha:PE X a ta)(hb:PE X b tb){pins:List (Addr×Obj)}{s:Shared}{σ:St}{H:Hp}{R:V->V->Hp->Prop}(I:Inv X pins σ H s)
  (h:ta σ H fun x H1=>tb σ H1 fun y H2=>R x y H2) {Q:Value->Shared->Prop} {f:Value->Value->Sem Value}
  (hf:∀ v u s2 x y H2,Inv X pins σ H2 s2->RelV x v->RelV y u->R x y H2->wpAny (model X.prog X.w) X.A (f v u) Q X.xe s2) :
  wpAny (model X.prog X.w) X.A (eval a X.env) (fun v s₁=>wpAny (model X.prog X.w) X.A (eval b X.env) (fun u s₂=>wpAny (model X.prog X.w) X.A (f v u) Q X.xe s₂) X.xe s₁) X.xe s:=by
 refine Ah (ha pins s σ H _ I h) fun v s1 zq=>?_
 obtain ⟨x,H1,I1,r1,q1⟩:=zq
 refine Ah (hb pins s1 σ H1 _ I1 q1) fun u s2 zq=>?_
 obtain ⟨y,H2,I2,r2,q2⟩:=zq
 exact hf v u s2 x y H2 I2 r1 r2 q2
theorem Zp8 {op:Operator}{r:R2}(ho:OpR X (binaryOp op) r)(ha:PE X a ta)(hb:PE X b tb):PE X (.BinOp a op b pos) (Cw r ta tb):=by
 intro pins s σ H Q I h
 exact wpAny_BinOp (Mp ha hb I h fun v u s2 x y H2 I2 rx ry q=>ho pins s2 σ H2 x y v u Q I2 rx ry q)
theorem Zqb {op:UnaryOp}{r:V->Hp->VK->Prop}(ho:UnR X (unaryOp op) r)(ha:PE X a ta):PE X (.UnaryOp op a pos) (tUn r ta):=by
 intro pins s σ H Q I h
 exact UnaryOp_ (Ah (ha pins s σ H _ I h) fun v s1 ⟨x,H1,I1,r1,q1⟩=>ho pins s1 σ H1 x v Q I1 r1 q1)
theorem opI {f:Value->Value->Sem Value}{C:Int->Int->Prop}{g:Int->Int->Int}
  (rule:∀(i j:Int)(t u:Tok)(s:Shared)(Q:Value->Shared->Prop)(E:Value->Shared->Prop),C i j->Q (.int (g i j) s.toks) { s with toks:=s.toks+1 }->wpAny (model X.prog X.w) X.A (f (.int i t) (.int j u)) Q E s) :
  OpR X f (rI C fun i j=>.int (g i j)):=by
 intro pins s σ H x y v u Q I rx ry h
 obtain ⟨i,j,rfl,rfl,hc,q⟩:=h
 obtain ⟨t,rfl⟩:=rx
 obtain ⟨t',rfl⟩:=ry
 exact rule i j t t' s _ _ hc ⟨.int (g i j),H,I.tok _,⟨_,rfl⟩,q⟩
theorem opI0 {f:Value->Value->Sem Value}{g:Int->Int->Int}
  (rule:∀(i j:Int)(t u:Tok)(s:Shared)(Q:Value->Shared->Prop)(E:Value->Shared->Prop),Q (.int (g i j) s.toks) { s with toks:=s.toks+1 }->wpAny (model X.prog X.w) X.A (f (.int i t) (.int j u)) Q E s) :
  OpR X f (Dq fun i j=>.int (g i j)):=by
 intro pins s σ H x y v u Q I rx ry h
 obtain ⟨i,j,rfl,rfl,q⟩:=h
 obtain ⟨t,rfl⟩:=rx
 obtain ⟨t',rfl⟩:=ry
 exact rule i j t t' s _ _ ⟨.int (g i j),H,I.tok _,⟨_,rfl⟩,q⟩
theorem Od {f:Value->Value->Sem Value}{g:Int->Int->Bool}
  (rule:∀(i j:Int)(t u:Tok)(s:Shared)(Q:Value->Shared->Prop)(E:Value->Shared->Prop),Q (.bool (g i j)) s->wpAny (model X.prog X.w) X.A (f (.int i t) (.int j u)) Q E s) :
  OpR X f (Dq fun i j=>.bl (g i j)):=by
 intro pins s σ H x y v u Q I rx ry h
 obtain ⟨i,j,rfl,rfl,q⟩:=h
 obtain ⟨t,rfl⟩:=rx
 obtain ⟨t',rfl⟩:=ry
 exact rule i j t t' s _ _ ⟨.bl (g i j),H,I,rfl,q⟩
noncomputable def CDiv (i j:Int):Prop:=0 < j/\j < 1073741824
noncomputable def CPow (i j:Int):Prop:=0<=j/\j<=1000000/\i.natAbs < 2 ^ 64
noncomputable def CMul (i j:Int):Prop:=(-(2 ^ 64) < i/\i < 2 ^ 64)\/(-(2 ^ 64) < j/\j < 2 ^ 64)
theorem CMul.ok {i j:Int}(h:CMul i j):IntMulOk i j:=by
 rcases h with ⟨h1,h2⟩ | ⟨h1,h2⟩
 ·exact .of_left (intBits_le_64 h1 h2)
 ·exact .of_right (intBits_le_64 h1 h2)
theorem op_add:OpR X (binaryOp .Add) (Dq fun i j=>.int (i+j)):=opI0 fun _ _ _ _ _ _ _ q=>add_int q
theorem K9:OpR X (binaryOp .Sub) (Dq fun i j=>.int (i - j)):=opI0 fun _ _ _ _ _ _ _ q=>sub_int q
theorem op_mul:OpR X (binaryOp .Mult) (rI CMul fun i j=>.int (i * j)):=opI fun _ _ _ _ _ _ _ hc q=>mul_int q hc.ok
theorem Dk:OpR X (binaryOp .FloorDiv) (rI CDiv fun i j=>.int (i / j)):=opI fun i j _ _ _ _ _ hc q=>by
 have h1:(0:Int) < j:=hc.1
 have h2:j < 1073741824:=hc.2
 exact floordiv_int (by omega) (by rw [Int.fdiv_eq_ediv_of_nonneg i (by omega)];exact q) (.inl (PyProof.noPylong_small (by omega)))
theorem A7:OpR X (binaryOp .Mod) (rI (fun _ j=>0 < j) fun i j=>.int (i % j)):=opI fun i j _ _ _ _ _ hc q=>by
 have h1:(0:Int) < j:=hc
 exact mod_int' (by omega) (by rw [Int.fmod_eq_emod_of_nonneg i (by omega)];exact q)
theorem M1:OpR X (binaryOp .Pow) (rI CPow fun i j=>.int (i ^ j.toNat)):=opI fun _ _ _ _ _ _ _ hc q=>pow_int_small hc.1 hc.2.1 hc.2.2 q
theorem unI {f:Value->Sem Value}{g:Int->Int}
  (rule:∀(i:Int)(t:Tok)(s:Shared)(Q:Value->Shared->Prop)(E:Value->Shared->Prop),Q (.int (g i) s.toks) { s with toks:=s.toks+1 }->wpAny (model X.prog X.w) X.A (f (.int i t)) Q E s) :
  UnR X f (rU fun i=>.int (g i)):=by
 intro pins s σ H x v Q I rx h
 obtain ⟨i,rfl,q⟩:=h
 obtain ⟨t,rfl⟩:=rx
 exact rule i t s _ _ ⟨.int (g i),H,I.tok _,⟨_,rfl⟩,q⟩
theorem Ia:UnR X (unaryOp .USub) (rU fun i=>.int (-i)):=unI fun _ _ _ _ _ q=>neg_int q
end
noncomputable def Fo:V->V->Bool
 | .non,.non=>true | .non,.int _=>true | .int _,.non=>true | .non,.bl _=>true | .bl _,.non=>true | .non,.str _=>true | .str _,.non=>true
 | .int _,.int _=>true | .bl _,.bl _=>true | .str _,.str _=>true | .byt _,.byt _=>true
 | .int _,.str _=>true | .str _,.int _=>true | .bl _,.str _=>true | .str _,.bl _=>true
 | _,_=>false
noncomputable def rEq:R2:=fun x y H Q=>Fo x y=true/\Q (.bl (decide (x=y))) H
noncomputable def rNe:R2:=fun x y H Q=>Fo x y=true/\Q (.bl (!decide (x=y))) H
theorem Zb8 {i j:Int}:decide (V.int i=V.int j)=(i == j):=by
 rw [Q4]
 simp
theorem Zdd {i j:Bool}:decide (V.bl i=V.bl j)=(i == j):=by
 rw [Q4]
 simp
theorem Dg {i j:Str}:decide (V.str i=V.str j)=(i == j):=by
 rw [Q4]
 simp
theorem Zdq {i j:Array UInt8}:decide (V.byt i=V.byt j)=(i.toList == j.toList):=by
 rw [Q4]
 cases i
 cases j
 simp
section
variable {X:Cx}{a b c:Expr}{ta tb tc:TE}{pos:Pos}
theorem A9 {pins:List (Addr×Obj)}{σ:St}{H:Hp}{s:Shared}{Q:VK}{k k':Bool}(I:Inv X pins σ H s)(q:Q (.bl k) H)(e:k=k'):EP X pins σ Q (.bool k') s:=by
 subst e
 exact ⟨.bl k,H,I,rfl,q⟩
theorem op_eq:OpR X (compareOp .Eq) rEq:=by
 intro pins s σ H x y v u Q I rx ry h
 obtain ⟨hs,q⟩:=h
 cases x with
 | non =>
  cases rx
  cases y with
  | non=>cases ry;exact PySem.EqNone.eq_none_none (A9 I q (by simp))
  | bl j=>cases ry;exact PySem.EqNone.eq_none_bool (A9 I q (by simp))
  | int j=>obtain ⟨t',rfl⟩:=ry;exact PySem.EqNone.eq_none_int (A9 I q (by simp))
  | str j=>obtain ⟨t',rfl⟩:=ry;exact PySem.EqNone.eq_none_str (A9 I q (by simp))
  | _=>exact absurd (show false=true from hs) Oz
 | bl i =>
  cases rx
  cases y with
  | non=>cases ry;exact PySem.EqNone.eq_bool_none (A9 I q (by simp))
  | bl j=>cases ry;exact eq_bool (A9 I q Zdd)
  | str j=>obtain ⟨t',rfl⟩:=ry;exact PySem.EqMixed.eq_bool_str (A9 I q (by simp))
  | _=>exact absurd (show false=true from hs) Oz
 | int i =>
  obtain ⟨t,rfl⟩:=rx
  cases y with
  | non=>cases ry;exact PySem.EqNone.eq_int_none (A9 I q (by simp))
  | int j=>obtain ⟨t',rfl⟩:=ry;exact eq_int (A9 I q Zb8)
  | str j=>obtain ⟨t',rfl⟩:=ry;exact PySem.EqMixed.eq_int_str (A9 I q (by simp))
  | _=>exact absurd (show false=true from hs) Oz
 | str i =>
  obtain ⟨t,rfl⟩:=rx
  cases y with
  | non=>cases ry;exact PySem.EqNone.eq_str_none (A9 I q (by simp))
  | bl j=>cases ry;exact PySem.EqMixed.eq_str_bool (A9 I q (by simp))
  | int j=>obtain ⟨t',rfl⟩:=ry;exact PySem.EqMixed.eq_str_int (A9 I q (by simp))
  | str j=>obtain ⟨t',rfl⟩:=ry;exact eq_str (A9 I q Dg)
  | _=>exact absurd (show false=true from hs) Oz
 | byt i =>
  obtain ⟨t,rfl⟩:=rx
  cases y with
  | byt j=>obtain ⟨t',rfl⟩:=ry;exact PySem.W.eq_bytes (A9 I q Zdq)
  | _=>exact absurd (show false=true from hs) Oz
 | _=>cases y <;> exact absurd (show false=true from hs) Oz
theorem op_ne:OpR X (compareOp .NotEq) rNe:=by
 intro pins s σ H x y v u Q I rx ry h
 obtain ⟨hs,q⟩:=h
 cases x with
 | non =>
  cases rx
  cases y with
  | non=>cases ry;exact PySem.EqNone.ne_none_none (A9 I q (by simp))
  | bl j=>cases ry;exact PySem.EqNone.ne_none_bool (A9 I q (by simp))
  | int j=>obtain ⟨t',rfl⟩:=ry;exact PySem.EqNone.ne_none_int (A9 I q (by simp))
  | str j=>obtain ⟨t',rfl⟩:=ry;exact PySem.EqNone.ne_none_str (A9 I q (by simp))
  | _=>exact absurd (show false=true from hs) Oz
 | bl i =>
  cases rx
  cases y with
  | non=>cases ry;exact PySem.EqNone.ne_bool_none (A9 I q (by simp))
  | bl j=>cases ry;exact ne_bool (A9 I q (congrArg not Zdd))
  | str j=>obtain ⟨t',rfl⟩:=ry;exact PySem.EqMixed.ne_bool_str (A9 I q (by simp))
  | _=>exact absurd (show false=true from hs) Oz
 | int i =>
  obtain ⟨t,rfl⟩:=rx
  cases y with
  | non=>cases ry;exact PySem.EqNone.ne_int_none (A9 I q (by simp))
  | int j=>obtain ⟨t',rfl⟩:=ry;exact ne_int (A9 I q (congrArg not Zb8))
  | str j=>obtain ⟨t',rfl⟩:=ry;exact PySem.EqMixed.ne_int_str (A9 I q (by simp))
  | _=>exact absurd (show false=true from hs) Oz
 | str i =>
  obtain ⟨t,rfl⟩:=rx
  cases y with
  | non=>cases ry;exact PySem.EqNone.ne_str_none (A9 I q (by simp))
  | bl j=>cases ry;exact PySem.EqMixed.ne_str_bool (A9 I q (by simp))
  | int j=>obtain ⟨t',rfl⟩:=ry;exact PySem.EqMixed.ne_str_int (A9 I q (by simp))
  | str j=>obtain ⟨t',rfl⟩:=ry;exact ne_str (A9 I q (congrArg not Dg))
  | _=>exact absurd (show false=true from hs) Oz
 | byt i =>
  obtain ⟨t,rfl⟩:=rx
  cases y with
  | byt j=>obtain ⟨t',rfl⟩:=ry;exact PySem.W.ne_bytes (A9 I q (congrArg not Zdq))
  | _=>exact absurd (show false=true from hs) Oz
 | _=>cases y <;> exact absurd (show false=true from hs) Oz
theorem op_lt:OpR X (compareOp .Lt) (Dq fun i j=>.bl (decide (i < j))):=Od fun _ _ _ _ _ _ _ q=>lt_int q
theorem op_le:OpR X (compareOp .LtE) (Dq fun i j=>.bl (decide (i<=j))):=Od fun _ _ _ _ _ _ _ q=>le_int q
theorem Go:OpR X (compareOp .Gt) (Dq fun i j=>.bl (decide (j < i))):=Od fun _ _ _ _ _ _ _ q=>gt_int q
theorem Zlt:OpR X (compareOp .Lt) (fun x y H Q=>∃ i j,x=.str i/\y=.str j/\Q (.bl (decide (i.cps.toList < j.cps.toList))) H):=by
 intro pins s σ H x y v u Q I rx ry h
 obtain ⟨i,j,rfl,rfl,q⟩:=h
 obtain ⟨t,rfl⟩:=rx
 obtain ⟨t',rfl⟩:=ry
 exact lt_str (A9 I q rfl)
theorem Zh9:OpR X (compareOp .In) (fun x y H Q=>∃ i j,x=.str i/\y=.str j/\Q (.bl (!(Builtin.Str.occurrences j i 0 j.length 1).isEmpty)) H):=by
 intro pins s σ H x y v u Q I rx ry h
 obtain ⟨i,j,rfl,rfl,q⟩:=h
 obtain ⟨t,rfl⟩:=rx
 obtain ⟨t',rfl⟩:=ry
 exact in_str (A9 I q rfl)
theorem Zm7:OpR X (compareOp .NotIn) (fun x y H Q=>∃ i j,x=.str i/\y=.str j/\Q (.bl (!(!(Builtin.Str.occurrences j i 0 j.length 1).isEmpty))) H):=by
 intro pins s σ H x y v u Q I rx ry h
 obtain ⟨i,j,rfl,rfl,q⟩:=h
 obtain ⟨t,rfl⟩:=rx
 obtain ⟨t',rfl⟩:=ry
 exact notIn_str (A9 I q rfl)
theorem OpR.or {f:Value->Value->Sem Value}{r r':R2}(h:OpR X f r)(h':OpR X f r'):OpR X f (fun x y H Q=>r x y H Q\/r' x y H Q):=by
 intro pins s σ H x y v u Q I rx ry q
 rcases q with q | q
 ·exact h pins s σ H x y v u Q I rx ry q
 ·exact h' pins s σ H x y v u Q I rx ry q
theorem Az (b:Expr){op:CmpOp}(h:op≠.In:=by decide)(h2:op≠.NotIn:=by decide):behindInMarks op b=false:=by
 have e1:(op == CmpOp.In)=false:=by cases op <;> first | rfl | exact absurd rfl h
 have e2:(op == CmpOp.NotIn)=false:=by cases op <;> first | rfl | exact absurd rfl h2
 cases b <;> simp [behindInMarks,e1,e2]
theorem Zqg {op:CmpOp}{r:R2}(ho:OpR X (compareOp op) r)(ha:PE X a ta)(hb:PE X b tb)(hm:behindInMarks op b=false):PE X (.Compare a [op] [b] pos) (Cw r ta tb):=by
 intro pins s σ H Q I h
 exact wpAny_Compare1 (Mp ha hb I h fun v u s2 x y H2 I2 rx ry q=>ho pins s2 σ H2 x y v u Q I2 rx ry q) hm
noncomputable def J3 (t:TE):TT:=fun σ H Q=>t σ H fun x H'=>∃ k,x=.bl k/\Q k H'
theorem Zj7 {op:CmpOp}{r:R2}(ho:OpR X (compareOp op) r)(ha:PE X a ta)(hb:PE X b tb)(hm:behindInMarks op b=false):PT X (.Compare a [op] [b] pos) (J3 (Cw r ta tb)):=by
 intro pins s σ H Q I h
 refine wpAny_isTrue_Compare1 (Ah (ha pins s σ H _ I h) fun v s1 ⟨x,H1,I1,r1,q1⟩=>Ah (hb pins s1 σ H1 _ I1 q1) fun u s2 ⟨y,H2,I2,r2,q2⟩ =>
  Ah (ho pins s2 σ H2 x y v u _ I2 r1 r2 q2) fun c s3 ⟨z,H3,I3,r3,k,e,q3⟩=>?_) hm
 subst e
 cases r3
 exact Q1 ⟨H3,I3,q3⟩
noncomputable def Jn (r r':R2)(ta tb tc:TE):TE:=fun σ H Q=>ta σ H fun x H1=>tb σ H1 fun y H2=>r x y H2 fun z H3=>∃ k,z=.bl k /\
 (if k=true then tc σ H3 fun w' H4=>r' y w' H4 Q else Q (.bl false) H3)
theorem Zkf {op op':CmpOp}{r r':R2}(ho:OpR X (compareOp op) r)(ho':OpR X (compareOp op') r')(ha:PE X a ta)(hb:PE X b tb)(hc:PE X c tc)
  (hm:lastMarks [op,op'] [b,c]=false:=by with_unfolding_all rfl):PE X (.Compare a [op,op'] [b,c] pos) (Jn r r' ta tb tc):=by
 intro pins s σ H Q I h
 refine Compare_chain (Ah (ha pins s σ H _ I h) fun v s1 ⟨x,H1,I1,r1,q1⟩=>chain_link (Ah (hb pins s1 σ H1 _ I1 q1) fun u s2 ⟨y,H2,I2,r2,q2⟩ =>
  Ah (ho pins s2 σ H2 x y v u _ I2 r1 r2 q2) fun d s3 ⟨z,H3,I3,r3,k,e,q3⟩=>?_)) hm
 subst e
 cases r3
 refine Q1 ?_
 cases k with
 | false=>exact ite_ff ⟨.bl false,H3,I3,rfl,q3⟩
 | true=>exact ite_tt (chain_last (Ah (hc pins s3 σ H3 _ I3 q3) fun w' s4 ⟨z',H4,I4,r4,q4⟩=>ho' pins s4 σ H4 y z' u w' Q I4 r2 r4 q4))
theorem Znf {op op':CmpOp}{r r':R2}(ho:OpR X (compareOp op) r)(ho':OpR X (compareOp op') r')(ha:PE X a ta)(hb:PE X b tb)(hc:PE X c tc)
  (hm:lastMarks [op,op'] [b,c]=false:=by with_unfolding_all rfl):PT X (.Compare a [op,op'] [b,c] pos) (J3 (Jn r r' ta tb tc)):=by
 intro pins s σ H Q I h
 refine isTrue_chain (Ah (ha pins s σ H _ I h) fun v s1 ⟨x,H1,I1,r1,q1⟩=>test_link (Ah (hb pins s1 σ H1 _ I1 q1) fun u s2 ⟨y,H2,I2,r2,q2⟩ =>
  Ah (ho pins s2 σ H2 x y v u _ I2 r1 r2 q2) fun d s3 ⟨z,H3,I3,r3,k,e,q3⟩=>?_)) hm
 subst e
 cases r3
 refine Q1 ?_
 cases k with
 | false =>
  obtain ⟨k',e',q'⟩:=q3
  cases e'
  exact ite_ff ⟨H3,I3,q'⟩
 | true =>
  refine ite_tt (test_last (Ah (hc pins s3 σ H3 _ I3 q3) fun w' s4 zq=>?_))
  obtain ⟨z',H4,I4,r4,q4⟩:=zq
  refine Ah (ho' pins s4 σ H4 y z' u w' _ I4 r2 r4 q4) fun d' s5 zq=>?_
  obtain ⟨z2,H5,I5,r5,k2,e2,q5⟩:=zq
  subst e2
  cases r5
  exact Q1 ⟨H5,I5,q5⟩
noncomputable def Ic (K:Om)(x:V)(H:Hp)(k:Bool):Prop :=
 match x with
 | .non=>k=false
 | .bl b=>k=b
 | .int i=>k=(i != 0)
 | .str y=>y.length<=sizeLine/\k=((y.length:Int) != 0)
 | .byt y=>y.size<=sizeLine/\k=((y.size:Int) != 0)
 | .ref p=>(∃ xs,SqL K H p xs/\k=!xs.isEmpty)\/(∃ xs,SqT K H p xs/\k=!xs.isEmpty)\/∃ kvs,H p=some (.dK kvs)/\k=!kvs.isEmpty
 | _=>False
theorem Zlx {κ:Type}{kvs:List (κ×V)}{vs:List (κ×Value)}(r:KV kvs vs):(!vs.isEmpty)=!kvs.isEmpty:=by
 cases r <;> rfl
theorem Zeu {xs:List V}{its:List Value}(r:Vals xs its):(!its.toArray.isEmpty)=!xs.isEmpty:=by
 cases r <;> simp
theorem Gz:(sizeLine:Nat) < 2 ^ 63:=by rw [U3];decide
theorem Zi5:TruR X (fun x H Q=>∃ k,Ic X.K x H k/\Q k H):=by
 intro pins s σ H x v Q I rx h
 obtain ⟨k,e,q⟩:=h
 have hl:=Gz
 have hs:sizeLine=16777216:=U3
 cases x with
 | non =>
  cases rx
  have e':k=false:=e
  subst e'
  exact truthy_none ⟨H,I,q⟩
 | bl b =>
  cases rx
  have e':k=b:=e
  subst e'
  exact Q1 ⟨H,I,q⟩
 | int i =>
  obtain ⟨t,rfl⟩:=rx
  have e':k=(i != 0):=e
  subst e'
  exact PySem.P.truthy_int ⟨H,I,q⟩
 | str y =>
  obtain ⟨t,rfl⟩:=rx
  obtain ⟨hy,e'⟩:y.length<=sizeLine/\k=((y.length:Int) != 0):=e
  subst e'
  exact PySem.P.truthy_str (by omega) ⟨H,I.tok _,q⟩
 | byt y =>
  obtain ⟨t,rfl⟩:=rx
  obtain ⟨hy,e'⟩:y.size<=sizeLine/\k=((y.size:Int) != 0):=e
  subst e'
  exact PySem.W.truthy_bytes (by omega) ⟨H,I.tok _,q⟩
 | ref p =>
  cases rx
  have e':(∃ xs,SqL X.K H p xs/\k=!xs.isEmpty)\/(∃ xs,SqT X.K H p xs/\k=!xs.isEmpty)\/∃ kvs,H p=some (.dK kvs)/\k=!kvs.isEmpty:=e
  rcases e' with ⟨xs,hx,e'⟩ | ⟨xs,hx,e'⟩ | ⟨kvs,hx,e'⟩
  ·subst e'
   obtain ⟨its,r,pl,hz⟩:=I.list hx
   have hlen:=r.length
   exact wpAny_truthy_list pl.isList (by simp only [Ot];omega) ⟨H,I.tok _,by rw [Zeu r];exact q⟩
  ·subst e'
   obtain ⟨its,r,pl,hz⟩:=I.tuple hx
   have hlen:=r.length
   exact truthy_tuple pl (by simp only [Ot];omega) ⟨H,I.tok _,by rw [Zeu r];exact q⟩
  ·subst e'
   obtain ⟨hz,hS,vs,r,m⟩:kvs.length<=sizeLine/\(p == sysModules)=false/\∃ vs,KV kvs vs/\s.heap.DictOf (C3 X.prog X.w) p vs:=I.hok p _ hx
   have hlen:kvs.length=vs.length:=Us r
   exact wpAny_truthy_dict hS m (by omega) ⟨H,I.tok _,by rw [Zlx r];exact q⟩
 | _=>exact (show False from e).elim
theorem Zpc (ha:PE X a ta)(he:∀ whole,isTrue a X.env whole=(do let v <- whole;standAt a.pos;holding [v] (truthy v))) :
  PT X a (fun σ H Q=>ta σ H fun x H'=>∃ k,Ic X.K x H' k/\Q k H'):=by
 intro pins s σ H Q I h
 exact isTrue_plain (Ah (ha pins s σ H _ I h) fun v s1 ⟨x,H1,I1,r1,q1⟩=>Zi5 pins s1 σ H1 x v Q I1 r1 q1) (he _)
theorem op_add_str:OpR X (binaryOp .Add) (fun x y H Q=>∃ i j,x=.str i/\y=.str j/\i.length+j.length<=sizeLine/\Q (.str (i++j)) H):=by
 intro pins s σ H x y v u Q I rx ry h
 obtain ⟨i,j,rfl,rfl,hz,q⟩:=h
 obtain ⟨t,rfl⟩:=rx
 obtain ⟨t',rfl⟩:=ry
 exact add_str (fun t' tk=>⟨.str (i++j),H,I.tok _,⟨_,rfl⟩,q⟩) hz
theorem Ls {x:V}{us:List Value}(r:Vals [x] us):∃ u,us=[u]/\RelV x u:=by
 cases r with
 | cons r1 r2=>cases r2;exact ⟨_,rfl,r1⟩
theorem Zjl:Cf X (.type "int") (fun xs H Q=>(∃ i,xs=[.int i]/\Q (.int i) H)\/∃ k,xs=[.bl k]/\Q (.int (if k then 1 else 0)) H):=by
 intro pins s σ H xs us Q I r h
 rcases h with ⟨i,rfl,q⟩ | ⟨k,rfl,q⟩
 ·obtain ⟨u,rfl,t,rfl⟩:=Ls r
  exact call_int_int ⟨.int i,H,I,⟨_,rfl⟩,q⟩
 ·obtain ⟨u,rfl,r1⟩:=Ls r
  cases r1
  exact call_int_bool ⟨.int (if k then 1 else 0),H,I.tok _,⟨_,rfl⟩,q⟩
noncomputable def LenV (K:Om)(x:V)(H:Hp)(n:Nat):Prop :=
 match x with
 | .str y=>y.length<=sizeLine/\n=y.length
 | .byt y=>y.size<=sizeLine/\n=y.size
 | .ref p=>(∃ xs,SqL K H p xs/\n=xs.length)\/∃ xs,SqT K H p xs/\n=xs.length
 | _=>False
theorem Zi4:Cf X (.builtin "len") (fun xs H Q=>∃ x n,xs=[x]/\LenV X.K x H n/\Q (.int n) H):=by
 intro pins s σ H xs us Q I r h
 obtain ⟨x,n,rfl,e,q⟩:=h
 obtain ⟨u,rfl,rx⟩:=Ls r
 have hl:=Gz
 have hs:sizeLine=16777216:=U3
 cases x with
 | str y =>
  obtain ⟨t,rfl⟩:=rx
  obtain ⟨hy,e'⟩:y.length<=sizeLine/\n=y.length:=e
  subst e'
  exact len_str (by omega) ⟨.int _,H,I.tok _,⟨_,rfl⟩,q⟩
 | byt y =>
  obtain ⟨t,rfl⟩:=rx
  obtain ⟨hy,e'⟩:y.size<=sizeLine/\n=y.size:=e
  subst e'
  exact PySem.W.len_bytes (by omega) ⟨.int _,H,I.tok _,⟨_,rfl⟩,q⟩
 | ref p =>
  cases rx
  have e':(∃ xs,SqL X.K H p xs/\n=xs.length)\/∃ xs,SqT X.K H p xs/\n=xs.length:=e
  rcases e' with ⟨xs,hx,e'⟩ | ⟨xs,hx,e'⟩
  ·subst e'
   obtain ⟨its,r',pl,hz⟩:=I.list hx
   have hlen:=r'.length
   exact Calls.call_len_list pl.isList (by simp only [Ot];omega) ⟨.int xs.length,H,I.tok _,⟨_,by simp only [Ot];rw [hlen]⟩,q⟩
  ·subst e'
   obtain ⟨its,r',pl,hz⟩:=I.tuple hx
   have hlen:=r'.length
   exact len_tuple pl (by simp only [Ot];omega) ⟨.int xs.length,H,I.tok _,⟨_,by simp only [Ot];rw [hlen]⟩,q⟩
 | _=>exact (show False from e).elim
end
structure ObjM (h:Heap)(x dx C:Addr)(mA:Str->Option Value):Prop where
 obj:h.get? x=some (Qj C dx)
 ns:h.Ns1 dx mA
 ne:dx≠x
theorem Zk5 {h:Heap}{dx:Addr}{mA:Str->Option Value}(n:h.Ns1 dx mA):∃ od,h.get? dx=some od/\∀ name,Up name od=some (mA name):=by
 obtain ⟨o,es,ep,ho,hd,hk,_,hm⟩:=n
 refine ⟨o,ho,fun name=>?_⟩
 have e:=hm name
 unfold nsFind findBy at e
 rw [<- Array.find?_toList] at e
 unfold Up
 rw [hd]
 dsimp only
 split
 ·rename_i y q
  rw [q] at e
  exact congrArg some e
 ·rename_i q
  rw [q] at e
  have a:es.toList.any (·.refKey)=false:=by
   rw [List.any_eq_false]
   intro y hy
   obtain ⟨z,t,hkey⟩:=hk y (Array.mem_toList_iff.mp hy)
   simp [DictEntry.refKey,hkey]
  have a':¬ es.toList.any (·.refKey)=true:=by rw [a];exact Oz
  rw [if_neg a']
  exact congrArg some e
theorem ObjM.look {h:Heap}{x dx C:Addr}{mA:Str->Option Value}(I:ObjM h x dx C mA):∃ od,PySem.W.InstAt h x (Qj C dx) C (some od)/\∀ name,Up name od=some (mA name) :=
 let ⟨od,ho,hl⟩:=Zk5 I.ns
 ⟨od,⟨I.obj,rfl,rfl,ho⟩,hl⟩
section
variable {prog:Program}{w:World}{A:Around}{E:Value->Shared->Prop}{s:Shared}{K:Om}{x dx C f:Addr}{mA:Str->Option Value}{name:Str}{v:Value}
theorem Zod {expr:Bool}{Q:Value->Shared->Prop}(X:K.In s.heap)(I:ObjM s.heap x dx C mA)(hg:Rz K C name=true)(hh:Sn K C=true)
  (ha:Pc K (.ref C) name=some none) (hv:mA name=some v) (hv':PySem.W.handedIn v=true) (h:Q v { s with toks:=s.toks+1 }) :
  wpAny (model prog w) A (getAttr (.ref x) name expr) Q E s:=by
 obtain ⟨od,J,hl⟩:=I.look
 exact PySem.W.get_value X J (Vi hg).1 (PySem.W.findObj_own hh ha rfl (by rw [hl,hv])) hv' h
theorem Zky {pl:Sem Bool}{Q:Value×List Value->Shared->Prop}(X:K.In s.heap)(I:ObjM s.heap x dx C mA)(hg:Rz K C name=true)
  (hf:Pc K (.ref C) name=some (some (.ref f))) (ht:Sy K (.ref f)=true) (hv:mA name=none) (h:Q (.ref f,[.ref x]) s) :
  wpAny (model prog w) A (getMethod (.ref x) name pl) Q E s:=by
 obtain ⟨od,J,hl⟩:=I.look
 exact PySem.W.method_fn X J (Vi hg).1 (Vi hg).2 hf (beq_iff_eq.mp ht) (by show (Up name od).map (·.isSome)=some false;rw [hl,hv];rfl) h
theorem Zn7 {ns:List Str}{Q:Unit->Shared->Prop}(X:K.In s.heap)(I:ObjM s.heap x dx C mA)
  (hs:Pc K (.ref C) "__setattr__" = some (some (.builtin "object.__setattr__"))) (hp:T8 K C=true) (ht:V0 K C name=some none) (hh:Sn K C=true)
  (hw:Ux mA ns) (hsz:ns.length<=sizeLine)
  (h:∀ h',ObjM h' x dx C (fun y=>if y=name then some v else mA y)->O6 dx s.heap h'->Q () { s with heap:=h',toks:=s.toks+2 }) :
  wpAny (model prog w) A (setAttr (.ref x) name v) Q E s:=by
 obtain ⟨od,J,hl⟩:=I.look
 refine PySem.W.set_plain X J hs (PySem.W.osa_open (s:={ s with toks:=s.toks+1 }) (r:=none) X J hp ht fun b=>?_)
 obtain ⟨cd,hc,hd'⟩:=PySem.W.any_some hh
 have hx:s.heap.get? x=some ⟨.ref C,some dx,.plain,#[]⟩:=I.obj
 refine On (Oq (On (On (wpAny_loadPart hx (On (R9.here (s:={ s with toks:=s.toks+1 }) (PySem.W.looks_clsIn X hc) ?_))))))
 rw [hd']
 refine Oq (a:=some dx) (On (Oq (On ?_)))
 refine wpAny_nsSet1 (s:={ s with toks:=s.toks+1 }) I.ns fun h' hn2 hs2=>?_
 obtain ⟨oD,esD,epD,hoD,hdD,hcD⟩:=hn2.count (Ux.cons name v hw)
 refine On (wpAny_lookBehind hoD (by rw [hdD];exact pastItsLine_dict (Pi hcD (by rw [O5];omega))) ?_)
 exact Oq (h _ ⟨(hs2.2 _ (Pm I.ne)).trans I.obj,hn2,I.ne⟩ hs2)
theorem Zj8 {R:Result->Shared->Prop}{vs:List Value}{kw:List (Str×Value)}(X:K.In s.heap)(hm:R3 K C=true)
  (hi:Pc K (.ref C) "__init__" = some (some (.ref f))) (hf:PySem.W.typeIn K (.ref f)=some (.type "function"))
  (h:codeAny (model prog w) (A.under (.builtin "type.__call__" ⟨.ref C::vs,kw⟩)) (.call (.ref f) ⟨.ref (s.heap.objs.size+1)::vs,kw⟩) (PySem.W.InitBack (s.heap.objs.size+1) R)
   { s with heap:=(s.heap.push P7).push (Qj C s.heap.objs.size) }) :
  codeAny (model prog w) A (.call (.ref C) ⟨vs,kw⟩) R s:=by
 obtain ⟨hh,g,d,t,os⟩:=s
 exact PySem.W.make_core (Vv X hm) (PySem.W.looks_findIn X hi) (fun self=>PySem.W.bind_fn X self hf) (.inl rfl) h
theorem Zmp {R:Result->Shared->Prop}(X:K.In s.heap)(hm:R3 K C=true)
  (hi:Pc K (.ref C) "__init__" = some (some (.builtin "object.__init__")))
  (hb:∀ self,R9 (model prog w) s.heap (bindSpecial (.builtin "object.__init__") self) (.builtin "object.__init__",[self]))
  (h:codeAny (model prog w) (A.under (.builtin "type.__call__" ⟨[.ref C],[]⟩)) (.call (.builtin "object.__init__") ⟨[.ref (s.heap.objs.size+1)],[]⟩) (PySem.W.InitBack (s.heap.objs.size+1) R)
   { s with heap:=(s.heap.push P7).push (Qj C s.heap.objs.size) }) :
  codeAny (model prog w) A (.call (.ref C) ⟨[],[]⟩) R s:=by
 obtain ⟨hh,g,d,t,os⟩:=s
 exact PySem.W.make_core (Vv X hm) (PySem.W.looks_findIn X hi) hb (.inr ⟨rfl,rfl⟩) h
end
noncomputable def Cc (f:Str)(v:V):List (Str×V)->List (Str×V)
 | []=>[(f,v)]
 | (g,x)::r=>if g=f then (g,v)::r else (g,x)::Cc f v r
theorem Zfq (f g:Str)(v:V):∀ fs:List (Str×V),(Cc f v fs).lookup g=if g=f then some v else fs.lookup g
 | []=>by
  show Q8 g [(f,v)]=_
  by_cases h:g=f
  ·have hb:(g == f)=true:=beq_iff_eq.mpr h
   simp only [Q8,hb,if_pos h]
  ·have hb:(g == f)=false:=beq_eq_false_iff_ne.mpr h
   simp only [Q8,hb,if_neg h]
 | (k,x)::r=>by
  have ih:=Zfq f g v r
  rw [show Cc f v ((k,x)::r)=(if k=f then (k,v)::r else (k,x)::Cc f v r) from rfl]
  by_cases hk:k=f
  ·rw [if_pos hk]
   by_cases h:g=k
   ·have hb:(g == k)=true:=beq_iff_eq.mpr h
    simp only [Q8,hb,if_pos (h.trans hk)]
   ·have hb:(g == k)=false:=beq_eq_false_iff_ne.mpr h
    simp only [Q8,hb,if_neg (fun e:g=f=>h (e.trans hk.symm))]
  ·rw [if_neg hk]
   by_cases h:g=k
   ·have hb:(g == k)=true:=beq_iff_eq.mpr h
    simp only [Q8,hb,if_neg (fun e:g=f=>hk (h.symm.trans e))]
   ·have hb:(g == k)=false:=beq_eq_false_iff_ne.mpr h
    simp only [Q8,hb]
    exact ih
theorem Zad (f:Str)(v:V):∀ fs:List (Str×V),f∈(Cc f v fs).map (·.1)/\∀ g,g∈fs.map (·.1)->g∈(Cc f v fs).map (·.1)
 | []=>⟨by simp [Cc],fun g h=>by simp at h⟩
 | (k,x)::r=>by
  obtain ⟨i1,i2⟩:=Zad f v r
  rw [show Cc f v ((k,x)::r)=(if k=f then (k,v)::r else (k,x)::Cc f v r) from rfl]
  by_cases hk:k=f
  ·rw [if_pos hk]
   subst hk
   exact ⟨by simp,fun g h=>by simpa using h⟩
  ·rw [if_neg hk]
   refine ⟨?_,fun g h=>?_⟩
   ·rw [Ph]
    exact Pe _ i1
   ·rw [Ph] at h ⊢
    rcases Oy.mp h with e | e
    ·exact Oy.mpr (.inl e)
    ·exact Pe _ (i2 g e)
theorem Zf4 (f:Str)(v:V):∀ fs:List (Str×V),(Cc f v fs).length<=fs.length+1
 | []=>by simp [Cc]
 | (k,x)::r=>by
  have ih:=Zf4 f v r
  rw [show Cc f v ((k,x)::r)=(if k=f then (k,v)::r else (k,x)::Cc f v r) from rfl]
  by_cases hk:k=f
  ·rw [if_pos hk,O5,O5];omega
  ·rw [if_neg hk,O5,O5];omega
theorem RelO.some_of {v:V}{o:Option Value}(r:RelO (some v) o):∃ u,o=some u/\RelV v u:=by
 cases o with
 | none=>exact (show False from r).elim
 | some u=>exact ⟨u,rfl,r⟩
theorem RelO.none_of {o:Option Value}(r:RelO none o):o=none:=by
 cases o with
 | none=>rfl
 | some u=>exact (show False from r).elim
theorem Zhe {v:V}{u:Value}(r:RelV v u):PySem.W.handedIn u=true:=by
 cases v with
 | non=>cases (show u=Value.none from r);rfl
 | bl b=>cases (show u=Value.bool b from r);rfl
 | int i=>obtain ⟨t,e⟩:=(show ∃ t,u=Value.int i t from r);cases e;rfl
 | str x=>obtain ⟨t,e⟩:=(show ∃ t,u=Value.str x t from r);cases e;rfl
 | byt b=>obtain ⟨t,e⟩:=(show ∃ t,u=Value.bytes b t from r);cases e;rfl
 | flt b=>obtain ⟨t,e⟩:=(show ∃ t,u=Value.float b t from r);cases e;rfl
 | ref a=>cases (show u=Value.ref a from r);rfl
 | ty n=>cases (show u=Value.type n from r);rfl
section
variable {P:Program}{w:World}{H H':Hp}{h h':Heap}{a C dx:Addr}{fs fs':List (Str×V)}
theorem L0 (hok:HOk P w H h)(e:H a=some (.ins C dx fs)):∃ mA,ObjM h a dx C mA/\(∀ f,RelO (fs.lookup f) (mA f))/\Ux mA (fs.map (·.1))/\fs.length<=1000/\H dx=some (.own a):=by
 obtain ⟨d,z,ne,ob,mA,n,r,q⟩:=(show ObjOk P w H h a (.ins C dx fs) from hok a _ e)
 exact ⟨mA,⟨ob,n,ne⟩,r,q,z,d⟩
end
structure Cls (K:Om)(C:Addr):Prop where
 pg:Rz K C P5=true
 hd:Sn K C=true
 po:T8 K C=true
 sa:Pc K (.ref C) "__setattr__" = some (some (.builtin "object.__setattr__"))
theorem Cls.get {K:Om}{C:Addr}(c:Cls K C)(f:Str):Rz K C f=true:=c.pg
noncomputable def NoAttr (K:Om)(C:Addr)(f:Str):Prop:=Pc K (.ref C) f=some none
theorem NoAttr.taker {K:Om}{C:Addr}{f:Str}(n:NoAttr K C f):V0 K C f=some none:=by
 unfold V0
 rw [show Pc K (.ref C) f=some none from n]
 rfl
structure Meth (K:Om)(C:Addr)(m:Str)(f:Addr):Prop where
 at_:Pc K (.ref C) m=some (some (.ref f))
 fn:Sy K (.ref f)=true
 kp:Qb K (.ref f)=true
section
variable {X:Cx}{pins:List (Addr×Obj)}{σ:St}{H:Hp}{s:Shared}{a C dx:Addr}{fs:List (Str×V)}{f:Str}{v:V}{A:Around}{E:Value->Shared->Prop}
theorem Zg2 {b:Bool}{Q:Value->Shared->Prop}(I:Inv X pins σ H s)(e:H a=some (.ins C dx fs))(c:Cls X.K C)(n:NoAttr X.K C f)(l:fs.lookup f=some v)
  (h:∀ u s',Inv X pins σ H s'->RelV v u->Q u s'):wpAny (model X.prog X.w) A (getAttr (.ref a) f b) Q E s:=by
 obtain ⟨mA,O,r,_,_,_⟩:=L0 I.hok e
 obtain ⟨u,hu,ru⟩:=RelO.some_of (v:=v) (o:=mA f) (by rw [<- l];exact r f)
 exact Zod I.kIn O (c.get f) c.hd n hu (Zhe ru) (h u _ (I.tok _) ru)
theorem Zht {m:Str}{g:Addr}{pl:Sem Bool}{Q:Value×List Value->Shared->Prop}(I:Inv X pins σ H s)(e:H a=some (.ins C dx fs))(c:Cls X.K C)(k:Meth X.K C m g)(l:fs.lookup m=none)
  (h:Q (.ref g,[.ref a]) s):wpAny (model X.prog X.w) A (getMethod (.ref a) m pl) Q E s:=by
 obtain ⟨mA,O,r,_,_,_⟩:=L0 I.hok e
 have hn:mA m=none:=RelO.none_of (by rw [<- l];exact r m)
 exact Zky I.kIn O (c.get m) k.at_ k.fn hn h
theorem Zo2 {y:V}{u:Value}{Q:Unit->Shared->Prop}(I:Inv X pins σ H s)(e:H a=some (.ins C dx fs))(c:Cls X.K C)(n:NoAttr X.K C f)(hl:fs.length < 1000)(ry:RelV y u)
  (h:∀ s',Inv X pins σ (upd H a (.ins C dx (Cc f y fs))) s'->Q () s'):wpAny (model X.prog X.w) A (setAttr (.ref a) f u) Q E s:=by
 obtain ⟨mA,O,r,wi,_,ho⟩:=L0 I.hok e
 have hz:(fs.map (·.1)).length<=sizeLine:=by rw [Pa,U3];omega
 refine Zn7 I.kIn O c.sa c.po n.taker c.hd wi hz fun h' O' sb=>h _ ?_
 have hd:∃ o,h'.get? dx=some o:=let ⟨o,_,_,e',_⟩:=O'.ns;⟨o,e'⟩
 refine I.write (x:=a) (e:=dx) (by rw [e];exact True.intro) (.inr ho) (fun b q hb z=>(sb.2 b hb).trans z) hd ?_
 refine ⟨by rw [Ai O.ne];exact ho,?_,O.ne,O'.obj,_,O'.ns,fun g=>?_,fun g hg=>?_⟩
 ·have:=Zf4 f y fs;omega
 ·show RelO ((Cc f y fs).lookup g) (if g=f then some u else mA g)
  rw [Zfq]
  by_cases q:g=f
  ·rw [if_pos q,if_pos q];exact ry
  ·rw [if_neg q,if_neg q];exact r g
 ·by_cases q:g=f
  ·rw [q];exact (Zad f y fs).1
  ·refine (Zad f y fs).2 g (wi g fun z=>hg ?_)
   show (if g=f then some u else mA g)=none
   rw [if_neg q];exact z
theorem Inv.made (I:Inv X pins σ H s):Inv X pins σ (upd (upd H s.heap.objs.size (.own (s.heap.objs.size+1))) (s.heap.objs.size+1) (.ins C s.heap.objs.size []))
  { s with heap:=(s.heap.push P7).push (Qj C s.heap.objs.size) }:=by
 have e1:(s.heap.push P7).get? s.heap.objs.size=some P7:=O4 s.heap rfl
 have e2:((s.heap.push P7).push (Qj C s.heap.objs.size)).get? (s.heap.objs.size+1)=some (Qj C s.heap.objs.size):=by
  have:=O4 (s.heap.push P7) (o:=Qj C s.heap.objs.size) rfl
  rwa [Pz] at this
 have e3:(s.heap.push P7).Ns s.heap.objs.size (fun _=>none):=⟨P7,#[],_,e1,rfl,(fun e he=>absurd he (by simp)),fun _=>rfl⟩
 have I1:=I.laid (a:=s.heap.objs.size) (o:=.own (s.heap.objs.size+1)) (h':=s.heap.push P7) (t':=s.toks) (fun b u q=>Ou _ q) (Os _) ⟨_,e1⟩
 refine I1.laid (a:=s.heap.objs.size+1) (o:=.ins C s.heap.objs.size []) (t':=s.toks) (fun b u q=>Ou _ q) (Nat.le_of_eq (Pz _ _)) ?_
 have ne:s.heap.objs.size≠s.heap.objs.size+1:=O1 (R0 _)
 refine ⟨by rw [Ai ne,Ad],Pj _,ne,e2,fun _=>none,(Heap.Ns1.of_empty e3).at fun o q=>Ou _ q,fun _=>True.intro,fun y hy=>absurd rfl hy⟩
theorem Zoa {prog:Program}{w:World}{env:Env}{e:Expr}{f:Str}{pos:Pos}{s:Shared}{Q:Value->Shared->Prop}(hb:attributeBase e f env (eval e env)=eval e env)
  (h:wpAny (model prog w) A (eval e env) (fun o s₁=>wpAny (model prog w) A (getAttr o f true) Q E s₁) E s):wpAny (model prog w) A (eval (.Attribute e f pos) env) Q E s :=
 Attribute_any_ h (by rw [arm_eval_Attribute,hb])
end
noncomputable def Oh (K:Om)(ta:TE)(f:Str):TE:=fun σ H Q=>ta σ H fun x H1=>∃ a C dx fs v,x=.ref a/\H1 a=some (.ins C dx fs)/\Cls K C/\NoAttr K C f/\fs.lookup f=some v/\Q v H1
noncomputable def Zab (K:Om)(ta tv:TE)(f:Str):TS:=fun D σ H=>tv σ H fun y H1=>ta σ H1 fun x H2=>∃ a C dx fs,x=.ref a/\H2 a=some (.ins C dx fs)/\Cls K C/\NoAttr K C f/\fs.length < 1000 /\
 D.nx σ (upd H2 a (.ins C dx (Cc f y fs)))
section
variable {X:Cx}{o e value:Expr}{f:Str}{pos pos' tpos:Pos}{ta tv:TE}
theorem Zjc (he:PE X e ta)(hb:attributeBase e f X.env (eval e X.env)=eval e X.env):PE X (.Attribute e f pos) (Oh X.K ta f):=by
 intro pins s σ H Q I h
 refine Zoa hb (Ah (he pins s σ H _ I h) fun u s1 zq=>?_)
 obtain ⟨x,H1,I1,rx,a,C,dx,fs,v,ex,ea,c,n,l,q⟩:=zq
 subst ex
 obtain rfl:u=Value.ref a:=rx
 exact Zg2 I1 ea c n l fun u' s2 I2 ru=>⟨v,H1,I2,ru,q⟩
theorem Zjv (ha:PE X o ta)(hv:PE X value tv)(hs:swapsWith value (some (.Attribute o f pos')) pos.line X.env=pure false):PS X (.Assign [.Attribute o f pos'] value pos) (Zab X.K ta tv f):=by
 intro pins s σ H D I h
 refine plainObj_wpAny_Assign_Attribute (Ah (hv pins s σ H _ I h) fun u s1 zq=>?_) hs
 obtain ⟨y,H1,I1,ry,q⟩:=zq
 refine Ah (ha pins s1 σ H1 _ I1 q) fun ov s2 zq=>?_
 obtain ⟨x,H2,I2,rx,a,C,dx,fs,ex,ea,c,n,l,q2⟩:=zq
 subst ex
 obtain rfl:ov=Value.ref a:=rx
 exact Zo2 I2 ea c n l ry fun s3 I3=>⟨σ,_,I3,q2⟩
end
section
variable {X:Cx}{pins:List (Addr×Obj)}{σ:St}{H:Hp}{s:Shared}{A:Around}{E:Value->Shared->Prop}{Q:Value->Shared->Prop}{c:Value}{b:Bool}
inductive Cq (K:Om)(H:Hp):V->Value->Prop where
 | non:Cq K H .non (.type "NoneType")
 | bl (x:Bool):Cq K H (.bl x) (.type "bool")
 | int (i:Int):Cq K H (.int i) (.type "int")
 | str (x:Str):Cq K H (.str x) (.type "str")
 | flt (x:UInt64):Cq K H (.flt x) (.type "float")
 | lst {a:Addr} {xs:List V} (e:H a=some (.lst xs)):Cq K H (.ref a) (.type "list")
 | frz {a:Addr} {o:Obj} {xs:List V} (e:H a=some (.frz o (.lst xs))):Cq K H (.ref a) (.type "list")
 | tup {a:Addr} {xs:List V} (e:H a=some (.tup xs)):Cq K H (.ref a) (.type "tuple")
 | dK {a:Addr} {kvs:List (Au×V)} (e:H a=some (.dK kvs)):Cq K H (.ref a) (.type "dict")
 | dT {a:Addr} {kvs:List (List Au×V)} (e:H a=some (.dT kvs)):Cq K H (.ref a) (.type "dict")
 | ins {a C dx:Addr} {fs:List (Str×V)} (e:H a=some (.ins C dx fs)) (cl:Cls K C) (ha:Pc K (.ref C) "__class__" = some (some (.builtin "object.__class__")))
   (hn:Vp K (.builtin "object.__class__") "__get__" = some (some (.builtin "getset_descriptor.__get__"))) (htk:V1 K (.builtin "object.__class__")=some true)
   (hm:Uu K C (.type "object")=some true):Cq K H (.ref a) (.ref C)
theorem Zc5 {x:V}{u t:Value}(I:Inv X pins σ H s)(rx:RelV x u)(ty:Cq X.K H x t)(e:Pg X.K t c=some b)(h:∀ tk,Q (.bool b) { s with toks:=tk }) :
  wpAny (model X.prog X.w) A (call (.builtin "isinstance") [u,c]) Q E s:=by
 cases ty with
 | non=>cases (show u=Value.none from rx);exact Px PySem.W.kitx_none I.kIn True.intro e (fun z=>nomatch z) h
 | bl y=>cases (show u=Value.bool y from rx);exact Px PySem.W.kitx_bool I.kIn True.intro e (fun z=>nomatch z) h
 | int i=>obtain ⟨t,q⟩:=(show ∃ t,u=Value.int i t from rx);cases q;exact Px PySem.W.kitx_int I.kIn True.intro e (fun z=>nomatch z) h
 | str y=>obtain ⟨t,q⟩:=(show ∃ t,u=Value.str y t from rx);cases q;exact Px PySem.W.kitx_str I.kIn True.intro e (fun z=>nomatch z) h
 | flt y=>obtain ⟨t,q⟩:=(show ∃ t,u=Value.float y t from rx);cases q;exact Px PySem.W.kitx_float I.kIn True.intro e (fun z=>nomatch z) h
 | @lst a xs ea =>
  cases (show u=Value.ref a from rx)
  obtain ⟨_,_,n,_,h1⟩:=(show ObjOk X.prog X.w H s.heap a (.lst xs) from I.hok a _ ea)
  exact Px T9 I.kIn ⟨_,h1,rfl⟩ e (fun z=>nomatch z) h
 | @frz a ob xs ea =>
  cases (show u=Value.ref a from rx)
  obtain ⟨_,_,_,n,_,h1⟩:=(show ObjOk X.prog X.w H s.heap a (.frz ob (.lst xs)) from I.hok a _ ea)
  exact Px T9 I.kIn ⟨_,h1,rfl⟩ e (fun z=>nomatch z) h
 | @tup a xs ea =>
  cases (show u=Value.ref a from rx)
  obtain ⟨_,_,_,p⟩:=(show ObjOk X.prog X.w H s.heap a (.tup xs) from I.hok a _ ea)
  obtain ⟨o,h1,h2,_⟩:=p
  exact Px Vm I.kIn ⟨o,h1,h2⟩ e (fun z=>nomatch z) h
 | @dK a kvs ea =>
  cases (show u=Value.ref a from rx)
  obtain ⟨_,_,vs,_,p⟩:=(show ObjOk X.prog X.w H s.heap a (.dK kvs) from I.hok a _ ea)
  obtain ⟨o,es,ep,h1,h2,_⟩:=p
  exact Px PySem.W.kitx_dict I.kIn ⟨o,h1,h2.1⟩ e (fun z=>nomatch z) h
 | @dT a kvs ea =>
  cases (show u=Value.ref a from rx)
  obtain ⟨_,_,xs,_,o,es,ep,h1,h2,_⟩:=(show ObjOk X.prog X.w H s.heap a (.dT kvs) from I.hok a _ ea)
  exact Px PySem.W.kitx_dict I.kIn ⟨o,h1,h2.1⟩ e (fun z=>nomatch z) h
 | @ins a C dx fs ea cl ha hn htk hm =>
  cases (show u=Value.ref a from rx)
  obtain ⟨mA,O,_⟩:=L0 I.hok ea
  obtain ⟨od,J,_⟩:=O.look
  exact Px (PySem.W.kitx_own (cl.get _) cl.hd ha hn htk hm) I.kIn J e (fun z=>nomatch z) h
end
structure Room (k:Nat)(A:Around):Prop where
 hd:A.handled=none
 dp:A.depth+3 * k+5 < recursionLimit
 un:A.units+16 * k+200 < cLine
theorem Room.mono {j k:Nat}{A:Around}(r:Room k A)(h:j<=k):Room j A:=⟨r.hd,by have:=r.dp;omega,by have:=r.un;omega⟩
theorem Room.deeper {k:Nat}{A:Around}(r:Room (k+1) A)(env:Env):Room k (A.deeper env) :=
 ⟨r.hd,by have:=r.dp;show A.depth+1+3 * k+5 < _;omega,by have:=r.un;show A.units+3+16 * k+200 < _;omega⟩
theorem Zj0 {A:Around}{C:Addr}{us:List Value}{kw:List (Str×Value)}:(A.under (.builtin "type.__call__" ⟨.ref C::us,kw⟩)).depth=A.depth+1:=by
 first | rfl | simp [Around.under,Code.weight,Code.isCreation,Code.isGuard,Code.isCaller,Code.frames,Code.isFrame,guardIds]
theorem Zqa {A:Around}{C:Addr}{us:List Value}{kw:List (Str×Value)}:(A.under (.builtin "type.__call__" ⟨.ref C::us,kw⟩)).units=A.units+1:=by
 first | rfl | simp [Around.under,Code.cUnits,Code.frames,Code.isFrame]
theorem Room.make {k:Nat}{A:Around}(r:Room (k+1) A)(C:Addr)(us:List Value)(kw:List (Str×Value)):Room k (A.under (.builtin "type.__call__" ⟨.ref C::us,kw⟩)) :=
 ⟨r.hd,by have:=r.dp;rw [Zj0];omega,by have:=r.un;rw [Zqa];omega⟩
theorem Room.depth {k:Nat}{A:Around}(r:Room k A):A.depth < recursionLimit:=by have:=r.dp;omega
noncomputable def Dv:TA:=fun _ H Q=>Q [] H
noncomputable def D0 (ta:TE)(tr:TA):TA:=fun σ H Q=>ta σ H fun x H1=>tr σ H1 fun xs H2=>Q (x::xs) H2
section
variable {X:Cx}{e:Expr}{es:List Expr}{te:TE}{t:TA}{pos:Pos}
theorem Zfl:PA X [] Dv:=fun _ _ _ _ H Q I h=>Vq ⟨[],H,I,.nil,h⟩
theorem Ze8 (ha:PE X e te)(hr:PA X es t)(hs:starEach (e::es) X.env=(false,eval e X.env)::starEach es X.env:=by rfl):PA X (e::es) (D0 te t):=by
 intro pos pins s σ H Q I h
 rw [hs]
 show wpAny _ _ (spliced ((false,eval e X.env)::backTo pos (starEach es X.env))) _ _ s
 refine Vn (Ah (ha pins s σ H _ I h) fun u s1 zq=>?_)
 obtain ⟨x,H1,I1,r1,q1⟩:=zq
 exact Ah (hr pos pins s1 σ H1 _ I1 q1) fun us s2 ⟨xs,H2,I2,r2,q2⟩=>⟨x::xs,H2,I2,.cons r1 r2,q2⟩
noncomputable def Lw (t:TA):TE:=fun σ H Q=>t σ H fun xs H1=>xs.length<=sizeLine/\∀ p,H1 p=none->Q (.ref p) (upd H1 p (.tup xs))
noncomputable def Lc (t:TA):TE:=fun σ H Q=>t σ H fun xs H1=>xs.length<=sizeLine/\∀ p,H1 p=none->Q (.ref p) (upd H1 p (.lst xs))
theorem Zpt {x1}(h:PA X es t):PE X (.Tuple es x1 pos) (Lw t):=by
 intro pins s σ H Q I hq
 refine wpAny_Tuple_spliced (Ah (h pos pins s σ H _ I hq) fun us s1 ⟨xs,H1,I1,r,z,q⟩=>⟨by rw [<- r.length];exact z,?_⟩)
 have hf:H1 s1.heap.objs.size=none:=I1.hok.fresh (Os _)
 refine ⟨.ref s1.heap.objs.size,upd H1 s1.heap.objs.size (.tup xs),I1.laid (t':=s1.toks) (fun b u e=>Ou _ e) (Os _) ?_,rfl,q _ hf⟩
 exact ⟨z,us,r,⟨_,O4 _ rfl,rfl,_,rfl⟩⟩
theorem Zic (h:PA X es t):PE X (.List es pos) (Lc t):=by
 intro pins s σ H Q I hq
 refine wpAny_List_spliced (Ah (h pos pins s σ H _ I hq) fun us s1 ⟨xs,H1,I1,r,z,q⟩=>⟨by rw [<- r.length];exact z,?_⟩)
 have hf:H1 s1.heap.objs.size=none:=I1.hok.fresh (Os _)
 refine ⟨.ref s1.heap.objs.size,upd H1 s1.heap.objs.size (.lst xs),I1.laid (t':=s1.toks) (fun b u e=>Ou _ e) (Os _) ?_,rfl,q _ hf⟩
 exact ⟨z,us,0,r,O4 _ rfl⟩
end
noncomputable abbrev Sp:=List V->Hp->VK->XK->Prop
noncomputable abbrev Bz:=List Env->Hp->Shared->XK->Value->Shared->Prop
structure Env0 (P:Program)(w:World)(K:Om)(mg:Str->Option Value)(base:Heap)(A:Around)(outer:List Env)(s:Shared)(H:Hp):Prop where
 frames:A.frames=some outer
 mod:Mod K mg base
 bs:∀ b o,base.get? b=some o->s.heap.get? b=some o/\H b=none
 bsz:base.objs.size<=s.heap.objs.size
 funs:s.heap.FunFrames base outer
 frf:∀ b∈Cd outer,H b=none
 hok:HOk P w H s.heap
 bare:AllBare s.gens
noncomputable def CE (outer:List Env)(P:Program)(w:World)(H:Hp)(s:Shared)(Q:VK)(u:Value)(s':Shared):Prop :=
 ∃ v H',s'.os=s.os/\AllBare s'.gens/\Un (Cd outer) [] H H' s.heap s'.heap/\HOk P w H' s'.heap/\RelV v u/\Q v H'
noncomputable def CR (CX:Bz)(outer:List Env)(P:Program)(w:World)(H:Hp)(s:Shared)(Q:VK)(E:XK)(r:Result)(s':Shared):Prop :=
 match r with
 | .ok (.ret u)=>CE outer P w H s Q u s'
 | .ok _=>False
 | .error e=>CX outer H s E e s'
structure Aq (P:Program)(w:World)(K:Om)(mg:Str->Option Value)(base:Heap)(CX:Bz)(k:Nat)(f:Addr)(fd:FuncData)(ps:List Str)(sp:Sp):Prop where
 len:∀ vs H Q E,sp vs H Q E->vs.length=ps.length
 run:∀(A:Around)(outer:List Env)(s:Shared)(H:Hp)(args:Args)(us:List Value)(vs:List V)(Q:VK)(E:XK),Room k A->Env0 P w K mg base A outer s H->BindsTo s fd args (ps.zip us)->Vals vs us->sp vs H Q E ->
  codeAny (model P w) A (.call (.ref f) args) (CR CX outer P w H s Q E) s
theorem Env0.make {P:Program}{w:World}{K:Om}{mg:Str->Option Value}{base:Heap}{A:Around}{outer:List Env}{s:Shared}{H:Hp}(e:Env0 P w K mg base A outer s H)(C:Addr)(us:List Value)(kw:List (Str×Value)) :
  Env0 P w K mg base (A.under (.builtin "type.__call__" ⟨.ref C::us,kw⟩)) outer s H:=⟨by first | exact e.frames | (simpa [Around.under,Code.envs,Code.isFrame,pushEnvs] using e.frames),e.mod,e.bs,e.bsz,e.funs,e.frf,e.hok,e.bare⟩
section
variable {X:Cx}{pins:List (Addr×Obj)}{σ:St}{H:Hp}{s s':Shared}
theorem Inv.env0 (I:Inv X pins σ H s):Env0 X.prog X.w X.K X.mg X.base X.A X.stack s H :=
 ⟨I.ok.frames,I.ok.mod,I.bs,Pi I.ok.bsz I.sz,I.stack,I.stkFree,I.hok,I.bare⟩
theorem Inv.after {Q:VK}{u:Value}(I:Inv X pins σ H s)(h:CE X.stack X.prog X.w H s Q u s'):EP X pins σ Q u s':=by
 obtain ⟨v,H',os,bare,un,hok,r,q⟩:=h
 obtain ⟨hh,g,d,t,os'⟩:=s'
 obtain rfl:os'=s.os:=os
 exact ⟨v,H',I.call (h':=hh) (g':=g) (d':=d) (t':=t) (ch:=[]) un hok bare (fun b z=>absurd z (by simp)),r,q⟩
end
noncomputable def Fp (sp:Sp)(dvs:List V)(E:XK)(t:TA):TE:=fun σ H Q=>t σ H fun vs H1=>sp (vs++dvs) H1 Q E
noncomputable def Binds (K:Om)(fd:FuncData)(ps:List Str)(ds:List Value):Prop :=
 ∀(s:Shared)(us:List Value),K.In s.heap->(us++ds).length=ps.length->BindsTo s fd ⟨us,[]⟩ (ps.zip (us++ds))
theorem Binds.all {K:Om}{fd:FuncData}{ps:List Str}(h:∀ us:List Value,us.length=ps.length->bindArgs fd ⟨us,[]⟩=pure (ps.zip us)):Binds K fd ps []:=fun s us _ hl=>by
 rw [Qa] at hl ⊢
 exact .of_eq (h us hl)
noncomputable def Hy (CX:Bz)(X:Cx)(E:XK):Prop:=∀(pins:List (Addr×Obj))(σ:St)(H:Hp)(s:Shared)(e:Value)(s':Shared),Inv X pins σ H s->CX X.stack H s E e s'->X.xe e s'
section
variable {X:Cx}{CX:Bz}{k:Nat}{f C:Addr}{fd:FuncData}{ps:List Str}{sp:Sp}{dvs:List V}{ds:List Value}{E:XK}{x m:Str}{p pos apos:Pos}{e o:Expr}{es:List Expr}{ta:TE}{t:TA}
theorem Zfo {pins:List (Addr×Obj)}{σ:St}{H:Hp}{s:Shared}{Q:VK}{us:List Value}{vs:List V}(F:Aq X.prog X.w X.K X.mg X.base CX k f fd ps sp)(hr:Room k X.A)(hb:Binds X.K fd ps ds)(hd:Vals dvs ds)(hx:Hy CX X E)
  (I:Inv X pins σ H s) (r:Vals vs us) (h:sp (vs++dvs) H Q E):wpAny (model X.prog X.w) X.A (call (.ref f) us) (EP X pins σ Q) X.xe s:=by
 have r2:Vals (vs++dvs) (us++ds):=r.append hd
 have hl:(us++ds).length=ps.length:=by rw [<- r2.length];exact F.len _ _ _ _ h
 refine wpAny_call (Sz (F.run X.A X.stack s H ⟨us,[]⟩ (us++ds) (vs++dvs) Q E hr I.env0 (hb s us I.kIn hl) r2 h) fun r s' hq=>?_)
 cases r with
 | error e=>exact hx pins σ H s e s' I hq
 | ok fl =>
  cases fl with
  | ret u=>exact I.after hq
  | next=>exact Qc hq
  | brk=>exact Qc hq
  | cont=>exact Qc hq
theorem Zov (F:Aq X.prog X.w X.K X.mg X.base CX k f fd ps sp)(hr:Room k X.A)(hg:Gl X x)(hm:X.mg x=some (.ref f))(hk:Qb X.K (.ref f)=true)(hb:Binds X.K fd ps ds)(hd:Vals dvs ds)(hx:Hy CX X E)
  (ha:PA X (e::es) t) (hdb:(x == ("__debug__" : Str))=false:=by decide) (he:starEach (e::es) X.env=(false,eval e X.env)::starEach es X.env:=by rfl) (hpl:(backTo pos (starEach es X.env)).any (·.1)=false:=by rfl) :
  PE X (.Call (.Name x p) (e::es) [] pos) (Fp sp dvs E t):=by
 intro pins s σ H Q I h
 refine Sl (Kz I hg hm ?_ hdb)
 refine PySem.W.callWith_K (h₀:=X.base) I.ok.mod.kin hk (Ah (ha pos pins s σ H _ I h) fun us s1 zq=>?_) he hpl
 obtain ⟨vs,H1,I1,r,q⟩:=zq
 refine ⟨I1.kIn,?_⟩
 exact Zfo F hr hb hd hx I1 r q
structure Mk (K:Om)(C f:Addr):Prop where
 makes:R3 K C=true
 init:Pc K (.ref C) "__init__" = some (some (.ref f))
 fn:Sy K (.ref f)=true
 kp:Qb K (.ref C)=true
end
noncomputable def PK (X:Cx)(kws:List Keyword)(t:TA):Prop :=
 ∀(pos:Pos)(pins:List (Addr×Obj))(s:Shared)(σ:St)(H:Hp)(Q:List V->Hp->Prop),Inv X pins σ H s->t σ H Q->wpAny (model X.prog X.w) X.A (evalAll ((backToKw pos (keywordEach kws X.env)).map (·.2))) (AP X pins σ Q) X.xe s
section
variable {X:Cx}{CX:Bz}{k:Nat}{f C:Addr}{fd:FuncData}{ps ks:List Str}{sp:Sp}{E:XK}{x m:Str}{p pos apos kpos:Pos}{e o:Expr}{es:List Expr}{kws:List Keyword}{te ta:TE}{t tk:TA}{nm:Option Str}
theorem Zp3:PK X [] Dv:=fun _ _ _ _ H Q I h=>wpAny_evalAll_nil ⟨[],H,I,.nil,h⟩
structure Of (K:Om)(fd:FuncData)(ps ks:List Str)(g:List Value->List Value->List Value)(gV:List V->List V->List V):Prop where
 to:∀(s:Shared)(us ws:List Value),K.In s.heap->(g us ws).length=ps.length->BindsTo s fd ⟨us,ks.zip ws⟩ (ps.zip (g us ws))
 rel:∀{vs:List V}{us:List Value}{zs:List V}{ws:List Value},Vals vs us->Vals zs ws->Vals (gV vs zs) (g us ws)
variable {g:List Value->List Value->List Value}{gV:List V->List V->List V}
end
structure Ay (N P:List Str)(sc:Scope):Prop where
 kind:sc.kind=.function
 co:sc.isCoroutine=false
 gen:sc.isGenerator=false
 nd:N.Nodup
 pre:N.take P.length=P
 par:∀ x∈P,sc.names.lookup x=some .local\/sc.names.lookup x=some .cell
 nofree:∀ y∈sc.names,y.2≠.free
theorem Ze9 {kindOf:Str->Option NameKind}{x:Str}:∀{binds:List (Str×Value)}{m:Str->Option Value},(∀ v,(x,v) ∉ binds)->bindL kindOf binds m x=m x
 | [],_,_=>rfl
 | (n,v)::r,m,h=>by
  unfold bindL
  rw [Ze9 fun w hw=>h w (Pe _ hw)]
  split
  ·have:x≠n:=by rintro rfl;exact h v Pr
   simp [this]
  ·rfl
theorem Zdf {kindOf:Str->Option NameKind}{x:Str}:∀{binds:List (Str×Value)}{m:Str->Option Value},(∀ v,(x,v) ∉ binds)->bindC kindOf binds m x=m x
 | [],_,_=>rfl
 | (n,v)::r,m,h=>by
  unfold bindC
  rw [Zdf fun w hw=>h w (Pe _ hw)]
  split
  ·rfl
  ·have:x≠n:=by rintro rfl;exact h v Pr
   simp [this]
theorem Zgr {kindOf:Str->Option NameKind}{x:Str}{v:Value}:∀{P:List Str}{vs:List Value}{i:Nat}{m:Str->Option Value},P.Nodup->P[i]?=some x->vs[i]?=some v->kindOf x=some .local ->
  bindL kindOf (P.zip vs) m x=some v
 | [],_,_,_,_,h,_,_=>by simp at h
 | _::_,[],_,_,_,_,h,_=>by simp at h
 | p::P,w::vs,0,m,nd,h1,h2,hk=>by
  simp at h1 h2;subst h1;subst h2
  show bindL kindOf ((p,w)::P.zip vs) m p=_
  unfold bindL
  rw [Ze9 fun v hv=>(Ug.mp nd).1 (V2 hv).1,if_pos hk]
  simp
 | p::P,w::vs,i+1,m,nd,h1,h2,hk=>by
  show bindL kindOf ((p,w)::P.zip vs) m x=_
  unfold bindL
  exact Zgr (i:=i) (Ug.mp nd).2 (by simpa using h1) (by simpa using h2) hk
theorem Zed {kindOf:Str->Option NameKind}{x:Str}{v:Value}:∀{P:List Str}{vs:List Value}{i:Nat}{m:Str->Option Value},P.Nodup->P[i]?=some x->vs[i]?=some v->kindOf x≠some .local ->
  bindC kindOf (P.zip vs) m x=some v
 | [],_,_,_,_,h,_,_=>by simp at h
 | _::_,[],_,_,_,_,h,_=>by simp at h
 | p::P,w::vs,0,m,nd,h1,h2,hk=>by
  simp at h1 h2;subst h1;subst h2
  show bindC kindOf ((p,w)::P.zip vs) m p=_
  unfold bindC
  rw [Zdf fun v hv=>(Ug.mp nd).1 (V2 hv).1,if_neg hk]
  simp
 | p::P,w::vs,i+1,m,nd,h1,h2,hk=>by
  show bindC kindOf ((p,w)::P.zip vs) m x=_
  unfold bindC
  exact Zed (i:=i) (Ug.mp nd).2 (by simpa using h1) (by simpa using h2) hk
noncomputable def start (N:List Str)(vs:List V):St:=vs.map some++O0 (N.length - vs.length) none
noncomputable def Ff (CX:Bz)(P:Program)(w:World)(K:Om)(mg:Str->Option Value)(base:Heap)(N:List Str)(qual:Str)(scope:Scope)(f:Addr)(cd:Value)(A:Around)(outer:List Env)(s:Shared)(H:Hp)(E:XK):Cx where
 prog:=P
 w:=w
 K:=K
 mg:=mg
 base:=base
 A:=A.deeper (envOfC qual scope s.heap.objs.size f cd)
 N:=N
 s₀:=s
 H₀:=H
 env:=envOfC qual scope s.heap.objs.size f cd
 outer:=outer
 stack:=envOfC qual scope s.heap.objs.size f cd::outer
 ex:=[]
 calm:=true
 fn:=fun _=>true
 pn:=[]
 xe:=fun e s'=>wpAny (model P w) (A.deeper (envOfC qual scope s.heap.objs.size f cd)) (leaving (envOfC qual scope s.heap.objs.size f cd) e) (fun _ s''=>CX outer H s E e s'') (fun e' s''=>CX outer H s E e' s'') s'
theorem Zah {sc:Scope}{n:Nat}{x:Str}(h:sc.names.lookup x=some .cell):∃ c,(cellsFrom n sc.names []).lookup x=some c:=by
 have q:=PySem.W.cellsFrom_some sc.names n [] (.inl h)
 exact Ri.mp q
theorem Zqv {CX:Bz}{P:Program}{w:World}{K:Om}{mg:Str->Option Value}{base:Heap}{N ps:List Str}{qual:Str}{scope:Scope}{f:Addr}{cd:Value}{A:Around}{outer:List Env}{s s1:Shared}{H:Hp}{E:XK}{us:List Value}{vs:List V}
  (S:Ay N ps scope) (hd:A.handled=none) (e0:Env0 P w K mg base A outer s H) (hl:vs.length=ps.length) (r:Vals vs us)
  (x:InCallC s s.heap.objs.size (bindL (envOfC qual scope s.heap.objs.size f cd).kindOf (ps.zip us) fun _=>none) (cellsFrom (s.heap.objs.size+1) scope.names []) (bindC (envOfC qual scope s.heap.objs.size f cd).kindOf (ps.zip us) fun _=>none) s1) :
  Inv (Ff CX P w K mg base N qual scope f cd A outer s H E) [] (start N vs) H s1:=by
 have hpl:ps.length<=N.length:=by have:=congrArg Tb S.pre;rw [Ps] at this;omega
 obtain ⟨h1,tk,rfl,hk⟩:=x.done
 have noA:∀ b:Addr,b ∉ (Ff CX P w K mg base N qual scope f cd A outer s H E).ex:=fun b z=>absurd (show b∈([]:List Addr) from z) (by simp)
 refine ⟨⟨e0.mod,S.kind,rfl,rfl,Os _,fun y z c h1 h2=>?_,fun y hy=>?_,fun y c _ h=>?_,fun _=>hd,Around.frames_deeper e0.frames,.inr ⟨rfl,rfl⟩,fun b z=>absurd z (noA b),e0.bs,e0.bsz,fun b _ _=>noA b,fun b z=>absurd z (noA b),e0.funs,e0.frf⟩,
  rfl,e0.bare,Un.kept hk,⟨_,x.toInCall.ns,fun i y v h1 h2 h3=>?_⟩,fun y c h=>⟨_,x.cell y c h⟩,e0.hok.fresh (Os _),fun y c h=>?_,fun p hp=>absurd (show p∈([]:List (Addr×Obj)) from hp) (by simp),e0.hok.kept hk,?_⟩
 ·exact name_of_addr x.apart (Rj h1) (Rj h2)
 ·have hy:scope.names.lookup y=some .cell\/scope.names.lookup y=some .free:=hy
  rcases hy with hy | hy
  ·exact Zah hy
  ·exact absurd rfl (S.nofree _ (Rj hy))
 ·exact Uy (x.above y c (Rj h))
 ·have hi:i < vs.length:=by
   unfold start at h2
   by_cases hi:i < vs.length
   ·exact hi
   ·rw [Qw (by simpa using hi)] at h2
    rw [List.getElem?_replicate] at h2
    split at h2 <;> cases h2
  have ha:vs[i]?=some v:=by
   unfold start at h2
   rw [Qx (by simpa using hi),Rc] at h2
   cases e:vs[i]? with
   | none=>rw [e] at h2;cases h2
   | some a=>rw [e] at h2;cases h2;rfl
  obtain ⟨u,hu,rv⟩:=r.get ha
  have hp:ps[i]?=some y:=by
   rw [<- S.pre,List.getElem?_take_of_lt (by omega)];exact h1
  have ndP:ps.Nodup:=by rw [<- S.pre];exact S.nd.sublist (List.take_sublist _ _)
  refine ⟨u,rv,?_⟩
  rcases S.par y (Pn hp) with k | k
  ·exact .inl ⟨k,Zgr ndP hp hu k⟩
  ·obtain ⟨c,e⟩:=Zah (n:=s.heap.objs.size+1) k
   refine .inr ⟨.inl k,c,e,?_⟩
   have q:=x.cell y c e
   rw [Zed ndP hp hu (by show scope.names.lookup y≠_;rw [k];decide)] at q
   exact q
 ·exact e0.hok.fresh (Uy (x.above y c (Rj h)))
 ·unfold start
  show _=N.length
  rw [O2,Pa,Ve]
  omega
theorem Zep {CX:Bz}{P:Program}{w:World}{K:Om}{mg:Str->Option Value}{base:Heap}{k:Nat}{f:Addr}{name qual:Str}{params:Arguments}{body:List Stmt}{scope:Scope}{dV kV doc pm cdv ct oc:Value}{an od:Option Addr}
  {osl:Array (Option Value)} {N ps:List Str} {sp:Sp} (lk:K.lookup f=some ⟨oc,od,.func (P4 name qual params body scope dV kV doc pm an cdv ct),osl⟩) (hcd:R7 K cdv qual=true) (S:Ay N ps scope)
  (len:∀ vs H Q E,sp vs H Q E->vs.length=ps.length)
  (hbody:∀(A:Around)(outer:List Env)(s:Shared)(H:Hp)(vs:List V)(Q:VK)(E:XK),Room k (A.deeper (envOfC qual scope s.heap.objs.size f cdv))->sp vs H Q E ->
   ∃ t,PSs (Ff CX P w K mg base N qual scope f cdv A outer s H E) body t/\t { nx:=fun _ H'=>Q .non H',rt:=Q } (start N vs) H) :
  Aq P w K mg base CX (k+1) f (P4 name qual params body scope dV kV doc pm an cdv ct) ps sp:=by
 refine ⟨len,fun A outer s H args us vs Q E hr e0 hb r hsp=>?_⟩
 have hl:=len _ _ _ _ hsp
 have KX:K.In s.heap:=e0.mod.kin.keeps fun b o e=>(e0.bs b o e).1
 have lim:s.heap.NoLimit:=e0.mod.nolimit.keeps fun b o e=>(e0.bs b o e).1
 have hkind:∀ y∈ps.zip us,scope.names.lookup y.1=some .local\/(scope.names.lookup y.1=some .cell/\((cellsFrom (s.heap.objs.size+1) scope.names []).lookup y.1).isSome=true):=fun ⟨n,v⟩ hy=>by
  rcases S.par n (V2 hy).1 with q | q
  ·exact .inl q
  ·exact .inr ⟨q,PySem.W.cellsFrom_some _ _ _ (.inl q)⟩
 refine codeAny_call_function hr.depth (KX _ _ lk) rfl S.co S.gen rfl (PySem.W.codeRec_of KX hcd) (hb _ _ _ _ ?_)
 refine wpAny_newFunctionEnv_cells S.kind hkind fun env he s1 x=>?_
 subst he
 refine ⟨lim.keeps x.toInCall.keep,codeAny_func ?_⟩
 obtain ⟨t,ht,hq⟩:=hbody A outer s H vs Q E (hr.deeper _) hsp
 have I:Inv (Ff CX P w K mg base N qual scope f cdv A outer s H E) [] (start N vs) H s1:=Zqv S hr.hd e0 hl r x
 refine Sd (ht [] s1 (start N vs) H _ I hq) (fun fl s' hs=>?_) fun e s' hs=>hs
 have fin:∀{σ':St}{H':Hp}{v:V}{u:Value},Inv (Ff CX P w K mg base N qual scope f cdv A outer s H E) [] σ' H' s'->RelV v u->Q v H'->CE outer P w H s Q u s' :=
  fun {σ' H' v u} J rv q=>⟨v,H',J.os,J.bare,J.base,J.hok,rv,q⟩
 cases fl with
 | ret u =>
  obtain ⟨v,σ',H',J,rv,q⟩:=hs
  exact fin J rv q
 | next =>
  obtain ⟨σ',H',J,q⟩:=hs
  exact fin (v:=V.non) (u:=Value.none) J rfl q
 | brk =>
  obtain ⟨_,_,_,q⟩:=hs
  exact Qc q
 | cont =>
  obtain ⟨_,_,_,q⟩:=hs
  exact Qc q
section
variable {X:Cx}{x:Str}{p pos:Pos}{e:Expr}{es:List Expr}{t:TA}{id T:String}{r:List V->Hp->VK->Prop}
noncomputable def Gq (r:List V->Hp->VK->Prop)(t:TA):TE:=fun σ H Q=>t σ H fun vs H1=>r vs H1 Q
theorem Zjk (hc:Cf X (.builtin id) r)(hg:Gl X x)(hm:X.mg x=none)(hv:bootBuiltins x=some (.builtin id))(ha:PA X (e::es) t)(hn:x ≠ "__name__" := by decide)(hdb:(x == ("__debug__" : Str))=false:=by decide)
  (he:starEach (e::es) X.env=(false,eval e X.env)::starEach es X.env:=by rfl) (hpl:(backTo pos (starEach es X.env)).any (·.1)=false:=by rfl):PE X (.Call (.Name x p) (e::es) [] pos) (Gq r t):=by
 intro pins s σ H Q I h
 refine Sl (Dx I hg hm hv ?_ hn hdb)
 exact PyProof.Rows.callWith_builtin1 (Ah (ha pos pins s σ H _ I h) fun us s1 ⟨vs,H1,I1,r1,q1⟩=>hc pins s1 σ H1 vs us Q I1 r1 q1) he hpl
theorem Zhb (hc:Cf X (.type T) r)(hg:Gl X x)(hm:X.mg x=none)(hv:bootBuiltins x=some (.type T))(ha:PA X (e::es) t)(hn:x ≠ "__name__" := by decide)(hdb:(x == ("__debug__" : Str))=false:=by decide)
  (he:starEach (e::es) X.env=(false,eval e X.env)::starEach es X.env:=by rfl) (hpl:(backTo pos (starEach es X.env)).any (·.1)=false:=by rfl):PE X (.Call (.Name x p) (e::es) [] pos) (Gq r t):=by
 intro pins s σ H Q I h
 refine Sl (Dx I hg hm hv ?_ hn hdb)
 exact Q3 (Ah (ha pos pins s σ H _ I h) fun us s1 ⟨vs,H1,I1,r1,q1⟩=>hc pins s1 σ H1 vs us Q I1 r1 q1) he hpl
end
end L2
namespace HT
open PySem PyProof.Rows
section
open PySem.SeqAt
open PySem.AutoSeq1 (wpAny_loadPart')
open PySem.MeetsSeq PySem.MeetsSeq2 PySem.MeetsSeq3
end
section
variable {prog:Program}{w:World}{A:Around}{E:Value->Shared->Prop}{s:Shared}
theorem cat_tup {t b:Addr}{vs ws:List Value}{Q:Value->Shared->Prop}(ht:IsTup s.heap t vs.toArray)(hb:IsTup s.heap b ws.toArray)(hv:vs≠[])
  (h1:ws=[]->Q (.ref t) s) (h2:ws≠[]->Q (.ref s.heap.objs.size) { s with heap:=s.heap.push { cls:=.type "tuple",data:=.seq (vs++ws).toArray } })
  (hsz:vs.length+ws.length<=sizeLine):wpAny (model prog w) A (binaryOp .Add (.ref t) (.ref b)) Q E s:=by
 obtain ⟨⟨cls,dd,data,sl⟩,ho,hc,n,hd⟩:=id ht
 obtain ⟨⟨cls2,dd2,data2,sl2⟩,ho2,hc2,n2,hd2⟩:=id hb
 simp only at hc hd hc2 hd2
 subst hc hd hc2 hd2
 have e:vs.toArray++ws.toArray=(vs++ws).toArray:=by simp
 by_cases hw:ws=[]
 ·exact Uz ⟨_,ho,rfl⟩ ⟨_,ho2,rfl⟩ Uc Uv Tu Tq (Tk _ _)
   (tuple_addW1 t b vs.toArray ws.toArray n n2 dd dd2 sl sl2 (by simpa using hv) (by simp [hw])) ⟨ho,ho2,h1 hw⟩
 ·refine Uz ⟨_,ho,rfl⟩ ⟨_,ho2,rfl⟩ Uc Uv Tu Tq (Tk _ _)
   (tuple_addW2 t b vs.toArray ws.toArray n n2 dd dd2 sl sl2 (by simpa using hv) (by simpa using hw) (by rw [Ot,Ot];exact hsz)) ⟨ho,ho2,?_⟩
  rw [e]
  exact h2 hw
noncomputable def sIx (n d:Nat):Option Int->Nat
 | none=>d
 | some v=>if v < 0 then (v+(n:Int)).toNat else min v.toNat n
theorem sIx_none (n d:Nat):sIx n d none=d:=rfl
theorem sIx_nat (n d k:Nat):sIx n d (some (k:Int))=min k n:=by
 show (if (k:Int) < 0 then ((k:Int)+(n:Int)).toNat else min (k:Int).toNat n)=min k n
 rw [if_neg (by omega),So]
theorem Znc (n d:Nat)(hd:d<=n)(o:Option Int):sIx n d o<=n:=by
 cases o with
 | none=>exact hd
 | some v =>
  show (if v < 0 then (v+(n:Int)).toNat else min v.toNat n)<=n
  by_cases hv:v < 0
  ·rw [if_pos hv];omega
  ·rw [if_neg hv];exact Nat.min_le_right _ _
theorem Zfa (v:Int)(n d:Nat):(if v < 0 then max (v+(n:Int)) 0 else min v (n:Int))=((sIx n d (some v):Nat):Int):=by
 show (if v < 0 then max (v+(n:Int)) 0 else min v (n:Int))=(((if v < 0 then (v+(n:Int)).toNat else min v.toNat n):Nat):Int)
 by_cases hv:v < 0
 ·simp only [if_pos hv];omega
 ·simp only [if_neg hv];omega
theorem Zq5 (lo hi:Option Int)(n:Nat):U8 lo hi 1 (n:Int)=(((sIx n 0 lo:Nat):Int),((sIx n n hi:Nat):Int)):=by
 have h1:¬ ((1:Int) < 0):=by omega
 unfold U8
 simp only [h1,if_false]
 refine Prod.ext ?_ ?_
 ·cases lo with
  | none=>rfl
  | some v=>exact Zfa v n 0
 ·cases hi with
  | none=>rfl
  | some v=>exact Zfa v n n
theorem Zjd (i j:Nat):Tj (i:Int) (j:Int) 1=j - i:=by
 unfold Tj
 have h1:(1:Int) > 0:=by omega
 simp only [h1,if_true,Int.ediv_one]
 split <;> omega
theorem Zdr {v:Value}{o:Option Int}{Q:Option Int->Shared->Prop}(p:IsPart v o)(h:Q o s):wpAny (model prog w) A (Builtin.Slice.slicePartIndex v) Q E s:=by
 cases p with
 | none=>exact slicePart_none h
 | int i t=>exact slicePart_int h
theorem sliceApplied_gen {sl:Addr}{vl vu:Value}{lo hi:Option Int}{n:Nat}{Q:Int×Int×Nat->Shared->Prop}(hs:s.heap.IsSliceOf sl vl vu .none)(pl:IsPart vl lo)(pu:IsPart vu hi)
  (h:Q (((sIx n 0 lo:Nat):Int),1,sIx n n hi - sIx n 0 lo) s):wpAny (model prog w) A (Builtin.Slice.sliceApplied (.ref sl) (pure (n:Int))) Q E s:=by
 obtain ⟨os,hos,hcs,hds⟩:=id hs
 unfold Builtin.Slice.sliceApplied Builtin.Slice.sliceFields
 refine On (On (O8 hos hds (x:=vl) rfl (On (O8 hos hds (x:=vu) rfl (On (O8 hos hds (x:=.none) rfl (Oq ?_)))))))
 refine On (slicePart_none ?_)
 show wpAny _ _ (if ((1:Int) == 0)=true then _ else _) _ _ s
 rw [if_neg (by decide)]
 refine On (Zdr pl (On (Zdr pu (On (Oq ?_)))))
 show wpAny _ _ (match U8 lo hi 1 (n:Int) with | (lo,hi)=>pure (lo,(1:Int),Tj lo hi 1)) _ _ s
 rw [Zq5 lo hi n]
 show wpAny _ _ (pure (((sIx n 0 lo:Nat):Int),(1:Int),Tj ((sIx n 0 lo:Nat):Int) ((sIx n n hi:Nat):Int) 1)) _ _ s
 rw [Zjd]
 exact Oq h
theorem Ziq (xs:Array Value)(i k:Nat):((O7 k).filterMap fun (m:Nat)=>xs[((i:Int)+(m:Int) * 1).toNat]?).toArray=((xs.toList.drop i).take k).toArray:=by
 have e:(fun (m:Nat)=>xs[((i:Int)+(m:Int) * 1).toNat]?)=fun m=>xs[i+m]?:=by
  funext m
  have:((i:Int)+(m:Int) * 1).toNat=i+m:=by omega
  rw [this]
 rw [e]
 have:=pick_run xs i k
 rw [List.filterMap_map] at this
 have e2:((fun x=>xs[x]?) ∘ fun x=>i+x)=fun m=>xs[i+m]?:=rfl
 rw [e2] at this
 rw [this]
theorem getItem_tuple_cut {t sl:Addr}{items:Array Value}{vl vu:Value}{lo hi:Option Int}{Q:Value->Shared->Prop}(ht:IsTup s.heap t items)(hs:s.heap.IsSliceOf sl vl vu .none)(pl:IsPart vl lo)(pu:IsPart vu hi)
  (hw:¬ (sIx items.size 0 lo=0/\sIx items.size items.size hi=items.size))
  (h:Q (.ref s.heap.objs.size) { s with heap:=s.heap.push { cls:=.type "tuple",data:=.seq ((items.toList.drop (sIx items.size 0 lo)).take (sIx items.size items.size hi - sIx items.size 0 lo)).toArray } })
  (hsz:items.size<=sizeLine):wpAny (model prog w) A (getItem (.ref t) (.ref sl)) Q E s:=by
 have htake:sizeOk (.seq ((items.toList.drop (sIx items.size 0 lo)).take (sIx items.size items.size hi - sIx items.size 0 lo)).toArray):=by
  show ((items.toList.drop (sIx items.size 0 lo)).take (sIx items.size items.size hi - sIx items.size 0 lo)).toArray.size<=sizeLine
  rw [Ot,Ps,R1,Sj]
  omega
 have hj:sIx items.size items.size hi<=items.size:=Znc _ _ (Os _) hi
 obtain ⟨os,hos,hcs,hds⟩:=id hs
 have hTs:s.TypeIs (.ref sl) "slice" := ⟨os,hos,hcs⟩
 unfold getItem
 try with_reducible refine P0 ?_
 first | refine On (Oq ?_) | skip
 refine On (wpAny_sequenceKey ht.typeIs (by decide) ?_)
 refine On (Qy (name:=Pq "__getitem__") ht.typeIs Rs
  (Q2 Rs ht.typeIs entry_tuple_getitem ?_ (args_tuple_getitem _ _)))
 show wpAny _ _ (Builtin.Tuple.tupleItemsOf (.ref t) >>= _) _ _ s
 refine On (tupleItemsOf_ ht ?_)
 refine On (U0 hTs ?_)
 rw [if_pos (by decide)]
 refine On (sliceApplied_gen hs pl pu ?_)
 have hno:¬ ((((sIx items.size 0 lo:Nat):Int) == 0 && (1:Int) == 1 && (sIx items.size items.size hi - sIx items.size 0 lo) == items.size)=true):=by
  intro q
  rw [Pt,Pt] at q
  have q1:((sIx items.size 0 lo:Nat):Int)=0:=eq_of_beq q.1.1
  have q2:sIx items.size items.size hi - sIx items.size 0 lo=items.size:=eq_of_beq q.2
  exact hw ⟨by omega,by omega⟩
 show wpAny _ _ (if (((sIx items.size 0 lo:Nat):Int) == 0 && (1:Int) == 1 && (sIx items.size items.size hi - sIx items.size 0 lo) == items.size)=true then _ else _) _ _ s
 rw [if_neg hno,Ziq]
 first
  | exact On (m:=Tl _) (Rm (Oq ⟨_,rfl,Oq h⟩) htake)
  | exact On (m:=Tl _) (Rm (On (Oq (Oq ⟨_,rfl,Oq h⟩))) htake)
  | exact On (On (m:=Tl _) (Rm (Oq (Oq ⟨_,rfl,Oq h⟩)) htake))
  | exact On (On (m:=Tl _) (Rm (Oq ⟨_,rfl,Oq h⟩) htake))
end
end HT
namespace L2
open PySem PySem.Spec PyProof.Rows
noncomputable abbrev TO:=St->Hp->(Option Int->Hp->Prop)->Prop
noncomputable def PO (X:Cx)(e:Option Expr)(t:TO):Prop :=
 ∀(pins:List (Addr×Obj))(s:Shared)(σ:St)(H:Hp)(Q:Option Int->Hp->Prop),Inv X pins σ H s->t σ H Q ->
  wpAny (model X.prog X.w) X.A (evalPart e X.env) (fun u s'=>∃ o H',Inv X pins σ H' s'/\IsPart u o/\Q o H') X.xe s
noncomputable def Zay:TO:=fun _ H Q=>Q none H
noncomputable def Zaz (t:TE):TO:=fun σ H Q=>t σ H fun x H1=>∃ i,x=.int i/\Q (some i) H1
section
variable {X:Cx}{e:Expr}{te:TE}{lo hi:Option Expr}{tl th:TO}{pos p2:Pos}
theorem Zkk:PO X none Zay:=by
 intro pins s σ H Q I h
 rw [evalPart_none]
 exact Oq ⟨none,H,I,.none,h⟩
theorem Zmc (h:PE X e te):PO X (some e) (Zaz te):=by
 intro pins s σ H Q I hw
 rw [evalPart_some]
 refine Ah (h pins s σ H _ I hw) fun u s1 zq=>?_
 obtain ⟨x,H1,I1,r1,q1⟩:=zq
 obtain ⟨i,rfl,q⟩:=q1
 obtain ⟨t,rfl⟩:=r1
 exact ⟨some i,H1,I1,.int i t,q⟩
noncomputable def SlR (X:Cx)(r:V->Option Int->Option Int->Hp->VK->Prop):Prop :=
 ∀(pins:List (Addr×Obj))(s:Shared)(σ:St)(H:Hp)(x:V)(v vl vu:Value)(lo hi:Option Int)(sl:Addr)(Q:VK),Inv X pins σ H s->RelV x v->s.heap.IsSliceOf sl vl vu .none->IsPart vl lo->IsPart vu hi->r x lo hi H Q ->
  ∃ T id,typeLookup (.type T) "__getitem__" = pure (some (.builtin id))/\s.TypeIs v T/\wpAny (model X.prog X.w) X.A (getItem v (.ref sl)) (EP X pins σ Q) X.xe s
theorem SlR.or {r r':V->Option Int->Option Int->Hp->VK->Prop}(h:SlR X r)(h':SlR X r'):SlR X (fun x lo hi H Q=>r x lo hi H Q\/r' x lo hi H Q):=by
 intro pins s σ H x v vl vu lo hi sl Q I rx hs pl pu q
 rcases q with q | q
 ·exact h pins s σ H x v vl vu lo hi sl Q I rx hs pl pu q
 ·exact h' pins s σ H x v vl vu lo hi sl Q I rx hs pl pu q
noncomputable def tSl (r:V->Option Int->Option Int->Hp->VK->Prop)(te:TE)(tl th:TO):TE:=fun σ H Q=>te σ H fun x H1=>tl σ H1 fun l H2=>th σ H2 fun u H3=>r x l u H3 Q
theorem Zom {r:V->Option Int->Option Int->Hp->VK->Prop}(hr:SlR X r)(he:PE X e te)(hl:PO X lo tl)(hu:PO X hi th):PE X (.Subscript e (.Slice lo hi none p2) pos) (tSl r te tl th):=by
 intro pins s σ H Q I h
 refine Subscript_ (Ah (he pins s σ H _ I h) fun v s1 zq=>?_)
 obtain ⟨x,H1,I1,r1,q1⟩:=zq
 refine wpAny_Slice (Ah (hl pins s1 σ H1 _ I1 q1) fun vl s2 zq=>?_)
 obtain ⟨l,H2,I2,pl,q2⟩:=zq
 refine Ah (hu pins s2 σ H2 _ I2 q2) fun vu s3 zq=>?_
 obtain ⟨u,H3,I3,pu,q3⟩:=zq
 rw [evalPart_none]
 refine Oq ?_
 have I4:Inv X pins σ H3 { s3 with heap:=s3.heap.push { cls:=.type "slice",data:=.fields #[vl,vu,.none] } }:=I3.kept (t':=s3.toks) fun b ob q=>Ou _ q
 obtain ⟨T,id,hT,ht,hg⟩:=hr pins { s3 with heap:=s3.heap.push { cls:=.type "slice",data:=.fields #[vl,vu,.none] } } σ H3 x v vl vu l u s3.heap.objs.size Q I4 r1 (Heap.IsSliceOf.new ..) pl pu q3
 show wpAny (model X.prog X.w) X.A (subscriptTail e (.Slice lo hi none p2) v (.ref s3.heap.objs.size)) (EP X pins σ Q) X.xe { s3 with heap:=s3.heap.push { cls:=.type "slice",data:=.fields #[vl,vu,.none] } }
 exact tail_any (ops:=[.ref s3.heap.objs.size,v]) ht hT hg (by with_unfolding_all rfl)
noncomputable def Bq (xs:List V)(lo hi:Option Int):List V:=(xs.drop (HT.sIx xs.length 0 lo)).take (HT.sIx xs.length xs.length hi - HT.sIx xs.length 0 lo)
theorem Zeh (xs:List V)(lo hi:Option Int):(Bq xs lo hi).length<=xs.length:=by
 unfold Bq
 rw [Ps,R1]
 omega
noncomputable def rSlT (K:Om):V->Option Int->Option Int->Hp->VK->Prop:=fun x lo hi H Q=>∃ a xs,x=.ref a/\SqT K H a xs /\
 ¬ (HT.sIx xs.length 0 lo=0/\HT.sIx xs.length xs.length hi=xs.length)/\∀ p,H p=none->Q (.ref p) (upd H p (.tup (Bq xs lo hi)))
theorem Zcg:SlR X (rSlT X.K):=by
 intro pins s σ H x v vl vu lo hi sl Q I rx hs pl pu h
 obtain ⟨a,xs,rfl,hx,hw,q⟩:=h
 cases rx
 obtain ⟨its,r,ht,hz⟩:=I.tuple hx
 have hlen:its.toArray.size=xs.length:=by rw [Ot];exact r.length.symm
 refine ⟨"tuple",_,Rs.lookup,ht.typeIs,?_⟩
 refine HT.getItem_tuple_cut ht hs pl pu (by rw [hlen];exact hw) ?_ (by rw [hlen];exact hz)
 rw [hlen]
 refine ⟨.ref s.heap.objs.size,_,I.laid (t':=s.toks) (o:=.tup (Bq xs lo hi)) (fun b ob q=>Ou _ q) (Os _) ?_,rfl,q _ (I.hok.fresh (Os _))⟩
 exact ⟨Pi (Zeh xs lo hi) hz,_,(r.drop (HT.sIx xs.length 0 lo)).take (HT.sIx xs.length xs.length hi - HT.sIx xs.length 0 lo),IsTup.new _ _⟩
noncomputable def Zhm (K:Om):R2:=fun x y H Q=>∃ a b xs ys,x=.ref a/\y=.ref b/\SqT K H a xs/\SqT K H b ys/\xs≠[]/\xs.length+ys.length<=sizeLine /\
 (ys=[]->Q (.ref a) H)/\(ys≠[]->∀ p,H p=none->Q (.ref p) (upd H p (.tup (xs++ys))))
theorem Vals.nil_iff {xs:List V}{us:List Value}(r:Vals xs us):us=[]↔xs=[]:=by
 cases r with
 | nil=>simp
 | cons _ _=>simp
theorem Zbw:OpR X (binaryOp .Add) (Zhm X.K):=by
 intro pins s σ H x y v u Q I rx ry h
 obtain ⟨a,b,xs,ys,rfl,rfl,ha,hb,hx,hz,q1,q2⟩:=h
 cases rx
 cases ry
 obtain ⟨its,r1,p1,_⟩:=I.tuple ha
 obtain ⟨its2,r2,p2,_⟩:=I.tuple hb
 refine HT.cat_tup p1 p2 (fun z=>hx (r1.nil_iff.mp z)) (fun z=>⟨.ref a,H,I,rfl,q1 (r2.nil_iff.mp z)⟩) (fun z=>?_) (by rw [<- r1.length,<- r2.length];exact hz)
 refine ⟨.ref s.heap.objs.size,_,I.laid (t':=s.toks) (o:=.tup (xs++ys)) (fun b ob q=>Ou _ q) (Os _) ?_,rfl,q2 (fun w=>z (r2.nil_iff.mpr w)) _ (I.hok.fresh (Os _))⟩
 exact ⟨by rw [O2];exact hz,_,r1.append r2,IsTup.new _ _⟩
end
noncomputable def Ds (n:Nat)(i:Int):Option Nat:=if 0<=i then (if i < n then some i.toNat else none) else if -(n:Int)<=i then some (i+n).toNat else none
noncomputable def Bv {α:Type}(xs:List α)(i:Int):Option α:=(Ds xs.length i).bind fun j=>xs[j]?
theorem Zfd {n:Nat}{i:Int}{j:Nat}(h:Ds n i=some j):seqIndex? i n=some j/\j < n/\-(n:Int)<=i/\i < n:=by
 unfold Ds at h
 by_cases h0:0<=i
 ·rw [if_pos h0] at h
  by_cases h1:i < n
  ·rw [if_pos h1] at h
   have e:i.toNat=j:=Ox h
   exact ⟨by rw [U4 h0 h1,e],by omega,by omega,h1⟩
  ·rw [if_neg h1] at h;cases h
 ·rw [if_neg h0] at h
  by_cases h1:-(n:Int)<=i
  ·rw [if_pos h1] at h
   have e:(i+n).toNat=j:=Ox h
   exact ⟨by rw [seqIndex_neg (by omega) h1,e],by omega,h1,by omega⟩
  ·rw [if_neg h1] at h;cases h
theorem Km {α:Type}{xs:List α}{i:Int}{v:α}(h:Bv xs i=some v):∃ j,seqIndex? i xs.length=some j/\xs[j]?=some v/\j < xs.length/\-(xs.length:Int)<=i/\i < xs.length:=by
 unfold Bv at h
 cases e:Ds xs.length i with
 | none=>rw [e] at h;cases h
 | some j =>
  rw [e] at h
  obtain ⟨h1,h2,h3,h4⟩:=Zfd e
  exact ⟨j,h1,h,h2,h3,h4⟩
theorem Gh {α:Type}{xs:List α}{j:Nat}{v:α}(h:xs[j]?=some v):Bv xs (j:Int)=some v:=by
 have hj:j < xs.length:=(O3.mp h).1
 have e:Ds xs.length (j:Int)=some j:=by
  unfold Ds
  rw [if_pos (by omega),if_pos (by omega)];simp
 unfold Bv;rw [e];exact h
noncomputable def Zaa (b:Expr):Prop:=∀ o i,subscripted b false o i=operate [o,i] (getItem o i)
noncomputable def IxR (X:Cx)(r:R2):Prop :=
 ∀(value slice:Expr)(pins:List (Addr×Obj))(s:Shared)(σ:St)(H:Hp)(x y:V)(v u:Value)(Q:VK),Inv X pins σ H s->RelV x v->RelV y u->r x y H Q ->
  subscripted slice false v u=operate [v,u] (getItem v u)->wpAny (model X.prog X.w) X.A (subscriptTail value slice v u) (EP X pins σ Q) X.xe s
noncomputable def E4 (X:Cx)(id:String)(r:V->List V->Hp->VK->Prop):Prop :=
 ∀(pins:List (Addr×Obj))(s:Shared)(σ:St)(H:Hp)(x:V)(xs:List V)(v:Value)(us:List Value)(Q:VK),Inv X pins σ H s->RelV x v->Vals xs us->r x xs H Q ->
  wpAny (model X.prog X.w) X.A (call (.builtin id) (v::us)) (EP X pins σ Q) X.xe s
section
variable {X:Cx}{a b:Expr}{ta tb:TE}{pos:Pos}
theorem IxR.or {r r':R2}(h:IxR X r)(h':IxR X r'):IxR X (fun x y H Q=>r x y H Q\/r' x y H Q):=by
 intro value slice pins s σ H x y v u Q I rx ry q hs
 rcases q with q | q
 ·exact h value slice pins s σ H x y v u Q I rx ry q hs
 ·exact h' value slice pins s σ H x y v u Q I rx ry q hs
theorem Zpu {r:R2}(hr:IxR X r)(ha:PE X a ta)(hb:PE X b tb)(hs:Zaa b):PE X (.Subscript a b pos) (Cw r ta tb):=by
 intro pins s σ H Q I h
 exact Subscript_ (Mp ha hb I h fun v u s2 x y H2 I2 rx ry q=>hr a b pins s2 σ H2 x y v u Q I2 rx ry q (hs _ _))
noncomputable def rIxL (K:Om):R2:=fun x y H Q=>∃ p xs i v,x=.ref p/\y=.int i/\SqL K H p xs/\Bv xs i=some v/\Q v H
noncomputable def rIxT (K:Om):R2:=fun x y H Q=>∃ p xs i v,x=.ref p/\y=.int i/\SqT K H p xs/\Bv xs i=some v/\Q v H
noncomputable def rIxS:R2:=fun x y H Q=>∃ z i c,x=.str z/\y=.int i/\z.length<=sizeLine/\Bv z.cps.toList i=some c/\Q (.str ⟨#[c]⟩) H
theorem ix_list:IxR X (rIxL X.K):=by
 intro value slice pins s σ H x y v u Q I rx ry h hs
 obtain ⟨p,xs,i,z,rfl,rfl,hq,he,q⟩:=h
 cases rx
 obtain ⟨t,rfl⟩:=ry
 obtain ⟨its,r,pl,hz⟩:=I.list hq
 obtain ⟨j,h1,h2,h3,h4,h5⟩:=Km he
 obtain ⟨w,ew,rw'⟩:=r.get h2
 have hl:=r.length
 have hn:=Gz
 have fin:EP X pins σ Q w s:=⟨z,H,I,rw',q⟩
 by_cases h0:0<=i
 ·have hj:i.toNat=j:=by
   rw [U4 h0 h5] at h1
   exact Ox h1
  exact item_listR pl.isList h0 (by omega) (by rw [hj];simpa using ew) fin hs
 ·have hj:(i+(its.toArray.size:Int)).toNat=j:=by
   rw [seqIndex_neg (by omega) h4] at h1
   rw [Ot,<- hl]
   exact Ox h1
  exact subscriptTail_builtinR (x:=w) pl.isList.typeIs slot_list_getitem.lookup
   (wpAny_getItem_list_neg (Q:=fun r s'=>r=w/\EP X pins σ Q r s') pl.isList (by omega) (by rw [Ot] <;> omega) (by omega) (by rw [hj];simpa using ew) ⟨rfl,fin⟩) hs
theorem ix_tup:IxR X (rIxT X.K):=by
 intro value slice pins s σ H x y v u Q I rx ry h hs
 obtain ⟨p,xs,i,z,rfl,rfl,hq,he,q⟩:=h
 cases rx
 obtain ⟨t,rfl⟩:=ry
 obtain ⟨its,r,pl,hz⟩:=I.tuple hq
 obtain ⟨j,h1,h2,h3,h4,h5⟩:=Km he
 obtain ⟨w,ew,rw'⟩:=r.get h2
 have hl:=r.length
 have hn:=Gz
 have fin:EP X pins σ Q w s:=⟨z,H,I,rw',q⟩
 exact subscriptTail_builtinR (x:=w) pl.typeIs slot_tuple_getitem.lookup
  (getItem_tuple (j:=j) (Q:=fun r s'=>r=w/\EP X pins σ Q r s') pl (by omega) (by omega) (by rw [Ot,<- hl];exact h1) (by simpa using ew) ⟨rfl,fin⟩) hs
theorem Zl5:IxR X rIxS:=by
 intro value slice pins s σ H x y v u Q I rx ry h hs
 obtain ⟨z,i,c,rfl,rfl,hz,he,q⟩:=h
 obtain ⟨t,rfl⟩:=rx
 obtain ⟨t',rfl⟩:=ry
 obtain ⟨j,h1,h2,h3,h4,h5⟩:=Km he
 have hl:z.cps.toList.length=z.length:=by simp [Str.length]
 rw [hl] at h1 h4 h5
 have hn:=Gz
 exact tail_any (typeIs_str s z t) slot_str_getitem.lookup (getItem_str (c:=c) (by
  have e1:decide (i < -(2 ^ 63:Int))=false:=decide_eq_false (by omega)
  have e2:decide (i ≥ 2 ^ 63)=false:=decide_eq_false (by omega)
  rw [e1,e2,Bool.or_false]) (by rw [h1];simpa using h2) ⟨.str ⟨#[c]⟩,H,I.tok _,⟨_,rfl⟩,q⟩) hs
noncomputable def Fg (K:Om):R2:=fun x y H Q=>rIxL K x y H Q\/rIxT K x y H Q\/rIxS x y H Q
theorem Zn8:IxR X (Fg X.K):=ix_list.or (ix_tup.or Zl5)
theorem Znt (its:List Value)(n j:Nat)(u:Value):P3 (·.setIfInBounds j u) { cls:=.type "list",data:=.seq its.toArray n }={ cls:=.type "list",data:=.seq (its.set j u).toArray n }:=by
 simp [P3]
theorem Inv.lst {pins:List (Addr×Obj)}{σ:St}{H:Hp}{s:Shared}{p:Addr}{xs:List V}(I:Inv X pins σ H s)(h:H p=some (.lst xs)) :
  ∃(its:List Value)(n:Nat),Vals xs its/\s.heap.get? p=some { cls:=.type "list",data:=.seq its.toArray n }/\xs.length<=sizeLine:=by
 obtain ⟨z,its,n,r,e⟩:=I.hok p _ h
 exact ⟨its,n,r,e,z⟩
theorem Inv.lstUpd {pins:List (Addr×Obj)}{σ:St}{H:Hp}{s:Shared}{p:Addr}{xs ys:List V}{its its':List Value}{n n':Nat}{f:Obj->Obj}(I:Inv X pins σ H s)(h:H p=some (.lst xs))
  (ho:s.heap.get? p=some { cls:=.type "list",data:=.seq its.toArray n }) (hf:f { cls:=.type "list",data:=.seq its.toArray n }={ cls:=.type "list",data:=.seq its'.toArray n' }) (r:Vals ys its') (hz:ys.length<=sizeLine) (t:Nat) :
  Inv X pins σ (upd H p (.lst ys)) { s with heap:=s.heap.update p f,toks:=t }:=by
 have e:(s.heap.update p f).get? p=some { cls:=.type "list",data:=.seq its'.toArray n' }:=by
  rw [Rv f ho (by rw [hf] <;> rfl),hf]
 refine I.write (x:=p) (e:=p) (by rw [h];trivial) (.inl rfl) (fun b u hb q=>(Ru _ _ (Pm hb)).trans q) ⟨_,e⟩ ?_
 exact ⟨hz,its',n',r,e⟩
noncomputable def Zga:V->V->V->Hp->(Hp->Prop)->Prop:=fun o i v H Q=>∃ p xs k j,o=.ref p/\i=.int k/\H p=some (.lst xs)/\Ds xs.length k=some j/\Q (upd H p (.lst (xs.set j v)))
theorem Zqx:Za6 X Zga:=by
 intro pins s σ H o i v ov iv u Q I ro ri rv h
 obtain ⟨p,xs,k,j,rfl,rfl,hp,hj,q⟩:=h
 cases ro
 obtain ⟨t,rfl⟩:=ri
 obtain ⟨its,n,r,ho,hz⟩:=I.lst hp
 obtain ⟨h1,h2,h3,h4⟩:=Zfd hj
 have hl:=r.length
 have hn:=Gz
 have I':Inv X pins σ (upd H p (.lst (xs.set j v))) { s with heap:=s.heap.update p (P3 (·.setIfInBounds j u)) } :=
  I.lstUpd hp ho (Znt its n j u) (r.set rv j) (by rw [R4];exact hz) s.toks
 by_cases h0:0<=k
 ·have hk:k.toNat=j:=by
   rw [U4 h0 h4] at h1
   exact Ox h1
  exact PySem.W.ki_setAt ho h0 (by omega) (by rw [Ot,<- hl];exact h4) (by rw [hk];exact ⟨_,I',q⟩)
 ·have hk:(k+(its.toArray.size:Int)).toNat=j:=by
   rw [seqIndex_neg (by omega) h3] at h1
   rw [Ot,<- hl]
   exact Ox h1
  exact PySem.W.ki_setBack ho (by omega) (by rw [Ot,<- hl];exact h3) (by omega) (by rw [hk];exact ⟨_,I',q⟩)
theorem Zio (lo hi:Option Int)(n:Nat):(sliceBounds lo hi none n).1=((HT.sIx n 0 lo:Nat):Int)/\(sliceBounds lo hi none n).2.1=((HT.sIx n n hi:Nat):Int)/\(sliceBounds lo hi none n).2.2=1:=by
 refine ⟨?_,?_,rfl⟩
 ·cases lo with
  | none=>simp [sliceBounds,HT.sIx]
  | some i =>
   simp only [sliceBounds,HT.sIx,Option.getD_none,show (1:Int) > 0 by decide,if_true]
   by_cases h:i < 0
   ·simp only [h,if_true] <;> omega
   ·simp only [h,if_false] <;> omega
 ·cases hi with
  | none=>simp [sliceBounds,HT.sIx]
  | some i =>
   simp only [sliceBounds,HT.sIx,Option.getD_none,show (1:Int) > 0 by decide,if_true]
   by_cases h:i < 0
   ·simp only [h,if_true] <;> omega
   ·simp only [h,if_false] <;> omega
theorem Zqc (its:List Value)(lo hi:Option Int):slicePick its.toArray lo hi none=((its.drop (HT.sIx its.length 0 lo)).take (HT.sIx its.length its.length hi - HT.sIx its.length 0 lo)).toArray:=by
 obtain ⟨h1,h2,h3⟩:=Zio lo hi its.toArray.size
 unfold slicePick
 rw [h1,h2,h3]
 simp only [sliceRange_one,pick_run,Ot] <;> rfl
noncomputable def M7 (K:Om):V->Option Int->Option Int->Hp->VK->Prop:=fun x lo hi H Q=>∃ a xs,x=.ref a/\SqL K H a xs/\∀ p,H p=none->Q (.ref p) (upd H p (.lst (Bq xs lo hi)))
theorem sl_list:SlR X (M7 X.K):=by
 intro pins s σ H x v vl vu lo hi sl Q I rx hs pl pu h
 obtain ⟨a,xs,rfl,hx,q⟩:=h
 cases rx
 obtain ⟨its,r,ht,hz⟩:=I.list hx
 have hlen:=r.length
 refine ⟨"list",_,slot_list_getitem.lookup,ht.isList.typeIs,?_⟩
 refine wpAny_getItem_list_slice ht.isList hs pl pu .none (by simp) ?_ (by rw [Ot] <;> omega)
 rw [Zqc,<- hlen]
 refine ⟨.ref s.heap.objs.size,_,I.laid (t':=s.toks) (o:=.lst (Bq xs lo hi)) (fun b ob q=>Ou _ q) (Os _) ?_,rfl,q _ (I.hok.fresh (Os _))⟩
 exact ⟨Pi (Zeh xs lo hi) hz,_,0,(r.drop (HT.sIx xs.length 0 lo)).take (HT.sIx xs.length xs.length hi - HT.sIx xs.length 0 lo),O4 _ rfl⟩
noncomputable def Bw:V->Bool
 | .non=>true
 | .bl _=>true
 | .int _=>true
 | .str _=>true
 | _=>false
noncomputable def Dh:V->V->Bool
 | .non,.non=>true
 | .bl a,.bl b=>a == b
 | .bl a,.int b=>(if a then 1 else 0) == b
 | .int a,.bl b=>a == (if b then 1 else 0)
 | .int a,.int b=>a == b
 | .str a,.str b=>a == b
 | _,_=>false
theorem Me {A:Around}{s:Shared}{y x:V}{u v:Value}(ry:RelV y u)(rx:RelV x v)(fy:Bw y=true)(fx:Bw x=true):Ov A s u v (Dh y x):=by
 cases y with
 | non =>
  cases ry
  cases x with
  | non=>cases rx;exact R5 _
  | bl b=>cases rx;exact Ov.none_bool b
  | int b=>obtain ⟨t,rfl⟩:=rx;exact Ov.none_int b t
  | str b=>obtain ⟨t,rfl⟩:=rx;exact Ov.none_str b t
  | _=>exact absurd (show false=true from fx) Oz
 | bl a =>
  cases ry
  cases x with
  | non=>cases rx;exact Ov.bool_none a
  | bl b=>cases rx;exact Ov.bool_bool a b
  | int b=>obtain ⟨t,rfl⟩:=rx;exact Ov.bool_int a b t
  | str b=>obtain ⟨t,rfl⟩:=rx;exact Ov.bool_str a b t
  | _=>exact absurd (show false=true from fx) Oz
 | int a =>
  obtain ⟨t',rfl⟩:=ry
  cases x with
  | non=>cases rx;exact Ov.int_none a t'
  | bl b=>cases rx;exact Ov.int_bool a t' b
  | int b=>obtain ⟨t,rfl⟩:=rx;exact Ov.int_int a t' b t
  | str b=>obtain ⟨t,rfl⟩:=rx;exact Vj a t' b t
  | _=>exact absurd (show false=true from fx) Oz
 | str a =>
  obtain ⟨t',rfl⟩:=ry
  cases x with
  | non=>cases rx;exact Ov.str_none a t'
  | bl b=>cases rx;exact Ov.str_bool a t' b
  | int b=>obtain ⟨t,rfl⟩:=rx;exact Vk a t' b t
  | str b=>obtain ⟨t,rfl⟩:=rx;exact T6 a t' b t
  | _=>exact absurd (show false=true from fx) Oz
 | _=>exact absurd (show false=true from fy) Oz
noncomputable def Ck (x:V)(u:Value):Bool:=match u with
 | .none=>Dh .non x
 | .bool b=>Dh (.bl b) x
 | .int i _=>Dh (.int i) x
 | .str z _=>Dh (.str z) x
 | _=>false
theorem Zcj {x y:V}{u:Value}(r:RelV y u)(f:Bw y=true):Ck x u=Dh y x:=by
 cases y with
 | non=>cases r;rfl
 | bl b=>cases r;rfl
 | int i=>obtain ⟨t,rfl⟩:=r;rfl
 | str z=>obtain ⟨t,rfl⟩:=r;rfl
 | _=>exact absurd (show false=true from f) Oz
theorem Jc {x:V}:∀{xs:List V}{us:List Value},Vals xs us->xs.all Bw=true->us.any (Ck x)=xs.any fun y=>Dh y x
 | _,_,.nil,_=>rfl
 | y::xs,u::us,.cons r t,f=>by
  rw [Ro,Pt] at f
  rw [Sw,Sw,Zcj r f.1,Jc t f.2]
theorem Jo {A:Around}{s:Shared}{x:V}{v:Value}(rx:RelV x v)(fx:Bw x=true):∀{xs:List V}{us:List Value},Vals xs us->xs.all Bw=true->∀ u∈us,Ov A s u v (Ck x u)
 | _,_,.nil,_=>fun u hu=>by cases hu
 | y::xs,u::us,.cons r t,f=>fun u' hu=>by
  rw [Ro,Pt] at f
  rcases Oy.mp hu with rfl | hu
  ·rw [Zcj r f.1];exact Me r rx f.1 fx
  ·exact Jo rx fx t f.2 u' hu
noncomputable def C4 (x:V)(xs:List V):Bool:=xs.any fun y=>Dh y x
noncomputable def rIn (K:Om)(neg:Bool):R2:=fun x y H Q=>∃ p xs,y=.ref p/\(SqL K H p xs\/SqT K H p xs)/\Bw x=true/\xs.all Bw=true/\Q (.bl (if neg then !C4 x xs else C4 x xs)) H
theorem op_in_seq:OpR X (compareOp .In) (rIn X.K false):=by
 intro pins s σ H x y v u Q I rx ry h
 obtain ⟨p,xs,rfl,hq,fx,fs,q⟩:=h
 cases ry
 rcases hq with hq | hq
 ·obtain ⟨its,r,pl,hz⟩:=I.list hq
  refine SeqAt.in_listAt (Ck x) pl.isList (fun w hw=>Jo rx fx r fs w (by simpa using hw)) ⟨.bl _,H,I,rfl,?_⟩
  rw [show its.toArray.any (Ck x)=its.any (Ck x) by simp,Jc r fs]
  exact q
 ·obtain ⟨its,r,pl,hz⟩:=I.tuple hq
  refine SeqAt.in_tupleAt (Ck x) pl (fun w hw=>Jo rx fx r fs w (by simpa using hw)) ⟨.bl _,H,I,rfl,?_⟩
  rw [show its.toArray.any (Ck x)=its.any (Ck x) by simp,Jc r fs]
  exact q
theorem op_notIn_seq:OpR X (compareOp .NotIn) (rIn X.K true):=by
 intro pins s σ H x y v u Q I rx ry h
 obtain ⟨p,xs,rfl,hq,fx,fs,q⟩:=h
 cases ry
 rcases hq with hq | hq
 ·obtain ⟨its,r,pl,hz⟩:=I.list hq
  refine SeqAt.notIn_listAt (Ck x) pl.isList (fun w hw=>Jo rx fx r fs w (by simpa using hw)) ⟨.bl _,H,I,rfl,?_⟩
  rw [show its.toArray.any (Ck x)=its.any (Ck x) by simp,Jc r fs]
  exact q
 ·obtain ⟨its,r,pl,hz⟩:=I.tuple hq
  refine SeqAt.notIn_tupleAt (Ck x) pl (fun w hw=>Jo rx fx r fs w (by simpa using hw)) ⟨.bl _,H,I,rfl,?_⟩
  rw [show its.toArray.any (Ck x)=its.any (Ck x) by simp,Jc r fs]
  exact q
theorem Zpo:Cf X (.type "tuple") (fun xs H Q=>∃ p ys,xs=[.ref p]/\((SqL X.K H p ys/\∀ l,H l=none->Q (.ref l) (upd H l (.tup ys)))\/(SqT X.K H p ys/\Q (.ref p) H))):=by
 intro pins s σ H xs us Q I r h
 obtain ⟨p,ys,rfl,h⟩:=h
 obtain ⟨u,rfl,rx⟩:=Ls r
 cases rx
 rcases h with ⟨hq,q⟩ | ⟨hq,q⟩
 ·obtain ⟨its,r',pl,hz⟩:=I.list hq
  have hlen:=r'.length
  refine call_tuple_list pl.isList (fun h' kp=>?_) (by simp only [Ot] <;> omega)
  have I1:Inv X pins σ H { s with heap:=h' }:=I.kept (t':=s.toks) kp
  have I2:Inv X pins σ (upd H h'.objs.size (.tup ys)) { s with heap:=h'.push { cls:=.type "tuple",data:=.seq its.toArray } } :=
   I1.laid (t':=s.toks) (fun b o e=>Ou _ e) (Os _) (show ObjOk X.prog X.w _ _ _ (.tup ys) from ⟨hz,its,r',IsTup.new _ _⟩)
  exact ⟨.ref h'.objs.size,_,I2,rfl,q _ (I1.hok.fresh (Os _))⟩
 ·obtain ⟨its,r',pl,hz⟩:=I.tuple hq
  exact call_tuple_same pl ⟨.ref p,H,I,rfl,q⟩
noncomputable def Gi (K:Om)(T:String)(x:V)(H:Hp):Prop:=match x with
 | .str _=>T = "str"
 | .int _=>T = "int"
 | .ref p=>(T = "list" /\ ∃ xs,SqL K H p xs)\/(T = "tuple" /\ ∃ o,K.lookup p=some o/\o.cls=.type "tuple" /\ o.dict=none) \/
   (T = "dict" /\ ((∃ kvs,H p=some (.dK kvs))\/∃ kvs,H p=some (.dT kvs)))\/(T = "set" /\ ∃ S n,H p=some (.set S n))
 | _=>False
theorem Zd4 {pins:List (Addr×Obj)}{σ:St}{H:Hp}{s:Shared}{T:String}{x:V}{v:Value}(I:Inv X pins σ H s)(r:RelV x v)(ty:Gi X.K T x H) :
  s.TypeIs v T/\∀ a,v=.ref a->∃ ob,s.heap.get? a=some ob/\ob.dict=none:=by
 cases x with
 | str z =>
  obtain ⟨t,rfl⟩:=r
  cases (show T = "str" from ty)
  exact ⟨typeIs_str s z t,fun _ e=>nomatch e⟩
 | int i =>
  obtain ⟨t,rfl⟩:=r
  cases (show T = "int" from ty)
  exact ⟨Tc s i t,fun _ e=>nomatch e⟩
 | ref p =>
  cases r
  rcases ty with ⟨rfl,xs,hq⟩ | ⟨rfl,o,hk,hc,hd⟩ | ⟨rfl,hk⟩ | ⟨rfl,S,n,hk⟩
  ·obtain ⟨its,_,pl,_⟩:=I.list hq
   refine ⟨pl.isList.typeIs,fun a e=>?_⟩
   cases e
   obtain ⟨o,n,e,c,hd,_⟩:=pl
   exact ⟨o,e,hd⟩
  ·refine ⟨⟨o,I.kIn p o hk,hc⟩,fun a e=>?_⟩
   cases e
   exact ⟨o,I.kIn _ o hk,hd⟩
  ·have z:∃ o,s.heap.get? p=some o/\o.ExactDict:=by
    rcases hk with ⟨kvs,hk⟩ | ⟨kvs,hk⟩
    ·obtain ⟨_,_,_,_,o,_,_,e,ex,_⟩:=I.hok p _ hk
     exact ⟨o,e,ex⟩
    ·obtain ⟨_,_,_,_,o,_,_,e,ex,_⟩:=I.hok p _ hk
     exact ⟨o,e,ex⟩
   obtain ⟨o,e,ex⟩:=z
   refine ⟨⟨o,e,ex.1⟩,fun a e2=>?_⟩
   cases e2
   exact ⟨o,e,ex.2.1⟩
  ·obtain ⟨o,_,_,_,e,ex,_⟩:=I.hok p _ hk
   refine ⟨⟨o,e,ex.1⟩,fun a e2=>?_⟩
   cases e2
   exact ⟨o,e,ex.2.1⟩
 | _=>exact Qc ty
noncomputable def Le (K:Om)(T:String)(r:V->List V->Hp->VK->Prop)(to:TE):TE:=fun σ H Q=>to σ H fun x H1=>Gi K T x H1/\r x [] H1 Q
noncomputable def tBM (K:Om)(T:String)(r:V->List V->Hp->VK->Prop)(to:TE)(t:TA):TE:=fun σ H Q=>to σ H fun x H1=>Gi K T x H1/\t σ H1 fun xs H2=>r x xs H2 Q
variable {o e:Expr}{es:List Expr}{to:TE}{t:TA}{name:Str}{apos cpos:Pos}{T id:String}{r:V->List V->Hp->VK->Prop}
theorem Zmv (pa:PlainAttrs T)(slot:Slot T name id)(hty:typeOf (.builtin id)=pure (.type "method_descriptor"))(hm:E4 X id r)(ho:PE X o to)
  (hbase:attributeBase o name X.env (eval o X.env)=eval o X.env:=by rfl) (hline:(apos.endLine == cpos.line)=true:=by rfl):PE X (.Call (.Attribute o name apos) [] [] cpos) (Le X.K T r to):=by
 intro pins s σ H Q I h
 refine wpAny_Call_method0_late hbase hline (Ah (ho pins s σ H _ I h) fun v s1 zq=>?_)
 obtain ⟨x,H1,I1,r1,ty,q1⟩:=zq
 obtain ⟨h1,h2⟩:=Zd4 I1 r1 ty
 exact ⟨T,id,pa,slot,hty,h1,h2,Calls.callWith_builtin rfl (PySem.evalArgs_none (hm pins s1 σ H1 x [] v [] Q I1 r1 .nil q1))⟩
theorem Zoh (pa:PlainAttrs T)(slot:Slot T name id)(hty:typeOf (.builtin id)=pure (.type "method_descriptor"))(hm:E4 X id r)(ho:PE X o to)(ha:PA X (e::es) t)
  (hbase:attributeBase o name X.env (eval o X.env)=eval o X.env:=by rfl)
  (hfew:((backTo cpos (starEach (e::es) X.env)).all (fun x=>!x.1) && (backToKw cpos (keywordEach [] X.env)).all (fun x=>x.1.isSome)
   && decide ((e::es).length+([]:List Keyword).length+(if ([]:List Keyword).isEmpty then 0 else 1) < 30))=true:=by rfl)
  (hline:(apos.endLine == cpos.line)=true:=by rfl) (hs:starEach (e::es) X.env=(false,eval e X.env)::starEach es X.env:=by rfl) (hplain:(backTo cpos (starEach es X.env)).any (·.1)=false:=by rfl) :
  PE X (.Call (.Attribute o name apos) (e::es) [] cpos) (tBM X.K T r to t):=by
 intro pins s σ H Q I h
 refine wpAny_Call_method_late hbase hfew hline rfl (Ah (ho pins s σ H _ I h) fun v s1 zq=>?_)
 obtain ⟨x,H1,I1,r1,ty,q1⟩:=zq
 obtain ⟨h1,h2⟩:=Zd4 I1 r1 ty
 refine ⟨T,id,pa,slot,hty,h1,h2,?_⟩
 have hA:=ha cpos pins s1 σ H1 _ I1 q1
 rw [hs] at hA ⊢
 refine Calls.callWith_builtin (by show (false || (backTo cpos (starEach es X.env)).any (·.1))=false;rw [hplain] <;> rfl) (Calls.evalArgs_plain ?_)
 exact Ah hA fun us s2 ⟨vs,H2,I2,r2,q2⟩=>hm pins s2 σ H2 x vs v us Q I2 r1 r2 q2
end
noncomputable def MtM (X:Cx)(id:String)(r:V->List V->Hp->VK->Prop):Prop :=
 ∀(pins:List (Addr×Obj))(s:Shared)(σ:St)(H:Hp)(x:V)(xs:List V)(v:Value)(us:List Value)(Q:VK),Inv X pins σ H s->RelV x v->Vals xs us->r x xs H Q ->
  wpAny (model X.prog X.w) X.A (call (.builtin id) (v::us)) (EP X pins σ Q) X.xe s
theorem Vals.one:∀{x:V}{us:List Value},Vals [x] us->∃ u,us=[u]/\RelV x u
 := fun h=>by
 cases h with
 | cons r t =>
 cases t
 exact ⟨_,rfl,r⟩
theorem Vals.two:∀{x y:V}{us:List Value},Vals [x,y] us->∃ u v,us=[u,v]/\RelV x u/\RelV y v
 := fun h=>by
 cases h with
 | cons r t =>
 cases t with
 | cons q z =>
 cases z
 exact ⟨_,_,rfl,r,q⟩
theorem Vals.zero:∀{us:List Value},Vals [] us->us=[]
 | _,.nil=>rfl
theorem Vals.dropLast {xs:List V}{us:List Value}(h:Vals xs us):Vals xs.dropLast us.dropLast:=by
 induction h with
 | nil=>exact .nil
 | cons r t ih =>
  cases t with
  | nil=>exact .nil
  | cons q t'=>exact .cons r ih
theorem Vals.rep {xs:List V}{us:List Value}(h:Vals xs us):∀ k:Nat,Vals (O0 k xs).flatten (O0 k us).flatten
 | 0=>.nil
 | k+1=>by
  rw [Rb,Rb,Sq,Sq]
  exact Vals.append h (Vals.rep h k)
theorem Zrn {α:Type}(l:List α):l.eraseIdx (l.length - 1)=l.dropLast:=by
 induction l with
 | nil=>rfl
 | cons a r ih =>
  cases r with
  | nil=>rfl
  | cons b r =>
   have e:(a::b::r).length - 1=((b::r).length - 1)+1:=by
    have h1:(a::b::r).length=r.length+2:=rfl
    have h2:(b::r).length=r.length+1:=rfl
    omega
   rw [e,List.eraseIdx_cons_succ,ih]
   all_goals rfl
theorem Oe (its:List Value):∀(k:Nat)(acc:List Value),
  Td (fun x1 x2=>x1++x2) acc.toArray (O0 k its.toArray)=(acc++(O0 k its).flatten).toArray
 | 0,acc=>by simp
 | k+1,acc=>by
  have e:acc.toArray++its.toArray=(acc++its).toArray:=by simp
  have e2:(acc++its)++(O0 k its).flatten=acc++(O0 (k+1) its).flatten:=by
   rw [Rb,Sq,P8]
  rw [<- e2,<- Oe its k (acc++its),<- e,Rb,List.foldl_cons]
section
variable {X:Cx}{pins:List (Addr×Obj)}{σ:St}{H:Hp}{s:Shared}{l b:Addr}{xs ys zs:List V}
theorem Inv.lset {its its':List Value}{n:Nat}{f:Array Value->Array Value}{t':Nat}(I:Inv X pins σ H s)(hH:H l=some (.lst xs))
  (e:s.heap.get? l=some { cls:=.type "list",data:=.seq its.toArray n }) (hf:f its.toArray=its'.toArray) (hv:Vals ys its') (hz:ys.length<=sizeLine) :
  Inv X pins σ (upd H l (.lst ys)) { s with heap:=s.heap.update l (P3 f),toks:=t' }:=by
 have q:=PySem.IsL.update e f
 rw [hf] at q
 refine I.write (x:=l) (e:=l) (by rw [hH];exact trivial) (.inl rfl) (fun b' u hb hu=>(Ru s.heap (P3 f) (Pm hb)).trans hu) ⟨_,q⟩ ?_
 exact ⟨hz,its',_,hv,q⟩
theorem Inv.lnew {its:List Value}{t':Nat}(I:Inv X pins σ H s)(hv:Vals ys its)(hz:ys.length<=sizeLine) :
  Inv X pins σ (upd H s.heap.objs.size (.lst ys)) { s with heap:=s.heap.push { cls:=.type "list",data:=.seq its.toArray },toks:=t' } :=
 I.laid (fun _ _ q=>Ou _ q) (Os _) ⟨hz,its,0,hv,O4 _ rfl⟩
theorem Inv.fresh (I:Inv X pins σ H s):H s.heap.objs.size=none:=I.hok.fresh (Os _)
theorem Inv.lstM (I:Inv X pins σ H s)(hH:H l=some (.lst xs)):xs.length<=sizeLine/\∃(its:List Value)(n:Nat),Vals xs its/\xs.length=its.length/\s.heap.get? l=some { cls:=.type "list",data:=.seq its.toArray n }:=by
 obtain ⟨z,its,n,r,e⟩:=I.hok l _ hH
 exact ⟨z,its,n,r,r.length,e⟩
theorem Zbl {n:Nat}(h:n<=sizeLine):To n=false:=by
 unfold To
 exact decide_eq_false (by omega)
end
section
variable {X:Cx}
noncomputable def Md:V->List V->Hp->VK->Prop:=fun x vs H Q=>∃ l xs y,x=.ref l/\vs=[y]/\H l=some (.lst xs)/\xs.length < sizeLine/\Q .non (upd H l (.lst (xs++[y])))
theorem C8:MtM X "list.append" Md:=by
 intro pins s σ H x vs v us Q I rx rv h
 obtain ⟨l,xs,y,rfl,rfl,hH,hz,q⟩:=h
 cases rx
 obtain ⟨u,rfl,ru⟩:=rv.one
 obtain ⟨z,its,n,r,hl,e⟩:=I.lstM hH
 refine Q9 F.slot_list_append ⟨_,e,rfl⟩ F.entry_list_append (F.args_list_append_2 _ _) (PySem.list_append l its.toArray n u (by rw [Ot];omega)) ⟨e,?_⟩
 refine ⟨.non,_,I.lset (its':=its++[u]) hH e (by simp) (r.append (.cons ru .nil)) ?_,rfl,q⟩
 rw [O2,Qo]
 omega
noncomputable def Zc8:V->List V->Hp->VK->Prop:=fun x vs H Q=>∃ l b xs zs,x=.ref l/\vs=[.ref b]/\H l=some (.lst xs)/\H b=some (.lst zs)/\xs.length+zs.length<=sizeLine/\Q .non (upd H l (.lst (xs++zs)))
theorem Zle:MtM X "list.extend" Zc8:=by
 intro pins s σ H x vs v us Q I rx rv h
 obtain ⟨l,b,xs,zs,rfl,rfl,hH,hB,hz,q⟩:=h
 cases rx
 obtain ⟨u,rfl,ru⟩:=rv.one
 cases ru
 obtain ⟨z,its,n,r,hl,e⟩:=I.lstM hH
 obtain ⟨z2,its2,n2,r2,hl2,e2⟩:=I.lstM hB
 have hsz:its.toArray.size+its2.toArray.size<=sizeLine:=by rw [Ot,Ot];omega
 have hlong:¬ (!its.toArray.isEmpty && To (its.toArray.size+its2.toArray.size))=true:=by
  rw [Zbl hsz,Uq]
  exact Oz
 refine Q9 F.slot_list_extend ⟨_,e,rfl⟩ F.entry_list_extend (F.args_list_extend_2 _ _)
  (AutoSeq1.list_extend_list_list_0 l its.toArray n b its2.toArray n2 hlong (by rw [Ot];omega) (by omega)) ⟨e,e2,?_⟩
 refine ⟨.non,_,I.lset (its':=its++its2) hH e (by simp) (r.append r2) ?_,rfl,q⟩
 rw [O2]
 omega
noncomputable def rPop:V->List V->Hp->VK->Prop:=fun x vs H Q=>∃ l xs y,x=.ref l/\vs=[]/\H l=some (.lst xs)/\xs[xs.length - 1]?=some y/\Q y (upd H l (.lst xs.dropLast))
theorem K5:MtM X "list.pop" rPop:=by
 intro pins s σ H x vs v us Q I rx rv h
 obtain ⟨l,xs,y,rfl,rfl,hH,hy,q⟩:=h
 cases rx
 have hus:=rv.zero
 subst hus
 obtain ⟨z,its,n,r,hl,e⟩:=I.lstM hH
 obtain ⟨u,hu,ru⟩:=r.get hy
 have hy':its.toArray[its.toArray.size - 1]?=some u:=by
  show its.toArray[its.length - 1]?=some u
  rw [<- Array.getElem?_toList,<- hl]
  exact hu
 refine Q9 F.slot_list_pop ⟨_,e,rfl⟩ F.entry_list_pop (F.args_list_pop_1 _) (MeetsSeq.list_pop_last l its.toArray n u hy' (by rw [Ot];omega)) ⟨e,?_⟩
 refine ⟨y,_,I.lset (its':=its.dropLast) hH e ?_ r.dropLast ?_,ru,q⟩
 ·show its.toArray.eraseIdxIfInBounds (its.toArray.size - 1)=its.dropLast.toArray
  rw [Ot,List.eraseIdxIfInBounds_toArray,Zrn]
 ·rw [List.length_dropLast]
  omega
noncomputable def rCat:R2:=fun x y H Q=>∃ l b xs zs,x=.ref l/\y=.ref b/\H l=some (.lst xs)/\H b=some (.lst zs)/\xs.length+zs.length<=sizeLine/\∀ p,H p=none->Q (.ref p) (upd H p (.lst (xs++zs)))
theorem op_cat:OpR X (binaryOp .Add) rCat:=by
 intro pins s σ H x y v u Q I rx ry h
 obtain ⟨l,b,xs,zs,rfl,rfl,hH,hB,hz,q⟩:=h
 cases rx
 cases ry
 obtain ⟨z,its,n,r,hl,e⟩:=I.lstM hH
 obtain ⟨z2,its2,n2,r2,hl2,e2⟩:=I.lstM hB
 refine PySem.P.add_list e e2 ?_ (by rw [Ot,Ot];omega)
 have ea:its.toArray++its2.toArray=(its++its2).toArray:=by simp
 rw [ea]
 exact ⟨.ref _,_,I.lnew (t':=s.toks) (r.append r2) (by rw [O2];omega),rfl,q _ I.fresh⟩
noncomputable def rRep:R2:=fun x y H Q=>∃ l k xs,x=.ref l/\y=.int k/\H l=some (.lst xs)/\-(2 ^ 63)<=k/\k < 2 ^ 63/\xs.length * k.toNat<=sizeLine /\
 ∀ p,H p=none->Q (.ref p) (upd H p (.lst (O0 k.toNat xs).flatten))
theorem Li {α:Type}(xs:List α)(k:Nat):(O0 k xs).flatten.length=k * xs.length:=by
 induction k with
 | zero=>simp
 | succ k ih=>rw [Rb,Sq,O2,ih,Nat.succ_mul,Nat.add_comm]
theorem Znz:OpR X (binaryOp .Mult) rRep:=by
 intro pins s σ H x y v u Q I rx ry h
 obtain ⟨l,k,xs,rfl,rfl,hH,h1,h2,hz,q⟩:=h
 cases rx
 obtain ⟨t,rfl⟩:=ry
 obtain ⟨z,its,n,r,hl,e⟩:=I.lstM hH
 have hlen:its.toArray.size * k.toNat<=sizeLine:=by rw [Ot,<- hl];exact hz
 have hcap:¬ its.toArray.size * k.toNat > (2 ^ 63 - 1) / 8:=by
  have:(sizeLine:Nat)<=(2 ^ 63 - 1) / 8:=by decide
  omega
 have hfit:¬ (!Builtin.List.listFitsIndex k)=true:=by
  rw [fitsIndex_both h1 h2]
  exact Oz
 have hlong:¬ To (its.toArray.size * k.toNat)=true:=by
  rw [Zbl hlen]
  exact Oz
 have hnew:Td (fun x1 x2=>x1++x2) #[] (O0 (if its.toArray.isEmpty=true then 0 else k.toNat) its.toArray)=(O0 k.toNat its).flatten.toArray:=by
  have f0:∀ m:Nat,Td (fun x1 x2=>x1++x2) #[] (O0 m its.toArray)=(O0 m its).flatten.toArray:=fun m=>by
   have:=Oe its m []
   rw [Q5] at this
   exact this
  rw [f0]
  cases its with
  | nil=>simp
  | cons a r'=>rw [if_neg (by simp)]
 refine wpAny_binaryOp_repeat_ref (T := "list") (U := "int") (by decide) ⟨_,e,rfl⟩ (fun s'=>Tc s' k t) noFill_list_mul F.fills_int_mul F.slot_int_rmul repeat_list F.slot_int_index.lookup
  (Q9 F.slot_int_rmul (Tc s k t) F.entry_int_rmul (F.args_int_rmul_2 _ _) (int___rmul___int_list k t l its.toArray n)
   ⟨e,rfl,⟨_,e,rfl⟩,Q9 F.slot_list_mul ⟨_,e,rfl⟩ F.entry_list_mul (F.args_list_mul_2 _ _) (AutoListH.list___mul___list_int_3 l its.toArray n k t hfit hcap hlong) ⟨e,?_⟩⟩)
 rw [hnew]
 exact ⟨.ref _,_,I.lnew (t':=s.toks) (r.rep k.toNat) (by rw [Li,Nat.mul_comm];exact hz),rfl,q _ I.fresh⟩
end
section
variable {prog:Program}{w:World}{A:Around}{E:Value->Shared->Prop}{s:Shared}
end
section
variable {X:Cx}
end
end L2
namespace Att
open PySem PySem.W PySem.Calls PyProof.Rows
theorem Zhf {P:Params}{h:Heap}:∀(ns:List Int)(vs:List Value),WellAll P h vs (ns.map WData.int)->IntsAre vs ns:=by
 intro ns
 induction ns with
 | nil =>
  intro vs w
  rw [List.map_nil] at w
  cases w
  exact .nil
 | cons n ns ih =>
  intro vs w
  rw [Ph] at w
  cases w with
  | cons a b =>
   cases a
   exact .cons _ _ (ih _ b)
theorem Zqd {l:OpenLaw}{n:Nat}(hn:l.most=some n){P:Params}{h:Heap}{args:List WData}{vals:List Value}
  (hpre:l.row.toRowW.claim.pre args=true) (hwl:WellAll P h vals args) :
  ∃ a vs ns,vals=[Value.ref a]/\args=[WData.list (ns.map WData.int)]/\h.get? a=some { cls:=.type "list",data:=.seq vs.toArray }/\IntsAre vs ns/\ns.length<=n:=by
 have hsh:WShape.hasAll [] args [.list .int]=true:=(pre_splitW hpre).1
 have hc:l.pre.holds [] { args:=args }=true:=(pre_splitW hpre).2
 obtain ⟨d,r,rfl,h1,h2⟩:=hasAllW_cons hsh
 obtain rfl:=hasAllW_nil h2
 obtain ⟨xs,rfl,h3⟩:=hasW_list h1
 obtain ⟨ns,rfl⟩:=items_int h3
 have hlen:ns.length<=n:=by
  unfold OpenLaw.pre at hc
  have h4:(WTm.not (.lt (.lit (.int (n:Int))) (.len (.arg 0)))).holds [] { args:=[.list (ns.map .int)] }=true:=by
   have h4:=(holds_andW hc).1
   rw [hn] at h4
   exact h4
  have h5:=condW_of h4 (w_not (w_lt w_lit (w_len_list (w_arg rfl))))
  rw [Pa] at h5
  refine Nat.le_of_not_lt fun q=>?_
  have q':(n:Int) < ((ns.length:Nat):Int):=by omega
  first
   | (rw [decide_eq_true q'] at h5;exact absurd h5 (by decide))
   | (simp at h5;omega)
 cases hwl with
 | cons w1 w2 =>
  cases w2
  cases w1 with
  | list ho hall=>exact ⟨_,_,ns,rfl,rfl,ho,Zhf ns _ hall,hlen⟩
theorem Zna (l:OpenLaw)(args:List WData):l.row.toRowW.claim.post args (.bool true) args=true :=
 postW_of (r:=l.row.toRowW) (X:=(true == true))
  (show WShape.has [] (.bool true) .bool=true by first | rfl | decide | simp [WShape.has,WShape.arms,WShape.armsAll])
  (show (WTm.eq .res (.lit (.bool true))).value [] { args:=args,res:=some (.bool true),after:=args }=some (.bool (true == true)) from w_eq_bool (w_res rfl) w_lit) rfl
theorem attach_call {l:OpenLaw}{n:Nat}{q:Program}{loose:List Str}{XP:(Str->Option Value)->Heap->Prop}{YP:World->Heap->Prop}{d:DefRec}
  (hn:l.most=some n) (hdf:d.params.defaults=[])
  (call:∀(w:World)(s₀ s₁:Shared)(mg mb:Str->Option Value)(fa:Addr)(o:Obj)(pm cd doc:Value)(a:Addr)(vs:List Value)(ns:List Int),
   Ground q loose [] XP w s₀ mg mb s₁.heap->YP w s₁.heap ->
   s₁.heap.get? fa=some o->o.data=.func (docDef d.name d.params d.body d.scope pm cd doc)->s₁.heap.CodeRec cd d.name->mg d.name=some (.ref fa) ->
   s₁.heap.get? a=some { cls:=.type "list",data:=.seq vs.toArray }->IntsAre vs ns->ns.length<=n->s₁.gens=#[] ->
   codeAny (model l.prog w) callerA (.call (.ref fa) ⟨[.ref a],[]⟩) (fun r s'=>r=.ok (.ret (.bool true))/\OldK s₁.heap s'.heap/\s'.os=s₁.os/\AllBare s'.gens) s₁) :
  WalkO q loose XP YP l.row.toRowW d [] (fun f vs=>PySem.call f vs):=by
 intro w s₀ s₁ mg mb G Y fa o pm cd doc dV kV ho hd hcd hD hmg hg args vals as hpre hlay hrd hwl hlo
 obtain rfl:dV=.none:=Dflts.none hD hdf
 obtain rfl:kV=.none:=Dflts.noKw hD
 obtain ⟨a,vs,ns,rfl,rfl,hobj,hints,hlen⟩:=Zqd hn hpre hwl
 refine enter_call (Sz (call w s₀ s₁ mg mb fa o pm cd doc a vs ns G Y ho (fd_plain hd) hcd hmg hobj hints hlen hg) fun r s' hq=>?_)
 obtain ⟨rfl,h2,h3,h4⟩:=hq
 exact ⟨.inl ⟨.bool true,.bool true,[],rfl,fun _=>rfl,.bool true,Zna l _,fun _=>⟨List.Pairwise.nil,fun _ hm=>(nomatch hm)⟩⟩,h2,h3,h4⟩
section
variable {prog:Program}{w:World}{A:Around}{E:Value->Shared->Prop}{s:Shared}{K:Frag}
end
end Att
namespace L2
open PySem PySem.Spec PyProof.Rows
theorem Zek:∀{vs:List Value}{ns:List Int},IntsAre vs ns->Vals (ns.map V.int) vs
 | _,_,.nil=>.nil
 | _,_,.cons n t h=>.cons ⟨t,rfl⟩ (Zek h)
noncomputable def Mw (H:Hp):Prop:=∀ b,H b=none\/∃ o xs,H b=some (.frz o (.lst xs))
theorem Zkq {P:Program}{w:World}{K:Om}{mg mb:Str->Option Value}{CX:Bz}{k:Nat}{fa a:Addr}{fd:FuncData}{x:Str}{sp:Sp}{s₁:Shared}{vs:List Value}{ns:List Int}
  (KX:K.In s₁.heap) (hns:s₁.heap.Ns mainGlobals mg) (hb:s₁.heap.Ns builtinsNs mb) (hbb:∀ x:Str,x ≠ "__name__" -> mb x=bootBuiltins x) (hlim:s₁.heap.NoLimit) (hg:s₁.gens=#[])
  (ha:s₁.heap.get? a=some { cls:=.type "list",data:=.seq vs.toArray }) (hi:IntsAre vs ns) (hl:ns.length<=sizeLine) (hr:Room k callerA)
  (F:∀ base:Heap,K.In base->base.Ns mainGlobals mg->Aq P w K mg base CX k fa fd [x] sp) (hbind:∀(s:Shared)(u:Value),BindsTo s fd ⟨[u],[]⟩ [(x,u)])
  (hsp:∀ H:Hp,Mw H->SqL K H a (ns.map V.int)->sp [.ref a] H (fun v _=>v=.bl true) fun _ _ _=>False)
  (hCX:∀ H e s',CX [] H s₁ (fun _ _ _=>False) e s'->False) :
  codeAny (model P w) callerA (.call (.ref fa) ⟨[.ref a],[]⟩) (fun r s'=>r=.ok (.ret (.bool true))/\OldK s₁.heap s'.heap/\s'.os=s₁.os/\AllBare s'.gens) s₁:=by
 have rv:=Zek hi
 have lenV:=hi.length
 have core:∀ H:Hp,Mw H->SqL K H a (ns.map V.int)->HOk P w H s₁.heap->(∀ b,H b≠none->b=a)->(H a≠none->K.lookup a=none) ->
   codeAny (model P w) callerA (.call (.ref fa) ⟨[.ref a],[]⟩) (fun r s'=>r=.ok (.ret (.bool true))/\OldK s₁.heap s'.heap/\s'.os=s₁.os/\AllBare s'.gens) s₁:=by
  intro H hO hS hok hA hK
  have base_of:∀{b:Addr}{o:Obj},s₁.heap.get? b=some o->H b=none->(Ej s₁.heap H).get? b=some o:=fun e n=>Ziw e n
  have noA:∀{b:Addr}{o:Obj}{es:Array DictEntry}{ep:Nat},s₁.heap.get? b=some o->o.data=.dict es ep->H b=none:=fun {b o es ep} e d=>by
   cases q:H b with
   | none=>rfl
   | some u =>
    have e':b=a:=hA b (by rw [q];simp)
    subst e'
    rw [ha] at e;cases e
    have d':Data.seq vs.toArray _=Data.dict es ep:=d
    cases d'
  have nsK:∀{b:Addr}{m:Str->Option Value},s₁.heap.Ns b m->(Ej s₁.heap H).Ns b m:=fun {b m} ⟨o,es,ep,e,d,r⟩=>⟨o,es,ep,base_of e (noA e d),d,r⟩
  have hKb:K.In (Ej s₁.heap H):=fun b o e=>base_of (KX b o e) (by
   cases q:H b with
   | none=>rfl
   | some u =>
    have e':b=a:=hA b (by rw [q];simp)
    subst e'
    rw [hK (by rw [q];simp)] at e;cases e)
  have hM:Mod K mg (Ej s₁.heap H):=⟨hKb,nsK hns,⟨mb,nsK hb,hbb⟩,let ⟨mc,h1,h2⟩:=hlim;⟨mc,nsK h1,h2⟩⟩
  have e0:Env0 P w K mg (Ej s₁.heap H) callerA [] s₁ H:=⟨rfl,hM,fun b o e=>Zpm e,Nat.le_of_eq (Zg5 _ _),trivial,fun b hb=>absurd (show b∈([]:List Addr) from hb) (by simp),hok,.of_eq hg⟩
  refine Sz ((F _ hKb (nsK hns)).run callerA [] s₁ H ⟨[.ref a],[]⟩ [.ref a] [.ref a] _ _ hr e0 (hbind s₁ (.ref a)) (.cons rfl .nil) (hsp H hO hS)) fun r s' h=>?_
  cases r with
  | error e=>exact (hCX H e s' h).elim
  | ok fl =>
   cases fl with
   | next=>exact Qc h
   | brk=>exact Qc h
   | cont=>exact Qc h
   | ret u =>
    obtain ⟨v,H',os,bare,un,hok',r',q⟩:=h
    have q':v=.bl true:=q
    subst q'
    obtain rfl:u=Value.bool true:=r'
    refine ⟨rfl,OldK.of_keep fun b o e=>?_,os,bare⟩
    cases q:H b with
    | none=>exact un.keep b o e q (by intro z;exact absurd (show b∈([]:List Addr) from z) (by simp)) (by simp)
    | some u =>
     rcases hO b with z | ⟨ob,xs,z⟩
     ·rw [q] at z;cases z
     ·have z2:=un.frzs b ob _ z
      obtain ⟨e1,_⟩:=hok b _ z
      obtain ⟨e2,_⟩:=hok' b _ z2
      rw [e] at e1;cases e1
      exact e2
 cases hk:K.lookup a with
 | some o =>
  have e:=KX a o hk
  rw [ha] at e
  cases e
  refine core (fun _=>none) (fun _=>.inl rfl) (.inr ⟨_,vs.toArray,_,hk,rfl,rfl,rfl,by rw [Ot,lenV];exact hl,by simpa using rv⟩) (fun b u z=>by have z':(none:Option HO)=some u:=z;cases z') (fun b z=>absurd rfl z) fun z=>absurd rfl z
 | none =>
  refine core (fun b=>if b=a then some (.frz { cls:=.type "list",data:=.seq vs.toArray } (.lst (ns.map V.int))) else none) (fun b=>?_) (.inl (.inr ⟨{ cls:=.type "list",data:=.seq vs.toArray },if_pos rfl⟩)) (fun b u z=>?_) (fun b z=>?_) fun _=>hk
  ·by_cases hb:b=a
   ·exact .inr ⟨_,_,if_pos hb⟩
   ·exact .inl (if_neg hb)
  ·by_cases hb:b=a
   ·have z':=(if_pos hb).symm.trans z
    cases z'
    subst hb
    exact ⟨ha,by rw [Pa];exact hl,vs,_,rv,ha⟩
   ·have z':=(if_neg hb).symm.trans z
    cases z'
  ·by_cases hb:b=a
   ·exact hb
   ·exact absurd (if_neg hb) z
theorem walk_of {l:V3}{n k:Nat}{q:Program}{loose:List Str}{XP:(Str->Option Value)->Heap->Prop}{YP:World->Heap->Prop}{d:DefRec}{K:Params->Om}{CX:World->Bz}{sp:World->Sp}{x:Str}
  (hn:l.most=some n) (hn2:n<=sizeLine) (hdf:d.params.defaults=[]) (hr:Room k callerA)
  (hY:∀(w:World)(h:Heap),YP w h->(K w.params).In h)
  (F:∀(w:World)(mg:Str->Option Value)(fa:Addr)(h:Heap),(K w.params).In h->h.Ns mainGlobals mg->mg d.name=some (.ref fa) ->
   ∃ fd:FuncData,(∀(s:Shared)(u:Value),BindsTo s fd ⟨[u],[]⟩ [(x,u)]) /\
    ∀ base:Heap,(K w.params).In base->base.Ns mainGlobals mg->Aq l.prog w (K w.params) mg base (CX w) k fa fd [x] (sp w))
  (hsp:∀(w:World)(H:Hp)(a:Addr)(ns:List Int),ns.length<=n->Mw H->SqL (K w.params) H a (ns.map V.int)->sp w [.ref a] H (fun v _=>v=.bl true) fun _ _ _=>False)
  (hCX:∀(w:World)(H:Hp)(s:Shared)(e:Value)(s':Shared),CX w [] H s (fun _ _ _=>False) e s'->False) :
  PySem.W.WalkO q loose XP YP l.row.toRowW d [] (fun f vs=>PySem.call f vs):=by
 refine Att.attach_call hn hdf fun w s₀ s₁ mg mb fa o pm cd doc a vs ns G Y ho hd hcd hmg hobj hints hlen hg=>?_
 have KX:=hY w _ Y
 obtain ⟨fd,hb,hF⟩:=F w mg fa _ KX G.T.g hmg
 exact Zkq KX G.T.g G.T.b G.T.builtins G.T.nolimit hg hobj hints (Pi hlen hn2) hr hF hb (fun H hO hS=>hsp w H a ns hlen hO hS) fun H e s'=>hCX w H s₁ e s'
noncomputable def Cy (s:Stmt):Arguments:=match s with
 | .FunctionDef _ a _ _ _ _ _ _ _ _=>a
 | _=>{ posonlyargs:=[],args:=[],vararg:=none,kwonlyargs:=[],kw_defaults:=[],kwarg:=none,defaults:=[] }
noncomputable def Cb (s:Stmt):List Stmt:=match s with
 | .FunctionDef _ _ b _ _ _ _ _ _ _=>b
 | _=>[]
noncomputable def An (s:Stmt):Scope:=match s with
 | .FunctionDef _ _ _ _ _ _ sc _ _ _=>sc
 | _=>{ kind:=.function,names:=[],isGenerator:=false,isCoroutine:=false }
noncomputable abbrev Ar:Bz:=fun _ _ _ _ _ _=>False
noncomputable abbrev E0:XK:=fun _ _ _=>False
theorem Ks {X:Cx}:Hy Ar X E0:=fun _ _ _ _ _ _ _ h=>h.elim
structure Fun (K:Om)(x qual:Str)(st:Stmt)(f:Addr)(fd:FuncData):Prop where
 ex:∃(oc:Value)(od:Option Addr)(kV doc pm:Value)(an:Option Addr)(cdv ct:Value)(osl:Array (Option Value)),
  fd=P4 x qual (Cy st) (Cb st) (An st) .none kV doc pm an cdv ct/\K.lookup f=some ⟨oc,od,.func fd,osl⟩/\R7 K cdv qual=true
 kp:Qb K (.ref f)=true
section
variable {P:Program}{w:World}{K:Om}{mg:Str->Option Value}{base:Heap}
theorem Fun.ok {x qual:Str}{st:Stmt}{f:Addr}{fd:FuncData}{N ps:List Str}{k:Nat}{sp:Sp}(F:Fun K x qual st f fd)(S:Ay N ps (An st))(len:∀ vs H Q E,sp vs H Q E->vs.length=ps.length)
  (hbody:∀(cdv:Value)(A:Around)(outer:List Env)(s:Shared)(H:Hp)(vs:List V)(Q:VK)(E:XK),Room k (A.deeper (envOfC qual (An st) s.heap.objs.size f cdv))->sp vs H Q E ->
   ∃ t,PSs (Ff Ar P w K mg base N qual (An st) f cdv A outer s H E).nox (Cb st) t/\t { nx:=fun _ H'=>Q .non H',rt:=Q } (start N vs) H):Aq P w K mg base Ar (k+1) f fd ps sp:=by
 obtain ⟨oc,od,kV,doc,pm,an,cdv,ct,osl,rfl,lk,hcd⟩:=F.ex
 refine Zep lk hcd S len fun A outer s H vs Q E hr hsp=>?_
 obtain ⟨t,h,q⟩:=hbody cdv A outer s H vs Q E hr hsp
 exact ⟨t,h.nox,q⟩
theorem Fun.binds {x qual:Str}{st:Stmt}{f:Addr}{fd:FuncData}{ps:List Str}(F:Fun K x qual st f fd)
  (h:∀(kV doc pm:Value)(an:Option Addr)(cdv ct:Value)(us:List Value),us.length=ps.length->bindArgs (P4 x qual (Cy st) (Cb st) (An st) .none kV doc pm an cdv ct) ⟨us,[]⟩=pure (ps.zip us)):Binds K fd ps []:=by
 obtain ⟨oc,od,kV,doc,pm,an,cdv,ct,osl,rfl,lk,hcd⟩:=F.ex
 exact .all (h kV doc pm an cdv ct)
theorem fun_mk {x qual:Str}{st:Stmt}{f:Addr}{oc:Value}{od an:Option Addr}{osl:Array (Option Value)}{kV doc pm cdv ct:Value}(l:K.lookup f=some ⟨oc,od,.func (P4 x qual (Cy st) (Cb st) (An st) .none kV doc pm an cdv ct),osl⟩)
  (c:R7 K cdv qual=true) (k:Qb K (.ref f)=true):Fun K x qual st f (P4 x qual (Cy st) (Cb st) (An st) .none kV doc pm an cdv ct):=⟨⟨oc,od,kV,doc,pm,an,cdv,ct,osl,rfl,l,c⟩,k⟩
end
section
variable {X:Cx}
end
theorem iteF {A B:Prop}(h:B):if false=true then A else B:=by
 rw [if_neg Oz]
 exact h
theorem iteT {A B:Prop}(h:A):if true=true then A else B:=by
 rw [if_pos rfl]
 exact h
theorem A1 {c A B:Prop}[Decidable c](h1:c->A)(h2:¬ c->B):if c then A else B:=by
 by_cases h:c
 ·rw [if_pos h]
  exact h1 h
 ·rw [if_neg h]
  exact h2 h
noncomputable def Same (H H':Hp):Prop:=∀ b o,H b=some o->H' b=some o
theorem Same.refl (H:Hp):Same H H:=fun _ _ h=>h
theorem Same.trans {H H1 H2:Hp}(a:Same H H1)(b:Same H1 H2):Same H H2:=fun c o h=>b c o (a c o h)
theorem Same.free {H H':Hp}(e:Same H H'){l:Addr}(h:H' l=Option.none):H l=Option.none:=by
 cases q:H l with
 | none=>rfl
 | some o =>
  rw [e l o q] at h
  cases h
theorem Same.seq {K:Om}{H H':Hp}{a:Addr}{xs:List V}(e:Same H H')(h:SqL K H a xs):SqL K H' a xs:=by
 rcases h with (h | ⟨o,h⟩) | h
 ·exact .inl (.inl (e _ _ h))
 ·exact .inl (.inr ⟨o,e _ _ h⟩)
 ·exact .inr h
end L2
set_option maxHeartbeats 8000000
namespace L2
open PySem PySem.Spec PyProof.Rows
noncomputable def C6 (env:Env):List (Str×NameKind)->List (Str×Addr)->List (Str×Addr)
 | [],acc=>acc
 | (n,k)::r,acc=>C6 env r (if k == .free then (match env.cells.lookup n with | some a=>(n,a)::acc | none=>acc) else acc)
theorem M0 {env:Env}:∀{ns:List (Str×NameKind)}{acc:List (Str×Addr)}{x:Str}{c:Addr},(∀ x c,acc.lookup x=some c->env.cells.lookup x=some c)->(C6 env ns acc).lookup x=some c->env.cells.lookup x=some c
 | [],acc,x,c,h,e=>h x c e
 | (n,k)::r,acc,x,c,h,e=>by
  refine M0 (ns:=r) ?_ e
  intro y d
  split
  ·split
   ·rename_i a ha
    intro q
    rw [Qq] at q
    split at q
    ·rename_i hy
     have hy':y=n:=by simpa using hy
     subst hy'
     rw [ha];exact q
    ·exact h y d q
   ·exact h y d
  ·exact h y d
theorem Ze2 {env:Env}:∀{ns:List (Str×NameKind)}{acc:List (Str×Addr)}{x:Str},(acc.lookup x).isSome=true->((C6 env ns acc).lookup x).isSome=true
 | [],acc,x,h=>h
 | (n,k)::r,acc,x,h=>by
  refine Ze2 (ns:=r) ?_
  split
  ·split
   ·rw [Qq]
    split
    ·rfl
    ·exact h
   ·exact h
  ·exact h
theorem Zbv {env:Env}:∀{ns:List (Str×NameKind)}{acc:List (Str×Addr)}{x:Str},(x,NameKind.free)∈ns->(env.cells.lookup x).isSome=true->((C6 env ns acc).lookup x).isSome=true
 | [],acc,x,h,_=>by cases h
 | (n,k)::r,acc,x,h,hc=>by
  rcases Oy.mp h with e | e
  ·cases e
   refine Ze2 (ns:=r) ?_
   obtain ⟨a,ha⟩:=Ri.mp hc
   rw [if_pos (by rfl),ha]
   show (Q8 n ((n,a)::acc)).isSome=true
   rw [Qq]
   simp
  ·exact Zbv (ns:=r) e hc
theorem Zdj {scope:Scope}{env:Env}(h:∀ x∈scope.names,x.2=.free->(env.cells.lookup x.1).isSome=true):closureFor scope env=pure (C6 env scope.names []):=by
 have all:∀(ns:List (Str×NameKind))(acc:List (Str×Addr)),(∀ x∈ns,x.2=.free->(env.cells.lookup x.1).isSome=true) ->
   (forIn ns acc fun (x:Str×NameKind) (cs:List (Str×Addr))=>(if (x.2 == NameKind.free)=true then do let a <- cellOf env x.1;pure (ForInStep.yield ((x.1,a)::cs)) else pure (ForInStep.yield cs):Sem (ForInStep (List (Str×Addr)))))=pure (C6 env ns acc):=by
  intro ns
  induction ns with
  | nil=>intro acc _;rfl
  | cons x r ih =>
   intro acc hx
   obtain ⟨n,k⟩:=x
   rw [Sv]
   by_cases hk:(k == NameKind.free)=true
   ·obtain ⟨a,ha⟩:=Ri.mp (hx (n,k) Pr (by simpa using hk))
    have ha:env.cells.lookup n=some a:=ha
    have hcell:cellOf env n=pure a:=by unfold cellOf;rw [ha]
    simp only [hk,if_true,hcell]
    refine Eq.trans (ih ((n,a)::acc) fun y hy=>hx y (Pe _ hy)) ?_
    conv=>rhs;unfold C6
    simp only [hk,if_true,ha]
   ·simp only [hk]
    refine Eq.trans (ih acc fun y hy=>hx y (Pe _ hy)) ?_
    conv=>rhs;unfold C6
    simp only [hk]
    rfl
 unfold closureFor
 exact (by
  have:=all scope.names [] h
  first | exact this | (simp only [bind_pure] ;exact this) | simpa using this)
noncomputable def B7 (X:Cx)(scope:Scope)(C:Addr)(N:List Str)(s₀:Shared)(H₀:Hp)(ex:List Addr):Cx where
 prog:=X.prog
 w:=X.w
 K:=X.K
 mg:=X.mg
 base:=X.base
 A:=X.A
 N:=N
 s₀:=s₀
 H₀:=H₀
 env:=compEnvC scope (C6 X.env scope.names []) C X.env
 outer:=X.stack
 stack:=X.stack
 ex:=ex
 fn:=fun _=>false
 calm:=X.calm
 pn:=[]
 xe:=fun _ _=>False
structure Gb (sc:Scope)(env:Env):Prop where
 kind:sc.kind=.function
 nocell:∀ y∈sc.names,y.2≠.cell
 loc:∀ y∈sc.names,y.2=.local->sc.names.lookup y.1=some .local
 free:∀ x∈sc.names,x.2=.free->(env.cells.lookup x.1).isSome=true
theorem Ku {env:Env}:∀{names:List (Str×NameKind)}{x:Str}{k:NameKind},((names.map fun (n,k)=>if (k == NameKind.free && env.scope.kind == .function && env.kindOf n == some .cell) then (n,NameKind.cell) else (n,k)).lookup x=some k) ->
  ∃ k',names.lookup x=some k'/\(k'=k\/(k'=.free/\k=.cell))
 | [],x,k,h=>by simp at h
 | (n,q)::r,x,k,h=>by
  have ih:=@Ku env r x k
  have h:Q8 x ((if (q == NameKind.free && env.scope.kind == .function && env.kindOf n == some .cell)=true then (n,NameKind.cell) else (n,q))::_)=some k:=h
  rw [Qq]
  cases hx:x == n with
  | true =>
   by_cases hc:(q == NameKind.free && env.scope.kind == .function && env.kindOf n == some .cell)=true
   ·rw [if_pos hc] at h
    simp only [Qq,hx] at h
    refine ⟨q,rfl,.inr ⟨?_,(Ox h).symm⟩⟩
    simp only [Pt] at hc
    simpa using hc.1.1
   ·rw [if_neg hc] at h
    simp only [Qq,hx] at h
    exact ⟨q,rfl,.inl (Ox h)⟩
  | false =>
   by_cases hc:(q == NameKind.free && env.scope.kind == .function && env.kindOf n == some .cell)=true
   ·rw [if_pos hc] at h
    simp only [Qq,hx] at h
    exact ih h
   ·rw [if_neg hc] at h
    simp only [Qq,hx] at h
    exact ih h
noncomputable def Ex (X:Cx)(scope:Scope)(N:List Str)(σ σ0:St):Prop :=
 σ0.length=N.length/\∀(i:Nat)(x:Str)(v:V),N[i]?=some x->σ0[i]?=some (some v)->∃ j:Nat,X.N[j]?=some x/\σ[j]?=some (some v)/\scope.names.lookup x=some .free/\(X.env.kindOf x=some .cell\/X.env.kindOf x=some .free)
section
variable {X:Cx}
theorem Zpi {scope:Scope}{N:List Str}{pins:List (Addr×Obj)}{σ σ0:St}{H:Hp}{s:Shared}{h':Heap}{tk:Nat}{fp:List Addr}(I:Inv X pins σ H s)(S:Gb scope X.env)(hf:∀ b∈fp,FpOk X pins H b)(hlt:∀ b∈fp,b < s.heap.objs.size)
  (T:Ex X scope N σ σ0) (hn:h'.Ns s.heap.objs.size (fun _=>none)) (hk:∀ b o,s.heap.get? b=some o->h'.get? b=some o) :
  Inv (B7 X scope s.heap.objs.size N s H fp) [] σ0 H { s with heap:=h',toks:=tk }:=by
 have subC:∀ x c,(C6 X.env scope.names []).lookup x=some c->X.env.cells.lookup x=some c:=fun x c e=>M0 (ns:=scope.names) (acc:=[]) (fun y d z=>by simp at z) e
 have hasC:∀ x,scope.names.lookup x=some .free->∃ c,(C6 X.env scope.names []).lookup x=some c:=fun x e=>by
  have m:=Rj e
  exact Ri.mp (Zbv m (S.free _ m rfl))
 have fsN:∀ b∈fp,b ∉ Cd X.stack:=fun b hb z=>by
  obtain ⟨_,f1,f2,_⟩:=hf b hb
  rcases Oy.mp (I.stkSub b z) with e | e
  ·exact f1 e
  ·exact f2 e
 have kinds:∀ x,((relabel scope X.env).names.lookup x=some .cell\/(relabel scope X.env).names.lookup x=some .free)->scope.names.lookup x=some .free:=fun x hx=>by
  rcases hx with hx | hx
  ·obtain ⟨k',e,q⟩:=Ku hx
   rcases q with q | ⟨q,_⟩
   ·subst q
    exact absurd rfl (S.nocell _ (Rj e))
   ·rw [e,q]
  ·obtain ⟨k',e,q⟩:=Ku hx
   rcases q with q | ⟨_,q⟩
   ·rw [e,q]
   ·cases q
 have noex:∀ b o,X.base.get? b=some o->b ∉ fp:=fun b o e hb=>by
  obtain ⟨_,_,_,f3,_⟩:=hf b hb
  rcases f3 with z | z
  ·exact I.ok.noex b o e z
  ·exact absurd (O9 (Ow e) (Pi I.ok.bsz z)) (Qk _)
 refine ⟨⟨I.ok.mod,S.kind,I.ok.glob,I.ok.blt,Os _,fun x y c e1 e2=>I.ok.inj x y c (subC x c e1) (subC y c e2),fun x hx=>hasC x (kinds x hx),fun x c z=>absurd (show false=true from z) Oz,I.ok.hd,I.ok.frames,.inl rfl,
   fun b hb=>⟨O1 (hlt b hb),fun x c e=>(hf b hb).2.2.2.2.1 x c (subC x c e)⟩,I.bs,Pi I.ok.bsz I.sz,noex,fsN,I.stack,I.stkFree⟩,
  rfl,I.bare,Un.kept hk,⟨_,hn,fun i x v e1 e2 e3=>?_⟩,fun x c e=>?_,I.hok.fresh (Os _),fun x c e=>I.freeC x c (subC x c e),fun p hp=>absurd (show p∈([]:List (Addr×Obj)) from hp) (by simp),I.hok.kept hk,T.1⟩
 ·obtain ⟨j,hj,hs,hfr,hkd⟩:=T.2 i x v e1 e2
  obtain ⟨m,_,hl⟩:=I.loc
  obtain ⟨u,r,l⟩:=hl j x v hj hs (hkd.elim (fun z=>Or.inr (Or.inl z)) fun z=>Or.inr (Or.inr z))
  refine ⟨u,r,.inr ⟨?_,?_⟩⟩
  ·show (relabel scope X.env).names.lookup x=some .cell\/(relabel scope X.env).names.lookup x=some .free
   rcases e3 with z | z | z
   ·obtain ⟨k',e,q⟩:=Ku (show (relabel scope X.env).names.lookup x=some .local from z)
    rw [hfr] at e
    cases e
    rcases q with q | ⟨_,q⟩ <;> cases q
   ·exact .inl z
   ·exact .inr z
  ·obtain ⟨c,hc⟩:=hasC x hfr
   refine ⟨c,hc,?_⟩
   rcases l with ⟨k,_⟩ | ⟨_,c',e,z⟩
   ·rcases hkd with hkd | hkd <;> (rw [hkd] at k;cases k)
   ·have e':=subC x c hc
    rw [e] at e'
    cases e'
    obtain ⟨o,ho,hd⟩:=z
    exact ⟨o,hk _ o ho,hd⟩
 ·obtain ⟨v,o,ho,hd⟩:=I.cell x c (subC x c e)
  exact ⟨v,o,hk _ o ho,hd⟩
theorem Zim {scope:Scope}{N:List Str}{pins pins':List (Addr×Obj)}{σ σ':St}{H H':Hp}{s s':Shared}{h':Heap}{fp:List Addr}(I:Inv X pins σ H s)(hf:∀ b∈fp,FpOk X pins H b)
  (I':Inv (B7 X scope s.heap.objs.size N s H fp) pins' σ' H' s') (hs:O6 s.heap.objs.size s'.heap h'):Inv X pins σ H' { s' with heap:=h' }:=by
 have hC:H' s.heap.objs.size=none:=I'.free
 have ne:∀ b o,s.heap.get? b=some o->b≠s.heap.objs.size:=fun b o e=>O1 (Ow e)
 have B:Un (Cd X.stack) fp H H' s.heap s'.heap:=I'.base
 refine I.call' (s':={ s' with heap:=h' }) (ch:=fp) I'.os ⟨fun b o e n hb hx=>?_,fun b o e n hb hx=>?_,B.free,fun b o e hx=>?_,B.tups,B.frzs,B.tbls⟩ (fun b o e=>?_) I'.bare (fun b hb=>?_)
 ·exact (hs.2 b (ne b o e)).trans (B.keep b o e n hb hx)
 ·obtain ⟨sl,q⟩:=B.slot b o e n hb hx
  exact ⟨sl,(hs.2 b (ne b o e)).trans q⟩
 ·obtain ⟨o',q⟩:=B.there b o e hx
  exact ⟨o',(hs.2 b (ne b o e)).trans q⟩
 ·refine (I'.hok b o e).stay (fun c w' hc q=>(hs.2 c ?_).trans q) (fun _ q=>q) fun _ _ q=>q
  rintro rfl
  rcases hc with rfl | hc
  ·rw [hC] at e;cases e
  ·rw [hC] at hc;cases hc
 ·obtain ⟨_,f1,_,f3,f4,f5⟩:=hf b hb
  exact ⟨f3,f1,f4,f5⟩
end
section
variable {prog:Program}{w:World}{A:Around}{R:Result->Shared->Prop}{s:Shared}
theorem Zre {elt target iter:Expr}{ifs:List Expr}{scope:Scope}{pos:Pos}{it acc:Value}{env:Env}(I:Nat->Shared->Prop)
  (turn:∀ n s,I n s->wpAny (model prog w) A (pyNext it) (fun r s₁=>match r with
   | none=>R (.ok .next) s₁
   | some v=>wpAny (model prog w) A (letOwnedTupleGo target it v) (fun _ s₁'=>wpAny (model prog w) A (assign target env v) (fun _ s₂ =>
     wpAny (model prog w) A (forIn ifs true fun c r=>if r=true then do let ok <- isTrue c env (eval c env);pure (ForInStep.yield ok) else pure (ForInStep.yield r)) (fun ok s₃ =>
      if ok=true then wpAny (model prog w) A (eval elt env) (fun x s₄ =>
       wpAny (model prog w) A (call (.builtin "list.append") [acc,x]) (fun _ s₅=>∃ m,m < n/\I m s₅) (fun _ _=>False) s₄) (fun _ _=>False) s₃
      else ∃ m,m < n/\I m s₃) (fun _ _=>False) s₂) (fun _ _=>False) s₁') (fun _ _=>False) s₁) (fun _ _=>False) s)
  (n:Nat) (h:I n s):codeAny (model prog w) A (.compLoop (.ListComp elt [⟨target,iter,ifs,0⟩] scope pos) 0 it acc env) R s:=by
 refine codeAny_loop rfl I (fun n s hI=>?_) n h
 show wpAny _ A ((compTurn (.ListComp elt [⟨target,iter,ifs,0⟩] scope pos) 0 it acc env).onRaise (fun x=>do noteFrame x env;theTreesLotGoes x)) _ _ s
 refine wpAny_noted ?_
 rw [compTurn_list]
 have up:∀{α:Type}{t:Sem α}{Q:α->Shared->Prop}{s:Shared}{E:Value->Shared->Prop},wpAny (model prog w) A t Q (fun _ _=>False) s->wpAny (model prog w) A t Q E s:=fun h=>wpAny_noRaise h
 refine On (Ut (On (up (Ah (turn n s hI) fun r s₁ h₁=>?_))))
 cases r with
 | none=>exact Oq h₁
 | some v =>
  refine On (up (Ah h₁ fun _ s₁' h₁'=>?_))
  refine On (up (Ah h₁' fun _ s₂ h₂=>On (up (Ah h₂ fun ok s₃ h₃=>?_))))
  cases ok with
  | false=>exact Oq ⟨rfl,h₃⟩
  | true =>
   exact On (On (up (Ah h₃ fun x s₄ h₄=>On (up (Ah h₄ fun _ s₅ h₅=>Oq (Oq ⟨rfl,h₅⟩))))))
end
noncomputable def Gw (J:It)(g:TG)(tt:TT)(te:TE)(σ0:St)(H1:Hp)(D:Addr)(Q:VK):Prop :=
 ∃ W:Nat->Nat->St->Hp->Prop,(∃ m,W 0 m σ0 (upd H1 D (.lst [])))/\∀ i m σ' H',W i m σ' H' ->
  (J.stop i H'/\Q (.ref D) H')\/(J.go i H'/\∃ N:St->Hp->Prop,(∀ σ2 H2,N σ2 H2->∃ m',m' < m/\W (i+1) m' σ2 H2)/\∀ x H2,J.yld i H' x H2->g x σ' H2 fun σ2 H3=>tt σ2 H3 fun b H4 =>
   if b=true then te σ2 H4 fun y H5=>∃ ys,H5 D=some (.lst ys)/\ys.length < sizeLine/\N σ2 (upd H5 D (.lst (ys++[y]))) else N σ2 H4)
noncomputable def Hv (wi:TI)(σ0:St->St)(g:TG)(tt:TT)(te:TE):TE:=fun σ H Q=>wi σ H fun J H1=>∀ D,H1 D=none->Gw J g tt te (σ0 σ) H1 D Q
noncomputable def F5 (X:Cx)(ifs:List Expr)(t:TT):Prop :=
 ∀(pins:List (Addr×Obj))(s:Shared)(σ:St)(H:Hp)(Q:Bool->Hp->Prop),Inv X pins σ H s->t σ H Q ->
  wpAny (model X.prog X.w) X.A (forIn ifs true fun c r=>if r=true then do let ok <- isTrue c X.env (eval c X.env);pure (ForInStep.yield ok) else pure (ForInStep.yield r)) (TP X pins σ Q) X.xe s
noncomputable def Zbh:TT:=fun _ H Q=>Q true H
theorem Zkg {X:Cx}:F5 X [] Zbh:=fun _ _ _ H _ I h=>wpAny_tests_nil ⟨H,I,h⟩
theorem Zmk {X:Cx}{c:Expr}{t:TT}(h:PT X c t):F5 X [c] t:=fun pins s σ H Q I hw=>wpAny_tests_one (h pins s σ H Q I hw)
section
variable {X:Cx}{elt target iter:Expr}{ifs:List Expr}{scope:Scope}{pos:Pos}{N:List Str}{wi:TI}{σ0:St->St}{g:TG}{tt:TT}{te:TE}
theorem Zc6 {pins:List (Addr×Obj)}{σ:St}{H:Hp}{s:Shared}{it:Addr}{fp:List Addr}{tn:Nat->Heap->Prop}{J:It}{Q:Addr->Hp->Prop}{RR:Value->Addr->Result->Shared->Prop}{E:Value->Shared->Prop}
  (hc:X.calm=true) (S:Gb scope X.env) (T:Ex X scope N σ (σ0 σ)) (I:Inv X pins σ H s) (Tn:Ei X.prog X.w X.K target J fp it tn) (st:tn 0 s.heap) (hf:∀ b∈fp,FpOk X pins H b)
  (hg:∀ C s H fp,PG (B7 X scope C N s H fp) target g) (ht:∀ C s H fp,F5 (B7 X scope C N s H fp) ifs tt) (he:∀ C s H fp,PE (B7 X scope C N s H fp) elt te)
  (hw:∀ D,H D=none->∃ W:Nat->Nat->St->Hp->Prop,(∃ m,W 0 m (σ0 σ) (upd H D (.lst [])))/\∀ i m σ' H',W i m σ' H' ->
   (J.stop i H'/\Q D H')\/(J.go i H'/\∃ N:St->Hp->Prop,(∀ σ2 H2,N σ2 H2->∃ m',m' < m/\W (i+1) m' σ2 H2)/\∀ x H2,J.yld i H' x H2->g x σ' H2 fun σ2 H3=>tt σ2 H3 fun b H4 =>
    if b=true then te σ2 H4 fun y H5=>∃ ys,H5 D=some (.lst ys)/\ys.length < sizeLine/\N σ2 (upd H5 D (.lst (ys++[y]))) else N σ2 H4))
  (hR:∀(D C:Addr)(H':Hp)(s':Shared)(m:Str->Option Value),s.heap.objs.size<=C->H' C=none->s'.heap.Ns C m->(∀ h',O6 C s'.heap h'->Inv X pins σ H' { s' with heap:=h' })->Q D H'->RR (.ref D) C (.ok .next) s') :
  wpAny (model X.prog X.w) X.A (newList []) (fun acc s₃=>wpAny (model X.prog X.w) X.A (newFunctionEnv scope X.env.globals (C6 X.env scope.names []) [] X.env.qual none .none (some X.env)) (fun cenv s₄ =>
   codeAny (model X.prog X.w) X.A (.compStart (.ListComp elt [⟨target,iter,ifs,0⟩] scope pos) 0 (.ref it) acc { cenv with scope:=relabel scope X.env }) (RR acc cenv.locals) s₄) E s₃) E s:=by
 refine Rm (wpAny_newFunctionEnv S.nocell (by intro y hy;simp at hy) (fun h₁ hns₁ hsb₁=>?_) S.kind)
 have hD:H s.heap.objs.size=none:=I.hok.fresh (Os _)
 have I3:Inv X pins σ (upd H s.heap.objs.size (.lst [])) { s with heap:=s.heap.push { cls:=.type "list",dict:=none,data:=.seq ([]:List Value).toArray } }:=I.lnew (ys:=[]) (its:=[]) (t':=s.toks) .nil (by simp)
 have hlt:∀ b∈fp,b < s.heap.objs.size:=fun b hb=>by obtain ⟨o,e,_⟩:=Tn.obj _ _ st b hb;exact Ow e
 have hf3:∀ b∈fp,FpOk X pins (upd H s.heap.objs.size (.lst [])) b:=fun b hb=>⟨by rw [Ai (O1 (hlt b hb))];exact (hf b hb).1,(hf b hb).2⟩
 have hlt3:∀ b∈fp,b < ({ s with heap:=s.heap.push { cls:=.type "list",dict:=none,data:=.seq ([]:List Value).toArray } }:Shared).heap.objs.size:=fun b hb=>by
  show b < (s.heap.push _).objs.size
  rw [Pz]
  exact Vr (hlt b hb)
 have hk1:∀ b o,({ s with heap:=s.heap.push { cls:=.type "list",dict:=none,data:=.seq ([]:List Value).toArray } }:Shared).heap.get? b=some o->h₁.get? b=some o:=fun b o e =>
  hsb₁.extBut b o (O1 (Ow e)) (Ou _ e)
 have I4:=Zpi (N:=N) (tk:=s.toks+([]:List (Str×Value)).length) I3 S hf3 hlt3 T hns₁ hk1
 have st4:tn 0 h₁:=Tn.keep _ _ _ st fun b hb o e=>hk1 b o (Ou _ e)
 obtain ⟨W,⟨m0,w0⟩,turn⟩:=hw _ hD
 generalize hX:B7 X scope ({ s with heap:=s.heap.push { cls:=.type "list",dict:=none,data:=.seq ([]:List Value).toArray } }:Shared).heap.objs.size N { s with heap:=s.heap.push { cls:=.type "list",dict:=none,data:=.seq ([]:List Value).toArray } } (upd H s.heap.objs.size (.lst [])) fp=X' at I4
 have eP:X'.prog=X.prog:=by rw [<- hX];rfl
 have eW:X'.w=X.w:=by rw [<- hX];rfl
 have eK:X'.K=X.K:=by rw [<- hX];rfl
 have eA:X'.A=X.A:=by rw [<- hX];rfl
 have eC:X'.calm=true:=by rw [<- hX];exact hc
 have eX:X'.xe=fun _ _=>False:=by rw [<- hX];rfl
 have eEx:X'.ex=fp:=by rw [<- hX];rfl
 have hg':PG X' target g:=by rw [<- hX];exact hg _ _ _ _
 have ht':F5 X' ifs tt:=by rw [<- hX];exact ht _ _ _ _
 have he':PE X' elt te:=by rw [<- hX];exact he _ _ _ _
 have eE:X'.env=compEnvC scope (C6 X.env scope.names []) ({ s with heap:=s.heap.push { cls:=.type "list",dict:=none,data:=.seq ([]:List Value).toArray } }:Shared).heap.objs.size X.env:=by rw [<- hX];rfl
 have fpIn:∀{H':Hp},(∀ b∈fp,H' b=none)->∀ b∈fp,FpOk X' [] H' b:=fun {H'} hn b hb=>by
  obtain ⟨f0,f1,f2,f3,f4,f5⟩:=hf3 b hb
  rw [<- hX]
  refine ⟨hn b hb,O1 (hlt3 b hb),fun z=>?_,.inl hb,fun x c e=>f4 x c (M0 (ns:=scope.names) (acc:=[]) (fun y d z=>by simp at z) e),fun p hp=>absurd (show p∈([]:List (Addr×Obj)) from hp) (by simp)⟩
  rcases Oy.mp (I3.stkSub b z) with e | e
  ·exact f1 e
  ·exact f2 e
 have fr0:∀ b∈fp,upd H s.heap.objs.size (.lst []) b=none:=fun b hb=>(hf3 b hb).1
 have loop:codeAny (model X.prog X.w) X.A (.compLoop (.ListComp elt [⟨target,iter,ifs,0⟩] scope pos) 0 (.ref it) (.ref s.heap.objs.size) X'.env)
   (RR (.ref s.heap.objs.size) ({ s with heap:=s.heap.push { cls:=.type "list",dict:=none,data:=.seq ([]:List Value).toArray } }:Shared).heap.objs.size)
   { s with heap:=h₁,toks:=s.toks+([]:List (Str×Value)).length }:=by
  refine Zre (fun n s'=>∃ i σ' H',Inv X' [] σ' H' s'/\tn i s'.heap/\(∀ b∈fp,H' b=none)/\W i n σ' H') ?_ m0 ⟨0,σ0 σ,_,I4,st4,fr0,w0⟩
  rintro n s5 ⟨i,σ5,H5,I5,st5,fr5,w5⟩
  rcases turn i n σ5 H5 w5 with ⟨stop,qn⟩ | ⟨go,Nx,hN,step⟩
  ·have q:=Tn.done X' eP eW eK eC i [] s5 σ5 H5 (fun _ _=>False) I5 (fpIn fr5) st5 stop
   rw [eA] at q
   refine Ah q fun r s6 zq=>?_
   obtain ⟨hr,I6⟩:=zq
   subst hr
   obtain ⟨mm,hns6,_⟩:=I6.loc
   rw [eE] at hns6
   have fr6:=I6.free
   rw [eE] at fr6
   refine hR _ _ H5 s6 mm ?_ fr6 hns6 (fun h' hs=>?_) qn
   ·show s.heap.objs.size<=(s.heap.push _).objs.size
    rw [Pz]
    exact Rq _
   ·rw [<- hX] at I6
    exact Zim I3 hf3 I6 hs
  ·have q:=Tn.item X' eP eW eK eC i [] s5 σ5 H5 (fun _ _=>False) I5 (fpIn fr5) st5 go
   rw [eA] at q
   refine Ah q fun r s6 zq=>?_
   obtain ⟨u,hr,h6⟩:=zq
   subst hr
   refine Ah h6 fun _ s7 zq=>?_
   obtain ⟨x,H7,I7,r7,y7,st7,fr7⟩:=zq
   have I7':=I7.pinned (fpIn fr7) (Tn.obj _ _ st7)
   have q8:=hg' _ s7 σ5 H7 x u _ I7' r7 (step x H7 y7)
   rw [eP,eW,eA,eX] at q8
   refine Ah q8 fun _ s8 zq=>?_
   obtain ⟨σ8,H8,I8,q8⟩:=zq
   have q9:=ht' _ s8 σ8 H8 _ I8 q8
   rw [eP,eW,eA,eX] at q9
   refine Ah q9 fun ok s9 zq=>?_
   obtain ⟨H9,I9,q9⟩:=zq
   have again:∀{σ10:St}{H10:Hp}{s10:Shared},Inv X' ([]++Jk fp s7.heap) σ10 H10 s10->Nx σ10 H10->∃ m,m < n/\∃ i σ' H',Inv X' [] σ' H' s10/\tn i s10.heap/\(∀ b∈fp,H' b=none)/\W i m σ' H':=fun {σ10 H10 s10} J10 n10=>by
    obtain ⟨m',hm,w10⟩:=hN σ10 H10 n10
    refine ⟨m',hm,i+1,σ10,H10,J10.unpinned,Tn.keep _ _ _ st7 fun b hb o e=>(J10.pin (b,o) (Qn _ (Qn _ (Lj hb e)))).1,fun b hb=>?_,w10⟩
    obtain ⟨o,e,d⟩:=Tn.obj _ _ st7 b hb
    exact (J10.pin (b,o) (Qn _ (Qn _ (Lj hb e)))).2.1
   cases ok with
   | false =>
    have q9':Nx σ8 H9:=q9
    exact again I9 q9'
   | true =>
    have q9':te σ8 H9 _:=q9
    have q10:=he' _ s9 σ8 H9 _ I9 q9'
    rw [eP,eW,eA,eX] at q10
    refine Ah q10 fun y s10 zq=>?_
    obtain ⟨yv,H10,I10,r10,ys,hys,hz,n10⟩:=zq
    have q11:=(C8 (X:=X')) _ s10 σ8 H10 (.ref s.heap.objs.size) [yv] (.ref s.heap.objs.size) [y] (fun _ H11=>Nx σ8 H11) I10 rfl (.cons r10 .nil) ⟨_,ys,yv,rfl,rfl,hys,hz,n10⟩
    rw [eP,eW,eA,eX] at q11
    exact Ah q11 fun _ s11 ⟨_,H11,I11,_,n11⟩=>again I11 n11
 rw [eE] at loop
 exact codeAny_compStart_list loop (Tn.self _ 0 _ _ _ st4 loop)
theorem Zmr (hc:X.calm=true)(S:Gb scope X.env)(hi:PI X target iter wi)(T:∀ σ,σ.length=X.N.length->Ex X scope N σ (σ0 σ))
  (hg:∀ C s H fp,PG (B7 X scope C N s H fp) target g) (ht:∀ C s H fp,F5 (B7 X scope C N s H fp) ifs tt) (he:∀ C s H fp,PE (B7 X scope C N s H fp) elt te)
  (hs:∀ x,foldedSetIterable iter X.env x=pure x:=by intro _;rfl):PE X (.ListComp elt [⟨target,iter,ifs,0⟩] scope pos) (Hv wi σ0 g tt te):=by
 intro pins s σ H Q I h
 rw [eval_ListComp]
 refine wpAny_comprehension_free (use:=none) rfl hs (Zdj S.free) S.kind S.loc (Ah (hi pins s σ H _ I h) fun xv s₁ h₁=>Ah h₁ fun itv s₂ h₂=>?_)
 obtain ⟨it,fp,tn,J,H2,rfl,I2,Tn,st2,f2,hw⟩:=h₂
 refine Zc6 (Q:=fun D H'=>Q (.ref D) H') (RR:=fun acc C=>compPost (model X.prog X.w) X.A X.xe none (EP X pins σ Q) acc C) hc S (T σ I.len) I2 Tn st2 f2 hg ht he hw ?_
 intro D C H' s' m hC _ hn hI hq
 exact ⟨m,hn,fun h' hs'=>⟨.ref D,H',hI h' hs',rfl,hq⟩⟩
theorem Zmz {i:Nat}{y:Str}{py spos:Pos}(hc:X.calm=true)(S:Gb scope X.env)(hi:PI X target iter wi)(T:∀ σ,σ.length=X.N.length->Ex X scope N σ (σ0 σ))
  (hg:∀ C s H fp,PG (B7 X scope C N s H fp) target g) (ht:∀ C s H fp,F5 (B7 X scope C N s H fp) ifs tt) (he:∀ C s H fp,PE (B7 X scope C N s H fp) elt te)
  (hN:X.N.Nodup) (hy:X.N[i]?=some y) (hx:Ev X.env.scope y)
  (hsw:swapsWith (.ListComp elt [⟨target,iter,ifs,0⟩] scope pos) (some (.Name y py)) spos.line X.env=pure true:=by rfl)
  (hf:X.fn y=true\/X.env.scope.names.lookup y=some .local:=by first | exact .inl rfl | exact .inr rfl | assumption)
  (hs:∀ x,foldedSetIterable iter X.env x=pure x:=by intro _;rfl):PS X (.Assign [.Name y py] (.ListComp elt [⟨target,iter,ifs,0⟩] scope pos) spos) (Fe (Hv wi σ0 g tt te) (Fm i)):=by
 intro pins s σ H D I h
 rw [exec_Assign_Name_used _ _ _ _ hsw]
 refine On (Ut (On ?_))
 show wpAny _ X.A (do let _ <- comprehension (.ListComp elt [⟨target,iter,ifs,0⟩] scope pos) scope X.env _ (newList []) false (eval iter X.env) (some (assign (.Name y py) X.env))) _ _ s
 refine On (Ah (wpAny_comprehension_free (use:=some (assign (.Name y py) X.env)) (Q:=fun _ s'=>SP X pins D .next s') rfl hs (Zdj S.free) S.kind S.loc
  (Ah (hi pins s σ H _ I h) fun xv s₁ h₁=>Ah h₁ fun itv s₂ h₂=>?_)) fun _ s' hq=>Oq (Oq hq))
 obtain ⟨it,fp,tn,J,H2,rfl,I2,Tn,st2,f2,hw⟩:=h₂
 refine Zc6 (Q:=fun L H'=>D.nx (σ.set i (some (.ref L))) H') (RR:=fun acc C=>compPost (model X.prog X.w) X.A X.xe (some (assign (.Name y py) X.env)) (fun _ s'=>SP X pins D .next s') acc C) hc S (T σ I.len) I2 Tn st2 f2 hg ht he hw ?_
 intro L C H' s' m hC hfree hn hI hq
 have I3:Inv X pins σ H' s':=hI s'.heap (.refl ..)
 refine wpAny_assign_Name (Zb9 I3 hN hy hx (v:=.ref L) rfl (fun s4 I4 hch=>?_) hf)
 obtain ⟨a,hsb,ha⟩:=hch
 have haC:C≠a:=by
  rintro rfl
  rcases ha with e | e
  ·have:=I2.lt
   rw [<- e] at this
   exact absurd (O9 this hC) (Qk _)
  ·obtain ⟨v,z⟩:=I2.cell y _ e
   exact absurd (O9 z.lt hC) (Qk _)
 refine ⟨m,hn.sameBut hsb haC,fun h' hs'=>⟨_,H',?_,hq⟩⟩
 have e4:({ s4 with heap:=h' }:Shared)={ s4 with heap:=h',toks:=s4.toks }:=rfl
 rw [e4]
 refine I4.turned (it:=C) (fun b o hb e=>(hs'.2 b hb).trans e) hfree ?_ (.inr (Pi I2.sz hC)) ?_ ?_
 ·exact Qs (O9 I2.lt hC)
 ·rintro x c e rfl
  obtain ⟨v,z⟩:=I2.cell x _ e
  exact absurd (O9 z.lt hC) (Qk _)
 ·rintro p hp e
  exact absurd (O9 (Ow (I2.pin p hp).1) (by rw [e];exact hC)) (Qk _)
end
section
variable {X:Cx}
theorem Hs {K:Om}{T:String}:Pg K (.type T) (.type T)=some true:=by
 unfold Pg
 rw [if_pos (by simp)]
theorem Zm1 {K:Om}{T U:String}{b:Bool}{l:List Value}(hm:V4 U=true)(hn:¬ T=U)(hl:fastBuiltinMro T=some l)(hb:l.contains (.type U)=b):Pg K (.type T) (.type U)=some b:=by
 unfold Pg
 rw [if_neg (by simp [hn])]
 show (if V4 U=true then PySem.W.subIn K (.type T) (.type U) else none)=some b
 rw [if_pos hm]
 show (fastBuiltinMro T).map (·.contains (.type U))=some b
 rw [hl,<- hb]
 rfl
theorem Zm8:OpR X (compareOp .LtE) (fun x y H Q=>∃ i j,x=.str i/\y=.str j/\Q (.bl (!(decide (j.cps.toList < i.cps.toList)))) H):=by
 intro pins s σ H x y v u Q I rx ry h
 obtain ⟨i,j,rfl,rfl,q⟩:=h
 obtain ⟨t,rfl⟩:=rx
 obtain ⟨t',rfl⟩:=ry
 exact PySem.P.le_str (A9 I q rfl)
theorem Zpb:OpR X (compareOp .In) (fun x y H Q=>∃(c:Nat)(j:Str),x=.str ⟨#[c]⟩/\y=.str j/\Q (.bl (decide (c∈j.cps.toList))) H):=by
 intro pins s σ H x y v u Q I rx ry h
 obtain ⟨c,j,rfl,rfl,q⟩:=h
 exact Zh9 pins s σ H _ _ v u Q I rx ry ⟨_,_,rfl,rfl,by rw [StrLaws.found_one];exact q⟩
theorem Zrl:OpR X (compareOp .NotIn) (fun x y H Q=>∃(c:Nat)(j:Str),x=.str ⟨#[c]⟩/\y=.str j/\Q (.bl (!decide (c∈j.cps.toList))) H):=by
 intro pins s σ H x y v u Q I rx ry h
 obtain ⟨c,j,rfl,rfl,q⟩:=h
 exact Zm7 pins s σ H _ _ v u Q I rx ry ⟨_,_,rfl,rfl,by rw [StrLaws.found_one];exact q⟩
noncomputable def L4:V->Option Int->Option Int->Hp->VK->Prop:=fun x lo hi H Q=>∃ z,x=.str z/\z.length<=sizeLine/\Q (.str (Qm z lo hi)) H
theorem sl_str:SlR X L4:=by
 intro pins s σ H x v vl vu lo hi sl Q I rx hs pl pu h
 obtain ⟨z,rfl,hz,q⟩:=h
 obtain ⟨t,rfl⟩:=rx
 obtain ⟨o,ho,hc,hd⟩:=hs
 refine ⟨"str",_,slot_str_getitem.lookup,typeIs_str _ _ _,?_⟩
 cases pl with
 | none =>
  cases pu with
  | none=>exact Ts (l:=none) (u:=none) (st:=none) ⟨_,ho,hc,hd⟩ rfl (Uh ⟨Pi (Sb z _ _) hz,fun t' k=>⟨.str (Qm z _ _),H,I.tok k,⟨t',rfl⟩,q⟩⟩)
  | int j u=>exact Ts (l:=none) (u:=some (j,u)) (st:=none) ⟨_,ho,hc,hd⟩ rfl (Uh ⟨Pi (Sb z _ _) hz,fun t' k=>⟨.str (Qm z _ _),H,I.tok k,⟨t',rfl⟩,q⟩⟩)
 | int i ti =>
  cases pu with
  | none=>exact Ts (l:=some (i,ti)) (u:=none) (st:=none) ⟨_,ho,hc,hd⟩ rfl (Uh ⟨Pi (Sb z _ _) hz,fun t' k=>⟨.str (Qm z _ _),H,I.tok k,⟨t',rfl⟩,q⟩⟩)
  | int j u=>exact Ts (l:=some (i,ti)) (u:=some (j,u)) (st:=none) ⟨_,ho,hc,hd⟩ rfl (Uh ⟨Pi (Sb z _ _) hz,fun t' k=>⟨.str (Qm z _ _),H,I.tok k,⟨t',rfl⟩,q⟩⟩)
theorem Zgb {z:Str}{lo hi:Option Int}{c:Nat}(h:c∈(Qm z lo hi).cps.toList):c∈z.cps.toList:=by
 unfold Qm at h
 split at h
 ·exact h
 ·obtain ⟨i,_,e⟩:=Vl.mp (by simpa using h)
  exact Pn (by simpa using e)
theorem Zfe:∀{ys:List Str}{us:List Value},Vals (ys.map V.str) us->StrsAre us ys
 | [],_,.nil=>.nil
 | y::ys,_,.cons r t=>by
  obtain ⟨tk,rfl⟩:=r
  exact .cons y tk (Zfe t)
noncomputable def N0 (K:Om):V->List V->Hp->VK->Prop:=fun x vs H Q=>∃ sep p ys,x=.str sep/\vs=[.ref p]/\SqL K H p (ys.map V.str)/\(ys.map (·.length)).sum+ys.length * sep.length<=16777216/\Q (.str (Qu sep ys)) H
theorem Zhu:E4 X "str.join" (N0 X.K):=by
 intro pins s σ H x vs v us Q I rx rv h
 obtain ⟨sep,p,ys,rfl,rfl,hq,hz,q⟩:=h
 obtain ⟨t,rfl⟩:=rx
 obtain ⟨u,rfl,ru⟩:=rv.one
 cases ru
 obtain ⟨its,r,pl,_⟩:=I.list hq
 exact join_list pl.isList (by simpa using Zfe r) hz fun t' k=>⟨.str (Qu sep ys),H,I.tok k,⟨t',rfl⟩,q⟩
theorem Zbp:∀{ys:List Str}{c:Nat},c∈(Str.join P5 ys).cps.toList->∃ y∈ys,c∈y.cps.toList
 | [],c,h=>by simp [Str.join,P5] at h
 | [y],c,h=>⟨y,Qp.mpr rfl,h⟩
 | y::z::r,c,h=>by
  have h:c∈((y++P5)++Str.join P5 (z::r)).cps.toList:=h
  have e:∀ a b:Str,(a++b).cps.toList=a.cps.toList++b.cps.toList:=fun a b=>by
   show (a.cps++b.cps).toList=_
   simp
  rw [e,e] at h
  rcases P9.mp h with h | h
  ·rcases P9.mp h with h | h
   ·exact ⟨y,Pr,h⟩
   ·simp [P5] at h
  ·obtain ⟨w,hw,hc⟩:=Zbp h
   exact ⟨w,Pe _ hw,hc⟩
theorem Zp2 {ys:List Str}{c:Nat}(h:c∈(Qu P5 ys).cps.toList):∃ y∈ys,c∈y.cps.toList:=by
 unfold Qu at h
 rw [StrLaws.glued_eq_join] at h
 exact Zbp h
end
noncomputable def Its (z:Str):It:=⟨fun i _=>i < z.cps.size,fun i H x H'=>H'=H/\∃ c,z.cps.toList[i]?=some c/\x=.str ⟨#[c]⟩,fun i _=>i=z.cps.size⟩
theorem Zhy (z:Str):["enumerate", "zip", "dict_itemiterator", "dict_reverseitemiterator", "odict_iterator", "itertools.zip_longest", "itertools.pairwise"].contains (strIterType z)=false:=by
 unfold strIterType
 cases z.cps.all (· < 128) <;> decide
theorem Zdb {P:Program}{w:World}{A:Around}(hh:A.handled=none)(it:Addr)(z:Str)(t:Tok):Walks P w A it [it] [it] z.cps.size (SignAt z) (fun i h=>h.IsStrIter it (strIterType z) z t i):=by
 unfold strIterType
 cases z.cps.all (· < 128)
 ·exact Walks.strWide hh it z t
 ·exact Walks.strAscii hh it z t
theorem Zjy {P:Program}{w:World}{K:Om}{tg:Expr}(it:Addr)(z:Str)(t:Tok):Ei P w K tg (Its z) [it] it (fun i h=>h.IsStrIter it (strIterType z) z t i) where
 mem:=by simp
 obj:=fun i h st b hb=>by
  have e:b=it:=by simpa using hb
  subst e
  obtain ⟨o,e,c,d⟩:=st
  exact ⟨o,e,fun v z=>by rw [d] at z;cases z⟩
 keep:=fun i h h' st k=>let ⟨o,e,r⟩:=st;⟨o,k it (by simp) o e,r⟩
 item:=by
  intro X hP hw hK hc i pins s σ H E I hf st hg
  subst hP hw hK
  obtain ⟨f0,f1,f2,f3,f4,f5⟩:=hf it (by simp)
  refine (Zdb (P:=X.prog) (w:=X.w) (I.ok.hd hc) it z t).item i s _ _ hg st fun v h' tk hv st' kk=>?_
  obtain ⟨c,u,hcu,rfl⟩:=hv
  have I1:Inv X pins σ H { s with heap:=h',toks:=tk }:=I.turned (fun b o hb e=>kk b o (by simpa using hb) e) f0 f1 f3 f4 f5
  obtain ⟨o,e,cc,d⟩:=id st'
  exact ⟨_,rfl,G5 (s:={ s with heap:=h',toks:=tk }) e cc d (Zhy z) ⟨.str ⟨#[c]⟩,H,I1,⟨u,rfl⟩,⟨rfl,c,by simpa using hcu,rfl⟩,st',fun b hb=>(hf b hb).1⟩⟩
 done:=by
  intro X hP hw hK hc i pins s σ H E I hf st hg
  subst hP hw hK
  obtain ⟨f0,f1,f2,f3,f4,f5⟩:=hf it (by simp)
  have hg:i=z.cps.size:=hg
  subst hg
  exact (Zdb (P:=X.prog) (w:=X.w) (I.ok.hd hc) it z t).done s _ _ st fun h' tk kk=>⟨rfl,I.turned (fun b o hb e=>kk b o (by simpa using hb) e) f0 f1 f3 f4 f5⟩
 self:=fun A i s Q E st h=>by
  obtain ⟨o,e,c,d⟩:=st
  unfold strIterType at c
  cases ha:z.cps.all (· < 128)
  ·rw [ha] at c;exact wpAny_pyIter_striter_wide ⟨o,e,c,d⟩ h
  ·rw [ha] at c;exact wpAny_pyIter_striter_ascii ⟨o,e,c,d⟩ h
section
variable {X:Cx}{tg:Expr}
end
section
variable {g:TG}{tt:TT}{te:TE}{σ0:St}{H1:Hp}{D:Addr}{Q:VK}
noncomputable def Hn (g:TG)(tt:TT)(te:TE)(D:Addr)(Nx:List V->St->Hp->Prop)(x:V)(σ:St)(H:Hp):Prop :=
 g x σ H fun σ2 H3=>tt σ2 H3 fun b H4=>if b=true then te σ2 H4 fun y H5=>∃ ys,H5 D=some (.lst ys)/\ys.length < sizeLine/\(∃ zs,upd H5 D (.lst (ys++[y])) D=some (.lst zs)/\Nx zs σ2 (upd H5 D (.lst (ys++[y])))) else ∃ zs,H4 D=some (.lst zs)/\Nx zs σ2 H4
theorem Kd {lo:Int}{n:Nat}(Pv:Nat->List V->St->Hp->Prop)(h0:Pv 0 [] σ0 (upd H1 D (.lst [])))
  (hs:∀ i ys σ H,i < n->H D=some (.lst ys)->Pv i ys σ H->Hn g tt te D (Pv (i+1)) (.int (lo+i)) σ H)
  (hd:∀ ys σ H,H D=some (.lst ys)->Pv n ys σ H->Q (.ref D) H):Gw (Fh lo n) g tt te σ0 H1 D Q:=by
 refine ⟨fun i m σ H=>m=n - i/\i<=n/\∃ ys,H D=some (.lst ys)/\Pv i ys σ H,⟨n,by simp,Pj _,[],Ad,h0⟩,?_⟩
 rintro i m σ H ⟨rfl,hi,ys,hD,p⟩
 by_cases hlt:i < n
 ·refine .inr ⟨hlt,fun σ2 H2=>∃ zs,H2 D=some (.lst zs)/\Pv (i+1) zs σ2 H2,fun σ' H' p'=>⟨n - (i+1),by omega,rfl,hlt,p'⟩,fun x H' y=>?_⟩
  obtain ⟨e,y⟩:=y
  subst e y
  exact hs i ys σ _ hlt hD p
 ·have e:i=n:=by omega
  subst e
  exact .inl ⟨Os _,hd ys σ H hD p⟩
theorem Nm {z:Str}(Pv:Nat->List V->St->Hp->Prop)(h0:Pv 0 [] σ0 (upd H1 D (.lst [])))
  (hs:∀ i c ys σ H,z.cps.toList[i]?=some c->H D=some (.lst ys)->Pv i ys σ H->Hn g tt te D (Pv (i+1)) (.str ⟨#[c]⟩) σ H)
  (hd:∀ ys σ H,H D=some (.lst ys)->Pv z.cps.size ys σ H->Q (.ref D) H):Gw (Its z) g tt te σ0 H1 D Q:=by
 refine ⟨fun i m σ H=>m=z.cps.size - i/\i<=z.cps.size/\∃ ys,H D=some (.lst ys)/\Pv i ys σ H,⟨z.cps.size,by simp,Pj _,[],Ad,h0⟩,?_⟩
 rintro i m σ H ⟨rfl,hi,ys,hD,p⟩
 by_cases hlt:i < z.cps.size
 ·refine .inr ⟨hlt,fun σ2 H2=>∃ zs,H2 D=some (.lst zs)/\Pv (i+1) zs σ2 H2,fun σ' H' p'=>⟨z.cps.size - (i+1),by omega,rfl,hlt,p'⟩,fun x H' y=>?_⟩
  obtain ⟨e,c,hc,y⟩:=y
  subst e y
  exact hs i c ys σ _ hc hD p
 ·have e:i=z.cps.size:=by omega
  subst e
  exact .inl ⟨rfl,hd ys σ H hD p⟩
theorem Zdt {K:Om}{a:Addr}{xs:List V}(Pv:Nat->List V->St->Hp->Prop)(h0:Pv 0 [] σ0 (upd H1 D (.lst [])))(hl:∀ i ys σ H,i<=xs.length->Pv i ys σ H->SqL K H a xs)
  (hs:∀ i x ys σ H,xs[i]?=some x->H D=some (.lst ys)->Pv i ys σ H->Hn g tt te D (Pv (i+1)) x σ H)
  (hd:∀ ys σ H,H D=some (.lst ys)->Pv xs.length ys σ H->Q (.ref D) H):Gw (F9 K a) g tt te σ0 H1 D Q:=by
 refine ⟨fun i m σ H=>m=xs.length - i/\i<=xs.length/\∃ ys,H D=some (.lst ys)/\Pv i ys σ H,⟨xs.length,by simp,Pj _,[],Ad,h0⟩,?_⟩
 rintro i m σ H ⟨rfl,hi,ys,hD,p⟩
 have q:=hl i ys σ H hi p
 by_cases hlt:i < xs.length
 ·refine .inr ⟨⟨xs,xs[i],q,by simp [hlt]⟩,fun σ2 H2=>∃ zs,H2 D=some (.lst zs)/\Pv (i+1) zs σ2 H2,fun σ' H' p'=>⟨xs.length - (i+1),by omega,rfl,hlt,p'⟩,fun x H' y=>?_⟩
  obtain ⟨e,y⟩:=y
  subst e
  exact hs i x ys σ _ (y xs q) hD p
 ·have e:i=xs.length:=by omega
  subst e
  exact .inl ⟨⟨xs,q,Os _⟩,hd ys σ H hD p⟩
end
section
variable {X:Cx}
theorem Zbu:∀{bs:List Bool}{us:List Value},Vals (bs.map V.bl) us->us=bs.map Value.bool
 | [],_,.nil=>rfl
 | b::bs,_,.cons r t=>by
  cases r
  rw [Zbu t]
  rfl
theorem Zia {bs:List Bool}:(O7 bs.length).all (fun i=>bs.getD i true)=bs.all id:=by
 induction bs with
 | nil=>rfl
 | cons b r ih =>
  rw [O5,List.range_succ_eq_map,Ro,List.all_map,Ro]
  have:((fun i=>(b::r).getD i true) ∘ Nat.succ)=fun i=>r.getD i true:=by
   funext i
   simp
  rw [this,ih]
  rfl
theorem Zmb (hc:X.calm=true):Cf X (.builtin "all") (fun xs H Q=>∃(p:Addr)(bs:List Bool),xs=[.ref p]/\SqL X.K H p (bs.map V.bl)/\Q (.bl (bs.all id)) H):=by
 intro pins s σ H xs us Q I r h
 obtain ⟨p,bs,rfl,hq,q⟩:=h
 obtain ⟨u,rfl,ru⟩:=r.one
 cases ru
 obtain ⟨its,rv,pl,hz⟩:=I.list hq
 obtain rfl:=Zbu rv
 refine call_all_walk (Ua pl.isList ?_)
 have hlt:p < s.heap.objs.size:=by obtain ⟨o,e,_⟩:=pl.isList;exact Ow e
 have hl':(s.heap.push { cls:=.type "list_iterator",data:=.fields #[.ref p,rawInt 0] }).IsList p (bs.map Value.bool).toArray:=pl.isList.at fun o e=>Ou _ e
 refine ⟨s.heap.objs.size,_,_,_,_,_,fun i=>bs.getD i true,rfl,Walks.list (A:=X.A.in1) (show X.A.in1.handled=none from I.ok.hd hc) s.heap.objs.size p (O1 hlt) (bs.map Value.bool).toArray,⟨⟨_,O4 _ rfl,rfl,rfl⟩,?_⟩,?_,?_⟩
 ·exact pl.isList.at fun o e=>Ou _ e
 ·intro i v s' Q' E' hv hQ
  have hv':(bs.map Value.bool)[i]?=some v:=by simpa using hv
  rw [Rc] at hv'
  cases e:bs[i]? with
  | none=>rw [e] at hv';cases hv'
  | some b =>
   rw [e] at hv'
   cases hv'
   have:bs.getD i true=b:=by simp [List.getD,e]
   have hQ:Q' (bs.getD i true) s':=hQ
   rw [this] at hQ
   exact Q1 hQ
 ·intro h' tk hk
  have I1:Inv X pins σ H { s with heap:=s.heap.push { cls:=.type "list_iterator",data:=.fields #[.ref p,rawInt 0] } }:=I.kept (t':=s.toks) fun b o e=>Ou _ e
  have F:=I.fpOk (Os s.heap.objs.size) (I.hok.fresh (Os _))
  obtain ⟨f0,f1,f2,f3,f4,f5⟩:=F
  have I2:Inv X pins σ H { s with heap:=h',toks:=tk }:=Inv.turned (s:={ s with heap:=s.heap.push { cls:=.type "list_iterator",data:=.fields #[.ref p,rawInt 0] } }) (h':=h') (t':=tk) (it:=s.heap.objs.size) I1 (fun b o hb e=>hk b o (by simpa using hb) e) f0 f1 f3 f4 f5
  refine ⟨.bl (bs.all id),H,I2,?_,q⟩
  show Value.bool _=Value.bool _
  have:(bs.map Value.bool).toArray.size=bs.length:=by simp
  rw [this,Zia]
end
theorem Same.upd {H:Hp}{p:Addr}{o:HO}(h:H p=none):Same H (upd H p o):=fun b u e=>by rw [Ai (Bc e h)];exact e
theorem newQ {H:Hp}{a:Addr}(h:H a=none)(o:HO):∃ H1,Same H H1/\H1 a=some o/\upd H a o=H1:=⟨_,Same.upd h,Ad,rfl⟩
theorem Same.put {H0 H:Hp}{p:Addr}{o:HO}(s:Same H0 H)(h:H p=none):Same H0 (L2.upd H p o):=s.trans (Same.upd h)
theorem Same.over {H0 H:Hp}{p:Addr}{o:HO}(s:Same H0 H)(h:H0 p=none):Same H0 (L2.upd H p o):=fun b u e=>by rw [Ai (Bc e h)];exact s b u e
theorem Same.tup {K:Om}{H H':Hp}{a:Addr}{xs:List V}(e:Same H H')(h:SqT K H a xs):SqT K H' a xs:=by
 rcases h with (h | ⟨o,h⟩) | h
 ·exact .inl (.inl (e _ _ h))
 ·exact .inl (.inr ⟨o,e _ _ h⟩)
 ·exact .inr h
theorem D6 {sc out:Scope}{qual:Str}{n:Nat}{f:Addr}{cd:Value}(hk:sc.kind=.function)(hc:(sc.names.all fun y=>y.2 != .cell)=true)
  (hl:(sc.names.all fun y=>y.2 != .local || sc.names.lookup y.1 == some .local)=true) (hf:(sc.names.all fun y=>y.2 != .free || out.names.lookup y.1 == some .cell)=true):Gb sc (envOfC qual out n f cd) where
 kind:=hk
 nocell:=fun y hy e=>by have:=Pl.mp hc y hy;rw [e] at this;cases this
 loc:=fun y hy e=>by
  have:=Pl.mp hl y hy
  rw [e] at this
  simpa using this
 free:=fun y hy e=>by
  have h:=Pl.mp hf y hy
  rw [e] at h
  have h:out.names.lookup y.1=some .cell:=by simpa using h
  obtain ⟨c,hc⟩:=Zah (n:=n+1) h
  show ((cellsFrom (n+1) out.names []).lookup y.1).isSome=true
  rw [hc]
  rfl
noncomputable def C2 (k:Nat)(cap:List Nat)(σ:St):St:=O0 k none++cap.map fun j=>(σ[j]?).join
theorem Zpd {X:Cx}{scope:Scope}{N:List Str}{k:Nat}{cap:List Nat}{σ:St}(hl:k+cap.length=N.length)
  (h:∀(i j:Nat)(x:Str),cap[i]?=some j->N[k+i]?=some x->X.N[j]?=some x/\scope.names.lookup x=some .free/\(X.env.kindOf x=some .cell\/X.env.kindOf x=some .free)):Ex X scope N σ (C2 k cap σ):=by
 refine ⟨by unfold C2;simp [hl],fun i x v hx hv=>?_⟩
 unfold C2 at hv
 by_cases hi:i < k
 ·rw [Qx (by simpa using hi),List.getElem?_replicate,if_pos hi] at hv
  cases hv
 ·rw [Qw (by simpa using hi),Ve,Rc] at hv
  cases hj:cap[i - k]? with
  | none=>rw [hj] at hv;cases hv
  | some j =>
   rw [hj] at hv
   have hv:(σ[j]?).join=some v:=Ox hv
   obtain ⟨h1,h2,h3⟩:=h (i - k) j x hj (by rw [show k+(i - k)=i by omega];exact hx)
   refine ⟨j,h1,?_,h2,h3⟩
   cases e:σ[j]? with
   | none=>rw [e] at hv;cases hv
   | some o=>rw [e] at hv;exact congrArg some hv
theorem D9 {X:Cx}{scope:Scope}{N:List Str}{k:Nat}{cap:List Nat}(hl:k+cap.length=N.length)
  (h:((cap.zip (N.drop k)).all fun p=>X.N[p.1]? == some p.2 && scope.names.lookup p.2 == some .free && (X.env.kindOf p.2 == some .cell || X.env.kindOf p.2 == some .free))=true):∀ σ,σ.length=X.N.length->Ex X scope N σ (C2 k cap σ):=fun σ _ =>
 Zpd hl fun i j x hj hx=>by
  have m:(j,x)∈cap.zip (N.drop k):=by
   refine Pn (i:=i) ?_
   rw [List.getElem?_zip_eq_some]
   exact ⟨hj,by rw [List.getElem?_drop];exact hx⟩
  have:=Pl.mp h _ m
  simp only [Pt,Bool.or_eq_true,beq_iff_eq] at this
  exact ⟨this.1.1,this.1.2,this.2⟩
theorem Di {α:Type}{xs:List α}{i:Int}(h0:0<=i)(h1:i < xs.length):∃ v,Bv xs i=some v/\v∈xs:=by
 have hj:i.toNat < xs.length:=by omega
 refine ⟨xs[i.toNat],?_,Re hj⟩
 have:=Gh (xs:=xs) (j:=i.toNat) (v:=xs[i.toNat]) (by simp [hj])
 rwa [Int.toNat_of_nonneg h0] at this
noncomputable def L3:Expr->Option V
 | .Constant (.str x) _ _=>some (.str x)
 | .Constant (.int i) _ _=>some (.int i)
 | .Constant (.bool b) _ _=>some (.bl b)
 | .Constant .none _ _=>some .non
 | _=>none
noncomputable def Ly:List Expr->Option (List V)
 | []=>some []
 | e::es=>match L3 e,Ly es with
  | some v,some vs=>some (v::vs)
  | _,_=>none
noncomputable def Mh (xs:List V):TA:=fun _ H Q=>Q xs H
theorem Zqs {X:Cx}{e:Expr}{v:V}(h:L3 e=some v):PE X e (tC v)/\∀ es,starEach (e::es) X.env=(false,eval e X.env)::starEach es X.env:=by
 unfold L3 at h
 split at h
 ·cases h;exact ⟨Zfp,fun _=>rfl⟩
 ·cases h;exact ⟨Zdu,fun _=>rfl⟩
 ·cases h;exact ⟨Zdi,fun _=>rfl⟩
 ·cases h;exact ⟨Zch,fun _=>rfl⟩
 ·cases h
theorem Zcf {X:Cx}:∀{es:List Expr}{xs:List V},Ly es=some xs->PA X es (Mh xs)
 | [],xs,h=>by
  have h:some []=some xs:=h
  cases h
  exact Zfl
 | e::es,xs,h=>by
  unfold Ly at h
  split at h
  ·rename_i v vs h1 h2
   cases h
   obtain ⟨p,hs⟩:=Zqs (X:=X) h1
   exact Ze8 p (Zcf h2) (hs es)
  ·cases h
structure Av (P:Program)(w:World)(K:Om)(mg:Str->Option Value)(base:Heap)(k:Nat)(x:Str)(ps:List Str)(sp:Sp):Prop where
 ex:∃(f:Addr)(fd:FuncData),Aq P w K mg base Ar k f fd ps sp/\mg x=some (.ref f)/\Qb K (.ref f)=true/\Binds K fd ps []
section
variable {X:Cx}{k:Nat}{x:Str}{ps:List Str}{sp:Sp}{p pos:Pos}{e:Expr}{es:List Expr}{t:TA}
theorem Zn9 (C:Av X.prog X.w X.K X.mg X.base k x ps sp)(hr:Room k X.A)(ha:PA X (e::es) t)(hg:Gl X x:=by rfl)(hdb:(x == ("__debug__" : Str))=false:=by decide)
  (he:starEach (e::es) X.env=(false,eval e X.env)::starEach es X.env:=by rfl) (hpl:(backTo pos (starEach es X.env)).any (·.1)=false:=by rfl):PE X (.Call (.Name x p) (e::es) [] pos) (Fp sp [] E0 t):=by
 obtain ⟨f,fd,F,hm,hk,hb⟩:=C.ex
 exact Zov F hr hg hm hk hb .nil Ks ha hdb he hpl
end
end L2
namespace L2
open PySem
theorem Zqr {x:V}{u:Value}(h:K6 u=some x):RelV x u:=by
 cases u <;> simp only [K6] at h <;> first | (cases h;first | rfl | exact ⟨_,rfl⟩) | cases h
noncomputable def Fv:List Value->Option (List V)
 | []=>some []
 | u::r=>match K6 u,Fv r with
  | some x,some xs=>some (x::xs)
  | _,_=>none
theorem Zgk:∀{us:List Value}{xs:List V},Fv us=some xs->Vals xs us
 | [],xs,h=>by
  have h:some []=some xs:=h
  cases h
  exact .nil
 | u::r,xs,h=>by
  unfold Fv at h
  split at h
  ·rename_i x ys h1 h2
   cases h
   exact .cons (Zqr h1) (Zgk h2)
  ·cases h
theorem Zax {K:Om}{a:Addr}{od:Option Addr}{its:Array Value}{n:Nat}{sl:Array (Option Value)}{xs:List V}(l:K.lookup a=some ⟨.type "tuple",od,.seq its n,sl⟩)(h:Fv its.toList=some xs)(hz:xs.length<=1000):∀ H,SqT K H a xs:=fun H=>by
 have v:=Zgk h
 refine .inr ⟨_,its,n,l,rfl,rfl,?_,v⟩
 have e:=v.length
 have b:1000<=sizeLine:=by decide
 have e2:its.toList.length=its.size:=Sj
 omega
theorem Zlo {P:Program}{w:World}{K:Om}{mg:Str->Option Value}{base:Heap}{k:Nat}{x:Str}{ps:List Str}{sp:Sp}{f:Addr}{fd:FuncData}(F:Aq P w K mg base Ar k f fd ps sp)(m:mg x=some (.ref f))(kp:Qb K (.ref f)=true)(b:Binds K fd ps []):Av P w K mg base k x ps sp:=⟨f,fd,F,m,kp,b⟩
section
variable {P:Program}{w:World}{K:Om}{mg:Str->Option Value}{base:Heap}
end
end L2
set_option autoImplicit true
namespace L2
open PySem PySem.Spec PyProof.Rows
structure QE (X:Cx)(e:Expr)(t:TE):Prop where
 run:PE X e t
structure QT (X:Cx)(e:Expr)(t:TT):Prop where
 run:PT X e t
structure QW (X:Cx)(e:Expr)(t:TT):Prop where
 run:PW X e t
structure QA (X:Cx)(es:List Expr)(t:TA):Prop where
 run:PA X es t
structure QS (X:Cx)(st:Stmt)(t:TS):Prop where
 run:PS X st t
structure D5 (X:Cx)(sts:List Stmt)(t:TS):Prop where
 run:PSs X sts t
structure QG (X:Cx)(e:Expr)(g:TG):Prop where
 run:PG X e g
structure Gf (X:Cx)(es:List Expr)(g:Ci):Prop where
 run:PGs X es g
structure QI (X:Cx)(tg iter:Expr)(wi:TI):Prop where
 run:PI X tg iter wi
structure QC (X:Cx)(op:CmpOp)(a b:Expr)(t:TE):Prop where
 run:PC X op a b t
structure QO (X:Cx)(e:Option Expr)(t:TO):Prop where
 run:PO X e t
structure QTs (X:Cx)(ifs:List Expr)(t:TT):Prop where
 run:F5 X ifs t
theorem Ac {i j pos}:QE X (.Constant (.int i) j pos) (tC (.int i)):=⟨Zdu⟩
theorem Cm {b j pos}:QE X (.Constant (.bool b) j pos) (tC (.bl b)):=⟨Zdi⟩
theorem E3 {j pos}:QE X (.Constant .none j pos) (tC .non):=⟨Zch⟩
theorem A2 {x j pos}:QE X (.Constant (.str x) j pos) (tC (.str x)):=⟨Zfp⟩
theorem Zdn {x:Str}{v:V}{u:Value}{pos:Pos}(hg:Gl X x)(hm:X.mg x=some u)(r:RelV v u)(hd:(x == ("__debug__" : Str))=false:=by decide):QE X (.Name x pos) (tC v):=⟨Zeb hg hm r hd⟩
theorem Eg {x:Str}{v:V}{u:Value}{pos:Pos}(hg:Gl X x)(hm:X.mg x=none)(hv:bootBuiltins x=some u)(r:RelV v u)(hn:x ≠ "__name__" := by decide)(hd:(x == ("__debug__" : Str))=false:=by decide):QE X (.Name x pos) (tC v):=⟨Zmg hg hm hv r hn hd⟩
theorem Ag {op:Operator}{r:R2}(ho:OpR X (binaryOp op) r)(ha:QE X a ta)(hb:QE X b tb):QE X (.BinOp a op b pos) (Cw r ta tb):=⟨Zp8 ho ha.run hb.run⟩
theorem Ii {op:UnaryOp}{r:V->Hp->VK->Prop}(ho:UnR X (unaryOp op) r)(ha:QE X a ta):QE X (.UnaryOp op a pos) (tUn r ta):=⟨Zqb ho ha.run⟩
theorem Zm3 {op:CmpOp}{t:TE}(h:QC X op a b t)(h1:behindInMarks op b=false:=by first | exact Zf2 _ (by decide) (by decide) | rfl):QE X (.Compare a [op] [b] pos) t:=⟨Znb h.run h1⟩
theorem Ca {op:CmpOp}{r:R2}(ho:OpR X (compareOp op) r)(ha:QE X a ta)(hb:QE X b tb)(hm:behindInMarks op b=false):QE X (.Compare a [op] [b] pos) (Cw r ta tb):=⟨Zqg ho ha.run hb.run hm⟩
theorem A5 {op:CmpOp}{r:R2}(ho:OpR X (compareOp op) r)(ha:QE X a ta)(hb:QE X b tb)(hm:behindInMarks op b=false):QT X (.Compare a [op] [b] pos) (J3 (Cw r ta tb)):=⟨Zj7 ho ha.run hb.run hm⟩
theorem Mb {op op':CmpOp}{r r':R2}(ho:OpR X (compareOp op) r)(ho':OpR X (compareOp op') r')(ha:QE X a ta)(hb:QE X b tb)(hc:QE X c tc)(hm:lastMarks [op,op'] [b,c]=false:=by with_unfolding_all rfl):QE X (.Compare a [op,op'] [b,c] pos) (Jn r r' ta tb tc):=⟨Zkf ho ho' ha.run hb.run hc.run hm⟩
theorem Kg {op op':CmpOp}{r r':R2}(ho:OpR X (compareOp op) r)(ho':OpR X (compareOp op') r')(ha:QE X a ta)(hb:QE X b tb)(hc:QE X c tc)(hm:lastMarks [op,op'] [b,c]=false:=by with_unfolding_all rfl):QT X (.Compare a [op,op'] [b,c] pos) (J3 (Jn r r' ta tb tc)):=⟨Znf ho ho' ha.run hb.run hc.run hm⟩
theorem B9 {e:Expr}{t:TE}(h:QE X e t)(he:∀ whole,isTrue e X.env whole=(do let v <- whole;standAt e.pos;holding [v] (truthy v)):=by intro _;rfl):QT X e (tB t):=⟨Zmw h.run he⟩
theorem Zd2 (ha:QT X a tA):QW X (.BoolOp .And [a] pos) tA:=⟨pw_and1 ha.run⟩
theorem Fa (ha:QT X a tA):QW X (.BoolOp .Or [a] pos) tA:=⟨pw_or1 ha.run⟩
theorem Zd6 {rest:List Expr}(ha:QT X a tA)(hb:QW X (.BoolOp .And (b::rest) pos) tB'):QW X (.BoolOp .And (a::b::rest) pos) (Nr tA tB'):=⟨pw_and ha.run hb.run⟩
theorem Du {rest:List Expr}(ha:QT X a tA)(hb:QW X (.BoolOp .Or (b::rest) pos) tB'):QW X (.BoolOp .Or (a::b::rest) pos) (tOr tA tB'):=⟨pw_or ha.run hb.run⟩
theorem B8 (ha:QT X a tA):QT X (.UnaryOp .Not a pos) (Zan tA):=⟨Zny ha.run⟩
theorem Dw {op}{t:TE}(h:QE X a t):QE X (.BoolOp op [a] pos) t:=⟨Zkh h.run⟩
theorem Df {rest:List Expr}(ha:QE X a ta)(hb:QE X (.BoolOp .And (b::rest) pos) tb):QE X (.BoolOp .And (a::b::rest) pos) (Hx ta tb):=⟨Zrb ha.run hb.run⟩
theorem Zgg {rest:List Expr}(ha:QE X a ta)(hb:QE X (.BoolOp .Or (b::rest) pos) tb):QE X (.BoolOp .Or (a::b::rest) pos) (Oj ta tb):=⟨Znu ha.run hb.run⟩
theorem Nz (ha:QE X a ta):QE X (.UnaryOp .Not a pos) (Mz ta):=⟨Zn3 ha.run⟩
theorem A4  : D5 X [] Mu:=⟨Zq0⟩
theorem Ae {st:Stmt}{rest:List Stmt}{t u:TS}(h1:QS X st t)(h2:D5 X rest u):D5 X (st::rest) (N8 t u):=⟨Zpx h1.run h2.run⟩
theorem Af {st:Stmt}{t:TS}(h1:QS X st t):D5 X [st] t:=⟨Zil h1.run⟩
theorem C1 {e:Expr}{te:TE}(he:QE X e te)(hs:swapsWith e none pos.line X.env=pure false:=by rfl):QS X (.Expr e pos) (Oi te):=⟨Zhr he.run hs⟩
theorem Ak {e:Expr}{te:TE}(he:QE X e te):QS X (.Return (some e) pos) (Lv te):=⟨Zqe he.run⟩
theorem A0 {t u:TS}{c:Expr}{a b:List Stmt}{tc:TT}(hc:QT X c tc)(ha:D5 X a t)(hb:D5 X b u):QS X (.If c a b pos) (Lr tc t u):=⟨Zg0 hc.run ha.run hb.run⟩
theorem C5  : Gf X [] Ms:=⟨Zi6⟩
theorem Be {e:Expr}{es:List Expr}{t:TG}{u:Ci}(h1:QG X e t)(h2:Gf X es u)(hs:(assignEach (e::es) X.env).map (·.2)=assign e X.env::(assignEach es X.env).map (·.2):=by rfl):Gf X (e::es) (Zav t u):=⟨Zik h1.run h2.run hs⟩
theorem Ax {i:Nat}{x:Str}(hN:X.N.Nodup)(hi:X.N[i]?=some x)(hx:Ev X.env.scope x)(hf:X.fn x=true\/X.env.scope.names.lookup x=some .local:=by first | exact .inl rfl | exact .inr rfl | assumption):QG X (.Name x pos) (Fm i):=⟨Zj9 hN hi hx hf⟩
theorem Zmx {es:List Expr}{k:Nat}{t:Ci}{n:Nat}(hc:X.calm=true)(h:Gf X es t)(hn:(assignEach es X.env).length=n:=by rfl)(hst:(assignEach es X.env).findIdx? (·.1)=none:=by rfl):QG X (.Tuple es k pos) (Ll X.K n t):=⟨Zl9 hc h.run hn hst⟩
theorem Zma {o i:Expr}{to ti:TE}{t:J8}(ho:QE X o to)(hi:QE X i ti)(hs:Za6 X t)(ha:∀ v,assign (.Subscript o i pos) X.env v=(do
   let ov <- holding [v] (eval o X.env)
   let iv <- holding [v,ov] (eval i X.env)
   standAt pos
   holding [v,ov,iv] (setItem ov iv v)
   release [v,ov,iv] []):=by intro _;rfl):QG X (.Subscript o i pos) (My to ti t):=⟨Zhi ho.run hi.run hs ha⟩
theorem Ez {tg e:Expr}{te:TE}{g:TG}(he:QE X e te)(hg:QG X tg g)(hs:swapsWithSole [tg] e pos.line X.env=pure false:=by rfl)(hw:swappedStores [tg] e X.env=pure none:=by rfl)(h1:(assignEach [tg] X.env).map (·.2)=[assign tg X.env]:=by rfl):QS X (.Assign [tg] e pos) (Fe te g):=⟨Zm2 he.run hg.run hs hw h1⟩
theorem M8 {i:Nat}{x:Str}{e:Expr}{te:TE}{pos':Pos}(hN:X.N.Nodup)(hi:X.N[i]?=some x)(hx:Ev X.env.scope x)(he:QE X e te)(hs:swapsWith e (some (.Name x pos')) pos.line X.env=pure false:=by rfl)(hf:X.fn x=true\/X.env.scope.names.lookup x=some .local:=by first | exact .inl rfl | exact .inr rfl | assumption):QS X (.Assign [.Name x pos'] e pos) (Fe te (Fm i)):=⟨Zl7 hN hi hx he.run hs hf⟩
theorem Zbf {c:Expr}{body:List Stmt}{tc:TT}{tb:TS}(hp:PassesOwn (model X.prog X.w) X.A X.env X.xe)(hc:QT X c tc)(hb:D5 X body tb):QS X (.While c body [] pos) (Zgu tc tb):=⟨Zmh hp hc.run hb.run⟩
theorem D7 {a:Expr}{ta:TA}{p pos:Pos}(hg:Gl X "range")(hm:X.mg "range" = none)(ha:QA X [a] ta)(hs:starEach [a] X.env=[(false,eval a X.env)]:=by rfl):QI X tg (.Call (.Name "range" p) [a] [] pos) (Mq ta):=⟨Zid hg hm ha.run hs⟩
theorem B1 {iter:Expr}{body:List Stmt}{wi:TI}{g:TG}{tb:TS}{pos:Pos}(hp:PassesOwn (model X.prog X.w) X.A X.env X.xe)(hc:X.calm=true)(hi:QI X tg iter wi)(hg:QG X tg g)(hb:D5 X body tb)(hs:∀ x,foldedSetIterable iter X.env x=pure x:=by intro _;rfl):QS X (.For tg iter body [] pos) (Oa wi g tb):=⟨Zps hp hc hi.run hg.run hb.run hs⟩
theorem Zm4 (he:QE X e ta)(hb:attributeBase e f X.env (eval e X.env)=eval e X.env):QE X (.Attribute e f pos) (Oh X.K ta f):=⟨Zjc he.run hb⟩
theorem Zrt (ha:QE X o ta)(hv:QE X value tv)(hs:swapsWith value (some (.Attribute o f pos')) pos.line X.env=pure false):QS X (.Assign [.Attribute o f pos'] value pos) (Zab X.K ta tv f):=⟨Zjv ha.run hv.run hs⟩
theorem Ab  : QA X [] Dv:=⟨Zfl⟩
theorem Aa (ha:QE X e te)(hr:QA X es t)(hs:starEach (e::es) X.env=(false,eval e X.env)::starEach es X.env:=by rfl):QA X (e::es) (D0 te t):=⟨Ze8 ha.run hr.run hs⟩
theorem Ap {x1}(h:QA X es t):QE X (.Tuple es x1 pos) (Lw t):=⟨Zpt h.run⟩
theorem Br (h:QA X es t):QE X (.List es pos) (Lc t):=⟨Zic h.run⟩
theorem As (C:Av X.prog X.w X.K X.mg X.base k x ps sp)(hr:Room k X.A)(ha:QA X (e::es) t)(hg:Gl X x:=by rfl)(hdb:(x == ("__debug__" : Str))=false:=by decide)(he:starEach (e::es) X.env=(false,eval e X.env)::starEach es X.env:=by rfl)(hpl:(backTo pos (starEach es X.env)).any (·.1)=false:=by rfl):QE X (.Call (.Name x p) (e::es) [] pos) (Fp sp [] E0 t):=⟨Zn9 C hr ha.run hg hdb he hpl⟩
theorem A8 {id:String}(hc:Cf X (.builtin id) r)(hg:Gl X x)(hm:X.mg x=none)(hv:bootBuiltins x=some (.builtin id))(ha:QA X (e::es) t)(hn:x ≠ "__name__" := by decide)(hdb:(x == ("__debug__" : Str))=false:=by decide)(he:starEach (e::es) X.env=(false,eval e X.env)::starEach es X.env:=by rfl)(hpl:(backTo pos (starEach es X.env)).any (·.1)=false:=by rfl):QE X (.Call (.Name x p) (e::es) [] pos) (Gq r t):=⟨Zjk hc hg hm hv ha.run hn hdb he hpl⟩
theorem Ki {T:String}(hc:Cf X (.type T) r)(hg:Gl X x)(hm:X.mg x=none)(hv:bootBuiltins x=some (.type T))(ha:QA X (e::es) t)(hn:x ≠ "__name__" := by decide)(hdb:(x == ("__debug__" : Str))=false:=by decide)(he:starEach (e::es) X.env=(false,eval e X.env)::starEach es X.env:=by rfl)(hpl:(backTo pos (starEach es X.env)).any (·.1)=false:=by rfl):QE X (.Call (.Name x p) (e::es) [] pos) (Gq r t):=⟨Zhb hc hg hm hv ha.run hn hdb he hpl⟩
theorem Ga  : QO X none Zay:=⟨Zkk⟩
theorem Db (h:QE X e te):QO X (some e) (Zaz te):=⟨Zmc h.run⟩
theorem Ee {lo hi:Option Expr}{r:V->Option Int->Option Int->Hp->VK->Prop}(hr:SlR X r)(he:QE X e te)(hl:QO X lo tl)(hu:QO X hi th):QE X (.Subscript e (.Slice lo hi none p2) pos) (tSl r te tl th):=⟨Zom hr he.run hl.run hu.run⟩
theorem M6 {r:R2}(hr:IxR X r)(ha:QE X a ta)(hb:QE X b tb)(hs:Zaa b):QE X (.Subscript a b pos) (Cw r ta tb):=⟨Zpu hr ha.run hb.run hs⟩
theorem Zrk {T id:String}(pa:PlainAttrs T)(slot:Slot T name id)(hty:typeOf (.builtin id)=pure (.type "method_descriptor"))(hm:E4 X id r)(ho:QE X o to)(ha:QA X (e::es) t)(hbase:attributeBase o name X.env (eval o X.env)=eval o X.env:=by rfl)(hfew:((backTo cpos (starEach (e::es) X.env)).all (fun x=>!x.1) && (backToKw cpos (keywordEach [] X.env)).all (fun x=>x.1.isSome)
   && decide ((e::es).length+([]:List Keyword).length+(if ([]:List Keyword).isEmpty then 0 else 1) < 30))=true:=by rfl) (hline:(apos.endLine == cpos.line)=true:=by rfl) (hs:starEach (e::es) X.env=(false,eval e X.env)::starEach es X.env:=by rfl) (hplain:(backTo cpos (starEach es X.env)).any (·.1)=false:=by rfl):QE X (.Call (.Attribute o name apos) (e::es) [] cpos) (tBM X.K T r to t):=⟨Zoh pa slot hty hm ho.run ha.run hbase hfew hline hs hplain⟩
theorem Zke {T id:String}(pa:PlainAttrs T)(slot:Slot T name id)(hty:typeOf (.builtin id)=pure (.type "method_descriptor"))(hm:E4 X id r)(ho:QE X o to)(hbase:attributeBase o name X.env (eval o X.env)=eval o X.env:=by rfl)(hline:(apos.endLine == cpos.line)=true:=by rfl):QE X (.Call (.Attribute o name apos) [] [] cpos) (Le X.K T r to):=⟨Zmv pa slot hty hm ho.run hbase hline⟩
theorem Fu (hc:X.calm=true)(S:Gb scope X.env)(hi:QI X target iter wi)(T:∀ σ,σ.length=X.N.length->Ex X scope N σ (σ0 σ))(hg:∀ C s H fp,QG (B7 X scope C N s H fp) target g)(ht:∀ C s H fp,QTs (B7 X scope C N s H fp) ifs tt)(he:∀ C s H fp,QE (B7 X scope C N s H fp) elt te)(hs:∀ x,foldedSetIterable iter X.env x=pure x:=by intro _;rfl):QE X (.ListComp elt [⟨target,iter,ifs,0⟩] scope pos) (Hv wi σ0 g tt te):=⟨Zmr hc S hi.run T (fun C s H fp=>(hg C s H fp).run) (fun C s H fp=>(ht C s H fp).run) (fun C s H fp=>(he C s H fp).run) hs⟩
theorem Zau {i:Nat}{y:Str}{py spos:Pos}(hc:X.calm=true)(S:Gb scope X.env)(hi:QI X target iter wi)(T:∀ σ,σ.length=X.N.length->Ex X scope N σ (σ0 σ))(hg:∀ C s H fp,QG (B7 X scope C N s H fp) target g)(ht:∀ C s H fp,QTs (B7 X scope C N s H fp) ifs tt)(he:∀ C s H fp,QE (B7 X scope C N s H fp) elt te)(hN:X.N.Nodup)(hy:X.N[i]?=some y)(hx:Ev X.env.scope y)(hsw:swapsWith (.ListComp elt [⟨target,iter,ifs,0⟩] scope pos) (some (.Name y py)) spos.line X.env=pure true:=by rfl)(hf:X.fn y=true\/X.env.scope.names.lookup y=some .local:=by first | exact .inl rfl | exact .inr rfl | assumption)(hs:∀ x,foldedSetIterable iter X.env x=pure x:=by intro _;rfl):QS X (.Assign [.Name y py] (.ListComp elt [⟨target,iter,ifs,0⟩] scope pos) spos) (Fe (Hv wi σ0 g tt te) (Fm i)):=⟨Zmz hc S hi.run T (fun C s H fp=>(hg C s H fp).run) (fun C s H fp=>(ht C s H fp).run) (fun C s H fp=>(he C s H fp).run) hN hy hx hsw hf hs⟩
theorem Fl {X:Cx}:QTs X [] Zbh:=⟨Zkg⟩
theorem Zc3 {X:Cx}{c:Expr}{t:TT}(h:QT X c t):QTs X [c] t:=⟨Zmk h.run⟩
theorem Zlc {j pos'}(ha:QE X a ta):QC X .Is a (.Constant .none j pos') (Mr ta):=⟨Znr ha.run⟩
theorem Ib {X:Cx}{es:List Expr}{xs:List V}(h:Ly es=some xs):QA X es (Mh xs):=⟨Zcf h⟩
theorem qv {X:Cx}(i:Nat){x:Str}{pos:Pos}(hN:X.N[i]?=some x:=by rfl)(hv:Vis X.env.scope x:=by first | exact Or.inl rfl | exact Or.inr (Or.inl rfl) | exact Or.inr (Or.inr rfl))(hd:(x == ("__debug__" : Str))=false:=by decide)
  (hcd:(x == ("__classdict__" : Str))=false:=by decide):QE X (.Name x pos) (Em i):=⟨Zqt hN hv hd hcd⟩
theorem QW.qt {X:Cx}{e:Expr}{t:TT}(h:QW X e t):QT X e t:=⟨h.run.pt⟩
section
variable {P:Program}{w:World}{K:Om}{mg:Str->Option Value}{base:Heap}
theorem Fun.okq {x qual:Str}{st:Stmt}{f:Addr}{fd:FuncData}{N ps:List Str}{k:Nat}{sp:Sp}(F:Fun K x qual st f fd)(S:Ay N ps (An st))(len:∀ vs H Q E,sp vs H Q E->vs.length=ps.length)
  (hbody:∀(cdv:Value)(A:Around)(outer:List Env)(s:Shared)(H:Hp)(vs:List V)(Q:VK)(E:XK),Room k (A.deeper (envOfC qual (An st) s.heap.objs.size f cdv))->sp vs H Q E ->
   ∃ t,D5 (Ff Ar P w K mg base N qual (An st) f cdv A outer s H E).nox (Cb st) t/\t { nx:=fun _ H'=>Q .non H',rt:=Q } (start N vs) H):Aq P w K mg base Ar (k+1) f fd ps sp :=
 F.ok S len fun cdv A outer s H vs Q E hr h=>by
  obtain ⟨t,q,r⟩:=hbody cdv A outer s H vs Q E hr h
  exact ⟨t,q.run,r⟩
end
section
variable {X:Cx}
noncomputable def Zjf:R2:=fun x y H Q=>∃ i j,x=.str i/\y=.str j/\i.length+j.length<=sizeLine/\Q (.str (i++j)) H
noncomputable def Zes (K:Om):R2:=fun x y H Q=>∃ a b xs ys,x=.ref a/\y=.ref b/\SqT K H a xs/\SqT K H b ys/\xs.length+ys.length<=sizeLine /\
 ∀ r H',Same H H'->SqT K H' r (xs++ys)->Q (.ref r) H'
theorem Zpj:OpR X (binaryOp .Add) (Zes X.K):=by
 intro pins s σ H x y v u Q I rx ry h
 obtain ⟨a,b,xs,ys,rfl,rfl,ha,hb,hz,q⟩:=h
 by_cases hx:xs=[]
 ·subst hx
  cases rx
  cases ry
  obtain ⟨its,r1,p1,_⟩:=I.tuple ha
  obtain ⟨its2,r2,p2,_⟩:=I.tuple hb
  cases r1
  obtain ⟨⟨cls,dd,data,sl⟩,ho,hc,n,hd⟩:=id p1
  obtain ⟨⟨cls2,dd2,data2,sl2⟩,ho2,hc2,n2,hd2⟩:=id p2
  simp only at hc hd hc2 hd2
  subst hc hd hc2 hd2
  exact Uz ⟨_,ho,rfl⟩ ⟨_,ho2,rfl⟩ Uc Uv Tu Tq (Tk _ _)
   (tuple_addW0 a b _ _ n n2 dd dd2 sl sl2 (by simp)) ⟨ho,ho2,⟨.ref b,H,I,rfl,q b H (Same.refl H) hb⟩⟩
 ·refine Zbw pins s σ H _ _ v u Q I rx ry ⟨a,b,xs,ys,rfl,rfl,ha,hb,hx,hz,fun e=>?_,fun _ p hp=>q p _ (fun c o e=>by rw [Ai (Bc e hp)];exact e) (.inl (.inl Ad))⟩
  subst e
  exact q a H (Same.refl H) (by rw [Qa];exact ha)
noncomputable def Fk (K:Om):R2:=fun x y H Q=>Dq (fun i j=>.int (i+j)) x y H Q\/Zjf x y H Q\/rCat x y H Q\/Zes K x y H Q
theorem op_addA:OpR X (binaryOp .Add) (Fk X.K):=op_add.or (op_add_str.or (op_cat.or Zpj))
theorem s_add_int {K:Om}{i j:Int}{H:Hp}{Q:VK}(h:Q (.int (i+j)) H):Fk K (.int i) (.int j) H Q:=.inl ⟨i,j,rfl,rfl,h⟩
theorem Jp {K:Om}{i j:Str}{H:Hp}{Q:VK}(hl:i.length+j.length<=sizeLine)(h:Q (.str (i++j)) H):Fk K (.str i) (.str j) H Q:=.inr (.inl ⟨i,j,rfl,rfl,hl,h⟩)
theorem Zcl {K:Om}{a b:Addr}{xs ys:List V}{H:Hp}{Q:VK}(ha:H a=some (.lst xs))(hb:H b=some (.lst ys))(hz:xs.length+ys.length<=sizeLine)(h:∀ p,H p=none->Q (.ref p) (upd H p (.lst (xs++ys)))):Fk K (.ref a) (.ref b) H Q:=.inr (.inr (.inl ⟨a,b,xs,ys,rfl,rfl,ha,hb,hz,h⟩))
theorem Gy {K:Om}{a b:Addr}{xs ys:List V}{H:Hp}{Q:VK}(ha:SqT K H a xs)(hb:SqT K H b ys)(hz:xs.length+ys.length<=sizeLine)(h:∀ r H',Same H H'->SqT K H' r (xs++ys)->Q (.ref r) H'):Fk K (.ref a) (.ref b) H Q:=.inr (.inr (.inr ⟨a,b,xs,ys,rfl,rfl,ha,hb,hz,h⟩))
noncomputable def Nq:R2:=fun x y H Q=>rI CMul (fun i j=>.int (i * j)) x y H Q\/rRep x y H Q
theorem Cn:OpR X (binaryOp .Mult) Nq:=op_mul.or Znz
theorem s_mul_l {i j:Int}{H:Hp}{Q:VK}(h1:-(2 ^ 64) < i)(h2:i < 2 ^ 64)(h:Q (.int (i * j)) H):Nq (.int i) (.int j) H Q:=.inl ⟨i,j,rfl,rfl,.inl ⟨h1,h2⟩,h⟩
theorem s_mul_r {i j:Int}{H:Hp}{Q:VK}(h1:-(2 ^ 64) < j)(h2:j < 2 ^ 64)(h:Q (.int (i * j)) H):Nq (.int i) (.int j) H Q:=.inl ⟨i,j,rfl,rfl,.inr ⟨h1,h2⟩,h⟩
theorem s_rI {C:Int->Int->Prop}{g:Int->Int->V}{i j:Int}{H:Hp}{Q:VK}(hc:C i j)(h:Q (g i j) H):rI C g (.int i) (.int j) H Q:=⟨i,j,rfl,rfl,hc,h⟩
theorem s_rI0 {g:Int->Int->V}{i j:Int}{H:Hp}{Q:VK}(h:Q (g i j) H):Dq g (.int i) (.int j) H Q:=⟨i,j,rfl,rfl,h⟩
theorem s_rU {g:Int->V}{i:Int}{H:Hp}{Q:VK}(h:Q (g i) H):rU g (.int i) H Q:=⟨i,rfl,h⟩
noncomputable def rLtA:R2:=fun x y H Q=>Dq (fun i j=>.bl (decide (i < j))) x y H Q\/∃ i j,x=.str i/\y=.str j/\Q (.bl (decide (i.cps.toList < j.cps.toList))) H
theorem Ja:OpR X (compareOp .Lt) rLtA:=op_lt.or Zlt
noncomputable def rLeA:R2:=fun x y H Q=>Dq (fun i j=>.bl (decide (i<=j))) x y H Q\/∃ i j,x=.str i/\y=.str j/\Q (.bl (!(decide (j.cps.toList < i.cps.toList)))) H
theorem Dm:OpR X (compareOp .LtE) rLeA:=op_le.or Zm8
theorem s_lt {i j:Int}{H:Hp}{Q:VK}(h:Q (.bl (decide (i < j))) H):rLtA (.int i) (.int j) H Q:=.inl ⟨i,j,rfl,rfl,h⟩
theorem s_le {i j:Int}{H:Hp}{Q:VK}(h:Q (.bl (decide (i<=j))) H):rLeA (.int i) (.int j) H Q:=.inl ⟨i,j,rfl,rfl,h⟩
noncomputable def Zat (neg:Bool):R2:=fun x y H Q=>∃(c:Nat)(j:Str),x=.str ⟨#[c]⟩/\y=.str j/\Q (.bl (if neg then !decide (c∈j.cps.toList) else decide (c∈j.cps.toList))) H
theorem Zng:OpR X (compareOp .In) (Zat false):=Zpb
theorem Zly:OpR X (compareOp .NotIn) (Zat true):=Zrl
noncomputable def Ji (K:Om)(neg:Bool):R2:=fun x y H Q=>rIn K neg x y H Q\/Zat neg x y H Q
theorem Zji:OpR X (compareOp .In) (Ji X.K false):=op_in_seq.or Zng
theorem Zog:OpR X (compareOp .NotIn) (Ji X.K true):=op_notIn_seq.or Zly
theorem Fq {K:Om}{neg:Bool}{x:V}{p:Addr}{xs:List V}{H:Hp}{Q:VK}(hq:SqL K H p xs\/SqT K H p xs)(hx:Bw x=true)(hxs:xs.all Bw=true)(h:Q (.bl (if neg then !C4 x xs else C4 x xs)) H):Ji K neg x (.ref p) H Q:=.inl ⟨p,xs,rfl,hq,hx,hxs,h⟩
noncomputable def Kx (K:Om):V->Option Int->Option Int->Hp->VK->Prop:=fun x lo hi H Q=>M7 K x lo hi H Q\/L4 x lo hi H Q\/rSlT K x lo hi H Q
theorem Zpq:SlR X (Kx X.K):=sl_list.or (sl_str.or Zcg)
theorem Za7 {K:Om}{a:Addr}{xs:List V}{lo hi:Option Int}{H:Hp}{Q:VK}(ha:SqL K H a xs)(h:∀ p,H p=none->Q (.ref p) (upd H p (.lst (Bq xs lo hi)))):Kx K (.ref a) lo hi H Q:=.inl ⟨a,xs,rfl,ha,h⟩
theorem Zea {K:Om}{z:Str}{lo hi:Option Int}{H:Hp}{Q:VK}(hl:z.length<=sizeLine)(h:Q (.str (Qm z lo hi)) H):Kx K (.str z) lo hi H Q:=.inr (.inl ⟨z,rfl,hl,h⟩)
theorem B5 {K:Om}{a:Addr}{xs:List V}{i:Int}{v:V}{H:Hp}{Q:VK}(ha:SqL K H a xs)(hv:Bv xs i=some v)(h:Q v H):Fg K (.ref a) (.int i) H Q:=.inl ⟨a,xs,i,v,rfl,rfl,ha,hv,h⟩
theorem A3 {K:Om}{a:Addr}{xs:List V}{i:Int}{v:V}{H:Hp}{Q:VK}(ha:SqT K H a xs)(hv:Bv xs i=some v)(h:Q v H):Fg K (.ref a) (.int i) H Q:=.inr (.inl ⟨a,xs,i,v,rfl,rfl,ha,hv,h⟩)
theorem Kt {K:Om}{z:Str}{i:Int}{c:Nat}{H:Hp}{Q:VK}(hl:z.length<=sizeLine)(hv:Bv z.cps.toList i=some c)(h:Q (.str ⟨#[c]⟩) H):Fg K (.str z) (.int i) H Q:=.inr (.inr ⟨z,i,c,rfl,rfl,hl,hv,h⟩)
noncomputable def Hc (K:Om):List V->Hp->VK->Prop:=fun xs H Q=>∃ x n,xs=[x]/\LenV K x H n/\Q (.int n) H
theorem Zpa:Cf X (.builtin "len") (Hc X.K):=Zi4
theorem Ey {K:Om}{a:Addr}{xs:List V}{H:Hp}{Q:VK}(ha:SqL K H a xs)(h:Q (.int xs.length) H):Hc K [.ref a] H Q:=⟨_,_,rfl,.inl ⟨xs,ha,rfl⟩,h⟩
theorem Ek {K:Om}{a:Addr}{xs:List V}{H:Hp}{Q:VK}(ha:SqT K H a xs)(h:Q (.int xs.length) H):Hc K [.ref a] H Q:=⟨_,_,rfl,.inr ⟨xs,ha,rfl⟩,h⟩
theorem Lz {K:Om}{z:Str}{H:Hp}{Q:VK}(hl:z.length<=sizeLine)(h:Q (.int z.length) H):Hc K [.str z] H Q:=⟨_,_,rfl,⟨hl,rfl⟩,h⟩
structure Eb (mg:Str->Option Value)(x:Str)(v:V):Prop where
 ex:∃ u,mg x=some u/\RelV v u
theorem Fi {x:Str}{v:V}{pos:Pos}(G:Eb X.mg x v)(hg:Gl X x:=by rfl)(hd:(x == ("__debug__" : Str))=false:=by decide):QE X (.Name x pos) (tC v):=by
 obtain ⟨u,h,r⟩:=G.ex
 exact ⟨Zeb hg h r hd⟩
noncomputable def N9 (K:Om)(tl:TE):TI:=fun σ H R=>tl σ H fun x H1=>(∃ a,x=.ref a/\(∃ xs,SqL K H1 a xs)/\R (F9 K a) H1)\/(∃ a,x=.ref a/\(∃ xs,SqT K H1 a xs)/\R (Ge K a) H1)\/∃ z,x=.str z/\R (Its z) H1
theorem Zkj {tg l:Expr}{tl:TE}(hl:QE X l tl):QI X tg l (N9 X.K tl):=by
 refine ⟨fun pins s σ H R I h=>?_⟩
 refine Ah (hl.run pins s σ H _ I h) fun v s1 zq=>?_
 obtain ⟨x,H1,I1,r1,q1⟩:=zq
 have one:∀(l:Expr)(t:TE),PE X l t->True:=fun _ _ _=>trivial
 rcases q1 with ⟨a,e,⟨xs,hq⟩,q⟩ | ⟨a,e,⟨xs,hq⟩,q⟩ | ⟨z,e,q⟩
 ·subst e
  cases r1
  obtain ⟨its,rv,p,hz⟩:=I1.list hq
  refine Ua p.isList ?_
  refine ⟨s1.heap.objs.size,[s1.heap.objs.size],_,_,H1,rfl,I1.kept (t':=s1.toks) fun b o e=>Ou _ e,Zra a _,⟨_,O4 _ rfl,rfl,rfl⟩,fun b hb=>?_,q⟩
  have e:b=s1.heap.objs.size:=by simpa using hb
  subst e
  exact I1.fpOk (Os _) (I1.hok.fresh (Os _))
 ·subst e
  cases r1
  obtain ⟨its,rv,p,hz⟩:=I1.tuple hq
  refine Sm (show s1.heap.IsTuple a its.toArray from p) ?_
  refine ⟨s1.heap.objs.size,[s1.heap.objs.size],_,_,H1,rfl,I1.kept (t':=s1.toks) fun b o e=>Ou _ e,Zpg a _,⟨_,O4 _ rfl,rfl,rfl⟩,fun b hb=>?_,q⟩
  have e:b=s1.heap.objs.size:=by simpa using hb
  subst e
  exact I1.fpOk (Os _) (I1.hok.fresh (Os _))
 ·subst e
  obtain ⟨t,rfl⟩:=r1
  refine wpAny_pyIter_strU ?_
  refine ⟨s1.heap.objs.size,[s1.heap.objs.size],_,_,H1,rfl,I1.kept (t':=s1.toks) fun b o e=>Ou _ e,Zjy _ z t,⟨_,O4 _ rfl,rfl,rfl⟩,fun b hb=>?_,q⟩
  have e:b=s1.heap.objs.size:=by simpa using hb
  subst e
  exact I1.fpOk (Os _) (I1.hok.fresh (Os _))
end
noncomputable def Gr (hi:Int)(n:Nat):It:=⟨fun i _=>i < n,fun i H x H'=>H'=H/\x=.int (hi - i),fun i _=>n<=i⟩
theorem Zda (a b:Int):Tp a b (-1)=if b < a then a - b else 0:=by
 unfold Tp
 simp only [show ¬ ((-1:Int) > 0) by decide,if_false,Int.neg_neg,Int.ediv_one]
 split <;> omega
theorem Zh5 {a b:Int}(ha:-(2 ^ 62)<=a)(ha':a < 2 ^ 62)(hb:-(2 ^ 62)<=b)(hb':b < 2 ^ 62):Builtin.Range.small a b (-1)=true:=by
 unfold Builtin.Range.small
 rw [Zda]
 simp only [Builtin.Range.rangeFitsLong,Pt,Bool.or_eq_true,decide_eq_true_eq,beq_iff_eq,show ¬ ((-1:Int) > 0) by decide,if_false]
 split <;> omega
theorem Zrm {P:Program}{w:World}{K:Om}{tg:Expr}(it:Addr)(hi:Int)(n:Nat):Ei P w K tg (Gr hi n) [it] it (fun i h=>IsRangeIter h it (hi+(i:Nat) * (-1)) ((n:Int) - (i:Nat)) (-1)) where
 mem:=by simp
 obj:=fun i h st b hb=>by
  have e:b=it:=by simpa using hb
  subst e
  exact ⟨_,st,fun v z=>by
   have z':Data.fields _=Data.cell v:=z
   cases z'⟩
 keep:=fun i h h' st k=>k it (by simp) _ st
 item:=by
  intro X hP hw hK hc i pins s σ H E I hf st hg
  subst hP hw hK
  obtain ⟨f0,f1,f2,f3,f4,f5⟩:=hf it (by simp)
  have W:=Walks.range (prog:=X.prog) (w:=X.w) (I.ok.hd hc) it hi (-1) n
  refine W.item i s _ _ hg st fun v h' tk hv st' kk=>?_
  obtain ⟨t,rfl⟩:=hv
  have I1:Inv X pins σ H { s with heap:=h',toks:=tk }:=I.turned (fun b o hb e=>kk b o (by simpa using hb) e) f0 f1 f3 f4 f5
  refine ⟨_,rfl,G5 (s:={ s with heap:=h',toks:=tk }) (n := "range_iterator") st' rfl rfl (by decide) ⟨.int (hi - i),H,I1,⟨t,?_⟩,⟨rfl,rfl⟩,st',fun b hb=>(hf b hb).1⟩⟩
  rw [Int.mul_neg_one,Int.sub_eq_add_neg]
 done:=by
  intro X hP hw hK hc i pins s σ H E I hf st hg
  subst hP hw hK
  obtain ⟨f0,f1,f2,f3,f4,f5⟩:=hf it (by simp)
  exact wpAny_pyNext_range_end (I.ok.hd hc) st (by have:n<=i:=hg;omega) fun h' eb=>⟨rfl,I.turned (t':=s.toks) (fun b o hb e=>eb b o hb e) f0 f1 f3 f4 f5⟩
 self:=fun _ _ _ _ _ st h=>wpAny_pyIter_rangeiter st h
section
variable {X:Cx}{tg:Expr}
noncomputable def Zb4 (ta:TA):TI:=fun σ H R=>ta σ H fun vs H1=>∃ i j:Int,vs=[.int i,.int j,.int (-1)]/\(-(2 ^ 62)<=i/\i < 2 ^ 62/\-(2 ^ 62)<=j/\j < 2 ^ 62)/\R (Gr i (i - j).toNat) H1
theorem Zkb {a b c:Expr}{ta:TA}{p pos:Pos}(hg:Gl X "range")(hm:X.mg "range" = none)(ha:QA X [a,b,c] ta)(hs:starEach [a,b,c] X.env=[(false,eval a X.env),(false,eval b X.env),(false,eval c X.env)]:=by rfl)(hs2:starEach [b,c] X.env=[(false,eval b X.env),(false,eval c X.env)]:=by rfl) :
  QI X tg (.Call (.Name "range" p) [a,b,c] [] pos) (Zb4 ta):=by
 refine ⟨fun pins s σ H R I h=>?_⟩
 refine Call_ (Dx I hg hm boot_range (Q3 (Ah (ha.run pos pins s σ H _ I h) fun us s1 ⟨vs,H1,I1,r1,q1⟩=>?_) (by rw [hs,hs2]) (by rw [hs2];rfl)))
 obtain ⟨i,j,e,⟨q1,q2,q3,q4⟩,q⟩:=q1
 subst e
 cases r1 with
 | cons r rr =>
  cases rr with
  | cons r' rr =>
   cases rr with
   | cons r'' rr =>
    cases rr
    obtain ⟨t,rfl⟩:=r
    obtain ⟨t',rfl⟩:=r'
    obtain ⟨t'',rfl⟩:=r''
    refine call_range_3 (by decide) ?_ (.inl (PyProof.noPylong_small (by omega)))
    refine wpAny_pyIter_range (IsRange.new ..) (Zh5 q1 q2 q3 q4) ?_
    have I2:Inv X pins σ H1 { s1 with heap:=s1.heap.push { cls:=.type "range",data:=.fields #[.int i t,.int j t',.int (-1) t''] },toks:=s1.toks }:=I1.kept fun b o e=>Ou _ e
    refine ⟨(s1.heap.push { cls:=.type "range",data:=.fields #[.int i t,.int j t',.int (-1) t''] }).objs.size,[(s1.heap.push { cls:=.type "range",data:=.fields #[.int i t,.int j t',.int (-1) t''] }).objs.size],_,_,H1,rfl,
     I2.kept (t':=s1.toks) fun b o e=>Ou _ e,Zrm _ i (i - j).toNat,?_,fun b hb=>?_,q⟩
    ·have e1:i+((0:Nat):Int) * (-1)=i:=by simp
     have e2:(((i - j).toNat:Nat):Int) - ((0:Nat):Int)=Tp i j (-1):=by rw [Zda];split <;> omega
     show IsRangeIter _ _ (i+((0:Nat):Int) * (-1)) ((((i - j).toNat:Nat):Int) - ((0:Nat):Int)) (-1)
     rw [e1,e2]
     exact O4 _ rfl
    ·have e:b=(s1.heap.push { cls:=.type "range",data:=.fields #[.int i t,.int j t',.int (-1) t''] }).objs.size:=by simpa using hb
     subst e
     exact I2.fpOk (Os _) (I2.hok.fresh (Os _))
theorem Zir {hi:Int}{n:Nat}{g:TG}{tb:TS}{D:Cr}{σ:St}{H:Hp}(Pv:Nat->St->Hp->Prop)(h0:Pv 0 σ H)
  (hs:∀ i σ H,i < n->Pv i σ H->g (.int (hi - i)) σ H fun σ2 H2=>tb { D with nx:=Pv (i+1),ct:=Pv (i+1),bk:=D.nx } σ2 H2) (hd:∀ σ H,Pv n σ H->D.nx σ H) :
  ∃ W:Nat->Nat->St->Hp->Prop,(∃ m,W 0 m σ H)/\∀ i m σ H,W i m σ H ->
   ((Gr hi n).stop i H/\D.nx σ H)\/((Gr hi n).go i H/\∃ N:St->Hp->Prop,(∀ σ' H',N σ' H'->∃ m',m' < m/\W (i+1) m' σ' H')/\∀ x H',(Gr hi n).yld i H x H'->g x σ H' fun σ2 H2=>tb { D with nx:=N,ct:=N,bk:=D.nx } σ2 H2):=by
 refine ⟨fun i m σ H=>m=n - i/\i<=n/\Pv i σ H,⟨n,by simp,Pj _,h0⟩,?_⟩
 rintro i m σ H ⟨rfl,hi',p⟩
 by_cases hlt:i < n
 ·refine .inr ⟨hlt,Pv (i+1),fun σ' H' p'=>⟨n - (i+1),by omega,rfl,hlt,p'⟩,fun x H' y=>?_⟩
  obtain ⟨e,y⟩:=y
  subst e y
  exact hs i σ _ hlt p
 ·have e:i=n:=by omega
  subst e
  exact .inl ⟨Os _,hd σ H p⟩
end
noncomputable def Gv (K:Om)(a:Addr)(n:Nat):It :=
 ⟨fun i H=>∃ xs,SqL K H a xs/\xs.length=n/\i < n,fun i H x H'=>H'=H/\∀ xs,SqL K H a xs->xs[n - 1 - i]?=some x,fun i _=>i=n⟩
theorem Zjt {P:Program}{w:World}{K:Om}{tg:Expr}(a it:Addr)(n:Nat):Ei P w K tg (Gv K a n) [it] it (fun i h=>i<=n/\h.IsRevIter it a ((n:Int) - 1 - (i:Int))) where
 mem:=by simp
 obj:=fun i h st b hb=>by
  have e:b=it:=by simpa using hb
  subst e
  obtain ⟨o,e,c,d⟩:=st.2
  exact ⟨o,e,fun v z=>by rw [d] at z;cases z⟩
 keep:=fun i h h' st k=>⟨st.1,st.2.at fun o e=>k it (by simp) o e⟩
 item:=by
  intro X hP hw hK hc i pins s σ H E I hf st hg
  subst hP hw hK
  obtain ⟨xs,hq,hl,hi⟩:=hg
  obtain ⟨its,rv,p,hz⟩:=I.list hq
  have hx:xs[n - 1 - i]?=some (xs[n - 1 - i]'(by omega)):=Oo (by omega)
  obtain ⟨u,hu,ru⟩:=rv.get hx
  obtain ⟨f0,f1,f2,f3,f4,f5⟩:=hf it (by simp)
  have e:(n:Int) - 1 - (i:Int)=((n - 1 - i:Nat):Int):=by omega
  have hit:=st.2
  rw [e] at hit
  refine wpAny_pyNext_rev_item hit p.isList (x:=u) (by simpa using hu) fun h' st' sb=>?_
  have I1:Inv X pins σ H { s with heap:=h' }:=I.turned (t':=s.toks) (fun b o hb e=>(sb.2 b hb).trans e) f0 f1 f3 f4 f5
  have e2:((n - 1 - i:Nat):Int) - 1=(n:Int) - 1 - ((i+1:Nat):Int):=by omega
  rw [e2] at st'
  obtain ⟨o,eo,c,d⟩:=id st'
  exact ⟨u,rfl,G5 (s:={ s with heap:=h' }) eo c d (by decide) ⟨_,H,I1,ru,⟨rfl,fun ys hy=>by rw [I.list_inj hy hq];exact hx⟩,⟨hi,st'⟩,fun b hb=>(hf b hb).1⟩⟩
 done:=by
  intro X hP hw hK hc i pins s σ H E I hf st hg
  subst hP hw hK
  have hg:i=n:=hg
  subst hg
  obtain ⟨f0,f1,f2,f3,f4,f5⟩:=hf it (by simp)
  have e:(i:Int) - 1 - (i:Int)=-1:=by omega
  have hit:=st.2
  rw [e] at hit
  exact wpAny_pyNext_rev_end (I.ok.hd hc) hit fun h' eb=>⟨rfl,I.turned (t':=s.toks) (fun b o hb e=>eb b o hb e) f0 f1 f3 f4 f5⟩
 self:=fun _ _ _ _ _ st h=>wpAny_pyIter_revIter st.2 h
theorem Zhp:bootBuiltins "reversed" = some (.type "reversed"):=by decide +kernel
section
variable {X:Cx}{tg:Expr}
noncomputable def L5 (K:Om)(ta:TA):TI:=fun σ H R=>ta σ H fun vs H1=>∃ a xs,vs=[.ref a]/\SqL K H1 a xs/\R (Gv K a xs.length) H1
theorem Zi1 {a:Expr}{ta:TA}{p pos:Pos}(hg:Gl X "reversed")(hm:X.mg "reversed" = none)(ha:QA X [a] ta)(hs:starEach [a] X.env=[(false,eval a X.env)]:=by rfl):QI X tg (.Call (.Name "reversed" p) [a] [] pos) (L5 X.K ta):=by
 refine ⟨fun pins s σ H R I h=>?_⟩
 refine Call_ (Dx I hg hm Zhp (Q3 (Ah (ha.run pos pins s σ H _ I h) fun us s1 zq=>?_) hs rfl))
 obtain ⟨vs,H1,I1,r1,q1⟩:=zq
 obtain ⟨l,xs,e,hq,q⟩:=q1
 subst e
 cases r1 with
 | cons r rr =>
  cases rr
  cases r
  obtain ⟨its,rv,pl,hz⟩:=I1.list hq
  refine call_reversed_list pl.isList ?_
  have hl:=rv.length
  have st0:(s1.heap.push (PySem.revObj l (((its.toArray).size:Int) - 1))).IsRevIter s1.heap.objs.size l ((xs.length:Int) - 1 - ((0:Nat):Int)):=by
   refine ⟨_,O4 _ rfl,rfl,?_⟩
   have e:((its.toArray).size:Int) - 1=(xs.length:Int) - 1 - ((0:Nat):Int):=by simp [hl]
   rw [<- e]
   rfl
  refine wpAny_pyIter_revIter (it:=s1.heap.objs.size) (l:=l) (i:=(xs.length:Int) - 1 - ((0:Nat):Int)) st0 ?_
  refine ⟨s1.heap.objs.size,[s1.heap.objs.size],_,_,H1,rfl,I1.kept (t':=s1.toks) fun b o e=>Ou _ e,Zjt l _ xs.length,⟨Pj _,st0⟩,fun b hb=>?_,q⟩
  have e:b=s1.heap.objs.size:=by simpa using hb
  subst e
  exact I1.fpOk (Os _) (I1.hok.fresh (Os _))
theorem Lp {K:Om}{a:Addr}{xs:List V}{g:TG}{tb:TS}{D:Cr}{σ:St}{H:Hp}(Pv:Nat->St->Hp->Prop)(h0:Pv 0 σ H)(hl:∀ i σ H,i<=xs.length->Pv i σ H->SqL K H a xs)
  (hs:∀ i x σ H,i < xs.length->xs[xs.length - 1 - i]?=some x->Pv i σ H->g x σ H fun σ2 H2=>tb { D with nx:=Pv (i+1),ct:=Pv (i+1),bk:=D.nx } σ2 H2) (hd:∀ σ H,Pv xs.length σ H->D.nx σ H) :
  ∃ W:Nat->Nat->St->Hp->Prop,(∃ m,W 0 m σ H)/\∀ i m σ H,W i m σ H ->
   ((Gv K a xs.length).stop i H/\D.nx σ H)\/((Gv K a xs.length).go i H/\∃ N:St->Hp->Prop,(∀ σ' H',N σ' H'->∃ m',m' < m/\W (i+1) m' σ' H')/\∀ x H',(Gv K a xs.length).yld i H x H'->g x σ H' fun σ2 H2=>tb { D with nx:=N,ct:=N,bk:=D.nx } σ2 H2):=by
 refine ⟨fun i m σ H=>m=xs.length - i/\i<=xs.length/\Pv i σ H,⟨xs.length,by simp,Pj _,h0⟩,?_⟩
 rintro i m σ H ⟨rfl,hi,p⟩
 have q:=hl i σ H hi p
 by_cases hlt:i < xs.length
 ·refine .inr ⟨⟨xs,q,rfl,hlt⟩,Pv (i+1),fun σ' H' p'=>⟨xs.length - (i+1),by omega,rfl,hlt,p'⟩,fun x H' y=>?_⟩
  obtain ⟨e,y⟩:=y
  subst e
  exact hs i x σ _ hlt (y xs q) p
 ·have e:i=xs.length:=by omega
  subst e
  exact .inl ⟨rfl,hd σ H p⟩
end
section
variable {prog:Program}{w:World}{A:Around}{E:Value->Shared->Prop}{s:Shared}
theorem Znj {it t:Addr}{i:Nat}{items:Array Value}{x:Value}{Q:Value->Shared->Prop}(hit:s.heap.IsTupleIter it t i)(ht:s.heap.IsTuple t items)(hx:items[i]?=some x)
  (hQ:∀ h',h'.IsTupleIter it t (i+1)->O6 it s.heap h'->Q x { s with heap:=h' }):wpAny (model prog w) A (Qe (.ref it)) Q E s:=by
 obtain ⟨o,ho,hc,hd⟩:=id hit
 obtain ⟨ol,hol,_,nl,hdl⟩:=ht
 unfold Qe
 refine On (Qy (name:=Pq "__next__") hit.typeIs Tf
  (Q2 Tf hit.typeIs V7 ?_ (V6 _)))
 show wpAny _ _ (field (.ref it) 0 >>= _) _ _ s
 refine On (O8 ho hd (x:=.ref t) rfl ?_)
 show wpAny _ _ (if (Value.ref t == Value.none)=true then _ else _) _ _ s
 rw [if_neg (show ¬ ((Value.ref t == Value.none)=true) from Oz)]
 show wpAny _ _ (field (.ref it) 1 >>= _) _ _ s
 refine On (O8 ho hd (x:=.int i 0) rfl ?_)
 show wpAny _ _ (seqItems? (.ref t) >>= _) _ _ s
 refine On (Qr hol hdl ?_)
 simp only [So,hx]
 refine On (wpAny_setField ho hd (by simp) (Oq ⟨x,rfl,Oq (hQ _ ?_ (O6.update ..))⟩))
 exact ⟨_,Rv _ ho (Obj.isFreed_of_fields (Obj.data_mapFields hd _)),(Obj.cls_mapFields ..).trans hc,by
  rw [Obj.data_mapFields hd];simp [rawInt]⟩
theorem Zh1 {it t:Addr}{i:Nat}{items:Array Value}{Q:Value->Shared->Prop}(hh:A.handled=none)(hit:s.heap.IsTupleIter it t i)(ht:s.heap.IsTuple t items)(hx:items[i]?=none)
  (hE:∀ h' e,Rg it s.heap h'->(∃ o,h'.get? e=some o/\o.cls=.type "StopIteration")->E (.ref e) { s with heap:=h' }):wpAny (model prog w) A (Qe (.ref it)) Q E s:=by
 obtain ⟨o,ho,hc,hd⟩:=id hit
 obtain ⟨ol,hol,_,nl,hdl⟩:=ht
 unfold Qe
 refine On (Qy (name:=Pq "__next__") hit.typeIs Tf
  (Q2 Tf hit.typeIs V7 ?_ (V6 _)))
 show wpAny _ _ (field (.ref it) 0 >>= _) _ _ s
 refine On (O8 ho hd (x:=.ref t) rfl ?_)
 show wpAny _ _ (if (Value.ref t == Value.none)=true then _ else _) _ _ s
 rw [if_neg (show ¬ ((Value.ref t == Value.none)=true) from Oz)]
 show wpAny _ _ (field (.ref it) 1 >>= _) _ _ s
 refine On (O8 ho hd (x:=.int i 0) rfl ?_)
 show wpAny _ _ (seqItems? (.ref t) >>= _) _ _ s
 refine On (Qr hol hdl ?_)
 simp only [So,hx]
 refine On (Te (On (wpAny_setField ho hd (by simp) ?_)))
 show wpAny _ _ (newExc (.type "StopIteration") [] >>= _) _ _ _
 refine On ?_
 simp only [newExc,newTuple]
 refine On (Rm ?_ (by size_fits))
 refine On (m:=firstArgMember _ _) (wpAny_of_eq (a:=Value.none) (by first | rfl | (simp only [firstArgMember];rfl)) ?_)
 refine Rm ?_ (by size_fits)
 simp only [raiseNew]
 refine On (wpAny_handled ?_)
 first | rw [show A.in1.handled=none from hh] | rw [hh]
 refine On (Oq (wpAny_throw ?_))
 exact hE _ _ (((O6.update ..).extBut.push _).push _) ⟨_,O4 _ rfl,rfl⟩
end
theorem Zal {prog:Program}{w:World}{A:Around}(hh:A.handled=none)(it l:Addr)(hne:l≠it)(items:Array Value) :
  Draws prog w A it [it,l] items.size (fun i v=>items[i]?=some v) (fun i h=>h.IsTupleIter it l i/\h.IsTuple l items) where
 live:=fun _ _ st=>let ⟨o,ho,_⟩:=st.1;⟨o,ho⟩
 frame:=fun _ _ _ st hk=>⟨st.1.at fun o e=>hk it (by simp) o e,let ⟨o,e,r⟩:=st.2;⟨o,hk l (by simp) o e,r⟩⟩
 item:=fun i s Q E hi st hQ=>by
  refine Znj st.1 st.2 (x:=items[i]) (by simp [hi]) fun h' hit' hs'=>?_
  exact hQ _ h' s.toks (by simp [hi]) ⟨hit',st.2.extBut hs'.extBut hne⟩ hs'
 done:=fun s Q E st hE=>Zh1 hh st.1 st.2 (by simp) hE
theorem Zjs (l:Addr)(items:Array Value)(n:Nat)(dct:Option Addr)(sl:Array (Option Value)) :
  Meets (Builtin.«enumerate.__new__» ⟨[.type "enumerate",.ref l],[]⟩) (fun _ R s=>s.heap.get? l=some { cls:=.type "tuple",dict:=dct,data:=.seq items n,slots:=sl } /\
   R (.ok (.ret (.ref (s.heap.push { cls:=.type "tuple_iterator",data:=.fields #[.ref l,.int 0 0] }).objs.size)))
    { s with heap:=(s.heap.push { cls:=.type "tuple_iterator",data:=.fields #[.ref l,.int 0 0] }).push { cls:=.type "enumerate",data:=.fields #[.none,.bool false,.ref s.heap.objs.size,rawInt 0,.none,.none] } }) :=
 .of_wp fun prog w A R s h=>by
  obtain ⟨hp,g,d,tk,os⟩:=s;obtain ⟨hl,h⟩:=h
  have hsub:=sub_enumerate
  have hL:Heap.IsTuple (Shared.heap ⟨hp,g,d,tk,os⟩) l items:=⟨_,hl,rfl,n,rfl⟩
  wp_walk using Tg hl
  refine wpAny_stack_any fun st=>Oq ?_
  split
  ·rename_i c _ _ _ _ _
   cases (c == Value.type "enumerate")
   ·wp_walk using Tg hl,Sm hL
    exact ⟨_,rfl,h⟩
   ·wp_walk using Tg hl,Sm hL
    exact ⟨_,rfl,h⟩
  ·wp_walk using Tg hl,Sm hL
   exact ⟨_,rfl,h⟩
section
variable {prog:Program}{w:World}{A:Around}{E:Value->Shared->Prop}{s:Shared}
theorem Zhs {l:Addr}{items:Array Value}{Q:Value->Shared->Prop}(hL:s.heap.IsTuple l items)
  (h:∀ h',IsEnum h' (s.heap.objs.size+1) s.heap.objs.size 0 .none->h'.IsTupleIter s.heap.objs.size l 0->h'.objs.size=s.heap.objs.size+2 ->
   (∀ b o,s.heap.get? b=some o->h'.get? b=some o)->Q (.ref (s.heap.objs.size+1)) { s with heap:=h' }) :
  wpAny (model prog w) A (call (.type "enumerate") [.ref l]) Q E s:=by
 obtain ⟨⟨c,dct,dt,sl⟩,hl,hc,n,hd⟩:=hL
 replace hc:c=.type "tuple" := hc
 replace hd:dt=.seq items n:=hd
 subst hc hd
 refine callType_new PySem.F.called_enumerate (by decide) (PySem.F.typeCall_enumerate_1 _) (PySem.F.newCall_enumerate_1 _) (fun obj=>PySem.F.args_object_init_2 obj _) PySem.F.entry_enumerate_new
  (Zjs l items n dct sl) ⟨hl,?_⟩
 have hz:(s.heap.push { cls:=.type "tuple_iterator",data:=.fields #[.ref l,.int 0 0] }).objs.size=s.heap.objs.size+1:=Pz ..
 show _/\_
 rw [hz]
 have he:IsEnum ((s.heap.push { cls:=.type "tuple_iterator",data:=.fields #[.ref l,.int 0 0] }).push
   { cls:=.type "enumerate",data:=.fields #[.none,.bool false,.ref s.heap.objs.size,rawInt 0,.none,.none] }) (s.heap.objs.size+1) s.heap.objs.size 0 .none:=by
  unfold IsEnum
  rw [<- hz]
  exact O4 _ rfl
 refine ⟨⟨_,he,rfl⟩,h _ he ⟨_,Ou _ (O4 _ rfl),rfl,rfl⟩ (by rw [Pz,hz]) fun b o e=>Ou _ (Ou _ e)⟩
noncomputable def Lh (h:Heap)(e it:Addr)(i:Int):Prop:=∃(a:Addr)(oa:Obj)(f1 old:Value),h.get? e=some { cls:=.type "enumerate",dict:=none,data:=.fields #[rawInt a,f1,.ref it,rawInt i,.none,old],slots:=#[] }/\h.get? a=some oa/\a≠e/\a≠it
theorem Zd9 {a:Addr}{Q:Option Obj->Shared->Prop}(h:Q (s.heap.get? a) s):wpAny (model prog w) A (loadIfAlive a) Q E s:=by
 intro Γ p hΓ
 show Sem.wp _ Γ (.loadIfAlive a .pure) _ _ p s
 rw [Sem.wp_loadIfAlive]
 exact h
theorem Zmn {e it:Addr}{fp:List Addr}{n i:Nat}{P:Nat->Value->Prop}{St:Nat->Heap->Prop}{Q:Value->Shared->Prop}
  (D:Draws prog w A it fp n P St) (he0:Lh s.heap e it i) (hst:St i s.heap) (hlt:i < n) (hne:e≠it) (hef:e ∉ fp)
  (hQ:∀ x h' tk,P i x->Lh h' e it ((i:Int)+1)->St (i+1) h' ->
   h'.get? s.heap.objs.size=some { cls:=.type "tuple",data:=.seq #[.int i tk,x] }->h'.objs.size=s.heap.objs.size+1 ->
   (∀ b o,b≠e->b≠it->s.heap.get? b=some o->h'.get? b=some o)->Q (.ref s.heap.objs.size) { s with heap:=h',toks:=tk+1 }) :
  wpAny (model prog w) A (Builtin.«enumerate.__next__» ⟨[.ref e],[]⟩) (fun fin s'=>∃ v,fin=.done (.ret v)/\Q v s') E s:=by
 obtain ⟨a,oa,f1,old,he,hoa,hae,hai⟩:=he0
 obtain ⟨hp,g,d,tk₀,os⟩:=s
 show wpAny _ _ (field (.ref e) 2 >>= _) _ _ _
 refine On (O8 he rfl (x:=.ref it) rfl ?_)
 refine On (D.item i _ _ _ hlt hst fun x h₁ tk hPx hit₁ hs₁=>?_)
 replace hs₁:O6 it hp h₁:=hs₁
 have he₁:=(hs₁.2 e hne).trans he
 have ha₁:=hs₁.extBut a oa hai hoa
 show wpAny _ _ (field (.ref e) 3 >>= _) _ _ ⟨h₁,g,d,tk,os⟩
 refine On (O8 he₁ rfl (x:=rawInt i) rfl ?_)
 show wpAny _ _ (field (.ref e) 4 >>= _) _ _ ⟨h₁,g,d,tk,os⟩
 refine On (O8 he₁ rfl (x:=.none) rfl ?_)
 show wpAny _ _ (mkInt i >>= _) _ _ ⟨h₁,g,d,tk,os⟩
 refine On (wpAny_mkInt ?_)
 show wpAny _ _ (setField (.ref e) 3 (rawInt ((i:Int)+1)) >>= _) _ _ ⟨h₁,g,d,tk+1,os⟩
 refine On (Q0 he₁ (by simp) fun h₂ he₂ hs₂=>?_)
 replace hs₂:O6 e h₁ h₂:=hs₂
 have ha₂:=hs₂.extBut a oa hae ha₁
 replace he₂:h₂.get? e=some { cls:=.type "enumerate",dict:=none,data:=.fields #[rawInt a,f1,.ref it,rawInt ((i:Int)+1),.none,old],slots:=#[] }:=he₂
 show wpAny _ _ (setField (.ref e) 4 .none >>= _) _ _ ⟨h₂,g,d,tk+1,os⟩
 refine On (Q0 he₂ (by simp) fun h₃ he₃ hs₃=>?_)
 replace hs₃:O6 e h₂ h₃:=hs₃
 have ha₃:=hs₃.extBut a oa hae ha₂
 replace he₃:h₃.get? e=some { cls:=.type "enumerate",dict:=none,data:=.fields #[rawInt a,f1,.ref it,rawInt ((i:Int)+1),.none,old],slots:=#[] }:=he₃
 show wpAny _ _ (newTuple [.int i tk,x] >>= _) _ _ ⟨h₃,g,d,tk+1,os⟩
 refine On (wpAny_newTuple ?_)
 have he₄:(h₃.push { cls:=.type "tuple",data:=.seq #[.int i tk,x] }).get? e=some { cls:=.type "enumerate",dict:=none,data:=.fields #[rawInt a,f1,.ref it,rawInt ((i:Int)+1),.none,old],slots:=#[] }:=Ou _ he₃
 have ha₄:(h₃.push { cls:=.type "tuple",data:=.seq #[.int i tk,x] }).get? a=some oa:=Ou _ ha₃
 generalize hh₄:h₃.push { cls:=.type "tuple",data:=.seq #[.int i tk,x] }=h₄ at he₄ ha₄
 have hsz:h₃.objs.size=hp.objs.size:=by rw [hs₃.1,hs₂.1,hs₁.1]
 have hel:e < hp.objs.size:=Ow he
 have ht₄:h₄.get? hp.objs.size=some { cls:=.type "tuple",data:=.seq #[.int i tk,x] }:=by rw [<- hh₄,<- hsz];exact O4 _ rfl
 have hz₄:h₄.objs.size=hp.objs.size+1:=by rw [<- hh₄,Pz,hsz]
 have hk₄:∀ b o,b≠e->b≠it->hp.get? b=some o->h₄.get? b=some o:=fun b o hbe hbi hb=>by
  rw [<- hh₄];exact Ou _ (hs₃.extBut b o hbe (hs₂.extBut b o hbe (hs₁.extBut b o hbi hb)))
 have hit₄:St (i+1) h₄:=D.frame _ _ _ hit₁ fun b hb o y=>by
  have hbe:b≠e:=fun q=>hef (q ▸ hb)
  rw [<- hh₄];exact Ou _ (hs₃.extBut b o hbe (hs₂.extBut b o hbe y))
 show wpAny _ _ (Qv (.ref e) >>= _) _ _ ⟨h₄,g,d,tk+1,os⟩
 rw [hsz]
 clear hh₄ ha₃ ha₂ ha₁ he₃ hs₃ he₂ hs₂ he₁ hs₁ hit₁ hsz h₃ h₂ h₁
 refine On ?_
 unfold Qv
 refine On (O8 he₄ rfl (x:=rawInt a) rfl ?_)
 show wpAny _ _ (loadIfAlive ((a:Int).toNat) >>= _) _ _ ⟨h₄,g,d,tk+1,os⟩
 refine On (Zd9 ?_)
 rw [So]
 show wpAny _ _ (if (h₄.get? a).isNone=true then _ else _) _ _ ⟨h₄,g,d,tk+1,os⟩
 rw [ha₄]
 rw [if_neg (by simp)]
 refine On (O8 he₄ rfl (x:=f1) rfl ?_)
 have fin:∀ h₅,Lh h₅ e it ((i:Int)+1)->O6 e h₄ h₅->Q (.ref hp.objs.size) ⟨h₅,g,d,tk+1,os⟩:=fun h₅ hl hs₅ =>
  hQ x h₅ tk hPx hl (D.frame _ _ _ hit₄ fun b hb o y=>hs₅.extBut b o (fun q=>hef (q ▸ hb)) y) (hs₅.extBut _ _ (Qs hel) ht₄) (by rw [hs₅.1,hz₄]) fun b o hbe hbi hb=>hs₅.extBut b o hbe (hk₄ b o hbe hbi hb)
 by_cases hf:(f1 != Value.bool true)=true
 ·simp only [hf,if_true]
  refine On (Q0 he₄ (by simp) fun h₅ he₅ hs₅=>?_)
  replace hs₅:O6 e h₄ h₅:=hs₅
  refine Oq ?_
  simp only [Rl,if_false]
  refine Oq ⟨_,rfl,fin h₅ ⟨a,oa,.bool true,old,he₅,hs₅.extBut a oa hae ha₄,hae,hai⟩ hs₅⟩
 ·simp only [hf]
  refine Oq ?_
  simp only [Rl,if_false]
  exact Oq ⟨_,rfl,fin h₄ ⟨a,oa,f1,old,he₄,ha₄,hae,hai⟩ (Vs ..)⟩
noncomputable def EnSt (h:Heap)(e it:Addr)(i:Nat):Prop:=(i=0/\∃ old,IsEnum h e it 0 old)\/(0 < i/\Lh h e it i)
theorem EnSt.obj {h:Heap}{e it:Addr}{i:Nat}(x:EnSt h e it i):∃ vs,h.get? e=some { cls:=.type "enumerate",dict:=none,data:=.fields vs,slots:=#[] }:=by
 rcases x with ⟨_,old,x⟩ | ⟨_,_,_,_,_,x,_⟩
 ·exact ⟨_,x⟩
 ·exact ⟨_,x⟩
theorem Zhd {e it:Addr}{fp:List Addr}{n i:Nat}{P:Nat->Value->Prop}{St:Nat->Heap->Prop}{Q:Option Value->Shared->Prop}
  (D:Draws prog w A.in1 it fp n P St) (he:EnSt s.heap e it i) (hst:St i s.heap) (hlt:i < n) (hne:e≠it) (hef:e ∉ fp)
  (hQ:∀ x h' tk,P i x->EnSt h' e it (i+1)->St (i+1) h' ->
   h'.get? s.heap.objs.size=some { cls:=.type "tuple",data:=.seq #[.int i tk,x] }->h'.objs.size=s.heap.objs.size+1 ->
   (∀ b o,b≠e->b≠it->s.heap.get? b=some o->h'.get? b=some o)->Q (some (.ref s.heap.objs.size)) { s with heap:=h',toks:=tk+1 }) :
  wpAny (model prog w) A (pyNext (.ref e)) Q E s:=by
 obtain ⟨vs,ho⟩:=he.obj
 have hT:s.TypeIs (.ref e) "enumerate" := ⟨_,ho,rfl⟩
 have hel:e < s.heap.objs.size:=Ow ho
 have hil:it < s.heap.objs.size:=by obtain ⟨_,y⟩:=D.live _ _ hst;exact Ow y
 rcases he with ⟨rfl,old,he⟩ | ⟨_,he⟩
 ·refine wpAny_pyNext_enum_itemD D he hst hlt hne hef fun x h' tk a b c z k q=>?_
  exact hQ x h' tk a (.inr ⟨U1 _,_,_,_,_,b,z,Qs hel,Qs hil⟩) c z k q
 ·unfold pyNext
  exact On (Sa (Qy (name:=Pq "__next__") hT Th
   (Q2 Th hT V9
    (Zmn D he hst hlt hne hef fun x h' tk a b c z k q=>Oq (hQ x h' tk a (.inr ⟨U1 _,b⟩) c z k q)) (V8 _))))
theorem Zp7 {e it:Addr}{fp:List Addr}{n:Nat}{P:Nat->Value->Prop}{St:Nat->Heap->Prop}{Q:Option Value->Shared->Prop}
  (D:Draws prog w A.in1 it fp n P St) (he:EnSt s.heap e it n) (hst:St n s.heap)
  (hQ:∀ h',Rg it s.heap h'->Q none { s with heap:=h' }):wpAny (model prog w) A (pyNext (.ref e)) Q E s:=by
 obtain ⟨vs,ho⟩:=he.obj
 have hT:s.TypeIs (.ref e) "enumerate" := ⟨_,ho,rfl⟩
 have h2:vs[2]?=some (.ref it):=by
  rcases he with ⟨rfl,old,he⟩ | ⟨_,a,oa,f1,old,he,_⟩
  ·unfold IsEnum at he
   rw [ho] at he
   injection he with he
   injection he with _ _ he _
   injection he with he
   rw [he];rfl
  ·rw [ho] at he
   injection he with he
   injection he with _ _ he _
   injection he with he
   rw [he];rfl
 unfold pyNext
 refine On (Sa (Qy (name:=Pq "__next__") hT Th
  (Q2 Th hT V9 ?_ (V8 _))))
 show wpAny _ _ (field (.ref e) 2 >>= _) _ _ _
 refine On (O8 ho rfl (x:=.ref it) h2 ?_)
 refine On (D.done _ _ _ hst fun h' x he' hx'=>?_)
 obtain ⟨o,ho',hc⟩:=hx'
 refine On (Vw (T := "StopIteration") (b:=true) ⟨o,ho',hc⟩ isSubtype_stop ?_)
 exact Oq (hQ _ he')
end
theorem Zgf {prog:Program}{w:World}{A:Around}{E:Value->Shared->Prop}{s:Shared}{it:Addr}{T:String}{Q:Bool->Shared->Prop}(hT:s.TypeIs (.ref it) T)(n1:typeLookup (.type T) "__len__" = pure none)(n2:typeLookup (.type T) "__length_hint__" = pure none)(h:Q true s):wpAny (model prog w) A (U6 (.ref it)) Q E s:=by
 unfold U6
 refine On (Ui hT n1 ?_)
 show wpAny _ A (specialOf (Value.ref it) (Pq "__length_hint__") >>= _) _ _ _
 refine On (Ui hT n2 ?_)
 exact Oq h
structure Src (X:Cx)(pins:List (Addr×Obj))(σ:St)(it:Addr)(T:String)(n:Nat)(H0:Hp)(J:Nat->List V->Hp->Heap->Prop):Prop where
 ty:∀ i ys H h,J i ys H h->∃ o,h.get? it=some o/\o.cls=.type T
 nl:(Value.type T == Value.type "list")=false/\(Value.type T == Value.type "tuple")=false
 hint:∃ mr:Bool,∀(A:Around)(s:Shared)(Q:Bool->Shared->Prop)(E:Value->Shared->Prop),s.TypeIs (.ref it) T->Q mr s->wpAny (model X.prog X.w) A (U6 (.ref it)) Q E s
 self:∀(A:Around)(s:Shared)(ys:List V)(H:Hp)(Q:Value->Shared->Prop)(E:Value->Shared->Prop),J 0 ys H s.heap->Q (.ref it) s->wpAny (model X.prog X.w) A (pyIter (.ref it)) Q E s
 keep:∀ i ys H h h' S zs zs',H0 S=none->H S=some (.lst zs)->J i ys H h->(∀ b o,b≠S->h.get? b=some o->h'.get? b=some o)->(∃ o,h'.get? S=some o)->J i ys (upd H S (.lst zs')) h'
 fresh:∀ i ys H h,J i ys H h->H it=none
 item:∀(A:Around)(i:Nat)(s:Shared)(H:Hp)(ys:List V)(E:Value->Shared->Prop),A.handled=none->i < n->Inv X pins σ H s->J i ys H s.heap ->
  wpAny (model X.prog X.w) A (pyNext (.ref it)) (fun r s'=>∃ u x H',r=some u/\RelV x u/\Inv X pins σ H' s'/\J (i+1) (ys++[x]) H' s'.heap/\∀ S zs,H S=some (.lst zs)->H' S=some (.lst zs)) E s
 done:∀(A:Around)(s:Shared)(H:Hp)(ys:List V)(E:Value->Shared->Prop),A.handled=none->Inv X pins σ H s->J n ys H s.heap ->
  wpAny (model X.prog X.w) A (pyNext (.ref it)) (fun r s'=>r=none/\Inv X pins σ H s') E s
section
variable {X:Cx}{pins:List (Addr×Obj)}{σ:St}{it:Addr}{T:String}{n:Nat}{H0:Hp}{J:Nat->List V->Hp->Heap->Prop}
theorem Zbo (C:Src X pins σ it T n H0 J)(hn:n<=sizeLine){A:Around}(hh:A.handled=none){R:Result->Shared->Prop}(S:Addr)(hS0:H0 S=none)(res:Value)
  (fin:∀ s' H' ys',Inv X pins σ H' s'->H' S=some (.lst ys')->ys'.length=n->(∃ h,J n ys' H' h)->R (.ok (.ret res)) s') :
  ∀(k i:Nat)(s:Shared)(H:Hp)(ys:List V),n - i=k->i<=n->Inv X pins σ H s->J i ys H s.heap->H S=some (.lst ys)->ys.length=i ->
  codeAny (model X.prog X.w) A (.builtin "list.extend.loop" ⟨[.ref S,.ref it,res],[]⟩) R s:=by
 intro k
 induction k with
 | zero =>
  intro i s H ys hk hi I j hS hl
  have hin:i=n:=by omega
  subst hin
  refine Uj PySem.F.entry_extend_loop ?_
  rw [T3 Sf _]
  show wpAny _ A.in1 (pyNext (.ref it) >>= _) _ _ s
  refine On (Ah (C.done A.in1 s H ys _ hh I j) fun r s' zq=>?_)
  obtain ⟨hr,I'⟩:=zq
  subst hr
  exact Oq (fin s' H ys I' hS hl ⟨_,j⟩)
 | succ k ih =>
  intro i s H ys hk hi I j hS hl
  have hlt:i < n:=by omega
  refine Uj PySem.F.entry_extend_loop ?_
  rw [T3 Sf _]
  show wpAny _ A.in1 (pyNext (.ref it) >>= _) _ _ s
  refine On (Ah (C.item A.in1 i s H ys _ hh hlt I j) fun r s' zq=>?_)
  obtain ⟨u,x,H',hr,rx,I',j',kS⟩:=zq
  subst hr
  have hS':=kS S ys hS
  obtain ⟨z,its,m,rv,hl',e⟩:=I'.lstM hS'
  show wpAny _ A.in1 (updateSeq S (·.push u) >>= _) _ _ _
  refine On ?_
  have hu:(its.toArray.push u)=(its++[u]).toArray:=by simp
  have I2:=I'.lset (f:=(·.push u)) (its':=its++[u]) (ys:=ys++[x]) (t':=s'.toks) hS' e hu (rv.append (.cons rx .nil)) (by rw [O2,Qo];omega)
  refine Uk e rfl (Oq ⟨Sx Sf _,ih (i+1) _ _ (ys++[x]) (by omega) hlt I2 ?_ Ad (by simp [hl])⟩)
   (by rw [Ot];omega) (by show (its.toArray.push u).size<=sizeLine+1;rw [Array.size_push,Ot];omega)
  exact C.keep _ _ _ _ _ S ys (ys++[x]) hS0 hS' j' (fun b o hb eb=>(Ru _ _ (Pm hb)).trans eb) ⟨_,Rv _ e rfl⟩
theorem Zce {H:Hp}(C:Src X pins σ it T n H J)(hn:n<=sizeLine){A:Around}(hh:A.handled=none){s:Shared}{Q:VK}{E:Value->Shared->Prop}(I:Inv X pins σ H s)(j:J 0 [] H s.heap)
  (jn:∀ S,s.heap.objs.size<=S->H S=none->∀ h',(∀ b o,s.heap.get? b=some o->h'.get? b=some o)->J 0 [] (upd H S (.lst [])) h')
  (q:∀ S H' ys,H S=none->H' S=some (.lst ys)->ys.length=n->(∃ h,J n ys H' h)->Q (.ref S) H') :
  wpAny (model X.prog X.w) A (call (.type "list") [.ref it]) (EP X pins σ Q) E s:=by
 have hf:H s.heap.objs.size=none:=I.hok.fresh (Os _)
 have hne:s.heap.objs.size≠it:=by
  obtain ⟨o,e,_⟩:=C.ty _ _ _ _ j
  exact Qs (Ow e)
 refine callType_codes (Q₁:=fun obj s₁=>obj=.ref s.heap.objs.size/\s₁={ s with heap:=s.heap.push { cls:=.type "list",data:=.seq #[] } }) PySem.F.called_list (PySem.F.typeCall_list_1 _) PySem.F.entry_list_init
  (code_list_new _ ⟨rfl,rfl⟩) fun obj s₁ h₁=>?_
 obtain ⟨rfl,rfl⟩:=h₁
 have hS:(s.heap.push { cls:=.type "list",data:=.seq #[] }).get? s.heap.objs.size=some { cls:=.type "list",data:=.seq #[] }:=O4 _ rfl
 have I1:Inv X pins σ (upd H s.heap.objs.size (.lst [])) { s with heap:=s.heap.push { cls:=.type "list",data:=.seq ([]:List Value).toArray } }:=I.lnew (ys:=[]) (its:=[]) (t':=s.toks) .nil (by simp)
 have j1:J 0 [] (upd H s.heap.objs.size (.lst [])) (s.heap.push { cls:=.type "list",data:=.seq ([]:List Value).toArray })   := jn _ (Os _) hf _ fun b o e=>Ou _ e
 refine ⟨⟨_,hS,rfl⟩,PySem.F.args_list_init_2 _ _,?_⟩
 generalize hs1:({ s with heap:=s.heap.push { cls:=.type "list",data:=.seq ([]:List Value).toArray } }:Shared)=s1 at I1
 have hS1:s1.heap.get? s.heap.objs.size=some { cls:=.type "list",data:=.seq ([]:List Value).toArray }:=by rw [<- hs1];exact hS
 replace j1:J 0 [] (upd H s.heap.objs.size (.lst [])) s1.heap:=by rw [<- hs1];exact j1
 have hs1':({ s with heap:=s.heap.push { cls:=.type "list",data:=.seq #[] } }:Shared)=s1:=hs1
 first | rw [hs1'] | skip
 show wpAny _ A.in1.in1 (do let old <- Builtin.List.listItems (.ref s.heap.objs.size);Builtin.List.listUpdate (.ref s.heap.objs.size) (fun _=>#[]);letGo old.toList.reverse;U7 (.ref s.heap.objs.size) (.ref it) .none) _ _ s1
 generalize s.heap.objs.size=S at *
 refine On ?_
 unfold Builtin.List.listItems
 refine On (Qr hS1 rfl (Oq ?_))
 show wpAny _ A.in1.in1 (updateSeq S (fun _=>#[]) >>= fun _=>letGo (#[]:Array Value).toList.reverse >>= fun _=>U7 (.ref S) (.ref it) .none) _ _ s1
 refine On (Uk hS1 rfl ?_)
 have I2:=I1.lset (f:=fun _=>#[]) (its':=[]) (ys:=[]) (t':=s1.toks) Ad hS1 rfl .nil (by simp)
 have hS2:=Rv (P3 (fun _=>(#[]:Array Value))) hS1 rfl
 have j2:=C.keep _ _ _ _ (s1.heap.update S (P3 fun _=>#[])) S [] [] hf Ad j1 (fun b o hb eb=>(Ru _ _ (Pm hb)).trans eb) ⟨_,hS2⟩
 rw [Nj] at I2 j2
 generalize hs2:({ s1 with heap:=s1.heap.update S (P3 fun _=>#[]),toks:=s1.toks }:Shared)=s2 at I2
 replace j2:J 0 [] (upd H S (.lst [])) s2.heap:=by rw [<- hs2];exact j2
 have hs2':({ s1 with heap:=s1.heap.update S (P3 fun _=>#[]) }:Shared)=s2:=hs2
 first | rw [hs2'] | skip
 refine On (U5 ?_)
 obtain ⟨oi,ei,ci⟩:=C.ty _ _ _ _ j2
 have hT:s2.TypeIs (.ref it) T:=⟨oi,ei,ci⟩
 unfold U7
 refine On (U0 hT ?_)
 have h1:Builtin.List.listSameRef (.ref S) (.ref it)=false:=by simp [Builtin.List.listSameRef,hne]
 have h2:=C.nl.1
 have h3:=C.nl.2
 simp only [h1,h2,h3,Bool.or_false,Rl,if_false]
 refine On (C.self _ s2 _ _ _ _ j2 ?_)
 refine On (P0 ?_)
 obtain ⟨mr,hmr⟩:=C.hint
 refine hmr _ _ _ _ hT ?_
 split
 ·show wpAny _ A.in1.in1 (rule "list.extend.makes-room" >>= fun _=>Builtin.List.listTouch (.ref S) >>= fun _ =>
   again (.builtin "list.extend.loop" ⟨[.ref S,.ref it,.none],[]⟩)) _ _ _
  refine On (Te ?_)
  refine On ?_
  show wpAny _ A.in1.in1 (updateSeq S (·.push .none) >>= fun _=>updateSeq S (·.pop)) _ _ _
  obtain ⟨_,its2,m2,rv2,_,e2⟩:=I2.lstM Ad
  cases rv2
  refine On (Uk e2 rfl ?_)
  have I3:=I2.lset (f:=(·.push Value.none)) (its':=[.none]) (ys:=[.non]) (t':=s2.toks) Ad e2 (by simp) (.cons rfl .nil) (by show 1<=sizeLine;decide)
  have hS3:=Rv (P3 (·.push Value.none)) e2 rfl
  have j3:=C.keep _ _ _ _ (s2.heap.update S (P3 (·.push Value.none))) S [] [.non] hf Ad j2 (fun b o hb eb=>(Ru _ _ (Pm hb)).trans eb) ⟨_,hS3⟩
  rw [Nj] at I3 j3
  generalize hs3:({ s2 with heap:=s2.heap.update S (P3 (·.push Value.none)),toks:=s2.toks }:Shared)=s3 at I3
  replace j3:J 0 [] (upd H S (.lst [.non])) s3.heap:=by rw [<- hs3];exact j3
  have hs3':({ s2 with heap:=s2.heap.update S (P3 (·.push Value.none)) }:Shared)=s3:=hs3
  first | rw [hs3'] | skip
  obtain ⟨_,its3,m3,rv3,hl3,e3⟩:=I3.lstM Ad
  have hl3':its3.length=1:=hl3.symm
  refine Uk e3 rfl ?_ (by rw [Ot,hl3'];decide) (by show its3.toArray.pop.size<=sizeLine+1;rw [Array.size_pop,Ot,hl3'];decide)
  have I4:=I3.lset (f:=(·.pop)) (its':=[]) (ys:=[]) (t':=s3.toks) Ad e3 (by
   cases its3 with
   | nil=>simp at hl3'
   | cons a r=>cases r with
    | nil=>simp
    | cons b r'=>simp at hl3') .nil (by simp)
  have hS4:=Rv (P3 (·.pop)) e3 rfl
  have j4:=C.keep _ _ _ _ (s3.heap.update S (P3 (·.pop))) S [.non] [] hf Ad j3 (fun b o hb eb=>(Ru _ _ (Pm hb)).trans eb) ⟨_,hS4⟩
  rw [Nj] at I4 j4
  refine Oq ⟨Sx Sf _,Zbo C hn (A:=A.in1) hh S hf .none ?_ n 0 _ _ [] rfl (Pj _) I4 j4 Ad rfl⟩
  intro s' H' ys' I' hS' hl' hj'
  exact ⟨rfl,.ref S,H',I',rfl,q S H' ys' hf hS' hl' hj'⟩
 ·refine Oq ⟨Sx Sf _,Zbo C hn (A:=A.in1) hh S hf .none ?_ n 0 _ _ [] rfl (Pj _) I2 j2 Ad rfl⟩
  intro s' H' ys' I' hS' hl' hj'
  exact ⟨rfl,.ref S,H',I',rfl,q S H' ys' hf hS' hl' hj'⟩
end
section
variable {X:Cx}{pins:List (Addr×Obj)}{σ:St}{H:Hp}{s:Shared}{h':Heap}
theorem Inv.turned2 {t':Nat}{i1 i2:Addr}(I:Inv X pins σ H s)(k:∀ b o,b≠i1->b≠i2->s.heap.get? b=some o->h'.get? b=some o)(f1:FpOk X pins H i1)(f2:FpOk X pins H i2):Inv X pins σ H { s with heap:=h',toks:=t' }:=by
 obtain ⟨n1,l1,_,e1,c1,p1⟩:=f1
 obtain ⟨n2,l2,_,e2,c2,p2⟩:=f2
 have nit:∀ b u,H b=some u->b≠i1/\b≠i2:=fun b u e=>⟨(fun z=>by rw [z,n1] at e;exact nomatch e),(fun z=>by rw [z,n2] at e;exact nomatch e)⟩
 refine I.step (g':=s.gens) (d':=s.drawn) (ch:=[i1,i2]) (fun b hb=>?_) (fun b o _ _ hc e _=>k b o (fun z=>hc (by simp [z])) (fun z=>hc (by simp [z])) e) (fun b o _ _ hc e _=>⟨o.slots,k b o (fun z=>hc (by simp [z])) (fun z=>hc (by simp [z])) e⟩) (fun _ _ _ _ n=>n)
  (fun b o hc e=>⟨o,k b o (fun z=>hc (by simp [z])) (fun z=>hc (by simp [z])) e⟩) (fun _ _ e=>e) (fun _ _ _ e=>e) (fun b ps e=>⟨#[],by rw [e];simp⟩) (fun m hm=>?_) (fun b u e=>?_) I.bare
 ·rcases Oy.mp hb with rfl | hb
  ·exact ⟨e1,l1,c1,p1⟩
  ·rw [Qp.mp hb]
   exact ⟨e2,l2,c2,p2⟩
 ·obtain ⟨o,es,ep,ho,r⟩:=hm
  exact ⟨o,es,ep,k _ o (Pm l1) (Pm l2) ho,r⟩
 ·refine (I.hok b u e).stay (fun c v hc q=>k c v ?_ ?_ q) (fun _ q=>q) fun _ _ q=>q
  ·rcases hc with z | z
   ·rw [z];exact (nit b u e).1
   ·exact (nit c _ z).1
  ·rcases hc with z | z
   ·rw [z];exact (nit b u e).2
   ·exact (nit c _ z).2
end
theorem FpOk.of {X:Cx}{pins:List (Addr×Obj)}{H H':Hp}{b:Addr}(f:FpOk X pins H b)(h:H' b=none):FpOk X pins H' b:=⟨h,f.2⟩
theorem SqT.kept {K:Om}{H:Hp}{S a:Addr}{zs zs' xs:List V}(hS:H S=some (.lst zs))(h:SqT K H a xs):SqT K (upd H S (.lst zs')) a xs:=by
 rcases h with (h | ⟨o,h⟩) | h
 ·exact .inl (.inl (by rw [Ai (Fz h hS (by intro z;cases z))];exact h))
 ·exact .inl (.inr ⟨o,by rw [Ai (Fz h hS (by intro z;cases z))];exact h⟩)
 ·exact .inr h
theorem SqT.same {K:Om}{H H':Hp}{a:Addr}{xs:List V}(h:SqT K H a xs)(e:Same H H'):SqT K H' a xs:=e.tup h
noncomputable def Pairs (H:Hp)(xs:List V)(ys:List V):Prop:=∀(j:Nat)(y:V),ys[j]?=some y->∃(t:Addr)(x:V),y=V.ref t/\xs[j]?=some x/\H t=some (.tup [.int j,x])
noncomputable def JEn (K:Om)(H0:Hp)(en it a:Addr)(xs:List V):Nat->List V->Hp->Heap->Prop:=fun i ys H h =>
 EnSt h en it i/\h.IsTupleIter it a i/\(H en=none/\H it=none)/\SqT K H a xs/\ys.length=i/\Pairs H xs ys/\Same H0 H
theorem Zl4:typeLookup (.type "enumerate") "__len__" = pure none:=by rw [Ul,Tx];kernel_rfl
theorem Zpz:typeLookup (.type "enumerate") "__length_hint__" = pure none:=by rw [Ul,Tx];kernel_rfl
theorem Zk6 {X:Cx}{pins:List (Addr×Obj)}{σ:St}{H0:Hp}{en it a:Addr}{xs:List V}(fe:FpOk X pins H0 en)(fi:FpOk X pins H0 it)(hne:en≠it)(hae:a≠en)(hai:a≠it):Src X pins σ en "enumerate" xs.length H0 (JEn X.K H0 en it a xs) where
 ty:=fun i ys H h j=>by
  obtain ⟨vs,e⟩:=j.1.obj
  exact ⟨_,e,rfl⟩
 nl:=by decide
 hint:=⟨_,fun A s Q E hT h=>Zgf hT Zl4 Zpz h⟩
 self:=fun A s ys H Q E j q=>by
  rcases j.1 with ⟨_,old,e⟩ | ⟨z,_⟩
  ·exact Vt e q
  ·exact absurd z (Qk _)
 keep:=fun i ys H h h' S zs zs' h0 hS j k al=>by
  obtain ⟨j1,j2,⟨j3,j4⟩,j5,j6,j7,j8⟩:=j
  have ne1:en≠S:=fun z=>by rw [z,hS] at j3;cases j3
  have ne2:it≠S:=fun z=>by rw [z,hS] at j4;cases j4
  refine ⟨?_,?_,⟨by rw [Ai ne1];exact j3,by rw [Ai ne2];exact j4⟩,j5.kept hS,j6,fun m y hy=>?_,fun b o e=>?_⟩
  ·rcases j1 with ⟨z,old,e⟩ | ⟨z,a0,oa,f1,old,e,ea,x1,x2⟩
   ·exact .inl ⟨z,old,k _ _ ne1 e⟩
   ·by_cases hs:a0=S
    ·subst hs
     obtain ⟨o,eo⟩:=al
     exact .inr ⟨z,a0,o,f1,old,k _ _ ne1 e,eo,x1,x2⟩
    ·exact .inr ⟨z,a0,oa,f1,old,k _ _ ne1 e,k _ _ hs ea,x1,x2⟩
  ·exact j2.at fun o e=>k _ _ ne2 e
  ·obtain ⟨t,x,e1,e2,e3⟩:=j7 m y hy
   exact ⟨t,x,e1,e2,by rw [Ai (Fz e3 hS (by intro z;cases z))];exact e3⟩
  ·have:b≠S:=fun z=>by rw [z,h0] at e;cases e
   rw [Ai this]
   exact j8 b o e
 fresh:=fun i ys H h j=>j.2.2.1.1
 item:=fun A i s H ys E hh hi I j=>by
  obtain ⟨j1,j2,⟨j3,j4⟩,j5,j6,j7,j8⟩:=j
  obtain ⟨its,rv,p,hz⟩:=I.tuple j5
  have hl:=rv.length
  have D:=Zal (prog:=X.prog) (w:=X.w) (A:=A.in1) hh it a hai its.toArray
  refine Zhd D j1 ⟨j2,p⟩ (by rw [Ot];omega) hne (by simp [hne,Pm hae]) fun x h' tk hx st' it' ht hsz kk=>?_
  have I1:Inv X pins σ H { s with heap:=h',toks:=tk+1 }:=I.turned2 (fun b o h1 h2 e=>kk b o h1 h2 e) (fe.of j3) (fi.of j4)
  have hx':its[i]?=some x:=by simpa using hx
  have hxs:i < xs.length:=hi
  obtain ⟨u,hu,ru⟩:=rv.get (Oo hxs)
  rw [hx'] at hu
  cases hu
  have hf:H s.heap.objs.size=none:=I.hok.fresh (Os _)
  have I2:Inv X pins σ (upd H s.heap.objs.size (.tup [.int i,xs[i]])) { s with heap:=h',toks:=tk+1 }:=by
   have hokN:HOk X.prog X.w (upd H s.heap.objs.size (.tup [.int i,xs[i]])) h':=fun b o e=>by
    by_cases hb:b=s.heap.objs.size
    ·subst hb
     rw [Ad] at e
     cases e
     exact ⟨by show 2<=sizeLine;decide,[.int i tk,x],.cons ⟨tk,rfl⟩ (.cons ru .nil),⟨_,ht,rfl,_,rfl⟩⟩
    ·rw [Ai hb] at e
     refine (I1.hok b o e).stay (fun c v _ q=>q) (fun c q=>?_) fun c zs q=>?_
     ·rw [Ai (Bc q hf)];exact q
     ·rw [Ai (Bc q hf)];exact q
   have u:Un (Cd X.stack) [en,it] H (upd H s.heap.objs.size (.tup [.int i,xs[i]])) s.heap h':={
    keep:=fun b o e n _ hx=>kk b o (fun z=>hx (by simp [z])) (fun z=>hx (by simp [z])) e
    slot:=fun b o e n _ hx=>⟨o.slots,kk b o (fun z=>hx (by simp [z])) (fun z=>hx (by simp [z])) e⟩
    free:=fun b o e n _=>by rw [Ai (O1 (Ow e))];exact n
    there:=fun b o e hx=>⟨o,kk b o (fun z=>hx (by simp [z])) (fun z=>hx (by simp [z])) e⟩
    tups:=fun b zs e=>by rw [Ai (Bc e hf)];exact e
    frzs:=fun b o u e=>by rw [Ai (Bc e hf)];exact e
    tbls:=fun b ps e=>⟨#[],by rw [Ai (Bc e hf),e];simp⟩ }
   refine I.call (g':=s.gens) (d':=s.drawn) (t':=tk+1) u hokN I.bare fun b hb=>?_
   rcases Oy.mp hb with rfl | hb
   ·exact ⟨fe.2.2.2.1,fe.2.1,fe.2.2.2.2.1,fe.2.2.2.2.2⟩
   ·rw [Qp.mp hb]
    exact ⟨fi.2.2.2.1,fi.2.1,fi.2.2.2.2.1,fi.2.2.2.2.2⟩
  have sm:Same H (upd H s.heap.objs.size (.tup [.int i,xs[i]])):=Same.upd hf
  have ne1:en≠s.heap.objs.size:=by obtain ⟨_,e⟩:=j1.obj;exact O1 (Ow e)
  have ne2:it≠s.heap.objs.size:=by obtain ⟨_,e,_⟩:=j2;exact O1 (Ow e)
  refine ⟨_,.ref s.heap.objs.size,_,rfl,rfl,I2,⟨st',it'.1,⟨by rw [Ai ne1];exact j3,by rw [Ai ne2];exact j4⟩,j5.same sm,by simp [j6],fun m y hy=>?_,j8.trans sm⟩,fun S zs e=>sm S _ e⟩
  by_cases hm:m < i
  ·rw [Qx (by omega)] at hy
   obtain ⟨t,z,e1,e2,e3⟩:=j7 m y hy
   exact ⟨t,z,e1,e2,sm _ _ e3⟩
  ·have hlen:=(O3.mp hy).1
   rw [O2,Qo] at hlen
   have:m=i:=by omega
   subst this
   rw [Qw (by omega),j6,Q7] at hy
   have hy:V.ref s.heap.objs.size=y:=by simpa using hy
   exact ⟨_,xs[m],hy.symm,Oo hxs,Ad⟩
 done:=fun A s H ys E hh I j=>by
  obtain ⟨j1,j2,⟨j3,j4⟩,j5,j6,j7,j8⟩:=j
  obtain ⟨its,rv,p,hz⟩:=I.tuple j5
  have hl:=rv.length
  have D:=Zal (prog:=X.prog) (w:=X.w) (A:=A.in1) hh it a hai its.toArray
  have e:xs.length=its.toArray.size:=by rw [Ot];omega
  rw [e] at j1 j2
  refine Zp7 D j1 ⟨j2,p⟩ fun h' eb=>⟨rfl,?_⟩
  obtain ⟨g0,g1,g2,g3,g4,g5⟩:=fi.of j4
  exact I.turned (t':=s.toks) (fun b o hb e=>eb b o hb e) g0 g1 g3 g4 g5
section
variable {X:Cx}
theorem Zc4:bootBuiltins "list" = some (.type "list"):=by decide +kernel
noncomputable def Zag (K:Om)(ta:TA):TE:=fun σ H Q=>ta σ H fun vs H1=>∃ a xs,vs=[.ref a]/\SqT K H1 a xs /\
 ∀(S:Addr)(ys:List V)(H2:Hp),H1 S=none->Same H1 H2->ys.length=xs.length->Pairs H2 xs ys->H2 S=some (.lst ys)->Q (.ref S) H2
theorem Zk8 {e:Expr}{ta:TA}{p p2 pos pos2:Pos}(hg:Gl X "list")(hm:X.mg "list" = none)(hg2:Gl X "enumerate")(hm2:X.mg "enumerate" = none)(ha:QA X [e] ta)(hc:X.calm=true:=by rfl)
  (hs:starEach [.Call (.Name "enumerate" p2) [e] [] pos2] X.env=[(false,eval (.Call (.Name "enumerate" p2) [e] [] pos2) X.env)]:=by rfl) (hs2:starEach [e] X.env=[(false,eval e X.env)]:=by rfl) :
  QE X (.Call (.Name "list" p) [.Call (.Name "enumerate" p2) [e] [] pos2] [] pos) (Zag X.K ta):=by
 refine ⟨fun pins s σ H Q I h=>?_⟩
 refine Call_ (Dx I hg hm Zc4 (Q3 ?_ hs rfl))
 rw [hs]
 show wpAny _ _ (spliced ((false,eval (.Call (.Name "enumerate" p2) [e] [] pos2) X.env)::[])) _ _ s
 refine Vn ?_
 refine Call_ (Dx I hg2 hm2 Wc (Q3 (Ah (ha.run pos2 pins s σ H _ I h) fun us s1 zq=>?_) hs2 rfl))
 obtain ⟨vs,H1,I1,r1,q1⟩:=zq
 obtain ⟨a,xs,e1,hq,q⟩:=q1
 subst e1
 cases r1 with
 | cons r rr =>
  cases rr
  cases r
  obtain ⟨its,rv,pt,hz⟩:=I1.tuple hq
  have hlt:a < s1.heap.objs.size:=by obtain ⟨o,e,_⟩:=id pt;exact Ow e
  refine Zhs (show s1.heap.IsTuple a its.toArray from pt) fun h' hen hit hsz hk=>?_
  refine Vq ?_
  have I2:Inv X pins σ H1 { s1 with heap:=h' }:=I1.kept (t':=s1.toks) hk
  have fe:=I1.fpOk (b:=s1.heap.objs.size+1) (Rq _) (I1.hok.fresh (Rq _))
  have fi:=I1.fpOk (b:=s1.heap.objs.size) (Os _) (I1.hok.fresh (Os _))
  have C:=Zk6 (X:=X) (pins:=pins) (σ:=σ) (H0:=H1) (en:=s1.heap.objs.size+1) (it:=s1.heap.objs.size) (a:=a) (xs:=xs) fe fi (Nat.succ_ne_self _) (O1 (Vr hlt)) (O1 hlt)
  refine Zce C (by omega) (I1.ok.hd hc) I2 ⟨.inl ⟨rfl,_,hen⟩,hit,⟨fe.1,fi.1⟩,hq,rfl,fun j y hy=>by simp at hy,Same.refl _⟩ (fun S hge hS h2 k2=>?_) fun S H' ys hS hS' hl' hj=>?_
  ·have sm:Same H1 (upd H1 S (.lst [])):=Same.upd hS
   refine ⟨.inl ⟨rfl,_,k2 _ _ hen⟩,hit.at fun o e=>k2 _ _ e,⟨?_,?_⟩,hq.same sm,rfl,fun j y hy=>by simp at hy,sm⟩
   ·rw [Ai (show s1.heap.objs.size+1≠S from fun z=>?_)]
    ·exact fe.1
    ·have hge:h'.objs.size<=S:=hge
     omega
   ·rw [Ai (show s1.heap.objs.size≠S from fun z=>?_)]
    ·exact fi.1
    ·have hge:h'.objs.size<=S:=hge
     omega
  ·obtain ⟨h,j⟩:=hj
   exact q S ys H' hS j.2.2.2.2.2.2 hl' j.2.2.2.2.2.1 hS'
end
noncomputable def Hd (K:Om)(a:Addr)(n:Nat):It :=
 ⟨fun i H=>∃ xs,SqL K H a xs/\xs.length=n/\i < n,fun i H x H'=>∃(t:Addr)(y:V),H t=none/\(∀ xs,SqL K H a xs->xs[i]?=some y)/\x=.ref t/\H'=upd H t (.tup [.int i,y]),fun i H=>i=n/\∃ xs,SqL K H a xs/\xs.length=n⟩
theorem Inv.pair {X:Cx}{pins:List (Addr×Obj)}{σ:St}{H:Hp}{s:Shared}{h':Heap}{tk:Nat}{i1 i2 T:Addr}{xs:List V}{its:List Value}(I:Inv X pins σ H s)(f1:FpOk X pins H i1)(f2:FpOk X pins H i2)
  (kk:∀ b o,b≠i1->b≠i2->s.heap.get? b=some o->h'.get? b=some o) (hT:s.heap.objs.size<=T) (rv:Vals xs its) (hz:xs.length<=sizeLine) (ht:h'.IsTuple T its.toArray):Inv X pins σ (upd H T (.tup xs)) { s with heap:=h',toks:=tk }:=by
 have hf:H T=none:=I.hok.fresh hT
 have I1:Inv X pins σ H { s with heap:=h',toks:=tk }:=I.turned2 kk f1 f2
 have hokN:HOk X.prog X.w (upd H T (.tup xs)) h':=fun b o e=>by
  by_cases hb:b=T
  ·subst hb
   rw [Ad] at e
   cases e
   exact ⟨hz,its,rv,ht⟩
  ·rw [Ai hb] at e
   refine (I1.hok b o e).stay (fun c v _ q=>q) (fun c q=>?_) fun c zs q=>?_
   ·rw [Ai (Bc q hf)];exact q
   ·rw [Ai (Bc q hf)];exact q
 have u:Un (Cd X.stack) [i1,i2] H (upd H T (.tup xs)) s.heap h':={
  keep:=fun b o e n _ hx=>kk b o (fun z=>hx (by simp [z])) (fun z=>hx (by simp [z])) e
  slot:=fun b o e n _ hx=>⟨o.slots,kk b o (fun z=>hx (by simp [z])) (fun z=>hx (by simp [z])) e⟩
  free:=fun b o e n _=>by rw [Ai (O1 (O9 (Ow e) hT))];exact n
  there:=fun b o e hx=>⟨o,kk b o (fun z=>hx (by simp [z])) (fun z=>hx (by simp [z])) e⟩
  tups:=fun b zs e=>by rw [Ai (Bc e hf)];exact e
  frzs:=fun b o u e=>by rw [Ai (Bc e hf)];exact e
  tbls:=fun b ps e=>⟨#[],by rw [Ai (Bc e hf),e];simp⟩ }
 refine I.call (g':=s.gens) (d':=s.drawn) (t':=tk) u hokN I.bare fun b hb=>?_
 rcases Oy.mp hb with rfl | hb
 ·exact ⟨f1.2.2.2.1,f1.2.1,f1.2.2.2.2.1,f1.2.2.2.2.2⟩
 ·rw [Qp.mp hb]
  exact ⟨f2.2.2.2.1,f2.2.1,f2.2.2.2.2.1,f2.2.2.2.2.2⟩
theorem Zoj {P:Program}{w:World}{K:Om}{elts:List Expr}{kt:Nat}{pt:Pos}(a en it:Addr)(n:Nat)(hne:en≠it)(hae:a≠en)(hai:a≠it):Ei P w K (.Tuple elts kt pt) (Hd K a n) [en,it] en (fun i h=>(∃ old,IsEnum h en it i old)/\h.IsListIter it a i) where
 mem:=by simp
 obj:=fun i h st b hb=>by
  rcases Oy.mp hb with rfl | hb
  ·obtain ⟨old,e⟩:=st.1
   exact ⟨_,e,fun v z=>by
    have z':Data.fields _=Data.cell v:=z
    cases z'⟩
  ·rw [Qp.mp hb]
   obtain ⟨o,e,c,d⟩:=st.2
   exact ⟨o,e,fun v z=>by rw [d] at z;cases z⟩
 keep:=fun i h h' st k=>⟨let ⟨old,e⟩:=st.1;⟨old,k en (by simp) _ e⟩,st.2.at fun o e=>k it (by simp) o e⟩
 item:=by
  intro X hP hw hK hc i pins s σ H E I hf st hg
  subst hP hw hK
  obtain ⟨xs,hq,hl,hi⟩:=hg
  obtain ⟨its,rv,p,hz⟩:=I.list hq
  have hlen:=rv.length
  have fe:=hf en (by simp)
  have fi:=hf it (by simp)
  have W:=WalksT.enumerateD (prog:=X.prog) (w:=X.w) (A:=X.A) (Draws.list (A:=X.A.in1) (I.ok.hd hc) it a hai its.toArray) en hne (by simp [hne,Pm hae]) (by simp)
  refine W.item i s _ _ (by rw [Ot];omega) ⟨st.1,st.2,p.isList⟩ fun T vals h1 tk hP hT ht mid k1=>?_
  obtain ⟨t,x,hx,rfl⟩:=hP
  refine ⟨_,rfl,W.go elts kt pt i T _ _ _ mid fun h2 st2 k2=>?_⟩
  have hx':its[i]?=some x:=by simpa using hx
  have hxs:i < xs.length:=by omega
  obtain ⟨u,hu,ru⟩:=rv.get (Oo hxs)
  rw [hx'] at hu
  cases hu
  have hTw:T ∉ [en,it]:=W.apart i T _ mid
  have ht2:h2.IsTuple T ([.int i t,x]:List Value).toArray:=by
   obtain ⟨o,eo,r⟩:=ht
   exact ⟨o,k2 T o hTw eo,r⟩
  have kk:∀ b o,b≠en->b≠it->s.heap.get? b=some o->h2.get? b=some o:=fun b o h1 h3 e=>k2 b o (by simp [h1,h3]) (k1 b o (by simp [h1,h3]) e)
  have I2:=I.pair (tk:=tk) (T:=T) (xs:=[.int i,xs[i]]) fe fi kk hT (.cons ⟨t,rfl⟩ (.cons ru .nil)) (by show 2<=sizeLine;decide) ht2
  refine ⟨.ref T,_,I2,rfl,⟨T,xs[i],I.hok.fresh hT,fun ys hy=>by rw [I.list_inj hy hq];exact Oo hxs,rfl,rfl⟩,⟨st2.1,st2.2.1⟩,fun b hb=>?_⟩
  have hb':b≠T:=fun z=>hTw (z ▸ hb)
  rw [Ai hb']
  exact (hf b hb).1
 done:=by
  intro X hP hw hK hc i pins s σ H E I hf st hg
  subst hP hw hK
  obtain ⟨rfl,xs,hq,hl⟩:=hg
  obtain ⟨its,rv,p,hz⟩:=I.list hq
  have hlen:=rv.length
  have fe:=hf en (by simp)
  have fi:=hf it (by simp)
  have W:=WalksT.enumerateD (prog:=X.prog) (w:=X.w) (A:=X.A) (Draws.list (A:=X.A.in1) (I.ok.hd hc) it a hai its.toArray) en hne (by simp [hne,Pm hae]) (by simp)
  have e:i=its.toArray.size:=by rw [Ot];omega
  rw [e] at st
  exact W.done s _ _ ⟨st.1,st.2,p.isList⟩ fun h' tk kk=>⟨rfl,I.turned2 (fun b o h1 h2 e=>kk b o (by simp [h1,h2]) e) fe fi⟩
 self:=fun A i s Q E st h=>by
  obtain ⟨old,e⟩:=st.1
  exact Vt e h
section
variable {X:Cx}
noncomputable def Mo (K:Om)(ta:TA):TI:=fun σ H R=>ta σ H fun vs H1=>∃ a xs,vs=[.ref a]/\SqL K H1 a xs/\R (Hd K a xs.length) H1
theorem Zqm {elts:List Expr}{kt:Nat}{pt:Pos}{e:Expr}{ta:TA}{p pos:Pos}(hg:Gl X "enumerate")(hm:X.mg "enumerate" = none)(ha:QA X [e] ta)(hs:starEach [e] X.env=[(false,eval e X.env)]:=by rfl):QI X (.Tuple elts kt pt) (.Call (.Name "enumerate" p) [e] [] pos) (Mo X.K ta):=by
 refine ⟨fun pins s σ H R I h=>?_⟩
 refine Call_ (Dx I hg hm Wc (Q3 (Ah (ha.run pos pins s σ H _ I h) fun us s1 zq=>?_) hs rfl))
 obtain ⟨vs,H1,I1,r1,q1⟩:=zq
 obtain ⟨l,xs,e1,hq,q⟩:=q1
 subst e1
 cases r1 with
 | cons r rr =>
  cases rr
  cases r
  obtain ⟨its,rv,pl,hz⟩:=I1.list hq
  have hlt:l < s1.heap.objs.size:=by obtain ⟨o,e,_⟩:=pl.isList;exact Ow e
  refine call_enumerate_list pl.isList fun h' hen hit hsz hk=>?_
  refine Vt hen ?_
  have fe:=I1.fpOk (b:=s1.heap.objs.size+1) (Rq _) (I1.hok.fresh (Rq _))
  have fi:=I1.fpOk (b:=s1.heap.objs.size) (Os _) (I1.hok.fresh (Os _))
  refine ⟨s1.heap.objs.size+1,[s1.heap.objs.size+1,s1.heap.objs.size],_,_,H1,rfl,I1.kept (t':=s1.toks) hk,Zoj l _ _ xs.length (Nat.succ_ne_self _) (O1 (Vr hlt)) (O1 hlt),⟨⟨_,hen⟩,hit⟩,fun b hb=>?_,q⟩
  rcases Oy.mp hb with rfl | hb
  ·exact fe
  ·rw [Qp.mp hb]
   exact fi
theorem Zme {K:Om}{a:Addr}{xs:List V}{g:TG}{tb:TS}{D:Cr}{σ:St}{H:Hp}(Pv:Nat->St->Hp->Prop)(h0:Pv 0 σ H)(hl:∀ i σ H,i<=xs.length->Pv i σ H->SqL K H a xs)
  (hs:∀ i x t σ H,xs[i]?=some x->H t=none->Pv i σ H->g (.ref t) σ (upd H t (.tup [.int i,x])) fun σ2 H2=>tb { D with nx:=Pv (i+1),ct:=Pv (i+1),bk:=D.nx } σ2 H2) (hd:∀ σ H,Pv xs.length σ H->D.nx σ H) :
  ∃ W:Nat->Nat->St->Hp->Prop,(∃ m,W 0 m σ H)/\∀ i m σ H,W i m σ H ->
   ((Hd K a xs.length).stop i H/\D.nx σ H)\/((Hd K a xs.length).go i H/\∃ N:St->Hp->Prop,(∀ σ' H',N σ' H'->∃ m',m' < m/\W (i+1) m' σ' H')/\∀ x H',(Hd K a xs.length).yld i H x H'->g x σ H' fun σ2 H2=>tb { D with nx:=N,ct:=N,bk:=D.nx } σ2 H2):=by
 refine ⟨fun i m σ H=>m=xs.length - i/\i<=xs.length/\Pv i σ H,⟨xs.length,by simp,Pj _,h0⟩,?_⟩
 rintro i m σ H ⟨rfl,hi,p⟩
 have q:=hl i σ H hi p
 by_cases hlt:i < xs.length
 ·refine .inr ⟨⟨xs,q,rfl,hlt⟩,Pv (i+1),fun σ' H' p'=>⟨xs.length - (i+1),by omega,rfl,hlt,p'⟩,fun x H' y=>?_⟩
  obtain ⟨t,y,ht,hy,rfl,rfl⟩:=y
  exact hs i y t σ _ (hy xs q) ht p
 ·have e:i=xs.length:=by omega
  subst e
  exact .inl ⟨⟨rfl,xs,q,rfl⟩,hd σ H p⟩
end
end L2
namespace L2
open PySem PySem.SeqAt
open PySem.AutoSeq1 (wpAny_loadPart')
open PySem.MeetsSeq PySem.MeetsSeq2 PySem.MeetsSeq3 PySem.SeqRoads2
theorem Zq8 (l b:Addr)(items items2:Array Value)(n n2:Nat)(dd dd2:Option Addr)(sl sl2:Array (Option Value))(hsz:items.size=items2.size)(e:Nat->Bool)(k:Nat) :
  ∀ i:Nat,items.size - i=k->Meets (Builtin.«list.__eq__.loop» ⟨[.ref l,.ref b,rawInt i,rawInt 3],[]⟩)
   (fun A R s=>s.heap.get? l=some { cls:=.type "list",dict:=dd,data:=.seq items n,slots:=sl }/\s.heap.get? b=some { cls:=.type "list",dict:=dd2,data:=.seq items2 n2,slots:=sl2 } /\
    (∀ j (h1:j < items.size) (h2:j < items2.size),EqAt A.in1 s items[j] items2[j] (e j)) /\
    R (.ok (.ret (.bool (!((O7 items.size).drop i).all e)))) s):=by
 induction k with
 | zero =>
  intro i hk prog w A R s h
  obtain ⟨hp,g,d,tk,os⟩:=s;obtain ⟨hl,hb,he,h⟩:=h
  wp_walk using wpAny_loadPart' hl,wpAny_loadPart' hb
  have hi1:items[((i:Nat):Int).toNat]?=none:=by simp;omega
  have hi2:items2[((i:Nat):Int).toNat]?=none:=by simp;omega
  have hd:(O7 items.size).drop i=[]:=by simp;omega
  rw [hd] at h
  rw [hi1,hi2]
  wp_walk using wpAny_loadPart' hl,wpAny_loadPart' hb
  show R (.ok (.ret (.bool (items.size != items2.size)))) _
  rw [hsz]
  simpa using h
 | succ k ih =>
  intro i hk prog w A R s h
  obtain ⟨hp,g,d,tk,os⟩:=s;obtain ⟨hl,hb,he,h⟩:=h
  wp_walk using wpAny_loadPart' hl,wpAny_loadPart' hb
  have hlt:i < items.size:=by omega
  have hlt2:i < items2.size:=by omega
  have hi1:items[((i:Nat):Int).toNat]?=some items[i]:=by simp [hlt]
  have hi2:items2[((i:Nat):Int).toNat]?=some items2[i]:=by simp [hlt2]
  have hd:(O7 items.size).drop i=i::(O7 items.size).drop (i+1):=by simp [Qf,hlt]
  have hc:((i:Int)+1)=((i+1:Nat):Int):=by push_cast;rfl
  rw [hd,Ro] at h
  rw [hi1,hi2]
  refine On (he i hlt hlt2 prog w _ _ ?_)
  cases hb':e i with
  | true =>
   rw [hb'] at h
   wp_walk
   rw [hc]
   exact ⟨Sx plain_eq_loop _,Uj entry_eq_loop (by
    rw [T3 plain_eq_loop _]
    exact ih (i+1) (by omega) prog w A R _ ⟨hl,hb,he,by simpa using h⟩)⟩
  | false =>
   rw [hb'] at h
   wp_walk using wpAny_loadPart' hl,wpAny_loadPart' hb
   rw [hi1,hi2]
   wp_walk
   simpa using h
theorem Zhg (l b:Addr)(items items2:Array Value)(n n2:Nat)(dd dd2:Option Addr)(sl sl2:Array (Option Value))(hsz:items.size=items2.size)(e:Nat->Bool) :
  Meets (Builtin.«list.__ne__» ⟨[.ref l,.ref b],[]⟩)
   (fun A R s=>s.heap.get? l=some { cls:=.type "list",dict:=dd,data:=.seq items n,slots:=sl }/\s.heap.get? b=some { cls:=.type "list",dict:=dd2,data:=.seq items2 n2,slots:=sl2 } /\
    (∀ j (h1:j < items.size) (h2:j < items2.size),EqAt A.in1 s items[j] items2[j] (e j)) /\
    R (.ok (.ret (.bool (!(O7 items.size).all e)))) s):=by
 intro prog w A R s h
 obtain ⟨hp,g,d,tk,os⟩:=s;obtain ⟨hl,hb,he,h⟩:=h
 have f3:=Wa
 have hne:¬ (items.size != items2.size)=true:=by simp [hsz]
 wp_walk using wpAny_loadPart' hl,wpAny_loadPart' hb
 exact ⟨Sx plain_eq_loop _,Uj entry_eq_loop (by
  rw [T3 plain_eq_loop _]
  exact Zq8 l b items items2 n n2 dd dd2 sl sl2 hsz e _ 0 rfl prog w A R _ ⟨hl,hb,he,by simpa using h⟩)⟩
theorem Zie (l b:Addr)(items items2:Array Value)(n n2:Nat)(dd dd2:Option Addr)(sl sl2:Array (Option Value))(hc0:(items.size != items2.size)=true) :
  Meets (Builtin.«list.__ne__» ⟨[.ref l,.ref b],[]⟩)
   (fun A R s=>s.heap.get? l=some { cls:=.type "list",dict:=dd,data:=.seq items n,slots:=sl }/\s.heap.get? b=some { cls:=.type "list",dict:=dd2,data:=.seq items2 n2,slots:=sl2 } /\
    R (.ok (.ret (.bool true))) s):=by
 intro prog w A R s h
 obtain ⟨hp,g,d,tk,os⟩:=s;obtain ⟨hl,hb,h⟩:=h
 have f3:=Wa
 wp_walk using wpAny_loadPart' hl,wpAny_loadPart' hb
 exact h
theorem Zqj (l b:Addr)(items items2:Array Value)(n n2:Nat)(dd dd2:Option Addr)(sl sl2:Array (Option Value))(e:Nat->Bool) :
  Meets (Builtin.«tuple.__ne__» ⟨[.ref l,.ref b],[]⟩)
   (fun A R s=>s.heap.get? l=some { cls:=.type "tuple",dict:=dd,data:=.seq items n,slots:=sl }/\s.heap.get? b=some { cls:=.type "tuple",dict:=dd2,data:=.seq items2 n2,slots:=sl2 } /\
    (∀ j (h1:j < items.size) (h2:j < items2.size),EqAt A.in1 s items[j] items2[j] (e j)) /\
    R (.ok (.ret (.bool (!((O7 (min items.size items2.size)).all e && items.size == items2.size))))) s) :=
 .of_wp fun prog w A R s h=>by
  obtain ⟨hp,g,d,tk,os⟩:=s;obtain ⟨hl,hb,he,h⟩:=h
  have f2:=PySem.AutoSeq1.sub_tuple_tuple
  have hZ:(items.toList.zip items2.toList).length=min items.size items2.size:=by simp
  wp_walk using wpAny_loadPart' hl,wpAny_loadPart' hb,wpAny_forIn_list _ (fun rest b s'=>b.1=none/\s'=⟨hp,g,d,tk,os⟩/\∃ i,rest=(items.toList.zip items2.toList).drop i /\
   R (.ok (.ret (.bool (!(((O7 (min items.size items2.size)).drop i).all e && items.size == items2.size))))) ⟨hp,g,d,tk,os⟩) _
  case turn =>
   rintro ⟨y,x⟩ rest b s' ⟨hb',rfl,i,hz,hR⟩
   have hlt:i < (items.toList.zip items2.toList).length:=by
    rcases Nat.lt_or_ge i (items.toList.zip items2.toList).length with h' | h'
    ·exact h'
    ·rw [Qz h'] at hz;cases hz
   have hm:i < min items.size items2.size:=hZ ▸ hlt
   have h1:i < items.size:=O9 hm (Nat.min_le_left _ _)
   have h2:i < items2.size:=O9 hm (Nat.min_le_right _ _)
   rw [Qf hlt] at hz
   injection hz with hyx hrest
   have hy:y=items[i]:=by have:=congrArg Prod.fst hyx;simpa using this
   have hx:x=items2[i]:=by have:=congrArg Prod.snd hyx;simpa using this
   subst hy hx
   have hd:(O7 (min items.size items2.size)).drop i=i::(O7 (min items.size items2.size)).drop (i+1):=by simp [Qf,hm]
   rw [hd,Ro] at hR
   refine On (he i h1 h2 prog w _ _ ?_)
   cases hy:e i with
   | true =>
    rw [hy] at hR
    wp_walk
    exact ⟨rfl,rfl,i+1,hrest,by simpa using hR⟩
   | false =>
    rw [hy] at hR
    wp_walk
    exact ⟨_,rfl,by simpa using hR⟩
  case fin =>
   rintro ⟨b1,b2⟩ s' ⟨hb',rfl,i,hz,hR⟩
   simp only at hb'
   subst hb'
   have hge:min items.size items2.size<=i:=by
    rcases Nat.lt_or_ge i (items.toList.zip items2.toList).length with h' | h'
    ·rw [Qf h'] at hz;cases hz
    ·exact hZ ▸ h'
   rw [Qz (by simpa using hge)] at hR
   wp_walk
   exact ⟨_,rfl,by simpa [Builtin.Tuple.tupleCompareSizes,bne] using hR⟩
  case h =>
   exact ⟨rfl,rfl,0,rfl,by simpa using h⟩
section
variable {prog:Program}{w:World}{A:Around}{E:Value->Shared->Prop}{s:Shared}
theorem Zcy {l b:Addr}{items items2:Array Value}{e:Nat->Bool}{Q:Value->Shared->Prop}(hl:s.heap.IsList l items)(hb:s.heap.IsList b items2)(hsz:items.size=items2.size)(hu:A.units < cLine)
  (he:∀ j (h1:j < items.size) (h2:j < items2.size),EqAt A.in1 s items[j] items2[j] (e j)) (h:Q (.bool (!(O7 items.size).all e)) s):wpAny (model prog w) A (compareOp .NotEq (.ref l) (.ref b)) Q E s:=by
 obtain ⟨⟨cls,dd,data,sl⟩,ho,hc,n,hd⟩:=id hl
 obtain ⟨⟨cls2,dd2,data2,sl2⟩,ho2,hc2,n2,hd2⟩:=id hb
 simp only at hc hd hc2 hd2
 subst hc hd hc2 hd2
 exact Vc (op:=.NotEq) ⟨_,ho,rfl⟩ ⟨_,ho2,rfl⟩ F.slot_list_ne F.entry_list_ne (F.args_list_ne_2 _ _) (Zhg l b items items2 n n2 dd dd2 sl sl2 hsz e)
  ⟨ho,ho2,he,show Value.bool (!(O7 items.size).all e)≠Value.notImplemented/\Q (.bool (!(O7 items.size).all e)) s from ⟨(fun x=>nomatch x),h⟩⟩ hu
theorem Zon {l b:Addr}{items items2:Array Value}{Q:Value->Shared->Prop}(hl:s.heap.IsList l items)(hb:s.heap.IsList b items2)(hsz:(items.size != items2.size)=true)(hu:A.units < cLine)
  (h:Q (.bool true) s):wpAny (model prog w) A (compareOp .NotEq (.ref l) (.ref b)) Q E s:=by
 obtain ⟨⟨cls,dd,data,sl⟩,ho,hc,n,hd⟩:=id hl
 obtain ⟨⟨cls2,dd2,data2,sl2⟩,ho2,hc2,n2,hd2⟩:=id hb
 simp only at hc hd hc2 hd2
 subst hc hd hc2 hd2
 exact Vc (op:=.NotEq) ⟨_,ho,rfl⟩ ⟨_,ho2,rfl⟩ F.slot_list_ne F.entry_list_ne (F.args_list_ne_2 _ _) (Zie l b items items2 n n2 dd dd2 sl sl2 hsz)
  ⟨ho,ho2,show Value.bool true≠Value.notImplemented/\Q (.bool true) s from ⟨(fun x=>nomatch x),h⟩⟩ hu
theorem Zbk {l b:Addr}{items items2:Array Value}{e:Nat->Bool}{Q:Value->Shared->Prop}(hl:s.heap.IsTuple l items)(hb:s.heap.IsTuple b items2)(hu:A.units < cLine)
  (he:∀ j (h1:j < items.size) (h2:j < items2.size),EqAt A.in1 s items[j] items2[j] (e j)) (h:Q (.bool (!((O7 (min items.size items2.size)).all e && items.size == items2.size))) s):wpAny (model prog w) A (compareOp .NotEq (.ref l) (.ref b)) Q E s:=by
 obtain ⟨⟨cls,dd,data,sl⟩,ho,hc,n,hd⟩:=id hl
 obtain ⟨⟨cls2,dd2,data2,sl2⟩,ho2,hc2,n2,hd2⟩:=id hb
 simp only at hc hd hc2 hd2
 subst hc hd hc2 hd2
 exact Vc (op:=.NotEq) ⟨_,ho,rfl⟩ ⟨_,ho2,rfl⟩ F.slot_tuple_ne F.entry_tuple_ne (F.args_tuple_ne_2 _ _) (Zqj l b items items2 n n2 dd dd2 sl sl2 e)
  ⟨ho,ho2,he,show Value.bool (!((O7 (min items.size items2.size)).all e && items.size == items2.size))≠Value.notImplemented/\Q (.bool (!((O7 (min items.size items2.size)).all e && items.size == items2.size))) s from ⟨(fun x=>nomatch x),h⟩⟩ hu
end
end L2
namespace L2
open PySem PySem.Spec PyProof.Rows
inductive Dt where
 | flat (v:V)
 | tup (ds:List Dt)
 | lst (ds:List Dt)
inductive IsD (K:Om)(H:Hp):Nat->V->Dt->Prop where
 | flat {n:Nat} {v:V} (h:Bw v=true):IsD K H n v (.flat v)
 | tup {n:Nat} {a:Addr} {vs:List V} {ds:List Dt} (q:SqT K H a vs) (l:vs.length=ds.length) (h:∀(j:Nat)(v:V)(d:Dt),vs[j]?=some v->ds[j]?=some d->IsD K H n v d):IsD K H (n+1) (.ref a) (.tup ds)
 | lst {n:Nat} {a:Addr} {vs:List V} {ds:List Dt} (q:SqL K H a vs) (l:vs.length=ds.length) (h:∀(j:Nat)(v:V)(d:Dt),vs[j]?=some v->ds[j]?=some d->IsD K H n v d):IsD K H (n+1) (.ref a) (.lst ds)
theorem IsD.up {K:Om}{H:Hp}{n m:Nat}{v:V}{d:Dt}(h:IsD K H n v d)(hm:n<=m):IsD K H m v d:=by
 induction h generalizing m with
 | flat h=>exact .flat h
 | tup q l _ ih =>
  obtain ⟨k,rfl⟩:∃ k,m=k+1:=⟨m - 1,by omega⟩
  exact .tup q l fun j v d e1 e2=>ih j v d e1 e2 (by omega)
 | lst q l _ ih =>
  obtain ⟨k,rfl⟩:∃ k,m=k+1:=⟨m - 1,by omega⟩
  exact .lst q l fun j v d e1 e2=>ih j v d e1 e2 (by omega)
theorem Zei {v:V}(h:Bw v=true):Dh v v=true:=by
 cases v with
 | non=>rfl
 | bl b=>simp [Dh]
 | int i=>simp [Dh]
 | str x=>simp [Dh]
 | byt _=>cases h
 | flt _=>cases h
 | ref _=>cases h
 | ty _=>cases h
section
variable {X:Cx}{pins:List (Addr×Obj)}{σ:St}{H:Hp}{s:Shared}
theorem Zj2 (I:Inv X pins σ H s):∀{n:Nat}{x y:V}{d:Dt},IsD X.K H n x d->IsD X.K H n y d->∀{A:Around}{u v:Value},RelV x u->RelV y v->A.units+n < cLine->Ov A s u v true:=by
 intro n
 induction n with
 | zero =>
  intro x y d hx hy A u v rx ry hu
  cases hx with
  | flat fx =>
   cases hy with
   | flat fy =>
    have:=Me (A:=A) (s:=s) rx ry fx fy
    rw [Zei fx] at this
    exact this
 | succ n ih =>
  intro x y d hx hy A u v rx ry hu
  cases hx with
  | flat fx =>
   cases hy with
   | flat fy =>
    have:=Me (A:=A) (s:=s) rx ry fx fy
    rw [Zei fx] at this
    exact this
  | @tup _ a vs ds q l h =>
   cases hy with
   | @tup _ b ws _ q' l' h' =>
    cases rx
    cases ry
    by_cases hab:a=b
    ·subst hab
     exact R5 _
    obtain ⟨its,r1,p1,_⟩:=I.tuple q
    obtain ⟨its2,r2,p2,_⟩:=I.tuple q'
    have l1:=r1.length
    have l2:=r2.length
    have:=Ub (A:=A) (e:=fun _=>true) (show s.heap.IsTuple a its.toArray from p1) (show s.heap.IsTuple b its2.toArray from p2) (by omega) fun j h1 h2=>by
     have h1':j < vs.length:=by simp only [Ot] at h1;omega
     have h2':j < ws.length:=by simp only [Ot] at h2;omega
     obtain ⟨u1,g1,k1⟩:=r1.get (Oo h1')
     obtain ⟨u2,g2,k2⟩:=r2.get (Oo h2')
     have e1:its.toArray[j]=u1:=by
      have:its[j]?=some its[j]:=by simp
      rw [this] at g1
      simpa using g1
     have e2:its2.toArray[j]=u2:=by
      have:its2[j]?=some its2[j]:=by simp
      rw [this] at g2
      simpa using g2
     rw [e1,e2]
     have hd:j < ds.length:=by omega
     exact ih (h j _ _ (Oo h1') (Oo hd)) (h' j _ _ (Oo h2') (Oo hd)) k1 k2 (by show A.units+1+n < cLine;omega)
    have e:((O7 (min its.toArray.size its2.toArray.size)).all (fun _=>true) && its.toArray.size == its2.toArray.size)=true:=by
     have:its.toArray.size=its2.toArray.size:=by simp only [Ot];omega
     rw [this]
     simp
    rw [e] at this
    exact T7 hab this
  | @lst _ a vs ds q l h =>
   cases hy with
   | @lst _ b ws _ q' l' h' =>
    cases rx
    cases ry
    by_cases hab:a=b
    ·subst hab
     exact R5 _
    obtain ⟨its,r1,p1,_⟩:=I.list q
    obtain ⟨its2,r2,p2,_⟩:=I.list q'
    have l1:=r1.length
    have l2:=r2.length
    have:=Se.lists (A:=A) (e:=fun _=>true) p1.isList p2.isList (by simp only [Ot];omega) (by omega) fun j h1 h2=>by
     have h1':j < vs.length:=by simp only [Ot] at h1;omega
     have h2':j < ws.length:=by simp only [Ot] at h2;omega
     obtain ⟨u1,g1,k1⟩:=r1.get (Oo h1')
     obtain ⟨u2,g2,k2⟩:=r2.get (Oo h2')
     have e1:its.toArray[j]=u1:=by
      have:its[j]?=some its[j]:=by simp
      rw [this] at g1
      simpa using g1
     have e2:its2.toArray[j]=u2:=by
      have:its2[j]?=some its2[j]:=by simp
      rw [this] at g2
      simpa using g2
     rw [e1,e2]
     have hd:j < ds.length:=by omega
     exact ih (h j _ _ (Oo h1') (Oo hd)) (h' j _ _ (Oo h2') (Oo hd)) k1 k2 (by show A.units+1+n < cLine;omega)
    have e:(O7 its.toArray.size).all (fun _=>true)=true:=by simp
    rw [e] at this
    exact T7 hab this
theorem Lq (I:Inv X pins σ H s){n:Nat}{A:Around}{vs ws:List V}{its its2:List Value}{ds:List Dt}(r1:Vals vs its)(r2:Vals ws its2)(l:vs.length=ds.length)(l':ws.length=ds.length)
  (h:∀(j:Nat)(v:V)(d:Dt),vs[j]?=some v->ds[j]?=some d->IsD X.K H n v d) (h':∀(j:Nat)(v:V)(d:Dt),ws[j]?=some v->ds[j]?=some d->IsD X.K H n v d) (hu:A.units+n < cLine) :
  ∀ j (h1:j < its.toArray.size) (h2:j < its2.toArray.size),Ov A s its.toArray[j] its2.toArray[j] ((fun _=>true) j):=fun j h1 h2=>by
 have l1:=r1.length
 have l2:=r2.length
 have h1':j < vs.length:=by simp only [Ot] at h1;omega
 have h2':j < ws.length:=by simp only [Ot] at h2;omega
 obtain ⟨u1,g1,k1⟩:=r1.get (Oo h1')
 obtain ⟨u2,g2,k2⟩:=r2.get (Oo h2')
 have e1:its.toArray[j]=u1:=by
  have:its[j]?=some its[j]:=by simp
  rw [this] at g1
  simpa using g1
 have e2:its2.toArray[j]=u2:=by
  have:its2[j]?=some its2[j]:=by simp
  rw [this] at g2
  simpa using g2
 rw [e1,e2]
 have hd:j < ds.length:=by omega
 exact Zj2 I (h j _ _ (Oo h1') (Oo hd)) (h' j _ _ (Oo h2') (Oo hd)) k1 k2 hu
end
section
variable {X:Cx}
noncomputable def K2 (K:Om)(b:Bool):R2:=fun x y H Q=>∃(a c:Addr)(n:Nat)(d:Dt),x=.ref a/\y=.ref c/\n<=190/\IsD K H n x d/\IsD K H n y d/\Q (.bl b) H
theorem Zkt (hu:X.A.units+200 < cLine):OpR X (compareOp .Eq) (K2 X.K true):=by
 intro pins s σ H x y v u Q I rx ry h
 obtain ⟨a,c,n,d,rfl,rfl,hn,hx,hy,q⟩:=h
 cases rx
 cases ry
 cases hx with
 | flat fx=>cases fx
 | @tup n _ vs ds qx l hd =>
  cases hy with
  | @tup _ _ ws _ qy l' hd' =>
   obtain ⟨its,r1,p1,_⟩:=I.tuple qx
   obtain ⟨its2,r2,p2,_⟩:=I.tuple qy
   have l1:=r1.length
   have l2:=r2.length
   refine SeqAt.eq_tupleAt (e:=fun _=>true) (show s.heap.IsTuple a its.toArray from p1) (show s.heap.IsTuple c its2.toArray from p2) (by omega) (Lq I r1 r2 l l' hd hd' (by show X.A.units+1+n < cLine;omega)) ?_
   have e:((O7 (min its.toArray.size its2.toArray.size)).all (fun _=>true) && its.toArray.size == its2.toArray.size)=true:=by
    have:its.toArray.size=its2.toArray.size:=by simp only [Ot];omega
    rw [this]
    simp
   rw [e]
   exact ⟨.bl true,H,I,rfl,q⟩
 | @lst n _ vs ds qx l hd =>
  cases hy with
  | @lst _ _ ws _ qy l' hd' =>
   obtain ⟨its,r1,p1,_⟩:=I.list qx
   obtain ⟨its2,r2,p2,_⟩:=I.list qy
   have l1:=r1.length
   have l2:=r2.length
   refine SeqAt.eq_listAt (e:=fun _=>true) p1.isList p2.isList (by simp only [Ot];omega) (by omega) (Lq I r1 r2 l l' hd hd' (by show X.A.units+1+n < cLine;omega)) ?_
   have e:(O7 its.toArray.size).all (fun _=>true)=true:=by simp
   rw [e]
   exact ⟨.bl true,H,I,rfl,q⟩
theorem Zlj (hu:X.A.units+200 < cLine):OpR X (compareOp .NotEq) (K2 X.K false):=by
 intro pins s σ H x y v u Q I rx ry h
 obtain ⟨a,c,n,d,rfl,rfl,hn,hx,hy,q⟩:=h
 cases rx
 cases ry
 cases hx with
 | flat fx=>cases fx
 | @tup n _ vs ds qx l hd =>
  cases hy with
  | @tup _ _ ws _ qy l' hd' =>
   obtain ⟨its,r1,p1,_⟩:=I.tuple qx
   obtain ⟨its2,r2,p2,_⟩:=I.tuple qy
   have l1:=r1.length
   have l2:=r2.length
   refine Zbk (e:=fun _=>true) (show s.heap.IsTuple a its.toArray from p1) (show s.heap.IsTuple c its2.toArray from p2) (by omega) (Lq I r1 r2 l l' hd hd' (by show X.A.units+1+n < cLine;omega)) ?_
   have e:(!((O7 (min its.toArray.size its2.toArray.size)).all (fun _=>true) && its.toArray.size == its2.toArray.size))=false:=by
    have:its.toArray.size=its2.toArray.size:=by simp only [Ot];omega
    rw [this]
    simp
   rw [e]
   exact ⟨.bl false,H,I,rfl,q⟩
 | @lst n _ vs ds qx l hd =>
  cases hy with
  | @lst _ _ ws _ qy l' hd' =>
   obtain ⟨its,r1,p1,_⟩:=I.list qx
   obtain ⟨its2,r2,p2,_⟩:=I.list qy
   have l1:=r1.length
   have l2:=r2.length
   refine Zcy (e:=fun _=>true) p1.isList p2.isList (by simp only [Ot];omega) (by omega) (Lq I r1 r2 l l' hd hd' (by show X.A.units+1+n < cLine;omega)) ?_
   have e:(!(O7 its.toArray.size).all (fun _=>true))=false:=by simp
   rw [e]
   exact ⟨.bl false,H,I,rfl,q⟩
noncomputable def Gu (K:Om):R2:=fun x y H Q=>rEq x y H Q\/K2 K true x y H Q
noncomputable def Jj (K:Om):R2:=fun x y H Q=>rNe x y H Q\/K2 K false x y H Q
theorem Zbz (hu:X.A.units+200 < cLine):OpR X (compareOp .Eq) (Gu X.K):=op_eq.or (Zkt hu)
theorem Zb0 (hu:X.A.units+200 < cLine):OpR X (compareOp .NotEq) (Jj X.K):=op_ne.or (Zlj hu)
theorem s_eq {K:Om}{x y:V}{H:Hp}{Q:VK}(hs:Fo x y=true)(h:Q (.bl (decide (x=y))) H):Gu K x y H Q:=.inl ⟨hs,h⟩
theorem s_ne {K:Om}{x y:V}{H:Hp}{Q:VK}(hs:Fo x y=true)(h:Q (.bl (!decide (x=y))) H):Jj K x y H Q:=.inl ⟨hs,h⟩
theorem Zlf {K:Om}{a c:Addr}{H:Hp}{Q:VK}{n:Nat}{d:Dt}(hn:n<=190)(hx:IsD K H n (.ref a) d)(hy:IsD K H n (.ref c) d)(h:Q (.bl true) H):Gu K (.ref a) (.ref c) H Q:=.inr ⟨a,c,n,d,rfl,rfl,hn,hx,hy,h⟩
theorem Zl3 {K:Om}{a c:Addr}{H:Hp}{Q:VK}{n:Nat}{d:Dt}(hn:n<=190)(hx:IsD K H n (.ref a) d)(hy:IsD K H n (.ref c) d)(h:Q (.bl false) H):Jj K (.ref a) (.ref c) H Q:=.inr ⟨a,c,n,d,rfl,rfl,hn,hx,hy,h⟩
theorem Room.u200 {k:Nat}{A:Around}(r:Room k A):A.units+200 < cLine:=by have:=r.un;omega
end
section
variable {t u:TS}{c d:TT}{te ta tb tc:TE}{g:TG}{gs:Ci}{ts:TA}{D:Cr}{σ:St}{H:Hp}{Q:VK}{QB:Bool->Hp->Prop}{QA':List V->Hp->Prop}
theorem s_seq (h:t { D with nx:=u D } σ H):N8 t u D σ H:=h
theorem s_asg (h:te σ H fun x H1=>g x σ H1 D.nx):Fe te g D σ H:=h
theorem s_ret (h:te σ H D.rt):Lv te D σ H:=h
theorem s_drop (h:te σ H fun _ H1=>D.nx σ H1):Oi te D σ H:=h
theorem s_next (h:D.nx σ H):Mu D σ H:=h
theorem s_ifS (h:c σ H fun b H1=>if b=true then t D σ H1 else u D σ H1):Lr c t u D σ H:=h
theorem s_var {i:Nat}{v:V}(e:σ[i]?=some (some v))(h:Q v H):Em i σ H Q:=⟨v,e,h⟩
theorem s_c {v:V}(h:Q v H):tC v σ H Q:=h
theorem s_op {r:R2}(h:ta σ H fun x H1=>tb σ H1 fun y H2=>r x y H2 Q):Cw r ta tb σ H Q:=h
theorem s_un {r:V->Hp->VK->Prop}(h:ta σ H fun x H1=>r x H1 Q):tUn r ta σ H Q:=h
theorem s_test (h:te σ H fun x H'=>∃ k,x=.bl k/\QB k H'):J3 te σ H QB:=h
theorem s_tB (h:te σ H fun x H'=>∃ k,x=.bl k/\QB k H'):tB te σ H QB:=h
theorem s_ex {b:Bool}{P:Bool->Prop}(h:P b):∃ k,V.bl b=V.bl k/\P k:=⟨b,rfl,h⟩
theorem s_exi {i:Int}{P:Int->Prop}(h:P i):∃ k,V.int i=V.int k/\P k:=⟨i,rfl,h⟩
theorem s_not (h:c σ H fun b H1=>QB (!b) H1):Zan c σ H QB:=h
theorem s_and (h:c σ H fun b H1=>if b=true then d σ H1 QB else QB false H1):Nr c d σ H QB:=h
theorem s_or (h:c σ H fun b H1=>if b=true then QB true H1 else d σ H1 QB):tOr c d σ H QB:=h
theorem s_andV (h:ta σ H fun x H1=>∃ k,x=.bl k/\if k=true then tb σ H1 Q else Q (.bl false) H1):Hx ta tb σ H Q:=h
theorem s_orV (h:ta σ H fun x H1=>∃ k,x=.bl k/\if k=true then Q (.bl true) H1 else tb σ H1 Q):Oj ta tb σ H Q:=h
theorem s_notV (h:ta σ H fun x H1=>∃ k,x=.bl k/\Q (.bl (!k)) H1):Mz ta σ H Q:=h
theorem s_nil (h:QA' [] H):Dv σ H QA':=h
theorem s_cons (h:te σ H fun x H1=>ts σ H1 fun xs H2=>QA' (x::xs) H2):D0 te ts σ H QA':=h
theorem s_vals {xs:List V}(h:QA' xs H):Mh xs σ H QA':=h
theorem s_tup (h:ts σ H fun xs H1=>xs.length<=sizeLine/\∀ p,H1 p=none->Q (.ref p) (upd H1 p (.tup xs))):Lw ts σ H Q:=h
theorem s_lst (h:ts σ H fun xs H1=>xs.length<=sizeLine/\∀ p,H1 p=none->Q (.ref p) (upd H1 p (.lst xs))):Lc ts σ H Q:=h
theorem s_call {sp:Sp}{dvs:List V}{E:XK}(h:ts σ H fun vs H1=>sp (vs++dvs) H1 Q E):Fp sp dvs E ts σ H Q:=h
theorem s_cb {r:List V->Hp->VK->Prop}(h:ts σ H fun vs H1=>r vs H1 Q):Gq r ts σ H Q:=h
theorem s_bm {K:Om}{T:String}{r:V->List V->Hp->VK->Prop}(h:te σ H fun x H1=>Gi K T x H1/\ts σ H1 fun xs H2=>r x xs H2 Q):tBM K T r te ts σ H Q:=h
theorem s_bm0 {K:Om}{T:String}{r:V->List V->Hp->VK->Prop}(h:te σ H fun x H1=>Gi K T x H1/\r x [] H1 Q):Le K T r te σ H Q:=h
theorem s_sl {r:V->Option Int->Option Int->Hp->VK->Prop}{tl th:TO}(h:te σ H fun x H1=>tl σ H1 fun l H2=>th σ H2 fun u H3=>r x l u H3 Q):tSl r te tl th σ H Q:=h
theorem s_po {QO':Option Int->Hp->Prop}(h:te σ H fun x H1=>∃ i,x=.int i/\QO' (some i) H1):Zaz te σ H QO':=h
theorem s_po0 {QO':Option Int->Hp->Prop}(h:QO' none H):Zay σ H QO':=h
theorem s_gname {i:Nat}{v:V}{QS':St->Hp->Prop}(h:QS' (σ.set i (some v)) H):Fm i v σ H QS':=h
theorem Dj {K:Om}{n:Nat}{a:Addr}{xs:List V}{QS':St->Hp->Prop}(q:SqT K H a xs)(l:xs.length=n)(h:gs xs σ H QS'):Ll K n gs (.ref a) σ H QS':=⟨a,xs,rfl,q,l,h⟩
theorem s_gcons {v:V}{r:List V}{QS':St->Hp->Prop}(h:g v σ H fun σ' H'=>gs r σ' H' QS'):Zav g gs (v::r) σ H QS':=⟨v,r,rfl,h⟩
theorem s_gnil {QS':St->Hp->Prop}(h:QS' σ H):Ms [] σ H QS':=⟨rfl,h⟩
theorem s_gsub {to ti:TE}{tt:J8}{v:V}{QS':St->Hp->Prop}(h:to σ H fun o H1=>ti σ H1 fun i H2=>tt o i v H2 fun H3=>QS' σ H3):My to ti tt v σ H QS':=h
theorem s_isN (h:ta σ H fun x H1=>Q (.bl (decide (x=.non))) H1):Mr ta σ H Q:=h
end
section
variable {wi:TI}{σ0:St->St}{g:TG}{tt:TT}{te:TE}{ta:TA}{tb:TS}{D:Cr}{σ:St}{H:Hp}{Q:VK}{R:It->Hp->Prop}{K:Om}
theorem s_comp (h:wi σ H fun J H1=>∀ L,H1 L=none->Gw J g tt te (σ0 σ) H1 L Q):Hv wi σ0 g tt te σ H Q:=h
theorem s_for (h:wi σ H fun J H1=>∃ W:Nat->Nat->St->Hp->Prop,(∃ m,W 0 m σ H1)/\∀ i m σ H,W i m σ H ->
 (J.stop i H/\D.nx σ H)\/(J.go i H/\∃ N:St->Hp->Prop,(∀ σ' H',N σ' H'->∃ m',m' < m/\W (i+1) m' σ' H')/\∀ x H',J.yld i H x H'->g x σ H' fun σ2 H2=>tb { D with nx:=N,ct:=N,bk:=D.nx } σ2 H2)):Oa wi g tb D σ H:=h
theorem s_rng1 (h:ta σ H fun vs H1=>∃ j:Int,vs=[.int j]/\-(2 ^ 62)<=j/\j < 2 ^ 62/\R (Fh 0 j.toNat) H1):Mq ta σ H R:=h
theorem s_rng3 (h:ta σ H fun vs H1=>∃ i j:Int,vs=[.int i,.int j,.int (-1)]/\(-(2 ^ 62)<=i/\i < 2 ^ 62/\-(2 ^ 62)<=j/\j < 2 ^ 62)/\R (Gr i (i - j).toNat) H1):Zb4 ta σ H R:=h
theorem s_exr {i:Int}{P:Int->Prop}(h:P i):∃ j,([V.int i]:List V)=[.int j]/\P j:=⟨i,rfl,h⟩
theorem s_exr3 {i j k:Int}{P:Int->Int->Prop}(hk:k=-1)(h:P i j):∃ a b,([V.int i,V.int j,V.int k]:List V)=[.int a,.int b,.int (-1)]/\P a b:=⟨i,j,by rw [hk],h⟩
theorem s_iany (h:te σ H fun x H1=>(∃ a,x=.ref a/\(∃ xs,SqL K H1 a xs)/\R (F9 K a) H1)\/(∃ a,x=.ref a/\(∃ xs,SqT K H1 a xs)/\R (Ge K a) H1)\/∃ z,x=.str z/\R (Its z) H1):N9 K te σ H R:=h
theorem s_irev (h:ta σ H fun vs H1=>∃ a xs,vs=[.ref a]/\SqL K H1 a xs/\R (Gv K a xs.length) H1):L5 K ta σ H R:=h
theorem s_ienum (h:ta σ H fun vs H1=>∃ a xs,vs=[.ref a]/\SqL K H1 a xs/\R (Hd K a xs.length) H1):Mo K ta σ H R:=h
theorem s_listen (h:ta σ H fun vs H1=>∃ a xs,vs=[.ref a]/\SqT K H1 a xs/\∀(S:Addr)(ys:List V)(H2:Hp),H1 S=none->Same H1 H2->ys.length=xs.length->Pairs H2 xs ys->H2 S=some (.lst ys)->Q (.ref S) H2):Zag K ta σ H Q:=h
theorem s_yes {QB:Bool->Hp->Prop}(h:QB true H):Zbh σ H QB:=h
theorem s_turn {L:Addr}{Nx:List V->St->Hp->Prop}{x:V}(h:g x σ H fun σ2 H3=>tt σ2 H3 fun b H4=>if b=true then te σ2 H4 fun y H5=>∃ ys,H5 L=some (.lst ys)/\ys.length < sizeLine/\(∃ zs,upd H5 L (.lst (ys++[y])) L=some (.lst zs)/\Nx zs σ2 (upd H5 L (.lst (ys++[y])))) else ∃ zs,H4 L=some (.lst zs)/\Nx zs σ2 H4):Hn g tt te L Nx x σ H:=h
theorem Dc {l:Addr}{xs:List V}{y:V}(e:H l=some (.lst xs))(z:xs.length < sizeLine)(h:Q .non (upd H l (.lst (xs++[y])))):Md (.ref l) [y] H Q:=⟨l,xs,y,rfl,rfl,e,z,h⟩
theorem Lu {l:Addr}{xs:List V}{y:V}(e:H l=some (.lst (xs++[y])))(h:Q y (upd H l (.lst xs))):rPop (.ref l) [] H Q:=⟨l,xs++[y],y,rfl,rfl,e,by simp,by simpa using h⟩
theorem Zqz {sep:Str}{p:Addr}{ys:List Str}(hq:SqL K H p (ys.map V.str))(hz:(ys.map (·.length)).sum+ys.length * sep.length<=16777216)(h:Q (.str (Qu sep ys)) H):N0 K (.str sep) [.ref p] H Q:=⟨sep,p,ys,rfl,rfl,hq,hz,h⟩
theorem Zkp {p:Addr}{xs:List V}{k:Int}{j:Nat}{v:V}{QH:Hp->Prop}(e:H p=some (.lst xs))(hj:Ds xs.length k=some j)(h:QH (upd H p (.lst (xs.set j v)))):Zga (.ref p) (.int k) v H QH:=⟨p,xs,k,j,rfl,rfl,e,hj,h⟩
end
section
variable {X:Cx}(K:Om)
theorem Bf (hK:X.K=K:=by rfl):OpR X (binaryOp .Add) (Fk K):=by subst hK;exact op_addA
theorem Bl (hu:X.A.units+200 < cLine)(hK:X.K=K:=by rfl):OpR X (compareOp .Eq) (Gu K):=by subst hK;exact Zbz hu
theorem Ny (hu:X.A.units+200 < cLine)(hK:X.K=K:=by rfl):OpR X (compareOp .NotEq) (Jj K):=by subst hK;exact Zb0 hu
theorem Fs (hK:X.K=K:=by rfl):OpR X (compareOp .In) (Ji K false):=by subst hK;exact Zji
theorem Za2 (hK:X.K=K:=by rfl):OpR X (compareOp .NotIn) (Ji K true):=by subst hK;exact Zog
theorem k_ix (hK:X.K=K:=by rfl):IxR X (Fg K):=by subst hK;exact Zn8
theorem Io (hK:X.K=K:=by rfl):SlR X (Kx K):=by subst hK;exact Zpq
theorem Bt (hK:X.K=K:=by rfl):Cf X (.builtin "len") (Hc K):=by subst hK;exact Zpa
theorem Zot (hK:X.K=K:=by rfl):E4 X "str.join" (N0 K):=by subst hK;exact Zhu
inductive El (K:Om)(H:Hp):V->Value->Prop where
 | ty {x:V} {t:Value} (h:Cq K H x t):El K H x t
 | tup {a:Addr} {xs:List V} (q:SqT K H a xs):El K H (.ref a) (.type "tuple")
 | lst {a:Addr} {xs:List V} (q:SqL K H a xs):El K H (.ref a) (.type "list")
noncomputable def F8 (K:Om)(T:String):List V->Hp->VK->Prop:=fun xs H Q=>∃ x t b,xs=[x,.ty T]/\El K H x t/\Pg K t (.type T)=some b/\Q (.bl b) H
theorem Zk1 {T:String}:Cf X (.builtin "isinstance") (F8 X.K T):=by
 intro pins s σ H xs us Q I r h
 obtain ⟨x,t,b,rfl,ty,e,q⟩:=h
 obtain ⟨u,v,rfl,ru,rv⟩:=r.two
 obtain rfl:v=Value.type T:=rv
 cases ty with
 | ty ty=>exact Zc5 I ru ty e fun tk=>⟨.bl b,H,I.tok tk,rfl,q⟩
 | tup hq =>
  cases ru
  obtain ⟨its,_,p,_⟩:=I.tuple hq
  obtain ⟨o,h1,h2,_⟩:=p
  exact Px Vm I.kIn ⟨o,h1,h2⟩ e (fun z=>nomatch z) fun tk=>⟨.bl b,H,I.tok tk,rfl,q⟩
 | lst hq =>
  cases ru
  obtain ⟨its,_,p,_⟩:=I.list hq
  obtain ⟨o,n,h1,h2,_⟩:=p
  exact Px T9 I.kIn ⟨o,h1,h2⟩ e (fun z=>nomatch z) fun tk=>⟨.bl b,H,I.tok tk,rfl,q⟩
theorem Ef (T:String)(hK:X.K=K:=by rfl):Cf X (.builtin "isinstance") (F8 K T):=by subst hK;exact Zk1
noncomputable def rAll (K:Om):List V->Hp->VK->Prop:=fun xs H Q=>∃(p:Addr)(bs:List Bool),xs=[.ref p]/\SqL K H p (bs.map V.bl)/\Q (.bl (bs.all id)) H
theorem N3 (hc:X.calm=true)(hK:X.K=K:=by rfl):Cf X (.builtin "all") (rAll K):=by subst hK;exact Zmb hc
noncomputable def Zem (K:Om):List V->Hp->VK->Prop:=fun xs H Q=>∃ p ys,xs=[.ref p]/\((SqL K H p ys/\∀ l,H l=none->Q (.ref l) (upd H l (.tup ys)))\/(SqT K H p ys/\Q (.ref p) H))
theorem Zf6 (hK:X.K=K:=by rfl):Cf X (.type "tuple") (Zem K):=by subst hK;exact Zpo
noncomputable def rInt:List V->Hp->VK->Prop:=fun xs H Q=>(∃ i,xs=[.int i]/\Q (.int i) H)\/∃ k,xs=[.bl k]/\Q (.int (if k then 1 else 0)) H
theorem Zdw:Cf X (.type "int") rInt:=Zjl
theorem s_intb {k:Bool}{H:Hp}{Q:VK}(h:Q (.int (if k=true then 1 else 0)) H):rInt [.bl k] H Q:=.inr ⟨k,rfl,h⟩
theorem Dd {tg l:Expr}{tl:TE}(hl:QE X l tl)(hK:X.K=K:=by rfl):QI X tg l (N9 K tl):=by subst hK;exact Zkj hl
theorem La {tg a:Expr}{ta:TA}{p pos:Pos}(hg:Gl X "reversed")(hm:X.mg "reversed" = none)(ha:QA X [a] ta)(hK:X.K=K:=by rfl)(hs:starEach [a] X.env=[(false,eval a X.env)]:=by rfl):QI X tg (.Call (.Name "reversed" p) [a] [] pos) (L5 K ta):=by subst hK;exact Zi1 hg hm ha hs
theorem Zlm {elts:List Expr}{kt:Nat}{pt:Pos}{e:Expr}{ta:TA}{p pos:Pos}(hg:Gl X "enumerate")(hm:X.mg "enumerate" = none)(ha:QA X [e] ta)(hK:X.K=K:=by rfl)(hs:starEach [e] X.env=[(false,eval e X.env)]:=by rfl):QI X (.Tuple elts kt pt) (.Call (.Name "enumerate" p) [e] [] pos) (Mo K ta):=by subst hK;exact Zqm hg hm ha hs
theorem Zla {e:Expr}{ta:TA}{p p2 pos pos2:Pos}(hg:Gl X "list")(hm:X.mg "list" = none)(hg2:Gl X "enumerate")(hm2:X.mg "enumerate" = none)(ha:QA X [e] ta)(hK:X.K=K:=by rfl)(hc:X.calm=true:=by rfl)
  (hs:starEach [.Call (.Name "enumerate" p2) [e] [] pos2] X.env=[(false,eval (.Call (.Name "enumerate" p2) [e] [] pos2) X.env)]:=by rfl) (hs2:starEach [e] X.env=[(false,eval e X.env)]:=by rfl) :
  QE X (.Call (.Name "list" p) [.Call (.Name "enumerate" p2) [e] [] pos2] [] pos) (Zag K ta):=by subst hK;exact Zk8 hg hm hg2 hm2 ha hc hs hs2
theorem De {es:List Expr}{k:Nat}{pos:Pos}{t:Ci}{n:Nat}(hc:X.calm=true)(h:Gf X es t)(hK:X.K=K:=by rfl)(hn:(assignEach es X.env).length=n:=by rfl)(hst:(assignEach es X.env).findIdx? (·.1)=none:=by rfl):QG X (.Tuple es k pos) (Ll K n t):=by subst hK;exact Zmx hc h hn hst
noncomputable def Zgv (K:Om)(ta:TE):TT:=fun σ H Q=>ta σ H fun x H'=>∃ k,Ic K x H' k/\Q k H'
theorem Zd3 {a:Expr}{ta:TE}(ha:QE X a ta)(he:∀ whole,isTrue a X.env whole=(do let v <- whole;standAt a.pos;holding [v] (truthy v)))(hK:X.K=K:=by rfl):QT X a (Zgv K ta):=by subst hK;exact ⟨Zpc ha.run he⟩
theorem Cu {o e:Expr}{es:List Expr}{to:TE}{t:TA}{name:Str}{apos cpos:Pos}{T id:String}{r:V->List V->Hp->VK->Prop}(pa:PlainAttrs T)(slot:Slot T name id)(hty:typeOf (.builtin id)=pure (.type "method_descriptor"))(hm:E4 X id r)(ho:QE X o to)(ha:QA X (e::es) t)(hK:X.K=K:=by rfl)
  (hbase:attributeBase o name X.env (eval o X.env)=eval o X.env:=by rfl) (hfew:((backTo cpos (starEach (e::es) X.env)).all (fun x=>!x.1) && (backToKw cpos (keywordEach [] X.env)).all (fun x=>x.1.isSome)
   && decide ((e::es).length+([]:List Keyword).length+(if ([]:List Keyword).isEmpty then 0 else 1) < 30))=true:=by rfl) (hline:(apos.endLine == cpos.line)=true:=by rfl) (hs:starEach (e::es) X.env=(false,eval e X.env)::starEach es X.env:=by rfl) (hplain:(backTo cpos (starEach es X.env)).any (·.1)=false:=by rfl):QE X (.Call (.Attribute o name apos) (e::es) [] cpos) (tBM K T r to t):=by subst hK;exact Zrk pa slot hty hm ho ha hbase hfew hline hs hplain
theorem Lx {o:Expr}{to:TE}{name:Str}{apos cpos:Pos}{T id:String}{r:V->List V->Hp->VK->Prop}(pa:PlainAttrs T)(slot:Slot T name id)(hty:typeOf (.builtin id)=pure (.type "method_descriptor"))(hm:E4 X id r)(ho:QE X o to)(hK:X.K=K:=by rfl)(hbase:attributeBase o name X.env (eval o X.env)=eval o X.env:=by rfl)(hline:(apos.endLine == cpos.line)=true:=by rfl):QE X (.Call (.Attribute o name apos) [] [] cpos) (Le K T r to):=by subst hK;exact Zke pa slot hty hm ho hbase hline
end
section
variable {K:Om}{σ:St}{H:Hp}{Q:VK}{QB:Bool->Hp->Prop}{ta:TE}
theorem s_truth (h:ta σ H fun x H'=>∃ k,Ic K x H' k/\QB k H'):Zgv K ta σ H QB:=h
theorem Zgn {a:Addr}{xs:List V}{P:Bool->Prop}(q:SqL K H a xs)(h:P (!xs.isEmpty)):∃ k,Ic K (.ref a) H k/\P k:=⟨_,.inl ⟨xs,q,rfl⟩,h⟩
theorem Zn2 {T:String}{x:V}{t:Value}{b:Bool}(ty:Cq K H x t)(e:Pg K t (.type T)=some b)(h:Q (.bl b) H):F8 K T [x,.ty T] H Q:=⟨x,t,b,rfl,.ty ty,e,h⟩
theorem Zfx {T:String}{a:Addr}{xs:List V}{b:Bool}(q:SqT K H a xs)(e:Pg K (.type "tuple") (.type T)=some b)(h:Q (.bl b) H):F8 K T [.ref a,.ty T] H Q:=⟨_,_,b,rfl,.tup q,e,h⟩
theorem Zk7 {T:String}{a:Addr}{xs:List V}{b:Bool}(q:SqL K H a xs)(e:Pg K (.type "list") (.type T)=some b)(h:Q (.bl b) H):F8 K T [.ref a,.ty T] H Q:=⟨_,_,b,rfl,.lst q,e,h⟩
theorem Zdm {p:Addr}{ys:List V}(q:SqL K H p ys)(h:∀ l,H l=none->Q (.ref l) (upd H l (.tup ys))):Zem K [.ref p] H Q:=⟨p,ys,rfl,.inl ⟨q,h⟩⟩
theorem B2 {a:Addr}{xs:List V}{P:Prop}(q:SqL K H a xs)(h:P):Gi K "list" (.ref a) H/\P:=⟨.inl ⟨rfl,_,q⟩,h⟩
end
theorem s_nt {A B:Prop}(h:B):if (!true)=true then A else B:=by simpa using h
theorem s_nf {A B:Prop}(h:A):if (!false)=true then A else B:=by simpa using h
end L2
namespace L2
open PySem
inductive Tr where
 | mk (wd:Str) (note:Dt) (ps:List Tr)
noncomputable def Tr.wd:Tr->Str
 | .mk w _ _=>w
noncomputable def Tr.ps:Tr->List Tr
 | .mk _ _ ps=>ps
mutual
noncomputable def Tr.size:Tr->Nat
 | .mk _ _ ps=>1+Aj ps
noncomputable def Aj:List Tr->Nat
 | []=>0
 | t::r=>t.size+Aj r
end
theorem Tr.size_eq (t:Tr):t.size=1+Aj t.ps:=by
 cases t with
 | mk w n ps=>rw [Tr.size];rfl
theorem F6 (a b:List Tr):Aj (a++b)=Aj a+Aj b:=by
 induction a with
 | nil=>simp [Aj]
 | cons t r ih=>rw [Ss,Aj,Aj,ih];omega
theorem J2 {ts:List Tr}{j:Nat}{t:Tr}(h:ts[j]?=some t):t.size<=Aj ts:=by
 induction ts generalizing j with
 | nil=>simp at h
 | cons x r ih =>
  rw [Aj]
  cases j with
  | zero=>simp at h;subst h;omega
  | succ j=>have:=ih (j:=j) (by simpa using h);omega
theorem Nd (ts:List Tr):ts.length<=Aj ts:=by
 induction ts with
 | nil=>simp [Aj]
 | cons t r ih =>
  have:=t.size_eq
  rw [Aj,O5]
  omega
noncomputable def SameT (H H':Hp):Prop:=∀ b,(∀ xs,H b=some (.tup xs)->H' b=some (.tup xs))/\∀ o u,H b=some (.frz o u)->H' b=some (.frz o u)
theorem Same.t {H H':Hp}(e:Same H H'):SameT H H':=fun b=>⟨fun xs h=>e b _ h,fun o u h=>e b _ h⟩
theorem SameT.refl (H:Hp):SameT H H:=fun _=>⟨fun _ h=>h,fun _ _ h=>h⟩
theorem SameT.trans {H H1 H2:Hp}(a:SameT H H1)(b:SameT H1 H2):SameT H H2:=fun c=>⟨fun xs h=>(b c).1 xs ((a c).1 xs h),fun o u h=>(b c).2 o u ((a c).2 o u h)⟩
theorem SameT.set {H:Hp}{S:Addr}{zs:List V}{o:HO}(h:H S=some (.lst zs)):SameT H (upd H S o):=fun b =>
 ⟨fun xs e=>by rw [Ai (Fz e h (by intro z;cases z))];exact e,fun o' u e=>by rw [Ai (Fz e h (by intro z;cases z))];exact e⟩
theorem SameT.new {H:Hp}{S:Addr}{o:HO}(h:H S=none):SameT H (upd H S o):=(Same.upd h).t
theorem SameT.tup {K:Om}{H H':Hp}{a:Addr}{xs:List V}(e:SameT H H')(h:SqT K H a xs):SqT K H' a xs:=by
 rcases h with (h | ⟨o,h⟩) | h
 ·exact .inl (.inl ((e a).1 _ h))
 ·exact .inl (.inr ⟨o,(e a).2 _ _ h⟩)
 ·exact .inr h
noncomputable def IsN (K:Om)(H:Hp)(v:V)(n:Dt):Prop:=(Bw v=true/\n=.flat v)\/∃(a:Addr)(vs:List V),v=.ref a/\SqT K H a vs/\vs.all Bw=true/\n=.tup (vs.map .flat)
theorem IsN.same {K:Om}{H H':Hp}{v:V}{n:Dt}(h:IsN K H v n)(e:SameT H H'):IsN K H' v n:=by
 rcases h with h | ⟨a,vs,h1,h2,h3⟩
 ·exact .inl h
 ·exact .inr ⟨a,vs,h1,e.tup h2,h3⟩
theorem IsN.d {K:Om}{H:Hp}{v:V}{n:Dt}(h:IsN K H v n):IsD K H 1 v n:=by
 rcases h with ⟨h,rfl⟩ | ⟨a,vs,rfl,h2,h3,rfl⟩
 ·exact .flat h
 ·refine .tup h2 (by simp) fun j v d e1 e2=>?_
  rw [Rc,e1] at e2
  cases e2
  exact .flat (Pl.mp h3 v (Pn e1))
inductive TrAt (K:Om)(H:Hp):V->Tr->Prop where
 | mk {a p:Addr} {wd:Str} {nv:V} {n:Dt} {vs:List V} {ts:List Tr} (q:SqT K H a [.str wd,nv,.ref p]) (hn:IsN K H nv n) (qp:SqT K H p vs) (l:vs.length=ts.length)
   (h:∀(j:Nat)(v:V)(t:Tr),vs[j]?=some v->ts[j]?=some t->TrAt K H v t):TrAt K H (.ref a) (.mk wd n ts)
theorem TrAt.sameT {K:Om}{H H':Hp}{v:V}{t:Tr}(h:TrAt K H v t)(e:SameT H H'):TrAt K H' v t:=by
 induction h with
 | mk q hn qp l _ ih=>exact .mk (e.tup q) (hn.same e) (e.tup qp) l ih
theorem TrAt.same {K:Om}{H H':Hp}{v:V}{t:Tr}(h:TrAt K H v t)(e:Same H H'):TrAt K H' v t:=h.sameT e.t
noncomputable def Al {α:Type}(R:V->α->Prop)(vs:List V)(xs:List α):Prop:=vs.length=xs.length/\∀(j:Nat)(v:V)(x:α),vs[j]?=some v->xs[j]?=some x->R v x
section
variable {α:Type}{R R':V->α->Prop}{vs:List V}{xs:List α}{v:V}{x:α}
theorem Al.mono (h:Al R vs xs)(f:∀ v x,R v x->R' v x):Al R' vs xs:=⟨h.1,fun j v x a b=>f v x (h.2 j v x a b)⟩
theorem Al.nil:Al R [] []:=⟨rfl,fun j v x a _=>by simp at a⟩
theorem Al.snoc (h:Al R vs xs)(a:R v x):Al R (vs++[v]) (xs++[x]):=by
 refine ⟨by simp [h.1],fun j y z e1 e2=>?_⟩
 by_cases hj:j < vs.length
 ·rw [Qx hj] at e1
  rw [Qx (by have:=h.1;omega)] at e2
  exact h.2 j y z e1 e2
 ·have hl:=(O3.mp e1).1
  rw [O2,Qo] at hl
  have hj':j=vs.length:=by omega
  subst hj'
  rw [Qw (Os _),Q7] at e1
  rw [h.1,Qw (Os _),Q7] at e2
  have e1:v=y:=by simpa using e1
  have e2:x=z:=by simpa using e2
  rw [<- e1,<- e2]
  exact a
theorem Al.split (h:Al R (vs++[v]) xs):∃ ys x,xs=ys++[x]/\Al R vs ys/\R v x:=by
 have hl:xs.length=vs.length+1:=by have:=h.1;simp at this;omega
 have hne:xs≠[]:=fun z=>by rw [z] at hl;simp at hl
 refine ⟨xs.dropLast,xs.getLast hne,(Wb hne).symm,⟨by simp [hl],fun j y z e1 e2=>?_⟩,?_⟩
 ·have hj:=(O3.mp e1).1
  refine h.2 j y z (by rw [Qx hj];exact e1) ?_
  rw [List.getElem?_dropLast] at e2
  split at e2
  ·exact e2
  ·cases e2
 ·refine h.2 vs.length v _ (by simp) ?_
  rw [List.getLast_eq_getElem,Oo (by omega)]
  congr 1
  simp [hl]
theorem Al.last (h:Al R vs xs)(hn:vs≠[]):∃ vs' v xs' x,vs=vs'++[v]/\xs=xs'++[x]/\Al R vs' xs'/\R v x:=by
 have e:=(Wb hn).symm
 rw [e] at h
 obtain ⟨ys,x,e2,a,r⟩:=h.split
 exact ⟨_,_,ys,x,e,e2,a,r⟩
theorem Al.get {j:Nat}(h:Al R vs xs)(e:vs[j]?=some v):∃ x,xs[j]?=some x/\R v x:=by
 have hj:=(O3.mp e).1
 have hx:j < xs.length:=by have:=h.1;omega
 exact ⟨xs[j],Oo hx,h.2 j v _ e (Oo hx)⟩
theorem Al.get' {j:Nat}(h:Al R vs xs)(e:xs[j]?=some x):∃ v,vs[j]?=some v/\R v x:=by
 have hj:=(O3.mp e).1
 have hv:j < vs.length:=by have:=h.1;omega
 exact ⟨vs[j],Oo hv,h.2 j _ x (Oo hv) e⟩
end
noncomputable def gapT:Tr:=.mk "gap" (.flat .non) []
theorem TrAt.gap {K:Om}{H:Hp}{a p:Addr}(q:SqT K H a [.str "gap",.non,.ref p])(qp:SqT K H p []):TrAt K H (.ref a) gapT:=.mk q (.inl ⟨rfl,rfl⟩) qp rfl fun j v t e _=>by simp at e
theorem Iq:gapT.size=1:=by unfold gapT;rw [Tr.size,Aj]
mutual
noncomputable def walk:List Nat->Tr->List (List Nat×Tr)
 | pl,.mk w n ps=>(pl,.mk w n ps)::Bg pl 0 ps
noncomputable def Bg:List Nat->Nat->List Tr->List (List Nat×Tr)
 | _,_,[]=>[]
 | pl,i,t::r=>walk (pl++[i]) t++Bg pl (i+1) r
end
theorem M2 (pl:List Nat)(t:Tr):walk pl t=(pl,t)::Bg pl 0 t.ps:=by
 cases t with
 | mk w n ps=>rw [walk];rfl
mutual
theorem Er:∀(pl:List Nat)(t:Tr),(walk pl t).length=t.size
 | pl,.mk w n ps=>by rw [walk,Tr.size,O5,Zeg pl 0 ps];omega
theorem Zeg:∀(pl:List Nat)(i:Nat)(ts:List Tr),(Bg pl i ts).length=Aj ts
 | _,_,[]=>by rw [Bg,Aj];rfl
 | pl,i,t::r=>by rw [Bg,Aj,O2,Er,Zeg]
end
mutual
theorem Mv:∀(pl:List Nat)(t:Tr)(x:List Nat×Tr),x∈walk pl t->x.1.length+1<=pl.length+t.size
 | pl,.mk w n ps,x,h=>by
  rw [walk] at h
  rw [Tr.size]
  rcases Oy.mp h with h | h
  ·subst h;show pl.length+1<=_;omega
  ·have:=Zew pl 0 ps x h;omega
theorem Zew:∀(pl:List Nat)(i:Nat)(ts:List Tr)(x:List Nat×Tr),x∈Bg pl i ts->x.1.length<=pl.length+Aj ts
 | _,_,[],x,h=>by rw [Bg] at h;cases h
 | pl,i,t::r,x,h=>by
  rw [Bg] at h
  rw [Aj]
  rcases P9.mp h with h | h
  ·have:=Mv (pl++[i]) t x h
   rw [O2,Qo] at this
   omega
  ·have:=Zew pl (i+1) r x h;omega
end
noncomputable def Aw (pl:List Nat):List V:=pl.map fun i=>V.int ((i:Nat):Int)
noncomputable def RowAt (K:Om)(H:Hp)(v:V)(x:List Nat×Tr):Prop:=∃(a p:Addr)(u:V),v=.ref a/\SqT K H a [.ref p,u]/\SqT K H p (Aw x.1)/\TrAt K H u x.2
theorem RowAt.same {K:Om}{H H':Hp}(e:SameT H H')(v:V)(x:List Nat×Tr)(h:RowAt K H v x):RowAt K H' v x:=by
 obtain ⟨a,p,u,r,q,qp,t⟩:=h
 exact ⟨a,p,u,r,e.tup q,e.tup qp,t.sameT e⟩
noncomputable def Bb:List Nat->Nat->List Tr->List (List Nat×Tr)
 | _,_,[]=>[]
 | pl,i,t::r=>(pl++[i],t)::Bb pl (i+1) r
theorem L7 (pl:List Nat):∀(i:Nat)(ts:List Tr),(Bb pl i ts).length=ts.length
 | _,[]=>rfl
 | i,t::r=>by rw [Bb,O5,O5,L7 pl (i+1) r]
theorem Zaj (pl:List Nat):∀(i j:Nat)(ts:List Tr),(Bb pl i ts)[j]?=(ts[j]?).map fun t=>(pl++[i+j],t)
 | _,_,[]=>by simp [Bb]
 | i,0,t::r=>by simp [Bb]
 | i,j+1,t::r=>by
  rw [Bb,Rt,Rt,Zaj pl (i+1) j r]
  congr 1
  funext t
  rw [show i+1+j=i+(j+1) by omega]
theorem Zfc (pl:List Nat):∀(i:Nat)(ts:List Tr),(Bb pl i ts).flatMap (fun x=>walk x.1 x.2)=Bg pl i ts
 | _,[]=>by simp [Bb,Bg]
 | i,t::r=>by rw [Bb,Vu,Bg,Zfc pl (i+1) r]
noncomputable def Dy (st:List (List Nat×Tr)):List (List Nat×Tr):=st.reverse.flatMap fun x=>walk x.1 x.2
theorem Ze3:Dy []=[]:=rfl
theorem J4 (st:List (List Nat×Tr))(x:List Nat×Tr):Dy (st++[x])=x::Dy (st++(Bb x.1 0 x.2.ps).reverse):=by
 unfold Dy
 rw [Sk,Sk,List.reverse_reverse,Ry,Ry,Zfc]
 rw [Vd,Tv,M2]
 rfl
noncomputable def load (st:List (List Nat×Tr)):Nat:=(Dy st).length
theorem Zgq (st:List (List Nat×Tr))(x:List Nat×Tr):load (st++(Bb x.1 0 x.2.ps).reverse) < load (st++[x]):=by
 unfold load
 rw [J4]
 exact R0 _
theorem Zb7 (st:List (List Nat×Tr)):st.length<=load st:=by
 unfold load Dy
 have:∀ l:List (List Nat×Tr),l.length<=(l.flatMap fun x=>walk x.1 x.2).length:=fun l=>by
  induction l with
  | nil=>simp
  | cons x r ih =>
   rw [Vu,O2,Er,O5]
   have:=x.2.size_eq
   omega
 have:=this st.reverse
 rw [T4] at this
 exact this
theorem Zde {α:Type}{l:List α}{n i:Nat}{x:α}(hl:l.length=n)(hi:i < n)(hx:l[n - 1 - i]?=some x):(l.drop (n - (i+1))).reverse=(l.drop (n - i)).reverse++[x]:=by
 have hk:n - 1 - i < l.length:=by omega
 have e:l.drop (n - (i+1))=x::l.drop (n - i):=by
  have h1:n - (i+1)=n - 1 - i:=by omega
  rw [h1,Qf hk,show n - 1 - i+1=n - i by omega]
  rw [Oo hk] at hx
  rw [Ox hx]
 rw [e,List.reverse_cons]
mutual
theorem Lf:∀(pl:List Nat)(t:Tr),walk pl t=(walk [] t).map fun x=>(pl++x.1,x.2)
 | pl,.mk w n ps=>by
  have e:=Zdc pl [] 0 ps
  rw [Qa] at e
  rw [walk,walk,Ph,e]
  simp
theorem Zdc:∀(pl q:List Nat)(i:Nat)(ts:List Tr),Bg (pl++q) i ts=(Bg q i ts).map fun x=>(pl++x.1,x.2)
 | _,_,_,[]=>by rw [Bg,Bg];rfl
 | pl,q,i,t::r=>by
  rw [Bg,Bg,Po,<- Zdc pl q (i+1) r,Lf (pl++q++[i]) t,Lf (q++[i]) t]
  simp
end
theorem Al.append {α:Type}{R:V->α->Prop}{vs ws:List V}{xs ys:List α}(h:Al R vs xs)(h':Al R ws ys):Al R (vs++ws) (xs++ys):=by
 refine ⟨by simp [h.1,h'.1],fun j v x e1 e2=>?_⟩
 by_cases hj:j < vs.length
 ·rw [Qx hj] at e1
  rw [Qx (by have:=h.1;omega)] at e2
  exact h.2 j v x e1 e2
 ·rw [Qw (by omega)] at e1
  rw [Qw (by have:=h.1;omega),<- h.1] at e2
  exact h'.2 _ v x e1 e2
end L2
namespace L2
open PySem PySem.Spec PyProof.Rows
section
open PySem.AutoSeq1
end
section
variable {X:Cx}
noncomputable def Fb (kvs:List (Str×V))(k:Str):Option V:=(kvs.find? fun kv=>kv.1=k).map (·.2)
inductive VPs:List (Str×V)->List (Str×Value)->Prop
 | nil:VPs [] []
 | cons {k:Str} {x:V} {v:Value} {r:List (Str×V)} {q:List (Str×Value)}:RelV x v->VPs r q->VPs ((k,x)::r) ((k,v)::q)
theorem VPs.look {kvs:List (Str×V)}{vs:List (Str×Value)}(h:VPs kvs vs)(k:Str):(valueAt vs k).isSome=(Fb kvs k).isSome/\∀ x,Fb kvs k=some x->∃ v,valueAt vs k=some v/\RelV x v:=by
 induction h with
 | nil=>exact ⟨rfl,fun x e=>nomatch e⟩
 | @cons k' x v r q rx _ ih =>
  unfold valueAt Fb at ih ⊢
  by_cases z:k'=k
  ·simp only [Q6,z,decide_true,R6,Option.isSome_some]
   exact ⟨trivial,fun y e=>⟨v,rfl,by cases e;exact rx⟩⟩
  ·simp only [Q6,z,decide_false]
   exact ih
noncomputable def DkK (P:Program)(w:World)(K:Om)(a:Addr)(kvs:List (Str×V)):Prop :=
 ∃(o:Obj)(vs:List (Str×Value)),K.lookup a=some o/\o.IsDictOf (strKind P w) vs/\(a == sysModules)=false/\VPs kvs vs
noncomputable def rInD (P:Program)(w:World)(K:Om):R2:=fun x y H Q=>∃ s a kvs,x=.str s/\y=.ref a/\DkK P w K a kvs/\Q (.bl (Fb kvs s).isSome) H
theorem Zmf:OpR X (compareOp .In) (rInD X.prog X.w X.K):=by
 intro pins s σ H x y v u Q I rx ry h
 obtain ⟨z,a,kvs,rfl,rfl,⟨o,vs,hk,hd,lo,vp⟩,q⟩:=h
 obtain ⟨t,rfl⟩:=rx
 cases ry
 have D:s.heap.DictOf (strKind X.prog X.w) a vs:=Heap.dictOf_iff.mpr ⟨o,I.kIn a o hk,hd⟩
 exact wpAny_in_of (knd:=strKind X.prog X.w) (k:=z) (strKind_is _ _ _ _) lo D.mapOf (A9 (I.tok _) q (vp.look z).1.symm)
noncomputable def rIxD (P:Program)(w:World)(K:Om):R2:=fun x y H Q=>∃ a kvs s v,x=.ref a/\y=.str s/\DkK P w K a kvs/\Fb kvs s=some v/\Q v H
theorem ix_D:IxR X (rIxD X.prog X.w X.K):=by
 intro value slice pins s σ H x y v u Q I rx ry h hs
 obtain ⟨a,kvs,z,v',rfl,rfl,⟨o,vs,hk,hd,lo,vp⟩,hv,q⟩:=h
 cases rx
 obtain ⟨t,rfl⟩:=ry
 have D:s.heap.DictOf (strKind X.prog X.w) a vs:=Heap.dictOf_iff.mpr ⟨o,I.kIn a o hk,hd⟩
 obtain ⟨u',e,r⟩:=(vp.look z).2 _ hv
 exact tail_any D.typeIs slot_dict_getitem.lookup (wpAny_getItem_of (knd:=strKind X.prog X.w) (k:=z) (strKind_is _ _ _ _) D.mapOf e ⟨v',H,I.tok _,r,q⟩) hs
noncomputable def rIsB:R2:=fun x y H Q=>∃ b,y=.bl b/\Q (.bl (decide (x=.bl b))) H
theorem Zc9:OpR X (compareOp .Is) rIsB:=by
 intro pins s σ H x y v u Q I rx ry h
 obtain ⟨b,rfl,q⟩:=h
 cases ry
 refine wpAny_is_plain ?_ (A9 I q ?_)
 ·cases x <;> first | (cases rx;rfl) | (obtain ⟨t,rfl⟩:=rx;rfl)
 ·cases x <;> first
   | (cases rx;rfl)
   | (obtain ⟨t,rfl⟩:=rx;rfl)
   | (rename_i c;cases rx;cases c <;> cases b <;> rfl)
end
section
variable {X:Cx}(P:Program)(w:World)(K:Om)
theorem Zjo (hP:X.prog=P:=by rfl)(hw:X.w=w:=by rfl)(hK:X.K=K:=by rfl):OpR X (compareOp .In) (rInD P w K):=by subst hP hw hK;exact Zmf
theorem Zhc (hP:X.prog=P:=by rfl)(hw:X.w=w:=by rfl)(hK:X.K=K:=by rfl):IxR X (rIxD P w K):=by subst hP hw hK;exact ix_D
end
theorem s_chain {r r':R2}{ta tb tc:TE}{σ:St}{H:Hp}{Q:VK}(h:ta σ H fun x H1=>tb σ H1 fun y H2=>r x y H2 fun z H3=>∃ k,z=.bl k/\(if k=true then tc σ H3 fun w' H4=>r' y w' H4 Q else Q (.bl false) H3)):Jn r r' ta tb tc σ H Q:=h
inductive Ents (p:Params):List DictEntry->List (Str×V)->Prop
 | nil:Ents p [] []
 | cons {k:Str} {t:Tok} {x:V} {v:Value} {r:List DictEntry} {q:List (Str×V)}:RelV x v->Ents p r q->Ents p (⟨PyData.keyHash p k,.str k t,v⟩::r) ((k,x)::q)
theorem Ents.pairs {P:Program}{w:World}{es:List DictEntry}{kvs:List (Str×V)}(h:Ents w.params es kvs):∃ vs,VPs kvs vs/\PySem.Pairs (PySem.strKind P w) es vs/\vs.map (·.1)=kvs.map (·.1)/\∀ e∈es,∃ k,(PySem.strKind P w).is k e.key=true/\e.hash=(PySem.strKind P w).hash k:=by
 induction h with
 | nil=>exact ⟨[],.nil,.nil,rfl,fun e he=>nomatch he⟩
 | @cons k t x v r q rx _ ih =>
  obtain ⟨vs,a,b,c,d⟩:=ih
  refine ⟨(k,v)::vs,.cons rx a,.cons (strKind_is _ _ _ _) rfl b,by simp [c],fun e he=>?_⟩
  rcases Oy.mp he with rfl | he
  ·exact ⟨k,strKind_is _ _ _ _,rfl⟩
  ·exact d e he
theorem Zou {P:Program}{w:World}{K:Om}{a:Addr}{es:Array DictEntry}{n:Nat}{kvs:List (Str×V)}(l:K.lookup a=some ⟨.type "dict",none,.dict es n,#[]⟩)(hs:(a == sysModules)=false)
  (e:Ents w.params es.toList kvs) (nd:(kvs.map (·.1)).Nodup):DkK P w K a kvs:=by
 obtain ⟨vs,a1,a2,a3,a4⟩:=e.pairs (P:=P)
 exact ⟨_,vs,l,⟨es,n,⟨rfl,rfl,rfl⟩,rfl,fun e he=>a4 e (by simpa using he),a2,by rw [a3];exact nd⟩,hs,a1⟩
section
variable {X:Cx}
theorem Zj6 {l b:Addr}{xs zs:List V}{H:Hp}{Q:VK}(e:H l=some (.lst xs))(e2:H b=some (.lst zs))(hz:xs.length+zs.length<=sizeLine)(h:Q .non (upd H l (.lst (xs++zs)))):Zc8 (.ref l) [.ref b] H Q:=⟨l,b,xs,zs,rfl,rfl,e,e2,hz,h⟩
end
structure ZA (z TI TO i1 i2:Addr)(fp1 fp2:List Addr):Prop where
 TIz:TI≠z
 TOz:TO≠z
 TITO:TI≠TO
 z1:z ∉ fp1
 z2:z ∉ fp2
 TI1:TI≠i1
 TI2:TI≠i2
 TO1:TO ∉ fp1
 TO2:TO ∉ fp2
 m1:i1∈fp1
 m2:i2∈fp2
 n1:i1 ∉ fp2
 n2:i2 ∉ fp1
theorem ZA.i1z {z TI TO i1 i2:Addr}{fp1 fp2:List Addr}(D:ZA z TI TO i1 i2 fp1 fp2):i1≠z:=fun e=>D.z1 (e ▸ D.m1)
theorem ZA.i2z {z TI TO i1 i2:Addr}{fp1 fp2:List Addr}(D:ZA z TI TO i1 i2 fp1 fp2):i2≠z:=fun e=>D.z2 (e ▸ D.m2)
theorem ZA.TOi1 {z TI TO i1 i2:Addr}{fp1 fp2:List Addr}(D:ZA z TI TO i1 i2 fp1 fp2):TO≠i1:=fun e=>D.TO1 (e ▸ D.m1)
theorem ZA.TOi2 {z TI TO i1 i2:Addr}{fp1 fp2:List Addr}(D:ZA z TI TO i1 i2 fp1 fp2):TO≠i2:=fun e=>D.TO2 (e ▸ D.m2)
theorem Bo {prog:Program}{w:World}{A:Around}{it c:Addr}{fp:List Addr}{n i:Nat}{P:Nat->Value->Prop}{St:Nat->Heap->Prop}(D:Draws prog w A it fp n P St){h h':Heap}(st:St i h)(e:O6 c h h')(hc:c ∉ fp):St i h' :=
 D.frame i h h' st fun b hb o eo=>e.extBut b o (fun z=>hc (z ▸ hb)) eo
section
variable {prog:Program}{w:World}{A:Around}{E:Value->Shared->Prop}{s:Shared}{z TI TO i1 i2:Addr}{fp1 fp2:List Addr}{n1 n2 i:Nat}{P1 P2:Nat->Value->Prop}{St1 St2:Nat->Heap->Prop}{a b:Value}
theorem Zqo {Q:Value->Shared->Prop}(D1:Draws prog w A i1 fp1 n1 P1 St1)(D2:Draws prog w A i2 fp2 n2 P2 St2)(D:ZA z TI TO i1 i2 fp1 fp2)(hz:IsZip s.heap z TI TO .none)(hTI:IsPair s.heap TI (.ref i1) (.ref i2))(hTO:IsPair s.heap TO a b)
  (st1:St1 i s.heap) (st2:St2 i s.heap) (l1:i < n1) (l2:i < n2)
  (hQ:∀ x y h' tk,P1 i x->P2 i y->IsZip h' z TI TO (rawInt s.heap.objs.size)->IsPair h' TO x y->St1 (i+1) h'->St2 (i+1) h'->IsPair h' s.heap.objs.size x y->h'.objs.size=s.heap.objs.size+1 ->
   (∀ c o,c≠z->c≠TO->c≠i1->c≠i2->s.heap.get? c=some o->h'.get? c=some o)->Q (.ref s.heap.objs.size) { s with heap:=h',toks:=tk }) :
  wpAny (model prog w) A (Builtin.«zip.__next__» ⟨[.ref z],[]⟩) (fun fin s'=>∃ v,fin=.done (.ret v)/\Q v s') E s:=by
 show wpAny _ _ (field (.ref z) 2 >>= _) _ _ s
 refine On (O8 hz rfl (x:=Value.bool false) rfl ?_)
 show wpAny _ _ (field (.ref z) 3 >>= _) _ _ s
 refine On (O8 hz rfl (x:=Value.ref TI) rfl (On (Qr hTI rfl ?_)))
 show wpAny _ _ (Qv (.ref z) >>= _) _ _ s
 refine On ?_
 unfold Qv
 refine On (O8 hz rfl (x:=Value.none) rfl (Oq ?_))
 simp only [if_true]
 refine On (Te (On (O8 hz rfl (x:=Value.ref TO) rfl ?_)))
 refine On (Q0 hz (by simp) fun h₁ hz₁ e1=>?_)
 replace hz₁:IsZip h₁ z TI TO Value.ellipsis:=hz₁
 refine On ?_
 simp only [List.zipIdx_cons,List.zipIdx_nil,Sv,Ur]
 refine On (On (Uw ?_))
 show wpAny _ _ (Qe (.ref i1) >>= _) _ _ _
 refine On (D1.item i _ _ _ l1 (Bo D1 st1 e1 D.z1) fun x h₂ tk₂ px s12 e2=>Oq ?_)
 replace e2:O6 i1 h₁ h₂:=e2
 have p2:IsPair h₂ TO a b:=e2.extBut _ _ D.TOi1 (e1.extBut _ _ D.TOz hTO)
 refine On (Qr p2 rfl (On (Vg p2 fun h₃ p3 e3=>?_)))
 replace p3:IsPair h₃ TO x b:=p3
 replace e3:O6 TO h₂ h₃:=e3
 refine On (U5 (Oq (On (On (Uw ?_)))))
 show wpAny _ _ (Qe (.ref i2) >>= _) _ _ _
 have s22:St2 i h₃:=Bo D2 (Bo D2 (Bo D2 st2 e1 D.z2) e2 D.n1) e3 D.TO2
 refine On (D2.item i _ _ _ l2 s22 fun y h₄ tk₄ py s24 e4=>Oq ?_)
 replace e4:O6 i2 h₃ h₄:=e4
 have p4:IsPair h₄ TO x b:=e4.extBut _ _ D.TOi2 p3
 refine On (Qr p4 rfl (On (Vg p4 fun h₅ p5 e5=>?_)))
 replace p5:IsPair h₅ TO x y:=p5
 replace e5:O6 TO h₄ h₅:=e5
 refine On (U5 (Oq (Oq (On (Qr p5 rfl (On (wpAny_newTuple ?_)))))))
 have sz:h₅.objs.size=s.heap.objs.size:=by rw [e5.1,e4.1,e3.1,e2.1,e1.1]
 have z5:IsZip h₅ z TI TO Value.ellipsis:=e5.extBut _ _ D.TOz.symm (e4.extBut _ _ D.i2z.symm (e3.extBut _ _ D.TOz.symm (e2.extBut _ _ D.i1z.symm hz₁)))
 have k5:∀ c o,c≠z->c≠TO->c≠i1->c≠i2->s.heap.get? c=some o->h₅.get? c=some o:=fun c o c1 c2 c3 c4 e=>e5.extBut _ _ c2 (e4.extBut _ _ c4 (e3.extBut _ _ c2 (e2.extBut _ _ c3 (e1.extBut _ _ c1 e))))
 have t1:St1 (i+1) h₅:=Bo D1 (Bo D1 (Bo D1 s12 e3 D.TO1) e4 D.n2) e5 D.TO1
 have t2:St2 (i+1) h₅:=Bo D2 s24 e5 D.TO2
 have zlt:z < h₅.objs.size:=Ow z5
 show wpAny _ _ (V5 (.ref z) (.ref h₅.objs.size) >>= _) _ _ _
 refine On ?_
 unfold V5
 have z6:IsZip (h₅.push { cls:=.type "tuple",data:=.seq #[x,y] }) z TI TO Value.ellipsis:=Ou _ z5
 refine On (Q0 z6 (by simp) fun h₇ z7 e7=>?_)
 replace z7:IsZip h₇ z TI TO (rawInt h₅.objs.size):=z7
 refine Q0 z7 (by simp) fun h₈ z8 e8=>?_
 replace z8:IsZip h₈ z TI TO (rawInt h₅.objs.size):=z8
 have up:∀ c o,c≠z->h₅.get? c=some o->h₈.get? c=some o:=fun c o c1 e=>e8.extBut _ _ c1 (e7.extBut _ _ c1 (Ou _ e))
 have t8:IsPair h₈ h₅.objs.size x y:=e8.extBut _ _ (Qs zlt) (e7.extBut _ _ (Qs zlt) (O4 _ rfl))
 have sz8:h₈.objs.size=h₅.objs.size+1:=by rw [e8.1,e7.1,Pz]
 rw [sz] at z8 t8 sz8
 refine Oq ⟨_,rfl,?_⟩
 show Q (.ref h₅.objs.size) _
 rw [sz]
 exact hQ x y h₈ tk₄ px py z8 (up _ _ D.TOz p5) (D1.frame _ _ _ t1 fun c hc o e=>up c o (fun q=>D.z1 (q ▸ hc)) e) (D2.frame _ _ _ t2 fun c hc o e=>up c o (fun q=>D.z2 (q ▸ hc)) e) t8 sz8 fun c o c1 c2 c3 c4 e=>up c o c1 (k5 c o c1 c2 c3 c4 e)
theorem Zor {Q:Fin->Shared->Prop}(D1:Draws prog w A i1 fp1 n1 P1 St1)(D2:Draws prog w A i2 fp2 n2 P2 St2)(D:ZA z TI TO i1 i2 fp1 fp2)(hz:IsZip s.heap z TI TO .none)(hTI:IsPair s.heap TI (.ref i1) (.ref i2))(hTO:IsPair s.heap TO a b)
  (st1:St1 i s.heap) (st2:St2 i s.heap) (hend:i=n1\/(i < n1/\i=n2))
  (hE:∀ h' e tk,(∀ c o,c≠z->c≠TO->c≠i1->c≠i2->s.heap.get? c=some o->h'.get? c=some o)->(∃ o,h'.get? e=some o/\o.cls=.type "StopIteration")->E (.ref e) { s with heap:=h',toks:=tk }) :
  wpAny (model prog w) A (Builtin.«zip.__next__» ⟨[.ref z],[]⟩) Q E s:=by
 show wpAny _ _ (field (.ref z) 2 >>= _) _ _ s
 refine On (O8 hz rfl (x:=Value.bool false) rfl ?_)
 show wpAny _ _ (field (.ref z) 3 >>= _) _ _ s
 refine On (O8 hz rfl (x:=Value.ref TI) rfl (On (Qr hTI rfl ?_)))
 show wpAny _ _ (Qv (.ref z) >>= _) _ _ s
 refine On ?_
 unfold Qv
 refine On (O8 hz rfl (x:=Value.none) rfl (Oq ?_))
 simp only [if_true]
 refine On (Te (On (O8 hz rfl (x:=Value.ref TO) rfl ?_)))
 refine On (Q0 hz (by simp) fun h₁ hz₁ e1=>?_)
 replace hz₁:IsZip h₁ z TI TO Value.ellipsis:=hz₁
 refine On ?_
 simp only [List.zipIdx_cons,List.zipIdx_nil,Sv,Ur]
 refine On (On (Uw ?_))
 show wpAny _ _ (Qe (.ref i1) >>= _) _ _ _
 rcases hend with rfl | ⟨l1,rfl⟩
 ·refine On (D1.done _ _ _ (Bo D1 st1 e1 D.z1) fun h₂ e e2 he=>?_)
  obtain ⟨oe,hoe,hce⟩:=he
  replace e2:Rg i1 h₁ h₂:=e2
  have z2:IsZip h₂ z TI TO Value.ellipsis:=e2 _ _ D.i1z.symm hz₁
  have hez:e≠z:=fun x=>by subst x;rw [z2] at hoe;cases hoe;simp at hce
  refine Q0 z2 (by simp) fun h₃ _ e3=>hE h₃ e s.toks (fun c o c1 _ c3 _ x=>e3.extBut _ _ c1 (e2 _ _ c3 (e1.extBut _ _ c1 x))) ⟨oe,e3.extBut _ _ hez hoe,hce⟩
 ·refine On (D1.item i _ _ _ l1 (Bo D1 st1 e1 D.z1) fun x h₂ tk₂ px s12 e2=>Oq ?_)
  replace e2:O6 i1 h₁ h₂:=e2
  have p2:IsPair h₂ TO a b:=e2.extBut _ _ D.TOi1 (e1.extBut _ _ D.TOz hTO)
  refine On (Qr p2 rfl (On (Vg p2 fun h₃ p3 e3=>?_)))
  replace e3:O6 TO h₂ h₃:=e3
  refine On (U5 (Oq (On (On (Uw ?_)))))
  show wpAny _ _ (Qe (.ref i2) >>= _) _ _ _
  have s22:St2 i h₃:=Bo D2 (Bo D2 (Bo D2 st2 e1 D.z2) e2 D.n1) e3 D.TO2
  refine On (D2.done _ _ _ s22 fun h₄ e e4 he=>?_)
  obtain ⟨oe,hoe,hce⟩:=he
  replace e4:Rg i2 h₃ h₄:=e4
  have z4:IsZip h₄ z TI TO Value.ellipsis:=e4 _ _ D.i2z.symm (e3.extBut _ _ D.TOz.symm (e2.extBut _ _ D.i1z.symm hz₁))
  have hez:e≠z:=fun x=>by subst x;rw [z4] at hoe;cases hoe;simp at hce
  refine Q0 z4 (by simp) fun h₅ _ e5=>hE h₅ e tk₂ (fun c o c1 c2 c3 c4 x=>e5.extBut _ _ c1 (e4 _ _ c4 (e3.extBut _ _ c2 (e2.extBut _ _ c3 (e1.extBut _ _ c1 x))))) ⟨oe,e5.extBut _ _ hez hoe,hce⟩
theorem Znq {Q:Option Value->Shared->Prop}(D1:Draws prog w A.in1 i1 fp1 n1 P1 St1)(D2:Draws prog w A.in1 i2 fp2 n2 P2 St2)(D:ZA z TI TO i1 i2 fp1 fp2)(hz:IsZip s.heap z TI TO .none)(hTI:IsPair s.heap TI (.ref i1) (.ref i2))(hTO:IsPair s.heap TO a b)
  (st1:St1 i s.heap) (st2:St2 i s.heap) (l1:i < n1) (l2:i < n2)
  (hQ:∀ x y h' tk,P1 i x->P2 i y->IsZip h' z TI TO (rawInt s.heap.objs.size)->IsPair h' TO x y->St1 (i+1) h'->St2 (i+1) h'->IsPair h' s.heap.objs.size x y->h'.objs.size=s.heap.objs.size+1 ->
   (∀ c o,c≠z->c≠TO->c≠i1->c≠i2->s.heap.get? c=some o->h'.get? c=some o)->Q (some (.ref s.heap.objs.size)) { s with heap:=h',toks:=tk }) :
  wpAny (model prog w) A (pyNext (.ref z)) Q E s:=by
 have hT:s.TypeIs (.ref z) "zip" := ⟨_,hz,rfl⟩
 unfold pyNext
 exact On (Sa (Qy (name:=Pq "__next__") hT Ra
  (Q2 Ra hT Tw (Zqo D1 D2 D hz hTI hTO st1 st2 l1 l2 fun x y h' tk a1 a2 a3 a4 a5 a6 a7 a8 a9=>Oq (hQ x y h' tk a1 a2 a3 a4 a5 a6 a7 a8 a9)) (Tt _))))
theorem Zh7 {Q:Option Value->Shared->Prop}(D1:Draws prog w A.in1 i1 fp1 n1 P1 St1)(D2:Draws prog w A.in1 i2 fp2 n2 P2 St2)(D:ZA z TI TO i1 i2 fp1 fp2)(hz:IsZip s.heap z TI TO .none)(hTI:IsPair s.heap TI (.ref i1) (.ref i2))(hTO:IsPair s.heap TO a b)
  (st1:St1 i s.heap) (st2:St2 i s.heap) (hend:i=n1\/(i < n1/\i=n2))
  (hQ:∀ h' tk,(∀ c o,c≠z->c≠TO->c≠i1->c≠i2->s.heap.get? c=some o->h'.get? c=some o)->Q none { s with heap:=h',toks:=tk }):wpAny (model prog w) A (pyNext (.ref z)) Q E s:=by
 have hT:s.TypeIs (.ref z) "zip" := ⟨_,hz,rfl⟩
 unfold pyNext
 refine On (Sa (Qy (name:=Pq "__next__") hT Ra
  (Q2 Ra hT Tw (Zor D1 D2 D hz hTI hTO st1 st2 hend fun h' e tk hk he=>?_) (Tt _))))
 obtain ⟨o,ho,hc⟩:=he
 exact On (Vw (T := "StopIteration") (b:=true) ⟨o,ho,hc⟩ isSubtype_stop (Oq (hQ _ _ hk)))
end
section
variable {prog:Program}{w:World}{A:Around}{E:Value->Shared->Prop}{s:Shared}
end
section
variable {X:Cx}{pins:List (Addr×Obj)}{σ:St}{H:Hp}{s:Shared}{h':Heap}
theorem Inv.turnedL {t':Nat}{fp:List Addr}(I:Inv X pins σ H s)(k:∀ b o,b ∉ fp->s.heap.get? b=some o->h'.get? b=some o)(f:∀ b∈fp,FpOk X pins H b):Inv X pins σ H { s with heap:=h',toks:=t' }:=by
 have nit:∀ b u,H b=some u->b ∉ fp:=fun b u e hb=>by rw [(f b hb).1] at e;exact nomatch e
 refine I.step (g':=s.gens) (d':=s.drawn) (ch:=fp) (fun b hb=>?_) (fun b o _ _ hc e _=>k b o hc e) (fun b o _ _ hc e _=>⟨o.slots,k b o hc e⟩) (fun _ _ _ _ n=>n)
  (fun b o hc e=>⟨o,k b o hc e⟩) (fun _ _ e=>e) (fun _ _ _ e=>e) (fun b ps e=>⟨#[],by rw [e];simp⟩) (fun m hm=>?_) (fun b u e=>?_) I.bare
 ·obtain ⟨n1,l1,_,e1,c1,p1⟩:=f b hb
  exact ⟨e1,l1,c1,p1⟩
 ·obtain ⟨o,es,ep,ho,r⟩:=hm
  exact ⟨o,es,ep,k _ o (fun hb=>(f _ hb).2.1 rfl) ho,r⟩
 ·refine (I.hok b u e).stay (fun c v hc q=>k c v ?_ q) (fun _ q=>q) fun _ _ q=>q
  rcases hc with z | z
  ·rw [z];exact nit b u e
  ·exact nit c _ z
theorem Inv.pairL {tk:Nat}{fp:List Addr}{T:Addr}{xs:List V}{its:List Value}(I:Inv X pins σ H s)(f:∀ b∈fp,FpOk X pins H b)
  (kk:∀ b o,b ∉ fp->s.heap.get? b=some o->h'.get? b=some o) (hT:s.heap.objs.size<=T) (rv:Vals xs its) (hz:xs.length<=sizeLine) (ht:h'.IsTuple T its.toArray):Inv X pins σ (upd H T (.tup xs)) { s with heap:=h',toks:=tk }:=by
 have hf:H T=none:=I.hok.fresh hT
 have I1:Inv X pins σ H { s with heap:=h',toks:=tk }:=I.turnedL kk f
 have hokN:HOk X.prog X.w (upd H T (.tup xs)) h':=fun b o e=>by
  by_cases hb:b=T
  ·subst hb
   rw [Ad] at e
   cases e
   exact ⟨hz,its,rv,ht⟩
  ·rw [Ai hb] at e
   refine (I1.hok b o e).stay (fun c v _ q=>q) (fun c q=>?_) fun c zs q=>?_
   ·rw [Ai (Bc q hf)];exact q
   ·rw [Ai (Bc q hf)];exact q
 have u:Un (Cd X.stack) fp H (upd H T (.tup xs)) s.heap h':={
  keep:=fun b o e n _ hx=>kk b o hx e
  slot:=fun b o e n _ hx=>⟨o.slots,kk b o hx e⟩
  free:=fun b o e n _=>by rw [Ai (O1 (O9 (Ow e) hT))];exact n
  there:=fun b o e hx=>⟨o,kk b o hx e⟩
  tups:=fun b zs e=>by rw [Ai (Bc e hf)];exact e
  frzs:=fun b o u e=>by rw [Ai (Bc e hf)];exact e
  tbls:=fun b ps e=>⟨#[],by rw [Ai (Bc e hf),e];simp⟩ }
 refine I.call (g':=s.gens) (d':=s.drawn) (t':=tk) u hokN I.bare fun b hb=>?_
 obtain ⟨n1,l1,_,e1,c1,p1⟩:=f b hb
 exact ⟨e1,l1,c1,p1⟩
end
structure ZB (z TI TO i1 i2 a b:Addr):Prop where
 TIz:TI≠z
 TOz:TO≠z
 TITO:TI≠TO
 i1z:i1≠z
 i2z:i2≠z
 TI1:TI≠i1
 TI2:TI≠i2
 TO1:TO≠i1
 TO2:TO≠i2
 i12:i1≠i2
 az:a≠z
 aTO:a≠TO
 a1:a≠i1
 a2:a≠i2
 bz:b≠z
 bTO:b≠TO
 b1:b≠i1
 b2:b≠i2
theorem ZB.za {z TI TO i1 i2 a b:Addr}(D:ZB z TI TO i1 i2 a b):ZA z TI TO i1 i2 [i1,a] [i2,b] where
 TIz:=D.TIz
 TOz:=D.TOz
 TITO:=D.TITO
 z1:=by simp [D.i1z.symm,D.az.symm]
 z2:=by simp [D.i2z.symm,D.bz.symm]
 TI1:=D.TI1
 TI2:=D.TI2
 TO1:=by simp [D.TO1,D.aTO.symm]
 TO2:=by simp [D.TO2,D.bTO.symm]
 m1:=by simp
 m2:=by simp
 n1:=by simp [D.i12,D.b1.symm]
 n2:=by simp [D.i12.symm,D.a2.symm]
theorem Zrg {n a b:Nat}(h1:a < n)(h2:b < n):ZB (n+4) (n+2) (n+3) n (n+1) a b:=by
 have f:∀ i j:Nat,i≠j->n+i≠n+j:=fun i j h e=>h (Nat.add_left_cancel e)
 have g:∀ i:Nat,a≠n+i:=fun i e=>absurd h1 (by rw [e];exact Nat.not_lt.mpr (Su _ _))
 have g':∀ i:Nat,b≠n+i:=fun i e=>absurd h2 (by rw [e];exact Nat.not_lt.mpr (Su _ _))
 exact ⟨f 2 4 (by decide),f 3 4 (by decide),f 2 3 (by decide),f 0 4 (by decide),f 1 4 (by decide),f 2 0 (by decide),f 2 1 (by decide),f 3 0 (by decide),f 3 1 (by decide),f 0 1 (by decide),g 4,g 3,g 0,g 1,g' 4,g' 3,g' 0,g' 1⟩
section
variable {X:Cx}
end
theorem Zh6 {prog:Program}{w:World}{A:Around}{E:Value->Shared->Prop}{s:Shared}{t sl:Addr}{items:Array Value}{vl vu:Value}{lo hi:Option Int}{Q:Value->Shared->Prop}(ht:IsTup s.heap t items)(hs:s.heap.IsSliceOf sl vl vu .none)(pl:IsPart vl lo)(pu:IsPart vu hi)
  (hw:HT.sIx items.size 0 lo=0/\HT.sIx items.size items.size hi=items.size) (h:Q (.ref t) s):wpAny (model prog w) A (getItem (.ref t) (.ref sl)) Q E s:=by
 obtain ⟨os,hos,hcs,hds⟩:=id hs
 have hTs:s.TypeIs (.ref sl) "slice" := ⟨os,hos,hcs⟩
 unfold getItem
 try with_reducible refine P0 ?_
 first | refine On (Oq ?_) | skip
 refine On (wpAny_sequenceKey ht.typeIs (by decide) ?_)
 refine On (Qy (name:=Pq "__getitem__") ht.typeIs Rs
  (Q2 Rs ht.typeIs PyProof.Rows.entry_tuple_getitem ?_ (PyProof.Rows.args_tuple_getitem _ _)))
 show wpAny _ _ (Builtin.Tuple.tupleItemsOf (.ref t) >>= _) _ _ s
 refine On (PyProof.Rows.tupleItemsOf_ ht ?_)
 refine On (U0 hTs ?_)
 rw [if_pos (by decide)]
 refine On (HT.sliceApplied_gen hs pl pu ?_)
 have hyes:(((HT.sIx items.size 0 lo:Nat):Int) == 0 && (1:Int) == 1 && (HT.sIx items.size items.size hi - HT.sIx items.size 0 lo) == items.size)=true:=by
  rw [hw.1,hw.2]
  simp
 show wpAny _ _ (if (((HT.sIx items.size 0 lo:Nat):Int) == 0 && (1:Int) == 1 && (HT.sIx items.size items.size hi - HT.sIx items.size 0 lo) == items.size)=true then _ else _) _ _ s
 rw [if_pos hyes]
 refine On (m:=Builtin.Tuple.tupleIsExact (.ref t)) ?_
 unfold Builtin.Tuple.tupleIsExact
 refine On (U0 ht.typeIs (Oq ?_))
 rw [if_pos (by decide)]
 refine On (Te ?_)
 exact Oq ⟨_,rfl,Oq h⟩
noncomputable def rSlU (K:Om):V->Option Int->Option Int->Hp->VK->Prop:=fun x lo hi H Q=>∃ a xs,x=.ref a/\SqT K H a xs/\∀ r H',Same H H'->SqT K H' r (Bq xs lo hi)->Q (.ref r) H'
theorem Zku {X:Cx}:SlR X (rSlU X.K):=by
 intro pins s σ H x v vl vu lo hi sl Q I rx hs pl pu h
 obtain ⟨a,xs,rfl,hx,q⟩:=h
 by_cases hw:HT.sIx xs.length 0 lo=0/\HT.sIx xs.length xs.length hi=xs.length
 ·cases rx
  obtain ⟨its,r,ht,hz⟩:=I.tuple hx
  have hlen:its.toArray.size=xs.length:=by rw [Ot];exact r.length.symm
  refine ⟨"tuple",_,Rs.lookup,ht.typeIs,?_⟩
  refine Zh6 ht hs pl pu (by rw [hlen];exact hw) ⟨.ref a,H,I,rfl,q a H (Same.refl H) ?_⟩
  have e:Bq xs lo hi=xs:=by unfold Bq;rw [hw.1,hw.2];simp
  rw [e]
  exact hx
 ·exact Zcg pins s σ H _ v vl vu lo hi sl Q I rx hs pl pu ⟨a,xs,rfl,hx,hw,fun p hp=>q p _ (Same.upd hp) (.of Ad)⟩
noncomputable def rSlB (K:Om):V->Option Int->Option Int->Hp->VK->Prop:=fun x lo hi H Q=>M7 K x lo hi H Q\/L4 x lo hi H Q\/rSlU K x lo hi H Q
theorem Ht {X:Cx}(K:Om)(hK:X.K=K:=by rfl):SlR X (rSlB K):=by subst hK;exact sl_list.or (sl_str.or Zku)
theorem Jf {K:Om}{a:Addr}{xs:List V}{lo hi:Option Int}{H:Hp}{Q:VK}(ha:SqT K H a xs)(h:∀ r H',Same H H'->SqT K H' r (Bq xs lo hi)->Q (.ref r) H'):rSlB K (.ref a) lo hi H Q:=.inr (.inr ⟨a,xs,rfl,ha,h⟩)
theorem Mg (xs:List V)(k:Nat):Bq xs none (some (k:Int))=xs.take k:=by
 unfold Bq
 rw [HT.sIx_none,HT.sIx_nat,Rp,R8]
 by_cases h:k<=xs.length
 ·rw [Um h]
 ·rw [Ud (by omega),Qi (Os _),Qi (by omega)]
theorem Zej (xs:List V)(k:Nat):Bq xs (some (k:Int)) none=xs.drop k:=by
 unfold Bq
 rw [HT.sIx_none,HT.sIx_nat]
 by_cases h:k<=xs.length
 ·rw [Um h,Qi (by simp)]
 ·rw [Ud (by omega),Qz (Os _),Qz (by omega)]
  simp
theorem Zrs (xs:List V)(j k:Nat):Bq xs (some (j:Int)) (some (k:Int))=(xs.drop j).take (k - j):=by
 unfold Bq
 rw [HT.sIx_nat,HT.sIx_nat]
 by_cases hj:j<=xs.length
 ·rw [Um hj]
  by_cases hk:k<=xs.length
  ·rw [Um hk]
  ·rw [Ud (by omega),Qi (by simp),Qi (by simp;omega)]
 ·rw [Ud (Uy (Nat.lt_of_not_le hj)),Qz (Os _),Qz (by omega)]
  simp
noncomputable def Zl0 (h:Heap)(e T:Addr)(cls:Value)(od:Option Addr)(fl:Value):Prop :=
 ∃ oe vs oT ts,h.get? e=some oe/\oe.cls=cls/\oe.dict=od/\oe.data=.fields vs/\vs[1]?=some (.ref T)/\T≠e/\h.get? T=some oT/\oT.data=.fields ts/\ts[3]?=some fl/\vs[2]?=some .none
noncomputable abbrev Lies (h:Heap)(e T:Addr)(cls:Value)(od:Option Addr):Prop:=Zl0 h e T cls od .none
section
variable {M:Model}{A:Around}{E:Value->Shared->Prop}{s:Shared}
end
theorem Gj {X:Cx}{st:Stmt}:QS X st (fun _ _ _=>False):=⟨fun _ _ _ _ _ _ h=>h.elim⟩
noncomputable def Ha (h:Heap)(z TI TO i1 i2:Addr):Prop:=∃(a:Addr)(oa:Obj)(f1:Value),h.get? z=some { cls:=.type "zip",dict:=none,data:=.fields #[rawInt a,f1,.bool false,.ref TI,.ref TO],slots:=#[] }/\h.get? a=some oa/\a≠z/\a≠i1/\a≠i2
section
variable {prog:Program}{w:World}{A:Around}{E:Value->Shared->Prop}{s:Shared}{z TI TO i1 i2:Addr}{fp1 fp2:List Addr}{n1 n2 i:Nat}{P1 P2:Nat->Value->Prop}{St1 St2:Nat->Heap->Prop}{a b:Value}
theorem Zeo {Q:Bool->Shared->Prop}(hz:Ha s.heap z TI TO i1 i2)(h:∀ h',Ha h' z TI TO i1 i2->O6 z s.heap h'->Q false { s with heap:=h' }):wpAny (model prog w) A (Qv (.ref z)) Q E s:=by
 obtain ⟨a,oa,f1,e,ea,n0,n1,n2⟩:=hz
 unfold Qv
 refine On (O8 e rfl (x:=rawInt a) rfl ?_)
 show wpAny _ _ (loadIfAlive ((a:Int).toNat) >>= _) _ _ s
 refine On (Zd9 ?_)
 rw [So,ea]
 rw [if_neg (by simp)]
 refine On (O8 e rfl (x:=f1) rfl ?_)
 by_cases hf:(f1 != Value.bool true)=true
 ·simp only [hf,if_true]
  refine On (Q0 e (by simp) fun h₅ e5 s5=>?_)
  replace s5:O6 z s.heap h₅:=s5
  exact Oq (h h₅ ⟨a,oa,.bool true,e5,s5.extBut a oa n0 ea,n0,n1,n2⟩ s5)
 ·simp only [hf]
  exact Oq (h s.heap ⟨a,oa,f1,e,ea,n0,n1,n2⟩ (Vs ..))
theorem Zja {Q:Value->Shared->Prop}(D1:Draws prog w A i1 fp1 n1 P1 St1)(D2:Draws prog w A i2 fp2 n2 P2 St2)(D:ZA z TI TO i1 i2 fp1 fp2)(hz:Ha s.heap z TI TO i1 i2)(hTI:IsPair s.heap TI (.ref i1) (.ref i2))
  (st1:St1 i s.heap) (st2:St2 i s.heap) (l1:i < n1) (l2:i < n2)
  (hQ:∀ x y h' tk,P1 i x->P2 i y->Ha h' z TI TO i1 i2->St1 (i+1) h'->St2 (i+1) h'->IsPair h' s.heap.objs.size x y->h'.objs.size=s.heap.objs.size+1 ->
   (∀ c o,c≠z->c≠i1->c≠i2->s.heap.get? c=some o->h'.get? c=some o)->Q (.ref s.heap.objs.size) { s with heap:=h',toks:=tk }) :
  wpAny (model prog w) A (Builtin.«zip.__next__» ⟨[.ref z],[]⟩) (fun fin s'=>∃ v,fin=.done (.ret v)/\Q v s') E s:=by
 obtain ⟨a0,oa0,f10,e0,_⟩:=id hz
 show wpAny _ _ (field (.ref z) 2 >>= _) _ _ s
 refine On (O8 e0 rfl (x:=Value.bool false) rfl ?_)
 show wpAny _ _ (field (.ref z) 3 >>= _) _ _ s
 refine On (O8 e0 rfl (x:=Value.ref TI) rfl (On (Qr hTI rfl ?_)))
 show wpAny _ _ (Qv (.ref z) >>= _) _ _ s
 refine On (Zeo hz fun h₁ hz₁ e1=>?_)
 simp only [Rl,if_false]
 refine On ?_
 simp only [List.forIn_toArray,Sv,Ur]
 refine On (On (P0 ?_))
 show wpAny _ _ (Qe (.ref i1) >>= _) _ _ _
 refine On (D1.item i _ _ _ l1 (Bo D1 st1 e1 D.z1) fun x h₂ tk₂ px s12 e2=>Oq (Oq ?_))
 replace e2:O6 i1 h₁ h₂:=e2
 refine On (On (P0 ?_))
 show wpAny _ _ (Qe (.ref i2) >>= _) _ _ _
 have s22:St2 i h₂:=Bo D2 (Bo D2 st2 e1 D.z2) e2 D.n1
 refine On (D2.item i _ _ _ l2 s22 fun y h₄ tk₄ py s24 e4=>Oq (Oq (Oq ?_)))
 replace e4:O6 i2 h₂ h₄:=e4
 show wpAny _ _ (newTuple [x,y] >>= _) _ _ _
 refine On (wpAny_newTuple (Oq ⟨_,rfl,?_⟩))
 have sz:h₄.objs.size=s.heap.objs.size:=by rw [e4.1,e2.1,e1.1]
 show Q (.ref h₄.objs.size) { s with heap:=h₄.push { cls:=.type "tuple",data:=.seq #[x,y] },toks:=tk₄ }
 have up:∀ c o,h₄.get? c=some o->(h₄.push { cls:=.type "tuple",data:=.seq #[x,y] }).get? c=some o:=fun c o e=>Ou _ e
 have k4:∀ c o,c≠z->c≠i1->c≠i2->s.heap.get? c=some o->h₄.get? c=some o:=fun c o c1 c3 c4 e=>e4.extBut _ _ c4 (e2.extBut _ _ c3 (e1.extBut _ _ c1 e))
 have t8:IsPair (h₄.push { cls:=.type "tuple",data:=.seq #[x,y] }) h₄.objs.size x y:=O4 _ rfl
 rw [sz] at t8
 rw [sz]
 obtain ⟨a1,oa1,f1,g1,g2,g3,g4,g5⟩:=hz₁
 refine hQ x y _ tk₄ px py ⟨a1,oa1,f1,up _ _ (e4.extBut _ _ D.i2z.symm (e2.extBut _ _ D.i1z.symm g1)),up _ _ (e4.extBut _ _ g5 (e2.extBut _ _ g4 g2)),g3,g4,g5⟩ ?_ ?_ t8 (by rw [Pz,sz]) fun c o c1 c3 c4 e=>up c o (k4 c o c1 c3 c4 e)
 ·exact D1.frame _ _ _ (Bo D1 s12 e4 D.n2) fun c _ o e=>up c o e
 ·exact D2.frame _ _ _ s24 fun c _ o e=>up c o e
theorem Zgx {Q:Fin->Shared->Prop}(D1:Draws prog w A i1 fp1 n1 P1 St1)(D2:Draws prog w A i2 fp2 n2 P2 St2)(D:ZA z TI TO i1 i2 fp1 fp2)(hz:Ha s.heap z TI TO i1 i2)(hTI:IsPair s.heap TI (.ref i1) (.ref i2))
  (st1:St1 i s.heap) (st2:St2 i s.heap) (hend:i=n1\/(i < n1/\i=n2))
  (hE:∀ h' e tk,(∀ c o,c≠z->c≠i1->c≠i2->s.heap.get? c=some o->h'.get? c=some o)->(∃ o,h'.get? e=some o/\o.cls=.type "StopIteration")->E (.ref e) { s with heap:=h',toks:=tk }) :
  wpAny (model prog w) A (Builtin.«zip.__next__» ⟨[.ref z],[]⟩) Q E s:=by
 obtain ⟨a0,oa0,f10,e0,_⟩:=id hz
 show wpAny _ _ (field (.ref z) 2 >>= _) _ _ s
 refine On (O8 e0 rfl (x:=Value.bool false) rfl ?_)
 show wpAny _ _ (field (.ref z) 3 >>= _) _ _ s
 refine On (O8 e0 rfl (x:=Value.ref TI) rfl (On (Qr hTI rfl ?_)))
 show wpAny _ _ (Qv (.ref z) >>= _) _ _ s
 refine On (Zeo hz fun h₁ hz₁ e1=>?_)
 simp only [Rl,if_false]
 refine On ?_
 simp only [List.forIn_toArray,Sv,Ur]
 refine On (On (P0 ?_))
 show wpAny _ _ (Qe (.ref i1) >>= _) _ _ _
 rcases hend with rfl | ⟨l1,rfl⟩
 ·refine On (D1.done _ _ _ (Bo D1 st1 e1 D.z1) fun h₂ e e2 he=>?_)
  replace e2:Rg i1 h₁ h₂:=e2
  exact hE h₂ e s.toks (fun c o c1 c3 _ x=>e2 _ _ c3 (e1.extBut _ _ c1 x)) he
 ·refine On (D1.item i _ _ _ l1 (Bo D1 st1 e1 D.z1) fun x h₂ tk₂ px s12 e2=>Oq (Oq ?_))
  replace e2:O6 i1 h₁ h₂:=e2
  refine On (On (P0 ?_))
  show wpAny _ _ (Qe (.ref i2) >>= _) _ _ _
  have s22:St2 i h₂:=Bo D2 (Bo D2 st2 e1 D.z2) e2 D.n1
  refine On (D2.done _ _ _ s22 fun h₄ e e4 he=>?_)
  replace e4:Rg i2 h₂ h₄:=e4
  exact hE h₄ e tk₂ (fun c o c1 c3 c4 x=>e4 _ _ c4 (e2.extBut _ _ c3 (e1.extBut _ _ c1 x))) he
noncomputable def ZpSt (h:Heap)(z TI TO i1 i2:Addr)(i:Nat):Prop:=(i=0/\IsZip h z TI TO .none/\∃ u v,IsPair h TO u v)\/(0 < i/\Ha h z TI TO i1 i2)
theorem ZpSt.obj {h:Heap}{z TI TO i1 i2:Addr}{i:Nat}(x:ZpSt h z TI TO i1 i2 i):∃ vs,h.get? z=some { cls:=.type "zip",dict:=none,data:=.fields vs,slots:=#[] }:=by
 rcases x with ⟨_,x,_⟩ | ⟨_,_,_,_,x,_⟩
 ·exact ⟨_,x⟩
 ·exact ⟨_,x⟩
theorem Zi3 {Q:Option Value->Shared->Prop}(D1:Draws prog w A.in1 i1 fp1 n1 P1 St1)(D2:Draws prog w A.in1 i2 fp2 n2 P2 St2)(D:ZA z TI TO i1 i2 fp1 fp2)(hz:ZpSt s.heap z TI TO i1 i2 i)(hTI:IsPair s.heap TI (.ref i1) (.ref i2))(eTO:∃ o,s.heap.get? TO=some o)
  (st1:St1 i s.heap) (st2:St2 i s.heap) (l1:i < n1) (l2:i < n2)
  (hQ:∀ x y h' tk,P1 i x->P2 i y->ZpSt h' z TI TO i1 i2 (i+1)->(∃ o,h'.get? TO=some o)->St1 (i+1) h'->St2 (i+1) h'->IsPair h' s.heap.objs.size x y->h'.objs.size=s.heap.objs.size+1 ->
   (∀ c o,c≠z->c≠TO->c≠i1->c≠i2->s.heap.get? c=some o->h'.get? c=some o)->Q (some (.ref s.heap.objs.size)) { s with heap:=h',toks:=tk }) :
  wpAny (model prog w) A (pyNext (.ref z)) Q E s:=by
 obtain ⟨vs,ho⟩:=hz.obj
 have hT:s.TypeIs (.ref z) "zip" := ⟨_,ho,rfl⟩
 have zl:z < s.heap.objs.size:=Ow ho
 have l1':i1 < s.heap.objs.size:=by obtain ⟨_,y⟩:=D1.live _ _ st1;exact Ow y
 have l2':i2 < s.heap.objs.size:=by obtain ⟨_,y⟩:=D2.live _ _ st2;exact Ow y
 rcases hz with ⟨rfl,hz,u,v,hTO⟩ | ⟨hi,hz⟩
 ·exact Znq D1 D2 D hz hTI hTO st1 st2 l1 l2 fun x y h' tk a1 a2 a3 a4 a5 a6 a7 a8 a9=>hQ x y h' tk a1 a2 (.inr ⟨U1 _,_,_,_,a3,a7,Qs zl,Qs l1',Qs l2'⟩) ⟨_,a4⟩ a5 a6 a7 a8 a9
 ·unfold pyNext
  exact On (Sa (Qy (name:=Pq "__next__") hT Ra
   (Q2 Ra hT Tw (Zja D1 D2 D hz hTI st1 st2 l1 l2 fun x y h' tk a1 a2 a3 a4 a5 a6 a7 a8=>Oq (hQ x y h' tk a1 a2 (.inr ⟨U1 _,a3⟩) (let ⟨o,e⟩:=eTO;⟨o,a8 _ o D.TOz D.TOi1 D.TOi2 e⟩) a4 a5 a6 a7 fun c o c1 _ c3 c4 e=>a8 c o c1 c3 c4 e)) (Tt _))))
theorem Zkc {Q:Option Value->Shared->Prop}(D1:Draws prog w A.in1 i1 fp1 n1 P1 St1)(D2:Draws prog w A.in1 i2 fp2 n2 P2 St2)(D:ZA z TI TO i1 i2 fp1 fp2)(hz:ZpSt s.heap z TI TO i1 i2 i)(hTI:IsPair s.heap TI (.ref i1) (.ref i2))
  (st1:St1 i s.heap) (st2:St2 i s.heap) (hend:i=n1\/(i < n1/\i=n2))
  (hQ:∀ h' tk,(∀ c o,c≠z->c≠TO->c≠i1->c≠i2->s.heap.get? c=some o->h'.get? c=some o)->Q none { s with heap:=h',toks:=tk }):wpAny (model prog w) A (pyNext (.ref z)) Q E s:=by
 obtain ⟨vs,ho⟩:=hz.obj
 have hT:s.TypeIs (.ref z) "zip" := ⟨_,ho,rfl⟩
 rcases hz with ⟨rfl,hz,u,v,hTO⟩ | ⟨hi,hz⟩
 ·exact Zh7 D1 D2 D hz hTI hTO st1 st2 hend hQ
 ·unfold pyNext
  refine On (Sa (Qy (name:=Pq "__next__") hT Ra
   (Q2 Ra hT Tw (Zgx D1 D2 D hz hTI st1 st2 hend fun h' e tk hk he=>?_) (Tt _))))
  obtain ⟨o,ho,hc⟩:=he
  exact On (Vw (T := "StopIteration") (b:=true) ⟨o,ho,hc⟩ isSubtype_stop (Oq (hQ _ _ fun c o c1 _ c3 c4 e=>hk c o c1 c3 c4 e)))
end
noncomputable abbrev itZ (b:Bool)(l:Addr):Obj:={ cls:=.type (cond b "tuple_iterator" "list_iterator"),data:=.fields #[.ref l,.int 0 0] }
noncomputable def ZIt (b:Bool)(h:Heap)(a l:Addr)(i:Nat):Prop:=∃ o,h.get? a=some o/\o.cls=.type (cond b "tuple_iterator" "list_iterator")/\o.data=.fields #[.ref l,.int i 0]
theorem ZIt.at {b:Bool}{h h':Heap}{a l:Addr}{i:Nat}(x:ZIt b h a l i)(k:∀ o,h.get? a=some o->h'.get? a=some o):ZIt b h' a l i:=let ⟨o,e,r⟩:=x;⟨o,k o e,r⟩
noncomputable def ZIn (b:Bool)(h:Heap)(a:Addr)(xs:Array Value):Prop:=cond b (h.IsTuple a xs) (h.IsList a xs)
noncomputable def Fc (b:Bool)(K:Om)(H:Hp)(a:Addr)(xs:List V):Prop:=cond b (SqT K H a xs) (SqL K H a xs)
theorem ZIn.lt {b:Bool}{h:Heap}{a:Addr}{xs:Array Value}(x:ZIn b h a xs):a < h.objs.size:=by
 cases b <;> exact let ⟨_,e,_⟩:=id x;Ow e
theorem ZIn.push {b:Bool}{h:Heap}{a:Addr}{xs:Array Value}(x:ZIn b h a xs)(o:Obj):ZIn b (h.push o) a xs:=by
 cases b
 ·exact Vx x _
 ·obtain ⟨o,e,r⟩:=id x
  exact ⟨o,Ou _ e,r⟩
theorem Same.sqZ {b:Bool}{K:Om}{H H':Hp}{a:Addr}{xs:List V}(m:Same H H')(x:Fc b K H a xs):Fc b K H' a xs:=by
 cases b
 ·exact m.seq x
 ·exact m.tup x
theorem Inv.zin {X:Cx}{pins:List (Addr×Obj)}{σ:St}{H:Hp}{s:Shared}{b:Bool}{a:Addr}{xs:List V}(I:Inv X pins σ H s)(x:Fc b X.K H a xs):∃ its,Vals xs its/\ZIn b s.heap a its.toArray:=by
 cases b
 ·obtain ⟨its,rv,pl,hz⟩:=I.list x
  exact ⟨its,rv,pl.isList⟩
 ·obtain ⟨its,rv,pl,hz⟩:=I.tuple x
  exact ⟨its,rv,pl⟩
theorem Inv.zsz {X:Cx}{pins:List (Addr×Obj)}{σ:St}{H:Hp}{s:Shared}{b:Bool}{a:Addr}{xs:List V}(I:Inv X pins σ H s)(x:Fc b X.K H a xs):xs.length<=sizeLine:=by
 cases b
 ·obtain ⟨its,rv,pl,hz⟩:=I.list x
  have:=rv.length
  omega
 ·obtain ⟨its,rv,pl,hz⟩:=I.tuple x
  have:=rv.length
  omega
theorem Kp {prog:Program}{w:World}{A:Around}(b:Bool)(hh:A.handled=none)(it l:Addr)(hne:l≠it)(items:Array Value) :
  Draws prog w A it [it,l] items.size (fun i v=>items[i]?=some v) (fun i h=>ZIt b h it l i/\ZIn b h l items):=by
 cases b
 ·exact Draws.list hh it l hne items
 ·exact Zal hh it l hne items
theorem Zgo {prog:Program}{w:World}{A:Around}{E:Value->Shared->Prop}{s:Shared}{b:Bool}{a:Addr}{xs:Array Value}{Q:Value->Shared->Prop}(q:ZIn b s.heap a xs)
  (h:Q (.ref s.heap.objs.size) { s with heap:=s.heap.push (itZ b a) }):wpAny (model prog w) A (pyIter (.ref a)) Q E s:=by
 cases b
 ·exact Ua q h
 ·exact Sm q h
noncomputable abbrev zl1 (b:Bool)(h:Heap)(l1:Addr):Heap:=h.push (itZ b l1)
noncomputable abbrev zl2 (b gg:Bool)(h:Heap)(l1 l2:Addr):Heap:=(zl1 b h l1).push (itZ gg l2)
noncomputable abbrev zl3 (b gg:Bool)(h:Heap)(l1 l2:Addr):Heap:=(zl2 b gg h l1 l2).push { cls:=.type "tuple",data:=.seq #[.ref h.objs.size,.ref (zl1 b h l1).objs.size] }
noncomputable abbrev zl4 (b gg:Bool)(h:Heap)(l1 l2:Addr):Heap:=(zl3 b gg h l1 l2).push { cls:=.type "tuple",data:=.seq #[.none,.none] }
noncomputable abbrev Ft (b gg:Bool)(h:Heap)(l1 l2:Addr):Heap:=(zl4 b gg h l1 l2).push { cls:=.type "zip",data:=.fields #[.none,.bool false,.bool false,.ref (zl2 b gg h l1 l2).objs.size,.ref (zl3 b gg h l1 l2).objs.size] }
theorem Zll (b gg:Bool)(l1 l2:Addr)(xs ys:Array Value) :
  Meets (Builtin.«zip.__new__» ⟨[.type "zip",.ref l1,.ref l2],[]⟩) (fun _ R s=>ZIn b s.heap l1 xs/\ZIn gg s.heap l2 ys/\R (.ok (.ret (.ref (zl4 b gg s.heap l1 l2).objs.size))) { s with heap:=Ft b gg s.heap l1 l2 }) :=
 .of_wp fun prog w A R s h=>by
  obtain ⟨hp,g,d,tk,os⟩:=s;obtain ⟨hl1,hl2,h⟩:=h
  have hsub:=sub_zip
  have q1:ZIn b (Shared.heap ⟨hp,g,d,tk,os⟩) l1 xs:=hl1
  have q2:ZIn gg (Shared.heap ⟨hp.push (itZ b l1),g,d,tk,os⟩) l2 ys:=hl2.push _
  wp_walk using Zgo q1,Zgo q2
  exact ⟨_,rfl,h⟩
theorem Zgz {b gg:Bool}{prog:Program}{w:World}{A:Around}{E:Value->Shared->Prop}{s:Shared}{l1 l2:Addr}{xs ys:Array Value}{Q:Value->Shared->Prop}(hl1:ZIn b s.heap l1 xs)(hl2:ZIn gg s.heap l2 ys)
  (h:∀ h',IsZip h' (s.heap.objs.size+4) (s.heap.objs.size+2) (s.heap.objs.size+3) .none->IsPair h' (s.heap.objs.size+2) (.ref s.heap.objs.size) (.ref (s.heap.objs.size+1)) ->
   IsPair h' (s.heap.objs.size+3) .none .none->ZIt b h' s.heap.objs.size l1 0->ZIt gg h' (s.heap.objs.size+1) l2 0->h'.objs.size=s.heap.objs.size+5 ->
   (∀ c o,s.heap.get? c=some o->h'.get? c=some o)->Q (.ref (s.heap.objs.size+4)) { s with heap:=h' }) :
  wpAny (model prog w) A (call (.type "zip") [.ref l1,.ref l2]) Q E s:=by
 refine callType_new PySem.F.called_zip (by decide) (PySem.F.typeCall_zip_2 _ _) (PySem.F.newCall_zip_2 _ _) (fun obj=>PySem.F.args_object_init_3 obj _ _) PySem.F.entry_zip_new (Zll b gg l1 l2 xs ys) ⟨hl1,hl2,?_⟩
 have y1:(zl1 b s.heap l1).objs.size=s.heap.objs.size+1:=Pz ..
 have y2:(zl2 b gg s.heap l1 l2).objs.size=s.heap.objs.size+2:=by rw [Pz,y1]
 have y3:(zl3 b gg s.heap l1 l2).objs.size=s.heap.objs.size+3:=by rw [Pz,y2]
 have y4:(zl4 b gg s.heap l1 l2).objs.size=s.heap.objs.size+4:=by rw [Pz,y3]
 have y5:(Ft b gg s.heap l1 l2).objs.size=s.heap.objs.size+5:=by rw [Pz,y4]
 have u5:(Ft b gg s.heap l1 l2).get? (zl4 b gg s.heap l1 l2).objs.size=some _:=O4 _ rfl
 have u4:(Ft b gg s.heap l1 l2).get? (zl3 b gg s.heap l1 l2).objs.size=some _:=Ou _ (O4 _ rfl)
 have u3:(Ft b gg s.heap l1 l2).get? (zl2 b gg s.heap l1 l2).objs.size=some _:=Ou _ (Ou _ (O4 _ rfl))
 have u2:(Ft b gg s.heap l1 l2).get? (zl1 b s.heap l1).objs.size=some _:=Ou _ (Ou _ (Ou _ (O4 _ rfl)))
 have u1:(Ft b gg s.heap l1 l2).get? s.heap.objs.size=some _:=Ou _ (Ou _ (Ou _ (Ou _ (O4 _ rfl))))
 show _/\_
 rw [y2,y3,y4] at u5
 rw [y1,y2] at u3
 rw [y3] at u4
 rw [y1] at u2
 rw [y4]
 exact ⟨⟨_,u5,rfl⟩,h _ u5 u3 u4 ⟨_,u1,rfl,rfl⟩ ⟨_,u2,rfl,rfl⟩ y5 fun c o x=>Ou _ (Ou _ (Ou _ (Ou _ (Ou _ x))))⟩
noncomputable def Zaq (H:Hp)(xs ys zs:List V):Prop:=∀(j:Nat)(z:V),zs[j]?=some z->∃(t:Addr)(x y:V),z=V.ref t/\xs[j]?=some x/\ys[j]?=some y/\H t=some (.tup [x,y])
noncomputable def JZp (f gg:Bool)(K:Om)(H0:Hp)(z TI TO i1 i2 a b:Addr)(xs ys:List V):Nat->List V->Hp->Heap->Prop:=fun i zs H h =>
 ZpSt h z TI TO i1 i2 i/\(IsPair h TI (.ref i1) (.ref i2)/\∃ o,h.get? TO=some o)/\ZIt f h i1 a i/\ZIt gg h i2 b i/\(∀ c∈[z,TI,TO,i1,i2],H c=none)/\zs.length=i/\Zaq H xs ys zs/\Same H0 H
theorem Zqh:typeLookup (.type "zip") "__len__" = pure none:=by rw [Ul,Tx];kernel_rfl
theorem Zpn:typeLookup (.type "zip") "__length_hint__" = pure none:=by rw [Ul,Tx];kernel_rfl
theorem Zm6 {f gg:Bool}{X:Cx}{pins:List (Addr×Obj)}{σ:St}{H0:Hp}{z TI TO i1 i2 a b:Addr}{xs ys:List V}(fp:∀ c∈[z,TI,TO,i1,i2],FpOk X pins H0 c)(D:ZB z TI TO i1 i2 a b)(ha:Fc f X.K H0 a xs)(hb:Fc gg X.K H0 b ys) :
  Src X pins σ z "zip" (min xs.length ys.length) H0 (JZp f gg X.K H0 z TI TO i1 i2 a b xs ys) where
 ty:=fun i zs H h j=>by
  obtain ⟨vs,e⟩:=j.1.obj
  exact ⟨_,e,rfl⟩
 nl:=by decide
 hint:=⟨_,fun A s Q E hT h=>Zgf hT Zqh Zpn h⟩
 self:=fun A s zs H Q E j q=>by
  rcases j.1 with ⟨_,e,_⟩ | ⟨z,_⟩
  ·exact wpAny_pyIter_zip e q
  ·exact absurd z (Qk _)
 keep:=fun i zs H h h' S us us' h0 hS j k al=>by
  obtain ⟨j1,⟨j2,jT⟩,j3,j4,j5,j6,j7,j8⟩:=j
  have ne:∀ c∈[z,TI,TO,i1,i2],c≠S:=fun c hc e=>by
   have:=j5 c hc
   rw [e,hS] at this
   cases this
  refine ⟨?_,⟨k _ _ (ne TI (by simp)) j2,let ⟨o,e⟩:=jT;⟨o,k _ _ (ne TO (by simp)) e⟩⟩,j3.at fun o e=>k _ _ (ne i1 (by simp)) e,j4.at fun o e=>k _ _ (ne i2 (by simp)) e,fun c hc=>by rw [Ai (ne c hc)];exact j5 c hc,j6,fun m y hy=>?_,j8.over h0⟩
  ·rcases j1 with ⟨z0,e,u,v,e2⟩ | ⟨z0,a0,oa,f1,e,ea,x1,x2,x3⟩
   ·exact .inl ⟨z0,k _ _ (ne z (by simp)) e,u,v,k _ _ (ne TO (by simp)) e2⟩
   ·by_cases hs:a0=S
    ·subst hs
     obtain ⟨o,eo⟩:=al
     exact .inr ⟨z0,a0,o,f1,k _ _ (ne z (by simp)) e,eo,x1,x2,x3⟩
    ·exact .inr ⟨z0,a0,oa,f1,k _ _ (ne z (by simp)) e,k _ _ hs ea,x1,x2,x3⟩
  ·obtain ⟨t,x,y',e1,e2,e3,e4⟩:=j7 m y hy
   exact ⟨t,x,y',e1,e2,e3,by rw [Ai (Fz e4 hS (by intro z;cases z))];exact e4⟩
 fresh:=fun i zs H h j=>j.2.2.2.2.1 z (by simp)
 item:=fun A i s H zs E hh hi I j=>by
  obtain ⟨j1,⟨j2,jT⟩,j3,j4,j5,j6,j7,j8⟩:=j
  obtain ⟨its,rv,p⟩:=I.zin (j8.sqZ ha)
  obtain ⟨its2,rv2,p2⟩:=I.zin (j8.sqZ hb)
  have g1:=rv.length
  have g2:=rv2.length
  have l1:i < xs.length:=by omega
  have l2:i < ys.length:=by omega
  have D1:=Kp (prog:=X.prog) (w:=X.w) (A:=A.in1) f hh i1 a D.a1 its.toArray
  have D2:=Kp (prog:=X.prog) (w:=X.w) (A:=A.in1) gg hh i2 b D.b2 its2.toArray
  refine Zi3 D1 D2 D.za j1 j2 jT ⟨j3,p⟩ ⟨j4,p2⟩ (by rw [Ot];omega) (by rw [Ot];omega) fun x y h' tk px py a1 aT a2 a3 a4 a5 a6=>?_
  have hx':its[i]?=some x:=by simpa using px
  have hy':its2[i]?=some y:=by simpa using py
  obtain ⟨u1,hu1,ru1⟩:=rv.get (Oo l1)
  obtain ⟨u2,hu2,ru2⟩:=rv2.get (Oo l2)
  rw [hx'] at hu1
  cases hu1
  rw [hy'] at hu2
  cases hu2
  have hf:H s.heap.objs.size=none:=I.hok.fresh (Os _)
  have fpH:∀ c∈[z,TI,TO,i1,i2],FpOk X pins H c:=fun c hc=>(fp c hc).of (j5 c hc)
  have kk:∀ c o,c ∉ [z,TI,TO,i1,i2]->s.heap.get? c=some o->h'.get? c=some o:=fun c o hc e=>by
   simp only [Oy,Pw,or_false,not_or] at hc
   exact a6 c o hc.1 hc.2.2.1 hc.2.2.2.1 hc.2.2.2.2 e
  have I2:=I.pairL (tk:=tk) (T:=s.heap.objs.size) (xs:=[xs[i],ys[i]]) (its:=[x,y]) fpH kk (Os _) (.cons ru1 (.cons ru2 .nil)) (by show 2<=sizeLine;decide) ⟨_,a4,rfl,_,rfl⟩
  have sm:Same H (upd H s.heap.objs.size (.tup [xs[i],ys[i]])):=Same.upd hf
  have lt:∀{c o},s.heap.get? c=some o->c≠s.heap.objs.size:=fun e=>O1 (Ow e)
  have nw:∀ c∈[z,TI,TO,i1,i2],c≠s.heap.objs.size:=fun c hc=>by
   simp only [Oy,Pw,or_false] at hc
   rcases hc with rfl | rfl | rfl | rfl | rfl
   ·obtain ⟨_,e⟩:=j1.obj;exact lt e
   ·exact lt j2
   ·obtain ⟨_,e⟩:=jT;exact lt e
   ·obtain ⟨_,e,_⟩:=j3;exact lt e
   ·obtain ⟨_,e,_⟩:=j4;exact lt e
  refine ⟨_,.ref s.heap.objs.size,_,rfl,rfl,I2,⟨a1,⟨a6 _ _ D.TIz D.TITO D.TI1 D.TI2 j2,aT⟩,a2.1,a3.1,fun c hc=>by rw [Ai (nw c hc)];exact j5 c hc,by simp [j6],fun m y hy=>?_,j8.trans sm⟩,fun S us e=>sm S _ e⟩
  by_cases hm:m < i
  ·rw [Qx (by omega)] at hy
   obtain ⟨t,x,y',e1,e2,e3,e4⟩:=j7 m y hy
   exact ⟨t,x,y',e1,e2,e3,sm _ _ e4⟩
  ·have hlen:=(O3.mp hy).1
   rw [O2,Qo] at hlen
   have:m=i:=by omega
   subst this
   rw [Qw (by omega),j6,Q7] at hy
   have hy:V.ref s.heap.objs.size=y:=by simpa using hy
   exact ⟨_,xs[m],ys[m],hy.symm,Oo l1,Oo l2,Ad⟩
 done:=fun A s H zs E hh I j=>by
  obtain ⟨j1,⟨j2,jT⟩,j3,j4,j5,j6,j7,j8⟩:=j
  obtain ⟨its,rv,p⟩:=I.zin (j8.sqZ ha)
  obtain ⟨its2,rv2,p2⟩:=I.zin (j8.sqZ hb)
  have g1:=rv.length
  have g2:=rv2.length
  have D1:=Kp (prog:=X.prog) (w:=X.w) (A:=A.in1) f hh i1 a D.a1 its.toArray
  have D2:=Kp (prog:=X.prog) (w:=X.w) (A:=A.in1) gg hh i2 b D.b2 its2.toArray
  have fpH:∀ c∈[z,TI,TO,i1,i2],FpOk X pins H c:=fun c hc=>(fp c hc).of (j5 c hc)
  refine Zkc D1 D2 D.za j1 j2 ⟨j3,p⟩ ⟨j4,p2⟩ (by simp only [Ot];omega) fun h' tk kk=>⟨rfl,I.turnedL (fun c o hc e=>?_) fpH⟩
  simp only [Oy,Pw,or_false,not_or] at hc
  exact kk c o hc.1 hc.2.2.1 hc.2.2.2.1 hc.2.2.2.2 e
section
variable {X:Cx}
noncomputable def Zfy (f gg:Bool)(K:Om)(ta:TA):TE:=fun σ H Q=>ta σ H fun vs H1=>∃ a b xs ys,vs=[.ref a,.ref b]/\Fc f K H1 a xs/\Fc gg K H1 b ys /\
 ∀(S:Addr)(zs:List V)(H2:Hp),H1 S=none->Same H1 H2->zs.length=min xs.length ys.length->Zaq H2 xs ys zs->H2 S=some (.lst zs)->Q (.ref S) H2
theorem Zm5 (f gg:Bool)(K:Om){e e2:Expr}{ta:TA}{p p2 pos pos2:Pos}(hg:Gl X "list")(hm:X.mg "list" = none)(hg2:Gl X "zip")(hm2:X.mg "zip" = none)(ha:QA X [e,e2] ta)(hK:X.K=K:=by rfl)(hc:X.calm=true:=by rfl)
  (hs:starEach [.Call (.Name "zip" p2) [e,e2] [] pos2] X.env=[(false,eval (.Call (.Name "zip" p2) [e,e2] [] pos2) X.env)]:=by rfl) (hs2:starEach [e,e2] X.env=[(false,eval e X.env),(false,eval e2 X.env)]:=by rfl) (hs3:starEach [e2] X.env=[(false,eval e2 X.env)]:=by rfl) :
  QE X (.Call (.Name "list" p) [.Call (.Name "zip" p2) [e,e2] [] pos2] [] pos) (Zfy f gg K ta):=by
 subst hK
 refine ⟨fun pins s σ H Q I h=>?_⟩
 refine Call_ (Dx I hg hm Zc4 (Q3 ?_ hs rfl))
 rw [hs]
 show wpAny _ _ (spliced ((false,eval (.Call (.Name "zip" p2) [e,e2] [] pos2) X.env)::[])) _ _ s
 refine Vn ?_
 refine Call_ (Dx I hg2 hm2 PyProof.Rows.boot_zip (Q3 (Ah (ha.run pos2 pins s σ H _ I h) fun us s1 ⟨vs,H1,I1,r1,q1⟩=>?_) (by rw [hs2,hs3]) (by rw [hs3];rfl)))
 obtain ⟨a,b,xs,ys,e1,hq,hq2,q⟩:=q1
 subst e1
 obtain ⟨u,v,rfl,ru,rv⟩:=r1.two
 cases ru
 cases rv
 obtain ⟨its,rv,pl⟩:=I1.zin hq
 obtain ⟨its2,rv2,pl2⟩:=I1.zin hq2
 have hz2:=I1.zsz hq2
 have lt1:a < s1.heap.objs.size:=pl.lt
 have lt2:b < s1.heap.objs.size:=pl2.lt
 refine Zgz pl pl2 fun h' a1 a2 a3 a4 a5 a6 hk=>?_
 refine Vq ?_
 have fr:∀ k,FpOk X pins H1 (s1.heap.objs.size+k):=fun k=>I1.fpOk (Su _ _) (I1.hok.fresh (Su _ _))
 have fp:∀ c∈[s1.heap.objs.size+4,s1.heap.objs.size+2,s1.heap.objs.size+3,s1.heap.objs.size,s1.heap.objs.size+1],FpOk X pins H1 c:=fun c hc=>by
  simp only [Oy,Pw,or_false] at hc
  rcases hc with rfl | rfl | rfl | rfl | rfl
  ·exact fr 4
  ·exact fr 2
  ·exact fr 3
  ·exact fr 0
  ·exact fr 1
 have C:=Zm6 (X:=X) (pins:=pins) (σ:=σ) (H0:=H1) fp (Zrg lt1 lt2) hq hq2
 have I2:Inv X pins σ H1 { s1 with heap:=h' }:=I1.kept (t':=s1.toks) hk
 refine Zce C (by omega) (I1.ok.hd hc) I2 ⟨.inl ⟨rfl,a1,_,_,a3⟩,⟨a2,_,a3⟩,a4,a5,fun c hc=>(fp c hc).1,rfl,fun j y hy=>by simp at hy,Same.refl _⟩ (fun S hge hS h2 k2=>?_) fun S H' zs hS hS' hl' hj=>?_
 ·have sm:Same H1 (upd H1 S (.lst [])):=Same.upd hS
  refine ⟨.inl ⟨rfl,k2 _ _ a1,_,_,k2 _ _ a3⟩,⟨k2 _ _ a2,_,k2 _ _ a3⟩,a4.at fun o e=>k2 _ _ e,a5.at fun o e=>k2 _ _ e,fun c hc=>?_,rfl,fun j y hy=>by simp at hy,sm⟩
  have hge:h'.objs.size<=S:=hge
  rw [Ai (show c≠S from fun z=>?_)]
  ·exact (fp c hc).1
  ·simp only [Oy,Pw,or_false] at hc
   rcases hc with rfl | rfl | rfl | rfl | rfl <;> exact absurd z (O1 (O9 (by omega) hge))
 ·obtain ⟨h,j⟩:=hj
  exact q S zs H' hS j.2.2.2.2.2.2.2 hl' j.2.2.2.2.2.2.1 hS'
noncomputable abbrev Zev:=Zfy true false
theorem Zn0 (K:Om){e e2:Expr}{ta:TA}{p p2 pos pos2:Pos}(hg:Gl X "list")(hm:X.mg "list" = none)(hg2:Gl X "zip")(hm2:X.mg "zip" = none)(ha:QA X [e,e2] ta)(hK:X.K=K:=by rfl)(hc:X.calm=true:=by rfl)
  (hs:starEach [.Call (.Name "zip" p2) [e,e2] [] pos2] X.env=[(false,eval (.Call (.Name "zip" p2) [e,e2] [] pos2) X.env)]:=by rfl) (hs2:starEach [e,e2] X.env=[(false,eval e X.env),(false,eval e2 X.env)]:=by rfl) (hs3:starEach [e2] X.env=[(false,eval e2 X.env)]:=by rfl) :
  QE X (.Call (.Name "list" p) [.Call (.Name "zip" p2) [e,e2] [] pos2] [] pos) (Zev K ta):=Zm5 true false K hg hm hg2 hm2 ha hK hc hs hs2 hs3
theorem s_listzp {K:Om}{ta:TA}{σ:St}{H:Hp}{Q:VK}(h:ta σ H fun vs H1=>∃ a b xs ys,vs=[.ref a,.ref b]/\SqT K H1 a xs/\SqL K H1 b ys /\
 ∀(S:Addr)(zs:List V)(H2:Hp),H1 S=none->Same H1 H2->zs.length=min xs.length ys.length->Zaq H2 xs ys zs->H2 S=some (.lst zs)->Q (.ref S) H2):Zev K ta σ H Q:=h
end
section
variable {X:Cx}
end
noncomputable def CXR (P:Program)(w:World):Bz:=fun outer H s E ev s'=>∃(e T:Addr)(cls:Value)(od:Option Addr)(H':Hp),ev=.ref e/\s'.os=s.os/\AllBare s'.gens/\Un (Cd outer) [] H H' s.heap s'.heap/\HOk P w H' s'.heap /\
 s.heap.get? e=none/\s.heap.get? T=none/\H' e=none/\H' T=none/\Lies s'.heap e T cls od/\E cls od H'
section
variable {X:Cx}{pins:List (Addr×Obj)}{σ:St}{H:Hp}{s:Shared}
end
section
variable {P:Program}{w:World}{K:Om}{mg:Str->Option Value}{base:Heap}{N:List Str}{qual:Str}{scope:Scope}{f:Addr}{cd:Value}{A:Around}{outer:List Env}{s0:Shared}{H0:Hp}{E:XK}
end
section
variable {P:Program}{w:World}{K:Om}{mg:Str->Option Value}{base:Heap}
end
section
variable {X:Cx}{k:Nat}{x:Str}{ps:List Str}{sp:Sp}{p pos np cpos:Pos}{e:Expr}{es:List Expr}{t:TA}{E:XK}
end
section
variable {X:Cx}{pins:List (Addr×Obj)}{σ:St}{H:Hp}{s:Shared}
end
section
variable {X:Cx}{k:Nat}{x:Str}{ps:List Str}{sp:Sp}{p pos np cpos:Pos}{e:Expr}{es:List Expr}{t:TA}
end
section
variable {X:Cx}{pins:List (Addr×Obj)}{σ:St}{H:Hp}{s:Shared}
end
section
variable {X:Cx}{c n:Str}{np hpos pos:Pos}{body hbody:List Stmt}{b₀:Stmt}{tb:TXS}{th:TS}{i:Nat}{C:Addr}
end
section
open PySem.W PySem.Builtin PySem.Builtin.ObjectAttr
variable {prog:Program}{w:World}{A:Around}{E:Value->Shared->Prop}{s:Shared}{K:Frag}{x C:Addr}{ox:Obj}{od:Option Obj}{name:Str}{R:Result->Shared->Prop}
end
section
variable {X:Cx}{pins:List (Addr×Obj)}{σ:St}{H:Hp}{s:Shared}
end
section
variable {X:Cx}{pins:List (Addr×Obj)}{σ:St}{H:Hp}{s:Shared}{a C:Addr}{f:Str}{A:Around}{E:Value->Shared->Prop}
open PySem.W PySem.Builtin PySem.Builtin.ObjectAttr
end
section
variable {X:Cx}{o e value:Expr}{f:Str}{pos pos':Pos}{ta tv:TE}
end
section
open PySem.W
end
section
variable {prog:Program}{w:World}{A:Around}{E:Value->Shared->Prop}{h:Heap}{g:Array GenState}{d:Drawn}{t:Nat}{os:OsState}
variable {nm q:Str}{C N:Addr}{bs bm bmB:List Value}{hdct:Bool}{sn:List Str}{sub:List Value}{ab:Bool}{col:Option Bool}{dd:Option Addr}{k0 k1 k2 k3 k5:Option Value}{B Bn newId nid initId inN:String}{bmN:List Value}
end
section
variable {X:Cx}{k:Nat}{x:Str}{sp:Sp}{ps:List Str}{C f:Addr}{fd:FuncData}{np cpos pos:Pos}{a:Expr}{t:TA}{E:XK}
end
section
variable {P:Program}{w:World}{K:Om}{mg:Str->Option Value}{base:Heap}
end
section
variable {X:Cx}{k:Nat}{x:Str}{ps:List Str}{sp:Sp}{p pos:Pos}{e:Expr}{es:List Expr}{t:TA}
end
section
open PySem.W PySem.Builtin PySem.Builtin.ObjectAttr
variable {prog:Program}{w:World}{A:Around}{E:Value->Shared->Prop}{s:Shared}{K:Frag}{x D:Addr}{ox:Obj}{od:Option Obj}
end
section
variable {X:Cx}{pins:List (Addr×Obj)}{σ:St}{H:Hp}{s:Shared}{a C':Addr}{od:Option Addr}
end
section
variable {X:Cx}
end
end L2
namespace L2
open PySem
section
variable {g:TG}{tt:TT}{te:TE}{σ0:St}{H1:Hp}{D:Addr}{Q:VK}
end
end L2
namespace L2
open PySem PySem.Spec PyProof.Rows
section
variable {X:Cx}
end
section
variable {prog:Program}{w:World}{A:Around}{E:Value->Shared->Prop}{s:Shared}
end
section
variable {X:Cx}
end
section
variable {g:TG}{tt:TT}{te:TE}{σ0:St}{H1:Hp}{D:Addr}{Q:VK}
end
section
variable {X:Cx}
end
theorem Zin:fillsNumberSlot (.type "tuple") "mul" = pure false :=
 PySem.fillsNumberSlot_seq (id := "tuple.__mul__") (r:=some (.builtin "tuple.__rmul__")) Sh.lookup (by decide +kernel) PySem.F.slot_tuple_rmul.lookup (by decide +kernel)
theorem Zkw:seqRepeat? (.type "tuple")=pure (some (.builtin "tuple.__mul__")):=by
 unfold seqRepeat?
 rw [PySem.seqSlot_of (T := "tuple") (name := "__mul__") (id := "tuple.__mul__") Sh.lookup (by decide +kernel),PySem.seqSlot_of (T := "tuple") (name := "__rmul__") (id := "tuple.__rmul__") PySem.F.slot_tuple_rmul.lookup (by decide +kernel)]
 rfl
theorem Zj4 (a:Int)(t:Tok)(l:Addr)(items:Array Value)(n:Nat)(dd:Option Addr)(sl:Array (Option Value)) :
  Meets (Builtin.«int.__rmul__» ⟨[.int a t,.ref l],[]⟩) (fun _ R s=>s.heap.get? l=some { cls:=.type "tuple",dict:=dd,data:=.seq items n,slots:=sl }/\R (.ok (.ret Value.notImplemented)) s) :=
 .of_wp fun prog w A R s h=>by obtain ⟨hp,g,d,tk,os⟩:=s;obtain ⟨hl,h⟩:=h;wp_walk;exact ⟨_,rfl,h⟩
theorem Zox (l:Addr)(items:Array Value)(n:Nat)(dd:Option Addr)(sl:Array (Option Value))(u:Tok) :
  Meets (Builtin.«tuple.__mul__» ⟨[.ref l,.int 1 u],[]⟩) (fun _ R s=>s.heap.get? l=some { cls:=.type "tuple",dict:=dd,data:=.seq items n,slots:=sl }/\R (.ok (.ret (.ref l))) s) :=
 .of_wp fun prog w A R s h=>by obtain ⟨hp,g,d,tk,os⟩:=s;obtain ⟨hl,h⟩:=h;wp_walk;exact ⟨_,rfl,h⟩
theorem Zkz (l:Addr)(items:Array Value)(n:Nat)(dd:Option Addr)(sl:Array (Option Value))(u:Tok)(hne:¬ items.isEmpty=true) :
  Meets (Builtin.«tuple.__mul__» ⟨[.ref l,.int 0 u],[]⟩) (fun _ R s=>s.heap.get? l=some { cls:=.type "tuple",dict:=dd,data:=.seq items n,slots:=sl }/\R (.ok (.ret (.ref s.heap.objs.size))) { s with heap:=s.heap.push { cls:=.type "tuple",data:=.seq #[] } }) :=
 .of_wp fun prog w A R s h=>by obtain ⟨hp,g,d,tk,os⟩:=s;obtain ⟨hl,h⟩:=h;wp_walk;exact ⟨_,rfl,h⟩
theorem Zjq (l:Addr)(items:Array Value)(n:Nat)(dd:Option Addr)(sl:Array (Option Value))(u:Tok)(x:Int)(h2:2<=x)(hx:x < 2 ^ 62)(hne:items.isEmpty=false)(hz:(items.size:Int) * x<=1000)(hs:¬ ((O0 x.toNat items).foldl (·++·) #[]).size > sizeLine) :
  Meets (Builtin.«tuple.__mul__» ⟨[.ref l,.int x u],[]⟩) (fun _ R s=>s.heap.get? l=some { cls:=.type "tuple",dict:=dd,data:=.seq items n,slots:=sl }/\R (.ok (.ret (.ref s.heap.objs.size))) { s with heap:=s.heap.push { cls:=.type "tuple",data:=.seq ((O0 x.toNat items).foldl (·++·) #[]) } }) :=
 .of_wp fun prog w A R s h=>by
  obtain ⟨hp,g,d,tk,os⟩:=s;obtain ⟨hl,h⟩:=h
  have c0:(decide (x < -2 ^ 63) || decide (x ≥ 2 ^ 63))=false:=by
   have a:¬ x < -2 ^ 63:=by omega
   have b:¬ x ≥ 2 ^ 63:=by omega
   rw [decide_eq_false a,decide_eq_false b];rfl
  have c1:(items.isEmpty || x == 1)=false:=by
   have b:¬ x=1:=by omega
   rw [hne]
   simp [b]
  have c2:(decide (x<=0) || items.isEmpty)=false:=by
   have b:¬ x<=0:=by omega
   rw [hne,decide_eq_false b];rfl
  have c3:¬ ((items.size:Int) * x > (2 ^ 63 - 1) / 8):=by omega
  have c4:Builtin.Tuple.tupleTooMany ((items.size:Int) * x)=false:=by
   unfold Builtin.Tuple.tupleTooMany
   have:(100000:Nat)<=sizeLine:=by decide
   exact decide_eq_false (by omega)
  wp_walk
  refine Uo (by rw [c0];rfl) ?_
  wp_walk
  refine Uo (by rw [c1];rfl) ?_
  wp_walk
  refine Uo (by rw [c2];rfl) ?_
  wp_walk
  refine Uo (decide_eq_false c3) ?_
  wp_walk
  exact ⟨_,rfl,h⟩
section
variable {X:Cx}
noncomputable def Zer (K:Om):R2:=fun x y H Q=>∃ l k xs,x=.ref l/\y=.int k/\SqT K H l xs/\xs≠[]/\0<=k/\k < 2 ^ 62/\(xs.length:Int) * k<=1000/\∀ r H',Same H H'->SqT K H' r (O0 k.toNat xs).flatten->Q (.ref r) H'
theorem Zix (K:Om)(hK:X.K=K:=by rfl):OpR X (binaryOp .Mult) (Zer K):=by
 subst hK
 intro pins s σ H x y v u Q I rx ry h
 obtain ⟨l,k,xs,rfl,rfl,hH,hne,h0,h1,hz,q⟩:=h
 cases rx
 obtain ⟨t,rfl⟩:=ry
 obtain ⟨its,r,p,_⟩:=I.tuple hH
 have hl:=r.length
 obtain ⟨⟨cls,dd,data,sl⟩,e,hc,n,hd⟩:=id p
 simp only at hc hd
 subst hc hd
 have hz':(its.toArray.size:Int) * k<=1000:=by rw [Ot,<- hl];exact hz
 have hem:its.toArray.isEmpty=false:=by
  cases its with
  | nil=>cases xs with | nil=>exact absurd rfl hne | cons a b=>simp at hl
  | cons a b=>simp
 have go:∀ Q':Value->Shared->Prop,wpAny (model X.prog X.w) X.A (call (.builtin "tuple.__mul__") [.ref l,.int k t]) Q' X.xe s->wpAny (model X.prog X.w) X.A (binaryOp .Mult (.ref l) (.int k t)) Q' X.xe s:=fun Q' hh =>
  wpAny_binaryOp_repeat_ref (T := "tuple") (U := "int") (by decide) ⟨_,e,rfl⟩ (fun s'=>Tc s' k t) Zin PySem.F.fills_int_mul PySem.F.slot_int_rmul Zkw PySem.F.slot_int_index.lookup
   (Q9 PySem.F.slot_int_rmul (Tc s k t) PySem.F.entry_int_rmul (PySem.F.args_int_rmul_2 _ _) (Zj4 k t l its.toArray n dd sl) ⟨e,rfl,⟨_,e,rfl⟩,hh⟩)
 by_cases k1:k=1
 ·subst k1
  refine go _ (Q9 Sh ⟨_,e,rfl⟩ Vb (U9 _ _) (Zox l its.toArray n dd sl t) ⟨e,?_⟩)
  exact ⟨.ref l,H,I,rfl,q l H (Same.refl _) (by show SqT X.K H l (O0 1 xs).flatten;simpa using hH)⟩
 by_cases k0:k=0
 ·subst k0
  refine go _ (Q9 Sh ⟨_,e,rfl⟩ Vb (U9 _ _) (Zkz l its.toArray n dd sl t (by rw [hem];exact Oz)) ⟨e,?_⟩)
  refine ⟨.ref _,_,I.laid (t':=s.toks) (o:=.tup []) (fun b ob q=>Ou _ q) (Os _) ⟨by show 0<=sizeLine;decide,[],.nil,⟨_,O4 _ rfl,rfl,_,rfl⟩⟩,rfl,q _ _ (Same.upd I.fresh) (SqT.of Ad)⟩
 ·have hnew:Td (fun x1 x2=>x1++x2) #[] (O0 k.toNat its.toArray)=(O0 k.toNat its).flatten.toArray:=by
   have:=Oe its k.toNat []
   rw [Q5] at this
   exact this
  have hlen:(O0 k.toNat xs).flatten.length<=sizeLine:=by
   rw [Li]
   have:(100000:Nat)<=sizeLine:=by decide
   have e:((k.toNat * xs.length:Nat):Int)=(xs.length:Int) * k:=by rw [Int.natCast_mul,Int.toNat_of_nonneg h0,Int.mul_comm]
   omega
  have hs:¬ ((O0 k.toNat its.toArray).foldl (·++·) #[]).size > sizeLine:=by
   have h':Td (fun x1 x2=>x1++x2) #[] (O0 k.toNat its.toArray)=(O0 k.toNat its).flatten.toArray:=hnew
   rw [h',Ot,Li,<- hl]
   rw [Li] at hlen
   omega
  refine go _ (Q9 Sh ⟨_,e,rfl⟩ Vb (U9 _ _) (Zjq l its.toArray n dd sl t k (by omega) h1 hem hz' hs) ⟨e,?_⟩)
  rw [hnew]
  exact ⟨.ref _,_,I.laid (t':=s.toks) (o:=.tup (O0 k.toNat xs).flatten) (fun b ob q=>Ou _ q) (Os _) ⟨hlen,_,r.rep k.toNat,⟨_,O4 _ rfl,rfl,_,rfl⟩⟩,rfl,q _ _ (Same.upd I.fresh) (SqT.of Ad)⟩
theorem Ziv {K:Om}{l:Addr}{k:Int}{xs:List V}{H:Hp}{Q:VK}(hq:SqT K H l xs)(hne:xs≠[])(h0:0<=k)(h1:k < 2 ^ 62)(hz:(xs.length:Int) * k<=1000)(h:∀ r H',Same H H'->SqT K H' r (O0 k.toNat xs).flatten->Q (.ref r) H'):Zer K (.ref l) (.int k) H Q:=⟨l,k,xs,rfl,rfl,hq,hne,h0,h1,hz,h⟩
open PySem.Builtin PySem.Builtin.Str in
end
section
variable {prog:Program}{w:World}{A:Around}{E:Value->Shared->Prop}{s:Shared}
theorem Zel {it t:Addr}{items:Array Value}(hne:t≠it):∀(n i:Nat)(s:Shared)(Q:List Value->Shared->Prop),s.heap.IsListIter it t i->s.heap.IsList t items->i+n<=items.size ->
  (∀ h',h'.IsListIter it t (i+n)->O6 it s.heap h'->Q ((items.toList.drop i).take n) { s with heap:=h' })->wpAny (model prog w) A (draw (.ref it) n) Q E s
 | 0,i,s,Q,hit,_,_,hQ=>by
  show wpAny _ _ (pure []) Q E s
  exact Oq (by simpa using hQ s.heap hit (Vs ..))
 | n+1,i,s,Q,hit,ht,hle,hQ=>by
  have hlt:i < items.size:=by omega
  show wpAny _ _ (pyNext (.ref it) >>= _) Q E s
  refine On (wpAny_pyNext_list_item hit ht (x:=items[i]) (by simp [hlt]) fun h₁ hit₁ hs₁=>?_)
  refine On (P0 (Zel hne n (i+1) _ _ hit₁ (ht.at fun o e=>hs₁.extBut _ _ hne e) (by omega) fun h₂ hit₂ hs₂=>Oq ?_))
  have hd:items.toList.drop i=items[i]::items.toList.drop (i+1):=by simp [Qf,hlt]
  have:=hQ h₂ (by rw [show i+(n+1)=i+1+n by omega];exact hit₂) (hs₁.trans hs₂)
  rw [hd,Rk] at this
  exact this
theorem Zjm {t:Addr}{items:Array Value}{Q:List Value->Shared->Prop}(hh:A.handled=none)(ht:s.heap.IsList t items)
  (hQ:∀ h',Rg s.heap.objs.size s.heap h'->Q items.toList { s with heap:=h' }):wpAny (model prog w) A (unpackItems (.ref t) items.size none) Q E s:=by
 have hlt:t≠s.heap.objs.size:=by obtain ⟨o,ho,_⟩:=ht;exact O1 (Ow ho)
 unfold unpackItems
 refine On ?_
 ·unfold notIterableAtAll
  refine On (Ui ht.typeIs PySem.F.slot_list_iter.lookup ?_)
  refine Oq ?_
  simp only [Rl,if_false]
  refine On (P0 (Ua ht ?_))
  refine On (P0 (Zel hlt items.size 0 _ _ ⟨_,O4 _ rfl,rfl,rfl⟩ (Vx ht _) (by omega) fun h₁ hit₁ hs₁=>?_))
  have hall:List.take items.size (List.drop 0 items.toList)=items.toList:=by
   rw [R8];exact Qi (by simp)
  rw [hall]
  rw [if_neg (by simp)]
  have ht₁:h₁.IsList t items:=(Vx ht _).at fun o e=>hs₁.extBut _ _ hlt e
  refine On (P0 (wpAny_pyNext_list_end hh hit₁ ht₁ (by simp) fun h₂ he₂=>?_))
  simp only [Option.isSome_none,Rl,if_false]
  refine Oq (hQ h₂ fun b o hb e=>he₂ b o hb (hs₁.extBut b o hb (Ou _ e)))
theorem Zi7 {env:Env}{elts:List Expr}{x1}{pos:Pos}{t:Addr}{items:Array Value}{Q:Unit->Shared->Prop}(hh:A.handled=none)(ht:s.heap.IsList t items)
  (hn:(assignEach elts env).length=items.size) (hstar:(assignEach elts env).findIdx? (·.1)=none)
  (h:∀ h',Rg s.heap.objs.size s.heap h'->wpAny (model prog w) A (assignInOrder ((assignEach elts env).map (·.2)) items.toList) Q E { s with heap:=h' }) :
  wpAny (model prog w) A (assign (.Tuple elts x1 pos) env (.ref t)) Q E s:=by
 rw [arm_assign_Tuple]
 refine On (Ut ?_)
 unfold unpack
 rw [hn,hstar]
 exact On (P0 (Zjm hh ht h))
end
noncomputable def Zf7 (K:Om)(n:Nat)(t:Ci):TG:=fun v σ H Q=>∃ a xs,v=.ref a/\SqL K H a xs/\xs.length=n/\t xs σ H Q
section
variable {X:Cx}
theorem Zp6 (K:Om){es:List Expr}{k:Nat}{pos:Pos}{t:Ci}{n:Nat}(hc:X.calm=true)(h:Gf X es t)(hK:X.K=K:=by rfl)(hn:(assignEach es X.env).length=n:=by rfl)(hst:(assignEach es X.env).findIdx? (·.1)=none:=by rfl):QG X (.Tuple es k pos) (Zf7 K n t):=by
 subst hK
 refine ⟨fun pins s σ H v u Q I r hw=>?_⟩
 obtain ⟨a,xs,e1,hq,hl,hw⟩:=hw
 subst e1
 cases r
 obtain ⟨its,rv,ht,hz⟩:=I.list hq
 refine Zi7 (I.ok.hd hc) ht.isList (by simp [hn,<- hl,rv.length]) hst fun h' hx=>?_
 have I1:Inv X pins σ H { s with heap:=h' }:=I.kept (t':=s.toks) fun b o e=>hx b o (O1 (Ow e)) e
 exact h.run pins _ σ H xs _ Q I1 (by simpa using rv) hw
theorem Zhn {K:Om}{σ:St}{H:Hp}{gs:Ci}{n:Nat}{a:Addr}{xs:List V}{QS':St->Hp->Prop}(q:SqL K H a xs)(l:xs.length=n)(h:gs xs σ H QS'):Zf7 K n gs (.ref a) σ H QS':=⟨a,xs,rfl,q,l,h⟩
end
section
variable {X:Cx}{k:Nat}{x:Str}{ps:List Str}{sp:Sp}{p pos:Pos}
end
structure Jt (CX:Bz)(P:Program)(w:World)(K:Om)(mg:Str->Option Value)(base:Heap)(k:Nat)(C:Addr)(m:Str)(ps:List Str)(sp:Sp):Prop where
 ex:∃(g:Addr)(fd:FuncData),Aq P w K mg base CX k g fd ps sp/\Cls K C/\Meth K C m g/\Binds K fd ps []
structure Lk (K:Om)(mg:Str->Option Value)(x:Str)(C:Addr):Prop where
 makes:R3 K C=true
 init:Pc K (.ref C) "__init__" = some (some (.builtin "object.__init__"))
 kp:Qb K (.ref C)=true
 at_:mg x=some (.ref C)
noncomputable def Zn4 (CX:Bz)(P:Program)(w:World)(K:Om)(mg:Str->Option Value)(base:Heap)(k:Nat)(m:Str)(ps:List Str)(E:XK)(ta:TE)(t:TA):TE:=fun σ H Q=>ta σ H fun x H1=>∃ a C dx fs sp,x=.ref a/\H1 a=some (.ins C dx fs)/\fs.lookup m=none/\Jt CX P w K mg base k C m ps sp /\
 t σ H1 fun vs H2=>sp (.ref a::vs) H2 Q E
noncomputable def Zc0 (C:Addr):TE:=fun σ H Q=>∀ x dx,H x=none->H dx=none->dx≠x->Q (.ref x) (upd (upd H dx (.own x)) x (.ins C dx []))
section
variable {X:Cx}{k:Nat}{x m:Str}{ps:List Str}{sp:Sp}{E:XK}{C:Addr}{p pos apos:Pos}{e o:Expr}{es:List Expr}{ta:TE}{t:TA}{CX:Bz}{P:Program}{w:World}{mg:Str->Option Value}{base:Heap}
theorem Zcv (K:Om)(CX:Bz)(ps:List Str){pl:Sem Bool}(he:QE X o ta)(hr:Room k X.A)(hx:Hy CX X E)(ha:QA X (e::es) t)(hP:X.prog=P:=by rfl)(hw:X.w=w:=by rfl)(hK:X.K=K:=by rfl)(hmg:X.mg=mg:=by rfl)(hbs:X.base=base:=by rfl)
  (hst:starEach (e::es) X.env=(false,eval e X.env)::starEach es X.env:=by rfl) (hpl:(backTo pos (starEach es X.env)).any (·.1)=false:=by rfl)
  (ht:eval (.Call (.Attribute o m apos) (e::es) [] pos) X.env=(do
   let ov <- eval o X.env
   standAt apos.atName
   let (f,first) <- holding [ov] (getMethod ov m pl)
   callWith pos f first (backTo pos (starEach (e::es) X.env)) (backToKw pos (keywordEach [] X.env))):=by rfl) :
  QE X (.Call (.Attribute o m apos) (e::es) [] pos) (Zn4 CX P w K mg base k m ps E ta t):=by
 subst hP hw hK hmg hbs
 refine ⟨fun pins s σ H Q I h=>?_⟩
 refine PySem.W.methodCall_KW (pl:=pl) (Ah (he.run pins s σ H _ I h) fun u s1 zq=>?_) ht
 obtain ⟨x,H1,I1,rx,a,C,dx,fs,sp,ex,ea,l,M,q⟩:=zq
 obtain ⟨g,fd,F,c,hm,hb⟩:=M.ex
 subst ex
 obtain rfl:u=Value.ref a:=rx
 refine Zht I1 ea c hm l ?_
 refine PySem.W.callWith_K (first:=[.ref a]) (h₀:=X.base) I.ok.mod.kin hm.kp (Ah (ha.run pos pins s1 σ H1 _ I1 q) fun us s2 zq=>?_) hst hpl
 obtain ⟨vs,H2,I2,r,q2⟩:=zq
 refine ⟨I2.kIn,?_⟩
 exact Zfo (us:=.ref a::us) (vs:=.ref a::vs) (dvs:=[]) F hr hb .nil hx I2 (.cons rfl r) (by rw [Qa];exact q2)
theorem Zbq (M:Lk X.K X.mg x C)(hg:Gl X x:=by rfl)(hdb:(x == ("__debug__" : Str))=false:=by decide):QE X (.Call (.Name x p) [] [] pos) (Zc0 C):=by
 refine ⟨fun pins s σ H Q I h=>?_⟩
 refine Sl (Kz I hg M.at_ ?_ hdb)
 refine PySem.W.callWith_K0 I.kIn M.kp ?_
 have hq:=h (s.heap.objs.size+1) s.heap.objs.size (I.hok.fresh (Rq _)) (I.hok.fresh (Os _)) (O1 (R0 _))
 have I2:=Inv.made (C:=C) I
 have Y:=Vv (M:=model X.prog X.w) I.kIn M.makes
 refine wpAny_call (Zmp I.kIn M.makes M.init (fun self=>R9.of_pure (PySem.W.oi_bind self)) ?_)
 have t1:R9 (model X.prog X.w) ((s.heap.push P7).push (Qj C s.heap.objs.size)) (typeOf (.ref (s.heap.objs.size+1))) (.ref C):=(R9.ld (by have:=O4 (s.heap.push P7) (o:=Qj C s.heap.objs.size) rfl;rw [Pz] at this;exact this)).andThen .now
 have t2:R9 (model X.prog X.w) ((s.heap.push P7).push (Qj C s.heap.objs.size)) (isInstance (.ref (s.heap.objs.size+1)) (.type "object")) true:=t1.andThen (Y.top.keeps fun b o e=>Ou _ (Ou _ e))
 refine codeAny_call_builtin PySem.W.oi_plain PySem.W.entry_oi (@PySem.W.check_slot (model X.prog X.w) _ _ _ "object.__init__" "object" "__init__" (.ref (s.heap.objs.size+1)) [] [] _ PySem.W.oi_kind PySem.W.oi_split t2 (PySem.W.oi_args (.ref (s.heap.objs.size+1))) ?_)
 rw [PySem.W.oi_run]
 exact Oq (And.intro rfl ⟨V.ref (s.heap.objs.size+1),_,I2,rfl,hq⟩)
end
section
variable {X:Cx}{e o value:Expr}{f:Str}{pos pos':Pos}{ta tv:TE}{pins:List (Addr×Obj)}{σ:St}{H:Hp}{s:Shared}
theorem Zj1 (K:Om)(he:QE X e ta)(hb:attributeBase e f X.env (eval e X.env)=eval e X.env:=by rfl)(hK:X.K=K:=by rfl):QE X (.Attribute e f pos) (Oh K ta f):=by subst hK;exact Zm4 he hb
theorem Zoc (K:Om)(ha:QE X o ta)(hv:QE X value tv)(hs:swapsWith value (some (.Attribute o f pos')) pos.line X.env=pure false:=by rfl)(hK:X.K=K:=by rfl):QS X (.Assign [.Attribute o f pos'] value pos) (Zab K ta tv f):=by subst hK;exact Zrt ha hv hs
noncomputable def rIsI (K:Om):List V->Hp->VK->Prop:=fun xs H Q=>∃ x C t b,xs=[x,.ref C]/\El K H x t/\Pg K t (.ref C)=some b/\Q (.bl b) H
theorem Zcr (K:Om)(hK:X.K=K:=by rfl):Cf X (.builtin "isinstance") (rIsI K):=by
 subst hK
 intro pins s σ H xs us Q I r h
 obtain ⟨x,C,t,b,rfl,ty,e,q⟩:=h
 obtain ⟨u,v,rfl,ru,rv⟩:=r.two
 obtain rfl:v=Value.ref C:=rv
 cases ty with
 | ty ty=>exact Zc5 I ru ty e fun tk=>⟨.bl b,H,I.tok tk,rfl,q⟩
 | tup hq =>
  cases ru
  obtain ⟨its,_,p,_⟩:=I.tuple hq
  obtain ⟨o,h1,h2,_⟩:=p
  exact Px Vm I.kIn ⟨o,h1,h2⟩ e (fun z=>nomatch z) fun tk=>⟨.bl b,H,I.tok tk,rfl,q⟩
 | lst hq =>
  cases ru
  obtain ⟨its,_,p,_⟩:=I.list hq
  obtain ⟨o,n,h1,h2,_⟩:=p
  exact Px T9 I.kIn ⟨o,h1,h2⟩ e (fun z=>nomatch z) fun tk=>⟨.bl b,H,I.tok tk,rfl,q⟩
theorem Zbe {K:Om}{x:V}{C:Addr}{t:Value}{b:Bool}{Q:VK}(ty:El K H x t)(e:Pg K t (.ref C)=some b)(h:Q (.bl b) H):rIsI K [x,.ref C] H Q:=⟨x,C,t,b,rfl,ty,e,h⟩
end
section
variable {X:Cx}{pins:List (Addr×Obj)}{σ:St}{H:Hp}{s:Shared}
theorem Zby (I:Inv X pins σ H s){v:V}{u:Value}(r:RelV v u){A:Around}(hu:A.units < cLine)(h:Bw v=true\/∃(b:Addr)(xs:List V),v=.ref b/\SqT X.K H b xs):∃ b,Ov A s u .none b:=by
 rcases h with h | ⟨b,xs,rfl,q⟩
 ·cases v with
  | non=>cases (show u=Value.none from r);exact ⟨_,R5 _⟩
  | bl x=>cases (show u=Value.bool x from r);exact ⟨_,Ov.bool_none x⟩
  | int i=>obtain ⟨t,e⟩:=(show ∃ t,u=Value.int i t from r);cases e;exact ⟨_,Ov.int_none i t⟩
  | str x=>obtain ⟨t,e⟩:=(show ∃ t,u=Value.str x t from r);cases e;exact ⟨_,Ov.str_none x t⟩
  | _=>cases h
 ·cases (show u=Value.ref b from r)
  obtain ⟨its,_,p,_⟩:=I.tuple q
  exact ⟨_,Ov.tuple_none (show s.heap.IsTuple b its.toArray from p) hu⟩
theorem Zbx (I:Inv X pins σ H s){p e:Addr}{vs:List V}(q:SqT X.K H p vs)(q':SqT X.K H e []){A:Around}(hu:A.units < cLine):∃ b,Ov A s (.ref p) (.ref e) b:=by
 by_cases z:p=e
 ·subst z
  exact ⟨_,R5 _⟩
 ·obtain ⟨its,r1,p1,_⟩:=I.tuple q
  obtain ⟨its2,r2,p2,_⟩:=I.tuple q'
  have l2:its2.length=0:=r2.length.symm
  exact ⟨_,T7 z (Ub (e:=fun _=>true) (show s.heap.IsTuple p its.toArray from p1) (show s.heap.IsTuple e its2.toArray from p2) hu (fun j h1 h2=>by simp only [Ot] at h2;omega))⟩
noncomputable def rEqG (K:Om):R2:=fun x y H Q=>∃(a c p e:Addr)(w1 w2:Str)(n:V)(vs:List V),x=.ref a/\y=.ref c/\SqT K H a [.str w1,n,.ref p]/\(Bw n=true\/∃(b:Addr)(xs:List V),n=.ref b/\SqT K H b xs)/\SqT K H p vs/\SqT K H c [.str w2,.non,.ref e]/\SqT K H e []/\w1≠w2/\Q (.bl false) H
theorem Zkd (hu:X.A.units+200 < cLine):OpR X (compareOp .Eq) (rEqG X.K):=by
 intro pins s σ H x y v u Q I rx ry h
 obtain ⟨a,c,p,e,w1,w2,n,vs,rfl,rfl,hx,hn,hp,hy,he,hw,q⟩:=h
 cases rx
 cases ry
 obtain ⟨its,r1,p1,_⟩:=I.tuple hx
 obtain ⟨its2,r2,p2,_⟩:=I.tuple hy
 have l1:its.length=3:=r1.length.symm
 have l2:its2.length=3:=r2.length.symm
 obtain ⟨u0,g0,k0⟩:=r1.get (i:=0) (x:=.str w1) rfl
 obtain ⟨u1,g1,k1⟩:=r1.get (i:=1) (x:=n) rfl
 obtain ⟨u2,g2,k2⟩:=r1.get (i:=2) (x:=.ref p) rfl
 obtain ⟨y0,m0,j0⟩:=r2.get (i:=0) (x:=.str w2) rfl
 obtain ⟨y1,m1,j1⟩:=r2.get (i:=1) (x:=.non) rfl
 obtain ⟨y2,m2,j2⟩:=r2.get (i:=2) (x:=.ref e) rfl
 obtain ⟨t0,rfl⟩:=(show ∃ t,u0=Value.str w1 t from k0)
 obtain ⟨t1,rfl⟩:=(show ∃ t,y0=Value.str w2 t from j0)
 cases (show y1=Value.none from j1)
 cases (show u2=Value.ref p from k2)
 cases (show y2=Value.ref e from j2)
 have hu1:X.A.in1.units < cLine:=by show X.A.units+1 < cLine;omega
 obtain ⟨b1,E1⟩:=Zby I k1 hu1 hn
 obtain ⟨b2,E2⟩:=Zbx I hp he hu1
 refine SeqAt.eq_tupleAt (e:=fun j=>if j=0 then w1 == w2 else if j=1 then b1 else b2) (show s.heap.IsTuple a its.toArray from p1) (show s.heap.IsTuple c its2.toArray from p2) (by omega) (fun j h1 h2=>?_) ?_
 ·simp only [Ot] at h1 h2
  have f1:its[j]?=some its[j]:=Oo h1
  have f2:its2[j]?=some its2[j]:=Oo h2
  simp only [List.getElem_toArray]
  match j,h1,h2,f1,f2 with
  | 0,h1,h2,f1,f2 =>
   rw [f1] at g0;rw [f2] at m0
   rw [Ox g0,Ox m0]
   exact T6 _ _ _ _
  | 1,h1,h2,f1,f2 =>
   rw [f1] at g1;rw [f2] at m1
   rw [Ox g1,Ox m1]
   exact E1
  | 2,h1,h2,f1,f2 =>
   rw [f1] at g2;rw [f2] at m2
   rw [Ox g2,Ox m2]
   exact E2
  | j+3,h1,_,_,_=>omega
 ·have hb:(w1 == w2)=false:=by simpa using hw
  have e:((O7 (min its.toArray.size its2.toArray.size)).all (fun j=>if j=0 then w1 == w2 else if j=1 then b1 else b2) && its.toArray.size == its2.toArray.size)=false:=by
   rw [Ot,Ot,l1,l2,show O7 (min 3 3)=[0,1,2] from rfl]
   simp [hb]
  rw [e]
  exact ⟨.bl _,H,I,rfl,q⟩
noncomputable def Kw (K:Om):R2:=fun x y H Q=>Gu K x y H Q\/rEqG K x y H Q
theorem Mf (K:Om)(hu:X.A.units+200 < cLine)(hK:X.K=K:=by rfl):OpR X (compareOp .Eq) (Kw K):=by subst hK;exact (Zbz hu).or (Zkd hu)
theorem Zqn {K:Om}{x y:V}{Q:VK}(hs:Fo x y=true)(h:Q (.bl (decide (x=y))) H):Kw K x y H Q:=.inl (.inl ⟨hs,h⟩)
theorem Zit {K:Om}{a c:Addr}{Q:VK}{n:Nat}{d:Dt}(hn:n<=190)(hx:IsD K H n (.ref a) d)(hy:IsD K H n (.ref c) d)(h:Q (.bl true) H):Kw K (.ref a) (.ref c) H Q:=.inl (Zlf hn hx hy h)
theorem Zk2 {K:Om}{a c p e:Addr}{w1 w2:Str}{n:V}{vs:List V}{Q:VK}(hx:SqT K H a [.str w1,n,.ref p])(hn:Bw n=true\/∃(b:Addr)(xs:List V),n=.ref b/\SqT K H b xs)(hp:SqT K H p vs)(hy:SqT K H c [.str w2,.non,.ref e])(he:SqT K H e [])(hw:w1≠w2)(h:Q (.bl false) H):Kw K (.ref a) (.ref c) H Q:=.inr ⟨a,c,p,e,w1,w2,n,vs,rfl,rfl,hx,hn,hp,hy,he,hw,h⟩
end
structure FunD (K:Om)(x qual:Str)(st:Stmt)(T f:Addr)(fd:FuncData):Prop where
 ex:∃ oc od kV doc pm an cdv ct osl,fd=P4 x qual (Cy st) (Cb st) (An st) (.ref T) kV doc pm an cdv ct/\K.lookup f=some ⟨oc,od,.func (P4 x qual (Cy st) (Cb st) (An st) (.ref T) kV doc pm an cdv ct),osl⟩/\R7 K cdv qual=true
 kp:Qb K (.ref f)=true
section
variable {P:Program}{w:World}{K:Om}{mg:Str->Option Value}{base:Heap}
theorem FunD.okx {x qual:Str}{st:Stmt}{T f:Addr}{fd:FuncData}{N ps:List Str}{k:Nat}{sp:Sp}(F:FunD K x qual st T f fd)(S:Ay N ps (An st))(len:∀ vs H Q E,sp vs H Q E->vs.length=ps.length)
  (hbody:∀(cdv:Value)(A:Around)(outer:List Env)(s:Shared)(H:Hp)(vs:List V)(Q:VK)(E:XK),Room k (A.deeper (envOfC qual (An st) s.heap.objs.size f cdv))->sp vs H Q E ->
   ∃ t,D5 (Ff (CXR P w) P w K mg base N qual (An st) f cdv A outer s H E) (Cb st) t/\t { nx:=fun _ H'=>Q .non H',rt:=Q } (start N vs) H):Aq P w K mg base (CXR P w) (k+1) f fd ps sp:=by
 obtain ⟨oc,od,kV,doc,pm,an,cdv,ct,osl,rfl,lk,hcd⟩:=F.ex
 refine Zep lk hcd S len fun A outer s H vs Q E hr hsp=>?_
 obtain ⟨t,h,q⟩:=hbody cdv A outer s H vs Q E hr hsp
 exact ⟨t,h.run,q⟩
theorem Zno {x qual:Str}{st:Stmt}{T f:Addr}{oc:Value}{od an:Option Addr}{osl:Array (Option Value)}{kV doc pm cdv ct:Value}(l:K.lookup f=some ⟨oc,od,.func (P4 x qual (Cy st) (Cb st) (An st) (.ref T) kV doc pm an cdv ct),osl⟩)
  (c:R7 K cdv qual=true) (k:Qb K (.ref f)=true):FunD K x qual st T f (P4 x qual (Cy st) (Cb st) (An st) (.ref T) kV doc pm an cdv ct):=⟨⟨oc,od,kV,doc,pm,an,cdv,ct,osl,rfl,l,c⟩,k⟩
end
structure QK (X:Cx)(kws:List Keyword)(t:TA):Prop where
 run:PK X kws t
structure Ol (CX:Bz)(P:Program)(w:World)(K:Om)(mg:Str->Option Value)(base:Heap)(k:Nat)(x:Str)(C:Addr)(ps ks:List Str)(gV:List V->List V->List V)(sp:Sp):Prop where
 ex:∃(f:Addr)(fd:FuncData)(g:List Value->List Value->List Value),Aq P w K mg base CX k f fd ps sp/\Mk K C f/\mg x=some (.ref C)/\Of K fd ps ks g gV
noncomputable def Zf5 (C:Addr)(gV:List V->List V->List V)(sp:Sp)(E:XK)(t tk:TA):TE:=fun σ H Q=>t σ H fun vs H1=>tk σ H1 fun zs H2=>∀ x dx,H2 x=none->H2 dx=none->dx≠x->sp (gV (.ref x::vs) zs) (upd (upd H2 dx (.own x)) x (.ins C dx [])) (fun v H3=>v=.non/\Q (.ref x) H3) E
section
variable {X:Cx}{k:Nat}{x:Str}{ps ks:List Str}{gV:List V->List V->List V}{sp:Sp}{E:XK}{C:Addr}{p pos kpos:Pos}{e:Expr}{es:List Expr}{kws:List Keyword}{te:TE}{t tk:TA}{CX:Bz}{nm:Option Str}{f:Addr}{fd:FuncData}{g:List Value->List Value->List Value}
theorem Zip:QK X [] Dv:=⟨Zp3⟩
theorem Zq6 {pins:List (Addr×Obj)}{σ:St}{H:Hp}{s:Shared}{Q:VK}{us ws:List Value}{vs zs:List V}{XE:Value->Shared->Prop}(M:Mk X.K C f)(F:Aq X.prog X.w X.K X.mg X.base CX k f fd ps sp)(hr:Room (k+1) X.A)(hb:Of X.K fd ps ks g gV)
  (I:Inv X pins σ H s) (r:Vals vs us) (rz:Vals zs ws)
  (hx:∀ H0 s0 ev s',Inv X pins σ H0 s0->CX X.stack H0 s0 E ev s'->XE ev s')
  (h:∀ x dx,H x=none->H dx=none->dx≠x->sp (gV (.ref x::vs) zs) (upd (upd H dx (.own x)) x (.ins C dx [])) (fun v H2=>v=.non/\Q (.ref x) H2) E) :
  wpAny (model X.prog X.w) X.A (call (.ref C) us (ks.zip ws)) (EP X pins σ Q) XE s:=by
 have hq:=h (s.heap.objs.size+1) s.heap.objs.size (I.hok.fresh (Rq _)) (I.hok.fresh (Os _)) (O1 (R0 _))
 have I2:=Inv.made (C:=C) I
 have r1:Vals (V.ref (s.heap.objs.size+1)::vs) (Value.ref (s.heap.objs.size+1)::us):=.cons rfl r
 have r2:=hb.rel r1 rz
 have hl:(g (Value.ref (s.heap.objs.size+1)::us) ws).length=ps.length:=by
  rw [<- r2.length]
  exact F.len _ _ _ _ hq
 have hb':=hb.to _ (Value.ref (s.heap.objs.size+1)::us) ws I2.kIn hl
 refine wpAny_call (Zj8 (f:=f) I.kIn M.makes M.init (beq_iff_eq.mp M.fn) (Sz (F.run _ X.stack _ _ ⟨Value.ref (s.heap.objs.size+1)::us,ks.zip ws⟩ (g (Value.ref (s.heap.objs.size+1)::us) ws) _ _ E (hr.make C us (ks.zip ws))
  (I2.env0.make C us (ks.zip ws)) hb' r2 hq) fun r s' hq'=>?_))
 cases r with
 | error e=>exact hx _ _ _ _ I2 hq'
 | ok fl =>
  cases fl with
  | ret u =>
   obtain ⟨v,H',I3,rv,ev,q3⟩:=I2.after hq'
   subst ev
   exact ⟨rv,⟨V.ref (s.heap.objs.size+1),H',I3,rfl,q3⟩⟩
  | next=>exact Qc hq'
  | brk=>exact Qc hq'
  | cont=>exact Qc hq'
theorem Zk4 (M:Ol CX X.prog X.w X.K X.mg X.base k x C ps ks gV sp)(hr:Room (k+1) X.A)(hx:Hy CX X E)(ha:QA X (e::es) t)(hkw:QK X kws tk)(hg:Gl X x:=by rfl)(hdb:(x == ("__debug__" : Str))=false:=by decide)
  (hall:(backToKw pos (keywordEach kws X.env)).all (·.1.isSome)=true:=by rfl) (hks:(backToKw pos (keywordEach kws X.env)).filterMap (·.1)=ks:=by rfl)
  (he:starEach (e::es) X.env=(false,eval e X.env)::starEach es X.env:=by rfl)
  (hpl:((backTo pos (starEach (e::es) X.env)).any (·.1) || (backToKw pos (keywordEach kws X.env)).any (·.1.isNone))=false:=by rfl):QE X (.Call (.Name x p) (e::es) kws pos) (Zf5 C gV sp E t tk):=by
 obtain ⟨f,fd,g,F,mk,hm,hb⟩:=M.ex
 refine ⟨fun pins s σ H Q I h=>?_⟩
 refine Sl (Kz I hg hm ?_ hdb)
 refine PySem.W.callWith_KW (h₀:=X.base) I.ok.mod.kin mk.kp hall (Ah (ha.run pos pins s σ H _ I h) fun us s1 zq=>?_) hpl he
 obtain ⟨vs,H1,I1,r,q⟩:=zq
 refine Ah (hkw.run pos pins s1 σ H1 _ I1 q) fun ws s2 zq=>?_
 obtain ⟨zs,H2,I2,rz,q2⟩:=zq
 refine ⟨I2.kIn,?_⟩
 rw [hks]
 exact Zq6 mk F hr hb I2 r rz (fun H0 s0 ev s' I0 c=>hx pins σ H0 s0 ev s' I0 c) q2
end
section
variable {X:Cx}{pins:List (Addr×Obj)}{σ:St}{H:Hp}{s:Shared}
noncomputable def rNeG (K:Om):R2:=fun x y H Q=>∃(a c p e:Addr)(w1 w2:Str)(n:V)(vs:List V),x=.ref a/\y=.ref c/\SqT K H a [.str w1,n,.ref p]/\(Bw n=true\/∃(b:Addr)(xs:List V),n=.ref b/\SqT K H b xs)/\SqT K H p vs/\SqT K H c [.str w2,.non,.ref e]/\SqT K H e []/\w1≠w2/\Q (.bl true) H
theorem Zj3 (hu:X.A.units+200 < cLine):OpR X (compareOp .NotEq) (rNeG X.K):=by
 intro pins s σ H x y v u Q I rx ry h
 obtain ⟨a,c,p,e,w1,w2,n,vs,rfl,rfl,hx,hn,hp,hy,he,hw,q⟩:=h
 cases rx
 cases ry
 obtain ⟨its,r1,p1,_⟩:=I.tuple hx
 obtain ⟨its2,r2,p2,_⟩:=I.tuple hy
 have l1:its.length=3:=r1.length.symm
 have l2:its2.length=3:=r2.length.symm
 obtain ⟨u0,g0,k0⟩:=r1.get (i:=0) (x:=.str w1) rfl
 obtain ⟨u1,g1,k1⟩:=r1.get (i:=1) (x:=n) rfl
 obtain ⟨u2,g2,k2⟩:=r1.get (i:=2) (x:=.ref p) rfl
 obtain ⟨y0,m0,j0⟩:=r2.get (i:=0) (x:=.str w2) rfl
 obtain ⟨y1,m1,j1⟩:=r2.get (i:=1) (x:=.non) rfl
 obtain ⟨y2,m2,j2⟩:=r2.get (i:=2) (x:=.ref e) rfl
 obtain ⟨t0,rfl⟩:=(show ∃ t,u0=Value.str w1 t from k0)
 obtain ⟨t1,rfl⟩:=(show ∃ t,y0=Value.str w2 t from j0)
 cases (show y1=Value.none from j1)
 cases (show u2=Value.ref p from k2)
 cases (show y2=Value.ref e from j2)
 have hu1:X.A.in1.units < cLine:=by show X.A.units+1 < cLine;omega
 obtain ⟨b1,E1⟩:=Zby I k1 hu1 hn
 obtain ⟨b2,E2⟩:=Zbx I hp he hu1
 refine Zbk (e:=fun j=>if j=0 then w1 == w2 else if j=1 then b1 else b2) (show s.heap.IsTuple a its.toArray from p1) (show s.heap.IsTuple c its2.toArray from p2) (by omega) (fun j h1 h2=>?_) ?_
 ·simp only [Ot] at h1 h2
  have f1:its[j]?=some its[j]:=Oo h1
  have f2:its2[j]?=some its2[j]:=Oo h2
  simp only [List.getElem_toArray]
  match j,h1,h2,f1,f2 with
  | 0,h1,h2,f1,f2 =>
   rw [f1] at g0;rw [f2] at m0
   rw [Ox g0,Ox m0]
   exact T6 _ _ _ _
  | 1,h1,h2,f1,f2 =>
   rw [f1] at g1;rw [f2] at m1
   rw [Ox g1,Ox m1]
   exact E1
  | 2,h1,h2,f1,f2 =>
   rw [f1] at g2;rw [f2] at m2
   rw [Ox g2,Ox m2]
   exact E2
  | j+3,h1,_,_,_=>omega
 ·have hb:(w1 == w2)=false:=by simpa using hw
  have e:(!((O7 (min its.toArray.size its2.toArray.size)).all (fun j=>if j=0 then w1 == w2 else if j=1 then b1 else b2) && its.toArray.size == its2.toArray.size))=true:=by
   rw [Ot,Ot,l1,l2,show O7 (min 3 3)=[0,1,2] from rfl]
   simp [hb]
  rw [e]
  exact ⟨.bl _,H,I,rfl,q⟩
noncomputable def Mj (K:Om):R2:=fun x y H Q=>Jj K x y H Q\/rNeG K x y H Q
theorem Kq (K:Om)(hu:X.A.units+200 < cLine)(hK:X.K=K:=by rfl):OpR X (compareOp .NotEq) (Mj K):=by subst hK;exact (Zb0 hu).or (Zj3 hu)
theorem Znl {K:Om}{x y:V}{Q:VK}(hs:Fo x y=true)(h:Q (.bl (!decide (x=y))) H):Mj K x y H Q:=.inl (.inl ⟨hs,h⟩)
theorem Nl {K:Om}{a c:Addr}{Q:VK}{n:Nat}{d:Dt}(hn:n<=190)(hx:IsD K H n (.ref a) d)(hy:IsD K H n (.ref c) d)(h:Q (.bl false) H):Mj K (.ref a) (.ref c) H Q:=.inl (Zl3 hn hx hy h)
end
section
variable {κ:Type}[DecidableEq κ]
noncomputable def Bk (kvs:List (κ×V))(k:κ):Option V:=(kvs.find? fun kv=>decide (kv.1=k)).map (·.2)
noncomputable def Cg (kvs:List (κ×V))(k:κ)(v:V):List (κ×V) :=
 if (kvs.any fun kv=>decide (kv.1=k))=true then kvs.map (fun kv=>if kv.1=k then (kv.1,v) else kv) else kvs++[(k,v)]
theorem Dz {p:κ×V}{r:List (κ×V)}{k:κ}(e:p.1=k):Bk (p::r) k=some p.2:=by simp [Bk,Q6,e]
theorem Dp {p:κ×V}{r:List (κ×V)}{k:κ}(e:¬ p.1=k):Bk (p::r) k=Bk r k:=by simp [Bk,Q6,e]
theorem K4 (k:κ):∀ kvs:List (κ×V),(kvs.any fun kv=>decide (kv.1=k))=(Bk kvs k).isSome
 | []=>rfl
 | p::r=>by
  rw [Sw]
  by_cases e:p.1=k
  ·simp only [Dz e,decide_eq_true e,Bool.true_or,Option.isSome_some]
  ·rw [Dp e,decide_eq_false e,Bool.false_or];exact K4 k r
theorem Zgj (k j:κ)(y:V):∀ kvs:List (κ×V),Bk (kvs.map fun kv=>if kv.1=k then (kv.1,y) else kv) j=(Bk kvs j).map fun x=>if j=k then y else x
 | []=>rfl
 | p::r=>by
  have ih:=Zgj k j y r
  rw [Ph]
  by_cases h:p.1=k
  ·rw [if_pos h]
   by_cases e:p.1=j
   ·rw [Dz (p:=(p.1,y)) e,Dz e,R6,if_pos (e.symm.trans h)]
   ·rw [Dp (p:=(p.1,y)) e,Dp e,ih]
  ·rw [if_neg h]
   by_cases e:p.1=j
   ·rw [Dz (p:=p) e,Dz e,R6,if_neg (fun z=>h (e.trans z))]
   ·rw [Dp (p:=p) e,Dp e,ih]
theorem Zfh (k j:κ)(y:V):∀ kvs:List (κ×V),Bk kvs k=none->Bk (kvs++[(k,y)]) j=if j=k then some y else Bk kvs j
 | [],_=>by
  by_cases e:k=j
  ·rw [if_pos e.symm];exact Dz (p:=(k,y)) e
  ·rw [if_neg (fun z=>e z.symm)];exact Dp (p:=(k,y)) e
 | p::r,hn=>by
  rw [Ss]
  have hk:¬ p.1=k:=fun z=>by rw [Dz z] at hn;cases hn
  rw [Dp hk] at hn
  have ih:=Zfh k j y r hn
  by_cases e:p.1=j
  ·rw [Dz e,Dz e,if_neg (fun z=>hk (e.trans z))]
  ·rw [Dp e,Dp e,ih]
theorem Zig (kvs:List (κ×V))(k j:κ)(y:V):Bk (Cg kvs k y) j=if j=k then some y else Bk kvs j:=by
 unfold Cg
 by_cases a:(kvs.any fun kv=>decide (kv.1=k))=true
 ·rw [if_pos a,Zgj]
  rw [K4] at a
  by_cases e:j=k
  ·obtain ⟨x,hx⟩:=Ri.mp a
   rw [if_pos e,e,hx,R6,if_pos rfl]
  ·rw [if_neg e]
   cases Bk kvs j with
   | none=>rfl
   | some x=>rw [R6,if_neg e]
 ·rw [if_neg a]
  refine Zfh k j y kvs ?_
  rw [K4] at a
  cases q:Bk kvs k with
  | none=>rfl
  | some x=>rw [q] at a;exact (a rfl).elim
theorem Zao (kvs:List (κ×V))(k:κ)(v:V):(Cg kvs k v).length<=kvs.length+1:=by
 unfold Cg
 split
 ·rw [Pa];omega
 ·rw [O2,O5,List.length_nil];omega
theorem RelO.isSome_eq {o:Option V}{u:Option Value}(r:RelO o u):o.isSome=u.isSome:=by
 cases o with
 | none=>cases u with
  | none=>rfl
  | some _=>exact (show False from r).elim
 | some _=>cases u with
  | none=>exact (show False from r).elim
  | some _=>rfl
theorem KV.val {kvs:List (κ×V)}{vs:List (κ×Value)}(r:KV kvs vs)(k:κ):RelO (Bk kvs k) (valueAt vs k):=by
 unfold KV at r
 induction r with
 | nil=>exact True.intro
 | @cons p q ps qs h t ih =>
  obtain ⟨h1,h2⟩:=h
  by_cases e:p.1=k
  ·have e':q.1=k:=h1.symm.trans e
   have b:valueAt (q::qs) k=some q.2:=by simp [valueAt,Q6,e']
   rw [Dz e,b];exact h2
  ·have e':¬ q.1=k:=fun z=>e (h1.trans z)
   have b:valueAt (q::qs) k=valueAt qs k:=by simp [valueAt,Q6,e']
   rw [Dp e,b];exact ih
theorem KV.any {kvs:List (κ×V)}{vs:List (κ×Value)}(r:KV kvs vs)(k:κ):(kvs.any fun kv=>decide (kv.1=k))=vs.any fun kv=>decide (kv.1=k):=by
 unfold KV at r
 induction r with
 | nil=>rfl
 | cons h t ih=>rw [Sw,Sw,ih,h.1]
theorem KV.repl {kvs:List (κ×V)}{vs:List (κ×Value)}(r:KV kvs vs)(k:κ){y:V}{u:Value}(ry:RelV y u) :
  KV (kvs.map fun kv=>if kv.1=k then (kv.1,y) else kv) (vs.map fun kv=>if kv.1=k then (kv.1,u) else kv):=by
 unfold KV at r ⊢
 induction r with
 | nil=>exact .nil
 | @cons p q ps qs h t ih =>
  rw [Ph,Ph]
  refine .cons ?_ ih
  obtain ⟨h1,h2⟩:=h
  by_cases e:p.1=k
  ·rw [if_pos e,if_pos (h1.symm.trans e)];exact ⟨h1,ry⟩
  ·rw [if_neg e,if_neg (fun z=>e (h1.trans z))];exact ⟨h1,h2⟩
theorem KV.put {kvs:List (κ×V)}{vs:List (κ×Value)}(r:KV kvs vs)(k:κ){y:V}{u:Value}(ry:RelV y u):KV (Cg kvs k y) (stored vs k u):=by
 unfold Cg stored
 rw [r.any k]
 by_cases e:(vs.any fun kv=>decide (kv.1=k))=true
 ·rw [if_pos e,if_pos e];exact r.repl k ry
 ·rw [if_neg e,if_neg e];exact Paired.snoc r ⟨rfl,ry⟩
theorem KV.length {kvs:List (κ×V)}{vs:List (κ×Value)}(r:KV kvs vs):kvs.length=vs.length:=Us r
end
theorem Zar {P:Program}{w:World}{k:Au}{u:Value}(r:RelV (kV k) u):(C3 P w).is k u=true:=by
 cases k with
 | inl i=>obtain ⟨t,e⟩:=(show ∃ t,u=Value.int i t from r);subst e;exact Zjb P w i t
 | inr x=>obtain ⟨t,e⟩:=(show ∃ t,u=Value.str x t from r);subst e;exact Zpf P w x t
theorem Zf1 {P:Program}{w:World}:∀{ks:List Au}{us:List Value},Vals (ks.map kV) us->ItemsAre (C3 P w) ks us
 | [],_,r=>by rw [List.map_nil] at r;cases r;exact .nil
 | k::ks,_,r=>by
  rw [Ph] at r
  cases r with
  | cons h t=>exact .cons (Zar h) (Zf1 t)
noncomputable abbrev KT (H:Hp):List (List Au×V)->List (List Au×Addr×Value)->Prop:=Paired fun p q=>p.1=q.1/\H q.2.1=some (.tup (p.1.map kV))/\RelV p.2 q.2.2
theorem KT.val {H:Hp}{kvs:List (List Au×V)}{xs:List (List Au×Addr×Value)}(r:KT H kvs xs)(k:List Au):RelO (Bk kvs k) ((atKey xs k).map (·.2)):=by
 induction r with
 | nil=>exact True.intro
 | @cons p q ps qs h t ih =>
  obtain ⟨h1,_,h2⟩:=h
  by_cases e:p.1=k
  ·have e':q.1=k:=h1.symm.trans e
   have b:atKey (q::qs) k=some q.2:=by simp [atKey,Q6,e']
   rw [Dz e,b];exact h2
  ·have e':¬ q.1=k:=fun z=>e (h1.trans z)
   have b:atKey (q::qs) k=atKey qs k:=by simp [atKey,Q6,e']
   rw [Dp e,b];exact ih
theorem KT.repl {H:Hp}{kvs:List (List Au×V)}{xs:List (List Au×Addr×Value)}(r:KT H kvs xs)(k:List Au){y:V}{u:Value}(ry:RelV y u) :
  KT H (kvs.map fun kv=>if kv.1=k then (kv.1,y) else kv) (xs.map (putAt k u)):=by
 induction r with
 | nil=>exact .nil
 | @cons p q ps qs h t ih =>
  rw [Ph,Ph]
  refine .cons ?_ ih
  obtain ⟨h1,h2,h3⟩:=h
  unfold putAt
  by_cases e:p.1=k
  ·rw [if_pos e,if_pos (h1.symm.trans e)];exact ⟨h1,h2,ry⟩
  ·rw [if_neg e,if_neg (fun z=>e (h1.trans z))];exact ⟨h1,h2,h3⟩
theorem KT.put {H:Hp}{kvs:List (List Au×V)}{xs:List (List Au×Addr×Value)}(r:KT H kvs xs)(k:List Au){b:Addr}{y:V}{u:Value}(hb:H b=some (.tup (k.map kV)))(ry:RelV y u) :
  KT H (Cg kvs k y) (storedH xs k b u):=by
 have e:(kvs.any fun kv=>decide (kv.1=k))=(atKey xs k).isSome:=by
  rw [K4,(r.val k).isSome_eq,Option.isSome_map]
 unfold Cg storedH
 rw [e]
 by_cases q:(atKey xs k).isSome=true
 ·rw [if_pos q,if_pos q];exact r.repl k ry
 ·rw [if_neg q,if_neg q];exact Paired.snoc r ⟨rfl,hb,ry⟩
theorem KT.keeps {H H':Hp}{kvs:List (List Au×V)}{xs:List (List Au×Addr×Value)}(r:KT H kvs xs)(ht:∀ b ys,H b=some (.tup ys)->H' b=some (.tup ys)):KT H' kvs xs :=
 Paired.mapP r fun _ _ z=>⟨z.1,ht _ _ z.2.1,z.2.2⟩
section
variable {P:Program}{w:World}{H:Hp}{h:Heap}{a:Addr}
theorem Zgi {u:HO}(ok:HOk P w H h)(e:Rd H a u):ObjOk P w H h a u:=e.ok ok
theorem Nv {kvs:List (Au×V)}(ok:HOk P w H h)(e:Rd H a (.dK kvs)):kvs.length<=sizeLine/\(a == sysModules)=false/\∃ vs,KV kvs vs/\h.DictOf (C3 P w) a vs :=
 show ObjOk P w H h a (.dK kvs) from Zgi ok e
theorem Zi2 {kvs:List (Au×V)}(ok:HOk P w H h)(e:H a=some (.dK kvs)):kvs.length<=sizeLine/\(a == sysModules)=false/\∃ vs,KV kvs vs/\h.DictOf (C3 P w) a vs:=Nv ok (.inl e)
theorem Ni {ks:List Au}(ok:HOk P w H h)(e:H a=some (.tup (ks.map kV))):(tupleKind (C3 P w)).is h ks a:=by
 obtain ⟨_,its,r,o,h1,h2,n,h3⟩:=(show ObjOk P w H h a (.tup (ks.map kV)) from ok a _ e)
 exact ⟨o,its.toArray,n,h1,h2,h3,by simpa using Zf1 r⟩
theorem N2 {kvs:List (List Au×V)}(ok:HOk P w H h)(e:Rd H a (.dT kvs)):kvs.length<=sizeLine/\(a == sysModules)=false /\
  ∃ xs,KT H kvs xs/\h.DictOfH (tupleKind (C3 P w)) a xs:=by
 obtain ⟨z,y,xs,r,o,es,ep,h1,h2,h3,h4,h5⟩:=(show ObjOk P w H h a (.dT kvs) from Zgi ok e)
 refine ⟨z,y,xs,r,o,es,ep,h1,h2,h3,h4,fun x hx=>?_,h5⟩
 have all:∀{l:List (List Au×V)}{m:List (List Au×Addr×Value)},KT H l m->∀ x∈m,(tupleKind (C3 P w)).is h x.1 x.2.1:=by
  intro l m q
  induction q with
  | nil=>intro x hx;exact nomatch hx
  | @cons p q ps qs hq t ih =>
   intro x hx
   rcases Oy.mp hx with e | hx
   ·subst e
    exact Ni ok (by rw [<- hq.1];exact hq.2.1)
   ·exact ih x hx
 exact all r x hx
theorem Znw {kvs:List (List Au×V)}(ok:HOk P w H h)(e:H a=some (.dT kvs)):kvs.length<=sizeLine/\(a == sysModules)=false /\
  ∃ xs,KT H kvs xs/\h.DictOfH (tupleKind (C3 P w)) a xs:=N2 ok (.inl e)
end
noncomputable def DGet (H:Hp)(a:Addr)(y:V)(r:Option V):Prop :=
 (∃ kvs k,Rd H a (.dK kvs)/\y=kV k/\r=Bk kvs k)\/∃ kvs k b,Rd H a (.dT kvs)/\y=.ref b/\H b=some (.tup (k.map kV))/\r=Bk kvs k
noncomputable def DPut (H:Hp)(a:Addr)(y v:V)(H':Hp):Prop :=
 (∃ kvs k,H a=some (.dK kvs)/\y=kV k/\kvs.length < sizeLine/\H'=upd H a (.dK (Cg kvs k v))) \/
 ∃ kvs k b,H a=some (.dT kvs)/\y=.ref b/\H b=some (.tup (k.map kV))/\kvs.length < sizeLine/\H'=upd H a (.dT (Cg kvs k v))
theorem DGet.t {H:Hp}{a b:Addr}{kvs:List (List Au×V)}{k:List Au}(e:H a=some (.dT kvs))(eb:H b=some (.tup (k.map kV))):DGet H a (.ref b) (Bk kvs k):=.inr ⟨kvs,k,b,.inl e,rfl,eb,rfl⟩
theorem DPut.t {H:Hp}{a b:Addr}{kvs:List (List Au×V)}{k:List Au}{v:V}(e:H a=some (.dT kvs))(eb:H b=some (.tup (k.map kV)))(hl:kvs.length < sizeLine) :
  DPut H a (.ref b) v (upd H a (.dT (Cg kvs k v))):=.inr ⟨kvs,k,b,e,rfl,eb,hl,rfl⟩
section
variable {X:Cx}{pins:List (Addr×Obj)}{σ:St}{H:Hp}{s:Shared}{a:Addr}{y v:V}{u r:Value}{o:Option V}{A:Around}{E:Value->Shared->Prop}
theorem Inv.big (I:Inv X pins σ H s):sysModules < s.heap.objs.size:=by
 have h:mainGlobals < s.heap.objs.size:=(I.mod.glob.keeps I.bk).lt
 exact Nat.lt_trans (by decide) h
theorem Zqw {Q:Value->Shared->Prop}(hu:A.units+1 < cLine)(I:Inv X pins σ H s)(g:DGet H a y (some v))(ry:RelV y u)(h:∀ w' s',Inv X pins σ H s'->RelV v w'->Q w' s') :
  wpAny (model X.prog X.w) A (getItem (.ref a) u) Q E s:=by
 rcases g with ⟨kvs,k,e,ey,l⟩ | ⟨kvs,k,b,e,ey,eb,l⟩
 ·subst ey
  obtain ⟨z,hd,vs,rel,dd⟩:=Nv I.hok e
  obtain ⟨w',hw,rw'⟩:=RelO.some_of (v:=v) (o:=valueAt vs k) (by rw [l];exact rel.val k)
  exact wpAny_getItem_of (Zar ry) dd.mapOf hw (h w' _ (I.tok _) rw')
 ·subst ey
  cases (show u=Value.ref b from ry)
  obtain ⟨z,hd,xs,rel,dd⟩:=N2 I.hok e
  obtain ⟨w',hw,rw'⟩:=RelO.some_of (v:=v) (o:=(atKey xs k).map (·.2)) (by rw [l];exact rel.val k)
  obtain ⟨p,hp,hp2⟩:=Option.map_eq_some_iff.mp hw
  refine wpAny_getItem_heap (tupleKind_room_in1 hu) (Ni I.hok eb) dd hp ?_
  rw [hp2]
  exact h w' _ (I.tok _) rw'
theorem Zfi {h':Heap}{t':Nat}{ob:HO}(I:Inv X pins σ H s)(mu:Mut (H a))(hs:O6 a s.heap h')(he:∃ q,h'.get? a=some q)(new:ObjOk X.prog X.w (upd H a ob) h' a ob) :
  Inv X pins σ (upd H a ob) { s with heap:=h',toks:=t' } :=
 I.write (x:=a) (e:=a) mu (.inl rfl) (fun b q hb z=>(hs.2 b hb).trans z) he new
theorem Zpy {P:Program}{w:World}{H':Hp}{h':Heap}{kvs:List (Au×V)}{vs:List (Au×Value)}(z:kvs.length<=sizeLine)(hd:(a == sysModules)=false)(rel:KV kvs vs)(dd:h'.DictOf (C3 P w) a vs) :
  ObjOk P w H' h' a (.dK kvs):=⟨z,hd,vs,rel,dd⟩
theorem Zkr {H':Hp}{Q:Unit->Shared->Prop}(hu:A.units+1 < cLine)(I:Inv X pins σ H s)(g:DPut H a y v H')(ry:RelV y u)(rv:RelV v r)(h:∀ s',Inv X pins σ H' s'->Q () s') :
  wpAny (model X.prog X.w) A (setItem (.ref a) u r) Q E s:=by
 rcases g with ⟨kvs,k,e,ey,l,eH⟩ | ⟨kvs,k,b,e,ey,eb,l,eH⟩
 ·subst ey eH
  obtain ⟨z,hd,vs,rel,dd⟩:=Zi2 I.hok e
  have hz:vs.length<=sizeLine:=by rw [<- rel.length];exact z
  have hl:(Cg kvs k v).length<=sizeLine:=by have:=Zao kvs k v;omega
  refine wpAny_setItem_pairs (hsz:=hz) (Zar ry) dd fun h' dd' hs=>h _ ?_
  have he:∃ q,h'.get? a=some q:=let ⟨q,_,_,hq,_⟩:=dd';⟨q,hq⟩
  exact Zfi I (by rw [e];exact True.intro) hs he (Zpy hl hd (rel.put k rv) dd')
 ·subst ey eH
  cases (show u=Value.ref b from ry)
  obtain ⟨z,hd,xs,rel,dd⟩:=Znw I.hok e
  have hz:xs.length<=sizeLine:=by rw [<- Us rel];exact z
  have hl:(Cg kvs k v).length<=sizeLine:=by have:=Zao kvs k v;omega
  refine wpAny_setItem_heap (hsz:=hz) (tupleKind_room_in1 hu) (Ni I.hok eb) dd fun h' dd' hs=>h _ ?_
  obtain ⟨q,es,ep,hq,h2,h3,h4,_,h5⟩:=dd'
  refine Zfi I (by rw [e];exact True.intro) hs ⟨q,hq⟩ ⟨hl,hd,_,(rel.put k eb rv).keeps fun c ys ec=>?_,q,es,ep,hq,h2,h3,h4,h5⟩
  rw [Ai (Fz ec e (fun z=>nomatch z))]
  exact ec
end
section
variable {X:Cx}{pins:List (Addr×Obj)}{σ:St}{H:Hp}{s:Shared}{a:Addr}{kvs:List (Au×V)}{k:Au}{u:Value}{A:Around}{E:Value->Shared->Prop}
end
noncomputable def Nu (i:Expr):Prop:=∀ ov iv,subscripted i false ov iv=operate [ov,iv] (getItem ov iv)
theorem Zp9 {prog:Program}{w:World}{A:Around}{E:Value->Shared->Prop}{s:Shared}{env:Env}{value slice:Expr}{pos:Pos}{T id:String}{Q:Value->Shared->Prop}
  (hl:typeLookup (.type T) "__getitem__" = pure (some (.builtin id))) (hs:Nu slice)
  (h:wpAny (model prog w) A (eval value env) (fun o s₁=>wpAny (model prog w) A (eval slice env) (fun i s₂=>s₂.TypeIs o T/\wpAny (model prog w) A (getItem o i) Q E s₂) E s₁) E s) :
  wpAny (model prog w) A (eval (.Subscript value slice pos) env) Q E s:=by
 refine Subscript_ (Sd h (fun o s₁ h₁=>Sd h₁ (fun i s₂ h₂=>?_) fun _ _ x=>x) fun _ _ x=>x)
 obtain ⟨hT,h₂⟩:=h₂
 unfold subscriptTail
 refine On ?_
 rw [getitemInPython_of_ne hT.not_modules]
 refine On (Ui hT hl ?_)
 have fin:wpAny (model prog w) A (subscripted slice false o i) (fun r s₃=>wpAny (model prog w) A (letTemporaryGo value o r >>= fun _=>pure r) Q E s₃) E s₂:=by
  rw [hs o i]
  exact wpAny_operating (Sd h₂ (fun r s₃ h₃=>On (wpAny_letTemporaryGo (Oq h₃))) fun _ _ x=>x)
 first
  | exact Oq (On fin)
  | exact On (Oq (On fin))
  | exact On fin
theorem Zn6 {X:Cx}{pins:List (Addr×Obj)}{σ:St}{H:Hp}{s:Shared}{a:Addr}{y:V}{o:Option V}(I:Inv X pins σ H s)(g:DGet H a y o):s.TypeIs (.ref a) "dict" := by
 rcases g with ⟨kvs,k,e,_,_⟩ | ⟨kvs,k,b,e,_,_,_⟩
 ·obtain ⟨_,_,vs,_,dd⟩:=Nv I.hok e
  exact dd.typeIs
 ·obtain ⟨_,_,xs,_,dd⟩:=N2 I.hok e
  exact dd.typeIs
noncomputable def Za4 (td ty:TE):TE:=fun σ H Q=>td σ H fun x H1=>ty σ H1 fun y H2=>∃ a v,x=.ref a/\DGet H2 a y (some v)/\Q v H2
noncomputable def N7 (td ty tv:TE):TS:=fun D σ H=>tv σ H fun v H1=>td σ H1 fun x H2=>ty σ H2 fun y H3=>∃ a H4,x=.ref a/\DPut H3 a y v H4/\D.nx σ H4
section
variable {X:Cx}{o i e value:Expr}{pos pos' tpos:Pos}{td ty tv:TE}
theorem Zk9 (hu:X.A.units+1 < cLine)(ho:PE X o td)(hi:PE X i ty)(hs:Nu i):PE X (.Subscript o i pos) (Za4 td ty):=by
 intro pins s σ H Q I h
 refine Zp9 PySem.F.slot_dict_getitem.lookup hs (Ah (ho pins s σ H _ I h) fun u s1 zq=>?_)
 obtain ⟨x,H1,I1,rx,q1⟩:=zq
 refine Ah (hi pins s1 σ H1 _ I1 q1) fun iv s2 zq=>?_
 obtain ⟨y,H2,I2,ry,a,v,ex,g,q2⟩:=zq
 subst ex
 obtain rfl:u=Value.ref a:=rx
 exact ⟨Zn6 I2 g,Zqw hu I2 g ry fun w' s3 I3 rw'=>⟨v,H2,I3,rw',q2⟩⟩
theorem Zg3 (hu:X.A.units+1 < cLine)(ho:PE X o td)(hi:PE X i ty)(hv:PE X value tv)(hs:swapsWith value (some (.Subscript o i pos')) pos.line X.env=pure false) :
  PS X (.Assign [.Subscript o i pos'] value pos) (N7 td ty tv):=by
 intro pins s σ H D I h
 refine wpAny_Assign_Subscript (Ah (hv pins s σ H _ I h) fun r s1 zq=>?_) hs
 obtain ⟨v,H1,I1,rv,q1⟩:=zq
 refine Ah (ho pins s1 σ H1 _ I1 q1) fun u s2 zq=>?_
 obtain ⟨x,H2,I2,rx,q2⟩:=zq
 refine Ah (hi pins s2 σ H2 _ I2 q2) fun iv s3 zq=>?_
 obtain ⟨y,H3,I3,ry,a,H4,ex,g,q3⟩:=zq
 subst ex
 obtain rfl:u=Value.ref a:=rx
 exact Zkr hu I3 g ry rv fun s4 I4=>⟨σ,H4,I4,q3⟩
end
theorem Zi8 {P:Program}{w:World}{H:Hp}(h:Heap)(hb:sysModules < h.objs.size):ObjOk P w H (h.push { cls:=.type "dict",data:=.dict #[] }) h.objs.size (.dT []) :=
 ⟨Pj _,beq_eq_false_iff_ne.mpr (Pm (O1 hb)),[],.nil,_,#[],0,O4 _ rfl,⟨rfl,rfl,rfl⟩,rfl,rfl,List.nodup_nil⟩
noncomputable def Zf8:TE:=fun _ H Q=>∀ p,H p=none->Q (.ref p) (upd H p (.dT []))
section
variable {X:Cx}{pos:Pos}
theorem Zlg:PE X (.Dict [] [] pos) Zf8:=fun pins s σ H Q I h =>
 wpAny_Dict_empty ⟨.ref s.heap.objs.size,_,I.laid (a:=s.heap.objs.size) (o:=.dT []) (t':=s.toks) (fun _ _ q=>Ou _ q) (Os _) (Zi8 s.heap I.big),rfl,h _ (I.hok.fresh (Os _))⟩
end
section
variable {X:Cx}{pins:List (Addr×Obj)}{σ:St}{H:Hp}{s:Shared}{a:Addr}{y d:V}{u r:Value}{o:Option V}{A:Around}{E:Value->Shared->Prop}
end
section
variable {X:Cx}{o e f:Expr}{apos cpos:Pos}{td ty tx:TE}
end
section
variable {X:Cx}{pins:List (Addr×Obj)}{σ:St}{H:Hp}{s:Shared}{a:Addr}{kvs:List (Au×V)}{A:Around}{E:Value->Shared->Prop}
end
section
variable {X:Cx}{pins:List (Addr×Obj)}{σ:St}{H:Hp}{s:Shared}{a:Addr}{y:V}{u:Value}{A:Around}{E:Value->Shared->Prop}
end
end L2
namespace PySem
namespace F
end F
end PySem
namespace L2
open PySem PySem.Spec PyProof.Rows
section
variable {X:Cx}{pins:List (Addr×Obj)}{σ:St}{H:Hp}{s:Shared}{a:Addr}{y v:V}{u r:Value}{A:Around}{E:Value->Shared->Prop}
end
theorem Room.u1 {k:Nat}{A:Around}(r:Room k A):A.units+1 < cLine:=by have:=r.u200;omega
section
variable {X:Cx}{k:Nat}{x m f:Str}{ps:List Str}{sp:Sp}{E:XK}{C:Addr}{p pos pos' tpos apos:Pos}{e o i value:Expr}{es:List Expr}{ta tv td ty:TE}{t:TA}{CX:Bz}{P:Program}{w:World}{mg:Str->Option Value}{base:Heap}{K:Om}
theorem Zd8 (hu:X.A.units+1 < cLine)(ho:QE X o td)(hi:QE X i ty)(hs:Nu i):QE X (.Subscript o i pos) (Za4 td ty):=⟨Zk9 hu ho.run hi.run hs⟩
noncomputable def Za3 (K:Om):R2:=fun x y H Q=>Fk K x y H Q\/∃(a b:Addr)(xs ys:List V),x=.ref a/\y=.ref b/\H a=some (.tup xs)/\H b=some (.tup ys)/\xs.length+ys.length<=sizeLine/\∀ p H',Same H H'->H' p=some (.tup (xs++ys))->Q (.ref p) H'
theorem Zrc:OpR X (binaryOp .Add) (Za3 X.K):=by
 refine op_addA.or ?_
 intro pins s σ H x y v u Q I rx ry h
 obtain ⟨a,b,xs,ys,rfl,rfl,ha,hb,hz,q⟩:=h
 have ha':SqT X.K H a xs:=SqT.of ha
 have hb':SqT X.K H b ys:=SqT.of hb
 by_cases hx:xs=[]
 ·subst hx
  cases rx
  cases ry
  obtain ⟨its,r1,p1,_⟩:=I.tuple ha'
  obtain ⟨its2,r2,p2,_⟩:=I.tuple hb'
  cases r1
  obtain ⟨⟨cls,dd,data,sl⟩,ho,hc,n,hd⟩:=id p1
  obtain ⟨⟨cls2,dd2,data2,sl2⟩,ho2,hc2,n2,hd2⟩:=id p2
  simp only at hc hd hc2 hd2
  subst hc hd hc2 hd2
  exact Uz ⟨_,ho,rfl⟩ ⟨_,ho2,rfl⟩ Uc Uv Tu Tq (Tk _ _)
   (tuple_addW0 a b _ _ n n2 dd dd2 sl sl2 (by simp)) ⟨ho,ho2,⟨.ref b,H,I,rfl,q b H (Same.refl H) hb⟩⟩
 ·refine Zbw pins s σ H _ _ v u Q I rx ry ⟨a,b,xs,ys,rfl,rfl,ha',hb',hx,hz,fun e=>?_,fun _ p hp=>q p _ (fun c o e=>by rw [Ai (Bc e hp)];exact e) Ad⟩
  subst e
  exact q a H (Same.refl H) (by rw [Qa];exact ha)
theorem Mx (K:Om)(hK:X.K=K:=by rfl):OpR X (binaryOp .Add) (Za3 K):=by subst hK;exact Zrc
theorem Oc {a b:Addr}{xs ys:List V}{H:Hp}{Q:VK}(ha:H a=some (.tup xs))(hb:H b=some (.tup ys))(hz:xs.length+ys.length<=sizeLine)(h:∀ p H',Same H H'->H' p=some (.tup (xs++ys))->Q (.ref p) H'):Za3 K (.ref a) (.ref b) H Q:=.inr ⟨a,b,xs,ys,rfl,rfl,ha,hb,hz,h⟩
theorem s_dget {td ty:TE}{σ:St}{H:Hp}{Q:VK}(h:td σ H fun x H1=>ty σ H1 fun y H2=>∃ a v,x=.ref a/\DGet H2 a y (some v)/\Q v H2):Za4 td ty σ H Q:=h
end
end L2
namespace L2
open PySem
noncomputable def RowT (K:Om)(H:Hp)(v:V)(x:List Nat×Tr):Prop:=∃(a p:Addr)(u:V),v=.ref a/\SqT K H a [.ref p,u]/\H p=some (.tup (Aw x.1))/\TrAt K H u x.2
theorem RowT.same {K:Om}{H H':Hp}(e:SameT H H')(v:V)(x:List Nat×Tr)(h:RowT K H v x):RowT K H' v x:=by
 obtain ⟨a,p,u,r,q,qp,t⟩:=h
 exact ⟨a,p,u,r,e.tup q,(e p).1 _ qp,t.sameT e⟩
noncomputable def Ce (pl:List Nat):List Au:=pl.map fun i:Nat=>Sum.inl ((i:Nat):Int)
theorem Zc2 (pl:List Nat):(Ce pl).map kV=Aw pl:=by unfold Ce Aw;rw [U2];rfl
section
variable {K:Om}{HB H H':Hp}{C:Addr}{kvs:List (List Au×V)}{L:Ml}{S:MS}
end
section
variable {g:TG}{tt:TT}{te:TE}{σ0:St}{H1:Hp}{D:Addr}{Q:VK}
theorem Znd {K:Om}{a:Addr}{xs:List V}(Pv:Nat->List V->St->Hp->Prop)(h0:Pv 0 [] σ0 (upd H1 D (.lst [])))(hl:∀ i ys σ H,i<=xs.length->Pv i ys σ H->SqT K H a xs)
  (hs:∀ i x ys σ H,xs[i]?=some x->H D=some (.lst ys)->Pv i ys σ H->Hn g tt te D (Pv (i+1)) x σ H)
  (hd:∀ ys σ H,H D=some (.lst ys)->Pv xs.length ys σ H->Q (.ref D) H):Gw (Ge K a) g tt te σ0 H1 D Q:=by
 refine ⟨fun i m σ H=>m=xs.length - i/\i<=xs.length/\∃ ys,H D=some (.lst ys)/\Pv i ys σ H,⟨xs.length,by simp,Pj _,[],Ad,h0⟩,?_⟩
 rintro i m σ H ⟨rfl,hi,ys,hD,p⟩
 have q:=hl i ys σ H hi p
 by_cases hlt:i < xs.length
 ·refine .inr ⟨⟨xs,xs[i],q,by simp [hlt]⟩,fun σ2 H2=>∃ zs,H2 D=some (.lst zs)/\Pv (i+1) zs σ2 H2,fun σ' H' p'=>⟨xs.length - (i+1),by omega,rfl,hlt,p'⟩,fun x H' y=>?_⟩
  obtain ⟨e,y⟩:=y
  subst e
  exact hs i x ys σ _ (y xs q) hD p
 ·have e:i=xs.length:=by omega
  subst e
  exact .inl ⟨⟨xs,q,Os _⟩,hd ys σ H hD p⟩
end
theorem Zph {a b:List Nat}(h:Ce a=Ce b):a=b:=by
 unfold Ce at h
 induction a generalizing b with
 | nil=>cases b with
  | nil=>rfl
  | cons y r=>simp at h
 | cons x l ih=>cases b with
  | nil=>simp at h
  | cons y r =>
   simp only [Ph,List.cons.injEq] at h
   have h1:x=y:=by have:=Sum.inl.inj h.1;omega
   rw [h1,ih h.2]
end L2
namespace L2
open PySem PySem.Spec PyProof.Rows
section
variable {X:Cx}
end
end L2
namespace L2
open PySem PySem.Spec PySem.Calls PySem.W PyProof.Rows
section
variable {X:Cx}
end
end L2
namespace L2
open PySem PySem.Spec PyProof.Rows
section
variable {X:Cx}{c n:Str}{np hpos pos:Pos}{body hbody:List Stmt}{b₀:Stmt}{tb:TXS}{th:TS}{i:Nat}{C:Addr}
end
section
variable {X:Cx}{o i e f k v value:Expr}{pos pos' apos cpos:Pos}{td ty tx tk tv:TE}
theorem Zhx:QE X (.Dict [] [] pos) Zf8:=⟨Zlg⟩
theorem Zib (hu:X.A.units+1 < cLine)(ho:QE X o td)(hi:QE X i ty)(hv:QE X value tv)(hs:swapsWith value (some (.Subscript o i pos')) pos.line X.env=pure false:=by rfl):QS X (.Assign [.Subscript o i pos'] value pos) (N7 td ty tv):=⟨Zg3 hu ho.run hi.run hv.run hs⟩
end
section
variable {X:Cx}{c n:Str}{np hpos pos:Pos}{body hbody:List Stmt}{b₀:Stmt}{tb:TXS}{th:TS}{i:Nat}{C:Addr}{rest:List ExceptHandler}{tr:THd}
end
section
variable {X:Cx}
end
theorem s_dput {td ty tv:TE}{D:Cr}{σ:St}{H:Hp}(h:tv σ H fun v H1=>td σ H1 fun x H2=>ty σ H2 fun y H3=>∃ a H4,x=.ref a/\DPut H3 a y v H4/\D.nx σ H4):N7 td ty tv D σ H:=h
section
variable {X:Cx}
end
section
variable {X:Cx}
end
section
variable {g:TG}{tt:TT}{te:TE}{σ0:St}{H1:Hp}{D:Addr}{Q:VK}
end
section
variable {X:Cx}
end
theorem s_isB {x:V}{b:Bool}{H:Hp}{Q:VK}(h:Q (.bl (decide (x=.bl b))) H):rIsB x (.bl b) H Q:=⟨b,rfl,h⟩
section
variable {X:Cx}
end
section
variable {prog:Program}{w:World}{A:Around}{E:Value->Shared->Prop}{s:Shared}
end
section
variable {X:Cx}{tg:Expr}
end
section
variable {X:Cx}{c n:Str}{np hpos pos:Pos}{body hbody:List Stmt}{b₀:Stmt}{tb:TXS}{th:Addr->TS}{i:Nat}{C:Addr}
end
section
variable {P:Program}{w:World}{K:Om}{mg:Str->Option Value}{base:Heap}
end
section
variable {X:Cx}{k:Nat}{x:Str}{ps:List Str}{sp:Addr->Sp}{p pos:Pos}{e:Expr}{es:List Expr}{t:TA}
end
section
variable {X:Cx}{tg:Expr}
end
section
variable {X:Cx}
end
section
variable {X:Cx}
end
section
variable {X:Cx}{pins:List (Addr×Obj)}{σ:St}{H:Hp}{s:Shared}
end
section
variable {X:Cx}
open Classical in
end
inductive Pu:Dt->Prop where
 | str (t:Str):Pu (.flat (.str t))
 | int (i:Int):Pu (.flat (.int i))
 | tup {ds:List Dt} (h:∀ d∈ds,Pu d):Pu (.tup ds)
section
variable {X:Cx}{pins:List (Addr×Obj)}{σ:St}{H:Hp}{s:Shared}
theorem Zdh:∀{xs ys:List V}{us:List Value},Vals xs us->Vals ys us->xs=ys
 | _,_,_,.nil,.nil=>rfl
 | _,_,_,.cons r rr,.cons q qq=>by rw [RelV.inj r q,Zdh rr qq]
theorem Zo9 (I:Inv X pins σ H s){a:Addr}{xs ys:List V}(hx:SqT X.K H a xs)(hy:SqT X.K H a ys):xs=ys:=by
 obtain ⟨its,r1,p1,_⟩:=I.tuple hx
 obtain ⟨its2,r2,p2,_⟩:=I.tuple hy
 have hh:its=its2:=by
  have q1:s.heap.IsTuple a its.toArray:=p1
  have q2:s.heap.IsTuple a its2.toArray:=p2
  obtain ⟨o,g1,c1,n1,d1⟩:=q1
  obtain ⟨o2,g2,c2,n2,d2⟩:=q2
  rw [g1] at g2
  cases g2
  rw [d1] at d2
  injection d2 with d3
  exact congrArg Array.toList d3
 subst hh
 exact Zdh r1 r2
theorem Zrf (I:Inv X pins σ H s):∀{n m:Nat}{x:V}{d d':Dt},IsD X.K H n x d->IsD X.K H m x d'->Pu d->Pu d'->d=d':=by
 intro n
 induction n with
 | zero =>
  intro m x d d' h h' p p'
  cases h with
  | flat f=>cases h' with
   | flat _=>rfl
   | tup _ _ _=>cases f
   | lst _ _ _=>cases f
 | succ n ih =>
  intro m x d d' h h' p p'
  cases h with
  | flat f=>cases h' with
   | flat _=>rfl
   | tup _ _ _=>cases f
   | lst _ _ _=>cases f
  | tup q l g =>
   cases p with
   | tup p =>
   cases h' with
   | flat f=>cases f
   | lst _ _ _=>cases p'
   | tup q' l' g' =>
    cases p' with
    | tup p' =>
    have e:=Zo9 I q q'
    subst e
    congr 1
    refine List.ext_getElem (by omega) fun j h1 h2=>?_
    exact ih (g j _ _ (Oo (by omega)) (Oo h1)) (g' j _ _ (Oo (by omega)) (Oo h2)) (p _ (Re h1)) (p' _ (Re h2))
  | lst q l g=>cases p
theorem Zlv (I:Inv X pins σ H s):∀{n:Nat}{x y:V}{d d':Dt},IsD X.K H n x d->IsD X.K H n y d'->Pu d->Pu d'->∀{A:Around}{u v:Value},RelV x u->RelV y v->A.units+n < cLine->∃ b:Bool,(b=true↔d=d')/\Ov A s u v b:=by
 have flats:∀{x y:V}{A:Around}{u v:Value},Pu (.flat x)->Pu (.flat y)->RelV x u->RelV y v->∃ b:Bool,(b=true↔Dt.flat x=Dt.flat y)/\Ov A s u v b:=by
  intro x y A u v p p' rx ry
  cases p with
  | str t =>
   obtain ⟨t1,rfl⟩:=rx
   cases p' with
   | str t'=>obtain ⟨t2,rfl⟩:=ry;exact ⟨t == t',by rw [beq_iff_eq];exact ⟨fun h=>by rw [h],fun h=>by injection h with h;injection h⟩,T6 _ _ _ _⟩
   | int i=>obtain ⟨t2,rfl⟩:=ry;exact ⟨false,⟨fun h=>(by cases h),fun h=>(by injection h with h;cases h)⟩,Vk _ _ _ _⟩
  | int i =>
   obtain ⟨t1,rfl⟩:=rx
   cases p' with
   | str t'=>obtain ⟨t2,rfl⟩:=ry;exact ⟨false,⟨fun h=>(by cases h),fun h=>(by injection h with h;cases h)⟩,Vj _ _ _ _⟩
   | int j=>obtain ⟨t2,rfl⟩:=ry;exact ⟨i == j,by rw [beq_iff_eq];exact ⟨fun h=>by rw [h],fun h=>by injection h with h;injection h⟩,Ov.int_int _ _ _ _⟩
 intro n
 induction n with
 | zero =>
  intro x y d d' hx hy p p' A u v rx ry hu
  cases hx with
  | flat fx =>
   cases hy with
   | flat fy=>exact flats p p' rx ry
 | succ n ih =>
  intro x y d d' hx hy p p' A u v rx ry hu
  cases hx with
  | lst _ _ _=>cases p
  | flat fx =>
   cases hy with
   | flat fy=>exact flats p p' rx ry
   | lst _ _ _=>cases p'
   | tup q l g =>
    cases ry
    obtain ⟨its,r,pl,_⟩:=I.tuple q
    cases p with
    | str t=>obtain ⟨t1,rfl⟩:=rx;exact ⟨false,⟨fun h=>(by cases h),fun h=>(by cases h)⟩,Ov.str_tuple _ _ pl (by omega)⟩
    | int i=>obtain ⟨t1,rfl⟩:=rx;exact ⟨false,⟨fun h=>(by cases h),fun h=>(by cases h)⟩,Ov.int_tuple _ _ pl (by omega)⟩
  | @tup _ a vs ds q l g =>
   cases rx
   obtain ⟨its,r,pl,_⟩:=I.tuple q
   cases hy with
   | lst _ _ _=>cases p'
   | flat fy =>
    cases p' with
    | str t=>obtain ⟨t1,rfl⟩:=ry;exact ⟨false,⟨fun h=>(by cases h),fun h=>(by cases h)⟩,Ov.tuple_str _ _ pl (by omega)⟩
    | int i=>obtain ⟨t1,rfl⟩:=ry;exact ⟨false,⟨fun h=>(by cases h),fun h=>(by cases h)⟩,Ov.tuple_int _ _ pl (by omega)⟩
   | @tup _ c vs' ds' q' l' g' =>
    cases ry
    by_cases z:a=c
    ·subst z
     refine ⟨true,⟨fun _=>Zrf I (.tup q l g) (.tup q' l' g') p p',fun _=>rfl⟩,R5 _⟩
    ·obtain ⟨its',r',pl',_⟩:=I.tuple q'
     cases p with
     | tup p =>
     cases p' with
     | tup p' =>
     have hi:∀ j:Nat,∃ b:Bool,∀(h1:j < its.length)(h2:j < its'.length),(b=true↔ds[j]?=ds'[j]?)/\Ov A.in1 s its[j] its'[j] b:=fun j=>by
      by_cases h1:j < its.length
      ·by_cases h2:j < its'.length
       ·have k1:=r.length
        have k2:=r'.length
        have ev:vs[j]?=some (vs[j]'(by omega)):=Oo _
        have ev':vs'[j]?=some (vs'[j]'(by omega)):=Oo _
        have ed:ds[j]?=some (ds[j]'(by omega)):=Oo _
        have ed':ds'[j]?=some (ds'[j]'(by omega)):=Oo _
        obtain ⟨w,hw,rw1⟩:=r.get ev
        obtain ⟨w',hw',rw2⟩:=r'.get ev'
        rw [Oo h1] at hw
        rw [Oo h2] at hw'
        cases hw
        cases hw'
        obtain ⟨b,b1,b2⟩:=ih (g j _ _ ev ed) (g' j _ _ ev' ed') (p _ (Re _)) (p' _ (Re _)) (A:=A.in1) rw1 rw2 (by show A.units+1+n < cLine;omega)
        refine ⟨b,fun _ _=>⟨?_,b2⟩⟩
        rw [b1,ed,ed']
        exact ⟨fun h=>by rw [h],fun h=>Ox h⟩
       ·exact ⟨false,fun _ h=>absurd h h2⟩
      ·exact ⟨false,fun h=>absurd h h1⟩
     have T:=Ub (A:=A) (e:=fun j=>Classical.choose (hi j)) (show s.heap.IsTuple a its.toArray from pl) (show s.heap.IsTuple c its'.toArray from pl') (by omega) (fun j h1 h2=>by
      have:=(Rx (hi j) (by simpa using h1) (by simpa using h2)).2
      simpa using this)
     refine ⟨_,?_,T7 z T⟩
     have k1:=r.length
     have k2:=r'.length
     simp only [Ot,Pt,Pl,List.mem_range,beq_iff_eq]
     constructor
     ·rintro ⟨h1,h2⟩
      congr 1
      refine List.ext_getElem? fun j=>?_
      by_cases hj:j < its.length
      ·exact ((Rx (hi j) hj (by omega)).1).mp (h1 j (by omega))
      ·rw [Tz (by omega),Tz (by omega)]
     ·intro h
      injection h with h
      have hl:its.length=its'.length:=by
       have:=congrArg Tb h
       omega
      refine ⟨fun j hj=>((Rx (hi j) (by omega) (by omega)).1).mpr (by rw [h]),hl⟩
theorem Zk0 (I:Inv X pins σ H s){n:Nat}{a c:Addr}{vs vs':List V}{ds ds':List Dt}{A:Around}(q:SqT X.K H a vs)(l:vs.length=ds.length)(g:∀(j:Nat)(v:V)(d:Dt),vs[j]?=some v->ds[j]?=some d->IsD X.K H n v d)(q':SqT X.K H c vs')(l':vs'.length=ds'.length)(g':∀(j:Nat)(v:V)(d:Dt),vs'[j]?=some v->ds'[j]?=some d->IsD X.K H n v d)(p:∀ d∈ds,Pu d)(p':∀ d∈ds',Pu d)(hu:A.units+(n+1) < cLine):∃ b:Bool,(b=true↔ds=ds')/\Se A s (.ref a) (.ref c) b:=by
 obtain ⟨its,r,pl,_⟩:=I.tuple q
 obtain ⟨its',r',pl',_⟩:=I.tuple q'
 have hi:∀ j:Nat,∃ b:Bool,∀(h1:j < its.length)(h2:j < its'.length),(b=true↔ds[j]?=ds'[j]?)/\Ov A.in1 s its[j] its'[j] b:=fun j=>by
  by_cases h1:j < its.length
  ·by_cases h2:j < its'.length
   ·have k1:=r.length
    have k2:=r'.length
    have ev:vs[j]?=some (vs[j]'(by omega)):=Oo _
    have ev':vs'[j]?=some (vs'[j]'(by omega)):=Oo _
    have ed:ds[j]?=some (ds[j]'(by omega)):=Oo _
    have ed':ds'[j]?=some (ds'[j]'(by omega)):=Oo _
    obtain ⟨w,hw,rw1⟩:=r.get ev
    obtain ⟨w',hw',rw2⟩:=r'.get ev'
    rw [Oo h1] at hw
    rw [Oo h2] at hw'
    cases hw
    cases hw'
    obtain ⟨b,b1,b2⟩:=Zlv I (g j _ _ ev ed) (g' j _ _ ev' ed') (p _ (Re _)) (p' _ (Re _)) (A:=A.in1) rw1 rw2 (by show A.units+1+n < cLine;omega)
    refine ⟨b,fun _ _=>⟨?_,b2⟩⟩
    rw [b1,ed,ed']
    exact ⟨fun h=>by rw [h],fun h=>Ox h⟩
   ·exact ⟨false,fun _ h=>absurd h h2⟩
  ·exact ⟨false,fun h=>absurd h h1⟩
 have T:=Ub (A:=A) (e:=fun j=>Classical.choose (hi j)) (show s.heap.IsTuple a its.toArray from pl) (show s.heap.IsTuple c its'.toArray from pl') (by omega) (fun j h1 h2=>by
  have:=(Rx (hi j) (by simpa using h1) (by simpa using h2)).2
  simpa using this)
 refine ⟨_,?_,T⟩
 have k1:=r.length
 have k2:=r'.length
 simp only [Ot,Pt,Pl,List.mem_range,beq_iff_eq]
 constructor
 ·rintro ⟨h1,h2⟩
  refine List.ext_getElem? fun j=>?_
  by_cases hj:j < its.length
  ·exact ((Rx (hi j) hj (by omega)).1).mp (h1 j (by omega))
  ·rw [Tz (by omega),Tz (by omega)]
 ·intro h
  have hl:its.length=its'.length:=by
   have:=congrArg Tb h
   omega
  refine ⟨fun j hj=>((Rx (hi j) (by omega) (by omega)).1).mpr (by rw [h]),hl⟩
end
section
variable {X:Cx}
noncomputable def Zaf (K:Om):R2:=fun x y H Q=>(Fo x y=true/\Q (.bl (decide (x=y))) H)\/∃(a c:Addr)(n:Nat)(d d':Dt),x=.ref a/\y=.ref c/\n<=190/\IsD K H n (.ref a) d/\IsD K H n (.ref c) d'/\Pu d/\Pu d'/\∀ b:Bool,(b=true↔d=d')->Q (.bl b) H
theorem Zlu (hu:X.A.units+200 < cLine):OpR X (compareOp .Eq) (fun x y H Q=>∃(a c:Addr)(n:Nat)(d d':Dt),x=.ref a/\y=.ref c/\n<=190/\IsD X.K H n (.ref a) d/\IsD X.K H n (.ref c) d'/\Pu d/\Pu d'/\∀ b:Bool,(b=true↔d=d')->Q (.bl b) H):=by
 intro pins s σ H x y v u Q I rx ry h
 obtain ⟨a,c,n,d,d',rfl,rfl,hn,hx,hy,p,p',q⟩:=h
 cases rx
 cases ry
 cases hx with
 | flat fx=>cases fx
 | lst _ _ _=>cases p
 | tup q1 l1 g1 =>
  cases hy with
  | flat fy=>cases fy
  | lst _ _ _=>cases p'
  | tup q2 l2 g2 =>
   cases p with
   | tup p =>
   cases p' with
   | tup p' =>
   obtain ⟨b,b1,b2⟩:=Zk0 I (A:=X.A) q1 l1 g1 q2 l2 g2 p p' (by omega)
   exact b2 _ _ _ _ ⟨.bl b,H,I,rfl,q b (by rw [b1];exact ⟨fun h=>by rw [h],fun h=>by injection h⟩)⟩
theorem s_eqk {K:Om}{x y:V}{H:Hp}{Q:VK}(hs:Fo x y=true)(h:Q (.bl (decide (x=y))) H):Zaf K x y H Q:=.inl ⟨hs,h⟩
theorem Zj5 {K:Om}{a c:Addr}{H:Hp}{Q:VK}{n:Nat}{d d':Dt}(hn:n<=190)(hx:IsD K H n (.ref a) d)(hy:IsD K H n (.ref c) d')(p:Pu d)(p':Pu d')(h:∀ b:Bool,(b=true↔d=d')->Q (.bl b) H):Zaf K (.ref a) (.ref c) H Q:=.inr ⟨a,c,n,d,d',rfl,rfl,hn,hx,hy,p,p',h⟩
theorem Ze7 (K:Om)(hu:X.A.units+200 < cLine)(hK:X.K=K:=by rfl):OpR X (compareOp .Eq) (Zaf K):=by subst hK;exact op_eq.or (Zlu hu)
noncomputable def rNeN (K:Om):R2:=fun x y H Q=>∃(a b:Addr)(xs:List V),x=.ref a/\y=.ref b/\SqL K H a xs/\SqL K H b []/\Q (.bl (!xs.isEmpty)) H
theorem Zdx (K:Om)(hu:X.A.units+200 < cLine)(hK:X.K=K:=by rfl):OpR X (compareOp .NotEq) (rNeN K):=by
 subst hK
 intro pins s σ H x y v u Q I rx ry h
 obtain ⟨a,b,xs,rfl,rfl,ha,hb,q⟩:=h
 cases rx
 cases ry
 obtain ⟨its,r1,p1,_⟩:=I.list ha
 obtain ⟨its2,r2,p2,_⟩:=I.list hb
 have l1:=r1.length
 have l2:=r2.length
 cases xs with
 | nil =>
  refine Zcy (e:=fun _=>true) p1.isList p2.isList (by simp only [Ot];omega) (by omega) (fun j h1 h2=>?_) ⟨.bl false,H,I,?_,q⟩
  ·simp only [Ot] at h1
   have:its.length=0:=l1.symm
   omega
  ·have z:its.toArray.size=0:=by simp only [Ot];exact l1.symm
   rw [z]
   rfl
 | cons y r =>
  refine Zon p1.isList p2.isList ?_ (by omega) ⟨.bl true,H,I,rfl,q⟩
  simp only [Ot]
  have e1:its.length=r.length+1:=l1.symm
  have e2:its2.length=0:=l2.symm
  rw [e1,e2]
  rfl
theorem Zbn {K:Om}{a b:Addr}{xs:List V}{H:Hp}{Q:VK}(ha:SqL K H a xs)(hb:SqL K H b [])(h:Q (.bl (!xs.isEmpty)) H):rNeN K (.ref a) (.ref b) H Q:=⟨a,b,xs,rfl,rfl,ha,hb,h⟩
end
end L2
namespace K10
open PySem L2
noncomputable def LET:Str := "abcdefghijklmnopqrstuvwxyz_"
noncomputable def DIG:Str := "0123456789"
noncomputable def W9:List Str:=["let", "in", "if", "then", "else", "fn", "rec", "yes", "no"]
noncomputable def W10:List Str:=["let", "if", "fn", "rec", "yes", "no", "?", "+", "-", "<"]
noncomputable def S4:List Str:=["?", "+", "-", "<"]
noncomputable def BR:Str := "()"
noncomputable def Cp (t:Str)(ws:List Str):Bool:=ws.any fun a=>a == t
noncomputable def Bu (t s:Str):Bool:=t.cps.toList.all fun c=>decide (c∈s.cps.toList)
noncomputable def hd0 (t:Str):Bool:=t.cps.toList.head? == some 48
noncomputable def Dl (c:Nat):Bool:=decide (33<=c) && decide (c<=126) && !decide (c∈BR.cps.toList)
noncomputable def A6 (t:Str):Bool:=decide (1<=t.length) && decide (t.length<=8) && Bu t LET && !Cp t W9
noncomputable def Jb (t:Str):Bool:=decide (1<=t.length) && decide (t.length<=18) && Bu t DIG && (t == ("0" : Str) || !hd0 t)
noncomputable def Jd (t:Str):Bool:=decide (1<=t.length) && decide (t.length<=60) && t.cps.toList.all Dl && !A6 t && !Cp t W10 && !Jb t
theorem Zdk {t:Str}{ws:List Str}(h:Cp t ws=true):t∈ws:=by
 obtain ⟨a,ha,e⟩:=List.any_eq_true.mp h
 have e:a=t:=by simpa using e
 rw [<- e];exact ha
theorem Kj {t:Str}{ws:List Str}(h:¬ t∈ws):Cp t ws=false:=by
 cases e:Cp t ws
 ·rfl
 ·exact absurd (Zdk e) h
theorem Zen {t:Str}{ws:List Str}(h:t∈ws):Cp t ws=true:=List.any_eq_true.mpr ⟨t,h,by simp⟩
end K10
namespace K19
open PySem L2
inductive Sub:Tr->List Nat->Prop where
 | nil (t:Tr):Sub t []
 | cons {w:Str} {n:Dt} {ts:List Tr} {j:Nat} {t:Tr} {r:List Nat} (h:ts[j]?=some t) (s:Sub t r):Sub (.mk w n ts) (j::r)
noncomputable def path:Tr->List Nat->List Tr
 | t,[]=>[t]
 | .mk w n ps,k::r=>.mk w n ps::(match ps[k]? with | some u=>path u r | none=>[])
theorem Lb {w:Str}{n:Dt}{ts:List Tr}{j:Nat}{t:Tr}{r:List Nat}(h:ts[j]?=some t):path (.mk w n ts) (j::r)=.mk w n ts::path t r:=by rw [path,h]
theorem K8 {t:Tr}{pl:List Nat}(s:Sub t pl):(path t pl).length=pl.length+1:=by
 induction s with
 | nil t=>cases t;rfl
 | cons h _ ih=>rw [Lb h,O5,ih,O5]
theorem Zak (t:Tr)(pl:List Nat):(path t pl)[0]?=some t:=by
 cases t with
 | mk w n ps=>cases pl <;> rfl
theorem Zaw {t:Tr}{pl:List Nat}(s:Sub t pl):∀(i:Nat)(k:Nat),pl[i]?=some k->∃ w n ps u,(path t pl)[i]?=some (.mk w n ps)/\ps[k]?=some u/\(path t pl)[i+1]?=some u:=by
 induction s with
 | nil t=>intro i k h;simp at h
 | @cons w n ts j u r h s ih =>
  intro i k hk
  rw [Lb h]
  cases i with
  | zero =>
   have:j=k:=by simpa using hk
   subst this
   exact ⟨w,n,ts,u,rfl,h,by simpa using Zak u r⟩
  | succ i =>
   obtain ⟨w',n',ps,u',a,b,c⟩:=ih i k (by simpa using hk)
   exact ⟨w',n',ps,u',by simpa using a,b,by simpa using c⟩
noncomputable def Bh:Tr->List Nat->Tr->Tr
 | _,[],f=>f
 | .mk w n ps,k::r,f=>match ps[k]? with
  | some u=>.mk w n (ps.set k (Bh u r f))
  | none=>.mk w n ps
theorem Ea {w:Str}{n:Dt}{ts:List Tr}{j:Nat}{t f:Tr}{r:List Nat}(h:ts[j]?=some t):Bh (.mk w n ts) (j::r) f=.mk w n (ts.set j (Bh t r f)):=by rw [Bh,h]
theorem Dr (t f:Tr):Bh t [] f=f:=by cases t;rfl
theorem Zfb {ts:List Tr}{j:Nat}{t u:Tr}(h:ts[j]?=some t):(ts.set j u)[j]?=some u:=by
 rw [Sg (O3.mp h).1]
theorem Zq3 {t f:Tr}{pl:List Nat}(s:Sub t pl):∀(m k:Nat)(w:Str)(n:Dt)(ps:List Tr)(u:Tr),pl[m]?=some k->(path t pl)[m]?=some (.mk w n ps)->(path t pl)[m+1]?=some u->Bh (.mk w n ps) (pl.drop m) f=.mk w n (ps.set k (Bh u (pl.drop (m+1)) f)):=by
 intro m k w n ps u hk hp hu
 obtain ⟨w',n',ps',u',a,b,c⟩:=Zaw s m k hk
 rw [hp] at a
 cases a
 rw [hu] at c
 cases c
 have hl:=(O3.mp hk)
 obtain ⟨g,e⟩:=hl
 rw [Qf g,e,Ea b]
end K19
local macro_rules | `(tactic| walk_at "sc")=>`(tactic| exact ⟨rfl,rfl,rfl,by decide +kernel,rfl,by decide +kernel,by decide +kernel⟩)
namespace L2
open PySem PySem.Spec PyProof.Rows
theorem B0:0<=sizeLine:=by decide
theorem Dn:1<=sizeLine:=by decide
theorem sz11:11<=sizeLine:=by decide
theorem B3:2<=sizeLine:=by decide
theorem Bj:3<=sizeLine:=by decide
theorem sz5:5<=sizeLine:=by decide
theorem sz9:9<=sizeLine:=by decide
theorem Room.m {j k:Nat}{A:Around}(r:Room k A)(h:j<=k:=by decide):Room j A:=r.mono h
section
variable {X:Cx}{a b:Expr}{ta tb:TE}{pos:Pos}{K:Om}
theorem Ao (i:Nat){ps:List Str}{sc:Scope}{x:Str}{e:Expr}{te:TE}{pos':Pos}(S:Ay X.N ps sc)(he:QE X e te)(hi:X.N[i]?=some x:=by rfl)(hx:Ev X.env.scope x:=by exact Or.inl rfl)(hs:swapsWith e (some (.Name x pos')) pos.line X.env=pure false:=by rfl)(hf:X.fn x=true\/X.env.scope.names.lookup x=some .local:=by first | exact .inl rfl | exact .inr rfl | assumption):QS X (.Assign [.Name x pos'] e pos) (Fe te (Fm i)):=M8 S.nd hi hx he hs hf
theorem Am (K:Om)(ha:QE X a ta)(hb:QE X b tb)(hs:Zaa b:=by exact fun _ _=>rfl)(hK:X.K=K:=by rfl):QE X (.Subscript a b pos) (Cw (Fg K) ta tb):=M6 (k_ix K hK) ha hb hs
end
end L2
namespace K27
theorem lz1 {α:Type}{vs:List α}(h:vs.length=1):∃ u,vs=[u]:=by
 cases vs with
 | nil=>cases h
 | cons u r=>cases Rh (Nat.succ.inj h);exact ⟨u,rfl⟩
theorem lz2 {α:Type}{vs:List α}(h:vs.length=2):∃ u v,vs=[u,v]:=by
 cases vs with
 | nil=>cases h
 | cons u r=>obtain ⟨v,rfl⟩:=lz1 (Nat.succ.inj h);exact ⟨u,v,rfl⟩
end K27
namespace K27
open PySem L2
noncomputable def top (i:Nat):Stmt:=Rr.main.body.getD i (.Pass ⟨0,0,0,0⟩)
noncomputable abbrev Hu:Stmt:=top 13
noncomputable abbrev Iy:Stmt:=top 14
noncomputable abbrev Jr:Stmt:=top 15
noncomputable abbrev Ig:Stmt:=top 16
noncomputable abbrev Il:Stmt:=top 17
noncomputable abbrev Ix:Stmt:=top 18
noncomputable abbrev Jv:Stmt:=top 19
noncomputable abbrev Ir:Stmt:=top 20
noncomputable abbrev Jz:Stmt:=top 21
noncomputable abbrev Iz:Stmt:=top 22
noncomputable abbrev Jw:Stmt:=top 24
noncomputable abbrev Iw:Stmt:=top 25
noncomputable abbrev Jl:Stmt:=top 26
noncomputable abbrev Iu:Stmt:=top 27
noncomputable abbrev Ie:Stmt:=top 28
noncomputable abbrev Hr:Stmt:=top 29
noncomputable abbrev Ho:Stmt:=top 31
noncomputable abbrev Ct (i j:Nat):Stmt:=match top i with | .ClassDef _ _ _ b _ _ _ _ _ _ _=>b.getD j (.Pass ⟨0,0,0,0⟩) | s=>s
noncomputable abbrev Da:Stmt:=Ct 33 0
noncomputable abbrev G0:Stmt:=Ct 33 1
noncomputable abbrev Gx:Stmt:=Ct 34 0
noncomputable abbrev J6:Stmt:=top 36
noncomputable abbrev J7:Stmt:=top 37
noncomputable abbrev Ij:Stmt:=top 38
noncomputable abbrev Hq:Stmt:=top 39
noncomputable abbrev Ip:Stmt:=top 40
noncomputable abbrev Jx:Stmt:=top 41
noncomputable abbrev Hh:Stmt:=top 42
noncomputable abbrev Jq:Stmt:=top 44
noncomputable abbrev Kb:Stmt:=top 45
noncomputable abbrev J1:Stmt:=top 46
noncomputable abbrev Js:Stmt:=top 47
noncomputable abbrev J9:Stmt:=top 48
noncomputable abbrev Jg:Stmt:=top 49
noncomputable abbrev Hk:Stmt:=top 50
noncomputable abbrev Iv:Stmt:=top 51
noncomputable abbrev Je:Stmt:=top 52
noncomputable abbrev Hz:Stmt:=top 53
noncomputable abbrev Jy:Stmt:=top 54
noncomputable abbrev Hm:Stmt:=top 55
noncomputable abbrev Ju:Stmt:=top 56
noncomputable abbrev Jm:Stmt:=top 57
noncomputable abbrev Jh:Stmt:=top 58
noncomputable abbrev Hl:Stmt:=top 59
structure Txt (K:Om)(mg:Str->Option Value):Prop where
 isinstance:mg "isinstance" = none
 int:mg "int" = none
 bool:mg "bool" = none
 str:mg "str" = none
 len:mg "len" = none
 all:mg "all" = none
 tuple:mg "tuple" = none
 reversed:mg "reversed" = none
 list:mg "list" = none
 enumerate:mg "enumerate" = none
 zip:mg "zip" = none
 range:mg "range" = none
structure Zds (K:Om)(H:Hp)(a:Addr):Prop where
 ex:∃ ns:List Int,SqL K H a (ns.map V.int)/\ns.length<=63
end K27
namespace K27
open PySem L2 K10 K19
inductive TyN (K:Om)(H:Hp):V->String->Prop where
 | non:TyN K H .non "NoneType"
 | bl (x:Bool):TyN K H (.bl x) "bool"
 | int (i:Int):TyN K H (.int i) "int"
 | str (x:Str) (h:x.length<=1000):TyN K H (.str x) "str"
 | tup {a:Addr} {xs:List V} (q:SqT K H a xs):TyN K H (.ref a) "tuple"
 | lst {a:Addr} {xs:List V} (q:SqL K H a xs):TyN K H (.ref a) "list"
 | dK {a:Addr} {kvs:List (Au×V)} (e:H a=some (.dK kvs)):TyN K H (.ref a) "dict"
noncomputable def Cv (t T:String):Bool:=t == T || (t == "bool" && T == "int")
theorem TyN.q {K:Om}{H:Hp}{v:V}{t:String}(h:TyN K H v t):El K H v (.type t):=by
 cases h with
 | non=>exact .ty .non
 | bl x=>exact .ty (.bl x)
 | int x=>exact .ty (.int x)
 | str x=>exact .ty (.str x)
 | tup q=>exact .tup q
 | lst q=>exact .lst q
 | dK e=>exact .ty (.dK e)
theorem Zmj {K:Om}{t T:String}(ht:t∈["NoneType", "bool", "int", "str", "tuple", "list", "dict"])(hT:T∈["str", "int", "bool", "tuple"]):Pg K (.type t) (.type T)=some (Cv t T):=by
 have one:∀(t T:String),t≠T->(V4 T && (match fastBuiltinMro t with | some l=>l.contains (.type T) == Cv t T | none=>false))=true->Pg K (.type t) (.type T)=some (Cv t T):=by
  intro t T hne h
  rw [Pt] at h
  obtain ⟨h1,h2⟩:=h
  split at h2
  ·rename_i l hl
   exact Zm1 h1 hne hl (by simpa using h2)
  ·cases h2
 simp only [Oy,Pw,or_false] at ht hT
 rcases hT with rfl | rfl | rfl | rfl <;> rcases ht with rfl | rfl | rfl | rfl | rfl | rfl | rfl <;> first | (exact Hs) | (exact one _ _ (by decide) (by decide +kernel))
theorem TyN.mem {K:Om}{H:Hp}{v:V}{t:String}(h:TyN K H v t):t∈["NoneType", "bool", "int", "str", "tuple", "list", "dict"]:=by
 cases h <;> simp
theorem F0 {K:Om}{H:Hp}{Q:VK}{v:V}{t T:String}(h:TyN K H v t)(hT:T∈["str", "int", "bool", "tuple"])(q:Q (.bl (Cv t T)) H):F8 K T [v,.ty T] H Q :=
 ⟨v,.type t,_,rfl,h.q,Zmj h.mem hT,q⟩
theorem TyN.same {K:Om}{H H':Hp}{v:V}{t:String}(h:TyN K H v t)(e:Same H H'):TyN K H' v t:=by
 cases h with
 | non=>exact .non
 | bl x=>exact .bl x
 | int x=>exact .int x
 | str x h=>exact .str x h
 | tup q=>exact .tup (e.t.tup q)
 | lst q=>exact .lst (e.seq q)
 | dK h=>exact .dK (e _ _ h)
noncomputable def Has (K:Om)(H:Hp)(v:V):Prop:=∃ t,TyN K H v t
theorem Has.same {K:Om}{H H':Hp}{v:V}(h:Has K H v)(e:Same H H'):Has K H' v:=by
 obtain ⟨t,h⟩:=h
 exact ⟨t,h.same e⟩
noncomputable def Ih:List (Str×V):=[("gap",.int 0),("odd",.int 0),("num",.int 0),("truth",.int 0),("name",.int 0),("plus",.int 2),("minus",.int 2),("less",.int 2),("call",.int 2),("if",.int 3),("fn",.int 1),("rec",.int 1),("let",.int 2)]
noncomputable def PN:List (Str×Nat):=[("gap",0),("odd",0),("num",0),("truth",0),("name",0),("plus",2),("minus",2),("less",2),("call",2),("if",3),("fn",1),("rec",1),("let",2)]
noncomputable def Bp (wd:Str):Option Nat:=PN.lookup wd
theorem Zfn (wd:Str):Fb Ih wd=(Bp wd).map (fun n:Nat=>V.int (n:Int)):=by
 have gen:∀ ps:List (Str×Nat),Fb (ps.map fun p=>(p.1,V.int (p.2:Int))) wd=(ps.lookup wd).map (fun n:Nat=>V.int (n:Int)):=by
  intro ps
  induction ps with
  | nil=>rfl
  | cons p r ih =>
   unfold Fb at ih ⊢
   rw [Ph,Q6,Qq]
   by_cases z:p.1=wd
   ·have e2:(wd == p.1)=true:=by rw [z];simp
    simp only [z,decide_true,R6]
    simp
   ·have e2:(wd == p.1)=false:=by simpa using fun h=>z h.symm
    simp only [z,decide_false,e2]
    exact ih
 exact gen PN
noncomputable def E5:V->Bool
 | .int _=>true
 | _=>false
noncomputable def Ec:V->Bool
 | .str s=>A6 s
 | _=>false
noncomputable def Hw:V->Bool
 | .str s=>Jd s
 | _=>false
noncomputable def Ng:V->Bool
 | .str s=>(Bp s).isSome
 | _=>false
structure Gs (P:Program)(w:World)(K:Om)(mg:Str->Option Value):Prop where
 ns:Eb mg "NAME_SIGNS" (.str LET)
 fg:Eb mg "FIGURES" (.str DIG)
 w9:∃ a,Eb mg "WORDS_NO_NAMES" (.ref a)/\∀ H,SqT K H a (W9.map V.str)
 w10:∃ a,Eb mg "WORDS_NOT_ODD" (.ref a)/\∀ H,SqT K H a (W10.map V.str)
 pw:∃ a,Eb mg "PARTS_OF_WORDS" (.ref a)/\DkK P w K a Ih
 gp:∃ a e,Eb mg "GAP" (.ref a)/\(∀ H,SqT K H a [.str "gap",.non,.ref e])/\∀ H,SqT K H e []
end K27
local macro_rules | `(tactic| walk_at "r1")=>`(tactic| (first | (with_reducible first | refine L2.s_seq ?_ | refine L2.s_asg ?_ | refine L2.s_ret ?_ | refine L2.s_ifS ?_ | refine L2.s_ifE ?_ | refine L2.s_dget ?_ | refine L2.s_din ?_ | refine L2.s_dput ?_ | refine L2.s_dget2 ?_ | refine L2.s_izipm ?_ | refine L2.s_dnotin ?_ | refine L2.s_listzt ?_ | refine L2.s_listr ?_ | refine L2.s_dget1 ?_ | refine L2.s_isB ?_ | refine L2.s_par ?_ | refine L2.s_test ?_ | refine L2.s_op ?_ | refine L2.s_c ?_ | refine L2.s_cons ?_ | refine L2.s_nil ?_ | refine L2.s_call ?_ | refine L2.s_cb ?_ | refine L2.s_gname ?_ | refine L2.s_ex ?_ | refine L2.s_exi ?_ | refine L2.s_drop ?_ | refine L2.s_next ?_ | refine L2.s_un ?_ | refine L2.s_tB ?_ | refine L2.s_not ?_ | refine L2.s_and ?_ | refine L2.s_or ?_ | refine L2.s_andV ?_ | refine L2.s_orV ?_ | refine L2.s_notV ?_ | refine L2.s_vals ?_ | refine L2.s_tup ?_ | refine L2.s_lst ?_ | refine L2.s_bm ?_ | refine L2.s_bm0 ?_ | refine L2.s_sl ?_ | refine L2.s_po ?_ | refine L2.s_po0 ?_ | refine L2.s_gcons ?_ | refine L2.s_gnil ?_ | refine L2.s_gsub ?_ | refine L2.s_isN ?_ | refine L2.s_notN ?_ | refine L2.s_rI0 ?_ | refine L2.s_rU ?_ | refine L2.s_add_int ?_ | refine L2.s_lt ?_ | refine L2.s_le ?_ | refine L2.iteT ?_ | refine L2.iteF ?_ | refine L2.s_comp ?_ | refine L2.s_for ?_ | refine L2.s_rng1 ?_ | refine L2.s_rng3 ?_ | refine L2.s_exr ?_ | refine L2.s_iany ?_ | refine L2.s_irev ?_ | refine L2.s_ienum ?_ | refine L2.s_listen ?_ | refine L2.s_listrev ?_ | refine L2.s_izip ?_ | refine L2.s_ienumT ?_ | refine L2.s_listzp ?_ | refine L2.s_ipI ?_ | refine L2.s_yes ?_ | refine L2.s_turn ?_ | refine L2.s_int_b ?_ | refine L2.s_intb ?_ | refine L2.s_truth ?_ | refine L2.s_chain ?_ | refine L2.s_nt ?_ | refine L2.s_nf ?_) | ((with_reducible refine' L2.s_var ?e ?_); (case e=>exact rfl)) | ((with_reducible refine' L2.s_aug ?e ?_); (case e=>exact rfl)) | ((with_reducible refine' L2.s_eq ?e ?_); (case e=>exact rfl)) | ((with_reducible refine' L2.s_ne ?e ?_); (case e=>exact rfl)) | ((with_reducible refine' L2.s_neb ?e ?_); (case e=>exact rfl)) | ((with_reducible refine' L2.s_eqy ?e ?_); (case e=>exact rfl)) | ((with_reducible refine' L2.s_eqk ?e ?_); (case e=>exact rfl)) | ((with_reducible refine' L2.s_rI ?c ?_); (case c=>first | decide | exact ⟨by decide,by decide⟩ | exact ⟨by decide,by decide,by decide⟩)) | ((with_reducible refine' L2.s_mul_r ?a ?b ?_); (case a=>decide); (case b=>decide)) | ((with_reducible refine' L2.s_mul_l ?a ?b ?_); (case a=>decide); (case b=>decide)) | ((with_reducible refine' L2.s_exr3 ?e ?_); (case e=>decide))))
local macro_rules | `(tactic| walk_at "r")=>`(tactic| (repeat walk_at "r1"))
local macro_rules | `(tactic| walk_at "q")=>`(tactic| (repeat (first | (with_reducible first | refine L2.s_gcons ?_ | refine L2.s_gname ?_ | refine L2.s_gnil ?_ | refine L2.s_seq ?_ | refine L2.s_asg ?_ | refine L2.s_c ?_ | refine L2.s_lst ?_ | refine L2.s_tup ?_ | refine L2.s_cons ?_ | refine L2.s_nil ?_) | ((with_reducible refine' L2.s_var ?e ?_); (case e=>exact rfl)))))
namespace K27
open PySem L2 K10 K19
section
variable {P:Program}{w:World}{K:Om}{mg:Str->Option Value}{base:Heap}
noncomputable def Za5 (K:Om):Sp:=fun vs H Q _=>∃ v,vs=[v]/\Has K H v/\Q (.bl (E5 v)) H
theorem Zh4:Ay ["thing"] ["thing"] (An Hu):=by walk_at "sc"
theorem Zg6 {f:Addr}{fd:FuncData}(F:Fun K "is_whole" "is_whole" Hu f fd)(T:Txt K mg):Aq P w K mg base Ar 1 f fd ["thing"] (Za5 K):=by
 refine F.okq Zh4 (fun vs H Q E h=>?_) (fun cdv A outer s H vs Q E hr h=>?_)
 ·obtain ⟨v,rfl,_⟩:=h
  rfl
 ·obtain ⟨v,rfl,⟨t,ht⟩,q⟩:=h
  refine ⟨_,Af (Ak (Df (A8 (Ef K "int") (by rfl) T.isinstance (by decide +kernel) (Aa (qv 0) (Aa (Eg (v:=.ty "int") (by rfl) T.int (by decide +kernel) rfl) Ab))) (Dw (Nz (A8 (Ef K "bool") (by rfl) T.isinstance (by decide +kernel) (Aa (qv 0) (Aa (Eg (v:=.ty "bool") (by rfl) T.bool (by decide +kernel) rfl) Ab))))))),?_⟩
  walk_at "r"
  refine F0 ht (by simp) ?_
  have e:E5 v=(Cv t "int" && !Cv t "bool"):=by cases ht <;> rfl
  rw [e] at q
  refine ⟨_,rfl,?_⟩
  cases h1:Cv t "int" with
  | false =>
   rw [h1] at q
   exact q
  | true =>
   rw [h1] at q
   walk_at "r"
   refine F0 ht (by simp) ?_
   walk_at "r"
   exact q
theorem big:100000<=sizeLine:=by decide
theorem Za0 {α:Type}{l:List α}{i:Nat}{c:α}(h:l[i]?=some c):l.take (i+1)=l.take i++[c]:=by
 rw [List.take_succ,h]
 rfl
theorem Zac {z:Str}{i:Nat}{c:Nat}(h:z.cps.toList[i]?=some c):i < z.length:=by
 have:=(O3.mp h).1
 simpa [Str.length] using this
theorem Zba {z:Str}{p:Nat->Bool}:(((z.cps.toList.take z.cps.size).map p).all id)=z.cps.toList.all p:=by
 rw [Qi (by simp),List.all_map]
 rfl
noncomputable def He (K:Om):Sp:=fun vs H Q _=>∃ v,vs=[v]/\Has K H v/\∀ H',Same H H'->Q (.bl (Ec v)) H'
theorem Zoy:(["sign"]:List Str).Nodup:=by decide +kernel
theorem Zoe:Ay ["thing"] ["thing"] (An Iy):=by walk_at "sc"
theorem Ik {t:Str}{ws:List Str}:C4 (.str t) (ws.map V.str)=Cp t ws:=by
 unfold C4 Cp
 rw [List.any_map]
 rfl
theorem Zf0 {ws:List Str}:(ws.map V.str).all Bw=true:=by
 rw [List.all_map]
 exact Pl.mpr fun _ _=>rfl
theorem Zrh {f:Addr}{fd:FuncData}(F:Fun K "is_name" "is_name" Iy f fd)(T:Txt K mg)(G:Gs P w K mg):Aq P w K mg base Ar 1 f fd ["thing"] (He K):=by
 refine F.okq Zoe (fun vs H Q E h=>?_) (fun cdv A outer s H vs Q E hr h=>?_)
 ·obtain ⟨v,rfl,_⟩:=h
  rfl
 ·obtain ⟨v,rfl,⟨t,ht⟩,q⟩:=h
  obtain ⟨a9,G_WORDS_NO_NAMES,h9⟩:=G.w9
  have G_NAME_SIGNS:=G.ns
  refine ⟨_,Ae (A0 (QW.qt (Du (B8 (B9 (A8 (Ef K "str") (by rfl) T.isinstance (by decide +kernel) (Aa (qv 0) (Aa (Eg (v:=.ty "str") (by rfl) T.str (by decide +kernel) rfl) Ab))))) (Fa (B8 (Kg Dm Dm Ac (A8 (Bt K) (by rfl) T.len (by decide +kernel) (Aa (qv 0) Ab)) Ac))))) (Af (Ak Cm)) A4)
   (Af (Ak (Df (A8 (N3 K rfl) (by rfl) T.all (by decide +kernel) (Aa (Fu (N:=["sign"]) (σ0:=C2 1 []) rfl (D6 rfl (by decide +kernel) (by decide +kernel) (by decide +kernel)) (Dd K (qv 0)) (D9 rfl (by rfl)) (fun _ _ _ _=>Ax (i:=0) Zoy rfl (Or.inl rfl)) (fun _ _ _ _=>Fl) (fun _ _ _ _=>Ca (Fs K) (qv 0) (Fi G_NAME_SIGNS) (by rfl))) Ab)) (Dw (Ca (Za2 K) (qv 0) (Fi G_WORDS_NO_NAMES) (by rfl)))))),?_⟩
  have bg:=big
  walk_at "r"
  refine F0 ht (by simp) ?_
  walk_at "r"
  cases h1:Cv t "str" with
  | false =>
   have e:Ec v=false:=by cases ht <;> first | rfl | (cases h1)
   walk_at "r"
   rw [e] at q
   exact q H (Same.refl H)
  | true =>
   obtain ⟨z,rfl,hz⟩:∃ z,v=.str z/\z.length<=1000:=by
    cases ht <;> first | exact ⟨_,rfl,by assumption⟩ | (cases h1)
   walk_at "r"
   refine Lz (by omega) ?_
   walk_at "r"
   have e:Ec (.str z)=(decide (1<=z.length) && decide (z.length<=8) && Bu z LET && !Cp z W9):=rfl
   rw [e] at q
   refine A1 (fun h=>?_) (fun h=>?_)
   ·have l1:1<=z.length:=by have:=of_decide_eq_true h;omega
    walk_at "r"
    refine A1 (fun h'=>?_) (fun h'=>?_)
    ·have l2:¬ z.length<=8:=fun x=>by simp at h';omega
     walk_at "r"
     have:=q H (Same.refl H)
     rw [decide_eq_false l2,Uq,Pf,Pf] at this
     exact this
    ·have l2:z.length<=8:=by simp at h';omega
     walk_at "r"
     refine .inr (.inr ⟨z,rfl,fun D hD=>?_⟩)
     refine Nm (z:=z) (Pv:=fun i ys σ' H'=>∃ sv,σ'=[sv]/\ys=((z.cps.toList.take i).map fun c=>decide (c∈LET.cps.toList)).map V.bl/\Same H H') ⟨none,rfl,rfl,Same.upd hD⟩ ?_ ?_
     ·rintro i c ys σ' H' hc hys ⟨sv,rfl,rfl,hH⟩
      walk_at "r"
      have hi:=Zac hc
      refine .inr ⟨c,LET,rfl,rfl,?_⟩
      refine ⟨_,hys,by rw [Pa,Pa,Ps];omega,_,Ad,_,rfl,?_,hH.over hD⟩
      rw [Za0 hc,Po,Po]
      rfl
     ·rintro ys σ' H' hys ⟨sv,rfl,rfl,hH⟩
      walk_at "r"
      refine ⟨D,_,rfl,SqL.of hys,?_⟩
      rw [Zba]
      have en:Bu z LET=(z.cps.toList.all fun c=>decide (c∈LET.cps.toList)):=rfl
      rw [<- en]
      have q':=q H' hH
      rw [decide_eq_true l1,decide_eq_true l2,Pp,Pp] at q'
      walk_at "r"
      refine A1 (fun hA=>?_) (fun hA=>?_)
      ·walk_at "r"
       refine Fq (.inr (h9 _)) rfl Zf0 ?_
       rw [hA,Pp] at q'
       rw [if_pos rfl,Ik]
       exact q'
      ·have hA:Bu z LET=false:=by simpa using hA
       rw [hA,Pf] at q'
       exact q'
   ·have l1:¬ 1<=z.length:=fun x=>h (decide_eq_true (by omega))
    walk_at "r"
    have:=q H (Same.refl H)
    rw [decide_eq_false l1,Pf,Pf,Pf] at this
    exact this
theorem Zlz (t:Str):t.cps.toList.length=t.length:=by simp [Str.length]
theorem Zp5 {t:Str}{c:Nat}(h:Bv t.cps.toList 0=some c):t.cps.toList.head?=some c:=by
 obtain ⟨j,h1,h2,h3,_⟩:=Km h
 have:j=0:=by
  unfold Bv Ds at h
  rw [U4 (by decide) (by omega)] at h1
  have:=Ox h1
  omega
 subst this
 rw [List.head?_eq_getElem?]
 exact h2
theorem Zju {t:Str}(h:1<=t.length):∃ c,Bv t.cps.toList 0=some c:=by
 obtain ⟨c,h1,_⟩:=Di (xs:=t.cps.toList) (i:=0) (by decide) (by rw [Zlz];omega)
 exact ⟨c,h1⟩
theorem Zmi (c:Nat):decide (V.str ⟨#[c]⟩=V.str ("0" : Str))=(some c == some 48):=by
 have e:("0" : Str)=⟨#[48]⟩:=by decide +kernel
 rw [e,Q4]
 simp
theorem Zo1 (t u:Str):decide (V.str t=V.str u)=(t == u):=by
 rw [Q4]
 simp
noncomputable def Zd0:Sp:=fun vs H Q _=>∃ z:Str,vs=[.str z]/\z.length<=1000/\∀ H',Same H H'->Q (.bl (Jb z)) H'
theorem Zl2:(["sign"]:List Str).Nodup:=by decide +kernel
theorem Zrd:Ay ["text"] ["text"] (An Jr):=by walk_at "sc"
theorem Zlh {f:Addr}{fd:FuncData}(F:Fun K "is_figures" "is_figures" Jr f fd)(T:Txt K mg)(G:Gs P w K mg):Aq P w K mg base Ar 1 f fd ["text"] Zd0:=by
 refine F.okq Zrd (fun vs H Q E h=>?_) (fun cdv A outer s H vs Q E hr h=>?_)
 ·obtain ⟨v,rfl,_⟩:=h
  rfl
 ·obtain ⟨z,rfl,hz,q⟩:=h
  have G_FIGURES:=G.fg
  refine ⟨_,Ae (A0 (QW.qt (Du (B8 (Kg Dm Dm Ac (A8 (Bt K) (by rfl) T.len (by decide +kernel) (Aa (qv 0) Ab)) Ac)) (Fa (B8 (B9 (A8 (N3 K rfl) (by rfl) T.all (by decide +kernel) (Aa (Fu (N:=["sign"]) (σ0:=C2 1 []) rfl (D6 rfl (by decide +kernel) (by decide +kernel) (by decide +kernel)) (Dd K (qv 0)) (D9 rfl (by rfl)) (fun _ _ _ _=>Ax (i:=0) Zl2 rfl (Or.inl rfl)) (fun _ _ _ _=>Fl) (fun _ _ _ _=>Ca (Fs K) (qv 0) (Fi G_FIGURES) (by rfl))) Ab))))))) (Af (Ak Cm)) A4)
   (Af (Ak (Zgg (Ca (Bl K hr.u200) (qv 0) A2 (Az _)) (Dw (Ca (Ny K hr.u200) (Am K (qv 0) Ac) A2 (Az _)))))),?_⟩
  have bg:=big
  have e:Jb z=(decide (1<=z.length) && decide (z.length<=18) && Bu z DIG && (z == ("0" : Str) || !hd0 z)):=rfl
  rw [e] at q
  walk_at "r"
  refine Lz (by omega) ?_
  walk_at "r"
  refine A1 (fun h=>?_) (fun h=>?_)
  ·have l1:1<=z.length:=by have:=of_decide_eq_true h;omega
   walk_at "r"
   refine A1 (fun h'=>?_) (fun h'=>?_)
   ·have l2:¬ z.length<=18:=fun x=>by simp at h';omega
    walk_at "r"
    have:=q H (Same.refl H)
    rw [decide_eq_false l2,Uq,Pf,Pf] at this
    exact this
   ·have l2:z.length<=18:=by simp at h';omega
    walk_at "r"
    refine .inr (.inr ⟨z,rfl,fun D hD=>?_⟩)
    refine Nm (z:=z) (Pv:=fun i ys σ' H'=>∃ sv,σ'=[sv]/\ys=((z.cps.toList.take i).map fun c=>decide (c∈DIG.cps.toList)).map V.bl/\Same H H') ⟨none,rfl,rfl,Same.upd hD⟩ ?_ ?_
    ·rintro i c ys σ' H' hc hys ⟨sv,rfl,rfl,hH⟩
     walk_at "r"
     have hi:=Zac hc
     refine .inr ⟨c,DIG,rfl,rfl,?_⟩
     refine ⟨_,hys,by rw [Pa,Pa,Ps];omega,_,Ad,_,rfl,?_,hH.over hD⟩
     rw [Za0 hc,Po,Po]
     rfl
    ·rintro ys σ' H' hys ⟨sv,rfl,rfl,hH⟩
     walk_at "r"
     refine ⟨D,_,rfl,SqL.of hys,?_⟩
     rw [Zba]
     have en:Bu z DIG=(z.cps.toList.all fun c=>decide (c∈DIG.cps.toList)):=rfl
     rw [<- en]
     have q':=q H' hH
     rw [decide_eq_true l1,decide_eq_true l2,Pp,Pp] at q'
     walk_at "r"
     refine A1 (fun hA=>?_) (fun hA=>?_)
     ·have hA:Bu z DIG=false:=by simpa using hA
      rw [hA,Pf] at q'
      walk_at "r"
      exact q'
     ·have hA:Bu z DIG=true:=by simpa using hA
      rw [hA,Pp] at q'
      walk_at "r"
      rw [Zo1]
      refine A1 (fun hz=>?_) (fun hz=>?_)
      ·rw [hz,Bool.true_or] at q'
       exact q'
      ·have hz:(z == ("0" : Str))=false:=by simpa using hz
       rw [hz,Bool.false_or] at q'
       walk_at "r"
       obtain ⟨c,hc⟩:=Zju l1
       refine Kt (by omega) hc ?_
       refine s_ne rfl ?_
       rw [Zmi]
       have:hd0 z=(some c == some 48):=by
        unfold hd0
        rw [Zp5 hc]
       rw [<- this]
       exact q'
  ·have l1:¬ 1<=z.length:=fun x=>h (decide_eq_true (by omega))
   walk_at "r"
   have:=q H (Same.refl H)
   rw [decide_eq_false l1,Pf,Pf,Pf] at this
   exact this
noncomputable def Zfj:Sp:=fun vs H Q _=>∃ c:Nat,vs=[.str ⟨#[c]⟩]/\Q (.bl (Dl c)) H
theorem Zl8:Ay ["sign"] ["sign"] (An Ig):=by walk_at "sc"
theorem ll1 (a b:Nat):decide ([a] < [b])=decide (a < b):=by
 by_cases h:a < b
 ·rw [decide_eq_true h]
  exact decide_eq_true (List.Lex.rel h)
 ·rw [decide_eq_false h]
  refine decide_eq_false fun e=>?_
  cases e with
  | rel e=>exact h e
  | cons e=>cases e
theorem Zlk (c:Nat):(!decide ((⟨#[c]⟩:Str).cps.toList < ("!" : Str).cps.toList))=decide (33<=c):=by
 have e:("!" : Str).cps.toList=[33]:=by decide +kernel
 have e2:(⟨#[c]⟩:Str).cps.toList=[c]:=rfl
 rw [e,e2,ll1,Q4]
 simp
theorem Ziy (c:Nat):(!decide (("~" : Str).cps.toList < (⟨#[c]⟩:Str).cps.toList))=decide (c<=126):=by
 have e:("~" : Str).cps.toList=[126]:=by decide +kernel
 have e2:(⟨#[c]⟩:Str).cps.toList=[c]:=rfl
 rw [e,e2,ll1,Q4]
 simp
theorem Zhq {f:Addr}{fd:FuncData}(F:Fun K "is_odd_sign" "is_odd_sign" Ig f fd)(T:Txt K mg):Aq P w K mg base Ar 1 f fd ["sign"] Zfj:=by
 refine F.okq Zl8 (fun vs H Q E h=>?_) (fun cdv A outer s H vs Q E hr h=>?_)
 ·obtain ⟨v,rfl,_⟩:=h
  rfl
 ·obtain ⟨c,rfl,q⟩:=h
  refine ⟨_,Af (Ak (Df (Mb Dm Dm A2 (qv 0) A2) (Dw (Ca (Za2 K) (qv 0) A2 (by rfl))))),?_⟩
  walk_at "r"
  have e:Dl c=(decide (33<=c) && decide (c<=126) && !decide (c∈BR.cps.toList)):=rfl
  rw [e] at q
  refine .inr ⟨_,_,rfl,rfl,_,rfl,?_⟩
  rw [Zlk]
  refine A1 (fun h=>?_) (fun h=>?_)
  ·rw [h,Pp] at q
   walk_at "r"
   refine .inr ⟨_,_,rfl,rfl,_,rfl,?_⟩
   rw [Ziy]
   refine A1 (fun h=>?_) (fun h=>?_)
   ·rw [h,Pp] at q
    walk_at "r"
    exact .inr ⟨c,BR,rfl,rfl,q⟩
   ·have h:decide (c<=126)=false:=by simpa using h
    rw [h,Pf] at q
    exact q
  ·have h:decide (33<=c)=false:=by simpa using h
   rw [h,Pf,Pf] at q
   exact ⟨_,rfl,iteF q⟩
noncomputable def Zge (K:Om):Sp:=fun vs H Q _=>∃ v,vs=[v]/\Has K H v/\∀ H',Same H H'->Q (.bl (Hw v)) H'
theorem Znm:(["sign"]:List Str).Nodup:=by decide +kernel
theorem Zn1:Ay ["thing"] ["thing"] (An Il):=by walk_at "sc"
theorem Zhv {f:Addr}{fd:FuncData}(F:Fun K "is_odd" "is_odd" Il f fd)(T:Txt K mg)(G:Gs P w K mg)(C_is_odd_sign:Av P w K mg base 1 "is_odd_sign" ["sign"] Zfj)(C_is_name:Av P w K mg base 1 "is_name" ["thing"] (He K))(C_is_figures:Av P w K mg base 1 "is_figures" ["text"] Zd0):Aq P w K mg base Ar 2 f fd ["thing"] (Zge K):=by
 refine F.okq Zn1 (fun vs H Q E h=>?_) (fun cdv A outer s H vs Q E hr h=>?_)
 ·obtain ⟨v,rfl,_⟩:=h
  rfl
 ·obtain ⟨v,rfl,⟨t,ht⟩,q⟩:=h
  obtain ⟨a10,G_WORDS_NOT_ODD,h10⟩:=G.w10
  refine ⟨_,Ae (A0 (QW.qt (Du (B8 (B9 (A8 (Ef K "str") (by rfl) T.isinstance (by decide +kernel) (Aa (qv 0) (Aa (Eg (v:=.ty "str") (by rfl) T.str (by decide +kernel) rfl) Ab))))) (Fa (B8 (Kg Dm Dm Ac (A8 (Bt K) (by rfl) T.len (by decide +kernel) (Aa (qv 0) Ab)) Ac))))) (Af (Ak Cm)) A4)
   (Ae (A0 (B8 (B9 (A8 (N3 K rfl) (by rfl) T.all (by decide +kernel) (Aa (Fu (N:=["sign"]) (σ0:=C2 1 []) rfl (D6 rfl (by decide +kernel) (by decide +kernel) (by decide +kernel)) (Dd K (qv 0)) (D9 rfl (by rfl)) (fun _ _ _ _=>Ax (i:=0) Znm rfl (Or.inl rfl)) (fun _ _ _ _=>Fl) (fun _ _ _ _=>As C_is_odd_sign hr.m (Aa (qv 0) Ab))) Ab)))) (Af (Ak Cm)) A4)
   (Af (Ak (Df (Nz (As C_is_name hr.m (Aa (qv 0) Ab))) (Df (Ca (Za2 K) (qv 0) (Fi G_WORDS_NOT_ODD) (by rfl)) (Dw (Nz (As C_is_figures hr.m (Aa (qv 0) Ab))))))))),?_⟩
  have bg:=big
  walk_at "r"
  refine F0 ht (by simp) ?_
  walk_at "r"
  cases h1:Cv t "str" with
  | false =>
   have e:Hw v=false:=by cases ht <;> first | rfl | (cases h1)
   walk_at "r"
   rw [e] at q
   exact q H (Same.refl H)
  | true =>
   obtain ⟨z,rfl,hz⟩:∃ z,v=.str z/\z.length<=1000:=by
    cases ht <;> first | exact ⟨_,rfl,by assumption⟩ | (cases h1)
   walk_at "r"
   refine Lz (by omega) ?_
   walk_at "r"
   have e:Hw (.str z)=(decide (1<=z.length) && decide (z.length<=60) && z.cps.toList.all Dl && !A6 z && !Cp z W10 && !Jb z):=rfl
   rw [e] at q
   refine A1 (fun h=>?_) (fun h=>?_)
   ·have l1:1<=z.length:=by have:=of_decide_eq_true h;omega
    walk_at "r"
    refine A1 (fun h'=>?_) (fun h'=>?_)
    ·have l2:¬ z.length<=60:=fun x=>by simp at h';omega
     walk_at "r"
     have:=q H (Same.refl H)
     rw [decide_eq_false l2,Uq] at this
     exact this
    ·have l2:z.length<=60:=by simp at h';omega
     walk_at "r"
     refine .inr (.inr ⟨z,rfl,fun D hD=>?_⟩)
     refine Nm (z:=z) (Pv:=fun i ys σ' H'=>∃ sv,σ'=[sv]/\ys=((z.cps.toList.take i).map Dl).map V.bl/\Same H H') ⟨none,rfl,rfl,Same.upd hD⟩ ?_ ?_
     ·rintro i c ys σ' H' hc hys ⟨sv,rfl,rfl,hH⟩
      walk_at "r"
      have hi:=Zac hc
      refine ⟨c,rfl,?_⟩
      refine ⟨_,hys,by rw [Pa,Pa,Ps];omega,_,Ad,_,rfl,?_,hH.over hD⟩
      rw [Za0 hc,Po,Po]
      rfl
     ·rintro ys σ' H' hys ⟨sv,rfl,rfl,hH⟩
      walk_at "r"
      refine ⟨D,_,rfl,SqL.of hys,?_⟩
      rw [Zba]
      rw [decide_eq_true l1,decide_eq_true l2,Pp,Pp] at q
      walk_at "r"
      refine A1 (fun hA=>?_) (fun hA=>?_)
      ·have hA:z.cps.toList.all Dl=false:=by simpa using hA
       rw [hA] at q
       walk_at "r"
       exact q H' hH
      ·have hA:z.cps.toList.all Dl=true:=by simpa using hA
       rw [hA,Pp] at q
       walk_at "r"
       refine ⟨_,rfl,⟨_,.str z hz⟩,fun H2 s2=>?_⟩
       walk_at "r"
       show if (!A6 z)=true then _ else _
       refine A1 (fun hN=>?_) (fun hN=>?_)
       ·rw [hN,Pp] at q
        walk_at "r"
        refine Fq (.inr (h10 _)) rfl Zf0 ?_
        rw [if_pos rfl,Ik]
        walk_at "r"
        refine A1 (fun hW=>?_) (fun hW=>?_)
        ·rw [hW,Pp] at q
         walk_at "r"
         refine ⟨_,rfl,hz,fun H3 s3=>?_⟩
         walk_at "r"
         exact q H3 ((hH.trans s2).trans s3)
        ·have hW:(!Cp z W10)=false:=by simpa using hW
         rw [hW] at q
         exact q H2 (hH.trans s2)
       ·have hN:(!A6 z)=false:=by simpa using hN
        rw [hN] at q
        exact q H2 (hH.trans s2)
   ·have l1:¬ 1<=z.length:=fun x=>h (decide_eq_true (by omega))
    walk_at "r"
    have:=q H (Same.refl H)
    rw [decide_eq_false l1] at this
    exact this
noncomputable def Zcs (K:Om):Sp:=fun vs H Q _=>∃ v,vs=[v]/\Has K H v/\Q (.bl (Ng v)) H
theorem Zpw:Ay ["thing"] ["thing"] (An Ix):=by walk_at "sc"
theorem Zjj {f:Addr}{fd:FuncData}(F:Fun K "is_word" "is_word" Ix f fd)(T:Txt K mg)(G:Gs P w K mg):Aq P w K mg base Ar 1 f fd ["thing"] (Zcs K):=by
 refine F.okq Zpw (fun vs H Q E h=>?_) (fun cdv A outer s H vs Q E hr h=>?_)
 ·obtain ⟨v,rfl,_⟩:=h
  rfl
 ·obtain ⟨v,rfl,⟨t,ht⟩,q⟩:=h
  obtain ⟨ap,G_PARTS_OF_WORDS,hp⟩:=G.pw
  refine ⟨_,Af (Ak (Df (A8 (Ef K "str") (by rfl) T.isinstance (by decide +kernel) (Aa (qv 0) (Aa (Eg (v:=.ty "str") (by rfl) T.str (by decide +kernel) rfl) Ab))) (Dw (Ca (Zjo P w K) (qv 0) (Fi G_PARTS_OF_WORDS) (by rfl))))),?_⟩
  walk_at "r"
  refine F0 ht (by simp) ?_
  walk_at "r"
  cases h1:Cv t "str" with
  | false =>
   have e:Ng v=false:=by cases ht <;> first | rfl | (cases h1)
   rw [e] at q
   exact iteF q
  | true =>
   obtain ⟨z,rfl,hz⟩:∃ z,v=.str z/\z.length<=1000:=by
    cases ht <;> first | exact ⟨_,rfl,by assumption⟩ | (cases h1)
   walk_at "r"
   refine ⟨z,ap,Ih,rfl,rfl,hp,?_⟩
   rw [Zfn,Option.isSome_map]
   exact q
inductive Nt where
 | fl (v:V)
 | tp (xs:List V)
 | ot
noncomputable def NtAt (K:Om)(H:Hp)(v:V):Nt->Prop
 | .fl u=>v=u/\∃ t,TyN K H u t/\Cv t "tuple" = false
 | .tp xs=>∃ a,v=.ref a/\SqT K H a xs/\∀ x∈xs,Has K H x
 | .ot=>∃ a t,v=.ref a/\TyN K H v t/\Cv t "tuple" = false
theorem NtAt.same {K:Om}{H H':Hp}{v:V}{n:Nt}(h:NtAt K H v n)(e:Same H H'):NtAt K H' v n:=by
 cases n with
 | fl u=>obtain ⟨h1,t,h2,h3⟩:=h;exact ⟨h1,t,h2.same e,h3⟩
 | tp xs=>obtain ⟨a,h1,h2,h3⟩:=h;exact ⟨a,h1,e.t.tup h2,fun x hx=>(h3 x hx).same e⟩
 | ot=>obtain ⟨a,t,h1,h2,h3⟩:=h;exact ⟨a,t,h1,h2.same e,h3⟩
theorem NtAt.has {K:Om}{H:Hp}{v:V}{n:Nt}(h:NtAt K H v n):Has K H v:=by
 cases n with
 | fl u=>obtain ⟨rfl,t,h2,h3⟩:=h;exact ⟨t,h2⟩
 | tp xs=>obtain ⟨a,rfl,h2,h3⟩:=h;exact ⟨_,.tup h2⟩
 | ot=>obtain ⟨a,t,rfl,h2,h3⟩:=h;exact ⟨t,h2⟩
noncomputable def twoN:Nt->Bool
 | .tp [x,y]=>Ec x && Ec y
 | _=>false
noncomputable def Zdp (K:Om):Sp:=fun vs H Q _=>∃ v n,vs=[v]/\NtAt K H v n/\∀ H',Same H H'->Q (.bl (twoN n)) H'
theorem Zok:Ay ["thing"] ["thing"] (An Jv):=by walk_at "sc"
theorem Zoz {f:Addr}{fd:FuncData}(F:Fun K "is_two_names" "is_two_names" Jv f fd)(T:Txt K mg)(C_is_name:Av P w K mg base 1 "is_name" ["thing"] (He K)):Aq P w K mg base Ar 2 f fd ["thing"] (Zdp K):=by
 refine F.okq Zok (fun vs H Q E h=>?_) (fun cdv A outer s H vs Q E hr h=>?_)
 ·obtain ⟨v,n,rfl,_⟩:=h
  rfl
 ·obtain ⟨v,n,rfl,hn,q⟩:=h
  refine ⟨_,Af (Ak (Df (A8 (Ef K "tuple") (by rfl) T.isinstance (by decide +kernel) (Aa (qv 0) (Aa (Eg (v:=.ty "tuple") (by rfl) T.tuple (by decide +kernel) rfl) Ab))) (Df (Ca (Bl K hr.u200) (A8 (Bt K) (by rfl) T.len (by decide +kernel) (Aa (qv 0) Ab)) Ac (Az _)) (Df (As C_is_name hr.m (Aa (Am K (qv 0) Ac) Ab)) (Dw (As C_is_name hr.m (Aa (Am K (qv 0) Ac) Ab))))))),?_⟩
  walk_at "r"
  have no:∀ t,TyN K H v t->Cv t "tuple" = false->twoN n=false->F8 K "tuple" [v,.ty "tuple"] H fun x H1=>∃ k,x=.bl k/\if k=true then (Hx (Cw (Gu K) (Gq (Hc K) (D0 (Em 0) Dv)) (tC (.int 2))) (Hx (Fp (He K) [] E (D0 (Cw (Fg K) (Em 0) (tC (.int 0))) Dv)) (Fp (He K) [] E (D0 (Cw (Fg K) (Em 0) (tC (.int 1))) Dv)))) (L2.start ["thing"] [v]) H1 Q else Q (.bl false) H1:=by
   intro t ht hk h2
   refine F0 ht (by simp) ⟨_,rfl,?_⟩
   rw [hk]
   have:=q H (Same.refl H)
   rw [h2] at this
   exact iteF this
  cases n with
  | fl u =>
   obtain ⟨rfl,t,ht,hk⟩:=hn
   exact no t ht hk rfl
  | ot =>
   obtain ⟨a,t,rfl,ht,hk⟩:=hn
   exact no t ht hk rfl
  | tp xs =>
   obtain ⟨a,rfl,hq,hx⟩:=hn
   refine F0 (.tup hq) (by simp) ?_
   show ∃ k,V.bl true=V.bl k/\_
   walk_at "r"
   refine Ek hq ?_
   walk_at "r"
   match xs,hq,hx,q with
   | [x,y],hq,hx,q =>
    refine iteT ?_
    walk_at "r"
    refine A3 hq (v:=x) rfl ?_
    walk_at "r"
    refine ⟨_,rfl,hx x (by simp),fun H1 s1=>?_⟩
    have e:twoN (.tp [x,y])=(Ec x && Ec y):=rfl
    rw [e] at q
    walk_at "r"
    refine A1 (fun h=>?_) (fun h=>?_)
    ·rw [h,Pp] at q
     walk_at "r"
     refine A3 (s1.t.tup hq) (v:=y) rfl ?_
     walk_at "r"
     exact ⟨_,rfl,(hx y (by simp)).same s1,fun H2 s2=>q H2 (s1.trans s2)⟩
    ·have h:Ec x=false:=by simpa using h
     rw [h,Pf] at q
     exact q H1 s1
   | [],hq,hx,q=>exact iteF (q H (Same.refl H))
   | [x],hq,hx,q=>exact iteF (q H (Same.refl H))
   | x::y::z::r,hq,hx,q =>
    refine A1 (fun h=>?_) (fun h=>q H (Same.refl H))
    have:=of_decide_eq_true h
    have h2:(((x::y::z::r).length:Nat):Int)=2:=V.int.inj this
    simp only [O5] at h2
    omega
noncomputable def Lm:Nt->Bool
 | .fl v=>Ec v
 | _=>false
noncomputable def Ln:Nt->Bool
 | .fl v=>Hw v
 | _=>false
noncomputable def Hf:Nt->Bool
 | .fl (.int i)=>decide (0<=i) && decide (i < 10 ^ 18)
 | _=>false
noncomputable def K1:Nt->Bool
 | .fl (.bl _)=>true
 | _=>false
noncomputable def G8:Nt->Bool
 | .fl .non=>true
 | _=>false
noncomputable def C0 (wd:Str)(n:Nt):Bool :=
 if wd = "odd" then Ln n else if wd = "num" then Hf n else if wd = "truth" then K1 n else if wd∈(["name", "fn", "let"]:List Str) then Lm n else if wd = "rec" then twoN n else G8 n
theorem NtAt.name {K:Om}{H:Hp}{v:V}{n:Nt}(h:NtAt K H v n):Ec v=Lm n/\Hw v=Ln n/\(E5 v=true↔∃ i,v=.int i/\n=.fl (.int i))/\(decide (v=.bl true) || decide (v=.bl false))=K1 n/\decide (v=.non)=G8 n:=by
 cases n with
 | fl u =>
  obtain ⟨rfl,t,h2,h3⟩:=h
  cases h2 <;> first | (exact ⟨rfl,rfl,by simp [E5],rfl,rfl⟩) | (exact ⟨rfl,rfl,by simp [E5],by decide,rfl⟩) | skip
  rename_i b
  exact ⟨rfl,rfl,by simp [E5],by cases b <;> rfl,rfl⟩
 | tp xs =>
  obtain ⟨a,rfl,h2,h3⟩:=h
  exact ⟨rfl,rfl,by simp [E5],rfl,rfl⟩
 | ot =>
  obtain ⟨a,t,rfl,h2,h3⟩:=h
  exact ⟨rfl,rfl,by simp [E5],rfl,rfl⟩
theorem Dg (a b:Str):decide (V.str a=V.str b)=decide (a=b):=by
 by_cases h:a=b
 ·simp [h]
 ·simp [h]
noncomputable def Zcp (K:Om):Sp:=fun vs H Q _=>∃ wd v n,vs=[.str wd,v]/\NtAt K H v n/\∀ H',Same H H'->Q (.bl (C0 wd n)) H'
theorem Zq7:Ay ["word", "note"] ["word", "note"] (An Ir):=by walk_at "sc"
theorem Zp1 {f:Addr}{fd:FuncData}(F:Fun K "is_note" "is_note" Ir f fd)(T:Txt K mg)(C_is_whole:Av P w K mg base 1 "is_whole" ["thing"] (Za5 K))(C_is_name:Av P w K mg base 1 "is_name" ["thing"] (He K))(C_is_odd:Av P w K mg base 2 "is_odd" ["thing"] (Zge K))(C_is_two_names:Av P w K mg base 2 "is_two_names" ["thing"] (Zdp K)):Aq P w K mg base Ar 3 f fd ["word", "note"] (Zcp K):=by
 refine F.okq Zq7 (fun vs H Q E h=>?_) (fun cdv A outer s H vs Q E hr h=>?_)
 ·obtain ⟨wd,v,n,rfl,_⟩:=h
  rfl
 ·obtain ⟨wd,v,n,rfl,hn,q⟩:=h
  refine ⟨_,Ae (A0 (A5 (Bl K hr.u200) (qv 0) A2 (Az _)) (Af (Ak (As C_is_odd hr.m (Aa (qv 1) Ab)))) A4)
   (Ae (A0 (A5 (Bl K hr.u200) (qv 0) A2 (Az _)) (Af (Ak (Df (As C_is_whole hr.m (Aa (qv 1) Ab)) (Dw (Mb Dm Ja Ac (qv 1) (Ag M1 Ac Ac)))))) A4)
   (Ae (A0 (A5 (Bl K hr.u200) (qv 0) A2 (Az _)) (Af (Ak (Zgg (Ca Zc9 (qv 1) Cm (Az _)) (Dw (Ca Zc9 (qv 1) Cm (Az _)))))) A4)
   (Ae (A0 (A5 (Fs K) (qv 0) (Ap (Aa A2 (Aa A2 (Aa A2 Ab)))) (by rfl)) (Af (Ak (As C_is_name hr.m (Aa (qv 1) Ab)))) A4)
   (Ae (A0 (A5 (Bl K hr.u200) (qv 0) A2 (Az _)) (Af (Ak (As C_is_two_names hr.m (Aa (qv 1) Ab)))) A4)
   (Af (Ak (Zm3 (Zlc (qv 1))))))))),?_⟩
  obtain ⟨e1,e2,e3,e4,e5⟩:=hn.name
  unfold C0 at q
  walk_at "r"
  rw [Dg]
  refine A1 (fun h=>?_) (fun h=>?_)
  ·rw [if_pos (of_decide_eq_true h),<- e2] at q
   walk_at "r"
   exact ⟨_,rfl,hn.has,q⟩
  rw [if_neg (fun x=>h (decide_eq_true x))] at q
  walk_at "r"
  rw [Dg]
  refine A1 (fun h=>?_) (fun h=>?_)
  ·rw [if_pos (of_decide_eq_true h)] at q
   walk_at "r"
   refine ⟨_,rfl,hn.has,?_⟩
   walk_at "r"
   refine A1 (fun h=>?_) (fun h=>?_)
   ·obtain ⟨i,rfl,rfl⟩:=e3.mp h
    have e:Hf (.fl (.int i))=(decide (0<=i) && decide (i < 10 ^ 18)):=rfl
    rw [e] at q
    walk_at "r"
    refine A1 (fun h=>?_) (fun h=>?_)
    ·rw [h,Pp] at q
     walk_at "r"
     exact q H (Same.refl H)
    ·have h:decide (0<=i)=false:=by simpa using h
     rw [h,Pf] at q
     exact q H (Same.refl H)
   ·have e:Hf n=false:=by
     cases hx:Hf n with
     | false=>rfl
     | true =>
      cases n with
      | fl u =>
       obtain ⟨rfl,_⟩:=hn
       cases v <;> first | (cases hx) | (exact absurd rfl h)
      | tp xs=>cases hx
      | ot=>cases hx
    rw [e] at q
    exact q H (Same.refl H)
  rw [if_neg (fun x=>h (decide_eq_true x))] at q
  walk_at "r"
  rw [Dg]
  refine A1 (fun h=>?_) (fun h=>?_)
  ·rw [if_pos (of_decide_eq_true h),<- e4] at q
   walk_at "r"
   refine A1 (fun h=>?_) (fun h=>?_)
   ·rw [h,Bool.true_or] at q
    exact q H (Same.refl H)
   ·have h:decide (v=.bl true)=false:=by simpa using h
    rw [h,Bool.false_or] at q
    walk_at "r"
    exact q H (Same.refl H)
  rw [if_neg (fun x=>h (decide_eq_true x))] at q
  walk_at "r"
  refine ⟨Bj,fun p hp=>?_⟩
  refine Fq (.inr (SqT.of Ad)) rfl rfl ?_
  have sm:=Same.upd (o:=.tup [.str "name",.str "fn",.str "let"]) hp
  have em:C4 (.str wd) [.str "name",.str "fn",.str "let"]=decide (wd∈(["name", "fn", "let"]:List Str)):=by
   have:=Ik (t:=wd) (ws:=["name", "fn", "let"])
   rw [show ([V.str "name",V.str "fn",V.str "let"]:List V)=(["name", "fn", "let"]:List Str).map V.str from rfl,this]
   by_cases hm:wd∈(["name", "fn", "let"]:List Str)
   ·rw [decide_eq_true hm,Zen hm]
   ·rw [decide_eq_false hm,Kj hm]
  rw [if_neg Oz,em]
  walk_at "r"
  refine A1 (fun h=>?_) (fun h=>?_)
  ·rw [if_pos (of_decide_eq_true h),<- e1] at q
   walk_at "r"
   exact ⟨_,rfl,hn.has.same sm,fun H' s'=>q H' (sm.trans s')⟩
  rw [if_neg (fun x=>h (decide_eq_true x))] at q
  walk_at "r"
  rw [Dg]
  refine A1 (fun h=>?_) (fun h=>?_)
  ·rw [if_pos (of_decide_eq_true h)] at q
   walk_at "r"
   exact ⟨_,_,rfl,hn.same sm,fun H' s'=>q H' (sm.trans s')⟩
  rw [if_neg (fun x=>h (decide_eq_true x)),<- e5] at q
  walk_at "r"
  exact q _ sm
noncomputable def Zbb (K:Om):Sp:=fun vs H Q _=>∃(a:Addr)(k:Int),vs=[.ref a,.int k]/\Zds K H a/\0<=k/\∀ z:Int,Q (.int z) H
theorem Kf:Ay ["_law_script", "_law_k", "_law_many_here", "_law_first"] ["_law_script", "_law_k"] (An Jq):=by walk_at "sc"
theorem Zo0 {f:Addr}{fd:FuncData}(F:Fun K "_law_cell" "_law_cell" Jq f fd)(T:Txt K mg):Aq P w K mg base Ar 1 f fd ["_law_script", "_law_k"] (Zbb K):=by
 refine F.okq Kf (fun vs H Q E h=>?_) (fun cdv A outer s H vs Q E hr h=>?_)
 ·obtain ⟨a,k,rfl,_⟩:=h
  rfl
 ·obtain ⟨a,k,rfl,S,h0,q⟩:=h
  obtain ⟨ns,hS,hl⟩:=S.ex
  refine ⟨_,Ae (A0 (A5 Ja (qv 1) (A8 (Bt K) (by rfl) T.len (by decide +kernel) (Aa (qv 0) Ab)) (Az _)) (Af (Ak (Am K (qv 0) (qv 1)))) A4)
   (Ae (Ao 2 Kf (A8 (Bt K) (by rfl) T.len (by decide +kernel) (Aa (qv 0) Ab)))
   (Ae (Ao 3 Kf Ac)
   (Ae (A0 (A5 Go (qv 2) Ac (Az _)) (Af (Ao 3 Kf (Ag A7 (Am K (qv 0) (Ag A7 (qv 1) (qv 2))) Ac))) A4)
   (Af (Ak (Ag A7 (Ag (Bf K) (Ag (Bf K) (Ag Cn (qv 3) Ac) (Ag Cn (qv 2) Ac)) (Ag Cn (qv 1) Ac)) Ac)))))),?_⟩
  walk_at "r"
  refine Ey hS ?_
  walk_at "r"
  refine A1 (fun h=>?_) (fun h=>?_)
  ·have h1:k < (ns.map V.int).length:=by simpa using h
   obtain ⟨v,hv,m⟩:=Di h0 h1
   obtain ⟨z,_,rfl⟩:=Sc.mp m
   walk_at "r"
   exact B5 hS hv (q z)
  ·walk_at "r"
   refine Ey hS ?_
   walk_at "r"
   refine A1 (fun h=>?_) (fun h=>?_)
   ·have hp:(0:Int) < (ns.map V.int).length:=by simpa using h
    obtain ⟨v,hv,m⟩:=Di (xs:=ns.map V.int) (Py k (by omega)) (P6 k hp)
    obtain ⟨z,_,rfl⟩:=Sc.mp m
    walk_at "r"
    refine s_rI hp ?_
    refine B5 hS hv ?_
    walk_at "r"
    exact q _
   ·walk_at "r"
    exact q _
theorem Zrj:LET.cps.toList.length=27:=by decide +kernel
theorem Zjr:LET.length<=sizeLine:=by decide +kernel
theorem Eo (u v:Str):(u++v).length=u.length+v.length:=by
 show (u.cps++v.cps).size=_
 simp [Str.length]
theorem Gc (c:Nat):(⟨#[c]⟩:Str).length=1:=rfl
theorem Gk (t u:Str):(t++u).cps.toList=t.cps.toList++u.cps.toList:=by
 show (t.cps++u.cps).toList=_
 simp
theorem Ze1 (t u s:Str):Bu (t++u) s=(Bu t s && Bu u s):=by
 unfold Bu
 rw [Gk,List.all_append]
theorem Zq9 {c:Nat}{s:Str}(h:c∈s.cps.toList):Bu ⟨#[c]⟩ s=true:=by
 unfold Bu
 simpa using h
theorem Zo7:W9.all (fun t=>decide (t.length<=4))=true:=by decide +kernel
theorem Zki:W9.all (fun t=>!(t.cps.toList.getLast? == some 95))=true:=by decide +kernel
theorem Zjx {t:Str}(h:t∈W9):t.length<=4:=of_decide_eq_true (Pl.mp Zo7 t h)
theorem Zdl {t:Str}(h1:1<=t.length)(h2:t.length<=8)(h3:Bu t LET=true)(h4:Cp t W9=false):A6 t=true:=by
 unfold A6
 rw [decide_eq_true h1,decide_eq_true h2,h3,h4]
 rfl
theorem G7 {t:Str}(h:A6 t=true):Bu t LET=true/\t.length<=8:=by
 unfold A6 at h
 simp only [Pt,decide_eq_true_eq] at h
 exact ⟨h.1.2,h.1.1.2⟩
theorem Zpk:("_" : Str).cps.toList=[95]:=by decide +kernel
theorem Zc7 {t:Str}(h:Bu t LET=true)(hl:t.length+1<=8):A6 (t++("_" : Str))=true:=by
 have l1:(Pq "_").length=1:=by decide +kernel
 have la:(t++Pq "_").length=t.length+1:=by rw [Eo,l1]
 refine Zdl (by rw [la];omega) (by rw [la];exact hl) ?_ ?_
 ·rw [Ze1,h,Pp]
  decide +kernel
 ·refine Kj fun m=>?_
  have:=Pl.mp Zki _ m
  rw [Gk,Zpk] at this
  simp at this
noncomputable def Zcm:Sp:=fun vs H Q _=>∃(a b:Int),vs=[.int a,.int b]/\∀(p:Addr)(t0 t1 t2:Str)(H':Hp),A6 t0=true->A6 t1=true->A6 t2=true->Same H H'->H p=none->H' p=some (.lst [.str t0,.str t1,.str t2])->Q (.ref p) H'
theorem Ziz:(["_law_k", "_law_one"]:List Str).Nodup:=by decide +kernel
theorem sc_law_names:Ay ["_law_one", "_law_other", "_law_letters", "_law_size", "_law_base", "_law_step", "_law_names_here", "_law_j", "_law_name", "_law_k", "_law_move"] ["_law_one", "_law_other"] (An Kb):=by walk_at "sc"
theorem Zpr {α:Type}{xs:List α}(h:xs.length=3):∃ a b c,xs=[a,b,c]:=by
 match xs,h with
 | [a,b,c],_=>exact ⟨a,b,c,rfl⟩
noncomputable def NmJ (H:Hp)(a b:Int)(D p:Addr)(ms:List Int)(j:Nat)(σ':St)(H':Hp):Prop:=∃(v7 v8 v9 v10:Option V)(ts:List Str),σ'=[some (.int a),some (.int b),some (.str LET),some (.int (1+a % 8)),some (.ref D),some (.int (1+b / 8 % 13)),some (.ref p),v7,v8,v9,v10]/\H' D=some (.lst (ms.map V.int))/\H' p=some (.lst (ts.map V.str))/\ts.length=j/\(∀ t∈ts,A6 t=true)/\Same H H'
theorem Zqi {f:Addr}{fd:FuncData}(F:Fun K "_law_names" "_law_names" Kb f fd)(T:Txt K mg):Aq P w K mg base Ar 1 f fd ["_law_one", "_law_other"] Zcm:=by
 refine F.okq sc_law_names (fun vs H Q E h=>?_) (fun cdv A outer s H vs Q E hr h=>?_)
 ·obtain ⟨a,b,rfl,_⟩:=h
  rfl
 ·obtain ⟨a,b,rfl,q⟩:=h
  refine ⟨_,Ae (Ao 2 sc_law_names A2)
   (Ae (Ao 3 sc_law_names (Ag (Bf K) Ac (Ag A7 (qv 0) Ac)))
   (Ae (Zau (i:=4) (N:=["_law_k", "_law_one"]) (σ0:=C2 1 [0]) rfl (D6 rfl (by decide +kernel) (by decide +kernel) (by decide +kernel)) (D7 rfl T.range (Aa (qv 3) Ab)) (D9 rfl (by rfl)) (fun _ _ _ _=>Ax (i:=0) Ziz rfl (Or.inl rfl)) (fun _ _ _ _=>Fl) (fun _ _ _ _=>Ag A7 (Ag A7 (Ag Cn (qv 1) (Ag (Bf K) (Ag Cn Ac (qv 0)) Ac)) Ac) Ac) sc_law_names.nd rfl (Or.inl rfl))
   (Ae (Ao 5 sc_law_names (Ag (Bf K) Ac (Ag A7 (Ag Dk (qv 1) Ac) Ac)))
   (Ae (Ao 6 sc_law_names (Br Ab))
   (Ae (B1 Pb rfl (D7 rfl T.range (Aa Ac Ab)) (Ax (i:=7) sc_law_names.nd rfl (Or.inl rfl)) (Ae (Ao 8 sc_law_names A2)
   (Ae (B1 Pb rfl (D7 rfl T.range (Aa (qv 3) Ab)) (Ax (i:=9) sc_law_names.nd rfl (Or.inl rfl)) (Ae (Ao 10 sc_law_names (Ag Cn (Ag Cn (qv 7) (qv 5)) (Ki Zdw (by rfl) T.int (by decide +kernel) (Aa (Ca (Bl K hr.u200) (qv 9) (Ag A7 (qv 1) (qv 3)) (Az _)) Ab))))
   (Af (Ao 8 sc_law_names (Ag (Bf K) (qv 8) (Am K (qv 2) (Ag A7 (Ag (Bf K) (Am K (qv 4) (qv 9)) (qv 10)) Ac)))))))
   (Ae (A0 (A5 (Fs K) (qv 8) (Ap (Ib (xs:=[.str "let",.str "in",.str "if",.str "then",.str "else",.str "fn",.str "rec",.str "yes",.str "no"]) rfl)) (by rfl)) (Af (Ao 8 sc_law_names (Ag (Bf K) (qv 8) A2))) A4)
   (Af (C1 (Cu K Pk Qg Qh C8 (qv 6) (Aa (qv 8) Ab))))))))
   (Ae (A0 (QW.qt (Zd6 (A5 (Bl K hr.u200) (Ag A7 (Ag Dk (qv 1) Ac) Ac) Ac (Az _)) (Zd2 (A5 Ja (A8 (Bt K) (by rfl) T.len (by decide +kernel) (Aa (Am K (qv 6) Ac) Ab)) Ac (Az _))))) (Af (Ez (Ag (Bf K) (Am K (qv 6) Ac) A2) (Zma (qv 6) Ac Zqx))) A4)
   (Af (Ak (qv 6))))))))),?_⟩
  have bg:=big
  have hs0:0<=a % 8:=Py a (by decide)
  have hs1:a % 8 < 8:=P6 a (by decide)
  have hst0:0<=b / 8 % 13:=Py _ (by decide)
  have hst1:b / 8 % 13 < 13:=P6 _ (by decide)
  walk_at "r"
  refine ⟨by omega,by omega,fun D hD=>?_⟩
  refine Kd (Pv:=fun i ys σ' H'=>∃ kv ms,σ'=[kv,some (.int a)]/\ys=ms.map V.int/\ms.length=i/\Same H H') ⟨none,[],rfl,rfl,rfl,Same.upd hD⟩ ?_ ?_
  ·rintro i ys σ' H' hi hys ⟨kv,ms,rfl,rfl,hl,hH⟩
   walk_at "r"
   refine s_mul_r (by omega) (by omega) ?_
   walk_at "r"
   refine ⟨_,hys,by rw [Pa];omega,_,Ad,?_⟩
   exact ⟨_,ms++[_],rfl,by rw [Po];rfl,by simp [hl],hH.over hD⟩
  ·rintro ys σ' H1 hys ⟨kv,ms,rfl,rfl,hl,hH⟩
   walk_at "r"
   refine ⟨B0,fun p hp=>?_⟩
   have hpD:D≠p:=fun z=>by rw [z,hp] at hys;cases hys
   have hp0:H p=none:=hH.free hp
   have hys':upd H1 p (.lst []) D=some (.lst (ms.map V.int)):=by rw [Ai hpD];exact hys
   walk_at "r"
   refine ⟨by decide,by decide,?_⟩
   refine Hb (n:=3) (NmJ H a b D p ms) ⟨_,_,_,_,[],rfl,hys',Ad,rfl,(fun t h=>nomatch h),hH.put hp⟩ ?_ ?_
   ·rintro j σ' H2 hj ⟨v7,v8,v9,v10,ts,rfl,hD2,hp2,hl2,hle2,sm2⟩
    walk_at "r"
    refine ⟨by omega,by omega,?_⟩
    refine Hb (n:=(1+a % 8).toNat) (fun k σ' H'=>∃ v9 v10 t,σ'=[some (.int a),some (.int b),some (.str LET),some (.int (1+a % 8)),some (.ref D),some (.int (1+b / 8 % 13)),some (.ref p),some (.int (0+j)),some (.str t),v9,v10]/\t.length=k/\Bu t LET=true/\H'=H2) ⟨_,_,P5,rfl,rfl,rfl,rfl⟩ ?_ ?_
    ·rintro k σ' H3 hk ⟨v9',v10',t,rfl,hl3,ha3,rfl⟩
     walk_at "r"
     refine s_mul_l (by omega) (by omega) ?_
     walk_at "r"
     refine s_rI (by omega) ?_
     walk_at "r"
     refine s_mul_r (by split <;> decide) (by split <;> decide) ?_
     walk_at "r"
     have hk':(k:Int) < ((ms.map V.int).length:Int):=by rw [Pa];omega
     obtain ⟨v,hv,m⟩:=Di (xs:=ms.map V.int) (i:=0+(k:Int)) (by omega) (by omega)
     obtain ⟨z,_,rfl⟩:=Sc.mp m
     refine B5 (SqL.of hD2) hv ?_
     walk_at "r"
     obtain ⟨c,hc,hcm⟩:=Di (xs:=LET.cps.toList) (i:=(z+(0+(j:Int)) * (1+b / 8 % 13) * (if decide (V.int (0+(k:Int))=V.int (b % (1+a % 8)))=true then 1 else 0)) % 27) (Py _ (by decide)) (by rw [Zrj];exact P6 _ (by decide))
     refine Kt Zjr hc ?_
     refine Jp (by rw [Gc];omega) ?_
     exact ⟨_,_,_,rfl,by rw [Eo,Gc];omega,by rw [Ze1,ha3,Zq9 hcm];rfl,rfl⟩
    ·rintro σ' H3 ⟨v9',v10',t,rfl,hl3,ha3,rfl⟩
     walk_at "r"
     refine ⟨sz9,fun p9 h9=>?_⟩
     refine Fq (.inr (SqT.of Ad)) rfl rfl ?_
     have nD:D≠p9:=fun z=>by rw [z,h9] at hD2;cases hD2
     have np:p≠p9:=fun z=>by rw [z,h9] at hp2;cases hp2
     have hpU:∀ o,upd H3 p9 o p=some (.lst (ts.map V.str)):=fun o=>by rw [Ai np];exact hp2
     have hDU:∀ o,upd H3 p9 o D=some (.lst (ms.map V.int)):=fun o=>by rw [Ai nD];exact hD2
     have smU:∀ o,Same H (upd H3 p9 o):=fun o=>sm2.put h9
     have fin:∀(t':Str)(o:HO),A6 t'=true->NmJ H a b D p ms (j+1) [some (.int a),some (.int b),some (.str LET),some (.int (1+a % 8)),some (.ref D),some (.int (1+b / 8 % 13)),some (.ref p),some (.int (0+(j:Int))),some (.str t'),v9',v10'] (upd (upd H3 p9 o) p (.lst (ts.map V.str++[.str t']))):=fun t' o ht' =>
      ⟨_,_,_,_,ts++[t'],rfl,by rw [Ai hpD];exact hDU o,by rw [Ad,Po];rfl,by simp [hl2],fun u hu=>by
       rcases P9.mp hu with hu | hu
       ·exact hle2 u hu
       ·rw [Qp.mp hu];exact ht',(smU o).over hp0⟩
     walk_at "r"
     have e9:C4 (.str t) [.str "let",.str "in",.str "if",.str "then",.str "else",.str "fn",.str "rec",.str "yes",.str "no"]=Cp t W9:=Ik (ws:=W9)
     have hln:t.length=(1+a % 8).toNat:=hl3
     refine A1 (fun hin=>?_) (fun hin=>?_)
     ·have hin:Cp t W9=true:=by rw [<- e9];exact hin
      have l4:=Zjx (Zdk hin)
      walk_at "r"
      have l1:(Pq "_").length=1:=by decide +kernel
      refine Jp (by rw [l1];omega) ?_
      walk_at "r"
      refine B2 (SqL.of (hpU _)) ?_
      walk_at "r"
      refine Dc (hpU _) (by rw [Pa];omega) ?_
      exact fin _ _ (Zc7 ha3 (by omega))
     ·have hin:Cp t W9=false:=by rw [<- e9];simpa using hin
      walk_at "r"
      refine B2 (SqL.of (hpU _)) ?_
      walk_at "r"
      refine Dc (hpU _) (by rw [Pa];omega) ?_
      exact fin _ _ (Zdl (by omega) (by omega) ha3 hin)
   ·rintro σ' H2 ⟨v7,v8,v9,v10,ts,rfl,hD2,hp2,hl2,hle2,sm2⟩
    obtain ⟨t0,t1,t2,rfl⟩:=Zpr hl2
    have n0:=hle2 t0 (by simp)
    have n1:=hle2 t1 (by simp)
    have n2:=hle2 t2 (by simp)
    have l0:=(G7 n0).2
    walk_at "r"
    refine A1 (fun _=>?_) (fun _=>?_)
    ·walk_at "r"
     refine B5 (SqL.of hp2) (v:=.str t0) rfl ?_
     walk_at "r"
     refine Lz (by omega) ?_
     walk_at "r"
     refine A1 (fun h8=>?_) (fun _=>?_)
     ·have h8:t0.length < 8:=by have:=of_decide_eq_true h8;omega
      walk_at "r"
      refine B5 (SqL.of hp2) (v:=.str t0) rfl ?_
      have l1:(Pq "_").length=1:=by decide +kernel
      refine Jp (by rw [l1];omega) ?_
      walk_at "r"
      refine Zkp hp2 (j:=2) rfl ?_
      walk_at "r"
      exact q p _ _ _ _ n0 n1 (Zc7 (G7 n0).1 (by omega)) (sm2.over hp0) hp0 Ad
     ·walk_at "r"
      exact q p _ _ _ _ n0 n1 n2 sm2 hp0 hp2
    ·walk_at "r"
     exact q p _ _ _ _ n0 n1 n2 sm2 hp0 hp2
noncomputable def SIG91:Str := "!\"#$&'*+,-./0123456789:;<=>?@ABCDEFGHIJKLMNOPQRSTUVWXYZ[\\]^_`abcdefghijklmnopqrstuvwxyz{|}~"
noncomputable def SIG27:Str := "!\"#$&'*,./:;=>@AQZ[\\]^`{|}~"
theorem Zmq:SIG91.cps.toList.length=91:=by decide +kernel
theorem Zmm:SIG91.length<=sizeLine:=by decide +kernel
theorem Zlr:SIG27.cps.toList.length=27:=by decide +kernel
theorem Zh2:SIG27.length<=sizeLine:=by decide +kernel
theorem Zqf:SIG91.cps.toList.all Dl=true:=by decide +kernel
theorem Zo3:SIG27.cps.toList.all Dl=true:=by decide +kernel
theorem Zq1:SIG27.cps.toList.all (fun d=>!decide (d∈LET.cps.toList) && !decide (d∈DIG.cps.toList) && W10.all fun x=>!decide (d∈x.cps.toList))=true:=by decide +kernel
theorem Zln:("" : Str)=P5:=by decide +kernel
theorem Zdo {t s:Str}{d:Nat}(h:d∈t.cps.toList)(hs:¬ d∈s.cps.toList):Bu t s=false:=by
 cases e:Bu t s with
 | false=>rfl
 | true=>exact absurd (of_decide_eq_true (Pl.mp e d h)) hs
theorem Zls {t:Str}{d:Nat}(h1:1<=t.length)(h2:t.length<=60)(ho:∀ c∈t.cps.toList,Dl c=true)(hd:d∈t.cps.toList)(hs:d∈SIG27.cps.toList):Jd t=true:=by
 have hn:=Pl.mp Zq1 d hs
 simp only [Pt,Bool.not_eq_true',decide_eq_false_iff_not] at hn
 obtain ⟨⟨n1,n2⟩,n3⟩:=hn
 unfold Jd A6 Jb
 rw [Zdo hd n1,Zdo hd n2,decide_eq_true h1,decide_eq_true h2,Pl.mpr ho,Kj (t:=t) (ws:=W10) (fun m=>by
  have:=Pl.mp n3 t m
  simp only [Bool.not_eq_true',decide_eq_false_iff_not] at this
  exact this hd)]
 simp
theorem Zdv (x:Str)(l u:Option Int):(Qm x l u).length<=(Ti l u 1 x.length).length:=by
 unfold Qm
 split
 ·rename_i h
  simp at h
  omega
 ·show (List.toArray _).size<=_
  rw [Ot]
  exact List.length_filterMap_le ..
theorem Znp (t:Str)(k:Int)(h:0<=k):(Qm t none (some k)).length+(Qm t (some k) none).length<=t.length:=by
 have h1:=Zdv t none (some k)
 have h2:=Zdv t (some k) none
 have h3:(Ti none (some k) 1 t.length).length+(Ti (some k) none 1 t.length).length<=t.length:=by
  unfold Ti sliceRange
  simp only [show (1:Int) > 0 by decide,if_true,Pa,List.length_range]
  (repeat' split) <;> (try simp only [Int.ediv_one]) <;> omega
 omega
noncomputable def Zgh:Sp:=fun vs H Q _=>∃ c:Int,vs=[.int c]/\∀(t:Str)(H':Hp),Jd t=true->t.length<=60->Same H H'->Q (.str t) H'
theorem Zc1 {ts:List Str}(h:∀ t∈ts,t.length=1):(ts.map (·.length)).sum=ts.length:=by
 induction ts with
 | nil=>rfl
 | cons t r ih =>
  rw [Ph,List.sum_cons,h t Pr,ih fun u hu=>h u (Pe _ hu),O5]
  omega
theorem Zqq {ts:List Str}(h:∀ t∈ts,t.length=1):(Qu "" ts).length<=ts.length:=by
 have e:("" : Str)=P5:=by decide +kernel
 have:=PySem.StrLaws.join_length_le P5 ts
 rw [Zc1 h,show P5.length=0 from rfl] at this
 unfold Qu
 rw [PySem.StrLaws.glued_eq_join,e]
 omega
theorem Zkn:(["_law_k", "_law_signs", "_law_cell_here"]:List Str).Nodup:=by decide +kernel
theorem sc_law_odd:Ay ["_law_cell_here", "_law_some", "_law_signs", "_law_size", "_law_text", "_law_at"] ["_law_cell_here"] (An J1):=by walk_at "sc"
theorem Zhl {f:Addr}{fd:FuncData}(F:Fun K "_law_odd" "_law_odd" J1 f fd)(T:Txt K mg):Aq P w K mg base Ar 1 f fd ["_law_cell_here"] Zgh:=by
 refine F.okq sc_law_odd (fun vs H Q E h=>?_) (fun cdv A outer s H vs Q E hr h=>?_)
 ·obtain ⟨a,rfl,_⟩:=h
  rfl
 ·obtain ⟨c,rfl,q⟩:=h
  refine ⟨_,Ae (Ao 1 sc_law_odd (Br (Ib (xs:=[.str "in",.str "then",.str "else",.str "=",.str "=>",.str "007",.str "--",.str "??",.str "ninesigns"]) rfl)))
   (Ae (A0 (A5 (Bl K hr.u200) (Ag A7 (qv 0) Ac) Ac (Az _)) (Af (Ak (Am K (qv 1) (Ag A7 (Ag Dk (qv 0) Ac) Ac)))) A4)
   (Ae (M8 (i:=2) sc_law_odd.nd rfl (Or.inr rfl) A2)
   (Ae (Ao 3 sc_law_odd (Am K (Br (Ib (xs:=[.int 2,.int 1,.int 5,.int 7,.int 60]) rfl)) (Ag A7 (Ag Dk (qv 0) Ac) Ac)))
   (Ae (Ao 4 sc_law_odd (Cu K PySem.F.plainAttrs_str PySem.F.slot_str_join PySem.F.type_str_join (Zot K) A2 (Aa (Fu (N:=["_law_k", "_law_signs", "_law_cell_here"]) (σ0:=C2 1 [2,0]) rfl (D6 rfl (by decide +kernel) (by decide +kernel) (by decide +kernel)) (D7 rfl T.range (Aa (Ag K9 (qv 3) Ac) Ab)) (D9 rfl (by rfl)) (fun _ _ _ _=>Ax (i:=0) Zkn rfl (Or.inl rfl)) (fun _ _ _ _=>Fl) (fun _ _ _ _=>M6 (k_ix K) (qv 1) (Ag A7 (Ag A7 (Ag Cn (qv 2) (Ag (Bf K) (qv 0) Ac)) Ac) Ac) (fun _ _=>rfl))) Ab)))
   (Ae (Ao 5 sc_law_odd (Ag A7 (Ag Dk (qv 0) Ac) (qv 3)))
   (Af (Ak (Ag (Bf K) (Ag (Bf K) (Ee (Io K) (qv 4) (Ga) (Db (qv 5))) (Am K A2 (Ag A7 (Ag Dk (qv 0) Ac) Ac))) (Ee (Io K) (qv 4) (Db (qv 5)) (Ga)))))))))),?_⟩
  have bg:=big
  walk_at "r"
  refine ⟨sz9,fun p hp=>?_⟩
  have sm:=Same.upd (o:=.lst [.str "in",.str "then",.str "else",.str "=",.str "=>",.str "007",.str "--",.str "??",.str "ninesigns"]) hp
  walk_at "r"
  refine A1 (fun _=>?_) (fun _=>?_)
  ·walk_at "r"
   obtain ⟨v,hv,m⟩:=Di (xs:=([.str "in",.str "then",.str "else",.str "=",.str "=>",.str "007",.str "--",.str "??",.str "ninesigns"]:List V)) (i:=c / 3 % 9) (Py _ (by decide)) (P6 _ (by decide))
   obtain ⟨t,rfl,ho,hl⟩:∃ t,v=V.str t/\Jd t=true/\t.length<=60:=by
    simp only [Oy,Pw,or_false] at m
    rcases m with h | h | h | h | h | h | h | h | h <;> exact ⟨_,h,by decide +kernel,by decide +kernel⟩
   exact B5 (SqL.of Ad) hv (q t _ ho hl sm)
  ·walk_at "r"
   refine ⟨sz5,fun p2 hp2=>?_⟩
   have sm2:=sm.put (o:=.lst [.int 2,.int 1,.int 5,.int 7,.int 60]) hp2
   walk_at "r"
   obtain ⟨v,hv,m⟩:=Di (xs:=([.int 2,.int 1,.int 5,.int 7,.int 60]:List V)) (i:=c / 3 % 5) (Py _ (by decide)) (P6 _ (by decide))
   obtain ⟨n,rfl,n1,n2⟩:∃ n:Int,v=V.int n/\1<=n/\n<=60:=by
    simp only [Oy,Pw,or_false] at m
    rcases m with h | h | h | h | h <;> exact ⟨_,h,by decide,by decide⟩
   refine B5 (SqL.of Ad) hv ?_
   walk_at "r"
   refine ⟨rfl,?_⟩
   walk_at "r"
   refine ⟨by omega,by omega,fun D hD=>?_⟩
   refine Kd (Pv:=fun i ys σ' H'=>∃ kv ts,σ'=[kv,some (.str SIG91),some (.int c)]/\ys=ts.map V.str/\ts.length=i/\(∀ t∈ts,t.length=1)/\(∀ t∈ts,∀ c∈t.cps.toList,Dl c=true)/\Same H H') ⟨none,[],rfl,rfl,rfl,(fun t h=>nomatch h),(fun t h=>nomatch h),sm2.put hD⟩ ?_ ?_
   ·rintro i ys σ' H' hi hys ⟨kv,ts,rfl,rfl,hl,h1,h1o,hH⟩
    walk_at "r"
    refine s_mul_r (by omega) (by omega) ?_
    walk_at "r"
    obtain ⟨d,hd,hdm⟩:=Di (xs:=SIG91.cps.toList) (i:=c * (0+(i:Int)+6007) % 1000003 % 91) (Py _ (by decide)) (by rw [Zmq];exact P6 _ (by decide))
    refine Kt Zmm hd ?_
    refine ⟨_,hys,by rw [Pa];omega,_,Ad,?_⟩
    refine ⟨_,ts++[⟨#[d]⟩],rfl,by rw [Po];rfl,by simp [hl],fun t ht=>?_,fun t ht=>?_,hH.over (sm2.free hD)⟩
    ·rcases P9.mp ht with ht | ht
     ·exact h1 t ht
     ·rw [Qp.mp ht];rfl
    ·rcases P9.mp ht with ht | ht
     ·exact h1o t ht
     ·rw [Qp.mp ht]
      intro c hc
      have:c=d:=by simpa using hc
      rw [this]
      exact Pl.mp Zqf d hdm
   ·rintro ys σ' H1 hys ⟨kv,ts,rfl,rfl,hl,h1,h1o,hH⟩
    have e0:(Pq "").length=0:=by decide +kernel
    walk_at "r"
    refine Zqz (K:=K) (SqL.of hys) (by rw [Zc1 h1,e0];omega) ?_
    have jl:=Zqq h1
    walk_at "r"
    refine s_rI (by omega) ?_
    walk_at "r"
    refine Zea (by omega) ?_
    walk_at "r"
    obtain ⟨d,hd,hdm⟩:=Di (xs:=SIG27.cps.toList) (i:=c / 7 % 27) (Py _ (by decide)) (by rw [Zlr];exact P6 _ (by decide))
    refine Kt Zh2 hd ?_
    have l1:=Sb (Qu "" ts) none (some (c / 15 % n))
    have l2:=Sb (Qu "" ts) (some (c / 15 % n)) none
    refine Jp (by rw [Gc];omega) ?_
    walk_at "r"
    refine Zea (by omega) ?_
    refine Jp (by rw [Eo,Gc];omega) ?_
    have jo:∀ c∈(Qu "" ts).cps.toList,Dl c=true:=fun c hc=>by
     rw [Zln] at hc
     obtain ⟨t,m,hc⟩:=Zp2 hc
     exact h1o t m c hc
    have sl:=Znp (Qu "" ts) (c / 15 % n) (Py _ (by omega))
    refine q _ _ (Zls (d:=d) (by rw [Eo,Eo,Gc];omega) (by rw [Eo,Eo,Gc];omega) ?_ (by rw [Gk,Gk];simp) hdm) (by rw [Eo,Eo,Gc];omega) hH
    intro e he
    rw [Gk,Gk] at he
    rcases P9.mp he with he | he
    ·rcases P9.mp he with he | he
     ·exact jo e (Zgb he)
     ·have:e=d:=by simpa using he
      rw [this]
      exact Pl.mp Zo3 d hdm
    ·exact jo e (Zgb he)
noncomputable def Zgp:Sp:=fun vs H Q _=>∃ c:Int,vs=[.int c]/\∀ z:Int,0<=z->z < 10 ^ 18->Q (.int z) H
theorem Zg4:Ay ["_law_cell_here"] ["_law_cell_here"] (An Js):=by walk_at "sc"
theorem Zi9 {f:Addr}{fd:FuncData}(F:Fun K "_law_number" "_law_number" Js f fd)(T:Txt K mg):Aq P w K mg base Ar 1 f fd ["_law_cell_here"] Zgp:=by
 refine F.okq Zg4 (fun vs H Q E h=>?_) (fun cdv A outer s H vs Q E hr h=>?_)
 ·obtain ⟨a,rfl,_⟩:=h
  rfl
 ·obtain ⟨c,rfl,q⟩:=h
  refine ⟨_,Ae (A0 (A5 (Bl K hr.u200) (Ag A7 (qv 0) Ac) Ac (Az _)) (Af (Ak (Ag A7 (Ag Dk (qv 0) Ac) Ac))) A4)
   (Ae (A0 (A5 (Bl K hr.u200) (Ag A7 (qv 0) Ac) Ac (Az _)) (Af (Ak (Ag K9 (Ag K9 (Ag M1 Ac Ac) Ac) (Ag A7 (Ag Dk (qv 0) Ac) Ac)))) A4)
   (Af (Ak (Ag A7 (Ag Cn (Ag Dk (qv 0) Ac) Ac) (Ag M1 Ac Ac))))),?_⟩
  have h30:0<=c / 4 % 3:=Py _ (by decide)
  have h31:c / 4 % 3 < 3:=P6 _ (by decide)
  walk_at "r"
  refine A1 (fun _=>?_) (fun _=>?_)
  ·walk_at "r"
   exact q _ h30 (by omega)
  ·walk_at "r"
   refine A1 (fun _=>?_) (fun _=>?_)
   ·walk_at "r"
    refine q _ ?_ ?_
    ·show 0<=(10:Int) ^ 18 - 1 - c / 4 % 3
     omega
    ·show (10:Int) ^ 18 - 1 - c / 4 % 3 < 10 ^ 18
     omega
   ·walk_at "r"
    exact q _ (Py _ (by decide)) (P6 _ (by decide))
noncomputable def SmallV:V->Prop
 | .str s=>s.length<=1000
 | .int _=>True
 | .bl _=>True
 | .non=>True
 | _=>False
theorem SmallV.ty {v:V}(h:SmallV v){K:Om}{H:Hp}:∃ t,TyN K H v t/\Cv t "tuple" = false:=by
 cases v with
 | str s=>exact ⟨_,.str s h,rfl⟩
 | int i=>exact ⟨_,.int i,rfl⟩
 | bl b=>exact ⟨_,.bl b,rfl⟩
 | non=>exact ⟨_,.non,rfl⟩
 | _=>exact absurd h id
inductive Fj:Dt->Nt->Prop where
 | fl {v:V} (h:SmallV v):Fj (.flat v) (.fl v)
 | tp {vs:List V} (h:∀ v∈vs,SmallV v):Fj (.tup (vs.map .flat)) (.tp vs)
theorem Zcc:∀{vs ws:List V},vs.map Dt.flat=ws.map Dt.flat->vs=ws
 | [],[],_=>rfl
 | [],_::_,h=>nomatch h
 | _::_,[],h=>nomatch h
 | v::r,w::q,h=>by
  rw [Ph,Ph] at h
  injection h with h1 h2
  injection h1 with h1
  rw [h1,Zcc h2]
theorem IsN.nt {K:Om}{H:Hp}{v:V}{d:Dt}{nt:Nt}(h:IsN K H v d)(hd:Fj d nt):NtAt K H v nt:=by
 cases hd with
 | fl hs =>
  rcases h with ⟨_,e⟩ | ⟨a,vs,_,_,_,e⟩
  ·injection e with e
   obtain ⟨t,h1,h2⟩:=hs.ty (K:=K) (H:=H)
   exact ⟨e.symm,t,h1,h2⟩
  ·cases e
 | @tp ws hs =>
  rcases h with ⟨_,e⟩ | ⟨a,vs,h1,h2,h3,e⟩
  ·cases e
  ·injection e with e
   have:=Zcc e
   subst this
   refine ⟨a,h1,h2,fun x hx=>?_⟩
   obtain ⟨t,h4,_⟩:=(hs x hx).ty (K:=K) (H:=H)
   exact ⟨t,h4⟩
noncomputable def Kv (K:Om):Sp:=fun vs H Q _=>∃(c:Int)(p:Addr)(t0 t1 t2:Str),vs=[.int c,.ref p]/\SqL K H p [.str t0,.str t1,.str t2]/\A6 t0=true/\A6 t1=true/\A6 t2=true /\
 ∀(a:Addr)(wd:Str)(note:V)(n:Dt)(nt:Nt)(H':Hp),Same H H'->SqT K H' a [.str wd,note]->IsN K H' note n->(Bp wd).isSome=true->(c % 13 < 5->Bp wd=some 0)->Fj n nt->C0 wd nt=true->Q (.ref a) H'
theorem Kr {t0 t1 t2:Str}(n0:A6 t0=true)(n1:A6 t1=true)(n2:A6 t2=true)(c:Int):∃ t:Str,Bv ([.str t0,.str t1,.str t2]:List V) (c % 3)=some (.str t)/\A6 t=true:=by
 obtain ⟨v,hv,m⟩:=Di (xs:=([.str t0,.str t1,.str t2]:List V)) (i:=c % 3) (Py _ (by decide)) (P6 _ (by decide))
 simp only [Oy,Pw,or_false] at m
 rcases m with h | h | h <;> exact ⟨_,by rw [hv,h],by assumption⟩
theorem Zq2 {wd:Str}:C4 (.str wd) [.str "name",.str "fn",.str "let"]=decide (wd∈(["name", "fn", "let"]:List Str)):=by
 have:=Ik (t:=wd) (ws:=["name", "fn", "let"])
 rw [show ([V.str "name",V.str "fn",V.str "let"]:List V)=(["name", "fn", "let"]:List Str).map V.str from rfl,this]
 by_cases hm:wd∈(["name", "fn", "let"]:List Str)
 ·rw [decide_eq_true hm,Zen hm]
 ·rw [decide_eq_false hm,Kj hm]
theorem Kh:Ay ["_law_cell_here", "_law_names_here", "_law_heads", "_law_word", "_law_more"] ["_law_cell_here", "_law_names_here"] (An J9):=by walk_at "sc"
theorem Zn5 {f:Addr}{fd:FuncData}(F:Fun K "_law_head" "_law_head" J9 f fd)(T:Txt K mg)(C__law_odd:Av P w K mg base 1 "_law_odd" ["_law_cell_here"] Zgh)(C__law_number:Av P w K mg base 1 "_law_number" ["_law_cell_here"] Zgp):Aq P w K mg base Ar 2 f fd ["_law_cell_here", "_law_names_here"] (Kv K):=by
 refine F.okq Kh (fun vs H Q E h=>?_) (fun cdv A outer s H vs Q E hr h=>?_)
 ·obtain ⟨c,p,t0,t1,t2,rfl,_⟩:=h
  rfl
 ·obtain ⟨c,p,t0,t1,t2,rfl,hp,n0,n1,n2,q⟩:=h
  refine ⟨_,Ae (Ao 2 Kh (Br (Ib (xs:=[.str "gap",.str "odd",.str "num",.str "truth",.str "name",.str "plus",.str "minus",.str "less",.str "call",.str "if",.str "fn"]) rfl)))
   (Ae (Ao 3 Kh (Am K (Ag (Bf K) (qv 2) (Br (Aa A2 (Aa A2 Ab)))) (Ag A7 (qv 0) Ac)))
   (Ae (Ao 4 Kh (Ag Dk (qv 0) Ac))
   (Ae (A0 (A5 (Bl K hr.u200) (qv 3) A2 (Az _)) (Af (Ak (Ap (Aa (qv 3) (Aa (As C__law_odd hr.m (Aa (qv 4) Ab)) Ab))))) A4)
   (Ae (A0 (A5 (Bl K hr.u200) (qv 3) A2 (Az _)) (Af (Ak (Ap (Aa (qv 3) (Aa (As C__law_number hr.m (Aa (qv 4) Ab)) Ab))))) A4)
   (Ae (A0 (A5 (Bl K hr.u200) (qv 3) A2 (Az _)) (Af (Ak (Ap (Aa (qv 3) (Aa (Ca (Bl K hr.u200) (Ag A7 (qv 4) Ac) Ac (Az _)) Ab))))) A4)
   (Ae (A0 (A5 (Fs K) (qv 3) (Ap (Aa A2 (Aa A2 (Aa A2 Ab)))) (by rfl)) (Af (Ak (Ap (Aa (qv 3) (Aa (Am K (qv 1) (Ag A7 (qv 4) Ac)) Ab))))) A4)
   (Ae (A0 (A5 (Bl K hr.u200) (qv 3) A2 (Az _)) (Af (Ak (Ap (Aa (qv 3) (Aa (Ap (Aa (Am K (qv 1) (Ag A7 (qv 4) Ac)) (Aa (Am K (qv 1) (Ag A7 (Ag Dk (qv 4) Ac) Ac)) Ab))) Ab))))) A4)
   (Af (Ak (Ap (Aa (qv 3) (Aa E3 Ab)))))))))))),?_⟩
  walk_at "r"
  refine ⟨sz11,fun p1 h1=>?_⟩
  walk_at "r"
  refine ⟨B3,fun p2 h2=>?_⟩
  have n12:p1≠p2:=fun z=>by rw [z,<- z,Ad] at h2;cases h2
  refine Zcl (by rw [Ai n12];exact Ad) Ad (by show 12+1<=sizeLine;decide) fun p3 h3=>?_
  walk_at "r"
  obtain ⟨v,hv,m⟩:=Di (xs:=([.str "gap",.str "odd",.str "num",.str "truth",.str "name",.str "plus",.str "minus",.str "less",.str "call",.str "if",.str "fn"]++[.str "rec",.str "let"]:List V)) (i:=c % 13) (Py _ (by decide)) (P6 _ (by decide))
  obtain ⟨wd,rfl,hps⟩:∃ t,v=V.str t/\(Bp t).isSome=true:=by
   simp only [Ss,Q5,Oy,Pw,or_false] at m
   rcases m with h | h | h | h | h | h | h | h | h | h | h | h | h <;> exact ⟨_,h,by decide +kernel⟩
  have h5:c % 13 < 5->Bp wd=some 0:=fun hc=>by
   have h0:=Py c (b:=13) (by decide)
   obtain e | e | e | e | e:c % 13=0\/c % 13=1\/c % 13=2\/c % 13=3\/c % 13=4:=by omega
   all_goals (rw [e] at hv;cases hv;decide +kernel)
  refine B5 (SqL.of Ad) hv ?_
  have sm3:=((Same.upd (o:=.lst [.str "gap",.str "odd",.str "num",.str "truth",.str "name",.str "plus",.str "minus",.str "less",.str "call",.str "if",.str "fn"]) h1).put (o:=.lst [.str "rec",.str "let"]) h2).put (o:=.lst ([.str "gap",.str "odd",.str "num",.str "truth",.str "name",.str "plus",.str "minus",.str "less",.str "call",.str "if",.str "fn"]++[.str "rec",.str "let"])) h3
  revert sm3
  generalize upd (upd (upd H p1 _) p2 _) p3 _=H3
  intro sm3
  have two:∀(note:V)(n:Dt)(nt:Nt)(H4:Hp),Same H3 H4->IsN K H4 note n->Fj n nt->C0 wd nt=true->([V.str wd,note]:List V).length<=sizeLine/\∀ p,H4 p=none->Q (.ref p) (upd H4 p (.tup [.str wd,note])):=fun note n nt H4 s4 hn hd hb =>
   ⟨B3,fun p4 h4=>q p4 wd note n nt _ (sm3.trans (s4.put h4)) (SqT.of Ad) (hn.same (SameT.new h4)) hps h5 hd hb⟩
  have nb:∀ nt,C0 wd nt=(if wd = "odd" then Ln nt else if wd = "num" then Hf nt else if wd = "truth" then K1 nt else if wd∈(["name", "fn", "let"]:List Str) then Lm nt else if wd = "rec" then twoN nt else G8 nt):=fun _=>rfl
  walk_at "r"
  rw [Dg]
  refine A1 (fun h=>?_) (fun h=>?_)
  ·walk_at "r"
   refine ⟨_,rfl,fun t H4 ho hl s4=>?_⟩
   walk_at "r"
   exact two _ _ _ _ s4 (.inl ⟨rfl,rfl⟩) (.fl (show t.length<=1000 by omega)) (by rw [nb,if_pos (of_decide_eq_true h)];exact ho)
  have g1:¬ wd = "odd" := fun x=>h (decide_eq_true x)
  walk_at "r"
  rw [Dg]
  refine A1 (fun h=>?_) (fun h=>?_)
  ·walk_at "r"
   refine ⟨_,rfl,fun z z0 z1=>?_⟩
   walk_at "r"
   exact two _ _ _ _ (Same.refl _) (.inl ⟨rfl,rfl⟩) (.fl (v:=.int z) trivial) (by rw [nb,if_neg g1,if_pos (of_decide_eq_true h)];show (decide (0<=z) && decide (z < 10 ^ 18))=true;rw [decide_eq_true z0,decide_eq_true z1];rfl)
  have g2:¬ wd = "num" := fun x=>h (decide_eq_true x)
  walk_at "r"
  rw [Dg]
  refine A1 (fun h=>?_) (fun h=>?_)
  ·walk_at "r"
   exact two _ _ _ _ (Same.refl _) (.inl ⟨rfl,rfl⟩) (.fl (v:=.bl _) trivial) (by rw [nb,if_neg g1,if_neg g2,if_pos (of_decide_eq_true h)];rfl)
  have g3:¬ wd = "truth" := fun x=>h (decide_eq_true x)
  walk_at "r"
  refine ⟨Bj,fun p4 h4=>?_⟩
  refine Fq (.inr (SqT.of Ad)) rfl rfl ?_
  have s4:=Same.upd (o:=.tup [.str "name",.str "fn",.str "let"]) h4
  rw [if_neg Oz,Zq2]
  walk_at "r"
  refine A1 (fun h=>?_) (fun h=>?_)
  ·walk_at "r"
   obtain ⟨t,ht,hnt⟩:=Kr n0 n1 n2 (c / 13)
   refine B5 ((sm3.trans s4).seq hp) ht ?_
   walk_at "r"
   exact two _ _ _ _ s4 (.inl ⟨rfl,rfl⟩) (.fl (show t.length<=1000 by have:=(G7 hnt).2;omega)) (by rw [nb,if_neg g1,if_neg g2,if_neg g3,if_pos (of_decide_eq_true h)];exact hnt)
  have g4:¬ wd∈(["name", "fn", "let"]:List Str):=fun x=>h (decide_eq_true x)
  walk_at "r"
  rw [Dg]
  refine A1 (fun h=>?_) (fun h=>?_)
  ·walk_at "r"
   obtain ⟨t,ht,hnt⟩:=Kr n0 n1 n2 (c / 13)
   obtain ⟨u,hu,hnu⟩:=Kr n0 n1 n2 (c / 13 / 3)
   refine B5 ((sm3.trans s4).seq hp) ht ?_
   walk_at "r"
   refine B5 ((sm3.trans s4).seq hp) hu ?_
   walk_at "r"
   refine ⟨B3,fun p5 h5=>?_⟩
   walk_at "r"
   refine two _ _ _ _ (s4.put h5) (.inr ⟨p5,[.str t,.str u],rfl,SqT.of Ad,rfl,rfl⟩) (.tp (fun v hv=>?_)) (by rw [nb,if_neg g1,if_neg g2,if_neg g3,if_neg g4,if_pos (of_decide_eq_true h)];show (A6 t && A6 u)=true;rw [hnt,hnu];rfl)
   have l1:=(G7 hnt).2
   have l2:=(G7 hnu).2
   simp only [Oy,Pw,or_false] at hv
   rcases hv with rfl | rfl
   ·show t.length<=1000
    omega
   ·show u.length<=1000
    omega
  ·have g5:¬ wd = "rec" := fun x=>h (decide_eq_true x)
   walk_at "r"
   exact two _ _ _ _ s4 (.inl ⟨rfl,rfl⟩) (.fl (v:=.non) trivial) (by rw [nb,if_neg g1,if_neg g2,if_neg g3,if_neg g4,if_neg g5];rfl)
theorem Zfz {wd:Str}{m:Nat}:∀{ps:List (Str×Nat)},ps.lookup wd=some m->(wd,m)∈ps
 | [],h=>nomatch h
 | (a,b)::r,h=>by
  rw [Qq] at h
  split at h
  ·rename_i e
   have e:wd=a:=by simpa using e
   cases h
   rw [e]
   exact Pr
  ·exact Pe _ (Zfz h)
theorem Zif:PN.all (fun x=>(C4 (.str x.1) [.str "plus",.str "minus",.str "less",.str "call",.str "let"] == decide (x.2=2)) && (decide (x.1 = "if") == decide (x.2=3)) && (C4 (.str x.1) [.str "fn",.str "rec"] == decide (x.2=1)) && decide (x.2<=3) && decide (x.1.length<=10))=true:=by decide +kernel
theorem Gp {wd:Str}{m:Nat}(h:Bp wd=some m):C4 (.str wd) [.str "plus",.str "minus",.str "less",.str "call",.str "let"]=decide (m=2)/\decide (wd = "if")=decide (m=3)/\C4 (.str wd) [.str "fn",.str "rec"]=decide (m=1)/\m<=3/\wd.length<=10:=by
 have:=Pl.mp Zif _ (Zfz h)
 simp only [Pt,beq_iff_eq,decide_eq_true_eq] at this
 exact ⟨this.1.1.1.1,this.1.1.1.2,this.1.1.2,this.1.2,this.2⟩
noncomputable def Mn:Sp:=fun vs H Q _=>∃(wd:Str)(m:Nat),vs=[.str wd]/\Bp wd=some m/\∀(H':Hp),Same H H'->Q (.int m) H'
theorem Zql:Ay ["_law_word"] ["_law_word"] (An Jg):=by walk_at "sc"
theorem Zhk {f:Addr}{fd:FuncData}(F:Fun K "_law_many" "_law_many" Jg f fd)(T:Txt K mg):Aq P w K mg base Ar 1 f fd ["_law_word"] Mn:=by
 refine F.okq Zql (fun vs H Q E h=>?_) (fun cdv A outer s H vs Q E hr h=>?_)
 ·obtain ⟨a,m,rfl,_⟩:=h
  rfl
 ·obtain ⟨wd,m,rfl,hm,q⟩:=h
  refine ⟨_,Ae (A0 (A5 (Fs K) (qv 0) (Ap (Ib (xs:=[.str "plus",.str "minus",.str "less",.str "call",.str "let"]) rfl)) (by rfl)) (Af (Ak Ac)) A4)
   (Ae (A0 (A5 (Bl K hr.u200) (qv 0) A2 (Az _)) (Af (Ak Ac)) A4)
   (Af (Ak (Ki Zdw (by rfl) T.int (by decide +kernel) (Aa (Ca (Fs K) (qv 0) (Ap (Aa A2 (Aa A2 Ab))) (by rfl)) Ab))))),?_⟩
  obtain ⟨e1,e2,e3,e4,_⟩:=Gp hm
  walk_at "r"
  refine ⟨sz5,fun p1 h1=>?_⟩
  refine Fq (.inr (SqT.of Ad)) rfl rfl ?_
  have s1:=Same.upd (o:=.tup [.str "plus",.str "minus",.str "less",.str "call",.str "let"]) h1
  rw [if_neg Oz,e1]
  walk_at "r"
  refine A1 (fun h=>?_) (fun h=>?_)
  ·have h:m=2:=of_decide_eq_true h
   subst h
   walk_at "r"
   exact q _ s1
  have n2:m≠2:=fun x=>h (decide_eq_true x)
  walk_at "r"
  rw [Dg,e2]
  refine A1 (fun h=>?_) (fun h=>?_)
  ·have h:m=3:=of_decide_eq_true h
   subst h
   walk_at "r"
   exact q _ s1
  have n3:m≠3:=fun x=>h (decide_eq_true x)
  walk_at "r"
  refine ⟨B3,fun p2 h2=>?_⟩
  refine Fq (.inr (SqT.of Ad)) rfl rfl ?_
  rw [if_neg Oz,e3]
  walk_at "r"
  have q':=q _ (s1.put (o:=.tup [.str "fn",.str "rec"]) h2)
  by_cases z:m=1
  ·subst z
   exact q'
  ·have z0:m=0:=by omega
   subst z0
   exact q'
mutual
noncomputable def Bm:Tr->Nat
 | .mk _ _ ps=>1+Ba ps
noncomputable def Ba:List Tr->Nat
 | []=>0
 | t::r=>max (Bm t) (Ba r)
end
theorem D3 (w:Str)(n:Dt)(ts:List Tr):Bm (.mk w n ts)=1+Ba ts:=by rw [Bm]
theorem Eh:Ba []=0:=by rw [Ba]
theorem Cz (t:Tr)(r:List Tr):Ba (t::r)=max (Bm t) (Ba r):=by rw [Ba]
theorem Fw:Bm gapT=1:=by unfold gapT;rw [Bm,Ba]
theorem Zqp (a b:List Tr):Ba (a++b)=max (Ba a) (Ba b):=by
 induction a with
 | nil=>rw [Q5,Ba];omega
 | cons t r ih=>rw [Ss,Ba,Ba,ih];omega
theorem J0 (a:List Tr)(t:Tr):Ba (a++[t])=max (Ba a) (Bm t):=by rw [Zqp,Ba,Ba];omega
theorem Zam {ts:List Tr}{j:Nat}{t:Tr}(h:ts[j]?=some t):Bm t<=Ba ts:=by
 induction ts generalizing j with
 | nil=>simp at h
 | cons x r ih =>
  rw [Ba]
  cases j with
  | zero=>simp at h;subst h;omega
  | succ j=>have:=ih (j:=j) (by simpa using h);omega
theorem Zpe (ts:List Tr)(j:Nat)(u:Tr):Ba (ts.set j u)<=max (Ba ts) (Bm u):=by
 induction ts generalizing j with
 | nil=>simp [Ba]
 | cons x r ih =>
  cases j with
  | zero=>rw [List.set_cons_zero,Ba,Ba];omega
  | succ j=>rw [List.set_cons_succ,Ba,Ba];have:=ih j;omega
inductive TrOk:Tr->Prop where
 | mk {wd:Str} {d:Dt} {nt:Nt} {ts:List Tr} (hp:Bp wd=some ts.length) (hd:Fj d nt) (hn:C0 wd nt=true) (hs:∀ t∈ts,TrOk t):TrOk (.mk wd d ts)
theorem TrOk.gap:TrOk gapT:=.mk (by decide +kernel) (.fl (v:=.non) trivial) (by decide +kernel) (fun t h=>nomatch h)
theorem TrOk.let {u:Str}{s t:Tr}(hu:A6 u=true)(hs:TrOk s)(ht:TrOk t):TrOk (.mk "let" (.flat (.str u)) [s,t]) :=
 .mk (by show Bp "let" = some 2;decide +kernel) (.fl (show u.length<=1000 by have:=(G7 hu).2;omega)) (by
  have e:C0 "let" (.fl (.str u))=A6 u:=by
   unfold C0
   rw [if_neg (by decide +kernel),if_neg (by decide +kernel),if_neg (by decide +kernel),if_pos (by decide +kernel)]
   rfl
  rw [e];exact hu) (fun x hx=>by
  simp only [Oy,Pw,or_false] at hx
  rcases hx with rfl | rfl <;> assumption)
theorem TrOk.call {s t:Tr}(hs:TrOk s)(ht:TrOk t):TrOk (.mk "call" (.flat .non) [s,t]) :=
 .mk (by show Bp "call" = some 2;decide +kernel) (.fl (v:=.non) trivial) (by decide +kernel) (fun x hx=>by
  simp only [Oy,Pw,or_false] at hx
  rcases hx with rfl | rfl <;> assumption)
theorem Lg {ts:List Tr}{t:Tr}(h:∀ x∈ts,TrOk x)(ht:TrOk t):∀ x∈ts++[t],TrOk x:=fun x hx=>by
 rcases P9.mp hx with hx | hx
 ·exact h x hx
 ·rw [Qp.mp hx];exact ht
noncomputable def Zfu (K:Om):Sp:=fun vs H Q _=>∃(c p:Addr)(ns:List Int)(t0 t1 t2:Str),vs=[.ref c,.ref p]/\SqL K H c (ns.map V.int)/\ns.length<=63/\SqL K H p [.str t0,.str t1,.str t2]/\A6 t0=true/\A6 t1=true/\A6 t2=true /\
 ∀(v:V)(t:Tr)(H':Hp),Same H H'->TrAt K H' v t->TrOk t->t.size<=1+5 * ns.length->Bm t<=1+2 * ns.length->Q v H'
theorem sc_law_tree:Ay ["_law_cells", "_law_names_here", "_law_left", "_law_cell_here", "_law_word", "_law_note", "_law_parts", "_law_k", "_law_tree_here", "_law_form_here"] ["_law_cells", "_law_names_here"] (An Hk):=by walk_at "sc"
noncomputable def Zo4 (K:Om)(H:Hp)(c p pl:Addr)(i:Nat)(σ:St)(H':Hp):Prop:=∃(v3 v4 v5 v6 v7 v8 v9:Option V)(lv:List V)(lt:List Tr),σ=[some (.ref c),some (.ref p),some (.ref pl),v3,v4,v5,v6,v7,v8,v9]/\H' pl=some (.lst lv)/\Al (TrAt K H') lv lt/\Aj lt<=4 * i/\lt.length<=i/\(∀ t∈lt,TrOk t)/\Ba lt<=i+1/\Same H H'
theorem TrAt.al {K:Om}{H H':Hp}{vs:List V}{ts:List Tr}(h:Al (TrAt K H) vs ts)(e:SameT H H'):Al (TrAt K H') vs ts:=h.mono fun _ _ a=>a.sameT e
theorem Zqy {f:Addr}{fd:FuncData}(F:Fun K "_law_tree" "_law_tree" Hk f fd)(T:Txt K mg)(C__law_head:Av P w K mg base 2 "_law_head" ["_law_cell_here", "_law_names_here"] (Kv K))(C__law_many:Av P w K mg base 1 "_law_many" ["_law_word"] Mn):Aq P w K mg base Ar 3 f fd ["_law_cells", "_law_names_here"] (Zfu K):=by
 refine F.okq sc_law_tree (fun vs H Q E h=>?_) (fun cdv A outer s H vs Q E hr h=>?_)
 ·obtain ⟨c,p,ns,t0,t1,t2,rfl,_⟩:=h
  rfl
 ·obtain ⟨c,p,ns,t0,t1,t2,rfl,hc,hn,hp,n0,n1,n2,q⟩:=h
  refine ⟨_,Ae (Ao 2 sc_law_tree (Br Ab))
   (Ae (B1 Pb rfl (Dd K (qv 0)) (Ax (i:=3) sc_law_tree.nd rfl (Or.inl rfl)) (Ae (Ez (As C__law_head hr.m (Aa (qv 3) (Aa (qv 1) Ab))) (De K (n:=2) rfl (Be (Ax (i:=4) sc_law_tree.nd rfl (Or.inl rfl)) (Be (Ax (i:=5) sc_law_tree.nd rfl (Or.inl rfl)) (C5)))))
   (Ae (Ao 6 sc_law_tree (Br Ab))
   (Ae (B1 Pb rfl (D7 rfl T.range (Aa (As C__law_many hr.m (Aa (qv 4) Ab)) Ab)) (Ax (i:=7) sc_law_tree.nd rfl (Or.inl rfl)) (Af (A0 (QW.qt (Zd6 (A5 Go (A8 (Bt K) (by rfl) T.len (by decide +kernel) (Aa (qv 2) Ab)) Ac (Az _)) (Zd2 (A5 Go (Ag A7 (Ag A7 (Ag Cn (qv 3) (Ag (Bf K) (Ag Cn Ac (qv 7)) Ac)) Ac) Ac) Ac (Az _))))) (Af (C1 (Cu K Pk Qg Qh C8 (qv 6) (Aa (Lx K Pk T0 T1 K5 (qv 2)) Ab)))) (Af (C1 (Cu K Pk Qg Qh C8 (qv 6) (Aa (Ap (Aa A2 (Aa E3 (Aa (Ap Ab) Ab)))) Ab)))))))
   (Af (C1 (Cu K Pk Qg Qh C8 (qv 2) (Aa (Ap (Aa (qv 4) (Aa (qv 5) (Aa (Ki (Zf6 K) (by rfl) T.tuple (by decide +kernel) (Aa (qv 6) Ab)) Ab)))) Ab))))))))
   (Ae (Ao 8 sc_law_tree (Ap (Aa A2 (Aa E3 (Aa (Ap Ab) Ab)))))
   (Ae (B1 Pb rfl (Zlm K rfl T.enumerate (Aa (qv 2) Ab)) (De K (n:=2) rfl (Be (Ax (i:=7) sc_law_tree.nd rfl (Or.inl rfl)) (Be (Ax (i:=9) sc_law_tree.nd rfl (Or.inl rfl)) (C5)))) (Af (A0 (A5 (Bl K hr.u200) (qv 7) Ac (Az _)) (Af (Ao 8 sc_law_tree (qv 9))) (Af (A0 (A5 (Bl K hr.u200) (Ag A7 (qv 7) Ac) Ac (Az _)) (Af (Ao 8 sc_law_tree (Ap (Aa A2 (Aa (Am K (qv 1) (Ag A7 (qv 7) Ac)) (Aa (Ap (Aa (qv 8) (Aa (qv 9) Ab))) Ab)))))) (Af (Ao 8 sc_law_tree (Ap (Aa A2 (Aa E3 (Aa (Ap (Aa (qv 9) (Aa (qv 8) Ab))) Ab)))))))))))
   (Af (Ak (qv 8)))))),?_⟩
  have bg:=big
  walk_at "r"
  refine ⟨B0,fun pl hpl=>?_⟩
  have s1:=Same.upd (o:=.lst []) hpl
  walk_at "r"
  refine .inl ⟨c,rfl,⟨_,s1.seq hc⟩,?_⟩
  refine Lo (K:=K) (a:=c) (xs:=ns.map V.int) (Zo4 K H c p pl) ⟨_,_,_,_,_,_,_,[],[],rfl,Ad,.nil,Pj _,Pj _,(fun t h=>nomatch h),(by rw [Eh];omega),s1⟩ ?_ ?_ ?_
  ·rintro i σ' H' _ ⟨_,_,_,_,_,_,_,_,_,_,_,_,_,_,_,_,sm⟩
   exact sm.seq hc
  ·rintro i x σ' H1 hx ⟨v3,v4,v5,v6,v7,v8,v9,lv,lt,rfl,el,al,hsz,hln,hok,hdp,sm⟩
   obtain ⟨z,_,rfl⟩:=Sc.mp (Pn hx)
   have hi:=(O3.mp hx).1
   rw [Pa] at hi
   walk_at "r"
   refine ⟨z,p,t0,t1,t2,rfl,sm.seq hp,n0,n1,n2,fun a wd note n nt H2 s2 qa hno hps _ hdn hnb=>?_⟩
   refine Dj qa rfl ?_
   walk_at "r"
   refine ⟨B0,fun pp hpp=>?_⟩
   have el2:=s2 _ _ el
   have npp:pl≠pp:=Bc el2 hpp
   have s3:=Same.upd (o:=.lst []) hpp
   walk_at "r"
   obtain ⟨k,hk⟩:=Ri.mp hps
   have k3:=(Gp hk).2.2.2.1
   refine ⟨wd,k,rfl,hk,fun H3 s4=>?_⟩
   have sm3:=sm.trans (s2.trans (s3.trans s4))
   have hpp0:H pp=none:=(sm.trans s2).free hpp
   walk_at "r"
   refine ⟨by omega,by omega,?_⟩
   refine Hb (n:=(k:Int).toNat) (fun j σ5 H5=>∃(v7:Option V)(lv5 pv5:List V)(lt5 pt5:List Tr),σ5=[some (.ref c),some (.ref p),some (.ref pl),some (.int z),some (.str wd),some note,some (.ref pp),v7,v8,v9]/\H5 pl=some (.lst lv5)/\H5 pp=some (.lst pv5)/\Al (TrAt K H5) lv5 lt5/\Al (TrAt K H5) pv5 pt5/\pt5.length=j/\(∀ t∈lt5,TrOk t)/\(∀ t∈pt5,TrOk t)/\Aj lt5+Aj pt5<=Aj lt+j/\lt5.length<=i/\Ba lt5<=i+1/\Ba pt5<=i+1/\SameT H3 H5/\Same H H5)
    ⟨_,lv,[],lt,[],rfl,s4 _ _ (s3 _ _ el2),s4 _ _ Ad,TrAt.al al (s2.trans (s3.trans s4)).t,.nil,rfl,hok,(fun t h=>nomatch h),by simp [Aj],hln,hdp,(by rw [Eh];omega),SameT.refl _,sm3⟩ ?_ ?_
   ·rintro j σ5 H5 hj ⟨v7',lv5,pv5,lt5,pt5,rfl,e5l,e5p,al5,ap5,hpt,ok5,okp,hs5,hl5,hd5,hq5,t5,sm5⟩
    have hpv:pv5.length=j:=by rw [ap5.1,hpt]
    have gap:∀ σ6:St,σ6=[some (.ref c),some (.ref p),some (.ref pl),some (.int z),some (.str wd),some note,some (.ref pp),some (.int (0+(j:Int))),v8,v9] ->
      ∀ pa,H5 pa=none->∀ pb,upd H5 pa (.tup []) pb=none->Md (.ref pp) [.ref pb] (upd (upd H5 pa (.tup [])) pb (.tup [.str "gap",.non,.ref pa])) fun _ H6=>∃(v7:Option V)(lv5 pv5:List V)(lt5 pt5:List Tr),σ6=[some (.ref c),some (.ref p),some (.ref pl),some (.int z),some (.str wd),some note,some (.ref pp),v7,v8,v9]/\H6 pl=some (.lst lv5)/\H6 pp=some (.lst pv5)/\Al (TrAt K H6) lv5 lt5/\Al (TrAt K H6) pv5 pt5/\pt5.length=j+1/\(∀ t∈lt5,TrOk t)/\(∀ t∈pt5,TrOk t)/\Aj lt5+Aj pt5<=Aj lt+(j+1)/\lt5.length<=i/\Ba lt5<=i+1/\Ba pt5<=i+1/\SameT H3 H6/\Same H H6:=fun σ6 e6 pa hpa pb hpb=>by
     have s6:=(Same.upd (o:=.tup []) hpa).put (o:=.tup [.str "gap",.non,.ref pa]) hpb
     have e6p:=s6 _ _ e5p
     have t6:SameT H5 (upd (upd (upd H5 pa (.tup [])) pb (.tup [.str "gap",.non,.ref pa])) pp (.lst (pv5++[.ref pb]))):=s6.t.trans (SameT.set e6p)
     refine Dc e6p (by omega) ⟨_,lv5,pv5++[.ref pb],lt5,pt5++[gapT],e6,by rw [Ai npp];exact s6 _ _ e5l,Ad,TrAt.al al5 t6,(TrAt.al ap5 t6).snoc ?_,by simp [hpt],ok5,Lg okp TrOk.gap,?_,hl5,hd5,(by rw [J0,Fw];omega),t5.trans t6,(sm5.trans s6).over hpp0⟩
     ·exact TrAt.gap ((SameT.set e6p).tup (SqT.of Ad)) (((SameT.new (o:=.tup [.str "gap",.non,.ref pa]) hpb).trans (SameT.set e6p)).tup (SqT.of Ad))
     ·have e1:Aj [gapT]=1:=by rw [Aj,Iq,Aj]
      rw [F6,e1]
      omega
    walk_at "r"
    refine Ey (SqL.of e5l) ?_
    walk_at "r"
    by_cases hlv:lv5=[]
    ·subst hlv
     refine iteF ?_
     walk_at "r"
     refine B2 (SqL.of e5p) ?_
     walk_at "r"
     refine ⟨B0,fun pa hpa=>?_⟩
     walk_at "r"
     refine ⟨Bj,fun pb hpb=>?_⟩
     walk_at "r"
     exact gap _ rfl pa hpa pb hpb
    ·obtain ⟨lv6,x6,lt6,t6,rfl,rfl,al6,hx6⟩:=al5.last hlv
     have hne:decide ((0:Int) < ((lv6++[x6]).length:Int))=true:=decide_eq_true (by rw [O2,Qo];omega)
     rw [hne]
     walk_at "r"
     refine s_mul_r (by omega) (by omega) ?_
     walk_at "r"
     refine A1 (fun _=>?_) (fun _=>?_)
     ·walk_at "r"
      refine B2 (SqL.of e5p) ?_
      walk_at "r"
      refine B2 (SqL.of e5l) ?_
      refine Lu e5l ?_
      walk_at "r"
      have e6p:upd H5 pl (.lst lv6) pp=some (.lst pv5):=by rw [Ai npp.symm];exact e5p
      have t6':SameT H5 (upd (upd H5 pl (.lst lv6)) pp (.lst (pv5++[x6]))):=(SameT.set e5l).trans (SameT.set e6p)
      have hs6:Aj (lt6++[t6])=Aj lt6+t6.size:=by rw [F6,Aj,Aj];omega
      refine Dc e6p (by omega) ⟨_,lv6,pv5++[x6],lt6,pt5++[t6],rfl,by rw [Ai npp,Ad],Ad,TrAt.al al6 t6',(TrAt.al ap5 t6').snoc (hx6.sameT t6'),by simp [hpt],fun t ht=>ok5 t (Si _ ht),Lg okp (ok5 t6 (by simp)),?_,?_,(by rw [J0] at hd5;omega),(by rw [J0] at hd5 ⊢;omega),t5.trans t6',(sm5.over hpl).over hpp0⟩
      ·have e2:Aj (pt5++[t6])=Aj pt5+t6.size:=by rw [F6,Aj,Aj];omega
       omega
      ·rw [O2,Qo] at hl5
       omega
     ·walk_at "r"
      refine B2 (SqL.of e5p) ?_
      walk_at "r"
      refine ⟨B0,fun pa hpa=>?_⟩
      walk_at "r"
      refine ⟨Bj,fun pb hpb=>?_⟩
      walk_at "r"
      exact gap _ rfl pa hpa pb hpb
   ·rintro σ5 H5 ⟨v7',lv5,pv5,lt5,pt5,rfl,e5l,e5p,al5,ap5,hpt,ok5,okp,hs5,hl5,hd5,hq5,t5,sm5⟩
    walk_at "r"
    refine B2 (SqL.of e5l) ?_
    walk_at "r"
    refine Zdm (SqL.of e5p) fun pq hpq=>?_
    walk_at "r"
    refine ⟨Bj,fun pr hpr=>?_⟩
    walk_at "r"
    have s6:=(Same.upd (o:=.tup pv5) hpq).put (o:=.tup [.str wd,note,.ref pq]) hpr
    have e6l:=s6 _ _ e5l
    have hll:lv5.length<=i:=by rw [al5.1];exact hl5
    have t6:SameT H5 (upd (upd (upd H5 pq (.tup pv5)) pr (.tup [.str wd,note,.ref pq])) pl (.lst (lv5++[.ref pr]))):=s6.t.trans (SameT.set e6l)
    refine Dc e6l (by omega) ⟨_,_,_,_,_,_,_,lv5++[.ref pr],lt5++[.mk wd n pt5],rfl,Ad,(TrAt.al al5 t6).snoc ?_,?_,by simp;omega,Lg ok5 (.mk (by rw [hpt];simpa using hk) hdn hnb okp),(by rw [J0,D3];omega),(sm5.trans s6).over hpl⟩
    ·have ap6:=TrAt.al ap5 t6
     exact .mk ((SameT.set e6l).tup (SqT.of Ad)) (hno.same (((s3.trans s4).t.trans t5).trans t6)) (((SameT.new (o:=.tup [.str wd,note,.ref pq]) hpr).trans (SameT.set e6l)).tup (SqT.of Ad)) ap6.1 ap6.2
    ·have e1:Aj (lt5++[.mk wd n pt5])=Aj lt5+(1+Aj pt5):=by rw [F6,Aj,Aj,Tr.size];omega
     omega
  ·rintro σ' H1 ⟨v3,v4,v5,v6,v7,v8,v9,lv,lt,rfl,el,al,hsz,hln,hok,hdp,sm⟩
   rw [Pa] at hsz hln hdp
   walk_at "r"
   refine ⟨B0,fun pa hpa=>?_⟩
   walk_at "r"
   refine ⟨Bj,fun pb hpb=>?_⟩
   have s2:=(Same.upd (o:=.tup []) hpa).put (o:=.tup [.str "gap",.non,.ref pa]) hpb
   walk_at "r"
   refine ⟨pl,lv,rfl,SqL.of (s2 _ _ el),?_⟩
   refine Zme (K:=K) (a:=pl) (xs:=lv) (fun i σ5 H5=>∃(v7 v9:Option V)(tv:V)(t:Tr),σ5=[some (.ref c),some (.ref p),some (.ref pl),v3,v4,v5,v6,v7,some tv,v9]/\TrAt K H5 tv t/\TrOk t/\t.size<=1+Aj (lt.take i)+i/\Bm t<=ns.length+1+i/\Same H1 H5)
    ⟨_,_,_,gapT,rfl,TrAt.gap (SqT.of Ad) ((SameT.new (o:=.tup [.str "gap",.non,.ref pa]) hpb).tup (SqT.of Ad)),TrOk.gap,by rw [Iq];omega,by rw [Fw];omega,s2⟩ ?_ ?_ ?_
   ·rintro i σ5 H5 _ ⟨_,_,_,_,_,_,_,_,_,sm5⟩
    exact SqL.of (sm5 _ _ el)
   ·rintro i x tt σ5 H5 hx htt ⟨v7',v9',tv,t,rfl,htv,hto,hts,htd,sm5⟩
    obtain ⟨tx,htx,hax⟩:=al.get hx
    have hxo:=hok tx (Pn htx)
    have hxd:=Zam htx
    have s6:=Same.upd (o:=.tup [.int i,x]) htt
    have hst:Aj (lt.take (i+1))=Aj (lt.take i)+tx.size:=by
     rw [Sr,htx,F6]
     show _+Aj [tx]=_
     rw [Aj,Aj]
     omega
    refine Dj (SqT.of Ad) rfl ?_
    walk_at "r"
    refine A1 (fun _=>?_) (fun _=>?_)
    ·walk_at "r"
     exact ⟨_,_,x,tx,rfl,hax.same (sm5.trans s6),hxo,by omega,by omega,sm5.trans s6⟩
    walk_at "r"
    refine A1 (fun _=>?_) (fun _=>?_)
    ·walk_at "r"
     obtain ⟨u,hu,hnu⟩:=Kr n0 n1 n2 (i:Int)
     refine B5 ((sm.trans (sm5.trans s6)).seq hp) hu ?_
     walk_at "r"
     refine ⟨B3,fun p8 h8=>?_⟩
     walk_at "r"
     refine ⟨Bj,fun p9 h9=>?_⟩
     walk_at "r"
     have s8:=s6.trans ((Same.upd (o:=.tup [tv,x]) h8).put (o:=.tup [.str "let",.str u,.ref p8]) h9)
     have ax:=hax.same (sm5.trans s8)
     have at':=htv.same s8
     have e8:=(SameT.new (o:=.tup [.str "let",.str u,.ref p8]) h9).tup (K:=K) (SqT.of Ad)
     refine ⟨_,_,.ref p9,.mk "let" (.flat (.str u)) [t,tx],rfl,.mk (SqT.of Ad) (.inl ⟨rfl,rfl⟩) e8 rfl fun j v y f1 f2=>?_,TrOk.let hnu hto hxo,?_,(by rw [D3,Cz,Cz,Eh];omega),sm5.trans s8⟩
     ·match j,f1,f2 with
      | 0,f1,f2=>cases f1;cases f2;exact at'
      | 1,f1,f2=>cases f1;cases f2;exact ax
     ·rw [Tr.size,Aj,Aj,Aj]
      omega
    ·walk_at "r"
     refine ⟨B3,fun p8 h8=>?_⟩
     walk_at "r"
     refine ⟨Bj,fun p9 h9=>?_⟩
     walk_at "r"
     have s8:=s6.trans ((Same.upd (o:=.tup [x,tv]) h8).put (o:=.tup [.str "call",.non,.ref p8]) h9)
     have ax:=hax.same (sm5.trans s8)
     have at':=htv.same s8
     have e8:=(SameT.new (o:=.tup [.str "call",.non,.ref p8]) h9).tup (K:=K) (SqT.of Ad)
     refine ⟨_,_,.ref p9,.mk "call" (.flat .non) [tx,t],rfl,.mk (SqT.of Ad) (.inl ⟨rfl,rfl⟩) e8 rfl fun j v y f1 f2=>?_,TrOk.call hxo hto,?_,(by rw [D3,Cz,Cz,Eh];omega),sm5.trans s8⟩
     ·match j,f1,f2 with
      | 0,f1,f2=>cases f1;cases f2;exact ax
      | 1,f1,f2=>cases f1;cases f2;exact at'
     ·rw [Tr.size,Aj,Aj,Aj]
      omega
   ·rintro σ5 H5 ⟨v7',v9',tv,t,rfl,htv,hto,hts,htd,sm5⟩
    walk_at "r"
    rw [al.1,Ue] at hts
    rw [al.1] at htd
    exact q tv t H5 (sm.trans sm5) htv hto (by omega) (by omega)
end
inductive At:Tr->List Nat->Tr->Prop where
 | nil (t:Tr):At t [] t
 | cons {w:Str} {n:Dt} {ts:List Tr} {j:Nat} {t u:Tr} {r:List Nat} (h:ts[j]?=some t) (s:At t r u):At (.mk w n ts) (j::r) u
mutual
theorem Ob:∀(t:Tr)(x:List Nat×Tr),x∈walk [] t->At t x.1 x.2
 | .mk w n ps,x,h=>by
  rw [walk] at h
  rcases Oy.mp h with rfl | h
  ·exact .nil _
  ·obtain ⟨j,t,r,e1,e2,e3⟩:=Zgd 0 ps x h
   rw [e2,Ta]
   exact .cons e1 e3
theorem Zgd:∀(i:Nat)(ts:List Tr)(x:List Nat×Tr),x∈Bg [] i ts->∃(j:Nat)(t:Tr)(r:List Nat),ts[j]?=some t/\x.1=(i+j)::r/\At t r x.2
 | _,[],x,h=>by rw [Bg] at h;cases h
 | i,t::q,x,h=>by
  rw [Bg] at h
  rcases P9.mp h with h | h
  ·rw [Lf] at h
   obtain ⟨y,hy,rfl⟩:=Sc.mp h
   exact ⟨0,t,y.1,rfl,rfl,Ob t y hy⟩
  ·obtain ⟨j,t',r,e1,e2,e3⟩:=Zgd (i+1) q x h
   exact ⟨j+1,t',r,by simpa using e1,by rw [e2];congr 1;omega,e3⟩
end
theorem At.det {t u u':Tr}{pl:List Nat}(h:At t pl u)(h':At t pl u'):u=u':=by
 induction h with
 | nil t=>cases h';rfl
 | cons e _ ih =>
  cases h' with
  | cons e' s' =>
   rw [e] at e'
   cases e'
   exact ih s'
theorem At.split {t u:Tr}:∀{a b:List Nat},At t (a++b) u->∃ m,At t a m/\At m b u:=by
 intro a
 induction a generalizing t with
 | nil=>intro b h;exact ⟨t,.nil _,h⟩
 | cons j r ih =>
  intro b h
  cases h with
  | cons e s =>
   obtain ⟨m,h1,h2⟩:=ih s
   exact ⟨m,.cons e h1,h2⟩
theorem At.app {t m u:Tr}{a b:List Nat}(h:At t a m)(h':At m b u):At t (a++b) u:=by
 induction h with
 | nil t=>exact h'
 | cons e _ ih=>exact .cons e (ih h')
theorem At.ok {t u:Tr}{pl:List Nat}(h:At t pl u):TrOk t->TrOk u/\u.size<=t.size:=by
 induction h with
 | nil t=>exact fun o=>⟨o,Os _⟩
 | cons e _ ih =>
  intro o
  cases o with
  | mk _ _ _ hs =>
   have h1:=ih (hs _ (Pn e))
   have h2:=J2 e
   rw [Tr.size]
   exact ⟨h1.1,by omega⟩
theorem At.step {t u:Tr}{pl:List Nat}(h:At t pl u){k j:Nat}(hk:pl[k]?=some j):∃(w:Str)(n:Dt)(ts:List Tr)(m:Tr),At t (pl.take k) (.mk w n ts)/\ts[j]?=some m/\At t (pl.take (k+1)) m:=by
 have hl:=(O3.mp hk).1
 have hd:pl.drop k=j::pl.drop (k+1):=by
  rw [Qf hl]
  rw [Oo hl] at hk
  rw [Ox hk]
 have h0:At t (pl.take k++(j::pl.drop (k+1))) u:=by rw [<- hd,Vf];exact h
 obtain ⟨m,h1,h2⟩:=h0.split
 cases h2 with
 | cons e s =>
  refine ⟨_,_,_,_,h1,e,?_⟩
  rw [List.take_succ,hk]
  exact h1.app (.cons e (.nil _))
theorem At.len {t u:Tr}{pl:List Nat}(h:At t pl u):pl.length+1<=t.size:=by
 induction h with
 | nil t=>have:=t.size_eq;simp;omega
 | cons e _ ih=>have:=J2 e;rw [Tr.size,O5];omega
theorem At.sub {t u:Tr}{pl:List Nat}(h:At t pl u):Sub t pl:=by
 induction h with
 | nil t=>exact .nil t
 | cons e _ ih=>exact .cons e ih
theorem At.path {t u:Tr}{pl:List Nat}(h:At t pl u):(path t pl)[pl.length]?=some u:=by
 induction h with
 | nil t=>cases t;rfl
 | cons e _ ih=>rw [Lb e,O5,Rt];exact ih
theorem At.put {t u f:Tr}{pl:List Nat}(h:At t pl u):At (Bh t pl f) pl f:=by
 induction h with
 | nil t=>rw [Dr];exact .nil _
 | cons e _ ih=>rw [Ea e];exact .cons (Zfb e) ih
theorem At.twice {t u f g:Tr}{pl p:List Nat}(h:At t pl u):Bh (Bh t pl f) (pl++p) g=Bh t pl (Bh f p g):=by
 induction h with
 | nil t=>rw [Dr,Dr,Q5]
 | cons e _ ih=>rw [Ea e,Ea e,Ss,Ea (Zfb e),ih,List.set_set]
theorem Nw {nt:Nt}(h:G8 nt=true):nt=.fl .non:=by
 unfold G8 at h
 split at h
 ·rfl
 ·cases h
theorem N1 {t:Tr}(ok:TrOk t)(h:t.wd = "gap"):t=gapT:=by
 cases ok with
 | @mk wd d nt ts hp hd hn hs =>
  have h:wd = "gap" := h
  subst h
  have h0:Bp ("gap" : Str)=some 0:=by decide +kernel
  rw [h0] at hp
  have hl:ts=[]:=Rh (Ox hp).symm
  subst hl
  have hn:G8 nt=true:=hn
  have e:=Nw hn
  subst e
  cases hd with
  | fl hv=>rfl
noncomputable def _root_.L2.Tr.note:Tr->Dt
 | .mk _ n _=>n
theorem Zec (t:Tr):t=.mk t.wd t.note t.ps:=by cases t;rfl
inductive Op where
 | put (t:Tr)
 | cut
noncomputable def Op.does:Op->Tr->Tr->Prop
 | .put b,f,g=>f=gapT/\g=b/\b.wd ≠ "gap" /\ (∀ x∈b.ps,x=gapT)/\b.ps.length<=3
 | .cut,f,g=>f.wd ≠ "gap" /\ g=gapT
noncomputable abbrev Rw:=List (List Nat×Op)
inductive Led:Tr->Rw->Tr->Prop where
 | nil (t:Tr):Led t [] t
 | cons {t f g u:Tr} {pl:List Nat} {o:Op} {r:Rw} (h:At t pl f) (d:o.does f g) (s:Led (Bh t pl g) r u):Led t ((pl,o)::r) u
theorem Led.app {t u v:Tr}{r s:Rw}(a:Led t r u)(b:Led u s v):Led t (r++s) v:=by
 induction a with
 | nil t=>exact b
 | cons h d _ ih=>exact .cons h d (ih b)
noncomputable def pre (pl:List Nat)(r:Rw):Rw:=r.map fun x=>(pl++x.1,x.2)
theorem Hg (pl:List Nat)(r:Rw):(pre pl r).length=r.length:=by unfold pre;rw [Pa]
theorem Zml (r:Rw):pre [] r=r:=by
 unfold pre
 induction r with
 | nil=>rfl
 | cons x r ih=>rw [Ph,ih];rfl
theorem Zqk (p q:List Nat)(r:Rw):pre p (pre q r)=pre (p++q) r:=by
 unfold pre
 rw [U2]
 congr 1
 funext x
 show (p++(q++x.1),x.2)=_
 rw [P8]
theorem Zis (p:List Nat)(r s:Rw):pre p (r++s)=pre p r++pre p s:=by unfold pre;rw [Po]
theorem Led.in_ {f g:Tr}{r:Rw}(h:Led f r g){t x:Tr}{pl:List Nat}(a:At t pl x):Led (Bh t pl f) (pre pl r) (Bh t pl g):=by
 induction h with
 | nil f=>exact .nil _
 | @cons f f' g' u p o r h d s ih =>
  refine .cons (pl:=pl++p) (o:=o) (a.put.app h) d ?_
  rw [a.twice]
  exact ih
inductive LedS:Nat->List Tr->Rw->List Tr->Prop where
 | nil (i:Nat):LedS i [] [] []
 | cons {i:Nat} {f a:Tr} {fs as:List Tr} {r rs:Rw} (h:Led f r a) (s:LedS (i+1) fs rs as):LedS i (f::fs) (pre [i] r++rs) (a::as)
theorem LedS.led {w:Str}{n:Dt}{i:Nat}{fs as:List Tr}{rs:Rw}(h:LedS i fs rs as):∀ d:List Tr,d.length=i->Led (.mk w n (d++fs)) rs (.mk w n (d++as)):=by
 induction h with
 | nil i=>intro d _;exact .nil _
 | @cons i f a fs as r rs h s ih =>
  intro d hd
  have g:∀ x:Tr,(d++x::fs)[i]?=some x:=fun x=>by rw [Qw (by omega),hd];simp
  have e:∀ x y:Tr,Bh (.mk w n (d++x::fs)) [i] y=.mk w n (d++y::fs):=fun x y=>by
   rw [Ea (g x),Dr]
   congr 1
   rw [List.set_append_right _ _ (by omega),hd,Q7]
   rfl
  have h1:=h.in_ (t:=.mk w n (d++f::fs)) (pl:=[i]) (.cons (g f) (.nil _))
  rw [e,e] at h1
  have h2:=ih (d++[a]) (by simp [hd])
  rw [P8,P8] at h2
  exact h1.app h2
noncomputable def C7 (x:List Nat×Tr):Bool:=!decide (x.2.wd = "gap")
noncomputable def fp (t:Tr):List (List Nat×Tr):=(walk [] t).filter C7
noncomputable def Ke (t:Tr):Tr:=.mk t.wd t.note (O0 t.ps.length gapT)
noncomputable def B6 (t:Tr):Rw:=(fp t).map fun x=>(x.1,.put (Ke x.2))
noncomputable def Fn (i:Nat)(ts:List Tr):Rw:=((Bg [] i ts).filter C7).map fun x=>(x.1,.put (Ke x.2))
theorem Zct:B6 gapT=[]:=by
 unfold B6 fp
 rw [M2,show gapT.ps=[] from rfl,Bg,List.filter_cons_of_neg (by unfold C7;rw [decide_eq_true (show ([],gapT).2.wd=("gap" : Str) from rfl)];decide)]
 rfl
theorem Zlp {t:Tr}(h:t.wd ≠ "gap"):B6 t=([],.put (Ke t))::Fn 0 t.ps:=by
 unfold B6 fp Fn
 rw [M2,List.filter_cons_of_pos (by unfold C7;rw [decide_eq_false (show ¬ ([],t).2.wd=("gap" : Str) from h)];rfl),Ph]
theorem Zpv (i:Nat):Fn i []=[]:=by unfold Fn;rw [Bg];rfl
theorem Zo6 (i:Nat)(t:Tr)(r:List Tr):Fn i (t::r)=pre [i] (B6 t)++Fn (i+1) r:=by
 unfold Fn B6 fp pre
 rw [Bg,List.filter_append,Po,Q5,Lf [i] t,List.filter_map,U2,U2]
 rfl
mutual
theorem N6:∀ t:Tr,TrOk t->Led gapT (B6 t) t
 | .mk w n ts,ok=>by
  by_cases h:w = "gap"
  ·rw [N1 ok h,Zct]
   exact .nil _
  ·rw [Zlp (t:=.mk w n ts) h]
   refine .cons (.nil _) ⟨rfl,rfl,h,(fun x hx=>Va hx),by show (O0 ts.length gapT).length<=3;rw [Ve];cases ok with | mk hp _ _ _=>exact (Gp hp).2.2.2.1⟩ ?_
   rw [Dr]
   have hs:∀ t∈ts,TrOk t:=by cases ok with | mk _ _ _ hs=>exact hs
   exact (Zfk 0 ts hs).led [] rfl
theorem Zfk:∀(i:Nat)(ts:List Tr),(∀ t∈ts,TrOk t)->LedS i (O0 ts.length gapT) (Fn i ts) ts
 | i,[],_=>by rw [Zpv];exact .nil i
 | i,t::r,h=>by
  rw [Zo6,O5,Rb]
  exact .cons (N6 t (h t Pr)) (Zfk (i+1) r fun x hx=>h x (Pe _ hx))
end
theorem Zai (t:Tr):(fp t).length<=t.size:=by
 unfold fp
 have:=List.length_filter_le C7 (walk [] t)
 rw [Er] at this
 exact this
theorem Zbd (t:Tr):(B6 t).length=(fp t).length:=by unfold B6;rw [Pa]
noncomputable def D4 (a:Tr):Rw:=([],.cut)::B6 a
noncomputable def C9 (f a:Tr):Prop:=f.wd=a.wd/\f.note=a.note
open Classical in
mutual
noncomputable def Bs:Tr->Tr->Rw
 | .mk w n fs,a=>if w = "gap" then B6 a else if w=a.wd/\n=a.note then (if (Bd 0 fs a.ps).length<=1+(fp a).length then Bd 0 fs a.ps else D4 a) else D4 a
noncomputable def Bd:Nat->List Tr->List Tr->Rw
 | _,[],_=>[]
 | i,f::fs,as=>match as with
  | []=>[]
  | a::as=>pre [i] (Bs f a)++Bd (i+1) fs as
end
theorem Kk {f a:Tr}(h:f.wd = "gap"):Bs f a=B6 a:=by
 cases f with
 | mk w n fs=>have h:w = "gap" := h;rw [Bs,if_pos h]
theorem Ld {f a:Tr}(h:f.wd ≠ "gap")(s:C9 f a):Bs f a=if (Bd 0 f.ps a.ps).length<=1+(fp a).length then Bd 0 f.ps a.ps else D4 a:=by
 cases f with
 | mk w n fs =>
  have h:¬ w = "gap" := h
  have s:w=a.wd/\n=a.note:=s
  rw [Bs,if_neg h,if_pos s]
  show (if (Bd 0 fs a.ps).length<=1+(fp a).length then Bd 0 fs a.ps else D4 a)=if (Bd 0 fs a.ps).length<=1+(fp a).length then Bd 0 fs a.ps else D4 a
  split <;> rfl
theorem Zbi {f a:Tr}(h:f.wd ≠ "gap")(s:¬ C9 f a):Bs f a=D4 a:=by
 cases f with
 | mk w n fs =>
  have h:¬ w = "gap" := h
  have s:¬ (w=a.wd/\n=a.note):=s
  rw [Bs,if_neg h,if_neg s]
theorem Gn (i:Nat)(f a:Tr)(fs as:List Tr):Bd i (f::fs) (a::as)=pre [i] (Bs f a)++Bd (i+1) fs as:=by rw [Bd]
theorem Zae {f a:Tr}(hf:TrOk f)(ha:TrOk a)(h:f.wd=a.wd):f.ps.length=a.ps.length:=by
 cases hf with
 | mk p _ _ _ =>
 cases ha with
 | mk p' _ _ _ =>
  have h:_=_:=h
  dsimp only [Tr.wd] at h
  subst h
  rw [p] at p'
  exact Ox p'
theorem Hj {t:Tr}(h:TrOk t):∀ x∈t.ps,TrOk x:=by
 cases h with
 | mk _ _ _ hs=>exact hs
theorem Zfr {f a:Tr}(h:f.wd ≠ "gap")(ha:TrOk a):Led f (D4 a) a:=by
 refine .cons (.nil _) (o:=.cut) ⟨h,rfl⟩ ?_
 rw [Dr]
 exact N6 a ha
mutual
theorem Zf3:∀ f a:Tr,TrOk f->TrOk a->Led f (Bs f a) a
 | .mk w n fs,a,hf,ha=>by
  by_cases h:(Tr.mk w n fs).wd = "gap"
  ·rw [Kk h,N1 hf h]
   exact N6 a ha
  ·by_cases s:C9 (.mk w n fs) a
   ·rw [Ld h s]
    split
    ·have hl:=Zae hf ha s.1
     have:=(Zcw 0 fs a.ps hl (Hj hf) (Hj ha)).led (w:=w) (n:=n) [] rfl
     rw [Q5,Q5] at this
     have e:a=.mk w n a.ps:=by
      have:=Zec a
      rw [<- s.1,<- s.2] at this
      exact this
     rw [show (Tr.mk w n fs).ps=fs from rfl]
     rw [<- e] at this
     exact this
    ·exact Zfr h ha
   ·rw [Zbi h s]
    exact Zfr h ha
theorem Zcw:∀(i:Nat)(fs as:List Tr),fs.length=as.length->(∀ x∈fs,TrOk x)->(∀ x∈as,TrOk x)->LedS i fs (Bd i fs as) as
 | i,[],[],_,_,_=>by rw [Bd];exact .nil i
 | i,[],_::_,h,_,_=>by cases h
 | i,_::_,[],h,_,_=>by cases h
 | i,f::fs,a::as,h,h1,h2=>by
  rw [Gn]
  exact .cons (Zf3 f a (h1 f Pr) (h2 a Pr)) (Zcw (i+1) fs as (by simpa using h) (fun x hx=>h1 x (Pe _ hx)) fun x hx=>h2 x (Pe _ hx))
end
mutual
theorem Za1:∀ t:Tr,TrOk t->Bs t t=[]
 | .mk w n fs,hf=>by
  by_cases h:(Tr.mk w n fs).wd = "gap"
  ·rw [Kk h,N1 hf h,Zct]
  ·rw [Ld h ⟨rfl,rfl⟩]
   have e:Bd 0 (Tr.mk w n fs).ps (Tr.mk w n fs).ps=[]:=Zcn 0 fs (Hj hf)
   rw [e,if_pos (show ([]:Rw).length<=1+(fp (Tr.mk w n fs)).length from Pj _)]
theorem Zcn:∀(i:Nat)(ts:List Tr),(∀ x∈ts,TrOk x)->Bd i ts ts=[]
 | i,[],_=>by rw [Bd]
 | i,f::fs,h1=>by
  rw [Gn,Za1 f (h1 f Pr),Zcn (i+1) fs fun x hx=>h1 x (Pe _ hx)]
  rfl
end
theorem Za9 (f a:Tr):(Bs f a).length<=1+a.size:=by
 have hp:=Zbd a
 have hf:=Zai a
 have hc:(D4 a).length=1+(B6 a).length:=by unfold D4;rw [O5];omega
 by_cases h:f.wd = "gap"
 ·rw [Kk h];omega
 ·by_cases s:C9 f a
  ·rw [Ld h s]
   split
   ·omega
   ·omega
  ·rw [Zbi h s];omega
theorem M3:∀(i:Nat)(fs as:List Tr),(Bd i fs as).length<=as.length+Aj as
 | i,[],as=>by rw [Bd];simp
 | i,_::_,[]=>by rw [Bd];simp
 | i,f::fs,a::as=>by
  rw [Gn,O2,Hg,O5,Aj]
  have h1:=Za9 f a
  have h2:=M3 (i+1) fs as
  omega
noncomputable abbrev Mt:=List Nat×Tr×Tr
noncomputable def B4 (pl:List Nat):Nat->List Tr->List Tr->List Mt
 | _,[],_=>[]
 | i,f::fs,as=>match as with
  | []=>[]
  | a::as=>(pl++[i],f,a)::B4 pl (i+1) fs as
open Classical in
mutual
noncomputable def met:List Nat->Tr->Tr->List Mt
 | pl,.mk w n fs,a=>(pl,.mk w n fs,a)::(if w=a.wd/\n=a.note then Bx pl 0 fs a.ps else [])
noncomputable def Bx:List Nat->Nat->List Tr->List Tr->List Mt
 | _,_,[],_=>[]
 | pl,i,f::fs,as=>match as with
  | []=>[]
  | a::as=>Bx pl (i+1) fs as++met (pl++[i]) f a
end
open Classical in
theorem G9 (pl:List Nat)(f a:Tr):met pl f a=(pl,f,a)::(if C9 f a then Bx pl 0 f.ps a.ps else []):=by
 cases f with
 | mk w n fs =>
  rw [met]
  by_cases s:C9 (.mk w n fs) a
  ·rw [if_pos s,if_pos (show w=a.wd/\n=a.note from s)];rfl
  ·rw [if_neg s,if_neg (show ¬ (w=a.wd/\n=a.note) from s)]
theorem Ka (pl:List Nat)(i:Nat)(f a:Tr)(fs as:List Tr):Bx pl i (f::fs) (a::as)=Bx pl (i+1) fs as++met (pl++[i]) f a:=by rw [Bx]
theorem L1 (pl:List Nat)(i:Nat)(f a:Tr)(fs as:List Tr):B4 pl i (f::fs) (a::as)=(pl++[i],f,a)::B4 pl (i+1) fs as:=rfl
noncomputable def Cj (st:List Mt):List Mt:=st.reverse.flatMap fun x=>met x.1 x.2.1 x.2.2
theorem Zez (pl:List Nat):∀(i:Nat)(fs as:List Tr),((B4 pl i fs as).reverse).flatMap (fun x=>met x.1 x.2.1 x.2.2)=Bx pl i fs as
 | i,[],as=>by rw [B4,Bx];rfl
 | i,_::_,[]=>by rw [B4,Bx];rfl
 | i,f::fs,a::as=>by
  rw [L1,List.reverse_cons,Ry,Zez pl (i+1) fs as,Ka,Tv]
open Classical in
theorem Zeq (st:List Mt)(x:Mt):Cj (st++[x])=x::Cj (st++(if C9 x.2.1 x.2.2 then B4 x.1 0 x.2.1.ps x.2.2.ps else [])):=by
 unfold Cj
 rw [Sk,Sk,Ry,Ry,Vd,Tv,G9]
 split
 ·rw [Zez];rfl
 ·rfl
mutual
theorem Mc:∀(pl:List Nat)(f a:Tr),(met pl f a).length<=f.size
 | pl,.mk w n fs,a=>by
  rw [G9,O5,Tr.size]
  split
  ·have:=Zd5 pl 0 fs a.ps
   show (Bx pl 0 fs a.ps).length+1<=_
   omega
  ·simp
theorem Zd5:∀(pl:List Nat)(i:Nat)(fs as:List Tr),(Bx pl i fs as).length<=Aj fs
 | pl,i,[],as=>by rw [Bx];simp
 | pl,i,f::fs,[]=>by rw [Bx];simp
 | pl,i,f::fs,a::as=>by
  rw [Ka,O2,Aj]
  have h1:=Zd5 pl (i+1) fs as
  have h2:=Mc (pl++[i]) f a
  omega
end
theorem Mi (pl:List Nat):∀(i:Nat)(fs as:List Tr)(j:Nat)(f a:Tr),fs[j]?=some f->as[j]?=some a->(B4 pl i fs as)[j]?=some (pl++[i+j],f,a)
 | i,[],as,j,f,a,h,_=>by simp at h
 | i,_::_,[],j,f,a,_,h=>by simp at h
 | i,f::fs,a::as,0,f',a',h1,h2=>by
  have h1:f=f':=by simpa using h1
  have h2:a=a':=by simpa using h2
  subst h1 h2
  rfl
 | i,f::fs,a::as,j+1,f',a',h1,h2=>by
  rw [L1,Rt,Mi pl (i+1) fs as j f' a' (by simpa using h1) (by simpa using h2),show i+1+j=i+(j+1) by omega]
theorem Zcb (pl:List Nat):∀(i:Nat)(fs as:List Tr),fs.length=as.length->(B4 pl i fs as).length=as.length
 | i,[],[],_=>rfl
 | i,[],_::_,h=>by cases h
 | i,_::_,[],h=>by cases h
 | i,f::fs,a::as,h=>by rw [L1,O5,Zcb pl (i+1) fs as (by simpa using h),O5]
inductive Cl:List Mt->Prop where
 | nil:Cl []
 | cons {x:Mt} {s:List Mt} (h:C9 x.2.1 x.2.2->∀ y∈B4 x.1 0 x.2.1.ps x.2.2.ps,y∈s) (c:Cl s):Cl (x::s)
theorem Cl.app {a b:List Mt}(h:Cl a)(h':Cl b):Cl (a++b):=by
 induction h with
 | nil=>exact h'
 | cons h _ ih=>exact .cons (fun s y hy=>Si _ (h s y hy)) ih
theorem Ze0 (pl:List Nat)(f a:Tr):(pl,f,a)∈met pl f a:=by rw [G9];exact Pr
theorem Ze6 (pl:List Nat):∀(i:Nat)(fs as:List Tr),∀ y∈B4 pl i fs as,y∈Bx pl i fs as
 | i,[],as,y,h=>by rw [B4] at h;cases h
 | i,_::_,[],y,h=>by rw [B4] at h;cases h
 | i,f::fs,a::as,y,h=>by
  rw [L1] at h
  rw [Ka]
  rcases Oy.mp h with rfl | h
  ·exact Qn _ (Ze0 _ _ _)
  ·exact Si _ (Ze6 pl (i+1) fs as y h)
mutual
theorem Zet:∀(pl:List Nat)(f a:Tr),Cl (met pl f a)
 | pl,.mk w n fs,a=>by
  rw [G9]
  refine .cons (fun s y hy=>?_) ?_
  ·rw [if_pos s];exact Ze6 pl 0 _ _ y hy
  ·split
   ·exact Zb2 pl 0 fs a.ps
   ·exact .nil
theorem Zb2:∀(pl:List Nat)(i:Nat)(fs as:List Tr),Cl (Bx pl i fs as)
 | pl,i,[],as=>by rw [Bx];exact .nil
 | pl,i,f::fs,[]=>by rw [Bx];exact .nil
 | pl,i,f::fs,a::as=>by
  rw [Ka]
  exact (Zb2 pl (i+1) fs as).app (Zet (pl++[i]) f a)
end
theorem Cl.tail {x:Mt}:∀{p s:List Mt},Cl (p++x::s)->C9 x.2.1 x.2.2->∀ y∈B4 x.1 0 x.2.1.ps x.2.2.ps,y∈s
 | [],s,h=>by cases h with | cons h _=>exact h
 | _::p,s,h=>by cases h with | cons _ h=>exact Cl.tail (p:=p) h
mutual
theorem Zbg:∀(pl:List Nat)(f a:Tr),TrOk f->TrOk a->∀ x∈met pl f a,∃ q,x.1=pl++q/\At f q x.2.1/\At a q x.2.2
 | pl,.mk w n fs,a,hf,ha,x,hx=>by
  rw [G9] at hx
  rcases Oy.mp hx with rfl | hx
  ·exact ⟨[],by simp,.nil _,.nil _⟩
  ·split at hx
   ·rename_i s
    obtain ⟨j,q,f',a',e1,e2,e3,e4,e5⟩:=Zfs pl 0 fs a.ps (Hj hf) (Hj ha) x hx
    refine ⟨j::q,by rw [e3,Ta],.cons e1 e4,?_⟩
    rw [Zec a]
    exact .cons e2 e5
   ·cases hx
theorem Zfs:∀(pl:List Nat)(i:Nat)(fs as:List Tr),(∀ x∈fs,TrOk x)->(∀ x∈as,TrOk x)->∀ x∈Bx pl i fs as,∃ j q f a,fs[j]?=some f/\as[j]?=some a/\x.1=pl++(i+j)::q/\At f q x.2.1/\At a q x.2.2
 | pl,i,[],as,_,_,x,hx=>by rw [Bx] at hx;cases hx
 | pl,i,f::fs,[],_,_,x,hx=>by rw [Bx] at hx;cases hx
 | pl,i,f::fs,a::as,h1,h2,x,hx=>by
  rw [Ka] at hx
  rcases P9.mp hx with hx | hx
  ·obtain ⟨j,q,f',a',e1,e2,e3,e4,e5⟩:=Zfs pl (i+1) fs as (fun x hx=>h1 x (Pe _ hx)) (fun x hx=>h2 x (Pe _ hx)) x hx
   exact ⟨j+1,q,f',a',by simpa using e1,by simpa using e2,by rw [e3,show i+1+j=i+(j+1) by omega],e4,e5⟩
  ·obtain ⟨q,e1,e2,e3⟩:=Zbg (pl++[i]) f a (h1 f Pr) (h2 a Pr) x hx
   exact ⟨0,q,f,a,rfl,rfl,by rw [e1];simp,e2,e3⟩
end
end K27
namespace K27
open PySem L2 K10 K19
section
variable {P:Program}{w:World}{K:Om}{mg:Str->Option Value}{base:Heap}
noncomputable def SameD (H H':Hp):Prop:=∀ b o,H b=some o->(∀ kvs,o≠.dT kvs)->H' b=some o
theorem _root_.L2.Same.d {H H':Hp}(e:Same H H'):SameD H H':=fun b o h _=>e b o h
theorem SameD.refl (H:Hp):SameD H H:=fun _ _ h _=>h
theorem SameD.trans {H H1 H2:Hp}(a:SameD H H1)(b:SameD H1 H2):SameD H H2:=fun c o h n=>b c o (a c o h n) n
theorem SameD.t {H H':Hp}(e:SameD H H'):SameT H H':=fun b=>⟨fun xs h=>e b _ h (fun _ z=>nomatch z),fun o u h=>e b _ h (fun _ z=>nomatch z)⟩
theorem SameD.set {H:Hp}{d:Addr}{kvs:List (List Au×V)}{o:HO}(h:H d=some (.dT kvs)):SameD H (upd H d o):=fun b o' e n=>by
 have hb:b≠d:=fun z=>by rw [z,h] at e;exact n kvs (Ox e).symm
 rw [Ai hb];exact e
noncomputable def SameI (H H':Hp):Prop:=∀ b o,H b=some o->(∀ kvs,o≠.dT kvs)->(∀ xs,o≠.lst xs)->H' b=some o
theorem SameD.i {H H':Hp}(e:SameD H H'):SameI H H':=fun b o h n _=>e b o h n
theorem _root_.L2.Same.i {H H':Hp}(e:Same H H'):SameI H H':=e.d.i
theorem SameI.trans {H H1 H2:Hp}(a:SameI H H1)(b:SameI H1 H2):SameI H H2:=fun c o h n m=>b c o (a c o h n m) n m
theorem SameI.t {H H':Hp}(e:SameI H H'):SameT H H':=fun b=>⟨fun xs h=>e b _ h (fun _ z=>nomatch z) (fun _ z=>nomatch z),fun o u h=>e b _ h (fun _ z=>nomatch z) (fun _ z=>nomatch z)⟩
theorem SameI.set {H:Hp}{d:Addr}{ys:List V}{o:HO}(h:H d=some (.lst ys)):SameI H (upd H d o):=fun b o' e _ n=>by
 have hb:b≠d:=fun z=>by rw [z,h] at e;exact n ys (Ox e).symm
 rw [Ai hb];exact e
structure Cs where
 p:Addr
 c:Addr
noncomputable def Op.cls (c:Cs):Op->Addr
 | .put _=>c.p
 | .cut=>c.c
noncomputable def OpAt (K:Om)(c:Cs)(H:Hp)(x:V):Op->Prop
 | .put t=>∃ a dx v,x=.ref a/\H a=some (.ins c.p dx [("form",v)])/\TrAt K H v t
 | .cut=>∃ a dx,x=.ref a/\H a=some (.ins c.c dx [])
theorem OpAt.same {K:Om}{c:Cs}{H H':Hp}{x:V}{o:Op}(h:OpAt K c H x o)(e:SameI H H'):OpAt K c H' x o:=by
 cases o with
 | put t =>
  obtain ⟨a,dx,v,h1,h2,h3⟩:=h
  exact ⟨a,dx,v,h1,e _ _ h2 (fun _ z=>nomatch z) (fun _ z=>nomatch z),h3.sameT e.t⟩
 | cut =>
  obtain ⟨a,dx,h1,h2⟩:=h
  exact ⟨a,dx,h1,e _ _ h2 (fun _ z=>nomatch z) (fun _ z=>nomatch z)⟩
theorem OpAt.ins {K:Om}{c:Cs}{H:Hp}{x:V}{o:Op}(h:OpAt K c H x o):∃ a dx fs,x=.ref a/\H a=some (.ins (o.cls c) dx fs)/\fs.lookup ("done" : Str)=none:=by
 cases o with
 | put t =>
  obtain ⟨a,dx,v,h1,h2,h3⟩:=h
  exact ⟨a,dx,_,h1,h2,rfl⟩
 | cut =>
  obtain ⟨a,dx,h1,h2⟩:=h
  exact ⟨a,dx,_,h1,h2,rfl⟩
noncomputable def DoAt (K:Om)(c:Cs)(H:Hp)(v:V)(x:List Nat×Op):Prop:=∃(a q:Addr)(y:V),v=.ref a/\SqT K H a [.ref q,y]/\SqT K H q (Aw x.1)/\OpAt K c H y x.2
theorem DoAt.same {K:Om}{c:Cs}{H H':Hp}(e:SameI H H')(v:V)(x:List Nat×Op)(h:DoAt K c H v x):DoAt K c H' v x:=by
 obtain ⟨a,q,y,h1,h2,h3,h4⟩:=h
 exact ⟨a,q,y,h1,e.t.tup h2,e.t.tup h3,h4.same e⟩
noncomputable def DosAt (K:Om)(c:Cs)(H:Hp)(p:Addr)(r:Rw):Prop:=∃ vs,H p=some (.lst vs)/\Al (DoAt K c H) vs r
theorem DosAt.same {K:Om}{c:Cs}{H H':Hp}{p:Addr}{r:Rw}(e:SameD H H')(h:DosAt K c H p r):DosAt K c H' p r:=by
 obtain ⟨vs,h1,h2⟩:=h
 exact ⟨vs,e _ _ h1 (fun _ z=>nomatch z),h2.mono (DoAt.same e.i)⟩
structure Own (K:Om)(mg:Str->Option Value)(x:Str)(C:Addr):Prop where
 cl:Cls K C
 at_:mg x=some (.ref C)
 nf:NoAttr K C "form"
 ca:Pc K (.ref C) "__class__" = some (some (.builtin "object.__class__"))
 cg:Vp K (.builtin "object.__class__") "__get__" = some (some (.builtin "getset_descriptor.__get__"))
 ct:V1 K (.builtin "object.__class__")=some true
 cm:Uu K C (.type "object")=some true
structure Kl (K:Om)(mg:Str->Option Value)(c:Cs):Prop where
 op:Own K mg "Put" c.p
 oc:Own K mg "Cut" c.c
 ne:c.p≠c.c
 nk:Pg K (.ref c.c) (.ref c.p)=some false
theorem Own.ty {K:Om}{mg:Str->Option Value}{x:Str}{C:Addr}(o:Own K mg x C){H:Hp}{a dx:Addr}{fs:List (Str×V)}(e:H a=some (.ins C dx fs)):El K H (.ref a) (.ref C):=.ty (.ins e o.cl o.ca o.cg o.ct o.cm)
theorem Zdy {K:Om}{C:Addr}:Pg K (.ref C) (.ref C)=some true:=by unfold Pg;rw [if_pos (by simp)]
theorem Kl.ty {K:Om}{mg:Str->Option Value}{c:Cs}(k:Kl K mg c){H:Hp}{x:V}{o:Op}(h:OpAt K c H x o):El K H x (.ref (o.cls c)):=by
 cases o with
 | put t =>
  obtain ⟨a,dx,v,rfl,h2,h3⟩:=h
  exact k.op.ty h2
 | cut =>
  obtain ⟨a,dx,rfl,h2⟩:=h
  exact k.oc.ty h2
theorem F3 {K:Om}{H:Hp}{v:V}{t:Tr}(h:TrAt K H v t):∃(a p:Addr)(n:V),v=.ref a/\SqT K H a [.str t.wd,n,.ref p]:=by
 cases h with
 | mk q hn qp l hs=>exact ⟨_,_,_,rfl,q⟩
structure K3 (K:Om)(ag:Addr):Prop where
 at_:∀ H,TrAt K H (.ref ag) gapT
noncomputable def SameB (a:Addr)(H H':Hp):Prop:=∀ b o,b≠a->H b=some o->H' b=some o
theorem SameB.made {x dx C:Addr}{fs:List (Str×V)}{H H':Hp}(e:SameB x (upd (upd H dx (.own x)) x (.ins C dx fs)) H')(h1:H x=none)(h2:H dx=none):Same H H':=fun b o h=>by
 have hx:b≠x:=fun z=>by rw [z,h1] at h;cases h
 have hd:b≠dx:=fun z=>by rw [z,h2] at h;cases h
 exact e b o hx (by rw [Ai hx,Ai hd];exact h)
theorem _root_.L2.Same.made {H:Hp}{x dx C:Addr}{fs:List (Str×V)}(h1:H x=none)(h2:H dx=none)(h3:dx≠x):Same H (upd (upd H dx (.own x)) x (.ins C dx fs)) :=
 (Same.upd h2).trans (Same.upd (by rw [Ai h3.symm];exact h1))
theorem Zni {H:Hp}{a C dx:Addr}{fs:List (Str×V)}(ha:H a=some (.ins C dx fs))(o:HO):SameT H (upd H a o):=fun b=>⟨fun xs h=>by
 have:b≠a:=fun z=>by rw [z,ha] at h;cases h
 rw [Ai this];exact h,fun o u h=>by
 have:b≠a:=fun z=>by rw [z,ha] at h;cases h
 rw [Ai this];exact h⟩
mutual
noncomputable def trD:Tr->Dt
 | .mk w n ps=>.tup [.flat (.str w),n,.tup (Es ps)]
noncomputable def Es:List Tr->List Dt
 | []=>[]
 | t::r=>trD t::Es r
end
theorem Zef:∀ ts:List Tr,(Es ts).length=ts.length
 | []=>by rw [Es];rfl
 | t::r=>by rw [Es,O5,Zef r,O5]
theorem Ze4:∀(ts:List Tr)(j:Nat),(Es ts)[j]?=(ts[j]?).map trD
 | [],j=>by rw [Es];simp
 | t::r,0=>by rw [Es];simp
 | t::r,j+1=>by rw [Es,Rt,Rt,Ze4 r j]
theorem Fd {K:Om}{H:Hp}{v:V}{t:Tr}(h:TrAt K H v t):∀{n:Nat},2 * Bm t<=n->IsD K H n v (trD t):=by
 induction h with
 | @mk a p wd nv nt vs ts q hn qp l hc ih =>
  intro n hd
  rw [Bm] at hd
  obtain ⟨m,rfl⟩:∃ m,n=m+1+1:=⟨n - 2,by omega⟩
  rw [trD]
  refine .tup q rfl fun j v d h1 h2=>?_
  match j,h1,h2 with
  | 0,h1,h2=>cases h1;cases h2;exact .flat rfl
  | 1,h1,h2=>cases h1;cases h2;exact hn.d.up (by omega)
  | 2,h1,h2 =>
   cases h1;cases h2
   refine .tup qp (by rw [Zef];exact l) fun j v d h1 h2=>?_
   rw [Ze4] at h2
   obtain ⟨t,ht,rfl⟩:=Option.map_eq_some_iff.mp h2
   have:=Zam ht
   exact ih j v t h1 ht (by omega)
end
section
variable {P:Program}{w:World}{K:Om}{mg:Str->Option Value}{base:Heap}
noncomputable def Zgm (K:Om):Sp:=fun vs H Q _=>∃(v:V)(t:Tr)(k:Int),vs=[v,.int k]/\TrAt K H v t/\Q (.bl (decide (0<=k/\k < (t.ps.length:Int)))) H
theorem Zm0:Ay ["form", "number"] ["form", "number"] (An Iw):=by walk_at "sc"
theorem Zpl {f:Addr}{fd:FuncData}(F:Fun K "has_part" "has_part" Iw f fd)(T:Txt K mg)(C_is_whole:Av P w K mg base 1 "is_whole" ["thing"] (Za5 K)):Aq P w K mg base Ar 2 f fd ["form", "number"] (Zgm K):=by
 refine F.okq Zm0 (fun vs H Q E h=>?_) (fun cdv A outer s H vs Q E hr h=>?_)
 ·obtain ⟨v,t,k,rfl,_⟩:=h
  rfl
 ·obtain ⟨v,t,k,rfl,ht,q⟩:=h
  refine ⟨_,Af (Ak (Df (As C_is_whole hr.m (Aa (qv 1) Ab)) (Dw (Mb Dm Ja Ac (qv 1) (A8 (Bt K) (by rfl) T.len (by decide +kernel) (Aa (Am K (qv 0) Ac) Ab)))))),?_⟩
  cases ht with
  | @mk b pp wd nv nd us ps qb hn qp l hch =>
  have q:Q (.bl (decide (0<=k/\k < (ps.length:Int)))) H:=q
  walk_at "r"
  refine ⟨_,rfl,⟨_,.int k⟩,?_⟩
  show ∃ b,V.bl true=V.bl b/\_
  walk_at "r"
  refine A1 (fun c=>?_) (fun c=>?_)
  ·have c:0<=k:=by simpa using c
   walk_at "r"
   refine A3 qb rfl ?_
   walk_at "r"
   refine Ek qp ?_
   walk_at "r"
   have e:decide (k < (us.length:Int))=decide (0<=k/\k < (ps.length:Int)):=by rw [l];exact decide_eq_decide.mpr ⟨fun h=>⟨c,h⟩,fun h=>h.2⟩
   rw [e]
   exact q
  ·have c:¬ 0<=k:=fun h=>c (by simpa using h)
   have e:decide (0<=k/\k < (ps.length:Int))=false:=decide_eq_false fun h=>c h.1
   rw [e] at q
   walk_at "r"
   exact q
theorem Zfv {α:Type}{xs:List α}{x:α}(h:xs[xs.length - 1]?=some x):Bv xs (-1)=some x:=by
 have hl:=(O3.mp h).1
 unfold Bv Ds
 rw [if_neg (by omega),if_pos (by omega)]
 have e:((-1:Int)+(xs.length:Int)).toNat=xs.length - 1:=by omega
 simpa [e] using h
theorem Zft {α:Type}{xs:List α}{i:Int}{x:α}(j:Nat)(hj:(j:Int)=i)(h:xs[j]?=some x):Bv xs i=some x:=by
 have hl:=(O3.mp h).1
 subst hj
 unfold Bv Ds
 rw [if_pos (by omega),if_pos (by omega)]
 simpa using h
theorem K0 {pl:List Nat}{i:Nat}{v:V}(h:(Aw pl)[i]?=some v):∃ k,v=.int (k:Nat)/\pl[i]?=some k:=by
 unfold Aw at h
 rw [Rc] at h
 cases e:pl[i]? with
 | none=>rw [e] at h;cases h
 | some x=>rw [e] at h;exact ⟨x,(Ox h).symm,rfl⟩
theorem E9 (pl:List Nat):(Aw pl).length=pl.length:=by unfold Aw;simp
noncomputable def M9 (K:Om):Sp:=fun vs H Q _=>∃(v:V)(t:Tr)(p:Addr)(pl:List Nat),vs=[v,.ref p]/\TrAt K H v t/\SqT K H p (Aw pl)/\Sub t pl/\pl.length<=1000 /\
 ∀(q:Addr)(ws:List V)(H':Hp),H q=none->Same H H'->H' q=some (.lst ws)->Al (TrAt K H') ws (path t pl)->Q (.ref q) H'
theorem sc_forms_down_to:Ay ["tree", "place", "passed", "number"] ["tree", "place"] (An Jl):=by walk_at "sc"
theorem Zkm {f:Addr}{fd:FuncData}(F:Fun K "forms_down_to" "forms_down_to" Jl f fd)(T:Txt K mg)(C_has_part:Av P w K mg base 2 "has_part" ["form", "number"] (Zgm K)):Aq P w K mg base Ar 3 f fd ["tree", "place"] (M9 K):=by
 refine F.okq sc_forms_down_to (fun vs H Q E h=>?_) (fun cdv A outer s H vs Q E hr h=>?_)
 ·obtain ⟨v,t,p,pl,rfl,_⟩:=h
  rfl
 ·obtain ⟨v,t,p,pl,rfl,ht,hp,hs,hl,q⟩:=h
  refine ⟨_,Ae (Ao 2 sc_forms_down_to (Br (Aa (qv 0) Ab)))
   (Ae (B1 Pb rfl (Dd K (qv 1)) (Ax (i:=3) sc_forms_down_to.nd rfl (Or.inl rfl)) (Ae (A0 (B8 (B9 (As C_has_part hr.m (Aa (Am K (qv 2) (Ii Ia Ac)) (Aa (qv 3) Ab))))) (Af Gj) A4)
   (Af (C1 (Cu K Pk Qg Qh C8 (qv 2) (Aa (Am K (Am K (Am K (qv 2) (Ii Ia Ac)) Ac) (qv 3)) Ab))))))
   (Af (Ak (qv 2)))),?_⟩
  have bg:=big
  walk_at "r"
  refine ⟨Dn,fun q0 hq0=>?_⟩
  obtain ⟨H1,s1,e1,z9⟩:=newQ hq0 (.lst [v])
  rw [z9]
  walk_at "r"
  refine .inr (.inl ⟨p,rfl,⟨_,s1.tup hp⟩,?_⟩)
  have p0:(path t pl).take 1=[t]:=by
   have:=Zak t pl
   cases e:path t pl with
   | nil=>rw [e] at this;cases this
   | cons a r =>
    rw [e] at this
    have h:a=t:=by simpa using this
    rw [h]
    rfl
  refine Nc (K:=K) (a:=p) (xs:=Aw pl) (fun i σ' H'=>∃ w3 ws,σ'=[some v,some (.ref p),some (.ref q0),w3]/\H' q0=some (.lst ws)/\Al (TrAt K H') ws ((path t pl).take (i+1))/\Same H H') ⟨none,[v],rfl,e1,by rw [p0];exact Al.nil.snoc (ht.same s1),s1⟩ ?_ ?_ ?_
  ·rintro i σ' H' _ ⟨_,_,_,_,_,sm⟩
   exact sm.tup hp
  ·rintro i x σ' H' hx ⟨w3,ws,rfl,e2,al,sm⟩
   obtain ⟨k,rfl,hk⟩:=K0 hx
   obtain ⟨w',n',ps,u,a1,a2,a3⟩:=Zaw hs i k hk
   have hi:=(O3.mp hk).1
   have hpl:=K8 hs
   have hwl:ws.length=i+1:=by rw [al.1,Ps];omega
   have hx1:((path t pl).take (i+1))[i]?=some (.mk w' n' ps):=by rw [List.getElem?_take,if_pos (by omega)];exact a1
   obtain ⟨vi,hvi,hti⟩:=al.get' hx1
   have hlast:Bv ws (-1)=some vi:=Zfv (by rw [hwl];exact hvi)
   cases hti with
   | @mk b pp _ nv _ us _ qb hn qp l hch =>
   have hku:k < us.length:=by rw [l];exact (O3.mp a2).1
   walk_at "r"
   refine B5 (SqL.of e2) hlast ?_
   walk_at "r"
   refine ⟨_,_,_,rfl,.mk qb hn qp l hch,?_⟩
   rw [decide_eq_true (show (0:Int)<=(k:Nat)/\((k:Nat):Int) < (((Tr.mk w' n' ps).ps.length:Nat):Int) from ⟨by omega,by show ((k:Nat):Int) < ((ps.length:Nat):Int);omega⟩)]
   walk_at "r"
   refine B2 (SqL.of e2) ?_
   walk_at "r"
   refine B5 (SqL.of e2) hlast ?_
   walk_at "r"
   refine A3 qb rfl ?_
   walk_at "r"
   refine A3 qp (Zft k rfl (Oo hku)) ?_
   walk_at "r"
   refine Dc e2 (by omega) ?_
   walk_at "r"
   have t3:SameT H' (upd H' q0 (.lst (ws++[us[k]]))):=SameT.set e2
   refine ⟨_,ws++[us[k]],rfl,Ad,?_,sm.over hq0⟩
   have e3:(path t pl).take (i+1+1)=(path t pl).take (i+1)++[u]:=by rw [Sr,a3];rfl
   rw [e3]
   exact (al.mono fun _ _ z=>z.sameT t3).snoc ((hch k _ u (Oo hku) a2).sameT t3)
  ·rintro σ' H' ⟨w3,ws,rfl,e2,al,sm⟩
   rw [E9,Qi (by rw [K8 hs];omega)] at al
   walk_at "r"
   exact q q0 ws H' hq0 sm e2 al
noncomputable def Zgl (K:Om):Sp:=fun vs H Q _=>∃(v:V)(t:Tr)(p:Addr)(pl:List Nat)(tx:Tr),vs=[v,.ref p]/\TrAt K H v t/\SqT K H p (Aw pl)/\Sub t pl/\pl.length<=1000/\(path t pl)[pl.length]?=some tx /\
 ∀(u:V)(H':Hp),Same H H'->TrAt K H' u tx->Q u H'
theorem Zgw:Ay ["tree", "place"] ["tree", "place"] (An Iu):=by walk_at "sc"
theorem Zld {f:Addr}{fd:FuncData}(F:Fun K "form_at" "form_at" Iu f fd)(T:Txt K mg)(C_forms_down_to:Av P w K mg base 3 "forms_down_to" ["tree", "place"] (M9 K)):Aq P w K mg base Ar 4 f fd ["tree", "place"] (Zgl K):=by
 refine F.okq Zgw (fun vs H Q E h=>?_) (fun cdv A outer s H vs Q E hr h=>?_)
 ·obtain ⟨v,t,p,pl,tx,rfl,_⟩:=h
  rfl
 ·obtain ⟨v,t,p,pl,tx,rfl,ht,hp,hs,hl,hx,q⟩:=h
  refine ⟨_,Af (Ak (Am K (As C_forms_down_to hr.m (Aa (qv 0) (Aa (qv 1) Ab))) (Ii Ia Ac))),?_⟩
  have hpl:=K8 hs
  walk_at "r"
  refine ⟨v,t,p,pl,rfl,ht,hp,hs,hl,fun q1 ws H1 hq1 s1 e1 al=>?_⟩
  obtain ⟨u,hu,hat⟩:=al.get' hx
  have hwl:ws.length - 1=pl.length:=by rw [al.1,hpl];omega
  walk_at "r"
  refine B5 (SqL.of e1) (Zfv (by rw [hwl];exact hu)) ?_
  exact q u H1 s1 hat
noncomputable def Zcu (K:Om):Sp:=fun vs H Q _=>∃(v u:V)(w:Str)(n:Dt)(ps:List Tr)(tu:Tr)(k:Nat),vs=[v,.int (k:Nat),u]/\TrAt K H v (.mk w n ps)/\TrAt K H u tu/\k < ps.length/\ps.length<=1000 /\
 ∀(v':V)(H':Hp),Same H H'->TrAt K H' v' (.mk w n (ps.set k tu))->Q v' H'
theorem Zbm {α:Type}{xs:List α}{k:Nat}{x:α}(h:k < xs.length):xs.take k++[x]++xs.drop (k+1)=xs.set k x:=by
 rw [List.set_eq_take_append_cons_drop,if_pos h,P8]
 rfl
theorem Zd1:Ay ["form", "number", "part", "parts"] ["form", "number", "part"] (An Ie):=by walk_at "sc"
theorem Zk3 {f:Addr}{fd:FuncData}(F:Fun K "with_part" "with_part" Ie f fd)(T:Txt K mg):Aq P w K mg base Ar 1 f fd ["form", "number", "part"] (Zcu K):=by
 refine F.okq Zd1 (fun vs H Q E h=>?_) (fun cdv A outer s H vs Q E hr h=>?_)
 ·obtain ⟨v,u,w,n,ps,tu,k,rfl,_⟩:=h
  rfl
 ·obtain ⟨v,u,w,n,ps,tu,k,rfl,ht,hu,hk,hl,q⟩:=h
  refine ⟨_,Ae (Ao 3 Zd1 (Am K (qv 0) Ac))
   (Af (Ak (Ap (Aa (Am K (qv 0) Ac) (Aa (Am K (qv 0) Ac) (Aa (Ag (Bf K) (Ag (Bf K) (Ee (Ht K) (qv 3) (Ga) (Db (qv 1))) (Ap (Aa (qv 2) Ab))) (Ee (Ht K) (qv 3) (Db (Ag (Bf K) (qv 1) Ac)) (Ga))) Ab)))))),?_⟩
  have bg:=big
  cases ht with
  | @mk b pp _ nv _ us _ qb hn qp l hch =>
  walk_at "r"
  refine A3 qb rfl ?_
  walk_at "r"
  refine A3 qb rfl ?_
  walk_at "r"
  refine A3 qb rfl ?_
  walk_at "r"
  refine Jf qp fun r1 H1 s1 q1=>?_
  rw [Mg] at q1
  walk_at "r"
  refine ⟨Dn,fun p2 h2=>?_⟩
  have s2:=Same.upd (o:=.tup [u]) h2
  refine Gy (s2.tup q1) (SqT.of Ad) (by rw [Ps];show _+1<=sizeLine;omega) fun r3 H3 s3 q3=>?_
  have s13:=s1.trans (s2.trans s3)
  walk_at "r"
  refine Jf (s13.tup qp) fun r4 H4 s4 q4=>?_
  have ek:(k:Int)+1=((k+1:Nat):Int):=by omega
  rw [ek,Zej] at q4
  refine Gy (s4.tup q3) q4 (by rw [O2,Ps,R1];show _+1+_<=sizeLine;omega) fun r5 H5 s5 q5=>?_
  rw [Zbm (by omega)] at q5
  walk_at "r"
  refine ⟨Bj,fun p6 h6=>?_⟩
  have s6:=Same.upd (o:=.tup [.str w,nv,.ref r5]) h6
  have sm:=s13.trans (s4.trans (s5.trans s6))
  refine q (.ref p6) _ sm (.mk (SqT.of Ad) (hn.same sm.t) (s6.tup q5) (by rw [R4,R4];exact l) fun j x y g1 g2=>?_)
  by_cases e:k=j
  ·subst e
   rw [Sg (by omega)] at g1 g2
   cases g1
   cases g2
   exact hu.same sm
  ·rw [T2 e] at g1 g2
   exact (hch j x y g1 g2).same sm
noncomputable def Zb1 (K:Om):Sp:=fun vs H Q _=>∃(v u:V)(t tu:Tr)(p:Addr)(pl:List Nat),vs=[v,.ref p,u]/\TrAt K H v t/\SqT K H p (Aw pl)/\Sub t pl/\pl.length<=1000/\t.size<=1000/\TrAt K H u tu /\
 ∀(v':V)(H':Hp),Same H H'->TrAt K H' v' (Bh t pl tu)->Q v' H'
theorem Zof {t:Tr}{pl:List Nat}(s:Sub t pl):∀ u∈path t pl,u.size<=t.size:=by
 induction s with
 | nil t=>intro u hu;cases t;rw [path,Qp] at hu;rw [hu];exact Os _
 | cons hj _ ih =>
  intro u hu
  rw [Lb hj] at hu
  rcases Oy.mp hu with rfl | hu
  ·exact Os _
  ·have:=ih u hu
   have:=J2 hj
   rw [Tr.size]
   omega
theorem sc_with_at:Ay ["tree", "place", "form", "made", "number", "above"] ["tree", "place", "form"] (An Hr):=by walk_at "sc"
theorem Zks {f:Addr}{fd:FuncData}(F:Fun K "with_at" "with_at" Hr f fd)(T:Txt K mg)(C_forms_down_to:Av P w K mg base 3 "forms_down_to" ["tree", "place"] (M9 K))(C_with_part:Av P w K mg base 1 "with_part" ["form", "number", "part"] (Zcu K)):Aq P w K mg base Ar 4 f fd ["tree", "place", "form"] (Zb1 K):=by
 refine F.okq sc_with_at (fun vs H Q E h=>?_) (fun cdv A outer s H vs Q E hr h=>?_)
 ·obtain ⟨v,u,t,tu,p,pl,rfl,_⟩:=h
  rfl
 ·obtain ⟨v,u,t,tu,p,pl,rfl,ht,hp,hs,hl,hz,hu,q⟩:=h
  refine ⟨_,Ae (Ao 3 sc_with_at (qv 2))
   (Ae (B1 Pb rfl (La K rfl T.reversed (Aa (Zn0 K (by rfl) T.list (by rfl) T.zip (Aa (qv 1) (Aa (As C_forms_down_to hr.m (Aa (qv 0) (Aa (qv 1) Ab))) Ab))) Ab)) (De K (n:=2) rfl (Be (Ax (i:=4) sc_with_at.nd rfl (Or.inl rfl)) (Be (Ax (i:=5) sc_with_at.nd rfl (Or.inl rfl)) (C5)))) (Af (Ao 3 sc_with_at (As C_with_part hr.m (Aa (qv 5) (Aa (qv 4) (Aa (qv 3) Ab)))))))
   (Af (Ak (qv 3)))),?_⟩
  have hpl:=K8 hs
  walk_at "r"
  refine ⟨v,t,p,pl,rfl,ht,hp,hs,hl,fun q1 ws H1 hq1 s1 e1 al=>?_⟩
  walk_at "r"
  refine ⟨p,q1,_,ws,rfl,s1.tup hp,SqL.of e1,fun S zs H2 hS s2 hzl hpairs hS2=>?_⟩
  have hzl:zs.length=pl.length:=by rw [hzl,E9,al.1,hpl];omega
  walk_at "r"
  refine ⟨S,zs,rfl,SqL.of hS2,?_⟩
  have s12:=s1.trans s2
  have hlastp:(path t pl)[pl.length]?=some ((path t pl)[pl.length]'(by omega)):=Oo (by omega)
  refine Lp (K:=K) (a:=S) (xs:=zs) (fun j σ' H'=>∃ w4 w5 m tm,σ'=[some v,some (.ref p),some u,some m,w4,w5]/\(path t pl)[pl.length - j]?=some tm/\TrAt K H' m (Bh tm (pl.drop (pl.length - j)) tu)/\Same H2 H') ⟨none,none,u,_,rfl,hlastp,by rw [Rp,Qz (Os _),Dr];exact hu.same s12,Same.refl _⟩ ?_ ?_ ?_
  ·rintro j σ' H' _ ⟨_,_,_,_,_,_,_,sm⟩
   exact SqL.of (sm _ _ hS2)
  ·rintro j z σ' H' hj hz1 ⟨w4,w5,m,tm,rfl,htm,hm,sm⟩
   obtain ⟨tt,x,y,rfl,hx,hy,htt⟩:=hpairs _ _ hz1
   obtain ⟨k,rfl,hk⟩:=K0 hx
   obtain ⟨w',n',ps,u',a1,a2,a3⟩:=Zaw hs _ k hk
   rw [hzl] at hk a1 a3 hy hj
   obtain ⟨ty,hty,hat⟩:=al.get hy
   rw [a1] at hty
   cases hty
   have e2:pl.length - 1 - j+1=pl.length - j:=by omega
   rw [e2,htm] at a3
   cases a3
   have hps:ps.length<=1000:=by
    have:=Zof hs _ (Pn a1)
    rw [Tr.size] at this
    have:=Nd ps
    omega
   walk_at "r"
   refine Dj (SqT.of (sm _ _ htt)) rfl ?_
   walk_at "r"
   refine ⟨y,m,w',n',ps,_,k,rfl,hat.same (s2.trans sm),hm,(O3.mp a2).1,hps,fun v' H3 s3 hv'=>?_⟩
   walk_at "r"
   have e3:pl.length - (j+1)=pl.length - 1 - j:=by omega
   refine ⟨_,_,v',_,rfl,by rw [e3];exact a1,?_,sm.trans s3⟩
   rw [e3,Zq3 hs _ k w' n' ps tm hk a1 (by rw [e2];exact htm),e2]
   exact hv'
  ·rintro σ' H' ⟨w4,w5,m,tm,rfl,htm,hm,sm⟩
   rw [hzl,Q7] at htm hm
   rw [Zak] at htm
   cases htm
   walk_at "r"
   exact q m H' (s12.trans sm) hm
noncomputable def Zca (K:Om):Sp:=fun vs H Q _=>∃(v:V)(t:Tr),vs=[v]/\TrAt K H v t/\t.size<=2000/\∀(p:Addr)(rows:List V)(H':Hp),Same H H'->H p=none->H' p=some (.lst rows)->Al (RowT K H') rows (walk [] t)->Q (.ref p) H'
theorem sc_placed_forms:Ay ["tree", "told", "waiting", "pair", "number", "part"] ["tree"] (An Jw):=by walk_at "sc"
noncomputable def PlJ (K:Om)(H:Hp)(v:V)(t:Tr)(pt pw:Addr)(m:Nat)(σ:St)(H':Hp):Prop:=∃(v3 v4 v5:Option V)(tv wv:List V)(dn st:List (List Nat×Tr)),σ=[some v,some (.ref pt),some (.ref pw),v3,v4,v5]/\H' pt=some (.lst tv)/\H' pw=some (.lst wv) /\
 Al (RowT K H') tv dn/\Al (RowT K H') wv st/\dn++Dy st=walk [] t/\m=load st/\Same H H'
theorem Zjp {f:Addr}{fd:FuncData}(F:Fun K "placed_forms" "placed_forms" Jw f fd)(T:Txt K mg):Aq P w K mg base Ar 1 f fd ["tree"] (Zca K):=by
 refine F.okq sc_placed_forms (fun vs H Q E h=>?_) (fun cdv A outer s H vs Q E hr h=>?_)
 ·obtain ⟨v,t,rfl,_⟩:=h
  rfl
 ·obtain ⟨v,t,rfl,ht,hz,q⟩:=h
  refine ⟨_,Ae (Ao 1 sc_placed_forms (Br Ab))
   (Ae (Ao 2 sc_placed_forms (Br (Aa (Ap (Aa (Ap Ab) (Aa (qv 0) Ab))) Ab)))
   (Ae (Zbf Pb (Zd3 K (qv 2) (by intro _;rfl)) (Ae (Ao 3 sc_placed_forms (Lx K Pk T0 T1 K5 (qv 2)))
   (Ae (C1 (Cu K Pk Qg Qh C8 (qv 1) (Aa (qv 3) Ab)))
   (Af (B1 Pb rfl (La K rfl T.reversed (Aa (Zla K (by rfl) T.list (by rfl) T.enumerate (Aa (Am K (Am K (qv 3) Ac) Ac) Ab)) Ab)) (De K (n:=2) rfl (Be (Ax (i:=4) sc_placed_forms.nd rfl (Or.inl rfl)) (Be (Ax (i:=5) sc_placed_forms.nd rfl (Or.inl rfl)) (C5)))) (Af (C1 (Cu K Pk Qg Qh C8 (qv 2) (Aa (Ap (Aa (Ag (Mx K) (Am K (qv 3) Ac) (Ap (Aa (qv 4) Ab))) (Aa (qv 5) Ab))) Ab)))))))))
   (Af (Ak (qv 1))))),?_⟩
  have bg:=big
  walk_at "r"
  refine ⟨B0,fun pt hpt=>?_⟩
  walk_at "r"
  refine ⟨B0,fun p0 hp0=>?_⟩
  walk_at "r"
  refine ⟨B3,fun p1 hp1=>?_⟩
  walk_at "r"
  refine ⟨Dn,fun pw hpw=>?_⟩
  walk_at "r"
  have s0:Same (upd H pt (.lst [])) _:=((Same.upd (o:=.tup []) hp0).put (o:=.tup [.ref p0,v]) hp1).put (o:=.lst [.ref p1]) hpw
  have s1:Same (upd (upd H pt (.lst [])) p0 (.tup [])) _:=(Same.upd (o:=.tup [.ref p0,v]) hp1).put (o:=.lst [.ref p1]) hpw
  have s2:=Same.upd (o:=.lst [.ref p1]) hpw
  have sH:=(Same.upd (o:=.lst []) hpt).trans s0
  have ept:=s0 pt _ Ad
  have epw:upd (upd (upd (upd H pt (.lst [])) p0 (.tup [])) p1 (.tup [.ref p0,v])) pw (.lst [.ref p1]) pw=some (.lst [.ref p1]):=Ad
  have ep0:=s1 p0 _ Ad
  have ep1:=s2 p1 _ Ad
  have npw:pt≠pw:=fun z=>by rw [z] at ept;rw [Ad] at ept;cases ept
  have hpw0:H pw=none:=((Same.upd (o:=.lst []) hpt).trans ((Same.upd (o:=.tup []) hp0).put (o:=.tup [.ref p0,v]) hp1)).free hpw
  refine ⟨PlJ K H v t pt pw,⟨_,none,none,none,[],[.ref p1],[],[([],t)],rfl,ept,epw,.nil,Al.nil.snoc ⟨p1,p0,v,rfl,SqT.of ep1,ep0,ht.same sH⟩,by simp [Dy],rfl,sH⟩,?_⟩
  rintro m σ' H' ⟨v3,v4,v5,tv,wv,dn,st,rfl,et,ew,al1,al2,hw,rfl,sm⟩
  have hdl:dn.length+load st=t.size:=by
   have:=congrArg Tb hw
   rw [O2,Er] at this
   exact this
  have htl:tv.length=dn.length:=al1.1
  walk_at "r"
  refine Zgn (SqL.of ew) ?_
  by_cases hwv:wv=[]
  ·subst hwv
   have hst:st=[]:=Rh al2.1.symm
   subst hst
   refine iteF ?_
   walk_at "r"
   rw [Ze3,Qa] at hw
   rw [hw] at al1
   exact q pt tv H' sm hpt et al1
  obtain ⟨wv',tp,st',x,rfl,rfl,al3,hrow⟩:=al2.last hwv
  have hne:(!(wv'++[tp]).isEmpty)=true:=by simp
  rw [hne]
  refine iteT ?_
  obtain ⟨pl,tx⟩:=x
  have hx:(pl,tx)∈walk [] t:=by rw [<- hw,J4];simp
  have hpl:pl.length<=2000:=by have:=Mv [] t _ hx;simp at this;omega
  have hload:=Zgq st' (pl,tx)
  have hll:=Zb7 (st'++(Bb pl 0 tx.ps).reverse)
  refine ⟨fun σ2 H2=>∃ m',m' < load (st'++[(pl,tx)])/\PlJ K H v t pt pw m' σ2 H2,fun _ _ h=>h,?_⟩
  walk_at "r"
  refine B2 (SqL.of ew) ?_
  refine Lu ew ?_
  have t1:SameT H' (upd H' pw (.lst wv')):=SameT.set ew
  have et2:upd H' pw (.lst wv') pt=some (.lst tv):=by rw [Ai npw];exact et
  walk_at "r"
  refine B2 (SqL.of et2) ?_
  walk_at "r"
  refine Dc et2 (by omega) ?_
  have t2:SameT H' (upd (upd H' pw (.lst wv')) pt (.lst (tv++[tp]))):=t1.trans (SameT.set et2)
  have et3:upd (upd H' pw (.lst wv')) pt (.lst (tv++[tp])) pt=some (.lst (tv++[tp])):=Ad
  have ew3:upd (upd H' pw (.lst wv')) pt (.lst (tv++[tp])) pw=some (.lst wv'):=by rw [Ai npw.symm,Ad]
  have sm3:Same H (upd (upd H' pw (.lst wv')) pt (.lst (tv++[tp]))):=(sm.over hpw0).over hpt
  revert t2 et3 ew3 sm3
  generalize upd (upd H' pw (.lst wv')) pt (.lst (tv++[tp]))=H3
  intro t2 et3 ew3 sm3
  have hrow3:=RowT.same t2 _ _ hrow
  obtain ⟨a,p,u,rfl,qa,qp,hu⟩:=id hrow3
  cases hu with
  | @mk b pp wd nv n vs ts qb hn qpp hl hch =>
  walk_at "r"
  refine A3 qa rfl ?_
  walk_at "r"
  refine A3 qb rfl ?_
  walk_at "r"
  refine ⟨pp,vs,rfl,qpp,fun S ys H4 hS s4 hl4 hpairs hS4=>?_⟩
  walk_at "r"
  refine ⟨S,ys,rfl,SqL.of hS4,?_⟩
  have nSp:pw≠S:=Bc ew3 hS
  have nSt:pt≠S:=Bc et3 hS
  have al4:Al (RowT K H4) wv' st':=al3.mono (RowT.same (t2.trans s4.t))
  have hkl:(Bb pl 0 ts).length=ys.length:=by rw [L7];omega
  refine Lp (K:=K) (a:=S) (xs:=ys) (fun j σ5 H5=>∃(v4 v5:Option V)(wv5:List V),σ5=[some v,some (.ref pt),some (.ref pw),some (.ref a),v4,v5]/\H5 pt=some (.lst (tv++[.ref a]))/\H5 pw=some (.lst wv5)/\H5 S=some (.lst ys)/\Al (RowT K H5) wv5 (st'++((Bb pl 0 ts).drop (ys.length - j)).reverse)/\SameT H4 H5/\Same H H5)
   ⟨_,_,wv',rfl,s4 _ _ et3,s4 _ _ ew3,hS4,by rw [Rp,Qz (by omega)];simpa using al4,SameT.refl _,sm3.trans s4⟩ ?_ ?_ ?_
  ·rintro j σ5 H5 _ ⟨_,_,_,_,_,_,e,_⟩
   exact SqL.of e
  ·rintro i y σ5 H5 hi hy ⟨v4',v5',wv5,rfl,e5t,e5w,e5s,al5,t5,sm5⟩
   obtain ⟨tt,xw,rfl,hxw,htt⟩:=hpairs _ _ hy
   have htt5:=(t5 tt).1 _ htt
   walk_at "r"
   refine Dj (SqT.of htt5) rfl ?_
   walk_at "r"
   refine B2 (SqL.of e5w) ?_
   walk_at "r"
   have T5:SameT H3 H5:=s4.t.trans t5
   refine A3 (T5.tup qa) rfl ?_
   walk_at "r"
   refine ⟨Dn,fun p6 h6=>?_⟩
   refine Oc (((T5.trans (SameT.new h6)) p).1 _ qp) Ad (by show (Aw pl).length+1<=sizeLine;unfold Aw;rw [Pa];omega) fun r H7 s7 q7=>?_
   walk_at "r"
   refine ⟨B3,fun p7 h7=>?_⟩
   walk_at "r"
   have s57:Same H5 H7:=(Same.upd h6).trans s7
   have s58:=s57.put (o:=.tup [.ref r,xw]) h7
   have hlw:wv5.length=st'.length+((Bb pl 0 ts).drop (ys.length - i)).length:=by have:=al5.1;simp at this ⊢;omega
   have hlk:(st'++(Bb pl 0 ts).reverse).length=st'.length+ys.length:=by rw [O2,T4,hkl]
   have hll':(st'++(Bb pl 0 ts).reverse).length<=2000:=by
    have h1:load (st'++(Bb pl 0 (Tr.mk wd n ts).ps).reverse) < load (st'++[(pl,Tr.mk wd n ts)]):=hload
    have h2:(st'++(Bb pl 0 (Tr.mk wd n ts).ps).reverse).length<=load (st'++(Bb pl 0 (Tr.mk wd n ts).ps).reverse):=hll
    have h3:(Tr.mk wd n ts).ps=ts:=rfl
    rw [h3] at h1 h2
    omega
   have hdr:((Bb pl 0 ts).drop (ys.length - i)).length<=ys.length:=by rw [R1];omega
   refine Dc (s58 _ _ e5w) (by omega) ?_
   have e8w:=s58 _ _ e5w
   have t9:SameT H5 (upd (upd H7 p7 (.tup [.ref r,xw])) pw (.lst (wv5++[.ref p7]))):=s58.t.trans (SameT.set e8w)
   obtain ⟨tk,htk,hat⟩:∃ tk,ts[ys.length - 1 - i]?=some tk/\TrAt K H3 xw tk:=by
    have hj:=(O3.mp hxw).1
    have hj':ys.length - 1 - i < ts.length:=by omega
    exact ⟨_,Oo hj',hch _ _ _ hxw (Oo hj')⟩
   have hkid:(Bb pl 0 ts)[ys.length - 1 - i]?=some (pl++[ys.length - 1 - i],tk):=by
    rw [Zaj,htk]
    simp
   refine ⟨_,_,wv5++[.ref p7],rfl,?_,Ad,?_,?_,t5.trans t9,(sm5.trans s58).over hpw0⟩
   ·rw [Ai npw];exact s58 _ _ e5t
   ·rw [Ai nSp.symm];exact s58 _ _ e5s
   ·rw [Zde hkl hi hkid,<- P8]
    refine (al5.mono (RowT.same t9)).snoc ⟨p7,r,xw,rfl,(SameT.set e8w).tup (SqT.of Ad),?_,hat.sameT (T5.trans t9)⟩
    have q9:=(((SameT.new (o:=.tup [.ref r,xw]) h7).trans (SameT.set (o:=.lst (wv5++[.ref p7])) e8w)) r).1 _ q7
    have e:Aw (pl++[ys.length - 1 - i])=Aw pl++[.int ((ys.length - 1 - i:Nat):Int)]:=by unfold Aw;rw [Po];rfl
    show upd _ _ _ r=some (.tup (Aw (pl++[ys.length - 1 - i])))
    rw [e]
    exact q9
  ·rintro σ5 H5 ⟨v4',v5',wv5,rfl,e5t,e5w,e5s,al5,t5,sm5⟩
   rw [Q7,R8] at al5
   refine ⟨_,hload,_,_,_,tv++[.ref a],wv5,dn++[(pl,.mk wd n ts)],_,rfl,e5t,e5w,?_,al5,?_,rfl,sm5⟩
   ·exact (al1.mono (RowT.same (t2.trans (s4.t.trans t5)))).snoc (RowT.same (s4.t.trans t5) _ _ hrow3)
   ·rw [<- hw,J4,P8]
    rfl
noncomputable def Zbt (K:Om):Sp:=fun vs H Q _=>∃(s:Str)(n:Nat),vs=[.str s]/\Has K H (.str s)/\Bp s=some n/\Q (.int (n:Nat)) H
theorem Zl1:Ay ["word"] ["word"] (An Jz):=by walk_at "sc"
theorem Zp4 {f:Addr}{fd:FuncData}(F:Fun K "many_parts" "many_parts" Jz f fd)(T:Txt K mg)(G:Gs P w K mg)(C_is_word:Av P w K mg base 1 "is_word" ["thing"] (Zcs K)):Aq P w K mg base Ar 2 f fd ["word"] (Zbt K):=by
 refine F.okq Zl1 (fun vs H Q E h=>?_) (fun cdv A outer s H vs Q E hr h=>?_)
 ·obtain ⟨s,n,rfl,_⟩:=h
  rfl
 ·obtain ⟨t,n,rfl,hv,hn,q⟩:=h
  obtain ⟨ap,G_PARTS_OF_WORDS,hp⟩:=G.pw
  refine ⟨_,Ae (A0 (B8 (B9 (As C_is_word hr.m (Aa (qv 0) Ab)))) (Af Gj) A4)
   (Af (Ak (M6 (Zhc P w K) (Fi G_PARTS_OF_WORDS) (qv 0) (fun _ _=>rfl)))),?_⟩
  walk_at "r"
  refine ⟨_,rfl,hv,?_⟩
  have hw:Ng (.str t)=true:=by show (Bp t).isSome=true;rw [hn];rfl
  rw [hw]
  walk_at "r"
  refine ⟨ap,Ih,t,.int (n:Nat),rfl,rfl,hp,by rw [Zfn,hn];rfl,?_⟩
  exact q
theorem Zrq {s:Str}{n:Nat}(h:Bp s=some n):n<=3:=by
 have all:PN.all (fun p=>decide (p.2<=3))=true:=by decide +kernel
 unfold Bp at h
 have gen:∀ ps:List (Str×Nat),ps.all (fun p=>decide (p.2<=3))=true->ps.lookup s=some n->n<=3:=by
  intro ps
  induction ps with
  | nil=>intro _ h;cases h
  | cons p r ih =>
   intro ha h
   rw [Ro,Pt] at ha
   rw [Qq] at h
   split at h
   ·cases h;exact of_decide_eq_true ha.1
   ·exact ih ha.2 h
 exact gen PN all h
noncomputable def BareAt (K:Om)(ag:Addr)(H:Hp)(r:Addr)(s:Str)(nv:V)(n:Nat):Prop:=∃ pp,SqT K H r [.str s,nv,.ref pp]/\SqT K H pp (O0 n (.ref ag))
theorem BareAt.same {K:Om}{ag:Addr}{H H':Hp}{r:Addr}{s:Str}{nv:V}{n:Nat}(h:BareAt K ag H r s nv n)(e:SameT H H'):BareAt K ag H' r s nv n:=by
 obtain ⟨pp,h1,h2⟩:=h
 exact ⟨pp,e.tup h1,e.tup h2⟩
theorem BareAt.tr {K:Om}{ag:Addr}{H:Hp}{r:Addr}{s:Str}{nv:V}{n:Nat}{d:Dt}(GA:K3 K ag)(h:BareAt K ag H r s nv n)(hn:IsN K H nv d):TrAt K H (.ref r) (.mk s d (O0 n gapT)):=by
 obtain ⟨pp,h1,h2⟩:=h
 refine .mk h1 hn h2 (by simp) fun j v t e1 e2=>?_
 rw [Va (Pn e1),Va (Pn e2)]
 exact GA.at_ H
theorem Zje (n:Nat)(x:V):(O0 n [x]).flatten=O0 n x:=by
 induction n with
 | zero=>rfl
 | succ n ih=>rw [Rb,Sq,ih,Rb];rfl
noncomputable def Zcz (K:Om)(ag:Addr):Sp:=fun vs H Q _=>∃(s:Str)(nv:V)(nt:Nt)(n:Nat),vs=[.str s,nv]/\Has K H (.str s)/\NtAt K H nv nt/\Bp s=some n/\C0 s nt=true/\∀(r:Addr)(H':Hp),Same H H'->BareAt K ag H' r s nv n->Q (.ref r) H'
theorem Zfw:Ay ["word", "note", "many"] ["word", "note"] (An Iz):=by walk_at "sc"
theorem Zhw {ag:Addr}{f:Addr}{fd:FuncData}(F:Fun K "bare" "bare" Iz f fd)(T:Txt K mg)(G_GAP:Eb mg "GAP" (.ref ag))(C_many_parts:Av P w K mg base 2 "many_parts" ["word"] (Zbt K))(C_is_note:Av P w K mg base 3 "is_note" ["word", "note"] (Zcp K)):Aq P w K mg base Ar 4 f fd ["word", "note"] (Zcz K ag):=by
 refine F.okq Zfw (fun vs H Q E h=>?_) (fun cdv A outer s H vs Q E hr h=>?_)
 ·obtain ⟨v,nv,nt,n,rfl,_⟩:=h
  rfl
 ·obtain ⟨s,nv,nt,n,rfl,hv,hn,hp,hb,q⟩:=h
  refine ⟨_,Ae (Ao 2 Zfw (As C_many_parts hr.m (Aa (qv 0) Ab)))
   (Ae (A0 (B8 (B9 (As C_is_note hr.m (Aa (qv 0) (Aa (qv 1) Ab))))) (Af Gj) A4)
   (Af (Ak (Ap (Aa (qv 0) (Aa (qv 1) (Aa (Ag (Zix K) (Ap (Aa (Fi G_GAP) Ab)) (qv 2)) Ab))))))),?_⟩
  have n3:=Zrq hp
  walk_at "r"
  refine ⟨s,n,rfl,hv,hp,?_⟩
  walk_at "r"
  refine ⟨s,nv,nt,rfl,hn,fun H1 s1=>?_⟩
  rw [hb]
  walk_at "r"
  refine ⟨Dn,fun p1 hp1=>?_⟩
  have s2:=Same.upd (o:=.tup [.ref ag]) hp1
  walk_at "r"
  refine Ziv (xs:=[.ref ag]) (SqT.of Ad) (by simp) (by omega) (by omega) (by show ((1:Nat):Int) * (n:Int)<=1000;omega) fun r1 H3 s3 q3=>?_
  walk_at "r"
  refine ⟨Bj,fun r hr3=>?_⟩
  have s4:=Same.upd (o:=.tup [.str s,nv,.ref r1]) hr3
  refine q r _ (s1.trans (s2.trans (s3.trans s4))) ⟨r1,SqT.of Ad,?_⟩
  have:=s4.tup q3
  rw [show ((n:Nat):Int).toNat=n from by simp,Zje] at this
  exact this
noncomputable def Zee (K:Om):Sp:=fun vs H Q _=>∃ v t,vs=[v]/\TrAt K H v t/\t.wd = "gap" /\ Q .non H
theorem Zmu:Ay ["form"] ["form"] (An Ho):=by walk_at "sc"
theorem Zka {f:Addr}{fd:FuncData}(F:Fun K "refuse_no_gap" "refuse_no_gap" Ho f fd)(T:Txt K mg):Aq P w K mg base Ar 1 f fd ["form"] (Zee K):=by
 refine F.okq Zmu (fun vs H Q E h=>?_) (fun cdv A outer s H vs Q E hr h=>?_)
 ·obtain ⟨v,t,rfl,_⟩:=h
  rfl
 ·obtain ⟨v,t,rfl,ht,hw,q⟩:=h
  refine ⟨_,Af (A0 (A5 (Ny K hr.u200) (Am K (qv 0) Ac) A2 (Az _)) (Af Gj) A4),?_⟩
  obtain ⟨a,p,n,rfl,hq⟩:=F3 ht
  walk_at "r"
  refine A3 hq rfl ?_
  walk_at "r"
  rw [hw,decide_eq_true (Eq.refl _)]
  walk_at "r"
  exact q
noncomputable def Nb (K:Om)(c:Cs)(ag:Addr):Sp:=fun vs H Q _=>∃(a dx:Addr)(s:Str)(nv:V)(nt:Nt)(n:Nat),vs=[.ref a,.str s,nv]/\H a=some (.ins c.p dx [])/\Has K H (.str s)/\NtAt K H nv nt/\Bp s=some n/\C0 s nt=true/\s ≠ "gap" /\
 ∀(r:Addr)(H':Hp),SameB a H H'->H' a=some (.ins c.p dx [("form",.ref r)])->BareAt K ag H' r s nv n->Q .non H'
theorem Zhh:Ay ["self", "word", "note"] ["self", "word", "note"] (An Da):=by walk_at "sc"
theorem Zhz {c:Cs}{ag:Addr}{TD:Addr}{f:Addr}{fd:FuncData}(F:FunD K "__init__" "Put.__init__" Da TD f fd)(T:Txt K mg)(O:Own K mg "Put" c.p)(C_bare:Av P w K mg base 4 "bare" ["word", "note"] (Zcz K ag)):Aq P w K mg base (CXR P w) 5 f fd ["self", "word", "note"] (Nb K c ag):=by
 refine F.okx Zhh (fun vs H Q E h=>?_) (fun cdv A outer s H vs Q E hr h=>?_)
 ·obtain ⟨a,dx,s,nv,nt,n,rfl,_⟩:=h
  rfl
 ·obtain ⟨a,dx,z,nv,nt,n,rfl,ha,hv,hn,hp,hb,hw,q⟩:=h
  refine ⟨_,Ae (Zoc K (qv 0) (As C_bare hr.m (Aa (qv 1) (Aa (qv 2) Ab))))
   (Af (A0 (A5 (Bl K hr.u200) (qv 1) A2 (Az _)) (Af Gj) A4)),?_⟩
  walk_at "r"
  refine ⟨_,rfl,_,rfl,?_⟩
  refine ⟨z,nv,nt,n,rfl,hv,hn,hp,hb,fun r H1 s1 hr1=>?_⟩
  refine ⟨_,rfl,a,c.p,dx,[],rfl,s1 _ _ ha,O.cl,O.nf,by simp,?_⟩
  have st:=Zni (s1 _ _ ha) (.ins c.p dx (Cc "form" (.ref r) []))
  walk_at "r"
  rw [decide_eq_false (fun h=>hw (V.str.inj h))]
  walk_at "r"
  exact q r _ (fun b o hb h=>by rw [Ai hb];exact s1 b o h) Ad (hr1.same st)
noncomputable def Im (K:Om)(c:Cs)(C:Addr):Sp:=fun vs H Q _=>∃ x o y f g,vs=[x,y]/\OpAt K c H x o/\o.cls c=C/\TrAt K H y f/\o.does f g/\∀ v,TrAt K H v g->Q v H
theorem Zli:Ay ["self", "form"] ["self", "form"] (An G0):=by walk_at "sc"
theorem Zmd {c:Cs}{f:Addr}{fd:FuncData}(N:c.p≠c.c)(F:Fun K "done" "Put.done" G0 f fd)(T:Txt K mg)(O:Own K mg "Put" c.p)(C_refuse_no_gap:Av P w K mg base 1 "refuse_no_gap" ["form"] (Zee K)):Aq P w K mg base Ar 3 f fd ["self", "form"] (Im K c c.p):=by
 refine F.okq Zli (fun vs H Q E h=>?_) (fun cdv A' outer s H vs Q E hr h=>?_)
 ·obtain ⟨x,o,y,f,g,rfl,_⟩:=h
  rfl
 ·obtain ⟨x,o,y,f,g,rfl,hx,hc,hy,hd,q⟩:=h
  cases o with
  | cut=>exact absurd hc.symm N
  | put t =>
  obtain ⟨a,dx,v,rfl,ha,hg⟩:=hx
  obtain ⟨e1,e2,_⟩:=hd
  subst e1 e2
  refine ⟨_,Ae (C1 (As C_refuse_no_gap hr.m (Aa (qv 1) Ab)))
   (Af (Ak (Zj1 K (qv 0)))),?_⟩
  walk_at "r"
  refine ⟨y,gapT,rfl,hy,rfl,?_⟩
  walk_at "r"
  exact ⟨_,rfl,a,c.p,dx,_,v,rfl,ha,O.cl,O.nf,rfl,q v hg⟩
theorem Zha:Ay ["self", "form"] ["self", "form"] (An Gx):=by walk_at "sc"
theorem Zrp {c:Cs}{ag:Addr}{f:Addr}{fd:FuncData}(N:c.p≠c.c)(F:Fun K "done" "Cut.done" Gx f fd)(T:Txt K mg)(G_GAP:Eb mg "GAP" (.ref ag))(GA:K3 K ag):Aq P w K mg base Ar 3 f fd ["self", "form"] (Im K c c.c):=by
 refine F.okq Zha (fun vs H Q E h=>?_) (fun cdv A' outer s H vs Q E hr h=>?_)
 ·obtain ⟨x,o,y,f,g,rfl,_⟩:=h
  rfl
 ·obtain ⟨x,o,y,f,g,rfl,hx,hc,hy,hd,q⟩:=h
  cases o with
  | put t=>exact absurd hc N
  | cut =>
  obtain ⟨e1,e2⟩:=hd
  subst e2
  refine ⟨_,Ae (A0 (A5 (Bl K hr.u200) (Am K (qv 1) Ac) A2 (Az _)) (Af Gj) A4)
   (Af (Ak (Fi G_GAP))),?_⟩
  obtain ⟨b,p,n,rfl,hq⟩:=F3 hy
  walk_at "r"
  refine A3 hq rfl ?_
  walk_at "r"
  rw [decide_eq_false (fun h=>e1 (V.str.inj h))]
  walk_at "r"
  exact q _ (GA.at_ H)
theorem Zl6 {wd:Str}{nt nt':Nt}(h:C0 wd nt=true)(h':C0 wd nt'=true):(∃ s s':Str,nt=.fl (.str s)/\nt'=.fl (.str s'))\/(∃ i i':Int,nt=.fl (.int i)/\nt'=.fl (.int i'))\/(∃ b b':Bool,nt=.fl (.bl b)/\nt'=.fl (.bl b'))\/(nt=.fl .non/\nt'=.fl .non)\/∃ a b a' b':Str,nt=.tp [.str a,.str b]/\nt'=.tp [.str a',.str b']:=by
 have nm:∀ n:Nt,Lm n=true->∃ s:Str,n=.fl (.str s):=fun n h=>by
  cases n with
  | fl v=>cases v <;> first | exact ⟨_,rfl⟩ | cases h
  | _=>cases h
 have od:∀ n:Nt,Ln n=true->∃ s:Str,n=.fl (.str s):=fun n h=>by
  cases n with
  | fl v=>cases v <;> first | exact ⟨_,rfl⟩ | cases h
  | _=>cases h
 have nu:∀ n:Nt,Hf n=true->∃ i:Int,n=.fl (.int i):=fun n h=>by
  cases n with
  | fl v=>cases v <;> first | exact ⟨_,rfl⟩ | cases h
  | _=>cases h
 have tr:∀ n:Nt,K1 n=true->∃ b:Bool,n=.fl (.bl b):=fun n h=>by
  cases n with
  | fl v=>cases v <;> first | exact ⟨_,rfl⟩ | cases h
  | _=>cases h
 have tw:∀ n:Nt,twoN n=true->∃ a b:Str,n=.tp [.str a,.str b]:=fun n h=>by
  unfold twoN at h
  split at h
  ·rename_i x y
   rw [Pt] at h
   cases x <;> first | (cases h.1;done) | skip
   cases y <;> first | (cases h.2;done) | skip
   exact ⟨_,_,rfl⟩
  ·cases h
 unfold C0 at h h'
 split at h
 ·rename_i e;rw [if_pos e] at h';obtain ⟨s,e1⟩:=od _ h;obtain ⟨s',e2⟩:=od _ h';exact .inl ⟨s,s',e1,e2⟩
 rename_i g1;rw [if_neg g1] at h'
 split at h
 ·rename_i e;rw [if_pos e] at h';obtain ⟨s,e1⟩:=nu _ h;obtain ⟨s',e2⟩:=nu _ h';exact .inr (.inl ⟨s,s',e1,e2⟩)
 rename_i g2;rw [if_neg g2] at h'
 split at h
 ·rename_i e;rw [if_pos e] at h';obtain ⟨s,e1⟩:=tr _ h;obtain ⟨s',e2⟩:=tr _ h';exact .inr (.inr (.inl ⟨s,s',e1,e2⟩))
 rename_i g3;rw [if_neg g3] at h'
 split at h
 ·rename_i e;rw [if_pos e] at h';obtain ⟨s,e1⟩:=nm _ h;obtain ⟨s',e2⟩:=nm _ h';exact .inl ⟨s,s',e1,e2⟩
 rename_i g4;rw [if_neg g4] at h'
 split at h
 ·rename_i e;rw [if_pos e] at h';obtain ⟨a,b,e1⟩:=tw _ h;obtain ⟨a',b',e2⟩:=tw _ h';exact .inr (.inr (.inr (.inr ⟨a,b,a',b',e1,e2⟩)))
 rename_i g5;rw [if_neg g5] at h'
 exact .inr (.inr (.inr (.inl ⟨Nw h,Nw h'⟩)))
theorem E8 {K:Om}{H:Hp}{v x:V}{d:Dt}(h:IsN K H v d)(hd:Fj d (.fl x)):v=x/\d=.flat x:=by
 cases hd with
 | fl _ =>
  rcases h with ⟨_,e⟩ | ⟨a,vs,_,_,_,e⟩
  ·injection e with e;exact ⟨e.symm,rfl⟩
  ·cases e
theorem Zff {K:Om}{H:Hp}{v:V}{xs:List V}{d:Dt}(h:IsN K H v d)(hd:Fj d (.tp xs)):(∃ a,v=.ref a)/\d=.tup (xs.map .flat):=by
 cases hd with
 | tp _ =>
  rcases h with ⟨_,e⟩ | ⟨a,vs,h1,_,_,e⟩
  ·cases e
  ·exact ⟨⟨a,h1⟩,rfl⟩
noncomputable def M5 (K:Om):Sp:=fun vs H Q _=>∃ v u f a,vs=[v,u]/\TrAt K H v f/\TrAt K H u a/\TrOk f/\TrOk a/\∀ b:Bool,(b=true↔C9 f a)->Q (.bl b) H
theorem Zg9:Ay ["form", "other"] ["form", "other"] (An J7):=by walk_at "sc"
theorem Zlq {f:Addr}{fd:FuncData}(F:Fun K "same_top" "same_top" J7 f fd)(T:Txt K mg):Aq P w K mg base Ar 1 f fd ["form", "other"] (M5 K):=by
 refine F.okq Zg9 (fun vs H Q E h=>?_) (fun cdv A outer s H vs Q E hr h=>?_)
 ·obtain ⟨v,u,f,a,rfl,_⟩:=h
  rfl
 ·obtain ⟨v,u,f,a,rfl,hf,ha,of,oa,q⟩:=h
  refine ⟨_,Af (Ak (Df (Ca (Ze7 K hr.u200) (Am K (qv 0) Ac) (Am K (qv 1) Ac) (Az _)) (Dw (Ca (Ze7 K hr.u200) (Am K (qv 0) Ac) (Am K (qv 1) Ac) (Az _))))),?_⟩
  cases hf with
  | @mk b1 p1 w1 n1 d1 us1 ts1 qb1 hn1 qp1 l1 hc1 =>
  cases ha with
  | @mk b2 p2 w2 n2 d2 us2 ts2 qb2 hn2 qp2 l2 hc2 =>
  walk_at "r"
  refine A3 qb1 rfl ?_
  walk_at "r"
  refine A3 qb2 rfl ?_
  walk_at "r"
  by_cases hw:w1=w2
  ·subst hw
   rw [decide_eq_true (Eq.refl _)]
   walk_at "r"
   refine A3 qb1 rfl ?_
   walk_at "r"
   refine A3 qb2 rfl ?_
   have same:∀ b:Bool,(b=true↔d1=d2)->Q (.bl b) H:=fun b hb=>q b (hb.trans ⟨fun e=>⟨rfl,e⟩,fun e=>e.2⟩)
   cases of with
   | mk _ hd1 hb1 _ =>
   cases oa with
   | mk _ hd2 hb2 _ =>
   obtain ⟨s1,s2,rfl,rfl⟩ | ⟨s1,s2,rfl,rfl⟩ | ⟨s1,s2,rfl,rfl⟩ | ⟨rfl,rfl⟩ | ⟨a1,a2,a3,a4,rfl,rfl⟩:=Zl6 hb1 hb2
   ·obtain ⟨rfl,rfl⟩:=E8 hn1 hd1
    obtain ⟨rfl,rfl⟩:=E8 hn2 hd2
    exact s_eqk rfl (same _ (by rw [decide_eq_true_iff];exact ⟨fun e=>by rw [e],fun e=>by injection e⟩))
   ·obtain ⟨rfl,rfl⟩:=E8 hn1 hd1
    obtain ⟨rfl,rfl⟩:=E8 hn2 hd2
    exact s_eqk rfl (same _ (by rw [decide_eq_true_iff];exact ⟨fun e=>by rw [e],fun e=>by injection e⟩))
   ·obtain ⟨rfl,rfl⟩:=E8 hn1 hd1
    obtain ⟨rfl,rfl⟩:=E8 hn2 hd2
    exact s_eqk rfl (same _ (by rw [decide_eq_true_iff];exact ⟨fun e=>by rw [e],fun e=>by injection e⟩))
   ·obtain ⟨rfl,rfl⟩:=E8 hn1 hd1
    obtain ⟨rfl,rfl⟩:=E8 hn2 hd2
    exact s_eqk rfl (same _ (by rw [decide_eq_true_iff];exact ⟨fun e=>by rw [e],fun e=>by injection e⟩))
   ·obtain ⟨⟨x1,rfl⟩,rfl⟩:=Zff hn1 hd1
    obtain ⟨⟨x2,rfl⟩,rfl⟩:=Zff hn2 hd2
    have pu:∀ s t:Str,Pu (.tup ([V.str s,.str t].map Dt.flat)):=fun s t=>.tup fun d hd=>by
     simp only [Ph,List.map_nil,Oy,Pw,or_false] at hd
     rcases hd with rfl | rfl
     ·exact .str s
     ·exact .str t
    exact Zj5 (n:=1) (by decide) hn1.d hn2.d (pu _ _) (pu _ _) same
  ·rw [decide_eq_false (fun h=>hw (V.str.inj h))]
   walk_at "r"
   exact q false ⟨fun h=>(nomatch h),fun h=>absurd h.1 hw⟩
noncomputable def MtAt (K:Om)(H:Hp)(v:V)(x:Mt):Prop:=∃(r p:Addr)(y z:V),v=.ref r/\SqT K H r [.ref p,y,z]/\H p=some (.tup (Aw x.1))/\TrAt K H y x.2.1/\TrAt K H z x.2.2
theorem MtAt.same {K:Om}{H H':Hp}(e:SameT H H')(v:V)(x:Mt)(h:MtAt K H v x):MtAt K H' v x:=by
 obtain ⟨r,p,y,z,h1,h2,h3,h4,h5⟩:=h
 exact ⟨r,p,y,z,h1,e.tup h2,(e p).1 _ h3,h4.sameT e,h5.sameT e⟩
theorem Zco (st:List Mt):st.length<=(Cj st).length:=by
 unfold Cj
 have:∀ l:List Mt,l.length<=(l.flatMap fun x=>met x.1 x.2.1 x.2.2).length:=fun l=>by
  induction l with
  | nil=>simp
  | cons x r ih =>
   rw [Vu,O2,O5,G9,O5]
   omega
 have:=this st.reverse
 rw [T4] at this
 exact this
noncomputable def Zfm (K:Om):Sp:=fun vs H Q _=>∃ v u f a,vs=[v,u]/\TrAt K H v f/\TrAt K H u a/\TrOk f/\TrOk a/\f.size<=1000/\∀ p rows H',Same H H'->H p=none->H' p=some (.lst rows)->Al (MtAt K H') rows (met [] f a)->Q (.ref p) H'
noncomputable def MtJ (K:Om)(H:Hp)(v u:V)(f a:Tr)(pt pw:Addr)(m:Nat)(σ:St)(H':Hp):Prop:=∃(v4 v5 v6 v7:Option V)(tv wv:List V)(dn st:List Mt),σ=[some v,some u,some (.ref pt),some (.ref pw),v4,v5,v6,v7]/\H' pt=some (.lst tv)/\H' pw=some (.lst wv) /\
 Al (MtAt K H') tv dn/\Al (MtAt K H') wv st/\dn++Cj st=met [] f a/\m=(Cj st).length/\Same H H'
theorem Zex (pl:List Nat)(j:Nat):Aw (pl++[j])=Aw pl++[.int ((j:Nat):Int)]:=by unfold Aw;rw [Po];rfl
theorem sc_pairs_met:Ay ["tree", "other", "told", "waiting", "place", "form", "aim", "number"] ["tree", "other"] (An Ij):=by walk_at "sc"
theorem Zjg {f:Addr}{fd:FuncData}(F:Fun K "pairs_met" "pairs_met" Ij f fd)(T:Txt K mg)(C_same_top:Av P w K mg base 1 "same_top" ["form", "other"] (M5 K)):Aq P w K mg base Ar 2 f fd ["tree", "other"] (Zfm K):=by
 refine F.okq sc_pairs_met (fun vs H Q E h=>?_) (fun cdv A outer s H vs Q E hr h=>?_)
 ·obtain ⟨v,u,f,a,rfl,_⟩:=h
  rfl
 ·obtain ⟨v,u,f,a,rfl,hf,ha,of,oa,hz,q⟩:=h
  refine ⟨_,Ae (Ao 2 sc_pairs_met (Br Ab))
   (Ae (Ao 3 sc_pairs_met (Br (Aa (Ap (Aa (Ap Ab) (Aa (qv 0) (Aa (qv 1) Ab)))) Ab)))
   (Ae (Zbf Pb (Zd3 K (qv 3) (by intro _;rfl)) (Ae (Ez (Lx K Pk T0 T1 K5 (qv 3)) (De K (n:=3) rfl (Be (Ax (i:=4) sc_pairs_met.nd rfl (Or.inl rfl)) (Be (Ax (i:=5) sc_pairs_met.nd rfl (Or.inl rfl)) (Be (Ax (i:=6) sc_pairs_met.nd rfl (Or.inl rfl)) (C5))))))
   (Ae (C1 (Cu K Pk Qg Qh C8 (qv 2) (Aa (Ap (Aa (qv 4) (Aa (qv 5) (Aa (qv 6) Ab)))) Ab)))
   (Af (A0 (B9 (As C_same_top hr.m (Aa (qv 5) (Aa (qv 6) Ab)))) (Af (B1 Pb rfl (D7 rfl T.range (Aa (A8 (Bt K) (by rfl) T.len (by decide +kernel) (Aa (Am K (qv 6) Ac) Ab)) Ab)) (Ax (i:=7) sc_pairs_met.nd rfl (Or.inl rfl)) (Af (C1 (Cu K Pk Qg Qh C8 (qv 3) (Aa (Ap (Aa (Ag (Mx K) (qv 4) (Ap (Aa (qv 7) Ab))) (Aa (Am K (Am K (qv 5) Ac) (qv 7)) (Aa (Am K (Am K (qv 6) Ac) (qv 7)) Ab)))) Ab)))))) A4)))))
   (Af (Ak (qv 2))))),?_⟩
  have bg:=big
  have hml:(met [] f a).length<=1000:=by have:=Mc [] f a;omega
  walk_at "r"
  refine ⟨B0,fun pt hpt=>?_⟩
  walk_at "r"
  refine ⟨B0,fun p0 hp0=>?_⟩
  walk_at "r"
  refine ⟨Bj,fun p1 hp1=>?_⟩
  walk_at "r"
  refine ⟨Dn,fun pw hpw=>?_⟩
  walk_at "r"
  have s0:Same (upd H pt (.lst [])) _:=((Same.upd (o:=.tup []) hp0).put (o:=.tup [.ref p0,v,u]) hp1).put (o:=.lst [.ref p1]) hpw
  have s1:Same (upd (upd H pt (.lst [])) p0 (.tup [])) _:=(Same.upd (o:=.tup [.ref p0,v,u]) hp1).put (o:=.lst [.ref p1]) hpw
  have s2:=Same.upd (o:=.lst [.ref p1]) hpw
  have sH:=(Same.upd (o:=.lst []) hpt).trans s0
  have ept:=s0 pt _ Ad
  have epw:upd (upd (upd (upd H pt (.lst [])) p0 (.tup [])) p1 (.tup [.ref p0,v,u])) pw (.lst [.ref p1]) pw=some (.lst [.ref p1]):=Ad
  have ep0:=s1 p0 _ Ad
  have ep1:=s2 p1 _ Ad
  have npw:pt≠pw:=fun z=>by rw [z] at ept;rw [Ad] at ept;cases ept
  have hpw0:H pw=none:=((Same.upd (o:=.lst []) hpt).trans ((Same.upd (o:=.tup []) hp0).put (o:=.tup [.ref p0,v,u]) hp1)).free hpw
  refine ⟨MtJ K H v u f a pt pw,⟨_,none,none,none,none,[],[.ref p1],[],[([],f,a)],rfl,ept,epw,.nil,Al.nil.snoc ⟨p1,p0,v,u,rfl,SqT.of ep1,ep0,hf.same sH,ha.same sH⟩,by simp [Cj],rfl,sH⟩,?_⟩
  rintro m σ' H' ⟨v4,v5,v6,v7,tv,wv,dn,st,rfl,et,ew,al1,al2,hw,rfl,sm⟩
  have hdl:dn.length+(Cj st).length<=1000:=by rw [<- O2,hw];exact hml
  have htl:tv.length=dn.length:=al1.1
  walk_at "r"
  refine Zgn (SqL.of ew) ?_
  by_cases hwv:wv=[]
  ·subst hwv
   have hst:st=[]:=Rh al2.1.symm
   subst hst
   refine iteF ?_
   walk_at "r"
   rw [show Cj []=[] from rfl,Qa] at hw
   rw [hw] at al1
   exact q pt tv H' sm hpt et al1
  obtain ⟨wv',tp,st',x,rfl,rfl,al3,hrow⟩:=al2.last hwv
  have hne:(!(wv'++[tp]).isEmpty)=true:=by simp
  rw [hne]
  refine iteT ?_
  obtain ⟨pl,fx,ax⟩:=x
  have hx:(pl,fx,ax)∈met [] f a:=by rw [<- hw,Zeq];simp
  obtain ⟨qq,eq,atf,ata⟩:=Zbg [] f a of oa _ hx
  have eq:pl=qq:=eq
  subst eq
  have hpl:pl.length<=1000:=by have:=atf.len;omega
  have okf:=(atf.ok of).1
  have oka:=(ata.ok oa).1
  have htp:=Zeq st' (pl,fx,ax)
  have hll:=Zco (st'++[(pl,fx,ax)])
  rw [O2,Qo] at hll
  refine ⟨fun σ2 H2=>∃ m',m' < (Cj (st'++[(pl,fx,ax)])).length/\MtJ K H v u f a pt pw m' σ2 H2,fun _ _ h=>h,?_⟩
  walk_at "r"
  refine B2 (SqL.of ew) ?_
  refine Lu ew ?_
  have t1:SameT H' (upd H' pw (.lst wv')):=SameT.set ew
  have et2:upd H' pw (.lst wv') pt=some (.lst tv):=by rw [Ai npw];exact et
  have hrow1:=MtAt.same t1 _ _ hrow
  obtain ⟨r0,p,y,z,rfl,qr,ep,hy,hz'⟩:=id hrow1
  refine Dj qr rfl ?_
  walk_at "r"
  refine B2 (SqL.of et2) ?_
  walk_at "r"
  refine ⟨Bj,fun p6 h6=>?_⟩
  walk_at "r"
  have s6:=Same.upd (o:=.tup [.ref p,y,z]) h6
  refine Dc (s6 _ _ et2) (by omega) ?_
  have t2:SameT (upd H' pw (.lst wv')) (upd (upd (upd H' pw (.lst wv')) p6 (.tup [.ref p,y,z])) pt (.lst (tv++[.ref p6]))):=s6.t.trans (SameT.set (s6 _ _ et2))
  have et3:upd (upd (upd H' pw (.lst wv')) p6 (.tup [.ref p,y,z])) pt (.lst (tv++[.ref p6])) pt=some (.lst (tv++[.ref p6])):=Ad
  have ew3:upd (upd (upd H' pw (.lst wv')) p6 (.tup [.ref p,y,z])) pt (.lst (tv++[.ref p6])) pw=some (.lst wv'):=by rw [Ai npw.symm];exact s6 _ _ Ad
  have e63:upd (upd (upd H' pw (.lst wv')) p6 (.tup [.ref p,y,z])) pt (.lst (tv++[.ref p6])) p6=some (.tup [.ref p,y,z]):=by rw [Ai (Bc et2 h6).symm];exact Ad
  have sm3:Same H (upd (upd (upd H' pw (.lst wv')) p6 (.tup [.ref p,y,z])) pt (.lst (tv++[.ref p6]))):=((sm.over hpw0).put h6).over hpt
  revert t2 et3 ew3 e63 sm3
  generalize upd (upd (upd H' pw (.lst wv')) p6 (.tup [.ref p,y,z])) pt (.lst (tv++[.ref p6]))=H3
  intro t2 et3 ew3 e63 sm3
  have t13:=t1.trans t2
  have hy3:=hy.sameT t2
  have hz3:=hz'.sameT t2
  have ep3:=(t2 p).1 _ ep
  have hrow3:MtAt K H3 (.ref p6) (pl,fx,ax):=⟨p6,p,y,z,rfl,SqT.of e63,ep3,hy3,hz3⟩
  have al13:=(al1.mono (MtAt.same t13)).snoc hrow3
  have al33:=al3.mono (MtAt.same t13)
  walk_at "r"
  refine ⟨y,z,fx,ax,rfl,hy3,hz3,okf,oka,fun b hb=>?_⟩
  cases b with
  | false =>
   have hns:¬ C9 fx ax:=fun c=>Oz (hb.mpr c)
   rw [if_neg hns,Qa] at htp
   walk_at "r"
   refine ⟨_,by rw [htp];exact R0 _,_,_,_,_,tv++[.ref p6],wv',dn++[(pl,fx,ax)],st',rfl,et3,ew3,al13,al33,?_,rfl,sm3⟩
   rw [<- hw,htp,P8]
   rfl
  | true =>
   have hs:=hb.mp rfl
   rw [if_pos hs] at htp
   have hlen:=Zae okf oka hs.1
   cases hy3 with
   | @mk b1 q1 w1 n1 d1 us1 fs qb1 hn1 qp1 l1 hc1 =>
   cases hz3 with
   | @mk b2 q2 w2 n2 d2 us2 as qb2 hn2 qp2 l2 hc2 =>
   have hlen:fs.length=as.length:=hlen
   have htp:Cj (st'++[(pl,.mk w1 d1 fs,.mk w2 d2 as)])=(pl,.mk w1 d1 fs,.mk w2 d2 as)::Cj (st'++B4 pl 0 fs as):=htp
   have hkl:=Zcb pl 0 fs as hlen
   walk_at "r"
   refine A3 qb2 rfl ?_
   walk_at "r"
   refine Ek qp2 ?_
   walk_at "r"
   have htl2:=Zco (st'++B4 pl 0 fs as)
   have htp2:(Cj (st'++[(pl,Tr.mk w1 d1 fs,Tr.mk w2 d2 as)])).length=1+(Cj (st'++B4 pl 0 fs as)).length:=by rw [htp,O5];omega
   rw [O2,hkl] at htl2
   refine ⟨by omega,by omega,?_⟩
   refine Hb (n:=((us2.length:Nat):Int).toNat) (fun j σ5 H5=>∃(v7:Option V)(wv5:List V),σ5=[some v,some u,some (.ref pt),some (.ref pw),some (.ref p),some (.ref b1),some (.ref b2),v7]/\H5 pt=some (.lst (tv++[.ref p6]))/\H5 pw=some (.lst wv5)/\Al (MtAt K H5) wv5 (st'++(B4 pl 0 fs as).take j)/\SameT H3 H5/\Same H H5)
    ⟨_,wv',rfl,et3,ew3,by rw [Rf,Qa];exact al33,SameT.refl _,sm3⟩ ?_ ?_
   ·rintro j σ5 H5 hj ⟨v7',wv5,rfl,e5t,e5w,al5,t5,sm5⟩
    have hj2:j < us2.length:=by omega
    have hj1:j < us1.length:=by omega
    have hjf:j < fs.length:=by omega
    have hja:j < as.length:=by omega
    rw [Int.zero_add]
    walk_at "r"
    refine B2 (SqL.of e5w) ?_
    walk_at "r"
    refine ⟨Dn,fun p7 h7=>?_⟩
    refine Oc (((t5.trans (SameT.new h7)) p).1 _ ep3) Ad (by show (Aw pl).length+1<=sizeLine;unfold Aw;rw [Pa];omega) fun r H7 s7 q7=>?_
    have s57:Same H5 H7:=(Same.upd h7).trans s7
    have t57:=t5.trans s57.t
    walk_at "r"
    refine A3 (t57.tup qb1) rfl ?_
    walk_at "r"
    refine A3 (t57.tup qp1) (Gh (Oo hj1)) ?_
    walk_at "r"
    refine A3 (t57.tup qb2) rfl ?_
    walk_at "r"
    refine A3 (t57.tup qp2) (Gh (Oo hj2)) ?_
    walk_at "r"
    refine ⟨Bj,fun p8 h8=>?_⟩
    walk_at "r"
    have s58:=s57.put (o:=.tup [.ref r,us1[j],us2[j]]) h8
    have e8w:=s58 _ _ e5w
    have hwl:wv5.length<=1000:=by
     have:=al5.1
     rw [O2,Ps] at this
     omega
    refine Dc e8w (by omega) ?_
    have t9:SameT H5 (upd (upd H7 p8 (.tup [.ref r,us1[j],us2[j]])) pw (.lst (wv5++[.ref p8]))):=s58.t.trans (SameT.set e8w)
    have hk:=Mi pl 0 fs as j _ _ (Oo hjf) (Oo hja)
    refine ⟨_,wv5++[.ref p8],rfl,by rw [Ai npw];exact s58 _ _ e5t,Ad,?_,t5.trans t9,(sm5.trans s58).over hpw0⟩
    rw [Sr,hk,<- P8]
    refine (al5.mono (MtAt.same t9)).snoc ⟨p8,r,_,_,rfl,(SameT.set e8w).tup (SqT.of Ad),?_,(hc1 j _ _ (Oo hj1) (Oo hjf)).sameT (t5.trans t9),(hc2 j _ _ (Oo hj2) (Oo hja)).sameT (t5.trans t9)⟩
    rw [Ta]
    show _=some (HO.tup (Aw (pl++[j])))
    rw [Zex]
    exact (((SameT.new (o:=.tup [.ref r,us1[j],us2[j]]) h8).trans (SameT.set (o:=.lst (wv5++[.ref p8])) e8w)) r).1 _ q7
   ·rintro σ5 H5 ⟨v7',wv5,rfl,e5t,e5w,al5,t5,sm5⟩
    rw [Qi (by rw [hkl];omega)] at al5
    refine ⟨_,by rw [htp2];exact O9 (R0 _) (by omega),_,_,_,_,tv++[.ref p6],wv5,dn++[(pl,.mk w1 d1 fs,.mk w2 d2 as)],_,rfl,e5t,e5w,al13.mono (MtAt.same t5),al5,?_,rfl,sm5⟩
    rw [<- hw,htp,P8]
    rfl
theorem Zey {l:List (List Nat×Tr)}{i:Nat}{c:List Nat×Tr}(h:l[i]?=some c):(l.take (i+1)).filter C7=(l.take i).filter C7++(if C7 c=true then [c] else []):=by
 rw [Sr,h,List.filter_append]
 cases hg:C7 c <;> simp [hg]
noncomputable def N4 (K:Om):Sp:=fun vs H Q _=>∃(v:V)(t:Tr),vs=[v]/\TrAt K H v t/\t.size<=2000/\∀(p:Addr)(rows:List V)(H':Hp),Same H H'->H p=none->H' p=some (.lst rows)->Al (RowT K H') rows (fp t)->Q (.ref p) H'
theorem Zm9:(["pair"]:List Str).Nodup:=by decide +kernel
theorem Zmt:Ay ["form"] ["form"] (An Hq):=by walk_at "sc"
theorem Zro {f:Addr}{fd:FuncData}(F:Fun K "forms_to_put" "forms_to_put" Hq f fd)(T:Txt K mg)(C_placed_forms:Av P w K mg base 1 "placed_forms" ["tree"] (Zca K)):Aq P w K mg base Ar 2 f fd ["form"] (N4 K):=by
 refine F.okq Zmt (fun vs H Q E h=>?_) (fun cdv A outer s H vs Q E hr h=>?_)
 ·obtain ⟨v,t,rfl,_⟩:=h
  rfl
 ·obtain ⟨v,t,rfl,ht,hz,q⟩:=h
  refine ⟨_,Af (Ak (Fu (N:=["pair"]) (σ0:=C2 1 []) rfl (D6 rfl (by decide +kernel) (by decide +kernel) (by decide +kernel)) (Dd K (As C_placed_forms hr.m (Aa (qv 0) Ab))) (D9 rfl (by rfl)) (fun _ _ _ _=>Ax (i:=0) Zm9 rfl (Or.inl rfl)) (fun _ _ _ _=>Zc3 (A5 (Ny K hr.u200) (Am K (Am K (qv 0) Ac) Ac) A2 (Az _))) (fun _ _ _ _=>qv 0))),?_⟩
  have bg:=big
  walk_at "r"
  refine ⟨v,t,rfl,ht,hz,fun p rows H1 s1 hp e1 al=>?_⟩
  have hrl:rows.length<=2000:=by have:=al.1;rw [Er] at this;omega
  refine .inl ⟨p,rfl,⟨_,SqL.of e1⟩,fun D hD=>?_⟩
  have nD:p≠D:=Bc e1 hD
  refine Zdt (K:=K) (a:=p) (xs:=rows) (Pv:=fun i ys σ' H'=>∃ v0,σ'=[v0]/\H' p=some (.lst rows)/\ys.length<=i/\Al (RowT K H') ys (((walk [] t).take i).filter C7)/\SameT H1 H'/\Same H H') ⟨none,rfl,by rw [Ai nD];exact e1,Os _,.nil,SameT.new hD,s1.put hD⟩ ?_ ?_ ?_
  ·rintro i ys σ' H' _ ⟨_,_,e,_⟩
   exact SqL.of e
  ·rintro i x ys σ' H' hx hys ⟨v0,rfl,e,hl,al',tt,sm⟩
   obtain ⟨⟨pl,y⟩,hy,hrow⟩:=al.get hx
   obtain ⟨a,pp,u,rfl,qa,qp,hu⟩:=id hrow
   have hi:=(O3.mp hx).1
   cases hu with
   | @mk b p3 wd nv n vs ts qb hn qpp hlv hch =>
   walk_at "r"
   refine A3 (tt.tup qa) rfl ?_
   walk_at "r"
   refine A3 (tt.tup qb) rfl ?_
   walk_at "r"
   have eg:(!decide (V.str wd=V.str ("gap" : Str)))=C7 (pl,.mk wd n ts):=by
    show (!decide (V.str wd=V.str ("gap" : Str)))=!decide (wd=("gap" : Str))
    congr 1
    rw [Q4]
    simp
   show if (!decide (V.str wd=V.str ("gap" : Str)))=true then _ else _
   rw [eg]
   cases hg:C7 (pl,.mk wd n ts) with
   | true =>
    walk_at "r"
    refine ⟨_,hys,by omega,_,Ad,?_⟩
    refine ⟨_,rfl,by rw [Ai nD];exact e,by simp;omega,?_,tt.trans (SameT.set hys),sm.over (s1.free hD)⟩
    rw [Zey hy,hg,if_pos rfl]
    exact (al'.mono (RowT.same (SameT.set hys))).snoc (RowT.same (tt.trans (SameT.set hys)) _ _ hrow)
   | false =>
    walk_at "r"
    refine ⟨_,hys,?_⟩
    refine ⟨_,rfl,e,by omega,?_,tt,sm⟩
    rw [Zey hy,hg,if_neg Oz,Qa]
    exact al'
  ·rintro ys σ' H' hys ⟨v0,rfl,e,hl,al',tt,sm⟩
   walk_at "r"
   rw [al.1,Ue] at al'
   exact q D ys H' sm (s1.free hD) hys al'
theorem Zjh {K:Om}{H:Hp}{v:V}{t:Tr}(h:TrAt K H v t)(ok:TrOk t):∃(a p:Addr)(nv:V)(nt:Nt),v=.ref a/\SqT K H a [.str t.wd,nv,.ref p]/\IsN K H nv t.note/\NtAt K H nv nt/\C0 t.wd nt=true/\Bp t.wd=some t.ps.length/\t.wd.length<=1000:=by
 cases h with
 | mk q hn qp l hs =>
 cases ok with
 | mk hp hd hb _ =>
  refine ⟨_,_,_,_,rfl,q,hn,IsN.nt hn hd,hb,hp,?_⟩
  exact Pi (Gp hp).2.2.2.2 (by decide)
noncomputable def Zbj (K:Om)(c:Cs):Sp:=fun vs H Q _=>∃(p:Addr)(v:V)(t:Tr)(pl:List Nat),vs=[.ref p,v]/\SqT K H p (Aw pl)/\pl.length<=2000/\TrAt K H v t/\TrOk t/\t.size<=2000/\∀(r:Addr)(H':Hp),Same H H'->H r=none->DosAt K c H' r (pre pl (B6 t))->Q (.ref r) H'
theorem Zoi {t:Tr}(h:TrOk t):∀ x∈walk [] t,TrOk x.2/\x.1.length<=t.size:=fun x hx=>by
 have a:=Ob t x hx
 exact ⟨(a.ok h).1,by have:=a.len;omega⟩
theorem Znx {t:Tr}{x:List Nat×Tr}(h:x∈fp t):x∈walk [] t/\x.2.wd ≠ "gap" := by
 unfold fp at h
 obtain ⟨h1,h2⟩:=Vz.mp h
 refine ⟨h1,fun e=>?_⟩
 unfold C7 at h2
 rw [decide_eq_true e] at h2
 cases h2
theorem Zh0 (a b:List Nat):Aw (a++b)=Aw a++Aw b:=by unfold Aw;rw [Po]
theorem Zbs:(["beneath", "part", "place"]:List Str).Nodup:=by decide +kernel
theorem Zrr:Ay ["place", "form"] ["place", "form"] (An Ip):=by walk_at "sc"
theorem Zi0 {c:Cs}{ag:Addr}{f:Addr}{fd:FuncData}(F:Fun K "puts_of" "puts_of" Ip f fd)(T:Txt K mg)(GA:K3 K ag)(C_forms_to_put:Av P w K mg base 2 "forms_to_put" ["form"] (N4 K))(MK_Put_2:Ol Ar P w K mg base 5 "Put" c.p ["self", "word", "note"] [] (fun vs _=>vs) (Nb K c ag)):Aq P w K mg base Ar 7 f fd ["place", "form"] (Zbj K c):=by
 refine F.okq Zrr (fun vs H Q E h=>?_) (fun cdv A outer s H vs Q E hr h=>?_)
 ·obtain ⟨p,v,t,pl,rfl,_⟩:=h
  rfl
 ·obtain ⟨p,v,t,pl,rfl,hp,hpl,ht,ok,hz,q⟩:=h
  refine ⟨_,Af (Ak (Fu (N:=["beneath", "part", "place"]) (σ0:=C2 2 [0]) rfl (D6 rfl (by decide +kernel) (by decide +kernel) (by decide +kernel)) (Dd K (As C_forms_to_put hr.m (Aa (qv 1) Ab))) (D9 rfl (by rfl)) (fun _ _ _ _=>De K (n:=2) rfl (Be (Ax (i:=0) Zbs rfl (Or.inl rfl)) (Be (Ax (i:=1) Zbs rfl (Or.inl rfl)) (C5)))) (fun _ _ _ _=>Fl) (fun _ _ _ _=>Ap (Aa (Ag (Bf K) (qv 2) (qv 0)) (Aa (Zk4 MK_Put_2 hr.m Ks (Aa (Am K (qv 1) Ac) (Aa (Am K (qv 1) Ac) Ab)) (Zip)) Ab))))),?_⟩
  have bg:=big
  walk_at "r"
  refine ⟨v,t,rfl,ht,hz,fun pr rows H1 s1 hpr e1 al=>?_⟩
  have hrl:rows.length<=2000:=by have:=al.1;have:=Zai t;omega
  refine .inl ⟨pr,rfl,⟨_,SqL.of e1⟩,fun D hD=>?_⟩
  have nD:pr≠D:=Bc e1 hD
  refine Zdt (K:=K) (a:=pr) (xs:=rows) (Pv:=fun i ys σ' H'=>∃ v0 v1,σ'=[v0,v1,some (.ref p)]/\ys.length=i/\Al (DoAt K c H') ys ((pre pl (B6 t)).take i)/\H' pr=some (.lst rows)/\SameT H1 H'/\Same H H') ⟨none,none,rfl,rfl,.nil,by rw [Ai nD];exact e1,SameT.new hD,s1.put hD⟩ ?_ ?_ ?_
  ·rintro i ys σ' H' _ ⟨_,_,_,_,_,e,_⟩
   exact SqL.of e
  ·rintro i x ys σ' H' hx hys ⟨v0,v1,rfl,hl,al',e,tt,sm⟩
   obtain ⟨⟨bl,y⟩,hy,hrow⟩:=al.get hx
   obtain ⟨a,pp,u,rfl,qa,qp,hu⟩:=hrow
   have hi:=(O3.mp hx).1
   obtain ⟨hin,hng⟩:=Znx (Pn hy)
   obtain ⟨oky,hbl⟩:=Zoi ok _ hin
   obtain ⟨ua,up,nv,nt,rfl,qu,hn,hnt,hnb,hps,hwl⟩:=Zjh (hu.sameT tt) oky
   walk_at "r"
   refine Dj (tt.tup qa) rfl ?_
   walk_at "r"
   refine Gy (sm.tup hp) (tt.tup (SqT.of qp)) (by rw [E9,E9];show pl.length+bl.length<=_;have:bl.length<=t.size:=hbl;omega) fun r1 H2 s2 q2=>?_
   dsimp only at hng oky qu hn hnb hps hwl
   walk_at "r"
   unfold Zf5
   walk_at "r"
   refine A3 (s2.tup qu) rfl ?_
   walk_at "r"
   refine A3 (s2.tup qu) rfl ?_
   walk_at "r"
   intro a1 d1 h1 h2 h3
   have s3:=Same.made (C:=c.p) (fs:=[]) h1 h2 h3
   refine ⟨a1,d1,y.wd,nv,nt,y.ps.length,rfl,Ad,⟨_,.str _ hwl⟩,(hnt.same s2).same s3,hps,hnb,hng,fun r H4 sb e4 hb4=>⟨rfl,?_⟩⟩
   have s4:=sb.made h1 h2
   walk_at "r"
   refine ⟨B3,fun p5 h5=>?_⟩
   have s5:=Same.upd (o:=.tup [.ref r1,.ref a1]) h5
   have s25:=s2.trans (s4.trans s5)
   walk_at "r"
   refine ⟨ys,s25 _ _ hys,by omega,_,Ad,?_⟩
   have s45:=s4.trans s5
   have si:SameI _ (upd (upd H4 p5 (.tup [.ref r1,.ref a1])) D (.lst (ys++[.ref p5]))):=SameI.set (s25 _ _ hys)
   have hg:(pre pl (B6 t))[i]?=some (pl++bl,.put (Ke y)):=by unfold pre B6;rw [Rc,Rc,hy];rfl
   refine ⟨_,_,rfl,by simp [hl],?_,by rw [Ai nD];exact s25 _ _ e,tt.trans (s25.t.trans (SameT.set (s25 _ _ hys))),(sm.trans s25).over (s1.free hD)⟩
   rw [Sr,hg]
   refine (al'.mono (DoAt.same (s25.i.trans si))).snoc ⟨p5,r1,.ref a1,rfl,si.t.tup (SqT.of Ad),?_,?_⟩
   ·rw [Zh0]
    exact si.t.tup (s45.tup q2)
   ·exact ⟨a1,d1,.ref r,rfl,si _ _ (s5 _ _ e4) (fun _ z=>nomatch z) (fun _ z=>nomatch z),((hb4.tr GA ((hn.same s2.t).same s4.t)).same s5).sameT si.t⟩
  ·rintro ys σ' H' hys ⟨v0,v1,rfl,hl,al',e,tt,sm⟩
   walk_at "r"
   rw [al.1,Qi (by rw [Hg,Zbd];exact Os _)] at al'
   exact q D H' sm (s1.free hD) ⟨ys,hys,al'⟩
theorem Zdz:∀(i:Nat)(fs as:List Tr)(j:Nat)(f a:Tr),fs[j]?=some f->as[j]?=some a->Bd i (fs.take (j+1)) (as.take (j+1))=Bd i (fs.take j) (as.take j)++pre [i+j] (Bs f a)
 | i,[],as,j,f,a,h,_=>by simp at h
 | i,_::_,[],j,f,a,_,h=>by simp at h
 | i,g::fs,b::as,0,f,a,h1,h2=>by
  have h1:g=f:=by simpa using h1
  have h2:b=a:=by simpa using h2
  subst h1 h2
  rw [Rk,Rk,Gn,Rf,Rf,Rf,Rf]
  have e:∀ k,Bd k [] []=[]:=fun k=>by rw [Bd]
  rw [e,e,Qa,Q5,Nat.add_zero]
 | i,g::fs,b::as,j+1,f,a,h1,h2=>by
  rw [Rk,Rk,Gn,Zdz (i+1) fs as j f a (by simpa using h1) (by simpa using h2),Rk,Rk,Gn,P8,show i+1+j=i+(j+1) by omega]
noncomputable def Zgc (K:Om)(c:Cs):Sp:=fun vs H Q _=>∃(p d:Addr)(x y:V)(f a:Tr)(pl:List Nat)(kvs:List (List Au×V)),vs=[.ref p,x,y,.ref d]/\H p=some (.tup (Aw pl))/\pl.length<=1000/\TrAt K H x f/\TrAt K H y a/\TrOk f/\TrOk a/\a.size<=1000/\H d=some (.dT kvs) /\
 (C9 f a->∀ i fi ai,f.ps[i]?=some fi->a.ps[i]?=some ai->∃ q,Bk kvs (Ce (pl++[i]))=some (.ref q)/\DosAt K c H q (pre (pl++[i]) (Bs fi ai))) /\
 ∀ q H',Same H H'->H q=none->DosAt K c H' q (pre pl (Bs f a))->Q (.ref q) H'
theorem sc_row_at:Ay ["place", "form", "aim", "rows", "kept", "number"] ["place", "form", "aim", "rows"] (An Jx):=by walk_at "sc"
theorem Zpp {c:Cs}{f:Addr}{fd:FuncData}(F:Fun K "row_at" "row_at" Jx f fd)(T:Txt K mg)(C_puts_of:Av P w K mg base 7 "puts_of" ["place", "form"] (Zbj K c))(C_same_top:Av P w K mg base 1 "same_top" ["form", "other"] (M5 K))(C_forms_to_put:Av P w K mg base 2 "forms_to_put" ["form"] (N4 K))(MK_Cut:Lk K mg "Cut" c.c):Aq P w K mg base Ar 8 f fd ["place", "form", "aim", "rows"] (Zgc K c):=by
 refine F.okq sc_row_at (fun vs H Q E h=>?_) (fun cdv A outer s H vs Q E hr h=>?_)
 ·obtain ⟨p,d,x,y,f,a,pl,kvs,rfl,_⟩:=h
  rfl
 ·obtain ⟨p,d,x,y,f,a,pl,kvs,rfl,hp,hpl,hx,hy,of,oa,hz,hd,hkid,q⟩:=h
  refine ⟨_,Ae (A0 (A5 (Bl K hr.u200) (Am K (qv 1) Ac) A2 (Az _)) (Af (Ak (As C_puts_of hr.m (Aa (qv 0) (Aa (qv 2) Ab))))) A4)
   (Ae (A0 (B9 (As C_same_top hr.m (Aa (qv 1) (Aa (qv 2) Ab)))) (Ae (Ao 4 sc_row_at (Br Ab))
   (Ae (B1 Pb rfl (D7 rfl T.range (Aa (A8 (Bt K) (by rfl) T.len (by decide +kernel) (Aa (Am K (qv 2) Ac) Ab)) Ab)) (Ax (i:=5) sc_row_at.nd rfl (Or.inl rfl)) (Af (C1 (Cu K Pk PySem.F.slot_list_extend PySem.F.type_list_extend Zle (qv 4) (Aa (Zd8 hr.u1 (qv 3) (Ag (Mx K) (qv 0) (Ap (Aa (qv 5) Ab))) (fun _ _=>rfl)) Ab)))))
   (Af (A0 (A5 Dm (A8 (Bt K) (by rfl) T.len (by decide +kernel) (Aa (qv 4) Ab)) (Ag (Bf K) Ac (A8 (Bt K) (by rfl) T.len (by decide +kernel) (Aa (As C_forms_to_put hr.m (Aa (qv 2) Ab)) Ab))) (Az _)) (Af (Ak (qv 4))) A4)))) A4)
   (Af (Ak (Ag (Bf K) (Br (Aa (Ap (Aa (qv 0) (Aa (Zbq MK_Cut) Ab))) Ab)) (As C_puts_of hr.m (Aa (qv 0) (Aa (qv 2) Ab))))))),?_⟩
  have bg:=big
  have sx:=hx
  have sy:=hy
  have hfl:=Zai a
  have hpn:=Zbd a
  cases hx with
  | @mk b1 q1 w1 n1 d1 us1 fs qb1 hn1 qp1 l1 hc1 =>
  cases hy with
  | @mk b2 q2 w2 n2 d2 us2 as qb2 hn2 qp2 l2 hc2 =>
  walk_at "r"
  refine A3 qb1 rfl ?_
  walk_at "r"
  by_cases hg:w1 = "gap"
  ·subst hg
   rw [decide_eq_true (Eq.refl _)]
   walk_at "r"
   refine ⟨p,_,_,pl,rfl,SqT.of hp,by omega,sy,oa,by omega,fun r H1 s1 hr1 h1=>?_⟩
   walk_at "r"
   exact q r H1 s1 hr1 (by rw [Kk (show (Tr.mk "gap" d1 fs).wd = "gap" from rfl)];exact h1)
  rw [decide_eq_false (fun h=>hg (V.str.inj h))]
  have hg':(Tr.mk w1 d1 fs).wd ≠ "gap" := hg
  have anew:∀(v4 v5:Option V)(H1:Hp),Same H H1->Bs (.mk w1 d1 fs) (.mk w2 d2 as)=D4 (.mk w2 d2 as)->Lv (Cw (Fk K) (Lc (D0 (Lw (D0 (Em 0) (D0 (Zc0 c.c) Dv))) Dv)) (Fp (Zbj K c) [] E0 (D0 (Em 0) (D0 (Em 2) Dv)))) { nx:=fun _ H'=>Q V.non H',rt:=Q } [some (.ref p),some (.ref b1),some (.ref b2),some (.ref d),v4,v5] H1:=by
   intro v4 v5 H1 s1 er
   walk_at "r"
   intro a1 e1 h1 h2 h3
   have s2:=Same.made (C:=c.c) (fs:=[]) h1 h2 h3
   have ea:upd (upd H1 e1 (.own a1)) a1 (.ins c.c e1 []) a1=some (.ins c.c e1 []):=Ad
   revert s2 ea
   generalize upd (upd H1 e1 (.own a1)) a1 (.ins c.c e1 [])=H2
   intro s2 ea
   walk_at "r"
   refine ⟨B3,fun p3 h3=>?_⟩
   have s3:=Same.upd (o:=.tup [.ref p,.ref a1]) h3
   walk_at "r"
   refine ⟨Dn,fun p4 h4=>?_⟩
   have s4:=Same.upd (o:=.lst [.ref p3]) h4
   have s14:=s1.trans (s2.trans (s3.trans s4))
   have e3:=s4 p3 _ Ad
   have e4:upd (upd H2 p3 (.tup [.ref p,.ref a1])) p4 (.lst [.ref p3]) p4=some (.lst [.ref p3]):=Ad
   have ea4:=(s3.trans s4) _ _ ea
   revert s14 e3 e4 ea4
   generalize upd (upd H2 p3 (.tup [.ref p,.ref a1])) p4 (.lst [.ref p3])=H4
   intro s14 e3 e4 ea4
   walk_at "r"
   refine ⟨p,_,_,pl,rfl,SqT.of (s14 _ _ hp),by omega,sy.same s14,oa,by omega,fun r H5 s5 hr5 h5=>?_⟩
   obtain ⟨vs,ev,al⟩:=h5
   have hvl:vs.length<=1000:=by rw [al.1,Hg];omega
   refine Zcl (s5 _ _ e4) ev (by rw [Qo];omega) fun p6 h6=>?_
   have s6:=Same.upd (o:=.lst ([.ref p3]++vs)) h6
   have s16:=s14.trans (s5.trans s6)
   have s56:=s5.trans s6
   refine q p6 _ s16 ((s14.trans s5).free h6) ⟨_,Ad,?_⟩
   rw [er]
   show Al _ ([.ref p3]++vs) ([(pl++[],Op.cut)]++pre pl (B6 (.mk w2 d2 as)))
   refine Al.append (Al.nil.snoc ⟨p3,p,.ref a1,rfl,SqT.of (s56 _ _ e3),?_,⟨a1,e1,rfl,s56 _ _ ea4⟩⟩) (al.mono (DoAt.same s6.i))
   rw [Qa]
   exact SqT.of (s16 _ _ hp)
  walk_at "r"
  refine ⟨_,_,_,_,rfl,sx,sy,of,oa,fun b hb=>⟨b,rfl,?_⟩⟩
  cases b with
  | false =>
   have hns:¬ C9 (.mk w1 d1 fs) (.mk w2 d2 as):=fun z=>Oz (hb.mpr z)
   refine iteF ?_
   refine s_next ?_
   exact anew _ _ H (Same.refl _) (Zbi hg' hns)
  | true =>
   have hs:=hb.mp rfl
   refine iteT ?_
   have hlen:fs.length=as.length:=Zae of oa hs.1
   have ha3:as.length<=3:=by cases oa with | mk hp _ _ _=>exact (Gp hp).2.2.2.1
   have hkl:=M3 0 fs as
   have hsz:1+Aj as<=1000:=by have:=hz;rw [Tr.size] at this;exact this
   walk_at "r"
   refine ⟨B0,fun pk hpk=>?_⟩
   have s1:=Same.upd (o:=.lst []) hpk
   walk_at "r"
   refine A3 (s1.tup qb2) rfl ?_
   walk_at "r"
   refine Ek (s1.tup qp2) ?_
   walk_at "r"
   refine ⟨by omega,by omega,?_⟩
   refine Hb (n:=((us2.length:Nat):Int).toNat) (fun j σ5 H5=>∃(v5:Option V)(kv:List V),σ5=[some (.ref p),some (.ref b1),some (.ref b2),some (.ref d),some (.ref pk),v5]/\H5 pk=some (.lst kv)/\Al (DoAt K c H5) kv (pre pl (Bd 0 (fs.take j) (as.take j)))/\Same H H5)
    ⟨_,[],rfl,Ad,by rw [Rf,Rf,Bd];exact .nil,s1⟩ ?_ ?_
   ·rintro j σ5 H5 hj ⟨v5',kv,rfl,ek,al,sm⟩
    have hja:j < as.length:=by omega
    have hjf:j < fs.length:=by omega
    obtain ⟨qj,hv,vs,ev,alv⟩:=hkid hs j _ _ (Oo (l:=fs) hjf) (Oo (l:=as) hja)
    rw [Int.zero_add]
    walk_at "r"
    refine B2 (SqL.of ek) ?_
    walk_at "r"
    refine ⟨Dn,fun p7 h7=>?_⟩
    have s7:=Same.upd (o:=.tup [.int (j:Nat)]) h7
    refine Oc (s7 _ _ (sm _ _ hp)) Ad (by show (Aw pl).length+1<=sizeLine;rw [E9];omega) fun r H7 s8 q7=>?_
    have s78:=s7.trans s8
    have q7:H7 r=some (.tup (Aw (pl++[j]))):=by rw [Zex];exact q7
    have g:=DGet.t (k:=Ce (pl++[j])) ((sm.trans s78) _ _ hd) (by rw [Zc2];exact q7)
    rw [hv] at g
    refine ⟨d,_,rfl,g,?_⟩
    walk_at "r"
    have ek7:=s78 _ _ ek
    have ev7:=(sm.trans s78) _ _ ev
    have hl1:kv.length<=2000:=by
     have h1:=al.1
     rw [Hg] at h1
     have h2:=M3 0 (fs.take j) (as.take j)
     have h3:Aj (as.take j)<=Aj as:=by
      have:=F6 (as.take j) (as.drop j)
      rw [Vf] at this
      omega
     rw [Ps] at h2
     omega
    have hl2:vs.length<=2000:=by
     have h1:=alv.1
     rw [Hg] at h1
     have h2:=Za9 fs[j] as[j]
     have h3:=J2 (Oo (l:=as) hja)
     omega
    refine Zj6 ek7 ev7 (by omega) ?_
    have si:=SameI.set (o:=.lst (kv++vs)) ek7
    refine ⟨_,kv++vs,rfl,Ad,?_,(sm.trans s78).over hpk⟩
    rw [Zdz 0 fs as j _ _ (Oo hjf) (Oo hja),Zis,Zqk,Ta]
    exact Al.append (al.mono (DoAt.same (s78.i.trans si))) (alv.mono (DoAt.same ((sm.trans s78).i.trans si)))
   ·rintro σ5 H5 ⟨v5',kv,rfl,ek,al,sm⟩
    rw [Qi (by omega),Qi (by omega)] at al
    have hkv:kv.length=(Bd 0 fs as).length:=by rw [al.1,Hg]
    have hrow:=Ld hg' hs
    walk_at "r"
    refine Ey (SqL.of ek) ?_
    walk_at "r"
    refine ⟨_,_,rfl,sy.same sm,by omega,fun p8 rows H8 s8 hp8 e8 al8=>?_⟩
    walk_at "r"
    refine Ey (SqL.of e8) ?_
    walk_at "r"
    have hrl:rows.length=(fp (.mk w2 d2 as)).length:=al8.1
    refine A1 (fun h=>?_) (fun h=>?_)
    ·walk_at "r"
     have h:(Bd 0 fs as).length<=1+(fp (.mk w2 d2 as)).length:=by have:=of_decide_eq_true h;omega
     refine q pk H8 (sm.trans s8) hpk ⟨kv,s8 _ _ ek,?_⟩
     rw [hrow,show (Tr.mk w1 d1 fs).ps=fs from rfl,show (Tr.mk w2 d2 as).ps=as from rfl,if_pos h]
     exact al.mono (DoAt.same s8.i)
    ·refine s_next ?_
     have h:¬ (Bd 0 fs as).length<=1+(fp (.mk w2 d2 as)).length:=fun z=>h (decide_eq_true (by omega))
     refine anew _ _ H8 (sm.trans s8) ?_
     rw [hrow,show (Tr.mk w1 d1 fs).ps=fs from rfl,show (Tr.mk w2 d2 as).ps=as from rfl,if_neg h]
theorem Zb3 {kv:List (List Au×V)}{q z:List Nat}{v:V}:Bk (Cg kv (Ce q) v) (Ce z)=if z=q then some v else Bk kv (Ce z):=by
 rw [Zig]
 by_cases h:z=q
 ·rw [if_pos h,if_pos (by rw [h])]
 ·rw [if_neg h,if_neg fun e=>h (Zph e)]
noncomputable def Nf (K:Om)(c:Cs):Sp:=fun vs H Q _=>∃(x y:V)(f a:Tr),vs=[x,y]/\TrAt K H x f/\TrAt K H y a/\TrOk f/\TrOk a/\f.size<=1000/\a.size<=1000/\∀ q H',Same H H'->H q=none->DosAt K c H' q (Bs f a)->Q (.ref q) H'
noncomputable def Kn (K:Om)(c:Cs)(H0 H:Hp)(kvs:List (List Au×V))(s:List Mt):Prop:=∀ x∈s,∃ q,Bk kvs (Ce x.1)=some (.ref q)/\DosAt K c H q (pre x.1 (Bs x.2.1 x.2.2))/\H0 q=none
theorem sc_row_to:Ay ["tree", "other", "rows", "place", "form", "aim"] ["tree", "other"] (An Hh):=by walk_at "sc"
theorem Zih {c:Cs}{f:Addr}{fd:FuncData}(F:Fun K "row_to" "row_to" Hh f fd)(T:Txt K mg)(C_pairs_met:Av P w K mg base 2 "pairs_met" ["tree", "other"] (Zfm K))(C_row_at:Av P w K mg base 8 "row_at" ["place", "form", "aim", "rows"] (Zgc K c)):Aq P w K mg base Ar 9 f fd ["tree", "other"] (Nf K c):=by
 refine F.okq sc_row_to (fun vs H Q E h=>?_) (fun cdv A outer s H vs Q E hr h=>?_)
 ·obtain ⟨x,y,f,a,rfl,_⟩:=h
  rfl
 ·obtain ⟨x,y,f,a,rfl,hx,hy,of,oa,hz,hza,q⟩:=h
  refine ⟨_,Ae (Ao 2 sc_row_to (Zhx))
   (Ae (B1 Pb rfl (La K rfl T.reversed (Aa (As C_pairs_met hr.m (Aa (qv 0) (Aa (qv 1) Ab))) Ab)) (De K (n:=3) rfl (Be (Ax (i:=3) sc_row_to.nd rfl (Or.inl rfl)) (Be (Ax (i:=4) sc_row_to.nd rfl (Or.inl rfl)) (Be (Ax (i:=5) sc_row_to.nd rfl (Or.inl rfl)) (C5))))) (Af (Zib hr.u1 (qv 2) (qv 3) (As C_row_at hr.m (Aa (qv 3) (Aa (qv 4) (Aa (qv 5) (Aa (qv 2) Ab))))))))
   (Af (Ak (Zd8 hr.u1 (qv 2) (Ap Ab) (fun _ _=>rfl))))),?_⟩
  have bg:=big
  have hml:=Mc [] f a
  have mat:=Zbg [] f a of oa
  walk_at "r"
  refine fun d hd=>?_
  have s1:=Same.upd (o:=.dT []) hd
  walk_at "r"
  refine ⟨x,y,f,a,rfl,hx.same s1,hy.same s1,of,oa,hz,fun pr rows H1 s2 hpr er al=>?_⟩
  have hrl:rows.length<=1000:=by rw [al.1];omega
  have ed1:=s2 d _ Ad
  have sm1:=s1.trans s2
  walk_at "r"
  refine ⟨pr,rows,rfl,SqL.of er,?_⟩
  refine Lp (K:=K) (a:=pr) (xs:=rows) (fun i σ' H'=>∃ v3 v4 v5 kvs,σ'=[some x,some y,some (.ref d),v3,v4,v5]/\H' d=some (.dT kvs)/\kvs.length<=i/\Kn K c H H' kvs ((met [] f a).drop (rows.length - i))/\SameD H1 H'/\Same H H') ⟨_,_,_,[],rfl,ed1,Os _,?_,SameD.refl _,sm1⟩ ?_ ?_ ?_
  ·rw [Rp,Qz (by rw [al.1];exact Os _)]
   exact fun x h=>nomatch h
  ·rintro i σ' H' _ ⟨_,_,_,_,_,_,_,_,sd,_⟩
   exact SqL.of (sd _ _ er (fun _ z=>nomatch z))
  ·rintro i z σ' H' hi hz1 ⟨v3,v4,v5,kvs,rfl,ed,hkl,kn,sd,sm⟩
   obtain ⟨⟨pl,fx,ax⟩,hg,hrow⟩:=al.get hz1
   have hin:=Pn hg
   obtain ⟨qq,eq,atf,ata⟩:=mat _ hin
   have eq:pl=qq:=eq
   subst eq
   have hpl:pl.length<=1000:=by have:=atf.len;omega
   have okf:=(atf.ok of).1
   have oka:=ata.ok oa
   obtain ⟨r0,p,u,w0,rfl,qr,ep,hu,hw⟩:=MtAt.same sd.t _ _ hrow
   have hk:rows.length - 1 - i < (met [] f a).length:=by have:=al.1;omega
   have hdr:(met [] f a).drop (rows.length - (i+1))=(pl,fx,ax)::(met [] f a).drop (rows.length - i):=by
    rw [show rows.length - (i+1)=rows.length - 1 - i by omega,Qf hk,show rows.length - 1 - i+1=rows.length - i by omega]
    rw [Oo hk] at hg
    rw [Ox hg]
   have hcl:Cl ((met [] f a).take (rows.length - (i+1))++(pl,fx,ax)::(met [] f a).drop (rows.length - i)):=by
    rw [<- hdr,Vf]
    exact Zet [] f a
   refine Dj qr rfl ?_
   walk_at "r"
   refine ⟨p,d,u,w0,fx,ax,pl,kvs,rfl,ep,hpl,hu,hw,okf,oka.1,Pi oka.2 hza,ed,fun hs j fj aj hfj haj=>?_,fun q1 H2 s3 hq1 h1=>?_⟩
   ·have hm:=hcl.tail hs (pl++[0+j],fj,aj) (Pn (Mi pl 0 _ _ j fj aj hfj haj))
    rw [Ta] at hm
    obtain ⟨qj,k1,k2,_⟩:=kn _ hm
    exact ⟨qj,k1,k2⟩
   ·walk_at "r"
    have ed2:=s3 _ _ ed
    refine ⟨d,_,rfl,DPut.t (k:=Ce pl) ed2 (by rw [Zc2];exact s3 _ _ ep) (by omega),?_⟩
    have sd2:=SameD.set (o:=.dT (Cg kvs (Ce pl) (.ref q1))) ed2
    refine ⟨_,_,_,Cg kvs (Ce pl) (.ref q1),rfl,Ad,by have:=Zao kvs (Ce pl) (.ref q1);omega,?_,sd.trans (s3.d.trans sd2),(sm.trans s3).over hd⟩
    rw [hdr]
    intro x hx
    by_cases hxp:x.1=pl
    ·refine ⟨q1,by rw [Zb3,if_pos hxp],?_,sm.free hq1⟩
     have hxm:x∈met [] f a:=by
      have:x∈(met [] f a).drop (rows.length - (i+1)):=by rw [hdr];exact hx
      exact List.mem_of_mem_drop this
     obtain ⟨q2,e2,at2,at3⟩:=mat _ hxm
     have e2:x.1=q2:=e2
     rw [<- e2,hxp] at at2 at3
     rw [hxp,at2.det atf,at3.det ata]
     exact h1.same sd2
    ·rcases Oy.mp hx with rfl | hx
     ·exact absurd rfl hxp
     ·obtain ⟨qx,k1,k2,k3⟩:=kn x hx
      exact ⟨qx,by rw [Zb3,if_neg hxp];exact k1,k2.same (s3.d.trans sd2),k3⟩
  ·rintro σ' H' ⟨v3,v4,v5,kvs,rfl,ed,hkl,kn,sd,sm⟩
   rw [Q7,R8] at kn
   obtain ⟨q1,k1,k2,k3⟩:=kn _ (Ze0 [] f a)
   walk_at "r"
   refine ⟨B0,fun p9 h9=>?_⟩
   have s9:=Same.upd (o:=.tup []) h9
   have g:=DGet.t (k:=Ce []) (s9 _ _ ed) (by show _=some (HO.tup []);exact Ad)
   rw [k1] at g
   refine ⟨d,_,rfl,g,?_⟩
   rw [Zml] at k2
   exact q q1 _ (sm.trans s9) k3 (k2.same s9.d)
theorem Zij {b:Tr}(h:∀ x∈b.ps,x=gapT)(h3:b.ps.length<=3):b.size<=4:=by
 have:∀ l:List Tr,(∀ x∈l,x=gapT)->Aj l=l.length:=fun l=>by
  induction l with
  | nil=>intro _;rw [Aj];rfl
  | cons t r ih=>intro h;rw [Aj,ih fun x hx=>h x (Pe _ hx),h t Pr,Iq,O5];omega
 rw [b.size_eq,this _ h]
 omega
theorem Zii {ts:List Tr}{j:Nat}{t u:Tr}(h:ts[j]?=some t):Aj (ts.set j u)+t.size=Aj ts+u.size:=by
 induction ts generalizing j with
 | nil=>simp at h
 | cons x r ih =>
  cases j with
  | zero =>
   have h:x=t:=by simpa using h
   subst h
   rw [List.set_cons_zero,Aj,Aj]
   omega
  | succ j =>
   have:=ih (j:=j) (by simpa using h)
   rw [List.set_cons_succ,Aj,Aj]
   omega
theorem At.size {t u f:Tr}{pl:List Nat}(h:At t pl u):(Bh t pl f).size+u.size=t.size+f.size:=by
 induction h with
 | nil t=>rw [Dr];omega
 | @cons w n ts j t u r e _ ih=>rw [Ea e,Tr.size,Tr.size];have:=Zii (u:=Bh t r f) e;omega
theorem Op.small {o:Op}{f g:Tr}(h:o.does f g):g.size<=4:=by
 cases o with
 | put b=>obtain ⟨_,rfl,_,h1,h2⟩:=h;exact Zij h1 h2
 | cut=>obtain ⟨_,rfl⟩:=h;rw [Iq];omega
noncomputable def Zbr (K:Om)(c:Cs):Sp:=fun vs H Q _=>∃(v:V)(p:Addr)(t u:Tr)(r:Rw),vs=[v,.ref p]/\TrAt K H v t/\DosAt K c H p r/\Led t r u/\t.size+4 * r.length<=1000/\∀ v' H',Same H H'->TrAt K H' v' u->Q v' H'
theorem sc_behind:Ay ["tree", "row", "made", "place", "deed"] ["tree", "row"] (An J6):=by walk_at "sc"
theorem Zp0 {c:Cs}{f:Addr}{fd:FuncData}(F:Fun K "behind" "behind" J6 f fd)(T:Txt K mg)(C_form_at:Av P w K mg base 4 "form_at" ["tree", "place"] (Zgl K))(C_with_at:Av P w K mg base 4 "with_at" ["tree", "place", "form"] (Zb1 K))(M:∀ o:Op,Jt Ar P w K mg base 3 (o.cls c) "done" ["self", "form"] (Im K c (o.cls c))):Aq P w K mg base Ar 5 f fd ["tree", "row"] (Zbr K c):=by
 refine F.okq sc_behind (fun vs H Q E h=>?_) (fun cdv A outer s H vs Q E hr h=>?_)
 ·obtain ⟨v,p,t,u,r,rfl,_⟩:=h
  rfl
 ·obtain ⟨v,p,t,u,r,rfl,ht,⟨ds,ed,al⟩,hled,hz,q⟩:=h
  refine ⟨_,Ae (Ao 2 sc_behind (qv 0))
   (Ae (B1 Pb rfl (Dd K (qv 1)) (De K (n:=2) rfl (Be (Ax (i:=3) sc_behind.nd rfl (Or.inl rfl)) (Be (Ax (i:=4) sc_behind.nd rfl (Or.inl rfl)) (C5)))) (Af (Ao 2 sc_behind (As C_with_at hr.m (Aa (qv 2) (Aa (qv 3) (Aa (Zcv (k:=3) K Ar ["self", "form"] (qv 4) hr.m Ks (Aa (As C_form_at hr.m (Aa (qv 2) (Aa (qv 3) Ab))) Ab)) Ab)))))))
   (Af (Ak (qv 2)))),?_⟩
  have bg:=big
  walk_at "r"
  refine .inl ⟨p,rfl,⟨_,SqL.of ed⟩,?_⟩
  refine Lo (K:=K) (a:=p) (xs:=ds) (fun i σ' H'=>∃ v3 v4 v' t',σ'=[some v,some (.ref p),some v',v3,v4]/\TrAt K H' v' t'/\Led t' (r.drop i) u/\t'.size<=t.size+4 * i/\Same H H') ⟨_,_,v,t,rfl,ht,hled,by omega,Same.refl _⟩ ?_ ?_ ?_
  ·rintro i σ' H' _ ⟨_,_,_,_,_,_,_,_,sm⟩
   exact SqL.of (sm _ _ ed)
  ·rintro i x σ' H' hx ⟨v3,v4,v',t',rfl,hv',hl',hz',sm⟩
   obtain ⟨⟨pl,o⟩,hg,hdo⟩:=al.get hx
   have hi:=(O3.mp hg).1
   have hdr:r.drop i=(pl,o)::r.drop (i+1):=by
    rw [Qf hi]
    rw [Oo hi] at hg
    rw [Ox hg]
   rw [hdr] at hl'
   cases hl' with
   | @cons _ f g _ _ _ _ hat hd hs =>
   obtain ⟨a,qp,y,rfl,qa,qq,hop⟩:=DoAt.same sm.i _ _ hdo
   have hpl:pl.length<=1000:=by have:=hat.len;omega
   have hat2:=hat.size (f:=g)
   have hgs:=Op.small hd
   have hfs:1<=f.size:=by have:=f.size_eq;omega
   refine Dj qa rfl ?_
   walk_at "r"
   obtain ⟨oa,dx,fs,rfl,ho,hfn⟩:=hop.ins
   refine ⟨_,rfl,oa,o.cls c,dx,fs,_,rfl,ho,hfn,M o,?_⟩
   walk_at "r"
   refine ⟨v',t',qp,pl,f,rfl,hv',qq,hat.sub,hpl,hat.path,fun u1 H1 s1 hu1=>?_⟩
   walk_at "r"
   refine ⟨_,o,u1,f,g,rfl,hop.same s1.i,rfl,hu1,hd,fun v2 hv2=>?_⟩
   walk_at "r"
   refine ⟨v',v2,t',g,qp,pl,rfl,hv'.same s1,s1.tup qq,hat.sub,hpl,by omega,hv2,fun v5 H5 s5 h5=>?_⟩
   walk_at "r"
   exact ⟨_,_,v5,_,rfl,h5,hs,by omega,sm.trans (s1.trans s5)⟩
  ·rintro σ' H' ⟨v3,v4,v',t',rfl,hv',hl',hz',sm⟩
   rw [al.1,Vy] at hl'
   cases hl'
   walk_at "r"
   exact q v' H' sm hv'
noncomputable def Ze5 (K:Om):Sp:=fun vs H Q _=>∃(v:V)(t:Tr),vs=[v]/\TrAt K H v t/\t.size<=2000/\∀(p:Addr)(rows:List V)(H':Hp),Same H H'->H p=none->H' p=some (.lst rows)->Al (RowAt K H') rows (walk [] t)->Q (.ref p) H'
theorem sc_law_walk:Ay ["_law_tree_here", "_law_rows", "_law_left", "_law_place", "_law_form_here", "_law_k"] ["_law_tree_here"] (An Iv):=by walk_at "sc"
noncomputable def WkJ (K:Om)(H:Hp)(v:V)(t:Tr)(pt pw:Addr)(m:Nat)(σ:St)(H':Hp):Prop:=∃(v3 v4 v5:Option V)(tv wv:List V)(dn st:List (List Nat×Tr)),σ=[some v,some (.ref pt),some (.ref pw),v3,v4,v5]/\H' pt=some (.lst tv)/\H' pw=some (.lst wv) /\
 Al (RowAt K H') tv dn/\Al (RowAt K H') wv st/\dn++Dy st=walk [] t/\m=load st/\Same H H'
theorem Zjz {f:Addr}{fd:FuncData}(F:Fun K "_law_walk" "_law_walk" Iv f fd)(T:Txt K mg):Aq P w K mg base Ar 1 f fd ["_law_tree_here"] (Ze5 K):=by
 refine F.okq sc_law_walk (fun vs H Q E h=>?_) (fun cdv A outer s H vs Q E hr h=>?_)
 ·obtain ⟨v,t,rfl,_⟩:=h
  rfl
 ·obtain ⟨v,t,rfl,ht,hz,q⟩:=h
  refine ⟨_,Ae (Ao 1 sc_law_walk (Br Ab))
   (Ae (Ao 2 sc_law_walk (Br (Aa (Ap (Aa (Ap Ab) (Aa (qv 0) Ab))) Ab)))
   (Ae (Zbf Pb (A5 Go (A8 (Bt K) (by rfl) T.len (by decide +kernel) (Aa (qv 2) Ab)) Ac (Az _)) (Ae (Ez (Lx K Pk T0 T1 K5 (qv 2)) (De K (n:=2) rfl (Be (Ax (i:=3) sc_law_walk.nd rfl (Or.inl rfl)) (Be (Ax (i:=4) sc_law_walk.nd rfl (Or.inl rfl)) (C5)))))
   (Ae (C1 (Cu K Pk Qg Qh C8 (qv 1) (Aa (Ap (Aa (qv 3) (Aa (qv 4) Ab))) Ab)))
   (Af (B1 Pb rfl (Zkb rfl T.range (Aa (Ag K9 (A8 (Bt K) (by rfl) T.len (by decide +kernel) (Aa (Am K (qv 4) Ac) Ab)) Ac) (Aa (Ii Ia Ac) (Aa (Ii Ia Ac) Ab)))) (Ax (i:=5) sc_law_walk.nd rfl (Or.inl rfl)) (Af (C1 (Cu K Pk Qg Qh C8 (qv 2) (Aa (Ap (Aa (Ag (Bf K) (qv 3) (Ap (Aa (qv 5) Ab))) (Aa (Am K (Am K (qv 4) Ac) (qv 5)) Ab))) Ab)))))))))
   (Af (Ak (qv 1))))),?_⟩
  have bg:=big
  walk_at "r"
  refine ⟨B0,fun pt hpt=>?_⟩
  walk_at "r"
  refine ⟨B0,fun p0 hp0=>?_⟩
  walk_at "r"
  refine ⟨B3,fun p1 hp1=>?_⟩
  walk_at "r"
  refine ⟨Dn,fun pw hpw=>?_⟩
  walk_at "r"
  have s0:Same (upd H pt (.lst [])) _:=((Same.upd (o:=.tup []) hp0).put (o:=.tup [.ref p0,v]) hp1).put (o:=.lst [.ref p1]) hpw
  have s1:Same (upd (upd H pt (.lst [])) p0 (.tup [])) _:=(Same.upd (o:=.tup [.ref p0,v]) hp1).put (o:=.lst [.ref p1]) hpw
  have s2:=Same.upd (o:=.lst [.ref p1]) hpw
  have sH:=(Same.upd (o:=.lst []) hpt).trans s0
  have ept:=s0 pt _ Ad
  have epw:upd (upd (upd (upd H pt (.lst [])) p0 (.tup [])) p1 (.tup [.ref p0,v])) pw (.lst [.ref p1]) pw=some (.lst [.ref p1]):=Ad
  have ep0:=s1 p0 _ Ad
  have ep1:=s2 p1 _ Ad
  have npw:pt≠pw:=fun z=>by rw [z] at ept;rw [Ad] at ept;cases ept
  have hpw0:H pw=none:=((Same.upd (o:=.lst []) hpt).trans ((Same.upd (o:=.tup []) hp0).put (o:=.tup [.ref p0,v]) hp1)).free hpw
  refine ⟨WkJ K H v t pt pw,⟨_,none,none,none,[],[.ref p1],[],[([],t)],rfl,ept,epw,.nil,Al.nil.snoc ⟨p1,p0,v,rfl,SqT.of ep1,SqT.of ep0,ht.same sH⟩,by simp [Dy],rfl,sH⟩,?_⟩
  rintro m σ' H' ⟨v3,v4,v5,tv,wv,dn,st,rfl,et,ew,al1,al2,hw,rfl,sm⟩
  have hdl:dn.length+load st=t.size:=by
   have:=congrArg Tb hw
   rw [O2,Er] at this
   exact this
  have htl:tv.length=dn.length:=al1.1
  walk_at "r"
  refine Ey (SqL.of ew) ?_
  walk_at "r"
  by_cases hwv:wv=[]
  ·subst hwv
   have hst:st=[]:=Rh al2.1.symm
   subst hst
   refine iteF ?_
   walk_at "r"
   rw [Ze3,Qa] at hw
   rw [hw] at al1
   exact q pt tv H' sm hpt et al1
  obtain ⟨wv',tp,st',x,rfl,rfl,al3,hrow⟩:=al2.last hwv
  have hne:decide ((0:Int) < ((wv'++[tp]).length:Int))=true:=decide_eq_true (by rw [O2,Qo];omega)
  rw [hne]
  refine iteT ?_
  obtain ⟨pl,tx⟩:=x
  have hx:(pl,tx)∈walk [] t:=by rw [<- hw,J4];simp
  have hpl:pl.length<=2000:=by have:=Mv [] t _ hx;simp at this;omega
  have hload:=Zgq st' (pl,tx)
  have hll:=Zb7 (st'++(Bb pl 0 tx.ps).reverse)
  refine ⟨fun σ2 H2=>∃ m',m' < load (st'++[(pl,tx)])/\WkJ K H v t pt pw m' σ2 H2,fun _ _ h=>h,?_⟩
  walk_at "r"
  refine B2 (SqL.of ew) ?_
  refine Lu ew ?_
  have t1:SameT H' (upd H' pw (.lst wv')):=SameT.set ew
  have et2:upd H' pw (.lst wv') pt=some (.lst tv):=by rw [Ai npw];exact et
  obtain ⟨a,p,u,rfl,qa,qp,hu⟩:=id hrow
  refine Dj (t1.tup qa) rfl ?_
  walk_at "r"
  refine B2 (SqL.of et2) ?_
  walk_at "r"
  refine ⟨B3,fun pr hpr=>?_⟩
  walk_at "r"
  have s2':=Same.upd (o:=.tup [.ref p,u]) hpr
  have et2':=s2' _ _ et2
  refine Dc et2' (by omega) ?_
  have t2:SameT H' (upd (upd (upd H' pw (.lst wv')) pr (.tup [.ref p,u])) pt (.lst (tv++[.ref pr]))):=t1.trans (s2'.t.trans (SameT.set et2'))
  have et3:upd (upd (upd H' pw (.lst wv')) pr (.tup [.ref p,u])) pt (.lst (tv++[.ref pr])) pt=some (.lst (tv++[.ref pr])):=Ad
  have ew3:upd (upd (upd H' pw (.lst wv')) pr (.tup [.ref p,u])) pt (.lst (tv++[.ref pr])) pw=some (.lst wv'):=by rw [Ai npw.symm];exact s2' _ _ Ad
  have er3:upd (upd (upd H' pw (.lst wv')) pr (.tup [.ref p,u])) pt (.lst (tv++[.ref pr])) pr=some (.tup [.ref p,u]):=by rw [Ai (Bc et2 hpr).symm];exact Ad
  have sm3:Same H (upd (upd (upd H' pw (.lst wv')) pr (.tup [.ref p,u])) pt (.lst (tv++[.ref pr]))):=((sm.over hpw0).put hpr).over hpt
  revert t2 et3 ew3 sm3 er3
  generalize upd (upd (upd H' pw (.lst wv')) pr (.tup [.ref p,u])) pt (.lst (tv++[.ref pr]))=H4
  intro t2 et3 ew3 er3 sm3
  have hu4:=hu.sameT t2
  have qp4:=t2.tup qp
  have hrow4:RowAt K H4 (.ref pr) (pl,tx):=⟨pr,p,u,rfl,SqT.of er3,qp4,hu4⟩
  cases hu4 with
  | @mk b pp wd nv n vs ts qb hn qpp hl hch =>
  walk_at "r"
  refine A3 qb rfl ?_
  walk_at "r"
  refine Ek qpp ?_
  walk_at "r"
  have hvl:vs.length<=2000:=by
   have h1:=Nd ts
   have h2:=Tr.size_eq (.mk wd n ts)
   have h3:(walk [] t).length=t.size:=Er _ _
   have h4:(Tr.mk wd n ts).size<=L2.load (st'++[(pl,Tr.mk wd n ts)]):=by
    unfold L2.load Dy
    rw [Sk,Vd,Ry,Tv,O2,Er]
    exact Su _ _
   have h5:(Tr.mk wd n ts).ps=ts:=rfl
   rw [h5] at h2
   omega
  refine ⟨by omega,?_⟩
  have al4:Al (RowAt K H4) wv' st':=al3.mono (RowAt.same t2)
  have hkl:(Bb pl 0 ts).length=vs.length:=by rw [L7];omega
  have hn':((vs.length:Int) - 1 - -1).toNat=vs.length:=by omega
  rw [hn']
  refine Zir (n:=vs.length) (fun j σ5 H5=>∃(v5:Option V)(wv5:List V),σ5=[some v,some (.ref pt),some (.ref pw),some (.ref p),some (.ref b),v5]/\H5 pt=some (.lst (tv++[.ref pr]))/\H5 pw=some (.lst wv5)/\Al (RowAt K H5) wv5 (st'++((Bb pl 0 ts).drop (vs.length - j)).reverse)/\SameT H4 H5/\Same H H5)
   ⟨_,wv',rfl,et3,ew3,by rw [Rp,Qz (by omega)];simpa using al4,SameT.refl _,sm3⟩ ?_ ?_
  ·rintro i σ5 H5 hi ⟨v5',wv5,rfl,e5t,e5w,al5,t5,sm5⟩
   have hk:(vs.length:Int) - 1 - (i:Int)=((vs.length - 1 - i:Nat):Int):=by omega
   rw [hk]
   walk_at "r"
   refine B2 (SqL.of e5w) ?_
   walk_at "r"
   refine ⟨Dn,fun p6 h6=>?_⟩
   refine Gy ((t5.trans (SameT.new h6)).tup qp4) (SqT.of Ad) (by show (Aw pl).length+1<=sizeLine;unfold Aw;rw [Pa];omega) fun r H7 s7 q7=>?_
   have s57:Same H5 H7:=(Same.upd h6).trans s7
   have hj:vs.length - 1 - i < vs.length:=by omega
   walk_at "r"
   refine A3 ((t5.trans s57.t).tup qb) rfl ?_
   walk_at "r"
   refine A3 ((t5.trans s57.t).tup qpp) (Gh (Oo hj)) ?_
   walk_at "r"
   refine ⟨B3,fun p7 h7=>?_⟩
   walk_at "r"
   have s58:=s57.put (o:=.tup [.ref r,vs[vs.length - 1 - i]]) h7
   have hlw:wv5.length=st'.length+((Bb pl 0 ts).drop (vs.length - i)).length:=by have:=al5.1;simp at this ⊢;omega
   have hlk:(st'++(Bb pl 0 ts).reverse).length=st'.length+vs.length:=by rw [O2,T4,hkl]
   have hll':(st'++(Bb pl 0 ts).reverse).length<=2000:=by
    have h1:load (st'++(Bb pl 0 (Tr.mk wd n ts).ps).reverse) < load (st'++[(pl,Tr.mk wd n ts)]):=hload
    have h2:(st'++(Bb pl 0 (Tr.mk wd n ts).ps).reverse).length<=load (st'++(Bb pl 0 (Tr.mk wd n ts).ps).reverse):=hll
    have h3:(Tr.mk wd n ts).ps=ts:=rfl
    rw [h3] at h1 h2
    omega
   have hdr:((Bb pl 0 ts).drop (vs.length - i)).length<=vs.length:=by rw [R1];omega
   refine Dc (s58 _ _ e5w) (by omega) ?_
   have e8w:=s58 _ _ e5w
   have t9:SameT H5 (upd (upd H7 p7 (.tup [.ref r,vs[vs.length - 1 - i]])) pw (.lst (wv5++[.ref p7]))):=s58.t.trans (SameT.set e8w)
   have hj':vs.length - 1 - i < ts.length:=by omega
   have hat:=hch _ _ _ (Oo hj) (Oo hj')
   have hkid:(Bb pl 0 ts)[vs.length - 1 - i]?=some (pl++[vs.length - 1 - i],ts[vs.length - 1 - i]):=by
    rw [Zaj,Oo hj']
    simp
   refine ⟨_,wv5++[.ref p7],rfl,?_,Ad,?_,t5.trans t9,(sm5.trans s58).over hpw0⟩
   ·rw [Ai npw];exact s58 _ _ e5t
   ·rw [Zde hkl hi hkid,<- P8]
    refine (al5.mono (RowAt.same t9)).snoc ⟨p7,r,_,rfl,(SameT.set e8w).tup (SqT.of Ad),?_,hat.sameT (t5.trans t9)⟩
    have q9:=((SameT.new (o:=.tup [.ref r,vs[vs.length - 1 - i]]) h7).trans (SameT.set (o:=.lst (wv5++[.ref p7])) e8w)).tup q7
    have e:Aw (pl++[vs.length - 1 - i])=Aw pl++[.int ((vs.length - 1 - i:Nat):Int)]:=by unfold Aw;rw [Po];rfl
    show SqT K _ r (Aw (pl++[vs.length - 1 - i]))
    rw [e]
    exact q9
  ·rintro σ5 H5 ⟨v5',wv5,rfl,e5t,e5w,al5,t5,sm5⟩
   rw [Q7,R8] at al5
   refine ⟨_,hload,_,_,_,tv++[.ref pr],wv5,dn++[(pl,.mk wd n ts)],_,rfl,e5t,e5w,?_,al5,?_,rfl,sm5⟩
   ·exact (al1.mono (RowAt.same (t2.trans t5))).snoc (RowAt.same t5 _ _ hrow4)
   ·rw [<- hw,J4,P8]
    rfl
theorem Zjn (pl:List Nat)(k:Nat):(Aw pl).take k=Aw (pl.take k):=by unfold Aw;rw [List.map_take]
noncomputable def M4 (K:Om):Sp:=fun vs H Q _=>∃(v:V)(p:Addr)(t u:Tr)(pl:List Nat),vs=[v,.ref p]/\TrAt K H v t/\SqT K H p (Aw pl)/\At t pl u/\∀ v',TrAt K H v' u->Q v' H
theorem sc_law_form:Ay ["_law_tree_here", "_law_place", "_law_form_here", "_law_k"] ["_law_tree_here", "_law_place"] (An Je):=by walk_at "sc"
theorem Zkx {f:Addr}{fd:FuncData}(F:Fun K "_law_form" "_law_form" Je f fd)(T:Txt K mg):Aq P w K mg base Ar 1 f fd ["_law_tree_here", "_law_place"] (M4 K):=by
 refine F.okq sc_law_form (fun vs H Q E h=>?_) (fun cdv A outer s H vs Q E hr h=>?_)
 ·obtain ⟨v,p,t,u,pl,rfl,_⟩:=h
  rfl
 ·obtain ⟨v,p,t,u,pl,rfl,ht,hp,ha,q⟩:=h
  refine ⟨_,Ae (Ao 2 sc_law_form (qv 0))
   (Ae (B1 Pb rfl (Dd K (qv 1)) (Ax (i:=3) sc_law_form.nd rfl (Or.inl rfl)) (Af (Ao 2 sc_law_form (Am K (Am K (qv 2) Ac) (qv 3)))))
   (Af (Ak (qv 2)))),?_⟩
  walk_at "r"
  refine .inr (.inl ⟨p,rfl,⟨_,hp⟩,?_⟩)
  refine Nc (K:=K) (a:=p) (xs:=Aw pl) (fun i σ' H'=>∃ v' w3 m,σ'=[some v,some (.ref p),some v',w3]/\H'=H/\At t (pl.take i) m/\TrAt K H v' m) ⟨v,none,t,rfl,rfl,.nil _,ht⟩ ?_ ?_ ?_
  ·rintro i σ' H' _ ⟨_,_,_,_,rfl,_⟩
   exact hp
  ·rintro i x σ' H' hx ⟨v',w3,m,rfl,rfl,hm,hv⟩
   obtain ⟨k,rfl,hk⟩:=K0 hx
   obtain ⟨w',n',ts,m',a1,a2,a3⟩:=ha.step hk
   cases hm.det a1
   cases hv with
   | @mk b pp _ nv _ us _ qb hn qp l hch =>
   have hku:k < us.length:=by rw [l];exact (O3.mp a2).1
   walk_at "r"
   refine A3 qb rfl ?_
   walk_at "r"
   refine A3 qp (Gh (Oo hku)) ?_
   walk_at "r"
   exact ⟨_,_,m',rfl,rfl,a3,hch k _ m' (Oo hku) a2⟩
  ·rintro σ' H' ⟨v',w3,m,rfl,rfl,hm,hv⟩
   walk_at "r"
   rw [E9,Ue] at hm
   cases hm.det ha
   exact q v' hv
noncomputable def L8 (K:Om):Sp:=fun vs H Q _=>∃(v:V)(p:Addr)(x:V)(t u f:Tr)(pl:List Nat),vs=[v,.ref p,x]/\TrAt K H v t/\t.size<=1000/\SqT K H p (Aw pl)/\At t pl u/\TrAt K H x f/\∀ v' H',Same H H'->TrAt K H' v' (Bh t pl f)->Q v' H'
theorem At.sz {t u:Tr}{pl:List Nat}(h:At t pl u):u.size<=t.size:=by
 induction h with
 | nil t=>exact Os _
 | cons e _ ih=>have:=J2 e;rw [Tr.size];omega
theorem Zhj:(["_law_k", "_law_place"]:List Str).Nodup:=by decide +kernel
theorem sc_law_with:Ay ["_law_tree_here", "_law_place", "_law_form_here", "_law_spots", "_law_spot", "_law_above", "_law_k"] ["_law_tree_here", "_law_place", "_law_form_here"] (An Hz):=by walk_at "sc"
theorem Zop {f:Addr}{fd:FuncData}(F:Fun K "_law_with" "_law_with" Hz f fd)(T:Txt K mg)(C__law_form:Av P w K mg base 1 "_law_form" ["_law_tree_here", "_law_place"] (M4 K)):Aq P w K mg base Ar 2 f fd ["_law_tree_here", "_law_place", "_law_form_here"] (L8 K):=by
 refine F.okq sc_law_with (fun vs H Q E h=>?_) (fun cdv A outer s H vs Q E hr h=>?_)
 ·obtain ⟨v,p,x,t,u,f,pl,rfl,_⟩:=h
  rfl
 ·obtain ⟨v,p,x,t,u,f,pl,rfl,ht,hsz,hp,ha,hx,q⟩:=h
  refine ⟨_,Ae (Zau (i:=3) (N:=["_law_k", "_law_place"]) (σ0:=C2 1 [1]) rfl (D6 rfl (by decide +kernel) (by decide +kernel) (by decide +kernel)) (D7 rfl T.range (Aa (A8 (Bt K) (by rfl) T.len (by decide +kernel) (Aa (qv 1) Ab)) Ab)) (D9 rfl (by rfl)) (fun _ _ _ _=>Ax (i:=0) Zhj rfl (Or.inl rfl)) (fun _ _ _ _=>Fl) (fun _ _ _ _=>Ee (Ht K) (qv 1) (Ga) (Db (qv 0))) sc_law_with.nd rfl (Or.inl rfl))
   (Ae (B1 Pb rfl (La K rfl T.reversed (Aa (qv 3) Ab)) (Ax (i:=4) sc_law_with.nd rfl (Or.inl rfl)) (Ae (Ao 5 sc_law_with (As C__law_form hr.m (Aa (qv 0) (Aa (qv 4) Ab))))
   (Ae (Ao 6 sc_law_with (Am K (qv 1) (A8 (Bt K) (by rfl) T.len (by decide +kernel) (Aa (qv 4) Ab))))
   (Af (Ao 2 sc_law_with (Ap (Aa (Am K (qv 5) Ac) (Aa (Am K (qv 5) Ac) (Aa (Ag (Bf K) (Ag (Bf K) (Ee (Ht K) (Am K (qv 5) Ac) (Ga) (Db (qv 6))) (Ap (Aa (qv 2) Ab))) (Ee (Ht K) (Am K (qv 5) Ac) (Db (Ag (Bf K) (qv 6) Ac)) (Ga))) Ab)))))))))
   (Af (Ak (qv 2)))),?_⟩
  have bg:=big
  have hpl:pl.length<=1000:=by have:=ha.len;omega
  walk_at "r"
  refine Ek hp ?_
  have hpn:((Aw pl).length:Int)=(pl.length:Nat):=by rw [E9]
  rw [hpn]
  walk_at "r"
  refine ⟨by omega,by omega,fun S hS=>?_⟩
  refine Kd (n:=((pl.length:Nat):Int).toNat) (Pv:=fun i ys σ' H'=>∃ kv,σ'=[kv,some (.ref p)]/\ys.length=i/\(∀ k,k < i->∃ a,ys[k]?=some (.ref a)/\SqT K H' a (Aw (pl.take k)))/\Same H H') ⟨none,rfl,rfl,(fun k h=>by omega),Same.upd hS⟩ ?_ ?_
  ·rintro i ys σ' H' hi hys ⟨kv,rfl,hl,hall,sm⟩
   walk_at "r"
   refine Jf (sm.tup hp) fun r1 H1 s1 q1=>?_
   rw [Int.zero_add,Mg,Zjn] at q1
   walk_at "r"
   refine ⟨_,s1 _ _ hys,by omega,_,Ad,?_⟩
   have st:=SameT.set (o:=.lst (ys++[.ref r1])) (s1 _ _ hys)
   refine ⟨_,rfl,by simp [hl],fun k hk=>?_,(sm.trans s1).over hS⟩
   by_cases e:k=i
   ·subst e
    exact ⟨r1,by rw [Qw (by omega),hl];simp,st.tup q1⟩
   ·obtain ⟨a,h1,h2⟩:=hall k (by omega)
    exact ⟨a,by rw [Qx (by omega)];exact h1,st.tup (s1.tup h2)⟩
  ·rintro zs σ' H1 hzs ⟨kv,rfl,hl,hall,s1⟩
   have hl:zs.length=pl.length:=by omega
   walk_at "r"
   refine ⟨S,zs,rfl,SqL.of hzs,?_⟩
   refine Lp (K:=K) (a:=S) (xs:=zs) (fun i σ' H'=>∃ x' w4 w5 w6 m,σ'=[some v,some (.ref p),some x',some (.ref S),w4,w5,w6]/\At t (pl.take (pl.length - i)) m/\TrAt K H' x' (Bh m (pl.drop (pl.length - i)) f)/\Same H1 H') ⟨x,_,_,_,u,rfl,by rw [Rp,Ue];exact ha,by rw [Rp,Vy,Dr];exact hx.same s1,Same.refl _⟩ ?_ ?_ ?_
   ·rintro i σ' H2 _ ⟨_,_,_,_,_,_,_,_,s2⟩
    exact SqL.of (s2 _ _ hzs)
   ·rintro i y σ' H2 hi hy ⟨x',w4,w5,w6,m,rfl,hm,hb,s2⟩
    have hk0:zs.length - 1 - i < pl.length:=by omega
    obtain ⟨k,hk⟩:∃ k,k=zs.length - 1 - i:=⟨_,rfl⟩
    rw [<- hk] at hy hk0
    obtain ⟨a,h1,h2⟩:=hall k (by omega)
    rw [hy] at h1
    cases h1
    have s02:=s1.trans s2
    have hpk:pl[k]?=some pl[k]:=Oo hk0
    obtain ⟨w',n',ts,m',a1,a2,a3⟩:=ha.step hpk
    rw [show pl.length - i=k+1 by omega] at hm hb
    cases hm.det a3
    have hsa:=a1.sz
    walk_at "r"
    refine ⟨v,a,t,_,pl.take k,rfl,ht.same s02,s2.tup h2,a1,fun v' hv'=>?_⟩
    cases hv' with
    | @mk b pp _ nv _ us _ qb hn qp l hch =>
    have hku:pl[k] < us.length:=by rw [l];exact (O3.mp a2).1
    have hul:us.length<=1000:=by have:=Nd ts;rw [Tr.size] at hsa;omega
    walk_at "r"
    refine Ek (s2.tup h2) ?_
    walk_at "r"
    refine A3 (v:=.int (pl[k]:Nat)) (s02.tup hp) (Zft k (by rw [E9,Ps];omega) (by unfold Aw;rw [Rc,hpk];rfl)) ?_
    walk_at "r"
    refine A3 qb rfl ?_
    walk_at "r"
    refine A3 qb rfl ?_
    walk_at "r"
    refine A3 qb rfl ?_
    walk_at "r"
    refine Jf qp fun r1 H3 s3 q3=>?_
    rw [Mg] at q3
    walk_at "r"
    refine ⟨Dn,fun p4 h4=>?_⟩
    have s4:=Same.upd (o:=.tup [x']) h4
    refine Gy (s4.tup q3) (SqT.of Ad) (by rw [Ps];show _+1<=sizeLine;omega) fun r5 H5 s5 q5=>?_
    have s25:=s3.trans (s4.trans s5)
    walk_at "r"
    refine A3 (s25.tup qb) rfl ?_
    walk_at "r"
    refine Jf (s25.tup qp) fun r6 H6 s6 q6=>?_
    have ek:((pl[k]:Nat):Int)+1=((pl[k]+1:Nat):Int):=by omega
    rw [ek,Zej] at q6
    refine Gy (s6.tup q5) q6 (by rw [O2,Ps,R1];show _+1+_<=sizeLine;omega) fun r7 H7 s7 q7=>?_
    rw [Zbm (by omega)] at q7
    walk_at "r"
    refine ⟨Bj,fun p8 h8=>?_⟩
    have s8:=Same.upd (o:=.tup [.str w',nv,.ref r7]) h8
    have s28:=s25.trans (s6.trans (s7.trans s8))
    walk_at "r"
    refine ⟨.ref p8,_,_,_,.mk w' n' ts,rfl,by rw [show pl.length - (i+1)=k by omega];exact a1,?_,s2.trans s28⟩
    rw [show pl.length - (i+1)=k by omega,Qf hk0,Ea a2]
    refine .mk (SqT.of Ad) (hn.same s28.t) (s8.tup q7) (by rw [R4,R4];exact l) fun j y z g1 g2=>?_
    by_cases e:pl[k]=j
    ·subst e
     rw [Sg (by omega)] at g1 g2
     cases g1
     cases g2
     exact hb.same s28
    ·rw [T2 e] at g1 g2
     exact (hch j y z g1 g2).same s28
   ·rintro σ' H2 ⟨x',w4,w5,w6,m,rfl,hm,hb,s2⟩
    rw [show pl.length - zs.length=0 by omega] at hm hb
    rw [Rf] at hm
    cases hm
    rw [R8] at hb
    walk_at "r"
    exact q x' H2 (s1.trans s2) hb
noncomputable def Zgs (K:Om):Sp:=fun vs H Q _=>∃(c:Int)(p:Addr)(t0 t1 t2:Str),vs=[.int c,.ref p]/\SqL K H p [.str t0,.str t1,.str t2]/\A6 t0=true/\A6 t1=true/\A6 t2=true /\
 ∀(v:V)(t:Tr)(H':Hp),Same H H'->TrAt K H' v t->TrOk t->t.size=1->Bm t=1->Q v H'
theorem sc_law_leaf:Ay ["_law_cell_here", "_law_names_here", "_law_word", "_law_note"] ["_law_cell_here", "_law_names_here"] (An Jy):=by walk_at "sc"
theorem Zh3 {f:Addr}{fd:FuncData}(F:Fun K "_law_leaf" "_law_leaf" Jy f fd)(T:Txt K mg)(C__law_head:Av P w K mg base 2 "_law_head" ["_law_cell_here", "_law_names_here"] (Kv K)):Aq P w K mg base Ar 3 f fd ["_law_cell_here", "_law_names_here"] (Zgs K):=by
 refine F.okq sc_law_leaf (fun vs H Q E h=>?_) (fun cdv A outer s H vs Q E hr h=>?_)
 ·obtain ⟨c,p,t0,t1,t2,rfl,_⟩:=h
  rfl
 ·obtain ⟨c,p,t0,t1,t2,rfl,hp,n0,n1,n2,q⟩:=h
  refine ⟨_,Ae (Ez (As C__law_head hr.m (Aa (Ag (Bf K) (Ag Cn (Ag Dk (qv 0) Ac) Ac) (Ag A7 (qv 0) Ac)) (Aa (qv 1) Ab))) (De K (n:=2) rfl (Be (Ax (i:=2) sc_law_leaf.nd rfl (Or.inl rfl)) (Be (Ax (i:=3) sc_law_leaf.nd rfl (Or.inl rfl)) (C5)))))
   (Af (Ak (Ap (Aa (qv 2) (Aa (qv 3) (Aa (Ap Ab) Ab)))))),?_⟩
  walk_at "r"
  refine ⟨_,p,t0,t1,t2,rfl,hp,n0,n1,n2,fun a wd note n nt H2 s2 qa hno hps h5 hdn hnb=>?_⟩
  have h0:Bp wd=some 0:=h5 (by omega)
  refine Dj qa rfl ?_
  walk_at "r"
  refine ⟨B0,fun p3 h3=>?_⟩
  have s3:=Same.upd (o:=.tup []) h3
  walk_at "r"
  refine ⟨Bj,fun p4 h4=>?_⟩
  have s4:=Same.upd (o:=.tup [.str wd,note,.ref p3]) h4
  have s34:=s3.trans s4
  exact q (.ref p4) (.mk wd n []) _ (s2.trans s34) (.mk (SqT.of Ad) (hno.same s34.t) (s4.tup (SqT.of Ad)) rfl fun j v t e _=>by simp at e) (.mk h0 hdn hnb (fun t h=>nomatch h)) (by rw [Tr.size,Aj]) (by rw [D3,Eh])
noncomputable def Zb6 (K:Om):Sp:=fun vs H Q _=>∃(c:Int)(p:Addr)(t0 t1 t2:Str),vs=[.int c,.ref p]/\SqL K H p [.str t0,.str t1,.str t2]/\A6 t0=true/\A6 t1=true/\A6 t2=true /\
 ∀(v:V)(t:Tr)(H':Hp),Same H H'->TrAt K H' v t->TrOk t->t.size<=4->Bm t<=2->Q v H'
theorem Zo5:(["_law_k", "_law_names_here", "_law_cell_here"]:List Str).Nodup:=by decide +kernel
theorem sc_law_small:Ay ["_law_cell_here", "_law_names_here", "_law_word", "_law_note", "_law_parts"] ["_law_cell_here", "_law_names_here"] (An Hm):=by walk_at "sc"
theorem Zmy {f:Addr}{fd:FuncData}(F:Fun K "_law_small" "_law_small" Hm f fd)(T:Txt K mg)(C__law_head:Av P w K mg base 2 "_law_head" ["_law_cell_here", "_law_names_here"] (Kv K))(C__law_many:Av P w K mg base 1 "_law_many" ["_law_word"] Mn)(C__law_leaf:Av P w K mg base 3 "_law_leaf" ["_law_cell_here", "_law_names_here"] (Zgs K)):Aq P w K mg base Ar 4 f fd ["_law_cell_here", "_law_names_here"] (Zb6 K):=by
 refine F.okq sc_law_small (fun vs H Q E h=>?_) (fun cdv A outer s H vs Q E hr h=>?_)
 ·obtain ⟨c,p,t0,t1,t2,rfl,_⟩:=h
  rfl
 ·obtain ⟨c,p,t0,t1,t2,rfl,hp,n0,n1,n2,q⟩:=h
  refine ⟨_,Ae (Ez (As C__law_head hr.m (Aa (qv 0) (Aa (qv 1) Ab))) (De K (n:=2) rfl (Be (Ax (i:=2) sc_law_small.nd rfl (Or.inl rfl)) (Be (Ax (i:=3) sc_law_small.nd rfl (Or.inl rfl)) (C5)))))
   (Ae (Zau (i:=4) (N:=["_law_k", "_law_names_here", "_law_cell_here"]) (σ0:=C2 1 [1,0]) rfl (D6 rfl (by decide +kernel) (by decide +kernel) (by decide +kernel)) (D7 rfl T.range (Aa (As C__law_many hr.m (Aa (qv 2) Ab)) Ab)) (D9 rfl (by rfl)) (fun _ _ _ _=>Ax (i:=0) Zo5 rfl (Or.inl rfl)) (fun _ _ _ _=>Fl) (fun _ _ _ _=>As C__law_leaf hr.m (Aa (Ag A7 (Ag Cn (qv 2) (Ag (Bf K) (Ag Cn Ac (qv 0)) Ac)) Ac) (Aa (qv 1) Ab))) sc_law_small.nd rfl (Or.inl rfl))
   (Af (Ak (Ap (Aa (qv 2) (Aa (qv 3) (Aa (Ki (Zf6 K) (by rfl) T.tuple (by decide +kernel) (Aa (qv 4) Ab)) Ab))))))),?_⟩
  have bg:=big
  walk_at "r"
  refine ⟨c,p,t0,t1,t2,rfl,hp,n0,n1,n2,fun a wd note n nt H2 s2 qa hno hps _ hdn hnb=>?_⟩
  refine Dj qa rfl ?_
  walk_at "r"
  obtain ⟨k,hk⟩:=Ri.mp hps
  have k3:=(Gp hk).2.2.2.1
  refine ⟨wd,k,rfl,hk,fun H3 s3=>?_⟩
  walk_at "r"
  refine ⟨by omega,by omega,fun D hD=>?_⟩
  refine Kd (n:=((k:Nat):Int).toNat) (Pv:=fun i ys σ' H'=>∃ kv ts,σ'=[kv,some (.ref p),some (.int c)]/\ys.length=i/\Al (TrAt K H') ys ts/\(∀ t∈ts,TrOk t)/\Aj ts=i/\Ba ts<=1/\SameT H3 H'/\Same H H') ⟨none,[],rfl,rfl,.nil,(fun t h=>nomatch h),by rw [Aj],by rw [Eh];omega,SameT.new hD,(s2.trans s3).put hD⟩ ?_ ?_
  ·rintro i ys σ' H' hi hys ⟨kv,ts,rfl,hl,al,okt,hsz,hdp,st,sm⟩
   walk_at "r"
   refine s_mul_r (by omega) (by omega) ?_
   walk_at "r"
   refine ⟨_,p,t0,t1,t2,rfl,sm.seq hp,n0,n1,n2,fun v t H4 s4 htv okv hz1 hd1=>?_⟩
   walk_at "r"
   have ey:=s4 _ _ hys
   refine ⟨_,ey,by omega,_,Ad,?_⟩
   have tt:=s4.t.trans (SameT.set (o:=.lst (ys++[v])) ey)
   refine ⟨_,ts++[t],rfl,by simp [hl],(al.mono fun _ _ h=>h.sameT tt).snoc (htv.sameT (SameT.set ey)),Lg okt okv,?_,?_,st.trans tt,(sm.trans s4).over ((s2.trans s3).free hD)⟩
   ·rw [F6,Aj,Aj];omega
   ·rw [J0];omega
  ·rintro ys σ' H4 hys ⟨kv,ts,rfl,hl,al,okt,hsz,hdp,st,sm⟩
   have hl:ys.length=k:=by omega
   walk_at "r"
   refine Zdm (SqL.of hys) fun p5 h5=>?_
   have s5:=Same.upd (o:=.tup ys) h5
   walk_at "r"
   refine ⟨Bj,fun p6 h6=>?_⟩
   have s6:=Same.upd (o:=.tup [.str wd,note,.ref p5]) h6
   have s56:=s5.trans s6
   have htl:ts.length=k:=by rw [<- al.1];exact hl
   refine q (.ref p6) (.mk wd n ts) _ (sm.trans s56) (.mk (SqT.of Ad) (hno.same ((s3.t.trans st).trans s56.t)) (s6.tup (SqT.of Ad)) al.1 fun j v t e1 e2=>(al.2 j v t e1 e2).same s56) (.mk (by rw [htl];exact hk) hdn hnb okt) ?_ ?_
   ·rw [Tr.size];omega
   ·rw [D3];omega
noncomputable def Zd7 (K:Om):Sp:=fun vs H Q _=>∃(v:V)(p:Addr)(t u:Tr)(pl:List Nat),vs=[v,.ref p]/\TrAt K H v t/\SqT K H p (Aw pl)/\At t pl u/\Q (.bl true) H
theorem sc_law_has:Ay ["_law_tree_here", "_law_place", "_law_form_here", "_law_k"] ["_law_tree_here", "_law_place"] (An Jm):=by walk_at "sc"
theorem Zoo {f:Addr}{fd:FuncData}(F:Fun K "_law_has" "_law_has" Jm f fd)(T:Txt K mg):Aq P w K mg base Ar 1 f fd ["_law_tree_here", "_law_place"] (Zd7 K):=by
 refine F.okq sc_law_has (fun vs H Q E h=>?_) (fun cdv A outer s H vs Q E hr h=>?_)
 ·obtain ⟨v,p,t,u,pl,rfl,_⟩:=h
  rfl
 ·obtain ⟨v,p,t,u,pl,rfl,ht,hp,ha,q⟩:=h
  refine ⟨_,Ae (Ao 2 sc_law_has (qv 0))
   (Ae (B1 Pb rfl (Dd K (qv 1)) (Ax (i:=3) sc_law_has.nd rfl (Or.inl rfl)) (Ae (A0 (QW.qt (Du (B8 (B9 (A8 (Ef K "int") (by rfl) T.isinstance (by decide +kernel) (Aa (qv 3) (Aa (Eg (v:=.ty "int") (by rfl) T.int (by decide +kernel) rfl) Ab))))) (Fa (B8 (Kg Dm Ja Ac (qv 3) (A8 (Bt K) (by rfl) T.len (by decide +kernel) (Aa (Am K (qv 2) Ac) Ab))))))) (Af (Ak Cm)) A4)
   (Af (Ao 2 sc_law_has (Am K (Am K (qv 2) Ac) (qv 3))))))
   (Af (Ak Cm))),?_⟩
  walk_at "r"
  refine .inr (.inl ⟨p,rfl,⟨_,hp⟩,?_⟩)
  refine Nc (K:=K) (a:=p) (xs:=Aw pl) (fun i σ' H'=>∃ v' w3 m,σ'=[some v,some (.ref p),some v',w3]/\H'=H/\At t (pl.take i) m/\TrAt K H v' m) ⟨v,none,t,rfl,rfl,.nil _,ht⟩ ?_ ?_ ?_
  ·rintro i σ' H' _ ⟨_,_,_,_,rfl,_⟩
   exact hp
  ·rintro i x σ' H' hx ⟨v',w3,m,rfl,rfl,hm,hv⟩
   obtain ⟨k,rfl,hk⟩:=K0 hx
   obtain ⟨w',n',ts,m',a1,a2,a3⟩:=ha.step hk
   cases hm.det a1
   cases hv with
   | @mk b pp _ nv _ us _ qb hn qp l hch =>
   have hku:k < us.length:=by rw [l];exact (O3.mp a2).1
   walk_at "r"
   refine Zn2 (.int _) (b:=true) Hs ?_
   walk_at "r"
   rw [decide_eq_true (show (0:Int)<=((k:Nat):Int) by omega)]
   walk_at "r"
   refine A3 qb rfl ?_
   walk_at "r"
   refine Ek qp ?_
   walk_at "r"
   rw [decide_eq_true (show ((k:Nat):Int) < ((us.length:Nat):Int) by omega)]
   walk_at "r"
   refine A3 qb rfl ?_
   walk_at "r"
   refine A3 qp (Gh (Oo hku)) ?_
   walk_at "r"
   exact ⟨_,_,m',rfl,rfl,a3,hch k _ m' (Oo hku) a2⟩
  ·rintro σ' H' ⟨v',w3,m,rfl,rfl,hm,hv⟩
   walk_at "r"
   exact q
theorem Mm (ns:List Int)(j k:Nat):∃ ms:List Int,Bq (ns.map V.int) (some (j:Int)) (some (k:Int))=ms.map V.int/\ms.length<=k - j:=by
 refine ⟨(ns.drop j).take (k - j),?_,?_⟩
 ·rw [Zrs,List.map_take,List.map_drop]
 ·rw [Ps]
  omega
theorem At.okw {t u f:Tr}{pl:List Nat}(h:At t pl u):TrOk t->TrOk f->TrOk (Bh t pl f):=by
 induction h with
 | nil t=>intro _ o;rw [Dr];exact o
 | cons e _ ih =>
  intro o of
  rw [Ea e]
  cases o with
  | mk hp hd hb hs =>
   refine .mk (by rw [R4];exact hp) hd hb fun x hx=>?_
   rcases List.mem_or_eq_of_mem_set hx with hx | rfl
   ·exact hs x hx
   ·exact ih (hs _ (Pn e)) of
theorem At.depw {t u f:Tr}{pl:List Nat}(h:At t pl u):Bm (Bh t pl f)<=Bm t+Bm f:=by
 induction h with
 | nil t=>rw [Dr];omega
 | @cons w n ts j t u r e _ ih =>
  rw [Ea e,D3,D3]
  have h1:=Zpe ts j (Bh t r f)
  have h2:=Zam e
  omega
noncomputable def Zck (K:Om):Sp:=fun vs H Q _=>∃(a p:Addr)(ns:List Int)(t0 t1 t2:Str),vs=[.ref a,.ref p]/\SqL K H a (ns.map V.int)/\ns.length<=63/\SqL K H p [.str t0,.str t1,.str t2]/\A6 t0=true/\A6 t1=true/\A6 t2=true /\
 ∀(r:Addr)(x y:V)(t u:Tr)(H':Hp),Same H H'->SqL K H' r [x,y]->TrAt K H' x t->TrAt K H' y u->TrOk t->TrOk u->t.size<=140->u.size<=140->Bm t<=60->Bm u<=60->Q (.ref r) H'
theorem TrOk.if3 {s t u:Tr}(hs:TrOk s)(ht:TrOk t)(hu:TrOk u):TrOk (.mk "if" (.flat .non) [s,t,u]) :=
 .mk (by show Bp "if" = some 3;decide +kernel) (.fl (v:=.non) trivial) (by decide +kernel) (fun x hx=>by
  simp only [Oy,Pw,or_false] at hx
  rcases hx with rfl | rfl | rfl <;> assumption)
theorem tr2 {K:Om}{H:Hp}{a p:Addr}{w:Str}{nv x y:V}{n:Dt}{t u:Tr}(q:SqT K H a [.str w,nv,.ref p])(hn:IsN K H nv n)(qp:SqT K H p [x,y])(hx:TrAt K H x t)(hy:TrAt K H y u):TrAt K H (.ref a) (.mk w n [t,u]) :=
 .mk q hn qp rfl fun j v z f1 f2=>by
  match j,f1,f2 with
  | 0,f1,f2=>cases f1;cases f2;exact hx
  | 1,f1,f2=>cases f1;cases f2;exact hy
theorem tr3 {K:Om}{H:Hp}{a p:Addr}{w:Str}{nv x y z:V}{n:Dt}{t u s:Tr}(q:SqT K H a [.str w,nv,.ref p])(hn:IsN K H nv n)(qp:SqT K H p [x,y,z])(hx:TrAt K H x t)(hy:TrAt K H y u)(hz:TrAt K H z s):TrAt K H (.ref a) (.mk w n [t,u,s]) :=
 .mk q hn qp rfl fun j v z f1 f2=>by
  match j,f1,f2 with
  | 0,f1,f2=>cases f1;cases f2;exact hx
  | 1,f1,f2=>cases f1;cases f2;exact hy
  | 2,f1,f2=>cases f1;cases f2;exact hz
theorem sc_law_trees:Ay ["_law_script", "_law_names_here", "_law_gap", "_law_tree_here", "_law_other", "_law_turn", "_law_cell_here", "_law_rows", "_law_place"] ["_law_script", "_law_names_here"] (An Ju):=by walk_at "sc"
theorem viaS {t:TS}{X:St->Hp->Prop}{rt:VK}{bk ct:St->Hp->Prop}{σ:St}{H:Hp}(R:St->Hp->Prop)(h2:∀ σ' H',R σ' H'->X σ' H')(h1:∀ Y:St->Hp->Prop,(∀ σ' H',R σ' H'->Y σ' H')->t ⟨Y,rt,bk,ct⟩ σ H):t ⟨X,rt,bk,ct⟩ σ H:=h1 X h2
theorem Zos {f:Addr}{fd:FuncData}(F:Fun K "_law_trees" "_law_trees" Ju f fd)(T:Txt K mg)(C__law_cell:Av P w K mg base 1 "_law_cell" ["_law_script", "_law_k"] (Zbb K))(C__law_tree:Av P w K mg base 3 "_law_tree" ["_law_cells", "_law_names_here"] (Zfu K))(C__law_walk:Av P w K mg base 1 "_law_walk" ["_law_tree_here"] (Ze5 K))(C__law_with:Av P w K mg base 2 "_law_with" ["_law_tree_here", "_law_place", "_law_form_here"] (L8 K))(C__law_small:Av P w K mg base 4 "_law_small" ["_law_cell_here", "_law_names_here"] (Zb6 K)):Aq P w K mg base Ar 5 f fd ["_law_script", "_law_names_here"] (Zck K):=by
 refine F.okq sc_law_trees (fun vs H Q E h=>?_) (fun cdv A outer s H vs Q E hr h=>?_)
 ·obtain ⟨a,p,ns,t0,t1,t2,rfl,_⟩:=h
  rfl
 ·obtain ⟨a,p,ns,t0,t1,t2,rfl,hS,hn,hp,n0,n1,n2,q⟩:=h
  refine ⟨_,Ae (Ao 2 sc_law_trees (Ap (Aa A2 (Aa E3 (Aa (Ap Ab) Ab)))))
   (Ae (Ao 3 sc_law_trees (As C__law_tree hr.m (Aa (Ee (Io K) (qv 0) (Db Ac) (Db Ac)) (Aa (qv 1) Ab))))
   (Ae (Ao 4 sc_law_trees (As C__law_tree hr.m (Aa (Ee (Io K) (qv 0) (Db Ac) (Db Ac)) (Aa (qv 1) Ab))))
   (Ae (Ao 5 sc_law_trees (Ag A7 (As C__law_cell hr.m (Aa (qv 0) (Aa Ac Ab))) Ac))
   (Ae (A0 (A5 Go (qv 5) Ac (Az _)) (Ae (Ao 4 sc_law_trees (qv 3))
   (Af (B1 Pb rfl (Dd K (Ee (Io K) (qv 0) (Db Ac) (Db Ac))) (Ax (i:=6) sc_law_trees.nd rfl (Or.inl rfl)) (Ae (Ao 7 sc_law_trees (As C__law_walk hr.m (Aa (qv 4) Ab)))
   (Ae (Ao 8 sc_law_trees (Am K (Am K (qv 7) (Ag A7 (Ag A7 (Ag Cn (qv 6) Ac) Ac) (A8 (Bt K) (by rfl) T.len (by decide +kernel) (Aa (qv 7) Ab)))) Ac))
   (Af (Ao 4 sc_law_trees (As C__law_with hr.m (Aa (qv 4) (Aa (qv 8) (Aa (As C__law_small hr.m (Aa (qv 6) (Aa (qv 1) Ab))) Ab))))))))))) A4)
   (Ae (A0 (A5 (Bl K hr.u200) (qv 5) Ac (Az _)) (Af (Ak (Br (Aa (Ap (Aa A2 (Aa E3 (Aa (Ap (Aa (qv 3) (Aa (qv 2) (Aa (qv 2) Ab)))) Ab)))) (Aa (Ap (Aa A2 (Aa E3 (Aa (Ap (Aa (qv 4) (Aa (qv 2) (Aa (qv 3) Ab)))) Ab)))) Ab))))) A4)
   (Ae (A0 (A5 (Bl K hr.u200) (qv 5) Ac (Az _)) (Af (Ak (Br (Aa (Ap (Aa A2 (Aa (Am K (qv 1) Ac) (Aa (Ap (Aa (qv 3) (Aa (qv 3) Ab))) Ab)))) (Aa (Ap (Aa A2 (Aa (Am K (qv 1) Ac) (Aa (Ap (Aa (qv 4) (Aa (qv 2) Ab))) Ab)))) Ab))))) A4)
   (Af (Ak (Br (Aa (qv 3) (Aa (qv 4) Ab))))))))))),?_⟩
  have bg:=big
  walk_at "r"
  refine ⟨B0,fun pe he=>?_⟩
  have s1:=Same.upd (o:=.tup []) he
  walk_at "r"
  refine ⟨Bj,fun pg hg=>?_⟩
  have s2:=Same.upd (o:=.tup [.str "gap",.non,.ref pe]) hg
  have gp:TrAt K (upd (upd H pe (.tup [])) pg (.tup [.str "gap",.non,.ref pe])) (.ref pg) gapT:=TrAt.gap (SqT.of Ad) (s2.tup (SqT.of Ad))
  have m2:=s1.trans s2
  revert gp m2
  generalize upd (upd H pe (.tup [])) pg (.tup [.str "gap",.non,.ref pe])=H2
  intro gp m2
  walk_at "r"
  refine Za7 (m2.seq hS) fun pc hpc=>?_
  obtain ⟨ms,hms,hml⟩:=Mm ns 3 12
  rw [show Bq (ns.map V.int) (some 3) (some 12)=ms.map V.int from hms]
  have s3:=Same.upd (o:=.lst (ms.map V.int)) hpc
  have m3:=m2.trans s3
  walk_at "r"
  refine ⟨pc,p,ms,t0,t1,t2,rfl,SqL.of Ad,by omega,m3.seq hp,n0,n1,n2,fun x t H4 s4 hx okx szx dpx=>?_⟩
  have m4:=m3.trans s4
  walk_at "r"
  refine Za7 (m4.seq hS) fun pd hpd=>?_
  obtain ⟨ks,hks,hkl⟩:=Mm ns 12 21
  rw [show Bq (ns.map V.int) (some 12) (some 21)=ks.map V.int from hks]
  have s5:=Same.upd (o:=.lst (ks.map V.int)) hpd
  have m5:=m4.trans s5
  walk_at "r"
  refine ⟨pd,p,ks,t0,t1,t2,rfl,SqL.of Ad,by omega,m5.seq hp,n0,n1,n2,fun y u H6 s6 hy oky szy dpy=>?_⟩
  have m6:=m5.trans s6
  have s46:=s5.trans s6
  have hx6:=hx.same s46
  have gp6:=gp.same (s3.trans (s4.trans s46))
  walk_at "r"
  refine ⟨a,2,rfl,⟨ns,m6.seq hS,hn⟩,by decide,fun z2=>?_⟩
  iterate 4 walk_at "r1"
  refine viaS (t:=Lr _ _ _) (R:=fun σ' H'=>∃ y' u' v6 v7 v8,σ'=[some (.ref a),some (.ref p),some (.ref pg),some x,some y',some (.int (z2 % 4)),v6,v7,v8]/\TrAt K H' y' u'/\TrOk u'/\u'.size<=70/\Bm u'<=31/\Same H6 H') ?_ (fun Y hY=>?_)
  rotate_left
  ·walk_at "r"
   refine A1 (fun _=>?_) (fun _=>?_)
   rotate_left
   ·walk_at "r"
    exact hY _ _ ⟨y,u,_,_,_,rfl,hy,oky,by omega,by omega,Same.refl _⟩
   walk_at "r"
   refine Za7 (m6.seq hS) fun pi hpi=>?_
   obtain ⟨js,hjs,hjl⟩:=Mm ns 21 27
   rw [show Bq (ns.map V.int) (some 21) (some 27)=js.map V.int from hjs]
   have s7:=Same.upd (o:=.lst (js.map V.int)) hpi
   have e7:upd H6 pi (.lst (js.map V.int)) pi=some (.lst (js.map V.int)):=Ad
   revert s7 e7
   generalize upd H6 pi (.lst (js.map V.int))=H7
   intro s7 e7
   walk_at "r"
   refine .inl ⟨pi,rfl,⟨_,SqL.of e7⟩,?_⟩
   refine Lo (K:=K) (a:=pi) (xs:=js.map V.int) (fun i σ' H'=>∃ y' u' v6 v7 v8,σ'=[some (.ref a),some (.ref p),some (.ref pg),some x,some y',some (.int (z2 % 4)),v6,v7,v8]/\TrAt K H' y' u'/\TrOk u'/\u'.size<=46+4 * i/\Bm u'<=19+2 * i/\Same H7 H') ⟨x,t,_,_,_,rfl,hx6.same s7,okx,by omega,by omega,Same.refl _⟩ ?_ ?_ ?_
   ·rintro i σ' H' _ ⟨_,_,_,_,_,_,_,_,_,_,sm⟩
    exact SqL.of (sm _ _ e7)
   ·rintro i xv σ' H' hxv ⟨y',u',v6,v7,v8,rfl,hy',oky',szu,dpu,sm⟩
    obtain ⟨z,_,rfl⟩:=Sc.mp (Pn hxv)
    have hi:=(O3.mp hxv).1
    rw [Pa] at hi
    walk_at "r"
    refine ⟨y',u',rfl,hy',by omega,fun pr rows H8 s8 hpr er al=>?_⟩
    have hrl:1<=rows.length:=by rw [al.1,Er];have:=u'.size_eq;omega
    walk_at "r"
    refine Ey (SqL.of er) ?_
    refine s_rI (by omega) ?_
    obtain ⟨w0,hw0,hm0⟩:=Di (xs:=rows) (i:=z * 7919 % 10007 % ((rows.length:Nat):Int)) (Py _ (by omega)) (P6 _ (by omega))
    obtain ⟨k,hk⟩:=List.getElem?_of_mem hm0
    obtain ⟨⟨pl,fx⟩,hpl,ra,pp,fv,rfl,qa,qp,hf⟩:=al.get hk
    have hat:At u' pl fx:=Ob u' _ (Pn hpl)
    refine B5 (SqL.of er) hw0 ?_
    walk_at "r"
    refine A3 qa rfl ?_
    walk_at "r"
    refine ⟨z,p,t0,t1,t2,rfl,(m6.trans (s7.trans (sm.trans s8))).seq hp,n0,n1,n2,fun v9 t9 H9 s9 h9 ok9 sz9 dp9=>?_⟩
    walk_at "r"
    refine ⟨y',pp,v9,u',fx,t9,pl,rfl,hy'.same (s8.trans s9),by omega,s9.tup qp,hat,h9,fun v10 H10 s10 h10=>?_⟩
    have hz10:=hat.size (f:=t9)
    have hd10:=hat.depw (f:=t9)
    walk_at "r"
    exact ⟨v10,_,_,_,_,rfl,h10,hat.okw oky' ok9,by omega,by omega,sm.trans (s8.trans (s9.trans s10))⟩
   ·rintro σ' H' ⟨y',u',v6,v7,v8,rfl,hy',oky',szu,dpu,sm⟩
    rw [Pa] at szu dpu
    exact hY _ _ ⟨y',u',_,_,_,rfl,hy',oky',by omega,by omega,s7.trans sm⟩
  rintro σ' H7 ⟨y',u',v6,v7,v8,rfl,hy7,oku,szu,dpu,s7⟩
  have hx7:=hx6.same s7
  have gp7:=gp6.same s7
  have m7:=m6.trans s7
  have dg:=Fw
  have sg:=Iq
  walk_at "r"
  refine A1 (fun _=>?_) (fun _=>?_)
  ·walk_at "r"
   refine ⟨Bj,fun p1 h1=>?_⟩
   have b1:=Same.upd (o:=.tup [x,.ref pg,.ref pg]) h1
   have c1:SqT K (upd H7 p1 (.tup [x,.ref pg,.ref pg])) p1 _:=SqT.of Ad
   revert b1 c1
   generalize upd H7 p1 (.tup [x,.ref pg,.ref pg])=G1
   intro b1 c1
   walk_at "r"
   refine ⟨Bj,fun p2 h2=>?_⟩
   have b2:=Same.upd (o:=.tup [.str "if",.non,.ref p1]) h2
   have c2:SqT K (upd G1 p2 (.tup [.str "if",.non,.ref p1])) p2 _:=SqT.of Ad
   revert b2 c2
   generalize upd G1 p2 (.tup [.str "if",.non,.ref p1])=G2
   intro b2 c2
   walk_at "r"
   refine ⟨Bj,fun p3 h3=>?_⟩
   have b3:=Same.upd (o:=.tup [y',.ref pg,x]) h3
   have c3:SqT K (upd G2 p3 (.tup [y',.ref pg,x])) p3 _:=SqT.of Ad
   revert b3 c3
   generalize upd G2 p3 (.tup [y',.ref pg,x])=G3
   intro b3 c3
   walk_at "r"
   refine ⟨Bj,fun p4 h4=>?_⟩
   have b4:=Same.upd (o:=.tup [.str "if",.non,.ref p3]) h4
   have c4:SqT K (upd G3 p4 (.tup [.str "if",.non,.ref p3])) p4 _:=SqT.of Ad
   revert b4 c4
   generalize upd G3 p4 (.tup [.str "if",.non,.ref p3])=G4
   intro b4 c4
   walk_at "r"
   refine ⟨B3,fun p5 h5=>?_⟩
   have b5:=Same.upd (o:=.lst [.ref p2,.ref p4]) h5
   have d34:=b3.trans (b4.trans b5)
   have d24:=b2.trans d34
   have Co:=b1.trans d24
   refine q p5 (.ref p2) (.ref p4) (.mk "if" (.flat .non) [t,gapT,gapT]) (.mk "if" (.flat .non) [u',gapT,t]) _ (m7.trans Co) (SqL.of Ad) (tr3 (d34.tup c2) (.inl ⟨rfl,rfl⟩) (d24.tup c1) (hx7.same Co) (gp7.same Co) (gp7.same Co)) (tr3 (b5.tup c4) (.inl ⟨rfl,rfl⟩) ((b4.trans b5).tup c3) (hy7.same Co) (gp7.same Co) (hx7.same Co)) (TrOk.if3 okx TrOk.gap TrOk.gap) (TrOk.if3 oku TrOk.gap okx) ?_ ?_ ?_ ?_
   ·rw [Tr.size,Aj,Aj,Aj,Aj];omega
   ·rw [Tr.size,Aj,Aj,Aj,Aj];omega
   ·rw [D3,Cz,Cz,Cz,Eh];omega
   ·rw [D3,Cz,Cz,Cz,Eh];omega
  walk_at "r"
  refine A1 (fun _=>?_) (fun _=>?_)
  ·walk_at "r"
   refine B5 (m7.seq hp) (v:=.str t0) rfl ?_
   walk_at "r"
   refine ⟨B3,fun p1 h1=>?_⟩
   have b1:=Same.upd (o:=.tup [x,x]) h1
   have c1:SqT K (upd H7 p1 (.tup [x,x])) p1 _:=SqT.of Ad
   revert b1 c1
   generalize upd H7 p1 (.tup [x,x])=G1
   intro b1 c1
   walk_at "r"
   refine ⟨Bj,fun p2 h2=>?_⟩
   have b2:=Same.upd (o:=.tup [.str "let",.str t0,.ref p1]) h2
   have c2:SqT K (upd G1 p2 (.tup [.str "let",.str t0,.ref p1])) p2 _:=SqT.of Ad
   revert b2 c2
   generalize upd G1 p2 (.tup [.str "let",.str t0,.ref p1])=G2
   intro b2 c2
   walk_at "r"
   refine B5 ((m7.trans (b1.trans b2)).seq hp) (v:=.str t0) rfl ?_
   walk_at "r"
   refine ⟨B3,fun p3 h3=>?_⟩
   have b3:=Same.upd (o:=.tup [y',.ref pg]) h3
   have c3:SqT K (upd G2 p3 (.tup [y',.ref pg])) p3 _:=SqT.of Ad
   revert b3 c3
   generalize upd G2 p3 (.tup [y',.ref pg])=G3
   intro b3 c3
   walk_at "r"
   refine ⟨Bj,fun p4 h4=>?_⟩
   have b4:=Same.upd (o:=.tup [.str "let",.str t0,.ref p3]) h4
   have c4:SqT K (upd G3 p4 (.tup [.str "let",.str t0,.ref p3])) p4 _:=SqT.of Ad
   revert b4 c4
   generalize upd G3 p4 (.tup [.str "let",.str t0,.ref p3])=G4
   intro b4 c4
   walk_at "r"
   refine ⟨B3,fun p5 h5=>?_⟩
   have b5:=Same.upd (o:=.lst [.ref p2,.ref p4]) h5
   have d34:=b3.trans (b4.trans b5)
   have d24:=b2.trans d34
   have Co:=b1.trans d24
   refine q p5 (.ref p2) (.ref p4) (.mk "let" (.flat (.str t0)) [t,t]) (.mk "let" (.flat (.str t0)) [u',gapT]) _ (m7.trans Co) (SqL.of Ad) (tr2 (d34.tup c2) (.inl ⟨rfl,rfl⟩) (d24.tup c1) (hx7.same Co) (hx7.same Co)) (tr2 (b5.tup c4) (.inl ⟨rfl,rfl⟩) ((b4.trans b5).tup c3) (hy7.same Co) (gp7.same Co)) (TrOk.let n0 okx okx) (TrOk.let n0 oku TrOk.gap) ?_ ?_ ?_ ?_
   ·rw [Tr.size,Aj,Aj,Aj];omega
   ·rw [Tr.size,Aj,Aj,Aj];omega
   ·rw [D3,Cz,Cz,Eh];omega
   ·rw [D3,Cz,Cz,Eh];omega
  walk_at "r"
  refine ⟨B3,fun p5 h5=>?_⟩
  have b5:=Same.upd (o:=.lst [x,y']) h5
  exact q p5 x y' t u' _ (m7.trans b5) (SqL.of Ad) (hx7.same b5) (hy7.same b5) okx oku (by omega) (by omega) (by omega) (by omega)
theorem Zlw {K:Om}{H:Hp}{v:V}{t:Tr}(h:TrAt K H v t):∃(a p:Addr)(n:V)(vs:List V),v=.ref a/\SqT K H a [.str t.wd,n,.ref p]/\(Bw n=true\/∃(b:Addr)(xs:List V),n=.ref b/\SqT K H b xs)/\SqT K H p vs:=by
 cases h with
 | mk q hn qp l hs =>
  refine ⟨_,_,_,_,rfl,q,?_,qp⟩
  rcases hn with ⟨h,_⟩ | ⟨a,vs,h1,h2,_⟩
  ·exact .inl h
  ·exact .inr ⟨a,vs,h1,h2⟩
noncomputable def Zfg (K:Om):Sp:=fun vs H Q _=>∃(x y:V)(t u:Tr),vs=[x,y]/\TrAt K H x t/\TrAt K H y u/\TrOk t/\TrOk u/\t.size<=140/\u.size<=140/\Bm t<=60/\Bm u<=60/\∀ H',Same H H'->Q (.bl true) H'
theorem Zkv:(["_law_part", "_law_gap"]:List Str).Nodup:=by decide +kernel
theorem sc_law_leads:Ay ["_law_tree_here", "_law_other", "_law_gap", "_law_row", "_law_here", "_law_pair", "_law_place", "_law_deed", "_law_form_here", "_law_made"] ["_law_tree_here", "_law_other"] (An Jh):=by walk_at "sc"
theorem Zob {c:Cs}{f:Addr}{fd:FuncData}(F:Fun K "_law_leads" "_law_leads" Jh f fd)(T:Txt K mg)(KL:Kl K mg c)(G_Put:mg "Put" = some (.ref c.p))(G_Cut:mg "Cut" = some (.ref c.c))(C_row_to:Av P w K mg base 9 "row_to" ["tree", "other"] (Nf K c))(C__law_has:Av P w K mg base 1 "_law_has" ["_law_tree_here", "_law_place"] (Zd7 K))(C__law_form:Av P w K mg base 1 "_law_form" ["_law_tree_here", "_law_place"] (M4 K))(C__law_with:Av P w K mg base 2 "_law_with" ["_law_tree_here", "_law_place", "_law_form_here"] (L8 K))(C_behind:Av P w K mg base 5 "behind" ["tree", "row"] (Zbr K c))(M:∀ o:Op,Jt Ar P w K mg base 3 (o.cls c) "done" ["self", "form"] (Im K c (o.cls c)))(MK_Cut:Lk K mg "Cut" c.c):Aq P w K mg base Ar 10 f fd ["_law_tree_here", "_law_other"] (Zfg K):=by
 refine F.okq sc_law_leads (fun vs H Q E h=>?_) (fun cdv A outer s H vs Q E hr h=>?_)
 ·obtain ⟨x,y,t,u,rfl,_⟩:=h
  rfl
 ·obtain ⟨x,y,t,u,rfl,hx,hy,okt,oku,szt,szu,dpt,dpu,q⟩:=h
  refine ⟨_,Ae (M8 (i:=2) sc_law_leads.nd rfl (Or.inr rfl) (Ap (Aa A2 (Aa E3 (Aa (Ap Ab) Ab)))))
   (Ae (Ao 3 sc_law_leads (As C_row_to hr.m (Aa (qv 0) (Aa (qv 1) Ab))))
   (Ae (A0 (B8 (B9 (A8 (Ef K "list") (by rfl) T.isinstance (by decide +kernel) (Aa (qv 3) (Aa (Eg (v:=.ty "list") (by rfl) T.list (by decide +kernel) rfl) Ab))))) (Af (Ak Cm)) A4)
   (Ae (Ao 4 sc_law_leads (qv 0))
   (Ae (B1 Pb rfl (Dd K (qv 3)) (Ax (i:=5) sc_law_leads.nd rfl (Or.inl rfl)) (Ae (A0 (QW.qt (Du (B8 (B9 (A8 (Ef K "tuple") (by rfl) T.isinstance (by decide +kernel) (Aa (qv 5) (Aa (Eg (v:=.ty "tuple") (by rfl) T.tuple (by decide +kernel) rfl) Ab))))) (Du (A5 (Kq K hr.u200) (A8 (Bt K) (by rfl) T.len (by decide +kernel) (Aa (qv 5) Ab)) Ac (Az _)) (Fa (B8 (B9 (A8 (Ef K "tuple") (by rfl) T.isinstance (by decide +kernel) (Aa (Am K (qv 5) Ac) (Aa (Eg (v:=.ty "tuple") (by rfl) T.tuple (by decide +kernel) rfl) Ab))))))))) (Af (Ak Cm)) A4)
   (Ae (Ez (qv 5) (De K (n:=2) rfl (Be (Ax (i:=6) sc_law_leads.nd rfl (Or.inl rfl)) (Be (Ax (i:=7) sc_law_leads.nd rfl (Or.inl rfl)) (C5)))))
   (Ae (A0 (B8 (B9 (As C__law_has hr.m (Aa (qv 4) (Aa (qv 6) Ab))))) (Af (Ak Cm)) A4)
   (Ae (Ao 8 sc_law_leads (As C__law_form hr.m (Aa (qv 4) (Aa (qv 6) Ab))))
   (Ae (Ao 9 sc_law_leads (qv 2))
   (Ae (A0 (B9 (A8 (Zcr (K:=K)) (by rfl) T.isinstance (by decide +kernel) (Aa (qv 7) (Aa (Zdn (v:=.ref c.p) (by rfl) G_Put rfl) Ab)))) (Ae (Ao 9 sc_law_leads (Zcv (k:=3) K Ar ["self", "form"] (qv 7) hr.m Ks (Aa (qv 2) Ab)))
   (Af (A0 (QW.qt (Du (A5 (Kq K hr.u200) (qv 8) (qv 2) (Az _)) (Du (A5 (Mf K hr.u200) (Am K (qv 9) Ac) A2 (Az _)) (Fa (A5 Go (A8 (Bt K) (by rfl) T.len (by decide +kernel) (Aa (Fu (N:=["_law_part", "_law_gap"]) (σ0:=C2 1 [2]) rfl (D6 rfl (by decide +kernel) (by decide +kernel) (by decide +kernel)) (Dd K (Am K (qv 9) Ac)) (D9 rfl (by rfl)) (fun _ _ _ _=>Ax (i:=0) Zkv rfl (Or.inl rfl)) (fun _ _ _ _=>Zc3 (A5 (Kq K hr.u200) (qv 0) (qv 1) (Az _))) (fun _ _ _ _=>qv 0)) Ab)) Ac (Az _)))))) (Af (Ak Cm)) A4))) (Af (A0 (QW.qt (Du (B8 (B9 (A8 (Zcr (K:=K)) (by rfl) T.isinstance (by decide +kernel) (Aa (qv 7) (Aa (Zdn (v:=.ref c.c) (by rfl) G_Cut rfl) Ab))))) (Fa (A5 (Mf K hr.u200) (qv 8) (qv 2) (Az _))))) (Af (Ak Cm)) A4)))
   (Af (Ao 4 sc_law_leads (As C__law_with hr.m (Aa (qv 4) (Aa (qv 6) (Aa (qv 9) Ab)))))))))))))
   (Ae (A0 (A5 (Kq K hr.u200) (As C_behind hr.m (Aa (qv 0) (Aa (qv 3) Ab))) (qv 1) (Az _)) (Af (Ak Cm)) A4)
   (Ae (C1 (Cu K Pk Qg Qh C8 (qv 3) (Aa (Ap (Aa (Ap Ab) (Aa (Zbq MK_Cut) Ab))) Ab)))
   (Af (Ak (Ca (Mf K hr.u200) (qv 4) (qv 1) (Az _)))))))))),?_⟩
  have bg:=big
  have hled:=Zf3 t u okt oku
  have hrl:=Za9 t u
  walk_at "r"
  refine ⟨B0,fun pe he=>?_⟩
  have s1:=Same.upd (o:=.tup []) he
  walk_at "r"
  refine ⟨Bj,fun pg hg=>?_⟩
  have s2:=Same.upd (o:=.tup [.str "gap",.non,.ref pe]) hg
  have qg:SqT K (upd (upd H pe (.tup [])) pg (.tup [.str "gap",.non,.ref pe])) pg [.str "gap",.non,.ref pe]:=SqT.of Ad
  have qe:SqT K (upd (upd H pe (.tup [])) pg (.tup [.str "gap",.non,.ref pe])) pe []:=s2.tup (SqT.of Ad)
  have m2:=s1.trans s2
  revert qg qe m2
  generalize upd (upd H pe (.tup [])) pg (.tup [.str "gap",.non,.ref pe])=H2
  intro qg qe m2
  have gp:=TrAt.gap qg qe
  walk_at "r"
  refine ⟨x,y,t,u,rfl,hx.same m2,hy.same m2,okt,oku,by omega,by omega,fun pr H3 s3 hpr h3=>?_⟩
  have m3:=m2.trans s3
  obtain ⟨ds,ed,al⟩:=h3
  walk_at "r"
  refine Zk7 (SqL.of ed) (b:=true) Hs ?_
  walk_at "r"
  refine .inl ⟨pr,rfl,⟨_,SqL.of ed⟩,?_⟩
  refine Lo (K:=K) (a:=pr) (xs:=ds) (fun i σ' H'=>∃ v5 v6 v7 v8 v9 h t',σ'=[some x,some y,some (.ref pg),some (.ref pr),some h,v5,v6,v7,v8,v9]/\TrAt K H' h t'/\Led t' ((Bs t u).drop i) u/\t'.size<=140+4 * i/\Same H3 H') ⟨_,_,_,_,_,x,t,rfl,hx.same m3,hled,by omega,Same.refl _⟩ ?_ ?_ ?_
  ·rintro i σ' H' _ ⟨_,_,_,_,_,_,_,_,_,_,_,sm⟩
   exact SqL.of (sm _ _ ed)
  ·rintro i xv σ' H' hxv ⟨v5,v6,v7,v8,v9,h,t',rfl,hh,hl',hz',sm⟩
   obtain ⟨⟨pl,o⟩,hgt,hdo⟩:=al.get hxv
   have hi:=(O3.mp hgt).1
   have hdr:(Bs t u).drop i=(pl,o)::(Bs t u).drop (i+1):=by
    rw [Qf hi]
    rw [Oo hi] at hgt
    rw [Ox hgt]
   rw [hdr] at hl'
   cases hl' with
   | @cons _ f g _ _ _ _ hat hd hs =>
   obtain ⟨a,qp,yv,rfl,qa,qq,hop⟩:=DoAt.same sm.i _ _ hdo
   have hat2:=hat.size (f:=g)
   have hgs:=Op.small hd
   have hfs:1<=f.size:=by have:=f.size_eq;omega
   have qg':=(s3.trans sm).tup qg
   have qe':=(s3.trans sm).tup qe
   have gp':=gp.same (s3.trans sm)
   walk_at "r"
   refine Zfx qa (b:=true) Hs ?_
   walk_at "r"
   refine Ek qa ?_
   refine Znl rfl ?_
   rw [show (!decide (V.int (([V.ref qp,yv]:List V).length:Nat)=V.int 2))=false from rfl]
   walk_at "r"
   refine A3 qa rfl ?_
   walk_at "r"
   refine Zfx qq (b:=true) Hs ?_
   walk_at "r"
   refine Dj qa rfl ?_
   walk_at "r"
   refine ⟨h,qp,t',f,pl,rfl,hh,qq,hat,?_⟩
   walk_at "r"
   refine ⟨h,qp,t',f,pl,rfl,hh,qq,hat,fun fv hfv=>?_⟩
   walk_at "r"
   cases o with
   | cut =>
    obtain ⟨hng,rfl⟩:=hd
    refine Zbe (KL.ty hop) (b:=false) KL.nk ?_
    walk_at "r"
    refine Zbe (KL.ty hop) (b:=true) Zdy ?_
    walk_at "r"
    obtain ⟨fa,fp,fn,fvs,rfl,f1,f2,f3⟩:=Zlw hfv
    refine Zk2 f1 f2 f3 qg' qe' hng ?_
    walk_at "r"
    refine ⟨h,qp,.ref pg,t',f,gapT,pl,rfl,hh,by omega,qq,hat,gp',fun v2 H5 s5 h5=>?_⟩
    walk_at "r"
    exact ⟨_,_,_,_,_,v2,_,rfl,h5,hs,by omega,sm.trans s5⟩
   | put b =>
    have hd':=hd
    obtain ⟨rfl,rfl,hnw,hgs',hg3⟩:=hd
    refine Zbe (KL.ty hop) (b:=true) Zdy ?_
    walk_at "r"
    obtain ⟨oa,dx,fs,rfl,ho,hfn⟩:=hop.ins
    refine ⟨_,rfl,oa,c.p,dx,fs,_,rfl,ho,hfn,M (.put g),?_⟩
    walk_at "r"
    refine ⟨_,.put g,.ref pg,gapT,g,rfl,hop,rfl,gp',hd',fun mv hmv=>?_⟩
    walk_at "r"
    obtain ⟨fa,fp,fn,rfl,f1⟩:=F3 hfv
    refine Nl (n:=2) (by decide) (Fd hfv (by rw [Fw];decide)) (Fd gp' (by rw [Fw];decide)) ?_
    walk_at "r"
    have hmv':=hmv
    cases hmv with
    | @mk mb mp mw mn md mus mts qb hn qp' l hch =>
    refine A3 qb rfl ?_
    walk_at "r"
    refine Zqn rfl ?_
    have hnw:¬ mw = "gap" := hnw
    rw [decide_eq_false (fun h=>hnw (V.str.inj h))]
    walk_at "r"
    refine A3 qb rfl ?_
    refine .inr (.inl ⟨mp,rfl,⟨_,qp'⟩,fun D hD=>?_⟩)
    refine Znd (K:=K) (a:=mp) (xs:=mus) (Pv:=fun i ys σ' H5=>∃ v0,σ'=[v0,some (.ref pg)]/\ys=[]/\Same H' H5) ⟨none,rfl,rfl,Same.upd hD⟩ ?_ ?_ ?_
    ·rintro i ys σ' H5 _ ⟨_,_,_,s5⟩
     exact s5.tup qp'
    ·rintro i xv ys σ' H5 hxv hys ⟨v0,rfl,rfl,s5⟩
     have hi5:i < mts.length:=by rw [<- l];exact (O3.mp hxv).1
     have hxt:=hch i xv _ hxv (Oo hi5)
     rw [hgs' _ (Re (l:=mts) hi5)] at hxt
     have hxt5:=hxt.same s5
     have gp5:=gp'.same s5
     obtain ⟨xa,xp,xn,rfl,x1⟩:=F3 hxt
     walk_at "r"
     refine Nl (n:=2) (by decide) (Fd hxt5 (by rw [Fw];decide)) (Fd gp5 (by rw [Fw];decide)) ?_
     walk_at "r"
     refine ⟨_,hys,?_⟩
     exact ⟨_,rfl,rfl,s5⟩
    ·rintro ys σ' H5 hys ⟨v0,rfl,rfl,s5⟩
     walk_at "r"
     refine Ey (SqL.of hys) ?_
     walk_at "r"
     refine iteF ?_
     walk_at "r"
     refine ⟨h,qp,.ref mb,t',gapT,_,pl,rfl,hh.same s5,by omega,s5.tup qq,hat,hmv'.same s5,fun v2 H6 s6 h6=>?_⟩
     walk_at "r"
     exact ⟨_,_,_,_,_,v2,_,rfl,h6,hs,by omega,sm.trans (s5.trans s6)⟩
  ·rintro σ' H' ⟨v5,v6,v7,v8,v9,h,t',rfl,hh,hl',hz',sm⟩
   rw [al.1,Vy] at hl'
   cases hl'
   walk_at "r"
   have m':=m3.trans sm
   refine ⟨x,pr,t,u,Bs t u,rfl,hx.same m',⟨ds,sm _ _ ed,al.mono (DoAt.same sm.i)⟩,hled,by omega,fun v1 H1 s1' h1=>?_⟩
   obtain ⟨ya,yp,yn,rfl,y1⟩:=F3 (hy.same m')
   obtain ⟨va,vp,vn,rfl,w1⟩:=F3 h1
   obtain ⟨ha,hp',hn',rfl,z1⟩:=F3 hh
   walk_at "r"
   refine Nl (n:=120) (by decide) (Fd h1 (by omega)) (Fd (hy.same (m'.trans s1')) (by omega)) ?_
   walk_at "r"
   have e1:=s1' _ _ (sm _ _ ed)
   refine B2 (SqL.of e1) ?_
   walk_at "r"
   refine ⟨B0,fun p4 h4=>?_⟩
   have s4:=Same.upd (o:=.tup []) h4
   walk_at "r"
   intro a5 d5 h5 h6 h7
   have s5:=Same.made (C:=c.c) (fs:=[]) h5 h6 h7
   have s15:=s1'.trans (s4.trans s5)
   revert s5 s15
   generalize upd (upd _ d5 (.own a5)) a5 (.ins c.c d5 [])=H5
   intro s5 s15
   walk_at "r"
   refine ⟨B3,fun p6 h6=>?_⟩
   have s6:=Same.upd (o:=.tup [.ref p4,.ref a5]) h6
   walk_at "r"
   refine Dc ((s4.trans (s5.trans s6)) _ _ e1) (by rw [al.1];omega) ?_
   walk_at "r"
   have s16:=s15.trans s6
   have st:=SameI.set (o:=.lst (ds++[.ref p6])) ((s4.trans (s5.trans s6)) _ _ e1)
   refine Zit (n:=120) (by decide) (Fd ((hh.same s16).sameT st.t) (by omega)) (Fd ((hy.same (m'.trans s16)).sameT st.t) (by omega)) ?_
   exact q _ ((m'.trans s16).over (m2.free hpr))
noncomputable def Zf9 (K:Om):Sp:=fun vs H Q _=>∃(a:Addr)(ns:List Int),vs=[.ref a]/\SqL K H a (ns.map V.int)/\ns.length<=63/\∀ H',Q (.bl true) H'
theorem sc_law:Ay ["_law_script", "_law_names_here", "_law_tree_here", "_law_other", "_law_k"] ["_law_script"] (An Hl):=by walk_at "sc"
theorem Ziu {c:Cs}{f:Addr}{fd:FuncData}(F:Fun K "law" "law" Hl f fd)(T:Txt K mg)(C__law_names:Av P w K mg base 1 "_law_names" ["_law_one", "_law_other"] Zcm)(C__law_cell:Av P w K mg base 1 "_law_cell" ["_law_script", "_law_k"] (Zbb K))(C__law_trees:Av P w K mg base 5 "_law_trees" ["_law_script", "_law_names_here"] (Zck K))(C__law_leads:Av P w K mg base 10 "_law_leads" ["_law_tree_here", "_law_other"] (Zfg K))(C_row_to:Av P w K mg base 9 "row_to" ["tree", "other"] (Nf K c)):Aq P w K mg base Ar 11 f fd ["_law_script"] (Zf9 K):=by
 refine F.okq sc_law (fun vs H Q E h=>?_) (fun cdv A outer s H vs Q E hr h=>?_)
 ·obtain ⟨a,ns,rfl,_⟩:=h
  rfl
 ·obtain ⟨a,ns,rfl,hS,hn,q⟩:=h
  have S:Zds K H a:=⟨ns,hS,hn⟩
  refine ⟨_,Ae (Ao 1 sc_law (As C__law_names hr.m (Aa (As C__law_cell hr.m (Aa (qv 0) (Aa Ac Ab))) (Aa (As C__law_cell hr.m (Aa (qv 0) (Aa Ac Ab))) Ab))))
   (Ae (Ez (As C__law_trees hr.m (Aa (qv 0) (Aa (qv 1) Ab))) (Zp6 K (n:=2) rfl (Be (Ax (i:=2) sc_law.nd rfl (Or.inl rfl)) (Be (Ax (i:=3) sc_law.nd rfl (Or.inl rfl)) (C5)))))
   (Ae (B1 Pb rfl (D7 rfl T.range (Aa Ac Ab)) (Ax (i:=4) sc_law.nd rfl (Or.inl rfl)) (Af (A0 (QW.qt (Du (B8 (B9 (As C__law_leads hr.m (Aa (qv 2) (Aa (qv 3) Ab))))) (Du (A5 (Zdx K hr.u200) (As C_row_to hr.m (Aa (qv 2) (Aa (qv 2) Ab))) (Br Ab) (Az _)) (Fa (A5 (Zdx K hr.u200) (As C_row_to hr.m (Aa (qv 3) (Aa (qv 3) Ab))) (Br Ab) (Az _)))))) (Af (Ak Cm)) A4)))
   (Af (Ak (As C__law_leads hr.m (Aa (qv 3) (Aa (qv 2) Ab))))))),?_⟩
  have bg:=big
  walk_at "r"
  refine ⟨a,0,rfl,S,by decide,fun z0=>?_⟩
  walk_at "r"
  refine ⟨a,1,rfl,S,by decide,fun z1=>?_⟩
  walk_at "r"
  refine ⟨z0,z1,rfl,fun p t0 t1 t2 H1 n0 n1 n2 s1 hp0 hp=>?_⟩
  walk_at "r"
  refine ⟨a,p,ns,t0,t1,t2,rfl,s1.seq hS,hn,SqL.of hp,n0,n1,n2,fun r x y t u H2 s2 qr hx hy okt oku szt szu dpt dpu=>?_⟩
  refine Zhn qr rfl ?_
  walk_at "r"
  refine ⟨by decide,by decide,?_⟩
  refine Hb (n:=(2:Int).toNat) (fun i σ' H'=>∃ v4,σ'=[some (.ref a),some (.ref p),some x,some y,v4]/\Same H2 H') ⟨_,rfl,Same.refl _⟩ ?_ ?_
  ·rintro i σ' H3 hi ⟨v4,rfl,s3⟩
   walk_at "r"
   refine ⟨x,y,t,u,rfl,hx.same s3,hy.same s3,okt,oku,szt,szu,dpt,dpu,fun H4 s4=>?_⟩
   have s34:=s3.trans s4
   walk_at "r"
   refine ⟨x,x,t,t,rfl,hx.same s34,hx.same s34,okt,okt,by omega,by omega,fun q5 H5 s5 hq5 h5=>?_⟩
   rw [Za1 t okt] at h5
   obtain ⟨vs5,e5,al5⟩:=h5
   have z5:vs5=[]:=Rh al5.1
   subst z5
   walk_at "r"
   refine ⟨B0,fun p6 h6=>?_⟩
   have s6:=Same.upd (o:=.lst []) h6
   refine Zbn (SqL.of (s6 _ _ e5)) (SqL.of Ad) ?_
   rw [show (!([]:List V).isEmpty)=false from rfl]
   walk_at "r"
   have s36:=s34.trans (s5.trans s6)
   refine ⟨y,y,u,u,rfl,hy.same s36,hy.same s36,oku,oku,by omega,by omega,fun q7 H7 s7 hq7 h7=>?_⟩
   rw [Za1 u oku] at h7
   obtain ⟨vs7,e7,al7⟩:=h7
   have z7:vs7=[]:=Rh al7.1
   subst z7
   walk_at "r"
   refine ⟨B0,fun p8 h8=>?_⟩
   have s8:=Same.upd (o:=.lst []) h8
   refine Zbn (SqL.of (s8 _ _ e7)) (SqL.of Ad) ?_
   rw [show (!([]:List V).isEmpty)=false from rfl]
   walk_at "r"
   exact ⟨_,rfl,s36.trans (s7.trans s8)⟩
  ·rintro σ' H3 ⟨v4,rfl,s3⟩
   walk_at "r"
   exact ⟨y,x,u,t,rfl,hy.same s3,hx.same s3,oku,okt,szu,szt,dpu,dpt,fun H4 _=>q H4⟩
end
end K27
namespace K27
open PySem L2
local macro_rules | `(tactic| walk_at "zF")=>`(tactic| exact (let +zeta a:=_; let +zeta b:=_; let +zeta c:=_; let +zeta d:=_; let +zeta e:=_; let +zeta f:=_; let +zeta g:=_; let +zeta h:=_; let +zeta i:=_; let +zeta j:=_; have +usedOnly q:(‹Stmt›:Stmt)=.FunctionDef a b c d e f g h i j:=rfl; .FunctionDef a b c d e f g h i j))
local macro_rules | `(tactic| walk_at "zA")=>`(tactic| exact (let +zeta a:=_; let +zeta b:=_; let +zeta c:=_; have +usedOnly q:(‹Stmt›:Stmt)=.Assign a b c:=rfl; .Assign a b c))
local macro_rules | `(tactic| walk_at "zC")=>`(tactic| exact (let +zeta a:=_; let +zeta b:=_; let +zeta c:=_; let +zeta d:=_; let +zeta e:=_; let +zeta f:=_; let +zeta g:=_; let +zeta h:=_; let +zeta i:=_; let +zeta j:=_; let +zeta k:=_; have +usedOnly q:(‹Stmt›:Stmt)=.ClassDef a b c d e f g h i j k:=rfl; .ClassDef a b c d e f g h i j k))
noncomputable def w0:Stmt:=by let +zeta s:=top 0;walk_at "zF"
noncomputable def w1:Stmt:=by let +zeta s:=top 1;walk_at "zA"
noncomputable def w2:Stmt:=by let +zeta s:=top 2;walk_at "zC"
noncomputable def w3:Stmt:=by let +zeta s:=top 3;walk_at "zC"
noncomputable def w4:Stmt:=by let +zeta s:=top 4;walk_at "zC"
noncomputable def w5:Stmt:=by let +zeta s:=top 5;walk_at "zC"
noncomputable def w6:Stmt:=by let +zeta s:=top 6;walk_at "zA"
noncomputable def w7:Stmt:=by let +zeta s:=top 7;walk_at "zA"
noncomputable def w8:Stmt:=by let +zeta s:=top 8;walk_at "zA"
noncomputable def w9:Stmt:=by let +zeta s:=top 9;walk_at "zA"
noncomputable def w10:Stmt:=by let +zeta s:=top 10;walk_at "zA"
noncomputable def w11:Stmt:=by let +zeta s:=top 11;walk_at "zA"
noncomputable def w12:Stmt:=by let +zeta s:=top 12;walk_at "zA"
noncomputable def w13:Stmt:=by let +zeta s:=top 13;walk_at "zF"
noncomputable def w14:Stmt:=by let +zeta s:=top 14;walk_at "zF"
noncomputable def w15:Stmt:=by let +zeta s:=top 15;walk_at "zF"
noncomputable def w16:Stmt:=by let +zeta s:=top 16;walk_at "zF"
noncomputable def w17:Stmt:=by let +zeta s:=top 17;walk_at "zF"
noncomputable def w18:Stmt:=by let +zeta s:=top 18;walk_at "zF"
noncomputable def w19:Stmt:=by let +zeta s:=top 19;walk_at "zF"
noncomputable def w20:Stmt:=by let +zeta s:=top 20;walk_at "zF"
noncomputable def w21:Stmt:=by let +zeta s:=top 21;walk_at "zF"
noncomputable def w22:Stmt:=by let +zeta s:=top 22;walk_at "zF"
noncomputable def w23:Stmt:=by let +zeta s:=top 23;walk_at "zA"
noncomputable def w24:Stmt:=by let +zeta s:=top 24;walk_at "zF"
noncomputable def w25:Stmt:=by let +zeta s:=top 25;walk_at "zF"
noncomputable def w26:Stmt:=by let +zeta s:=top 26;walk_at "zF"
noncomputable def w27:Stmt:=by let +zeta s:=top 27;walk_at "zF"
noncomputable def w28:Stmt:=by let +zeta s:=top 28;walk_at "zF"
noncomputable def w29:Stmt:=by let +zeta s:=top 29;walk_at "zF"
noncomputable def w30:Stmt:=by let +zeta s:=top 30;walk_at "zA"
noncomputable def w31:Stmt:=by let +zeta s:=top 31;walk_at "zF"
noncomputable def w32:Stmt:=by let +zeta s:=top 32;walk_at "zC"
noncomputable def Zms:Stmt:=by let +zeta s:=(Ct 33 0);walk_at "zF"
noncomputable def Zg7:Stmt:=by let +zeta s:=(Ct 33 1);walk_at "zF"
noncomputable def Np:Stmt:=by let +zeta s:=(Ct 33 2);walk_at "zF"
noncomputable def w33:Stmt:=let +zeta a:=_;let +zeta b:=_;let +zeta c:=_;let +zeta d:=_;let +zeta e:=_;let +zeta f:=_;let +zeta g:=_;let +zeta h:=_;let +zeta i:=_;let +zeta j:=_;let +zeta k:=_;have +usedOnly q:top 33=.ClassDef a b c d e f g h i j k:=rfl;.ClassDef a b c [Zms,Zg7,Np] e f g h i j k
noncomputable def w34:Stmt:=by let +zeta s:=top 34;walk_at "zC"
noncomputable def w35:Stmt:=by let +zeta s:=top 35;walk_at "zA"
noncomputable def w36:Stmt:=by let +zeta s:=top 36;walk_at "zF"
noncomputable def w37:Stmt:=by let +zeta s:=top 37;walk_at "zF"
noncomputable def w38:Stmt:=by let +zeta s:=top 38;walk_at "zF"
noncomputable def w39:Stmt:=by let +zeta s:=top 39;walk_at "zF"
noncomputable def w40:Stmt:=by let +zeta s:=top 40;walk_at "zF"
noncomputable def w41:Stmt:=by let +zeta s:=top 41;walk_at "zF"
noncomputable def w42:Stmt:=by let +zeta s:=top 42;walk_at "zF"
noncomputable def w43:Stmt:=by let +zeta s:=top 43;walk_at "zA"
noncomputable def w44:Stmt:=by let +zeta s:=top 44;walk_at "zF"
noncomputable def w45:Stmt:=by let +zeta s:=top 45;walk_at "zF"
noncomputable def w46:Stmt:=by let +zeta s:=top 46;walk_at "zF"
noncomputable def w47:Stmt:=by let +zeta s:=top 47;walk_at "zF"
noncomputable def w48:Stmt:=by let +zeta s:=top 48;walk_at "zF"
noncomputable def w49:Stmt:=by let +zeta s:=top 49;walk_at "zF"
noncomputable def w50:Stmt:=by let +zeta s:=top 50;walk_at "zF"
noncomputable def w51:Stmt:=by let +zeta s:=top 51;walk_at "zF"
noncomputable def w52:Stmt:=by let +zeta s:=top 52;walk_at "zF"
noncomputable def w53:Stmt:=by let +zeta s:=top 53;walk_at "zF"
noncomputable def w54:Stmt:=by let +zeta s:=top 54;walk_at "zF"
noncomputable def w55:Stmt:=by let +zeta s:=top 55;walk_at "zF"
noncomputable def w56:Stmt:=by let +zeta s:=top 56;walk_at "zF"
noncomputable def w57:Stmt:=by let +zeta s:=top 57;walk_at "zF"
noncomputable def w58:Stmt:=by let +zeta s:=top 58;walk_at "zF"
noncomputable def w59:Stmt:=by let +zeta s:=top 59;walk_at "zF"
noncomputable def PWc:Program:=let +zeta a:=_;let +zeta b:=_;let +zeta c:=_;let +zeta d:=_;let +zeta e:=_;let +zeta f:=_;let +zeta g:=_;let +zeta h:=_;let +zeta i:=_;let +zeta j:=_;have +usedOnly q:Rr=⟨⟨a,b,c,d,e⟩,f,g,h,i,j⟩:=rfl;⟨⟨[w0,w1,w2,w3,w4,w5,w6,w7,w8,w9,w10,w11,w12,w13,w14,w15,w16,w17,w18,w19,w20,w21,w22,w23,w24,w25,w26,w27,w28,w29,w30,w31,w32,w33,w34,w35,w36,w37,w38,w39,w40,w41,w42,w43,w44,w45,w46,w47,w48,w49,w50,w51,w52,w53,w54,w55,w56,w57,w58,w59],b,c,d,e⟩,f,g,h,i,j⟩
theorem e_PW:PWc=PWc:=rfl
name_quick x_PW for K27.PWc by K27.e_PW
end K27
noncomputable def PySem.W.Fast.tw10065353167375091164:PySem.Program:=PySem.W.Fast.tw4019442072042106627
theorem PySem.W.Fast.te10065353167375091164:Rr=PySem.W.Fast.tw10065353167375091164:=(rfl:Rr=K27.PWc).trans PySem.W.Fast.te4019442072042106627
namespace K27
open PySem L2
noncomputable def VWc:Program:={ Rr with main:={ Rr.main with body:=[w0,w2,w3,w4,w5,w7,w8,w9,w10,w11,w12,w13,w14,w15,w16,w17,w18,w19,w20,w21,w22,w24,w25,w26,w27,w28,w29,w31,w32,w33,w34,w36,w37,w38,w39,w40,w41,w42,w44,w45,w46,w47,w48,w49,w50,w51,w52,w53,w54,w55,w56,w57,w58,w59] } }
noncomputable def S0:List Stmt:=[w4]
noncomputable def S1:List Stmt:=[w8,w9,w10,w11,w12,w13,w14,w15,w16,w17]
noncomputable def S2:List Stmt:=[w0,w1,w2]
noncomputable def S3:List Stmt:=[w33]
noncomputable def S4:List Stmt:=[w32]
noncomputable def S5:List Stmt:=[w5,w6,w7]
noncomputable def S6:List Stmt:=[w34,w35,w36,w37,w38]
noncomputable def S7:List Stmt:=[w52,w53,w54,w55,w56,w57,w58,w59]
noncomputable def S8:List Stmt:=[w18,w19,w20,w21,w22,w23,w24,w25,w26,w27,w28,w29,w30,w31]
noncomputable def S9:List Stmt:=[w39,w40,w41,w42,w43,w44,w45,w46,w47,w48,w49,w50,w51]
noncomputable def S10:List Stmt:=[w3]
noncomputable def SB:Program×List (List Stmt):=(VWc,[S0,S1,S2,S3,S4,S5,S6,S7,S8,S9,S10])
theorem e_SB:SB=SB:=rfl
name_quick x_SB for K27.SB by K27.e_SB
end K27
noncomputable def PySem.W.Fast.tw16673333750034534217:PySem.Program:=PySem.W.Fast.tw12597642905190727269
theorem PySem.W.Fast.te16673333750034534217:K27.VWc=PySem.W.Fast.tw16673333750034534217:=PySem.W.Fast.te12597642905190727269
noncomputable def PySem.W.Fast.tw15182030828153447840:List Qt:=PySem.W.Fast.tw427727758550245465
theorem PySem.W.Fast.te15182030828153447840:K27.S0=PySem.W.Fast.tw15182030828153447840:=PySem.W.Fast.te427727758550245465
noncomputable def PySem.W.Fast.tw4169476614192540580:List Qt:=PySem.W.Fast.tw10743508693924713780
theorem PySem.W.Fast.te4169476614192540580:K27.S1=PySem.W.Fast.tw4169476614192540580:=PySem.W.Fast.te10743508693924713780
noncomputable def PySem.W.Fast.tw7718225487234724261:List Qt:=PySem.W.Fast.tw14853298872387258531
theorem PySem.W.Fast.te7718225487234724261:K27.S2=PySem.W.Fast.tw7718225487234724261:=PySem.W.Fast.te14853298872387258531
noncomputable def PySem.W.Fast.tw17786504187022637351:List Qt:=PySem.W.Fast.tw12711621882602647797
theorem PySem.W.Fast.te17786504187022637351:K27.S3=PySem.W.Fast.tw17786504187022637351:=PySem.W.Fast.te12711621882602647797
noncomputable def PySem.W.Fast.tw926502406764387406:List Qt:=PySem.W.Fast.tw13519102023522390496
theorem PySem.W.Fast.te926502406764387406:K27.S4=PySem.W.Fast.tw926502406764387406:=PySem.W.Fast.te13519102023522390496
noncomputable def PySem.W.Fast.tw17029078895235669489:List Qt:=PySem.W.Fast.tw14740760922662854088
theorem PySem.W.Fast.te17029078895235669489:K27.S5=PySem.W.Fast.tw17029078895235669489:=PySem.W.Fast.te14740760922662854088
noncomputable def PySem.W.Fast.tw10427106184801965649:List Qt:=PySem.W.Fast.tw13678230235531924801
theorem PySem.W.Fast.te10427106184801965649:K27.S6=PySem.W.Fast.tw10427106184801965649:=PySem.W.Fast.te13678230235531924801
noncomputable def PySem.W.Fast.tw315965036187660498:List Qt:=PySem.W.Fast.tw17966939431124845249
theorem PySem.W.Fast.te315965036187660498:K27.S7=PySem.W.Fast.tw315965036187660498:=PySem.W.Fast.te17966939431124845249
noncomputable def PySem.W.Fast.tw10181605152332942297:List Qt:=PySem.W.Fast.tw560059965797675102
theorem PySem.W.Fast.te10181605152332942297:K27.S8=PySem.W.Fast.tw10181605152332942297:=PySem.W.Fast.te560059965797675102
noncomputable def PySem.W.Fast.tw16606919478762908764:List Qt:=PySem.W.Fast.tw5165102646139441829
theorem PySem.W.Fast.te16606919478762908764:K27.S9=PySem.W.Fast.tw16606919478762908764:=PySem.W.Fast.te5165102646139441829
noncomputable def PySem.W.Fast.tw15706366110801234941:List Qt:=PySem.W.Fast.tw3728238113147559072
theorem PySem.W.Fast.te15706366110801234941:K27.S10=PySem.W.Fast.tw15706366110801234941:=PySem.W.Fast.te3728238113147559072
namespace K27
open PySem L2 PySem.W
noncomputable def zs (i j:Nat):Stmt:=match top i with | .ClassDef _ _ _ b _ _ _ _ _ _ _=>b.getD j (.Pass ⟨0,0,0,0⟩) | s=>s
noncomputable def ze (P:Params)(s:Str)(t:Tok)(v:Value):DictEntry:=⟨PyData.keyHash P s,.str s t,v⟩
noncomputable abbrev B:=Qd
noncomputable def evb (l:List Obj):Bool->List Obj:=@List.rec Obj (fun _=>Bool->List Obj) (fun _=>[]) (fun a _ ih b=>@Bool.rec (fun _=>List Obj) (ih true) (a::ih false) b) l
noncomputable def tO (l:List Obj):B:=@Nat.rec (fun _=>List Obj->B) (fun _=>.nil) (fun _ ih l=>@List.rec Obj (fun _=>B) .nil (fun x r _=>.node x (ih (evb r true)) (ih (evb r false))) l) 12 l
noncomputable def zv:List (Str×Tok)->List Value
 | []=>[]
 | (a,b)::t=>.str a b::zv t
noncomputable def zu (l:List (Str×Tok)):Obj:=⟨.type "tuple",none,.seq ⟨zv l⟩,#[]⟩
noncomputable def zt (c:String)(d:Data):Obj:=⟨.type c,none,d,#[]⟩
noncomputable def zf (n q:Str)(s:Stmt)(m:Str)(t:Tok)(c:Addr):Obj:=⟨.type "function",none,.func (P4 n q (Cy s) (Cb s) (An s) .none .none .none (.str m t) none (.ref c) .none),#[]⟩
noncomputable def zh (n q:Str)(s:Stmt):Obj:=⟨.none,none,.func ⟨n,q,Cy s,.stmts (Cb s),An s,0,[],.none,.none,.none,.none,none,.none,.none,0⟩,#[]⟩
noncomputable def zk (n q:Str)(t:Tok)(l a g:Int)(r:Addr)(b:Bool)(x:Value)(u:Int)(v:Tok):Obj:=⟨.type "code",none,.fields #[.str n t,.str q (t+1),.str "/claim/cut.py" (t+2),.int l 0,.int a 0,.int 0 0,.int 0 0,.int g 0,.ref r,.bool b,.int 181 0,.ref (r+1),.none,.none,.none,x,.int u 0,.int l 0,.str "/claim/cut.py" v],#[]⟩
noncomputable def zw:List (Int×Int×Addr)->List Value
 | []=>[]
 | (a,b,c)::t=>.int a 0::.int b 0::.ref c::zw t
noncomputable def zy (l:List (Int×Int×Addr)):Obj:=⟨.none,none,.fields ⟨zw l⟩,#[]⟩
noncomputable def zc (n q:Str)(t:Tok)(l a g:Int)(r:Addr)(u:Int)(v:Tok):Obj:=⟨.type "code",none,.fields #[.str n t,.str q (t+1),.str "/claim/cut.py" (t+2),.int l 0,.int a 0,.int 0 0,.int 0 0,.int g 0,.ref r,.bool true,.int 181 0,.ref (r+1),.none,.ref (r+2),.ref (r+3),.ref (r+4),.int u 0,.int l 0,.str "/claim/cut.py" v],#[]⟩
noncomputable def zb (n:Str):=zc n n
noncomputable def zi (n:Str):=zf n n
noncomputable def zj (n:Str):=zh n n
noncomputable section
def d0 (P:Params):=[ze P "__name__" 165 (.str "gapscribe.errors" 194),ze P "__doc__" 166 .none,ze P "__package__" 167 .none,ze P "__loader__" 168 (.builtin "__main__.__loader__#opaque"),ze P "__spec__" 169 .none,ze P "__annotations__" 170 (.ref 6),ze P "__builtins__" 171 (.ref 4),ze P "__file__" 173 (.str "/claim/cut.py" 172),ze P "__cached__" 174 .none,ze P "_wall" 193 (.ref 21),ze P "GapError" 213 (.ref 31)]
def z0 (P:Params):=zt "dict" (.dict ⟨d0 P⟩ 11)
def z1:=zt "tuple" (.seq #[])
noncomputable def y0:List (Int×Int×Addr):=[(1,0,20),(5,0,27)]
def z2:=zy y0
def z3:=zk "<module>" "<module>" 182 1 0 0 11 false .none 185 186
noncomputable def Ew (x0:Nat)(x1:Nat)(x2:Str)(x3:Nat):Obj:=Obj.mk (.type "frame") none Data.plain #[some (.ref x0),some (.ref 3),some (.ref x1),none,some (.str x2 x3),none,some (.ref 0)]
def z4:=Ew 13 3 "__main__" 164
def h0_0 (P:Params)(t:List Obj):=(boot_o_0 P)::(boot_o_1 P)::(boot_o_2 P)::(z0 P)::(boot_o_4 P)::(boot_o_5 P)::(boot_o_6 P)::(boot_o_7 P)::(boot_o_8 P)::(boot_o_9 P)::(boot_o_10 P)::z1::z2::z3::z4::z1::t
noncomputable def z5:=Obj.mk .none none (.fields #[]) #[]
def z6:=zu [("k",190)]
def z7:=zj "_wall" w0
def z8:=zb "_wall" 187 1 1 3 15 191 192
def z9:=zi "_wall" w0 "__main__" 164 20
def z10:=zt "tuple" (.seq #[.type "ValueError"])
def z11:=zt "builtin_function_or_method" (.fields #[.builtin "type.__prepare__",.type "type"])
def zq1 (P:Params)(x0:Nat)(x1:Str)(x2:Int)(x3:Nat):Obj:=zt "dict" (.dict #[ze P "__module__" x0 (.str "gapscribe.errors" 194),ze P "__qualname__" (x0+2) (.str x1 (x0+1)),ze P "__firstlineno__" (x0+4) (.int x2 (x0+3)),ze P "__static_attributes__" (x0+5) (.ref x3)] 4)
def z12 (P:Params):=zq1 P 203 "GapError" 5 29
def z13:=zk "GapError" "GapError" 198 5 0 0 25 false .none 201 202
def z14:=Ew 27 24 "gapscribe.errors" 194
def z15 (P:Params):=zt "dict" (.dict #[ze P "__module__" 203 (.str "gapscribe.errors" 194),ze P "__firstlineno__" 207 (.int 5 206),ze P "__static_attributes__" 208 (.ref 29),ze P "__weakref__" 210 (.ref 32),ze P "__doc__" 211 .none] 3)
noncomputable def zq2 (x0:List Value):Obj:=Obj.mk (.type "type") none (.cls (ClassData.mk "GapError" [.type "ValueError"] [.ref 31,.type "ValueError",.type "Exception",.type "BaseException",.type "object"] 30 "GapError" true [] x0 false none false)) #[some (.ref 22),none,some (.str "GapError" 196),some (.str "GapError" 204),some (.builtin "ValueError.__new__"),some (.bool true)]
def z16:=zq2 []
def h1_0 (P:Params)(t:List Obj):=z5::z6::z1::z7::z8::z9::z10::z11::(z12 P)::z1::z5::z13::z14::z1::(z15 P)::z16::t
def z17:=zt "getset_descriptor" (.fields #[.str "__weakref__" 209,.ref 31,.builtin "ExceptionGroup.__weakref__",.none])
def z18:=zt "super" (.fields #[.ref 31,.ref 31,.ref 31])
def F4 (x0:Nat):Obj:=zt "builtin_function_or_method" (.fields #[.builtin "object.__init_subclass__",.ref x0])
def z19:=F4 31
def h2_0 (P:Params)(t:List Obj):=z17::z18::z19::t
def Rtree_70:Params->B:=fun P=>tO (h0_0 P (h1_0 P (h2_0 P [])))
def d1 (P:Params):=d0 P++[ze P "NoForm" 229 (.ref 44)]
def z20 (P:Params):=zt "dict" (.dict ⟨d1 P⟩ 12)
def y1:List (Int×Int×Addr):=y0++[(7,0,40)]
def z21:=zy y1
def D8 (P:Params)(x0 x1:Obj)(t:List Obj):List Obj:=(boot_o_0 P)::(boot_o_1 P)::(boot_o_2 P)::x0::(boot_o_4 P)::(boot_o_5 P)::(boot_o_6 P)::(boot_o_7 P)::(boot_o_8 P)::(boot_o_9 P)::(boot_o_10 P)::z1::x1::z3::z4::z1::t
def h3_0 (P:Params)(t:List Obj):=D8 P (z20 P) z21 t
def z22:=zq2 [.ref 44]
def h4_0 (P:Params)(t:List Obj):=z5::z6::z1::z7::z8::z9::z10::z11::(z12 P)::z1::z5::z13::z14::z1::(z15 P)::z22::t
def z23:=zt "tuple" (.seq #[.ref 31])
def z24 (P:Params):=zq1 P 221 "NoForm" 7 42
def z25:=zk "NoForm" "NoForm" 216 7 0 0 38 false .none 219 220
def z26:=Ew 40 37 "gapscribe.errors" 194
def z27 (P:Params):=zt "dict" (.dict #[ze P "__module__" 221 (.str "gapscribe.errors" 194),ze P "__firstlineno__" 225 (.int 7 224),ze P "__static_attributes__" 226 (.ref 42),ze P "__doc__" 227 .none] 2)
noncomputable def zq4 (x0:Str)(x1:Nat)(x2:Nat)(x3:Nat)(x4:Nat):Obj:=Obj.mk (.type "type") none (.cls (ClassData.mk x0 [.ref 31] [.ref x1,.ref 31,.type "ValueError",.type "Exception",.type "BaseException",.type "object"] x2 x0 true [] [] false none false)) #[some (.ref x3),none,some (.str x0 x4),some (.str x0 (x4+8)),some (.builtin "ValueError.__new__"),some (.bool true)]
def z28:=zq4 "NoForm" 44 43 35 214
def z29:=zt "super" (.fields #[.ref 44,.ref 44,.ref 44])
def z30:=F4 44
def h5_0 (P:Params)(t:List Obj):=z17::z18::z19::z23::z11::(z24 P)::z1::z5::z25::z26::z1::(z27 P)::z28::z29::z30::t
def Rtree_85:Params->B:=fun P=>tO (h3_0 P (h4_0 P (h5_0 P [])))
def d2 (P:Params):=d1 P++[ze P "NoDeed" 245 (.ref 56)]
def z31 (P:Params):=zt "dict" (.dict ⟨d2 P⟩ 13)
def y2:List (Int×Int×Addr):=y1++[(9,0,52)]
def z32:=zy y2
def h6_0 (P:Params)(t:List Obj):=D8 P (z31 P) z32 t
def z33:=zq2 [.ref 44,.ref 56]
def h7_0 (P:Params)(t:List Obj):=z5::z6::z1::z7::z8::z9::z10::z11::(z12 P)::z1::z5::z13::z14::z1::(z15 P)::z33::t
def Ed (P:Params)(t:List Obj):List Obj:=z17::z18::z19::z23::z11::(z24 P)::z1::z5::z25::z26::z1::(z27 P)::z28::z29::z30::z23::t
def z34 (P:Params):=zq1 P 237 "NoDeed" 9 54
def z35:=zk "NoDeed" "NoDeed" 232 9 0 0 50 false .none 235 236
def z36:=Ew 52 49 "gapscribe.errors" 194
def z37 (P:Params):=zt "dict" (.dict #[ze P "__module__" 237 (.str "gapscribe.errors" 194),ze P "__firstlineno__" 241 (.int 9 240),ze P "__static_attributes__" 242 (.ref 54),ze P "__doc__" 243 .none] 2)
def z38:=zq4 "NoDeed" 56 55 47 230
def z39:=zt "super" (.fields #[.ref 56,.ref 56,.ref 56])
def z40:=F4 56
def h9_0 (P:Params)(t:List Obj):=z11::(z34 P)::z1::z5::z35::z36::z1::(z37 P)::z38::z39::z40::t
def Rtree_100:Params->B:=fun P=>tO (h6_0 P (h7_0 P (Ed P (h9_0 P []))))
def d3 (P:Params):=[ze P "__name__" 165 (.str "gapscribe.forms" 271),ze P "__doc__" 166 .none,ze P "__package__" 167 .none,ze P "__loader__" 168 (.builtin "__main__.__loader__#opaque"),ze P "__spec__" 169 .none,ze P "__annotations__" 170 (.ref 6),ze P "__builtins__" 171 (.ref 4),ze P "__file__" 173 (.str "/claim/cut.py" 172),ze P "__cached__" 174 .none,ze P "_wall" 193 (.ref 21),ze P "GapError" 213 (.ref 31),ze P "NoForm" 229 (.ref 44),ze P "NoDeed" 245 (.ref 56),ze P "NoPlace" 270 (.ref 75),ze P "GAP" 274 (.ref 79)]
def z41 (P:Params):=zt "dict" (.dict ⟨d3 P⟩ 15)
def y3:List (Int×Int×Addr):=y2++[(11,0,64)]
def z42:=zy y3
def Zmo (P:Params)(t:List Obj):List Obj:=D8 P (z41 P) z42 t
def z43:=zq2 [.ref 44,.ref 56,.ref 75]
def Et (P:Params)(t:List Obj):List Obj:=z5::z6::z1::z7::z8::z9::z10::z11::(z12 P)::z1::z5::z13::z14::z1::(z15 P)::z43::t
def d4 (P:Params):=[ze P "__module__" 253 (.str "gapscribe.errors" 194),ze P "__qualname__" 255 (.str "NoPlace" 254),ze P "__firstlineno__" 257 (.int 11 256),ze P "__init__" 265 (.ref 72),ze P "__static_attributes__" 267 (.ref 73)]
def z44 (P:Params):=zt "dict" (.dict ⟨d4 P⟩ 5)
noncomputable def y4:List (Int×Int×Addr):=[(13,4,71)]
def z45:=zy y4
def Eu (P:Params)(t:List Obj):List Obj:=z11::(z34 P)::z1::z5::z35::z36::z1::(z37 P)::z38::z39::z40::z23::z11::(z44 P)::z1::z45::t
def z46:=zk "NoPlace" "NoPlace" 248 11 0 0 62 false .none 251 252
def z47:=Ew 64 61 "gapscribe.errors" 194
def z48:=zu [("self",261),("place",262)]
def z49:=zh "__init__" "NoPlace.__init__" (Ct 5 0)
def z50:=zc "__init__" "NoPlace.__init__" 258 13 2 3 66 263 264
def z51:=zf "__init__" "NoPlace.__init__" (Ct 5 0) "gapscribe.errors" 194 71
def z52:=zu [("place",266)]
def z53 (P:Params):=zt "dict" (.dict #[ze P "__module__" 253 (.str "gapscribe.errors" 194),ze P "__firstlineno__" 257 (.int 11 256),ze P "__init__" 265 (.ref 72),ze P "__static_attributes__" 267 (.ref 73),ze P "__doc__" 268 .none] 2)
def z54:=zq4 "NoPlace" 75 74 59 246
def z55:=zt "super" (.fields #[.ref 75,.ref 75,.ref 75])
def z56:=F4 75
def z57:=zt "tuple" (.seq #[.str "gap" 273,.none,.ref 78])
def Ep (P:Params)(t:List Obj):List Obj:=z46::z47::z1::z5::z48::z1::z49::z50::z51::z52::(z53 P)::z54::z55::z56::z1::z57::t
def Rtree_124:Params->B:=fun P=>tO (Zmo P (Et P (Ed P (Eu P (Ep P [])))))
def d5 (P:Params):=d3 P++[ze P "PARTS_OF_WORDS" 314 (.ref 80),ze P "NAME_SIGNS" 316 (.str "abcdefghijklmnopqrstuvwxyz_" 315),ze P "FIGURES" 318 (.str "0123456789" 317),ze P "WORDS_NO_NAMES" 328 (.ref 81),ze P "WORDS_NOT_ODD" 339 (.ref 82),ze P "is_whole" 346 (.ref 89),ze P "is_name" 352 (.ref 94),ze P "is_figures" 358 (.ref 99),ze P "is_odd_sign" 365 (.ref 106),ze P "is_odd" 371 (.ref 111)]
def z58 (P:Params):=zt "dict" (.dict ⟨d5 P⟩ 25)
def y5:List (Int×Int×Addr):=y3++[(22,0,88),(24,0,93),(28,0,98),(32,0,105),(34,0,110)]
def z59:=zy y5
def Zns (P:Params)(t:List Obj):List Obj:=D8 P (z58 P) z59 t
def d6 (P:Params):=[ze P "gap" 275 (.int 0 276),ze P "odd" 277 (.int 0 278),ze P "num" 279 (.int 0 280),ze P "truth" 281 (.int 0 282),ze P "name" 283 (.int 0 284),ze P "plus" 285 (.int 2 286),ze P "minus" 287 (.int 2 288),ze P "less" 289 (.int 2 290),ze P "call" 291 (.int 2 292),ze P "if" 293 (.int 3 294),ze P "fn" 295 (.int 1 296),ze P "rec" 297 (.int 1 298),ze P "let" 299 (.int 2 300)]
def z60 (P:Params):=zt "dict" (.dict ⟨d6 P⟩ 13)
def z61:=zu [("let",319),("in",320),("if",321),("then",322),("else",323),("fn",324),("rec",325),("yes",326),("no",327)]
def z62:=zu [("let",329),("if",330),("fn",331),("rec",332),("yes",333),("no",334),("?",335),("+",336),("-",337),("<",338)]
def z63:=zu [("thing",343)]
def z64:=zj "is_whole" Hu
def z65:=zb "is_whole" 340 22 1 3 83 344 345
def z66:=zi "is_whole" Hu "gapscribe.forms" 271 88
def z67:=zj "is_name" Iy
def z68:=zk "is_name" "is_name" 347 24 1 3 90 true (.ref 92) 350 351
def z69:=zi "is_name" Iy "gapscribe.forms" 271 93
def E7 (P:Params)(t:List Obj):List Obj:=(z60 P)::z61::z62::z1::z5::z63::z1::z64::z65::z66::z1::z5::z67::z68::z69::z1::t
def z70:=zj "is_figures" Jr
def z71:=zk "is_figures" "is_figures" 353 28 1 3 95 true (.ref 97) 356 357
def z72:=zi "is_figures" Jr "gapscribe.forms" 271 98
def z73:=zu [("sign",362)]
def z74:=zj "is_odd_sign" Ig
def z75:=zb "is_odd_sign" 359 32 1 3 100 363 364
def z76:=zi "is_odd_sign" Ig "gapscribe.forms" 271 105
def z77:=zj "is_odd" Il
def z78:=zk "is_odd" "is_odd" 366 34 1 3 107 true (.ref 109) 369 370
def z79:=zi "is_odd" Il "gapscribe.forms" 271 110
def E6 (P:Params)(t:List Obj):List Obj:=z5::z70::z71::z72::z1::z5::z73::z1::z74::z75::z76::z1::z5::z77::z78::z79::t
def Rtree_158:Params->B:=fun P=>tO (Zns P (Et P (Ed P (Eu P (Ep P (E7 P (E6 P [])))))))
def d7 (P:Params):=[ze P "__name__" 165 (.str "gapscribe.deeds" 472),ze P "__doc__" 166 .none,ze P "__package__" 167 .none,ze P "__loader__" 168 (.builtin "__main__.__loader__#opaque"),ze P "__spec__" 169 .none,ze P "__annotations__" 170 (.ref 6),ze P "__builtins__" 171 (.ref 4),ze P "__file__" 173 (.str "/claim/cut.py" 172),ze P "__cached__" 174 .none,ze P "_wall" 193 (.ref 21),ze P "GapError" 213 (.ref 31),ze P "NoForm" 229 (.ref 44),ze P "NoDeed" 245 (.ref 56),ze P "NoPlace" 270 (.ref 75),ze P "GAP" 274 (.ref 79),ze P "PARTS_OF_WORDS" 314 (.ref 80),ze P "NAME_SIGNS" 316 (.str "abcdefghijklmnopqrstuvwxyz_" 315),ze P "FIGURES" 318 (.str "0123456789" 317),ze P "WORDS_NO_NAMES" 328 (.ref 81),ze P "WORDS_NOT_ODD" 339 (.ref 82),ze P "is_whole" 346 (.ref 89),ze P "is_name" 352 (.ref 94),ze P "is_figures" 358 (.ref 99),ze P "is_odd_sign" 365 (.ref 106),ze P "is_odd" 371 (.ref 111),ze P "is_word" 378 (.ref 118),ze P "is_two_names" 385 (.ref 125),ze P "is_note" 393 (.ref 132),ze P "many_parts" 400 (.ref 139),ze P "bare" 409 (.ref 146),ze P "placed_forms" 423 (.ref 153),ze P "has_part" 431 (.ref 160),ze P "forms_down_to" 441 (.ref 167),ze P "form_at" 449 (.ref 174),ze P "with_part" 459 (.ref 181),ze P "with_at" 471 (.ref 188),ze P "refuse_no_gap" 480 (.ref 195)]
def z80 (P:Params):=zt "dict" (.dict ⟨d7 P⟩ 37)
def y6:List (Int×Int×Addr):=y5++[(40,0,117),(42,0,124),(44,0,131),(56,0,138),(60,0,145),(66,0,152),(75,0,159),(77,0,166),(84,0,173),(86,0,180),(89,0,187),(95,0,194)]
def z81:=zy y6
def Zru (P:Params)(t:List Obj):List Obj:=D8 P (z80 P) z81 t
def z82:=zu [("thing",375)]
def z83:=zj "is_word" Ix
def z84:=zb "is_word" 372 40 1 3 112 376 377
def z85:=zi "is_word" Ix "gapscribe.forms" 271 117
def z86:=zu [("thing",382)]
def z87:=zj "is_two_names" Jv
def z88:=zb "is_two_names" 379 42 1 3 119 383 384
def z89:=zi "is_two_names" Jv "gapscribe.forms" 271 124
def Fy (P:Params)(t:List Obj):List Obj:=z1::z5::z82::z1::z83::z84::z85::z1::z5::z86::z1::z87::z88::z89::z1::z5::t
def z90:=zu [("word",389),("note",390)]
def z91:=zj "is_note" Ir
def z92:=zb "is_note" 386 44 2 3 126 391 392
def z93:=zi "is_note" Ir "gapscribe.forms" 271 131
def z94:=zu [("word",397)]
def z95:=zj "many_parts" Jz
def z96:=zb "many_parts" 394 56 1 3 133 398 399
def z97:=zi "many_parts" Jz "gapscribe.forms" 271 138
def z98:=zu [("word",404),("note",405),("many",406)]
def F7 (P:Params)(t:List Obj):List Obj:=z90::z1::z91::z92::z93::z1::z5::z94::z1::z95::z96::z97::z1::z5::z98::z1::t
def z99:=zj "bare" Iz
def z100:=zb "bare" 401 60 2 3 140 407 408
def z101:=zi "bare" Iz "gapscribe.forms" 271 145
def z102:=zu [("tree",415),("told",416),("waiting",417),("pair",418),("number",419),("part",420)]
def z103:=zj "placed_forms" Jw
def z104:=zb "placed_forms" 412 66 1 3 147 421 422
def z105:=zi "placed_forms" Jw "gapscribe.places" 410 152
def z106:=zu [("form",427),("number",428)]
def z107:=zj "has_part" Iw
def z108:=zb "has_part" 424 75 2 3 154 429 430
def Fx (P:Params)(t:List Obj):List Obj:=z99::z100::z101::z1::z5::z102::z1::z103::z104::z105::z1::z5::z106::z1::z107::z108::t
def z109:=zi "has_part" Iw "gapscribe.places" 410 159
def z110:=zu [("tree",435),("place",436),("passed",437),("number",438)]
def z111:=zj "forms_down_to" Jl
def z112:=zb "forms_down_to" 432 77 2 3 161 439 440
def z113:=zi "forms_down_to" Jl "gapscribe.places" 410 166
def z114:=zu [("tree",445),("place",446)]
def z115:=zj "form_at" Iu
def z116:=zb "form_at" 442 84 2 3 168 447 448
def z117:=zi "form_at" Iu "gapscribe.places" 410 173
def F2 (P:Params)(t:List Obj):List Obj:=z109::z1::z5::z110::z1::z111::z112::z113::z1::z5::z114::z1::z115::z116::z117::z1::t
def z118:=zu [("form",453),("number",454),("part",455),("parts",456)]
def z119:=zj "with_part" Ie
def z120:=zb "with_part" 450 86 3 3 175 457 458
def z121:=zi "with_part" Ie "gapscribe.places" 410 180
def z122:=zu [("tree",463),("place",464),("form",465),("made",466),("number",467),("above",468)]
def z123:=zj "with_at" Hr
def z124:=zb "with_at" 460 89 3 3 182 469 470
def z125:=zi "with_at" Hr "gapscribe.places" 410 187
def z126:=zu [("form",477)]
def F1 (P:Params)(t:List Obj):List Obj:=z5::z118::z1::z119::z120::z121::z1::z5::z122::z1::z123::z124::z125::z1::z5::z126::t
def z127:=zj "refuse_no_gap" Ho
def Za8:Obj:=zb "refuse_no_gap" 474 95 1 3 189 478 479
def Nh:Obj:=zi "refuse_no_gap" Ho "gapscribe.deeds" 472 194
def Zlb (P:Params)(t:List Obj):List Obj:=z1::z127::Za8::Nh::t
def Rtree_246:Params->B:=fun P=>tO (Zru P (Et P (Ed P (Eu P (Ep P (E7 P (E6 P (Fy P (F7 P (Fx P (F2 P (F1 P (Zlb P [])))))))))))))
def d8 (P:Params):=d7 P++[ze P "Deed" 516 (.ref 219)]
def z130 (P:Params):=zt "dict" (.dict ⟨d8 P⟩ 38)
def y7:List (Int×Int×Addr):=y6++[(98,0,201)]
def z131:=zy y7
def Zq4 (P:Params)(t:List Obj):List Obj:=D8 P (z130 P) z131 t
def d9 (P:Params):=[ze P "__module__" 488 (.str "gapscribe.deeds" 472),ze P "__qualname__" 490 (.str "Deed" 489),ze P "__firstlineno__" 492 (.int 98 491),ze P "done" 500 (.ref 209),ze P "back" 508 (.ref 216),ze P "__static_attributes__" 509 (.ref 217)]
def z132 (P:Params):=zt "dict" (.dict ⟨d9 P⟩ 6)
noncomputable def y8:List (Int×Int×Addr):=[(100,4,208),(103,4,215)]
def z133:=zy y8
def z134:=zk "Deed" "Deed" 483 98 0 0 199 false .none 486 487
def z135:=Ew 201 198 "gapscribe.deeds" 472
def z136:=zu [("self",496),("form",497)]
def z137:=zh "done" "Deed.done" (Ct 32 0)
def G6 (P:Params)(t:List Obj):List Obj:=z1::z127::Za8::Nh::z1::z11::(z132 P)::z1::z133::z134::z135::z1::z5::z136::z1::z137::t
def z138:=zc "done" "Deed.done" 493 100 2 3 203 498 499
def z139:=zf "done" "Deed.done" (Ct 32 0) "gapscribe.deeds" 472 208
def z140:=zu [("self",504),("form",505)]
def z141:=zh "back" "Deed.back" (Ct 32 1)
def z142:=zc "back" "Deed.back" 501 103 2 3 210 506 507
def z143:=zf "back" "Deed.back" (Ct 32 1) "gapscribe.deeds" 472 215
def d10 (P:Params):=[ze P "__module__" 488 (.str "gapscribe.deeds" 472),ze P "__firstlineno__" 492 (.int 98 491),ze P "done" 500 (.ref 209),ze P "back" 508 (.ref 216),ze P "__static_attributes__" 509 (.ref 217),ze P "__dict__" 511 (.ref 220),ze P "__weakref__" 513 (.ref 221),ze P "__doc__" 514 .none]
def Na (P:Params):Obj:=zt "dict" (.dict ⟨d10 P⟩ 4)
noncomputable def zq5 (x0:List Value):Obj:=Obj.mk (.type "type") none (.cls (ClassData.mk "Deed" [.type "object"] [.ref 219,.type "object"] 218 "Deed" true [] x0 false none false)) #[none,none,some (.str "Deed" 481),some (.str "Deed" 489),some (.builtin "object.__new__"),some (.bool true)]
def z145:=zq5 []
def z146:=zt "getset_descriptor" (.fields #[.str "__dict__" 510,.ref 219,.builtin "function.__dict__",.builtin "function.__dict__#set"])
def z147:=zt "getset_descriptor" (.fields #[.str "__weakref__" 512,.ref 219,.builtin "ExceptionGroup.__weakref__",.none])
def z148:=zt "super" (.fields #[.ref 219,.ref 219,.ref 219])
def z149:=F4 219
def Zgy (P:Params)(t:List Obj):List Obj:=z138::z139::z1::z5::z140::z1::z141::z142::z143::z1::(Na P)::z145::z146::z147::z148::z149::t
def Rtree_276:Params->B:=fun P=>tO (Zq4 P (Et P (Ed P (Eu P (Ep P (E7 P (E6 P (Fy P (F7 P (Fx P (F2 P (F1 P (G6 P (Zgy P []))))))))))))))
def d11 (P:Params):=d8 P++[ze P "Put" 558 (.ref 255)]
def z150 (P:Params):=zt "dict" (.dict ⟨d11 P⟩ 39)
def y9:List (Int×Int×Addr):=y7++[(105,0,229)]
def z151:=zy y9
def Zol (P:Params)(t:List Obj):List Obj:=D8 P (z150 P) z151 t
def z152:=zq5 [.ref 255]
def zn1 (P:Params)(x0:Obj)(t:List Obj):List Obj:=z138::z139::z1::z5::z140::z1::z141::z142::z143::z1::(Na P)::x0::z146::z147::z148::z149::t
def Zg1 (P:Params)(t:List Obj):List Obj:=zn1 P z152 t
def z153:=zt "tuple" (.seq #[.ref 219])
def d12 (P:Params):=[ze P "__module__" 524 (.str "gapscribe.deeds" 472),ze P "__qualname__" 526 (.str "Put" 525),ze P "__firstlineno__" 528 (.int 105 527),ze P "__init__" 537 (.ref 238),ze P "done" 545 (.ref 245),ze P "back" 553 (.ref 252),ze P "__static_attributes__" 555 (.ref 253)]
def z154 (P:Params):=zt "dict" (.dict ⟨d12 P⟩ 7)
noncomputable def y10:List (Int×Int×Addr):=[(107,4,237),(112,4,244),(116,4,251)]
def z155:=zy y10
def z156:=zk "Put" "Put" 519 105 0 0 227 false .none 522 523
def z157:=Ew 229 226 "gapscribe.deeds" 472
def z158:=zt "tuple" (.seq #[.none])
def z159:=zu [("self",532),("word",533),("note",534)]
def z160:=zh "__init__" "Put.__init__" Da
def z161:=zc "__init__" "Put.__init__" 529 107 3 3 232 535 536
noncomputable def z162:=Obj.mk (Value.type "function") none (.func ⟨"__init__", "Put.__init__",Cy Da,.stmts (Cb Da),An Da,3,[],.ref 231,.none,.none,.str "gapscribe.deeds" 472,none,.ref 237,.none,0⟩) #[]
def Hi (P:Params)(t:List Obj):List Obj:=z153::z11::(z154 P)::z1::z155::z156::z157::z158::z1::z5::z159::z1::z160::z161::z162::z1::t
def z163:=zu [("self",541),("form",542)]
def z164:=zh "done" "Put.done" G0
def z165:=zc "done" "Put.done" 538 112 2 3 239 543 544
def z166:=zf "done" "Put.done" G0 "gapscribe.deeds" 472 244
def z167:=zu [("self",549),("form",550)]
def z168:=zh "back" "Put.back" Np
def z169:=zc "back" "Put.back" 546 116 2 3 246 551 552
def z170:=zf "back" "Put.back" Np "gapscribe.deeds" 472 251
def z171:=zu [("form",554)]
def d13 (P:Params):=[ze P "__module__" 524 (.str "gapscribe.deeds" 472),ze P "__firstlineno__" 528 (.int 105 527),ze P "__init__" 537 (.ref 238),ze P "done" 545 (.ref 245),ze P "back" 553 (.ref 252),ze P "__static_attributes__" 555 (.ref 253),ze P "__doc__" 556 .none]
def z172 (P:Params):=zt "dict" (.dict ⟨d13 P⟩ 2)
noncomputable def z173:=Obj.mk (.type "type") none (.cls (ClassData.mk "Put" [.ref 219] [.ref 255,.ref 219,.type "object"] 254 "Put" true [] [] false none false)) #[some (.ref 224),none,some (.str "Put" 517),some (.str "Put" 525),some (.builtin "object.__new__"),some (.bool true)]
def J5 (P:Params)(t:List Obj):List Obj:=z5::z163::z1::z164::z165::z166::z1::z5::z167::z1::z168::z169::z170::z171::(z172 P)::z173::t
def z174:=zt "super" (.fields #[.ref 255,.ref 255,.ref 255])
def z175:=F4 255
def Znh (P:Params)(t:List Obj):List Obj:=z174::z175::t
def Rtree_313:Params->B:=fun P=>tO (Zol P (Et P (Ed P (Eu P (Ep P (E7 P (E6 P (Fy P (F7 P (Fx P (F2 P (F1 P (G6 P (Zg1 P (Hi P (J5 P (Znh P [])))))))))))))))))
def Co (P:Params):List DictEntry:=[ze P "__name__" 165 (.str "gapscribe.ways" 591),ze P "__doc__" 166 .none,ze P "__package__" 167 .none,ze P "__loader__" 168 (.builtin "__main__.__loader__#opaque"),ze P "__spec__" 169 .none,ze P "__annotations__" 170 (.ref 6),ze P "__builtins__" 171 (.ref 4),ze P "__file__" 173 (.str "/claim/cut.py" 172),ze P "__cached__" 174 .none,ze P "_wall" 193 (.ref 21),ze P "GapError" 213 (.ref 31),ze P "NoForm" 229 (.ref 44),ze P "NoDeed" 245 (.ref 56),ze P "NoPlace" 270 (.ref 75),ze P "GAP" 274 (.ref 79),ze P "PARTS_OF_WORDS" 314 (.ref 80),ze P "NAME_SIGNS" 316 (.str "abcdefghijklmnopqrstuvwxyz_" 315),ze P "FIGURES" 318 (.str "0123456789" 317),ze P "WORDS_NO_NAMES" 328 (.ref 81),ze P "WORDS_NOT_ODD" 339 (.ref 82),ze P "is_whole" 346 (.ref 89),ze P "is_name" 352 (.ref 94),ze P "is_figures" 358 (.ref 99),ze P "is_odd_sign" 365 (.ref 106),ze P "is_odd" 371 (.ref 111),ze P "is_word" 378 (.ref 118),ze P "is_two_names" 385 (.ref 125),ze P "is_note" 393 (.ref 132),ze P "many_parts" 400 (.ref 139),ze P "bare" 409 (.ref 146),ze P "placed_forms" 423 (.ref 153),ze P "has_part" 431 (.ref 160),ze P "forms_down_to" 441 (.ref 167),ze P "form_at" 449 (.ref 174),ze P "with_part" 459 (.ref 181),ze P "with_at" 471 (.ref 188),ze P "refuse_no_gap" 480 (.ref 195),ze P "Deed" 516 (.ref 219),ze P "Put" 558 (.ref 255),ze P "Cut" 590 (.ref 281),ze P "behind" 603 (.ref 290),ze P "same_top" 611 (.ref 297),ze P "pairs_met" 625 (.ref 304)]
def z176 (P:Params):=zt "dict" (.dict ⟨Co P⟩ 43)
def y11:List (Int×Int×Addr):=y9++[(118,0,263),(128,0,289),(133,0,296),(135,0,303)]
def z177:=zy y11
def Zri (P:Params)(t:List Obj):List Obj:=D8 P (z176 P) z177 t
def z178:=zq5 [.ref 255,.ref 281]
def Ky (P:Params)(t:List Obj):List Obj:=zn1 P z178 t
def d15 (P:Params):=[ze P "__module__" 566 (.str "gapscribe.deeds" 472),ze P "__qualname__" 568 (.str "Cut" 567),ze P "__firstlineno__" 570 (.int 118 569),ze P "done" 578 (.ref 271),ze P "back" 586 (.ref 278),ze P "__static_attributes__" 587 (.ref 279)]
def z179 (P:Params):=zt "dict" (.dict ⟨d15 P⟩ 6)
noncomputable def y12:List (Int×Int×Addr):=[(120,4,270),(125,4,277)]
def z180:=zy y12
def z181:=zk "Cut" "Cut" 561 118 0 0 261 false .none 564 565
def z182:=Ew 263 260 "gapscribe.deeds" 472
def z183:=zu [("self",574),("form",575)]
def z184:=zh "done" "Cut.done" Gx
def z185:=zc "done" "Cut.done" 571 120 2 3 265 576 577
def z186:=zf "done" "Cut.done" Gx "gapscribe.deeds" 472 270
def K7 (P:Params)(t:List Obj):List Obj:=z174::z175::z153::z11::(z179 P)::z1::z180::z181::z182::z1::z5::z183::z1::z184::z185::z186::t
def z187:=zu [("self",582),("form",583)]
def z188:=zh "back" "Cut.back" (Ct 34 1)
def z189:=zc "back" "Cut.back" 579 125 2 3 272 584 585
def z190:=zf "back" "Cut.back" (Ct 34 1) "gapscribe.deeds" 472 277
def d16 (P:Params):=[ze P "__module__" 566 (.str "gapscribe.deeds" 472),ze P "__firstlineno__" 570 (.int 118 569),ze P "done" 578 (.ref 271),ze P "back" 586 (.ref 278),ze P "__static_attributes__" 587 (.ref 279),ze P "__doc__" 588 .none]
def z191 (P:Params):=zt "dict" (.dict ⟨d16 P⟩ 2)
noncomputable def z192:=Obj.mk (.type "type") none (.cls (ClassData.mk "Cut" [.ref 219] [.ref 281,.ref 219,.type "object"] 280 "Cut" true [] [] false none false)) #[some (.ref 258),none,some (.str "Cut" 559),some (.str "Cut" 567),some (.builtin "object.__new__"),some (.bool true)]
def z193:=zt "super" (.fields #[.ref 281,.ref 281,.ref 281])
def z194:=F4 281
def z195:=zu [("tree",596),("row",597),("made",598),("place",599),("deed",600)]
def Ko (P:Params)(t:List Obj):List Obj:=z1::z5::z187::z1::z188::z189::z190::z1::(z191 P)::z192::z193::z194::z1::z5::z195::z1::t
def z196:=zj "behind" J6
def z197:=zb "behind" 593 128 2 3 284 601 602
def z198:=zi "behind" J6 "gapscribe.ways" 591 289
def z199:=zu [("form",607),("other",608)]
def z200:=zj "same_top" J7
def z201:=zb "same_top" 604 133 2 3 291 609 610
def z202:=zi "same_top" J7 "gapscribe.ways" 591 296
def z203:=zu [("tree",615),("other",616),("told",617),("waiting",618),("place",619),("form",620),("aim",621),("number",622)]
def z204:=zj "pairs_met" Ij
def z205:=zb "pairs_met" 612 135 2 3 298 623 624
def Kc (P:Params)(t:List Obj):List Obj:=z196::z197::z198::z1::z5::z199::z1::z200::z201::z202::z1::z5::z203::z1::z204::z205::t
def Zas:Obj:=zi "pairs_met" Ij "gapscribe.ways" 591 303
def Zne (P:Params)(t:List Obj):List Obj:=Zas::t
def Rtree_363:Params->B:=fun P=>tO (Zri P (Et P (Ed P (Eu P (Ep P (E7 P (E6 P (Fy P (F7 P (Fx P (F2 P (F1 P (G6 P (Ky P (Hi P (J5 P (K7 P (Ko P (Kc P (Zne P []))))))))))))))))))))
def d17 (P:Params):=[ze P "__name__" 165 (.str "law_gapscribe_k27_rows_lead" 662),ze P "__doc__" 166 .none,ze P "__package__" 167 .none,ze P "__loader__" 168 (.builtin "__main__.__loader__#opaque"),ze P "__spec__" 169 .none,ze P "__annotations__" 170 (.ref 6),ze P "__builtins__" 171 (.ref 4),ze P "__file__" 173 (.str "/claim/cut.py" 172),ze P "__cached__" 174 .none,ze P "_wall" 193 (.ref 21),ze P "GapError" 213 (.ref 31),ze P "NoForm" 229 (.ref 44),ze P "NoDeed" 245 (.ref 56),ze P "NoPlace" 270 (.ref 75),ze P "GAP" 274 (.ref 79),ze P "PARTS_OF_WORDS" 314 (.ref 80),ze P "NAME_SIGNS" 316 (.str "abcdefghijklmnopqrstuvwxyz_" 315),ze P "FIGURES" 318 (.str "0123456789" 317),ze P "WORDS_NO_NAMES" 328 (.ref 81),ze P "WORDS_NOT_ODD" 339 (.ref 82),ze P "is_whole" 346 (.ref 89),ze P "is_name" 352 (.ref 94),ze P "is_figures" 358 (.ref 99),ze P "is_odd_sign" 365 (.ref 106),ze P "is_odd" 371 (.ref 111),ze P "is_word" 378 (.ref 118),ze P "is_two_names" 385 (.ref 125),ze P "is_note" 393 (.ref 132),ze P "many_parts" 400 (.ref 139),ze P "bare" 409 (.ref 146),ze P "placed_forms" 423 (.ref 153),ze P "has_part" 431 (.ref 160),ze P "forms_down_to" 441 (.ref 167),ze P "form_at" 449 (.ref 174),ze P "with_part" 459 (.ref 181),ze P "with_at" 471 (.ref 188),ze P "refuse_no_gap" 480 (.ref 195),ze P "Deed" 516 (.ref 219),ze P "Put" 558 (.ref 255),ze P "Cut" 590 (.ref 281),ze P "behind" 603 (.ref 290),ze P "same_top" 611 (.ref 297),ze P "pairs_met" 625 (.ref 304),ze P "forms_to_put" 631 (.ref 309),ze P "puts_of" 637 (.ref 314),ze P "row_at" 649 (.ref 321),ze P "row_to" 661 (.ref 328),ze P "_law_cell" 673 (.ref 335),ze P "_law_names" 679 (.ref 340),ze P "_law_odd" 685 (.ref 345),ze P "_law_number" 692 (.ref 352),ze P "_law_head" 703 (.ref 359),ze P "_law_many" 710 (.ref 366),ze P "_law_tree" 726 (.ref 373),ze P "_law_walk" 738 (.ref 380)]
def z207 (P:Params):=zt "dict" (.dict ⟨d17 P⟩ 55)
def y13:List (Int×Int×Addr):=y11++[(145,0,308),(147,0,313),(149,0,320),(159,0,327),(165,0,334),(173,0,339),(190,0,344),(199,0,351),(205,0,358),(220,0,365),(226,0,372),(246,0,379)]
def z208:=zy y13
def Znk (P:Params)(t:List Obj):List Obj:=D8 P (z207 P) z208 t
def z209:=zj "forms_to_put" Hq
def z210:=zk "forms_to_put" "forms_to_put" 626 145 1 3 305 true (.ref 307) 629 630
def z211:=zi "forms_to_put" Hq "gapscribe.ways" 591 308
def z212:=zj "puts_of" Ip
def z213:=zk "puts_of" "puts_of" 632 147 2 3 310 true (.ref 312) 635 636
def z214:=zi "puts_of" Ip "gapscribe.ways" 591 313
def z215:=zu [("place",641),("form",642),("aim",643),("rows",644),("kept",645),("number",646)]
def z216:=zj "row_at" Jx
def Ma (P:Params)(t:List Obj):List Obj:=Zas::z1::z5::z209::z210::z211::z1::z5::z212::z213::z214::z1::z5::z215::z1::z216::t
def z217:=zb "row_at" 638 149 4 3 315 647 648
def z218:=zi "row_at" Jx "gapscribe.ways" 591 320
def z219:=zu [("tree",653),("other",654),("rows",655),("place",656),("form",657),("aim",658)]
def z220:=zj "row_to" Hh
def z221:=zb "row_to" 650 159 2 3 322 659 660
def z222:=zi "row_to" Hh "gapscribe.ways" 591 327
def z223:=zu [("_law_script",667),("_law_k",668),("_law_many_here",669),("_law_first",670)]
def z224:=zj "_law_cell" Jq
def z225:=zb "_law_cell" 664 165 2 3 329 671 672
def z226:=zi "_law_cell" Jq "law_gapscribe_k27_rows_lead" 662 334
def Og (P:Params)(t:List Obj):List Obj:=z217::z218::z1::z5::z219::z1::z220::z221::z222::z1::z5::z223::z1::z224::z225::z226::t
def z227:=zj "_law_names" Kb
def z228:=zk "_law_names" "_law_names" 674 173 2 3 336 true (.ref 338) 677 678
def z229:=zi "_law_names" Kb "law_gapscribe_k27_rows_lead" 662 339
def z230:=zj "_law_odd" J1
def z231:=zk "_law_odd" "_law_odd" 680 190 1 3 341 true (.ref 343) 683 684
def z232:=zi "_law_odd" J1 "law_gapscribe_k27_rows_lead" 662 344
def z233:=zu [("_law_cell_here",689)]
def z234:=zj "_law_number" Js
def z235:=zb "_law_number" 686 199 1 3 346 690 691
def L6 (P:Params)(t:List Obj):List Obj:=z1::z5::z227::z228::z229::z1::z5::z230::z231::z232::z1::z5::z233::z1::z234::z235::t
def z236:=zi "_law_number" Js "law_gapscribe_k27_rows_lead" 662 351
def z237:=zu [("_law_cell_here",696),("_law_names_here",697),("_law_heads",698),("_law_word",699),("_law_more",700)]
def z238:=zj "_law_head" J9
def z239:=zb "_law_head" 693 205 2 3 353 701 702
def z240:=zi "_law_head" J9 "law_gapscribe_k27_rows_lead" 662 358
def z241:=zu [("_law_word",707)]
def z242:=zj "_law_many" Jg
def z243:=zb "_law_many" 704 220 1 3 360 708 709
def z244:=zi "_law_many" Jg "law_gapscribe_k27_rows_lead" 662 365
def Zbc (P:Params)(t:List Obj):List Obj:=z236::z1::z5::z237::z1::z238::z239::z240::z1::z5::z241::z1::z242::z243::z244::z1::t
def z245:=zu [("_law_cells",714),("_law_names_here",715),("_law_left",716),("_law_cell_here",717),("_law_word",718),("_law_note",719),("_law_parts",720),("_law_k",721),("_law_tree_here",722),("_law_form_here",723)]
def z246:=zj "_law_tree" Hk
def Zap:Obj:=zb "_law_tree" 711 226 2 3 367 724 725
def N5:Obj:=zi "_law_tree" Hk "law_gapscribe_k27_rows_lead" 662 372
def z249:=zu [("_law_tree_here",730),("_law_rows",731),("_law_left",732),("_law_place",733),("_law_form_here",734),("_law_k",735)]
def z250:=zj "_law_walk" Iv
def L9:Obj:=zb "_law_walk" 727 246 1 3 374 736 737
def Nk:Obj:=zi "_law_walk" Iv "law_gapscribe_k27_rows_lead" 662 379
def Zho (P:Params)(t:List Obj):List Obj:=z5::z245::z1::z246::Zap::N5::z1::z5::z249::z1::z250::L9::Nk::t
def Rtree_441:Params->B:=fun P=>tO (Znk P (Et P (Ed P (Eu P (Ep P (E7 P (E6 P (Fy P (F7 P (Fx P (F2 P (F1 P (G6 P (Ky P (Hi P (J5 P (K7 P (Ko P (Kc P (Ma P (Og P (L6 P (Zbc P (Zho P []))))))))))))))))))))))))
def d18 (P:Params):=d17 P++[ze P "_law_form" 748 (.ref 387),ze P "_law_with" 754 (.ref 392),ze P "_law_leaf" 764 (.ref 399),ze P "_law_small" 770 (.ref 404),ze P "_law_trees" 785 (.ref 411),ze P "_law_has" 795 (.ref 418),ze P "_law_leads" 801 (.ref 423),ze P "law" 812 (.ref 430)]
def z253 (P:Params):=zt "dict" (.dict ⟨d18 P⟩ 63)
def y14:List (Int×Int×Addr):=y13++[(255,0,386),(260,0,391),(267,0,398),(270,0,403),(274,0,410),(290,0,417),(297,0,422),(322,0,429)]
def z254:=zy y14
def Zcx (P:Params)(t:List Obj):List Obj:=D8 P (z253 P) z254 t
def z255:=zu [("_law_tree_here",742),("_law_place",743),("_law_form_here",744),("_law_k",745)]
def Zcq (P:Params)(t:List Obj):List Obj:=z5::z245::z1::z246::Zap::N5::z1::z5::z249::z1::z250::L9::Nk::z1::z5::z255::t
def z256:=zj "_law_form" Je
def z257:=zb "_law_form" 739 255 2 3 381 746 747
def z258:=zi "_law_form" Je "law_gapscribe_k27_rows_lead" 662 386
def z259:=zj "_law_with" Hz
def z260:=zk "_law_with" "_law_with" 749 260 3 3 388 true (.ref 390) 752 753
def z261:=zi "_law_with" Hz "law_gapscribe_k27_rows_lead" 662 391
def z262:=zu [("_law_cell_here",758),("_law_names_here",759),("_law_word",760),("_law_note",761)]
def z263:=zj "_law_leaf" Jy
def z264:=zb "_law_leaf" 755 267 2 3 393 762 763
def z265:=zi "_law_leaf" Jy "law_gapscribe_k27_rows_lead" 662 398
def Zcd (P:Params)(t:List Obj):List Obj:=z1::z256::z257::z258::z1::z5::z259::z260::z261::z1::z5::z262::z1::z263::z264::z265::t
def z266:=zj "_law_small" Hm
def z267:=zk "_law_small" "_law_small" 765 270 2 3 400 true (.ref 402) 768 769
def z268:=zi "_law_small" Hm "law_gapscribe_k27_rows_lead" 662 403
def z269:=zu [("_law_script",774),("_law_names_here",775),("_law_gap",776),("_law_tree_here",777),("_law_other",778),("_law_turn",779),("_law_cell_here",780),("_law_rows",781),("_law_place",782)]
def z270:=zj "_law_trees" Ju
def z271:=zb "_law_trees" 771 274 2 3 405 783 784
def z272:=zi "_law_trees" Ju "law_gapscribe_k27_rows_lead" 662 410
def z273:=zu [("_law_tree_here",789),("_law_place",790),("_law_form_here",791),("_law_k",792)]
def Zgt (P:Params)(t:List Obj):List Obj:=z1::z5::z266::z267::z268::z1::z5::z269::z1::z270::z271::z272::z1::z5::z273::z1::t
def z274:=zj "_law_has" Jm
def z275:=zb "_law_has" 786 290 2 3 412 793 794
def z276:=zi "_law_has" Jm "law_gapscribe_k27_rows_lead" 662 417
def z277:=zj "_law_leads" Jh
def z278:=zk "_law_leads" "_law_leads" 796 297 2 3 419 true (.ref 421) 799 800
def z279:=zi "_law_leads" Jh "law_gapscribe_k27_rows_lead" 662 422
def z280:=zu [("_law_script",805),("_law_names_here",806),("_law_tree_here",807),("_law_other",808),("_law_k",809)]
def z281:=zj "law" Hl
def z282:=zb "law" 802 322 1 3 424 810 811
def z283:=zi "law" Hl "law_gapscribe_k27_rows_lead" 662 429
def Zci (P:Params)(t:List Obj):List Obj:=z274::z275::z276::z1::z5::z277::z278::z279::z1::z5::z280::z1::z281::z282::z283::t
def Rtree_493:Params->B:=fun P=>tO (Zcx P (Et P (Ed P (Eu P (Ep P (E7 P (E6 P (Fy P (F7 P (Fx P (F2 P (F1 P (G6 P (Ky P (Hi P (J5 P (K7 P (Ko P (Kc P (Ma P (Og P (L6 P (Zbc P (Zcq P (Zcd P (Zgt P (Zci P [])))))))))))))))))))))))))))
def Rheap_494:Params->Heap:=fun P=>⟨⟨Zcx P (Et P (Ed P (Eu P (Ep P (E7 P (E6 P (Fy P (F7 P (Fx P (F2 P (F1 P (G6 P (Ky P (Hi P (J5 P (K7 P (Ko P (Kc P (Ma P (Og P (L6 P (Zbc P (Zcq P (Zcd P (Zgt P (Zci P []))))))))))))))))))))))))))⟩,Life.mk [] [] [] 0 [] [] false #[] [] 0 false false false 0 [2000,10,10] false 0 true [] [] 0 false⟩
end
noncomputable def KK:Params->Om:=fun P=>(nat_lit 2,boot_o_2 P)::(nat_lit 3,z253 P)::(nat_lit 30,z15 P)::(nat_lit 31,z43)::(nat_lit 43,z27 P)::(nat_lit 44,z28)::(nat_lit 55,z37 P)::(nat_lit 56,z38)::(nat_lit 74,z53 P)::(nat_lit 75,z54)::(nat_lit 78,z1)::(nat_lit 79,z57)::(nat_lit 80,z60 P)::(nat_lit 81,z61)::(nat_lit 82,z62)::(nat_lit 88,z65)::(nat_lit 89,z66)::(nat_lit 93,z68)::(nat_lit 94,z69)::(nat_lit 98,z71)::(nat_lit 99,z72)::(nat_lit 105,z75)::(nat_lit 106,z76)::(nat_lit 110,z78)::(nat_lit 111,z79)::(nat_lit 117,z84)::(nat_lit 118,z85)::(nat_lit 124,z88)::(nat_lit 125,z89)::(nat_lit 131,z92)::(nat_lit 132,z93)::(nat_lit 138,z96)::(nat_lit 139,z97)::(nat_lit 145,z100)::(nat_lit 146,z101)::(nat_lit 152,z104)::(nat_lit 153,z105)::(nat_lit 159,z108)::(nat_lit 160,z109)::(nat_lit 166,z112)::(nat_lit 167,z113)::(nat_lit 173,z116)::(nat_lit 174,z117)::(nat_lit 180,z120)::(nat_lit 181,z121)::(nat_lit 187,z124)::(nat_lit 188,z125)::(nat_lit 194,Za8)::(nat_lit 195,Nh)::(nat_lit 218,Na P)::(nat_lit 219,z178)::(nat_lit 231,z158)::(nat_lit 237,z161)::(nat_lit 238,z162)::(nat_lit 244,z165)::(nat_lit 245,z166)::(nat_lit 254,z172 P)::(nat_lit 255,z173)::(nat_lit 270,z185)::(nat_lit 271,z186)::(nat_lit 280,z191 P)::(nat_lit 281,z192)::(nat_lit 289,z197)::(nat_lit 290,z198)::(nat_lit 296,z201)::(nat_lit 297,z202)::(nat_lit 303,z205)::(nat_lit 304,Zas)::(nat_lit 308,z210)::(nat_lit 309,z211)::(nat_lit 313,z213)::(nat_lit 314,z214)::(nat_lit 320,z217)::(nat_lit 321,z218)::(nat_lit 327,z221)::(nat_lit 328,z222)::(nat_lit 334,z225)::(nat_lit 335,z226)::(nat_lit 339,z228)::(nat_lit 340,z229)::(nat_lit 344,z231)::(nat_lit 345,z232)::(nat_lit 351,z235)::(nat_lit 352,z236)::(nat_lit 358,z239)::(nat_lit 359,z240)::(nat_lit 365,z243)::(nat_lit 366,z244)::(nat_lit 372,Zap)::(nat_lit 373,N5)::(nat_lit 379,L9)::(nat_lit 380,Nk)::(nat_lit 386,z257)::(nat_lit 387,z258)::(nat_lit 391,z260)::(nat_lit 392,z261)::(nat_lit 398,z264)::(nat_lit 399,z265)::(nat_lit 403,z267)::(nat_lit 404,z268)::(nat_lit 410,z271)::(nat_lit 411,z272)::(nat_lit 417,z275)::(nat_lit 418,z276)::(nat_lit 422,z278)::(nat_lit 423,z279)::(nat_lit 429,z282)::(nat_lit 430,z283)::[]
noncomputable def KA:List Addr:=[2,3,30,31,43,44,55,56,74,75,78,79,80,81,82,88,89,93,94,98,99,105,106,110,111,117,118,124,125,131,132,138,139,145,146,152,153,159,160,166,167,173,174,180,181,187,188,194,195,218,219,231,237,238,244,245,254,255,270,271,280,281,289,290,296,297,303,304,308,309,313,314,320,321,327,328,334,335,339,340,344,345,351,352,358,359,365,366,372,373,379,380,386,387,391,392,398,399,403,404,410,411,417,418,422,423,429,430]
noncomputable def RB (P:Params):List Qd×List Heap:=([Rtree_70 P,Rtree_85 P,Rtree_100 P,Rtree_124 P,Rtree_158 P,Rtree_246 P,Rtree_276 P,Rtree_313 P,Rtree_363 P,Rtree_441 P,Rtree_493 P],[Rheap_494 P])
theorem e_RB:RB=RB:=rfl
name_quick x_RB for K27.RB by K27.e_RB
end K27
namespace PySem.W.Fast
noncomputable def tw8202532735967251120:Ql->Qd:=tw14510204890578936568
theorem te8202532735967251120:K27.Rtree_70=tw8202532735967251120:=te14510204890578936568
noncomputable def tw16809720298165678693:Ql->Qd:=tw2930644076578922045
theorem te16809720298165678693:K27.Rtree_85=tw16809720298165678693:=te2930644076578922045
noncomputable def tw12092486342096096254:Ql->Qd:=tw17843824197395924741
theorem te12092486342096096254:K27.Rtree_100=tw12092486342096096254:=te17843824197395924741
noncomputable def tw8370222356663525795:Ql->Qd:=tw4287458777606036736
theorem te8370222356663525795:K27.Rtree_124=tw8370222356663525795:=te4287458777606036736
noncomputable def tw7875528396639349528:Ql->Qd:=tw8337237884287462713
theorem te7875528396639349528:K27.Rtree_158=tw7875528396639349528:=te8337237884287462713
noncomputable def tw15733411048114031812:Ql->Qd:=tw2691685813277303715
theorem te15733411048114031812:K27.Rtree_246=tw15733411048114031812:=te2691685813277303715
noncomputable def tw14204870400625414651:Ql->Qd:=tw12978623418152628353
theorem te14204870400625414651:K27.Rtree_276=tw14204870400625414651:=te12978623418152628353
noncomputable def tw1174212080423483642:Ql->Qd:=tw5901548203666126855
theorem te1174212080423483642:K27.Rtree_313=tw1174212080423483642:=te5901548203666126855
noncomputable def tw16588326835179872480:Ql->Qd:=tw18122710890082190803
theorem te16588326835179872480:K27.Rtree_363=tw16588326835179872480:=te18122710890082190803
noncomputable def tw4436441247948692715:Ql->Qd:=tw14117890269571710930
theorem te4436441247948692715:K27.Rtree_441=tw4436441247948692715:=te14117890269571710930
noncomputable def tw9820934603442458684:Ql->Qd:=tw8930961468662832621
theorem te9820934603442458684:K27.Rtree_493=tw9820934603442458684:=te8930961468662832621
noncomputable def tw15309222147234082258:Ql->PySem.Heap:=tw6814428681542897149
theorem te15309222147234082258:K27.Rheap_494=tw15309222147234082258:=te6814428681542897149
end PySem.W.Fast
local macro_rules | `(tactic| walk_at "gd")=>`(tactic| (refine' ⟨?ka,_,L2.fun_mk ?kl ?kc ?kk⟩; (case ka=>k_is); (case kl=>k_is); (case kc=>k_is); (case kk=>k_is)))
local macro_rules | `(tactic| walk_at "gm")=>`(tactic| (refine' ⟨?ka,?ki,_,L2.fun_mk ?kl ?kc ?kk⟩; (case ka=>k_is); (case ki=>k_is); (case kl=>k_is); (case kc=>k_is); (case kk=>k_is)))
namespace K27
open PySem L2 K10 K19
noncomputable abbrev Nn:=Zf9
theorem all1 {α:Type}{P:List α->Prop}(h:∀ a,P [a]):∀ us:List α,us.length=1->P us
 | [a],_=>h a
theorem all2 {α:Type}{P:List α->Prop}(h:∀ a b,P [a,b]):∀ us:List α,us.length=2->P us
 | [a,b],_=>h a b
theorem all3 {α:Type}{P:List α->Prop}(h:∀ a b c,P [a,b,c]):∀ us:List α,us.length=3->P us
 | [a,b,c],_=>h a b c
theorem all4 {α:Type}{P:List α->Prop}(h:∀ a b c d,P [a,b,c,d]):∀ us:List α,us.length=4->P us
 | [a,b,c,d],_=>h a b c d
local macro_rules | `(tactic| walk_at "bi")=>`(tactic| first | exact fun _ _ _ _ _ _=>K27.all1 fun _=>rfl | exact fun _ _ _ _ _ _=>K27.all2 fun _ _=>rfl | exact fun _ _ _ _ _ _=>K27.all3 fun _ _ _=>rfl | exact fun _ _ _ _ _ _=>K27.all4 fun _ _ _ _=>rfl)
theorem Znn {K:Om}{C X:Addr}{b:Bool}{c:Value}{dd:Option Addr}{cd:ClassData}{sl:Array (Option Value)}(hX:K.lookup X=some ⟨c,dd,.cls cd,sl⟩)(ht:PySem.W.typeIn K (.ref X)=some (.type "type"))(hs:PySem.W.subIn K (.ref C) (.ref X)=some b)(hn:b=false->(C == X)=false):Pg K (.ref C) (.ref X)=some b:=by
 unfold Pg
 by_cases h:((Value.ref C) == (Value.ref X))=true
 ·rw [if_pos h]
  have e:=beq_iff_eq.mp h
  injection e with e
  subst e
  cases b with
  | true=>rfl
  | false=>have:=hn rfl;simp at this
 ·rw [if_neg h]
  unfold PySem.W.kitCls
  dsimp only
  rw [if_pos]
  ·exact hs
  ·rw [ht]
   unfold PySem.W.clsIn
   rw [hX]
   simp
theorem Zh8 {K:Om}{a e:Addr}{od:Option Addr}{its:Array Value}{n:Nat}{sl:Array (Option Value)}{tk:Tok}(l:K.lookup a=some ⟨.type "tuple",od,.seq its n,sl⟩)(h:its.toList=[.str "gap" tk,.none,.ref e]):∀ H,SqT K H a [.str "gap",.non,.ref e]:=fun H=>by
 have v:Vals [.str "gap",.non,.ref e] its.toList:=by rw [h];exact .cons ⟨tk,rfl⟩ (.cons rfl (.cons rfl .nil))
 refine .inr ⟨_,its,n,l,rfl,rfl,?_,v⟩
 have b:1000<=sizeLine:=by decide
 have e2:its.toList.length=its.size:=Sj
 have e3:its.toList.length=3:=by rw [h];rfl
 omega
theorem calm {P:Program}{w:World}{K:Om}{mg:Str->Option Value}{base:Heap}{k:Nat}{f:Addr}{fd:FuncData}{ps:List Str}{sp:Sp}(F:Aq P w K mg base (CXR P w) k f fd ps sp):Aq P w K mg base Ar k f fd ps (fun vs H Q _=>sp vs H Q E0):=by
 refine ⟨fun vs H Q E h=>F.len vs H Q E0 h,fun A outer s H args us vs Q E hr he hb hv h=>Sz (F.run A outer s H args us vs Q E0 hr he hb hv h) fun r s' hq=>?_⟩
 cases r with
 | error e =>
  obtain ⟨_,_,_,_,_,_,_,_,_,_,_,_,_,_,_,x⟩:=hq
  exact x.elim
 | ok fl =>
  cases fl with
  | ret u=>exact hq
  | _=>exact hq.elim
theorem kbP2 {K:Om}{TD:Addr}{o1:Option Addr}{n1:Nat}{s1:Array (Option Value)}{kV doc pm cdv ct:Value}{an:Option Addr}(ho:K.lookup TD=some ⟨.type "tuple",o1,.seq #[.none] n1,s1⟩):Of K (P4 "__init__" "Put.__init__" (Cy Da) (Cb Da) (An Da) (.ref TD) kV doc pm an cdv ct) ["self", "word", "note"] [] (fun us _=>us) (fun vs _=>vs) :=
 ⟨fun s us ws X hl=>by
  match us,(show us.length=3 by simpa using hl) with
  | [a,b,c],_=>exact PySem.W.binds_K X rfl ho rfl rfl rfl,fun h _=>h⟩
noncomputable abbrev Gd (K:Om)(n:Str)(st:Stmt)(f:Addr):Prop:=Pd K mainGlobals n=some (some (.ref f))/\∃ fd,Fun K n n st f fd
noncomputable abbrev Gm (K:Om)(C:Addr)(n q:Str)(st:Stmt)(f:Addr):Prop:=Pc K (.ref C) n=some (some (.ref f))/\Sy K (.ref f)=true/\∃ fd,Fun K n q st f fd
noncomputable abbrev Bi (n q:Str)(st:Stmt)(ps:List Str):Prop:=∀(kV doc pm:Value)(an:Option Addr)(cdv ct:Value)(us:List Value),us.length=ps.length->bindArgs (P4 n q (Cy st) (Cb st) (An st) .none kV doc pm an cdv ct) ⟨us,[]⟩=pure (ps.zip us)
section
variable {P:Program}{w:World}{K:Om}{mg:Str->Option Value}{base h:Heap}(X:K.In h)(G:h.Ns mainGlobals mg){n q:Str}{st:Stmt}{f C:Addr}{k:Nat}{ps:List Str}{sp:Sp}
include X G
theorem cal (g:Gd K n st f)(ok:∀ fd,Fun K n n st f fd->Aq P w K mg base Ar k f fd ps sp)(b:Bi n n st ps:=by walk_at "bi"):Av P w K mg base k n ps sp:=by
 obtain ⟨a,fd,F⟩:=g
 exact Zlo (ok fd F) (PySem.W.mg_of X G a) F.kp (F.binds b)
omit X G
theorem metM {CX:Bz}(cl:Cls K C)(g:Gm K C n q st f)(ok:∀ fd,Fun K n q st f fd->Aq P w K mg base CX k f fd ps sp)(b:Bi n q st ps:=by walk_at "bi"):Jt CX P w K mg base k C n ps sp:=by
 obtain ⟨a,i,fd,F⟩:=g
 exact ⟨f,fd,ok fd F,cl,⟨a,i,F.kp⟩,F.binds b⟩
end
theorem all_mk {l:V3}{w:World}{K:Om}{h:Heap}{mg:Str->Option Value}{fa f1 f2 f3 f4 f5 f6 f7 f8 f9 f10 f11 f12 f13 f14 f15 f16 f17 f18 f19 f20 f21 f22 f23 f24 f25 f26 f27 f28 f29 f30 f31 f32 f33 f34 f35 f36 f37 f38 f39 f40:Addr}(X:K.In h)(G:h.Ns mainGlobals mg)(hfa:mg "law" = some (.ref fa))
  (a1:Gd K "is_whole" Hu f1) (a2:Gd K "is_name" Iy f2) (a3:Gd K "is_figures" Jr f3) (a4:Gd K "is_odd_sign" Ig f4) (a5:Gd K "is_odd" Il f5) (a6:Gd K "is_word" Ix f6) (a7:Gd K "is_two_names" Jv f7) (a8:Gd K "is_note" Ir f8) (a9:Gd K "many_parts" Jz f9) (a10:Gd K "bare" Iz f10) (a11:Gd K "placed_forms" Jw f11) (a12:Gd K "has_part" Iw f12) (a13:Gd K "forms_down_to" Jl f13) (a14:Gd K "form_at" Iu f14) (a15:Gd K "with_part" Ie f15) (a16:Gd K "with_at" Hr f16)
  (a17:Gd K "refuse_no_gap" Ho f17) (a18:Gd K "behind" J6 f18) (a19:Gd K "same_top" J7 f19) (a20:Gd K "pairs_met" Ij f20) (a21:Gd K "forms_to_put" Hq f21) (a22:Gd K "puts_of" Ip f22) (a23:Gd K "row_at" Jx f23) (a24:Gd K "row_to" Hh f24) (a25:Gd K "_law_cell" Jq f25) (a26:Gd K "_law_names" Kb f26) (a27:Gd K "_law_odd" J1 f27) (a28:Gd K "_law_number" Js f28) (a29:Gd K "_law_head" J9 f29) (a30:Gd K "_law_many" Jg f30) (a31:Gd K "_law_tree" Hk f31)
  (a32:Gd K "_law_walk" Iv f32) (a33:Gd K "_law_form" Je f33) (a34:Gd K "_law_with" Hz f34) (a35:Gd K "_law_leaf" Jy f35) (a36:Gd K "_law_small" Hm f36) (a37:Gd K "_law_trees" Ju f37) (a38:Gd K "_law_has" Jm f38) (a39:Gd K "_law_leads" Jh f39) (a40:Gd K "law" Hl f40) (z1:Pd K mainGlobals "isinstance" = some none) (z2:Pd K mainGlobals "int" = some none) (z3:Pd K mainGlobals "bool" = some none) (z4:Pd K mainGlobals "str" = some none) (z5:Pd K mainGlobals "len" = some none)
  (z6:Pd K mainGlobals "all" = some none) (z7:Pd K mainGlobals "tuple" = some none) (z8:Pd K mainGlobals "reversed" = some none) (z9:Pd K mainGlobals "list" = some none) (z10:Pd K mainGlobals "enumerate" = some none) (z11:Pd K mainGlobals "zip" = some none) (z12:Pd K mainGlobals "range" = some none) {u1 u2 gt:Tok} (b1:Pd K mainGlobals "NAME_SIGNS" = some (some (.str LET u1))) (b2:Pd K mainGlobals "FIGURES" = some (some (.str DIG u2))) {wa wb pa ga ge:Addr} {wo wp go ho:Option Addr}
  {wi wj gi hi:Array Value} {wn wm pn gn hn:Nat} {ws wt gs hs:Array (Option Value)} {pi:Array DictEntry} (b3:Pd K mainGlobals "WORDS_NO_NAMES" = some (some (.ref wa))) (b4:K.lookup wa=some ⟨.type "tuple",wo,.seq wi wn,ws⟩) (b5:Fv wi.toList=some (W9.map V.str)) (b6:Pd K mainGlobals "WORDS_NOT_ODD" = some (some (.ref wb))) (b7:K.lookup wb=some ⟨.type "tuple",wp,.seq wj wm,wt⟩) (b8:Fv wj.toList=some (W10.map V.str)) (c1:Pd K mainGlobals "PARTS_OF_WORDS" = some (some (.ref pa))) (c2:K.lookup pa=some ⟨.type "dict",none,.dict pi pn,#[]⟩)
  (c3:(pa == sysModules)=false) (c4:Ents w.params pi.toList Ih) (d1:Pd K mainGlobals "GAP" = some (some (.ref ga))) (d2:K.lookup ga=some ⟨.type "tuple",go,.seq gi gn,gs⟩) (d3:gi.toList=[.str "gap" gt,.none,.ref ge]) (d4:K.lookup ge=some ⟨.type "tuple",ho,.seq hi hn,hs⟩) (d5:Fv hi.toList=some []) (e1:Vp K (.builtin "object.__class__") "__get__" = some (some (.builtin "getset_descriptor.__get__"))) (e2:V1 K (.builtin "object.__class__")=some true) {AP AC gP gQ gC TP:Addr} {cP cT cU cV cW cX cY:Value} {dP oT ou an:Option Addr}
  {kP:ClassData} {lP sT su:Array (Option Value)} {nT:Nat} (yP1:Pd K mainGlobals "Put" = some (some (.ref AP))) (yP2:Rz K AP P5=true) (yP3:Sn K AP=true) (yP4:T8 K AP=true) (yP5:Pc K (.ref AP) "__setattr__" = some (some (.builtin "object.__setattr__"))) (yP6:R3 K AP=true) (yP7:Qb K (.ref AP)=true) (yP8:Pc K (.ref AP) "form" = some none) (yP9:Pc K (.ref AP) "__class__" = some (some (.builtin "object.__class__"))) (yP0:Uu K AP (.type "object")=some true)
  (yC1:Pd K mainGlobals "Cut" = some (some (.ref AC))) (yC2:Rz K AC P5=true) (yC3:Sn K AC=true) (yC4:T8 K AC=true) (yC5:Pc K (.ref AC) "__setattr__" = some (some (.builtin "object.__setattr__"))) (yC6:R3 K AC=true) (yC7:Qb K (.ref AC)=true) (yC8:Pc K (.ref AC) "form" = some none) (yC9:Pc K (.ref AC) "__class__" = some (some (.builtin "object.__class__"))) (yC0:Uu K AC (.type "object")=some true) (m1:Gm K AP "done" "Put.done" G0 gP)
  (m2:Gm K AC "done" "Cut.done" Gx gC) (i1:Pc K (.ref AP) "__init__" = some (some (.ref gQ))) (i2:Sy K (.ref gQ)=true) (i3:K.lookup gQ=some ⟨cT,ou,.func (P4 "__init__" "Put.__init__" (Cy Da) (Cb Da) (An Da) (.ref TP) cU cV cW an cX cY),su⟩) (i4:R7 K cX "Put.__init__" = true) (i5:Qb K (.ref gQ)=true) (i6:K.lookup TP=some ⟨.type "tuple",oT,.seq #[.none] nT,sT⟩) (q1:Pc K (.ref AC) "__init__" = some (some (.builtin "object.__init__"))) (q2:K.lookup AP=some ⟨cP,dP,.cls kP,lP⟩)
  (q3:PySem.W.typeIn K (.ref AP)=some (.type "type")) (q4:PySem.W.subIn K (.ref AC) (.ref AP)=some false) (q5:(AC == AP)=false) :
  ∃ fd:FuncData,(∀(s:Shared)(v:Value),BindsTo s fd ⟨[v],[]⟩ [("_law_script",v)])/\∀ base:Heap,K.In base->base.Ns mainGlobals mg->Aq l.prog w K mg base Ar 11 fa fd ["_law_script"] (Nn K):=by
 obtain ⟨aL,fd,FL⟩:=a40
 have e:=hfa.symm.trans (PySem.W.mg_of X G aL)
 cases e
 have FX:=FL
 obtain ⟨_,_,kV,doc,pm,an,cdv,ct,_,ef,_,_⟩:=FL.ex
 refine ⟨fd,fun s v=>by rw [ef];exact .of_eq rfl,fun base _ _=>?_⟩
 have gl:=fun {n v}=>@PySem.W.mg_of K h mg n v X G
 have no:=fun {n}=>@PySem.W.mg_none_of K h mg n X G
 have T:Txt K mg:=⟨no z1,no z2,no z3,no z4,no z5,no z6,no z7,no z8,no z9,no z10,no z11,no z12⟩
 have G_GAP:Eb mg "GAP" (.ref ga):=⟨_,gl d1,rfl⟩
 have gA:=Zh8 (K:=K) d2 d3
 have gB:=Zax (K:=K) d4 d5 (by decide)
 have GA:K3 K ga:=⟨fun H=>TrAt.gap (gA H) (gB H)⟩
 have GS:Gs l.prog w K mg:=⟨⟨_,gl b1,⟨_,rfl⟩⟩,⟨_,gl b2,⟨_,rfl⟩⟩,⟨wa,⟨_,gl b3,rfl⟩,Zax b4 b5 (by decide)⟩,⟨wb,⟨_,gl b6,rfl⟩,Zax b7 b8 (by decide)⟩,⟨pa,⟨_,gl c1,rfl⟩,Zou c2 c3 c4 (by decide +kernel)⟩,⟨ga,ge,G_GAP,gA,gB⟩⟩
 have clP:Cls K AP:=⟨yP2,yP3,yP4,yP5⟩
 have oP:Own K mg "Put" AP:=⟨clP,gl yP1,yP8,yP9,e1,e2,yP0⟩
 have clC:Cls K AC:=⟨yC2,yC3,yC4,yC5⟩
 have oC:Own K mg "Cut" AC:=⟨clC,gl yC1,yC8,yC9,e1,e2,yC0⟩
 obtain ⟨c,ec⟩:∃ c:Cs,c=⟨AP,AC⟩:=⟨_,rfl⟩
 have ep:c.p=AP:=by rw [ec]
 have eq:c.c=AC:=by rw [ec]
 have ne:c.p≠c.c:=by rw [ep,eq];intro z;rw [z] at q5;simp at q5
 have KL:Kl K mg c:=⟨by rw [ep];exact oP,by rw [eq];exact oC,ne,by rw [ep,eq];exact Znn q2 q3 q4 fun _=>q5⟩
 have MkC:Lk K mg "Cut" c.c:=by rw [eq];exact ⟨yC6,q1,yC7,oC.at_⟩
 have ca:=fun {k n st f ps sp}=>@cal l.prog w K mg base h X G n st f k ps sp
 have C_is_whole:=ca a1 fun _ F=>Zg6 F T
 have C_is_name:=ca a2 fun _ F=>Zrh F T GS
 have C_is_figures:=ca a3 fun _ F=>Zlh F T GS
 have C_is_odd_sign:=ca a4 fun _ F=>Zhq F T
 have C_is_odd:=ca a5 fun _ F=>Zhv F T GS C_is_odd_sign C_is_name C_is_figures
 have C_is_word:=ca a6 fun _ F=>Zjj F T GS
 have C_is_two_names:=ca a7 fun _ F=>Zoz F T C_is_name
 have C_is_note:=ca a8 fun _ F=>Zp1 F T C_is_whole C_is_name C_is_odd C_is_two_names
 have C_many_parts:=ca a9 fun _ F=>Zp4 F T GS C_is_word
 have C_bare:=ca a10 fun _ F=>Zhw F T G_GAP C_many_parts C_is_note
 have C_placed_forms:=ca a11 fun _ F=>Zjp F T
 have C_has_part:=ca a12 fun _ F=>Zpl F T C_is_whole
 have C_forms_down_to:=ca a13 fun _ F=>Zkm F T C_has_part
 have C_form_at:=ca a14 fun _ F=>Zld F T C_forms_down_to
 have C_with_part:=ca a15 fun _ F=>Zk3 F T
 have C_with_at:=ca a16 fun _ F=>Zks F T C_forms_down_to C_with_part
 have C_refuse_no_gap:=ca a17 fun _ F=>Zka F T
 have MkP:Ol Ar l.prog w K mg base 5 "Put" c.p ["self", "word", "note"] [] (fun vs _=>vs) (Nb K c ga):=⟨gQ,_,_,calm (Zhz (Zno (st:=Da) i3 i4 i5) T KL.op C_bare),by rw [ep];exact ⟨yP6,i1,i2,yP7⟩,KL.op.at_,kbP2 i6⟩
 have m3:Gm K c.p "done" "Put.done" G0 gP:=by rw [ep];exact m1
 have m4:Gm K c.c "done" "Cut.done" Gx gC:=by rw [eq];exact m2
 have MD:∀ o:Op,Jt Ar l.prog w K mg base 3 (o.cls c) "done" ["self", "form"] (Im K c (o.cls c)):=fun o=>by
  cases o with
  | put t=>exact metM KL.op.cl m3 fun _ F=>Zmd ne F T KL.op C_refuse_no_gap
  | cut=>exact metM KL.oc.cl m4 fun _ F=>Zrp ne F T G_GAP GA
 have C_behind:=ca a18 fun _ F=>Zp0 (c:=c) F T C_form_at C_with_at MD
 have C_same_top:=ca a19 fun _ F=>Zlq F T
 have C_pairs_met:=ca a20 fun _ F=>Zjg F T C_same_top
 have C_forms_to_put:=ca a21 fun _ F=>Zro F T C_placed_forms
 have C_puts_of:=ca a22 fun _ F=>Zi0 F T GA C_forms_to_put MkP
 have C_row_at:=ca a23 fun _ F=>Zpp F T C_puts_of C_same_top C_forms_to_put MkC
 have C_row_to:=ca a24 fun _ F=>Zih F T C_pairs_met C_row_at
 have C__law_cell:=ca a25 fun _ F=>Zo0 F T
 have C__law_names:=ca a26 fun _ F=>Zqi F T
 have C__law_odd:=ca a27 fun _ F=>Zhl F T
 have C__law_number:=ca a28 fun _ F=>Zi9 F T
 have C__law_head:=ca a29 fun _ F=>Zn5 F T C__law_odd C__law_number
 have C__law_many:=ca a30 fun _ F=>Zhk F T
 have C__law_tree:=ca a31 fun _ F=>Zqy F T C__law_head C__law_many
 have C__law_walk:=ca a32 fun _ F=>Zjz F T
 have C__law_form:=ca a33 fun _ F=>Zkx F T
 have C__law_with:=ca a34 fun _ F=>Zop F T C__law_form
 have C__law_leaf:=ca a35 fun _ F=>Zh3 F T C__law_head
 have C__law_small:=ca a36 fun _ F=>Zmy F T C__law_head C__law_many C__law_leaf
 have C__law_trees:=ca a37 fun _ F=>Zos F T C__law_cell C__law_tree C__law_walk C__law_with C__law_small
 have C__law_has:=ca a38 fun _ F=>Zoo F T
 have C__law_leads:=ca a39 fun _ F=>Zob F T KL KL.op.at_ KL.oc.at_ C_row_to C__law_has C__law_form C__law_with C_behind MD MkC
 exact Ziu FX T C__law_names C__law_cell C__law_trees C__law_leads C_row_to
theorem walk {l:V3}{q:Program}{loose:List Str}{XP:(Str->Option Value)->Heap->Prop}{YP:World->Heap->Prop}{d:DefRec}{K:Params->Om}(hn:l.most=some 63)(hdf:d.params.defaults=[])
  (hY:∀(w:World)(h:Heap),YP w h->(K w.params).In h)
  (F:∀(w:World)(mg:Str->Option Value)(fa:Addr)(h:Heap),(K w.params).In h->h.Ns mainGlobals mg->mg d.name=some (.ref fa) ->
   ∃ fd:FuncData,(∀(s:Shared)(u:Value),BindsTo s fd ⟨[u],[]⟩ [("_law_script",u)])/\∀ base:Heap,(K w.params).In base->base.Ns mainGlobals mg->Aq l.prog w (K w.params) mg base Ar 11 fa fd ["_law_script"] (Nn (K w.params))) :
  PySem.W.WalkO q loose XP YP l.row.toRowW d [] (fun f vs=>PySem.call f vs) :=
 L2.walk_of (n:=63) (k:=11) (x := "_law_script") (CX:=fun _=>Ar) (sp:=fun w=>Nn (K w.params)) hn (by decide) hdf ⟨rfl,by decide,by decide⟩ hY F (fun _ _ a ns hl _ hS=>⟨a,ns,rfl,hS,hl,fun _=>rfl⟩) fun _ _ _ _ _ z=>z
end K27
open PySem PySem.W PyProof.Rows
set_option maxRecDepth 100000 in
set_option maxHeartbeats 0 in
theorem PySem.Challenge.cw_gapscribe_k27_rows_lead_holds : PySem.Challenge.rw_gapscribe_k27_rows_lead.Holds := by
 w_on; o_law; o_head (PySem.W.kHook K27.KK K27.KA (fun _=>by kernel_rfl)); (case hw=>w_witness2)
 k_fill
 refine K27.walk (l:=PySem.Challenge.rw_gapscribe_k27_rows_lead) rfl rfl (fun w h Y=>PySem.W.kIn_of Y) ?F
 case F =>
  intro w mg fa h KX G hmg
  refine' K27.all_mk KX G hmg ?a1 ?a2 ?a3 ?a4 ?a5 ?a6 ?a7 ?a8 ?a9 ?a10 ?a11 ?a12 ?a13 ?a14 ?a15 ?a16 ?a17 ?a18 ?a19 ?a20 ?a21 ?a22 ?a23 ?a24 ?a25 ?a26 ?a27 ?a28 ?a29 ?a30 ?a31 ?a32 ?a33 ?a34 ?a35 ?a36 ?a37 ?a38 ?a39 ?a40 ?z1 ?z2 ?z3 ?z4 ?z5 ?z6 ?z7 ?z8 ?z9 ?z10 ?z11 ?z12 ?b1 ?b2 ?b3 ?b4 ?b5 ?b6 ?b7 ?b8 ?c1 ?c2 ?c3 ?c4 ?d1 ?d2 ?d3 ?d4 ?d5 ?e1 ?e2 ?yP1 ?yP2 ?yP3 ?yP4 ?yP5 ?yP6 ?yP7 ?yP8 ?yP9 ?yP0 ?yC1 ?yC2 ?yC3 ?yC4 ?yC5 ?yC6 ?yC7 ?yC8 ?yC9 ?yC0 ?m1 ?m2 ?i1 ?i2 ?i3 ?i4 ?i5 ?i6 ?q1 ?q2 ?q3 ?q4 ?q5
  (case a1=>walk_at "gd")
  (case a2=>walk_at "gd")
  (case a3=>walk_at "gd")
  (case a4=>walk_at "gd")
  (case a5=>walk_at "gd")
  (case a6=>walk_at "gd")
  (case a7=>walk_at "gd")
  (case a8=>walk_at "gd")
  (case a9=>walk_at "gd")
  (case a10=>walk_at "gd")
  (case a11=>walk_at "gd")
  (case a12=>walk_at "gd")
  (case a13=>walk_at "gd")
  (case a14=>walk_at "gd")
  (case a15=>walk_at "gd")
  (case a16=>walk_at "gd")
  (case a17=>walk_at "gd")
  (case a18=>walk_at "gd")
  (case a19=>walk_at "gd")
  (case a20=>walk_at "gd")
  (case a21=>walk_at "gd")
  (case a22=>walk_at "gd")
  (case a23=>walk_at "gd")
  (case a24=>walk_at "gd")
  (case a25=>walk_at "gd")
  (case a26=>walk_at "gd")
  (case a27=>walk_at "gd")
  (case a28=>walk_at "gd")
  (case a29=>walk_at "gd")
  (case a30=>walk_at "gd")
  (case a31=>walk_at "gd")
  (case a32=>walk_at "gd")
  (case a33=>walk_at "gd")
  (case a34=>walk_at "gd")
  (case a35=>walk_at "gd")
  (case a36=>walk_at "gd")
  (case a37=>walk_at "gd")
  (case a38=>walk_at "gd")
  (case a39=>walk_at "gd")
  (case a40=>walk_at "gd")
  (case z1=>k_is)
  (case z2=>k_is)
  (case z3=>k_is)
  (case z4=>k_is)
  (case z5=>k_is)
  (case z6=>k_is)
  (case z7=>k_is)
  (case z8=>k_is)
  (case z9=>k_is)
  (case z10=>k_is)
  (case z11=>k_is)
  (case z12=>k_is)
  (case b1=>k_is)
  (case b2=>k_is)
  (case b3=>k_is)
  (case b4=>k_is)
  (case b5=>rfl)
  (case b6=>k_is)
  (case b7=>k_is)
  (case b8=>rfl)
  (case c1=>k_is)
  (case c2=>k_is)
  (case c3=>rfl)
  (case c4=>(repeat (first | exact .nil | refine .cons ⟨_,rfl⟩ ?_)))
  (case d1=>k_is)
  (case d2=>k_is)
  (case d3=>rfl)
  (case d4=>k_is)
  (case d5=>rfl)
  (case e1=>k_is)
  (case e2=>k_is)
  (case yP1=>k_is)
  (case yP2=>k_is)
  (case yP3=>k_is)
  (case yP4=>k_is)
  (case yP5=>k_is)
  (case yP6=>k_is)
  (case yP7=>k_is)
  (case yP8=>k_is)
  (case yP9=>k_is)
  (case yP0=>k_is)
  (case yC1=>k_is)
  (case yC2=>k_is)
  (case yC3=>k_is)
  (case yC4=>k_is)
  (case yC5=>k_is)
  (case yC6=>k_is)
  (case yC7=>k_is)
  (case yC8=>k_is)
  (case yC9=>k_is)
  (case yC0=>k_is)
  (case m1=>walk_at "gm")
  (case m2=>walk_at "gm")
  (case i1=>k_is)
  (case i2=>k_is)
  (case i3=>k_is)
  (case i4=>k_is)
  (case i5=>k_is)
  (case i6=>k_is)
  (case q1=>k_is)
  (case q2=>k_is)
  (case q3=>k_is)
  (case q4=>k_is)
  (case q5=>rfl)
#print axioms PySem.Challenge.cw_gapscribe_k27_rows_lead_holds
