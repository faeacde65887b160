import PyProof.Rows.All
import Wide.All
import OpenK.AllK
import Wide.FinOn
import Lean
import PyProof.EqAt
import PyProof.EqKinds
import PyProof.TupleCall
import PyProof.StrBlock2
import KE.KDictOf
import PyProof.AttrMissHeap
import KE.KRevSl
import KE.KDictSum
import PyProof.Rows.SortStr
import KE.KRevIter
import PyProof.RangeIter
import PySem.Challenge.RW_gapscribe_k49_whole_put_round
set_option compiler.extract_closed false
set_option bootstrap.genMatcherCode false
set_option genSizeOfSpec false
set_option Elab.async false
set_option linter.all false
set_option maxRecDepth 100000
open Array renaming length_toList->R7,getElem?_eq_some_iff->Ts
open Bool renaming false_ne_true->Pi,and_eq_true->Rk,false_eq_true->Sy,eq_iff_iff->Uq
open False renaming elim->P9
open Int renaming emod_nonneg->P3,emod_lt_of_pos->Qk,toNat_natCast->Qm,add_zero->Th,le_refl->Tj,add_assoc->U1
open List renaming getElem?_eq_getElem->Pa,size_toArray->Pe,length_append->Pg,getElem?_eq_some_iff->Pq,mem_cons->Pd,length_singleton->Pl,not_mem_nil->Pj,length_map->Ph,getElem?_append_right->P6,getElem?_append_left->Qa,append_assoc->P0,map_append->Pz,mem_singleton->P4,mem_of_getElem?->Qs,range->Pw,getElem?_map->Ql,mem_append_right->Q0,append_nil->Qe,length_cons->Qn,length_take->Qo,replicate->Qg,map_cons->Qb,mem_cons_of_mem->Rh,find?_cons->Qv,eq_nil_of_length_eq_zero->Sk,reverse_append->Rs,length_reverse->Rt,drop_eq_getElem_cons->Sn,mem_append->Ra,lookup_cons->Rl,all_cons->Q4,drop_of_length_le->So,all_eq_true->Ru,take_length->Rv,append_inj'->Rw,replicate_succ->Sv,length_drop->R8,reverse_singleton->Ua,take_of_length_le->Uc,lookup->Rc,map_nil->Ro,reverse_cons->Sz,map_reverse->S8,filterMap_cons->Ud,mem_cons_self->Ue,forIn_cons->Ta,flatten_cons->Ui,take_add_one->Uk,singleton_append->Vn,mem_reverse->Up,any_cons->Tg,dropLast_concat_getLast->Wc,nodup_cons->Ur,of_mem_zip->Us,length_nil->Uv,forIn_nil->Ux,find?_append->Vw,length->Ti,getElem_mem->Vy,cons_append->V0,mem_map->Vc
open Nat renaming le_refl->O9,lt_of_lt_of_le->Pt,ne_of_lt->Pn,le_trans->P8,lt_irrefl->Qt,zero_le->Qh,ne_of_gt->Qq,sub_self->Rb,lt_succ_self->Ul,le_add_right->Uo,le_of_lt->U4,add_comm->U8,succ_pos->Va,sub_zero->Vb,le_succ->Ve
open Ne renaming symm->Pk
open Option renaming bind_some->Pb,bind_eq_some_iff->Px,map_eq_some_iff->Q7,map_some->Qw,isSome_iff_exists->R5
open Option.some renaming inj->P5
open PyProof.Rows renaming callWith_type1->Rq,slot_tuple_getitem->Vg
open PySem renaming wpAny_bind->O7,wpAny_pure->O8,wpAny_field->Pm,wpAny_callSpecial?_slot->Q6,wpAny_setField_rec->Q1,wpAny_seqItems->Qx,wpAny_call_entry->Q9,wpAny_truthy_bool->Ri,mem_of_lookup->Rr,wpAny_newObj_type->Rj,wpAny_holding->Qy,builtinLookup_eq_fast->Sq,wpAny_passesOwn->Ry,wpAny_getItem_str_slice->Tz,wpAny_Call_Name_kw->Sw,wpAny_pyIter_tuple->Sx,wpAny_execs_nil->R9,codeAny_builtin->Sa,Params->Rp,wpAny_mono->Q5,plainId_quiet->Rz,wpAny_attempt->Sd,typeLookup_type->Tb,wpAny_pyIter_list->Uj,wpAny_setField->Td,codeAny_mono->Sh,noFill_tuple_add->Um,wpAny_updateSeq_pair->Vo,call_meets->R0,post_val_or_str->Ut,wpAny_updateSeq->Uu,slot_list_getitem->Vv,Stmt->Sj,seq_tuple_add->Uz,wpAny_onRaise->U0,wpAny_execs_cons->Vx,wpAny_isInstance->Vz,Within->U3,concat_meets->U6,wpAny_typeOf->U7,wpAny_specialOf->V5,wpAny_rule->Tk,sizeLine_eq->Vd,wpAny_letGo->Vf
open PySem.Around renaming under_plainId->R6
open PySem.AutoSeq1 renaming wpAny_loadPart'->Tp
open PySem.Builtin.List renaming listTooLong->Tw,listLengthHint->Vh,listExtendWith->Vi
open PySem.Builtin.Slice renaming slicePlaces->Tt,sliceAdjust->Vk
open PySem.Builtin.SmallTypes renaming ownedTupleIsFree->Qz,nextOf->Qr,ownedTupleHandOut->V7
open PySem.Builtin.Tuple renaming tupleExact->Tv
open PySem.Calls renaming spliced_cons->Vq,spliced_nil->Vu
open PySem.Challenge renaming pw_gapscribe_k49_whole_put_round->R4
open PySem.F renaming plainAttrs_list->Py,slot_list_append->Qc,type_list_append->Qd,slot_zip_next->Rg,slot_tuple_iterator_next->To,plain_extend_loop->Sl,slot_enumerate_next->Tq,slot_list_pop->Sr,type_list_pop->Ss,args_tuple_add_2->Tu,entry_tuple_add->Tx,args_zip_next_1->T8,slot_tuple_add->T9,entry_zip_next->Ub,excBase_ValueError->Vj,slot_list_getattribute->Vl,args_tuple_iterator_next_1->V8,entry_tuple_iterator_next->V9,args_enumerate_next_1->Wa,entry_enumerate_next->Wb
open PySem.Heap renaming get?_push_of_some->Pc,get?_push_size->Po,lt_size->Pf,SameBut->Pp,get?_update_other->Qu,size_push->Qf,get?_update_self->Rf,get?_none_of_le->Su,ExtBut->Si,dictOf_iff->V6
open PySem.Obj renaming mapSeq->Qi,data_mapFields->Ug,mapFields->Se,isFreed_of_fields->Vm
open PySem.Paired renaming length->Uy
open PySem.PassesOwn renaming never->Q2
open PySem.SeqAt renaming EqAt->Ps
open PySem.SeqAt.EqAt renaming same->V3
open PySem.Str renaming ofString->Qj
open PySem.Txt renaming slice_le->U9,slice->Tl
open PySem.W renaming Frag->O6,nsIn->Pu,findIn->P7,kia_one->Qp,emptyDict->Q8,keepIn->Q3,instObj->Rm,fnOf->Rn,tailIn->Sb,nsOkIn->Sc,plainGet->S6,BT->Re,callWith_K->Uf,clsIn->Sf,subIn->Sg,hasDictIn->Uh,kitOne->Tc,Looks->Te,plainGet_of->Vp,lookIn->Uw,methodObj->Vr,plainOver->Vs,kitx_list->Vt,mg_of->U2,isFn->U5,takerIn->V1,makesIn->V2,OpenLaw->V4
namespace L2
open PySem PySem.Spec PyProof.Rows
noncomputable abbrev Aq:=Sum Int Str
noncomputable def Hv:Aq->Value->Bool
 | .inl k,v=>Value.isInt k v
 | .inr x,v=>Value.isStrOf x v
noncomputable def keyH (w:World):Aq->Int
 | .inl k=>hashInt k
 | .inr x=>hashStr w x
theorem Fj:∀{k:Aq}{v:Value},Hv k v=true->(∃ i t,k=Sum.inl i/\v=Value.int i t)\/(∃ x t,k=Sum.inr x/\v=Value.str x t)
 | .inl i,v,h=>by
  obtain ⟨t,e⟩:=Value.isInt_shape (k:=i) (v:=v) h
  exact .inl ⟨i,t,rfl,e⟩
 | .inr x,v,h=>by
  obtain ⟨t,e⟩:=Value.isStrOf_shape (x:=x) (v:=v) h
  exact .inr ⟨x,t,rfl,e⟩
theorem Zpf (i:Int)(t:Tok):Hv (.inl i) (.int i t)=true:=by simp [Hv,Value.isInt]
theorem Zp1 (x:Str)(t:Tok):Hv (.inr x) (.str x t)=true:=by simp [Hv,Value.isStrOf]
theorem Ziv (a b:Int):decide ((Sum.inl a:Aq)=Sum.inl b)=(a == b):=by
 by_cases e:a=b
 ·subst e;simp
 ·have h:¬ (Sum.inl a:Aq)=Sum.inl b:=fun q=>e (Sum.inl.inj q)
  rw [decide_eq_false h]
  exact (beq_eq_false_iff_ne.mpr e).symm
theorem Zhp (a b:Str):decide ((Sum.inr a:Aq)=Sum.inr b)=decide (a=b):=by
 by_cases e:a=b
 ·subst e;simp
 ·have h:¬ (Sum.inr a:Aq)=Sum.inr b:=fun q=>e (Sum.inr.inj q)
  rw [decide_eq_false h,decide_eq_false e]
theorem Zmm (a:Int)(b:Str):decide ((Sum.inl a:Aq)=Sum.inr b)=false:=decide_eq_false (fun q=>nomatch q)
theorem Zl1 (a:Str)(b:Int):decide ((Sum.inr a:Aq)=Sum.inl b)=false:=decide_eq_false (fun q=>nomatch q)
noncomputable def Dq (prog:Program)(w:World):PySem.KeyKind prog w Aq where
 is:=Hv
 hash:=keyH w
 inj:=fun v a b ha hb=>by
  rcases Fj ha with ⟨i,t,rfl,rfl⟩ | ⟨x,t,rfl,rfl⟩
  ·rcases Fj hb with ⟨j,u,rfl,e⟩ | ⟨y,u,rfl,e⟩
   ·injection e with e1 _;rw [e1]
   ·exact nomatch e
  ·rcases Fj hb with ⟨j,u,rfl,e⟩ | ⟨y,u,rfl,e⟩
   ·exact nomatch e
   ·injection e with e1 _;rw [e1]
 byValue:=fun k v h=>by
  rcases Fj h with ⟨i,t,rfl,rfl⟩ | ⟨x,t,rfl,rfl⟩ <;> rfl
 pyHash:=fun hv h=>by
  rcases Fj hv with ⟨i,t,rfl,rfl⟩ | ⟨x,t,rfl,rfl⟩
  ·exact wpAny_pyHash_int h
  ·exact wpAny_pyHash_str h
 eqBool:=fun hu hv h=>by
  rcases Fj hu with ⟨i,t,rfl,rfl⟩ | ⟨x,t,rfl,rfl⟩
  ·rcases Fj hv with ⟨j,u,rfl,rfl⟩ | ⟨y,u,rfl,rfl⟩
   ·rw [Ziv] at h;exact wpAny_eqBool_int h
   ·rw [Zmm] at h;exact Ps.int_str i t y u _ _ _ _ h
  ·rcases Fj hv with ⟨j,u,rfl,rfl⟩ | ⟨y,u,rfl,rfl⟩
   ·rw [Zl1] at h;exact Ps.str_int x t j u _ _ _ _ h
   ·rw [Zhp] at h;exact wpAny_eqBool_str h
 «strs»:=fun k x t v h=>by
  rcases Fj h with ⟨i,u,rfl,e⟩ | ⟨y,u,rfl,e⟩
  ·exact nomatch e
  ·injection e with e1 _
   subst e1
   cases v <;> rfl
theorem Zg1 (prog:Program)(w:World)(i:Int)(t:Tok):(Dq prog w).is (.inl i) (.int i t)=true:=Zpf i t
theorem Zon (prog:Program)(w:World)(x:Str)(t:Tok):(Dq prog w).is (.inr x) (.str x t)=true:=Zp1 x t
inductive V where
 | non | bl (b:Bool) | int (i:Int) | str (x:Str) | byt (b:Array UInt8) | flt (b:UInt64) | ref (a:Addr) | ty (n:String)
 deriving DecidableEq
noncomputable def RelV:V->Value->Prop
 | .non,u=>u=Value.none
 | .bl b,u=>u=Value.bool b
 | .int i,u=>∃ t,u=Value.int i t
 | .str x,u=>∃ t,u=Value.str x t
 | .byt b,u=>∃ t,u=Value.bytes b t
 | .flt b,u=>∃ t,u=Value.float b t
 | .ref a,u=>u=Value.ref a
 | .ty n,u=>u=Value.type n
noncomputable abbrev Vals:List V->List Value->Prop:=Paired RelV
theorem Vals.length {xs:List V}{us:List Value}(r:Vals xs us):xs.length=us.length:=Uy r
theorem Vals.get:∀{xs:List V}{us:List Value}{i:Nat}{x:V},Vals xs us->xs[i]?=some x->∃ u,us[i]?=some u/\RelV x u
 | _,_,_,_,.nil,e=>by simp at e
 | _,_,0,_,.cons r _,e=>by simp at e;subst e;exact ⟨_,rfl,r⟩
 | _,_,i+1,x,.cons _ t,e=>by
  obtain ⟨u,h1,h2⟩:=Vals.get (i:=i) (x:=x) t (by simpa using e)
  exact ⟨u,by simpa using h1,h2⟩
theorem Vals.set {x:V}{u:Value}(r:RelV x u):∀{xs:List V}{us:List Value}(i:Nat),Vals xs us->Vals (xs.set i x) (us.set i u)
 | _,_,_,.nil=>.nil
 | _,_,0,.cons _ t=>.cons r t
 | _,_,i+1,.cons q t=>.cons q (Vals.set r i t)
theorem Vals.append:∀{xs ys:List V}{us ws:List Value},Vals xs us->Vals ys ws->Vals (xs++ys) (us++ws)
 | _,_,_,_,.nil,s=>s
 | _,_,_,_,.cons r t,s=>.cons r (Vals.append t s)
theorem Vals.take:∀{xs:List V}{us:List Value}(n:Nat),Vals xs us->Vals (xs.take n) (us.take n)
 | _,_,0,_=>.nil
 | _,_,_+1,.nil=>.nil
 | _,_,n+1,.cons r t=>.cons r (Vals.take n t)
theorem Vals.drop:∀{xs:List V}{us:List Value}(n:Nat),Vals xs us->Vals (xs.drop n) (us.drop n)
 | _,_,0,r=>r
 | _,_,_+1,.nil=>.nil
 | _,_,n+1,.cons _ t=>Vals.drop n t
noncomputable def RelO:Option V->Option Value->Prop
 | some v,some u=>RelV v u
 | none,none=>True
 | _,_=>False
noncomputable def KV {κ:Type}:List (κ×V)->List (κ×Value)->Prop:=Paired fun (p:κ×V) (q:κ×Value)=>p.1=q.1/\RelV p.2 q.2
noncomputable def kV:Aq->V
 | .inl i=>.int i
 | .inr x=>.str x
inductive HO where
  | lst (xs:List V)
  | tup (xs:List V)
  | dK (kvs:List (Aq×V)) | dT (kvs:List (List Aq×V))
  | set (S:Int->Bool) (n:Nat)
  | ins (C dx:Addr) (fs:List (Str×V))
  | own (x:Addr)
  | xd (fs:List (Str×V))
  | met (f x:Addr)
  | rng (lo hi:Int)
  | frz (o:Obj) (u:HO)
  | tbl (ps:Array Value)
  | ext (φ:Heap->Prop)
noncomputable abbrev Hp:=Addr->Option HO
noncomputable def upd (H:Hp)(a:Addr)(o:HO):Hp:=fun b=>if b=a then some o else H b
theorem Ad {H:Hp}{a:Addr}{o:HO}:upd H a o a=some o:=by unfold upd;rw [if_pos rfl]
theorem Ai {H:Hp}{a b:Addr}{o:HO}(h:b≠a):upd H a o b=H b:=by unfold upd;rw [if_neg h]
theorem Jk {H:Hp}{a:Addr}{o u:HO}:upd (upd H a o) a u=upd H a u:=by
 funext b;unfold upd;split <;> rfl
theorem Dr {H:Hp}{a b:Addr}{o u:HO}(h:H a=some o)(h':H b=some u)(d:o≠u):a≠b:=by
 intro e;subst e;rw [h] at h';exact d (P5 h')
theorem Cr {H:Hp}{a b:Addr}{o:HO}(h:H a=some o)(h':H b=none):a≠b:=by
 intro e;subst e;rw [h] at h';cases h'
section
variable (P:Program)(w:World)
noncomputable def ObjOk (H:Hp)(h:Heap)(a:Addr):HO->Prop
 | .lst xs=>xs.length<=sizeLine/\∃(its:List Value)(n:Nat),Vals xs its/\h.get? a=some { cls:=.type "list",data:=.seq its.toArray n }
 | .tup xs=>xs.length<=sizeLine/\∃ its:List Value,Vals xs its/\IsTup h a its.toArray
 | .dK kvs=>kvs.length<=sizeLine/\(a == sysModules)=false/\∃ vs,KV kvs vs/\h.DictOf (Dq P w) a vs
 | .dT kvs=>kvs.length<=sizeLine/\(a == sysModules)=false/\∃ xs:List (List Aq×Addr×Value),
   Paired (fun (p:List Aq×V) (q:List Aq×Addr×Value)=>p.1=q.1/\H q.2.1=some (.tup (p.1.map kV))/\RelV p.2 q.2.2) kvs xs /\
   ∃ o es ep,h.get? a=some o/\o.ExactDict/\o.data=.dict es ep/\es.toList=xs.map (entryOfKey (tupleKind (Dq P w)))/\(xs.map (·.1)).Nodup
 | .set S n=>h.SetOf (intKind P w) a S n
 | .ins C dx fs=>H dx=some (.own a)/\fs.length<=1000/\dx≠a/\h.get? a=some (Rm C dx) /\
   ∃ mA,h.Ns1 dx mA/\(∀ f,RelO (fs.lookup f) (mA f))/\U3 mA (fs.map (·.1))
 | .own _=>∃ o,h.get? a=some o
 | .xd fs=>∃ mA,h.Ns1 a mA/\∀ f,RelO (fs.lookup f) (mA f)
 | .rng lo hi=>∃ t u v,h.get? a=some { cls:=.type "range",data:=.fields #[.int lo t,.int hi u,.int 1 v] }
 | .frz o u=>h.get? a=some o/\ObjOk H h a u
 | .tbl ps=>h.get? a=some { cls:=.none,data:=.fields ps }
 | .met f x=>h.get? a=some (Vr (.ref f) (.ref x))
 | .ext φ=>φ h/\(∃ o,h.get? a=some o)/\∀ h1 h2:Heap,φ h1->(∀ o,h1.get? a=some o->h2.get? a=some o)->φ h2
noncomputable def HOk (H:Hp)(h:Heap):Prop:=∀ a o,H a=some o->ObjOk P w H h a o
end
section
variable {P:Program}{w:World}{H H':Hp}{h h':Heap}{a:Addr}{o:HO}
theorem ObjOk.lt (x:ObjOk P w H h a o):a < h.objs.size:=by
 cases o with
 | lst xs=>obtain ⟨_,_,_,_,e⟩:=x;exact Pf e
 | tup xs=>obtain ⟨_,_,_,p⟩:=x;exact p.lt
 | dK kvs=>obtain ⟨_,_,_,_,o,_,_,e,_⟩:=x;exact Pf e
 | dT kvs=>obtain ⟨_,_,_,_,o,_,_,e,_⟩:=x;exact Pf e
 | set S n=>obtain ⟨o,_,_,_,e,_⟩:=x;exact Pf e
 | ins C dx fs=>obtain ⟨_,_,_,e,_⟩:=x;exact Pf e
 | own y=>obtain ⟨_,e⟩:=x;exact Pf e
 | xd fs=>obtain ⟨_,⟨_,_,_,e,_⟩,_⟩:=x;exact Pf e
 | rng lo hi=>obtain ⟨_,_,_,e⟩:=x;exact Pf e
 | frz ob u=>obtain ⟨e,_⟩:=x;exact Pf e
 | tbl ps=>exact Pf (show h.get? a=some _ from x)
 | met f y=>exact Pf (show h.get? a=some _ from x)
 | ext φ=>obtain ⟨_,⟨_,e⟩,_⟩:=x;exact Pf e
theorem Paired.mapP {α β:Type}{F G:α->β->Prop}:∀{l₁:List α}{l₂:List β},Paired F l₁ l₂->(∀ a b,F a b->G a b)->Paired G l₁ l₂
 | _,_,.nil,_=>.nil
 | _,_,.cons r t,f=>.cons (f _ _ r) (Paired.mapP t f)
theorem ObjOk.stay (x:ObjOk P w H h a o)(k:∀ b u,(b=a\/H b=some (.own a))->h.get? b=some u->h'.get? b=some u)
  (ho:∀ b,H b=some (.own a)->H' b=some (.own a)) (ht:∀ b xs,H b=some (.tup xs)->H' b=some (.tup xs)):ObjOk P w H' h' a o:=by
 induction o with
 | lst xs=>obtain ⟨z,its,n,r,e⟩:=x;exact ⟨z,its,n,r,k _ _ (.inl rfl) e⟩
 | tup xs=>obtain ⟨z,its,r,ob,e,c⟩:=x;exact ⟨z,its,r,ob,k _ _ (.inl rfl) e,c⟩
 | dK kvs=>obtain ⟨z,y,vs,r,ob,es,ep,e,c⟩:=x;exact ⟨z,y,vs,r,ob,es,ep,k _ _ (.inl rfl) e,c⟩
 | dT kvs =>
  obtain ⟨z,y,xs,r,ob,es,ep,e,c⟩:=x
  exact ⟨z,y,xs,Paired.mapP r fun p q z=>⟨z.1,ht _ _ z.2.1,z.2.2⟩,ob,es,ep,k _ _ (.inl rfl) e,c⟩
 | set S n=>obtain ⟨ob,es,ep,t,e,c⟩:=x;exact ⟨ob,es,ep,t,k _ _ (.inl rfl) e,c⟩
 | ins C dx fs =>
  obtain ⟨d,z,ne,e,mA,⟨od,es,ep,e2,c⟩,r⟩:=x
  exact ⟨ho _ d,z,ne,k _ _ (.inl rfl) e,mA,⟨od,es,ep,k _ _ (.inr d) e2,c⟩,r⟩
 | own y=>obtain ⟨ob,e⟩:=x;exact ⟨ob,k _ _ (.inl rfl) e⟩
 | xd fs=>obtain ⟨mA,⟨od,es,ep,e,c⟩,r⟩:=x;exact ⟨mA,⟨od,es,ep,k _ _ (.inl rfl) e,c⟩,r⟩
 | rng lo hi=>obtain ⟨t,u,v,e⟩:=x;exact ⟨t,u,v,k _ _ (.inl rfl) e⟩
 | frz ob u ih=>obtain ⟨e,q⟩:=x;exact ⟨k _ _ (.inl rfl) e,ih q⟩
 | tbl ps =>
  have e:h.get? a=some { cls:=.none,data:=.fields ps }:=x
  show h'.get? a=some { cls:=.none,data:=.fields ps }
  exact k a _ (.inl rfl) e
 | met f y =>
  have e:h.get? a=some (Vr (.ref f) (.ref y)):=x
  show h'.get? a=some (Vr (.ref f) (.ref y))
  exact k a _ (.inl rfl) e
 | ext φ=>obtain ⟨p,⟨o,e⟩,st⟩:=x;exact ⟨st _ _ p fun o q=>k _ _ (.inl rfl) q,⟨o,k _ _ (.inl rfl) e⟩,st⟩
theorem HOk.lt (x:HOk P w H h)(e:H a=some o):a < h.objs.size:=(x a o e).lt
theorem HOk.fresh (x:HOk P w H h)(e:h.objs.size<=a):H a=none:=by
 cases q:H a with
 | none=>rfl
 | some u=>exact absurd (Pt (x.lt q) e) (Qt _)
theorem HOk.kept (x:HOk P w H h)(k:∀ b u,h.get? b=some u->h'.get? b=some u):HOk P w H h':=fun a o e =>
 (x a o e).stay (fun b u _ q=>k b u q) (fun _ q=>q) fun _ _ q=>q
theorem HOk.laid (x:HOk P w H h)(k:∀ b u,h.get? b=some u->h'.get? b=some u)(hp:h.objs.size<=a)(new:ObjOk P w (upd H a o) h' a o):HOk P w (upd H a o) h':=fun b u e=>by
 have hn:=x.fresh hp
 by_cases hb:b=a
 ·subst hb;rw [Ad] at e;cases e;exact new
 ·rw [Ai hb] at e
  exact (x b u e).stay (fun c v _ q=>k c v q) (fun c q=>by rw [Ai (Cr q hn)];exact q) fun c xs q=>by rw [Ai (Cr q hn)];exact q
end
noncomputable def Rd (H:Hp)(a:Addr)(u:HO):Prop:=H a=some u\/∃ o,H a=some (.frz o u)
theorem Rd.ok {P:Program}{w:World}{H:Hp}{h:Heap}{a:Addr}{u:HO}(r:Rd H a u)(x:HOk P w H h):ObjOk P w H h a u:=by
 rcases r with r | ⟨o,r⟩
 ·exact x a u r
 ·obtain ⟨_,q⟩:=x a _ r
  exact q
noncomputable def Mut:Option HO->Prop
 | some (.lst _)=>True
 | some (.dK _)=>True
 | some (.dT _)=>True
 | some (.set _ _)=>True
 | some (.ins _ _ _)=>True
 | some (.ext _)=>True
 | _=>False
section
variable {P:Program}{w:World}{H:Hp}{h h':Heap}{x e:Addr}{o':HO}
theorem HOk.write (ok:HOk P w H h)(mu:Mut (H x))(he:e=x\/H e=some (.own x))(k:∀ b u,b≠e->h.get? b=some u->h'.get? b=some u)(heo:∃ u,h'.get? e=some u)
  (new:ObjOk P w (upd H x o') h' x o'):HOk P w (upd H x o') h':=fun b u q=>by
 have nown:∀ c y,H c=some (.own y)->c≠x:=fun c y r z=>by subst z;rw [r] at mu;exact mu
 have ntup:∀ c xs,H c=some (.tup xs)->c≠x:=fun c xs r z=>by subst z;rw [r] at mu;exact mu
 by_cases hb:b=x
 ·subst hb;rw [Ad] at q;cases q;exact new
 ·rw [Ai hb] at q
  by_cases hbe:b=e
  ·have q':H b=some (.own x):=by
    rcases he with z | z
    ·exact absurd (hbe.trans z) hb
    ·rw [hbe];exact z
   rw [q] at q';cases q'
   obtain ⟨v,hv⟩:=heo
   exact ⟨v,by rw [hbe];exact hv⟩
  ·refine (ok b u q).stay (fun c v hc r=>k c v ?_ r) (fun c r=>by rw [Ai (nown c b r)];exact r) fun c xs r=>by rw [Ai (ntup c xs r)];exact r
   rcases hc with rfl | hc
   ·exact hbe
   ·rintro rfl
    rcases he with z | z
    ·exact nown c b hc z
    ·rw [hc] at z;cases z;exact hb rfl
end
structure Un (fs ex:List Addr)(H H':Hp)(h h':Heap):Prop where
 keep:∀ b o,h.get? b=some o->H b=none->b ∉ fs->b ∉ ex->h'.get? b=some o
 slot:∀ b o,h.get? b=some o->H b=none->b∈fs->b ∉ ex->∃ sl,h'.get? b=some { o with slots:=sl }
 free:∀ b o,h.get? b=some o->H b=none->b ∉ ex->H' b=none
 there:∀ b o,h.get? b=some o->b ∉ ex->∃ o',h'.get? b=some o'
 tups:∀ b xs,H b=some (.tup xs)->H' b=some (.tup xs)
 frzs:∀ b o u,H b=some (.frz o u)->H' b=some (.frz o u)
 tbls:∀ b ps,H b=some (.tbl ps)->∃ more,H' b=some (.tbl (ps++more))
section
variable {fs fs' ex ex':List Addr}{H H1 H2:Hp}{h h1 h2 h':Heap}{a x e:Addr}{o:HO}
theorem Un.any (u:Un fs ex H H1 h h1){b:Addr}{ob:Obj}(q:h.get? b=some ob)(n:H b=none)(hx:b ∉ ex):∃ sl,h1.get? b=some { ob with slots:=sl }:=by
 by_cases hb:b∈fs
 ·exact u.slot b ob q n hb hx
 ·exact ⟨ob.slots,u.keep b ob q n hb hx⟩
theorem Un.kept (k:∀ b u,h.get? b=some u->h'.get? b=some u):Un fs ex H H h h' :=
 ⟨fun b ob q _ _ _=>k b ob q,fun b ob q _ _ _=>⟨ob.slots,k b ob q⟩,fun _ _ _ n _=>n,fun b ob q _=>⟨ob,k b ob q⟩,fun _ _ q=>q,fun _ _ _ q=>q,fun _ ps q=>⟨#[],by rw [q];simp⟩⟩
theorem Un.refl:Un fs ex H H h h:=Un.kept fun _ _ q=>q
theorem Un.laid (k:∀ b u,h.get? b=some u->h'.get? b=some u)(hp:h.objs.size<=a)(hn:H a=none):Un fs ex H (upd H a o) h h' where
 keep:=fun b u q _ _ _=>k b u q
 slot:=fun b u q _ _ _=>⟨u.slots,k b u q⟩
 free:=fun b u q n _=>by rw [Ai (Pn (Pt (Pf q) hp))];exact n
 there:=fun b u q _=>⟨u,k b u q⟩
 tups:=fun b xs q=>by rw [Ai (Cr q hn)];exact q
 frzs:=fun b u xs q=>by rw [Ai (Cr q hn)];exact q
 tbls:=fun b ps q=>⟨#[],by rw [Ai (Cr q hn),q];simp⟩
theorem Un.write (mu:Mut (H x))(he:e=x\/H e=some (.own x))(k:∀ b u,b≠e->h.get? b=some u->h'.get? b=some u)(heo:∃ u,h'.get? e=some u):Un fs ex H (upd H x o) h h':=by
 have hx:∀ b,H b=none->b≠x:=fun b n z=>by subst z;rw [n] at mu;exact mu
 have hb:∀ b,H b=none->b≠e:=fun b n z=>by
  subst z
  rcases he with r | r
  ·exact hx b n r
  ·rw [n] at r;cases r
 have hm:∀ b u,H b=some u->¬ Mut (some u)->b≠x:=fun b u q nm z=>by subst z;rw [q] at mu;exact nm mu
 refine ⟨fun b u q n _ _=>k b u (hb b n) q,fun b u q n _ _=>⟨u.slots,k b u (hb b n) q⟩,fun b u q n _=>by rw [Ai (hx b n)];exact n,fun b u q _=>?_,
  fun b xs q=>by rw [Ai (hm b _ q fun z=>z)];exact q,fun b u xs q=>by rw [Ai (hm b _ q fun z=>z)];exact q,fun b ps q=>⟨#[],by rw [Ai (hm b _ q fun z=>z),q];simp⟩⟩
 by_cases hbe:b=e
 ·subst hbe;exact heo
 ·exact ⟨u,k b u hbe q⟩
end
noncomputable def trk (h:Heap)(H:Hp):List Addr:=(Pw h.objs.size).filter fun a=>(H a).isSome
noncomputable def Fs (h:Heap)(H:Hp):Heap:=PySem.W.hideAll h (trk h H)
theorem Zjp (h:Heap)(H:Hp):(Fs h H).objs.size=h.objs.size:=PySem.W.hideAll_size _ _
theorem Zqy {h:Heap}{H:Hp}{b:Addr}{o:Obj}(e:h.get? b=some o)(n:H b=none):(Fs h H).get? b=some o :=
 PySem.W.hideAll_get _ e fun hm=>by
  have q:(H b).isSome=true:=(List.mem_filter.mp hm).2
  rw [n] at q;simp at q
theorem Zkc {h:Heap}{H:Hp}{b:Addr}{o:Obj}(e:(Fs h H).get? b=some o):h.get? b=some o/\H b=none:=by
 have e':h.get? b=some o:=PySem.W.of_hideAll (trk h H) e
 refine ⟨e',?_⟩
 cases q:H b with
 | none=>rfl
 | some x =>
  have hm:b∈trk h H:=List.mem_filter.mpr ⟨List.mem_range.mpr (Pf e'),by simp [q]⟩
  have z:(Fs h H).get? b=none:=PySem.W.hideAll_none (trk h H) hm
  rw [z] at e;cases e
structure Mod (K:O6)(mg:Str->Option Value)(base:Heap):Prop where
 kin:K.In base
 glob:base.Ns mainGlobals mg
 blt:∃ mb,base.Ns builtinsNs mb/\∀ x:Str,x ≠ "__name__" -> mb x=bootBuiltins x
 nolimit:base.NoLimit
structure Cx where
 prog:Program
 w:World
 K:O6
 mg:Str->Option Value
 base:Heap
 A:Around
 N:List Str
 s₀:Shared
 H₀:Hp
 env:Env
 outer:List Env
 stack:List Env
 ex:List Addr
 fn:Str->Bool
 calm:Bool
 pn:List (Addr×Obj)
 xe:Value->Shared->Prop
noncomputable def Bs (l:List Env):List Addr:=l.filterMap (·.frame)
noncomputable abbrev Cx.fs (X:Cx):List Addr:=Bs X.outer
noncomputable def Vis (sc:Scope)(x:Str):Prop:=sc.names.lookup x=some .local\/sc.names.lookup x=some .cell\/sc.names.lookup x=some .free
noncomputable def E6 (sc:Scope)(x:Str):Prop:=sc.names.lookup x=some .local\/sc.names.lookup x=some .cell
noncomputable def Look (env:Env)(h:Heap)(m:Str->Option Value)(x:Str)(u:Value):Prop :=
 (env.kindOf x=some .local/\m x=some u)\/((env.kindOf x=some .cell\/env.kindOf x=some .free)/\∃ c,env.cells.lookup x=some c/\h.IsCell c (some u))
structure Cx.Ok (X:Cx):Prop where
 mod:Mod X.K X.mg X.base
 kind:X.env.scope.kind=.function
 glob:X.env.globals=mainGlobals
 blt:X.env.builtins=builtinsNs
 above:X.s₀.heap.objs.size<=X.env.locals
 inj:∀ x y c,X.env.cells.lookup x=some c->X.env.cells.lookup y=some c->x=y
 has:∀ x,(X.env.kindOf x=some .cell\/X.env.kindOf x=some .free)->∃ c,X.env.cells.lookup x=some c
 cab:∀ x c,X.fn x=true->X.env.cells.lookup x=some c->X.s₀.heap.objs.size<=c
 hd:X.calm=true->X.A.handled=none
 frames:X.A.frames=some X.stack
 stk:X.stack=X.outer\/(X.stack=X.env::X.outer/\X.env.frame=some X.env.locals)
 exf:∀ b∈X.ex,b≠X.env.locals/\∀ x c,X.env.cells.lookup x=some c->c≠b
 bs:∀ b o,X.base.get? b=some o->X.s₀.heap.get? b=some o/\X.H₀ b=none
 bsz:X.base.objs.size<=X.s₀.heap.objs.size
 noex:∀ b o,X.base.get? b=some o->b ∉ X.ex
 exfs:∀ b∈X.ex,b ∉ X.fs
 funs:X.s₀.heap.FunFrames X.base X.outer
 frf:∀ b∈X.fs,X.H₀ b=none
structure Inv (X:Cx)(pins:List (Addr×Obj))(σ:List (Option V))(H:Hp)(s:Shared):Prop where
 ok:X.Ok
 os:s.os=X.s₀.os
 bare:AllBare s.gens
 base:Un X.fs X.ex X.H₀ H X.s₀.heap s.heap
 loc:∃ m,s.heap.Ns X.env.locals m/\∀(i:Nat)(x:Str)(v:V),X.N[i]?=some x->σ[i]?=some (some v)->Vis X.env.scope x->∃ u,RelV v u/\Look X.env s.heap m x u
 cell:∀ x c,X.env.cells.lookup x=some c->∃ v,s.heap.IsCell c v
 free:H X.env.locals=none
 freeC:∀ x c,X.env.cells.lookup x=some c->H c=none
 pin:∀ p∈X.pn++pins,s.heap.get? p.1=some p.2/\H p.1=none/\p.1≠X.env.locals/\p.1 ∉ X.fs/\∀ v,p.2.data≠.cell v
 hok:HOk X.prog X.w H s.heap
 len:σ.length=X.N.length
section
variable {X:Cx}{pins:List (Addr×Obj)}{σ:List (Option V)}{H H':Hp}{s:Shared}{h':Heap}
theorem Cx.Ok.nofr (ok:X.Ok){b:Addr}{o:Obj}(e:X.base.get? b=some o):b ∉ X.fs:=fun hb=>by
 have:=(ok.funs.mem hb).1
 rw [e] at this;cases this
theorem Inv.bs (I:Inv X pins σ H s):∀ b o,X.base.get? b=some o->s.heap.get? b=some o/\H b=none:=fun b o e =>
 ⟨I.base.keep b o (I.ok.bs b o e).1 (I.ok.bs b o e).2 (I.ok.nofr e) (I.ok.noex b o e),I.base.free b o (I.ok.bs b o e).1 (I.ok.bs b o e).2 (I.ok.noex b o e)⟩
theorem Inv.bk (I:Inv X pins σ H s):∀ b o,X.base.get? b=some o->s.heap.get? b=some o:=fun b o e=>(I.bs b o e).1
theorem Inv.mod (I:Inv X pins σ H s):Mod X.K X.mg X.base:=I.ok.mod
theorem Inv.kIn (I:Inv X pins σ H s):X.K.In s.heap:=I.ok.mod.kin.keeps I.bk
theorem Inv.lt (I:Inv X pins σ H s):X.env.locals < s.heap.objs.size:=let ⟨_,hn,_⟩:=I.loc;hn.lt
theorem Inv.sz (I:Inv X pins σ H s):X.s₀.heap.objs.size<=s.heap.objs.size:=P8 I.ok.above (U4 I.lt)
theorem Inv.nofs (I:Inv X pins σ H s){a:Addr}(h:s.heap.objs.size<=a):a ∉ X.fs:=fun hb=>by
 obtain ⟨_,o,ho,_⟩:=I.ok.funs.mem hb
 exact absurd (Pt (Pf ho) (P8 I.sz h)) (Qt _)
theorem Inv.cne (I:Inv X pins σ H s):∀ x c,X.env.cells.lookup x=some c->c≠X.env.locals:=fun x c e z=>by
 obtain ⟨v,o,ho,hd⟩:=I.cell x c e
 obtain ⟨m,⟨o',es,ep,ho',hd',_⟩,_⟩:=I.loc
 rw [z,ho'] at ho;cases ho;rw [hd'] at hd;cases hd
theorem Inv.funs (I:Inv X pins σ H s):s.heap.FunFrames X.base X.outer:=by
 have all:∀(l:List Env),(∀ b∈Bs l,b∈X.fs)->X.s₀.heap.FunFrames X.base l->s.heap.FunFrames X.base l:=by
  intro l
  induction l with
  | nil=>intro _ _;trivial
  | cons env r ih =>
   intro hs hl
   obtain ⟨hk,⟨L,o,hf,hn,ho,hd⟩,hr⟩:=hl
   have hL:L∈X.fs:=hs L (by unfold Bs;rw [Ud,hf];exact Ue)
   obtain ⟨sl,e⟩:=I.base.slot L o ho (I.ok.frf L hL) hL fun z=>I.ok.exfs L z hL
   exact ⟨hk,⟨L,_,hf,hn,e,hd⟩,ih (fun b hb=>hs b (by unfold Bs;rw [Ud,hf];exact Rh _ hb)) hr⟩
 exact all X.outer (fun _ hb=>hb) I.ok.funs
theorem Inv.stack (I:Inv X pins σ H s):s.heap.FunFrames X.base X.stack:=by
 rcases I.ok.stk with e | ⟨e,hf⟩
 ·rw [e];exact I.funs
 ·rw [e]
  obtain ⟨m,hn,_⟩:=I.loc
  refine .cons (by rw [I.ok.kind];decide) hf hn ?_ I.funs
  exact Su (P8 I.ok.bsz I.ok.above)
theorem Inv.stkSub (I:Inv X pins σ H s):∀ b∈Bs X.stack,b∈X.env.locals::X.fs:=fun b hb=>by
 rcases I.ok.stk with e | ⟨e,hf⟩
 ·rw [e] at hb;exact Rh _ hb
 ·rw [e] at hb
  unfold Bs at hb
  rw [Ud,hf] at hb
  exact hb
theorem Inv.stkFree (I:Inv X pins σ H s):∀ b∈Bs X.stack,H b=none:=fun b hb=>by
 rcases Pd.mp (I.stkSub b hb) with e | hb
 ·rw [e];exact I.free
 ·obtain ⟨_,o,ho,_⟩:=I.ok.funs.mem hb
  exact I.base.free b o ho (I.ok.frf b hb) fun z=>I.ok.exfs b z hb
theorem Inv.step {g':Array GenState}{t':Nat}{d':Drawn}{ch:List Addr}(I:Inv X pins σ H s)
  (hch:∀ b∈ch,(b∈X.ex\/X.s₀.heap.objs.size<=b)/\b≠X.env.locals/\(∀ x c,X.env.cells.lookup x=some c->c≠b)/\∀ p∈X.pn++pins,p.1≠b)
  (keep:∀ b o,b≠X.env.locals->b ∉ X.fs->b ∉ ch->s.heap.get? b=some o->H b=none->h'.get? b=some o)
  (slot:∀ b o,b≠X.env.locals->b∈X.fs->b ∉ ch->s.heap.get? b=some o->H b=none->∃ sl,h'.get? b=some { o with slots:=sl }) (free:∀ b o,b ∉ ch->s.heap.get? b=some o->H b=none->H' b=none)
  (there:∀ b o,b ∉ ch->s.heap.get? b=some o->∃ o',h'.get? b=some o')
  (tups:∀ b xs,H b=some (.tup xs)->H' b=some (.tup xs)) (frzs:∀ b o u,H b=some (.frz o u)->H' b=some (.frz o u)) (tbls:∀ b ps,H b=some (.tbl ps)->∃ more,H' b=some (.tbl (ps++more)))
  (ns:∀ m,s.heap.Ns X.env.locals m->h'.Ns X.env.locals m) (hok:HOk X.prog X.w H' h') (hg:AllBare g') :
  Inv X pins σ H' { s with heap:=h',gens:=g',drawn:=d',toks:=t' }:=by
 have neL:∀ b o,X.s₀.heap.get? b=some o->b≠X.env.locals:=fun b o e=>Pn (Pt (Pf e) I.ok.above)
 have neC:∀ b o,X.s₀.heap.get? b=some o->b ∉ X.ex->b ∉ ch:=fun b o e hx hb=>by
  rcases (hch b hb).1 with z | z
  ·exact hx z
  ·exact absurd (Pt (Pf e) z) (Qt _)
 have cellK:∀ x c,X.env.cells.lookup x=some c->∀ v,s.heap.IsCell c v->h'.IsCell c v:=fun x c e v ⟨o,ho,hd⟩=>by
  have nch:c ∉ ch:=fun z=>(hch c z).2.2.1 x c e rfl
  by_cases hc:c∈X.fs
  ·obtain ⟨sl,q⟩:=slot c o (I.cne x c e) hc nch ho (I.freeC x c e)
   exact ⟨_,q,hd⟩
  ·exact ⟨o,keep c o (I.cne x c e) hc nch ho (I.freeC x c e),hd⟩
 refine ⟨I.ok,I.os,hg,⟨fun b o e n hb hx=>?_,fun b o e n hb hx=>?_,fun b o e n hx=>?_,fun b o e hx=>?_,fun b xs e=>tups b xs (I.base.tups b xs e),fun b o xs e=>frzs b o xs (I.base.frzs b o xs e),fun b ps e=>?_⟩,?_,fun x c e=>?_,?_,fun x c e=>?_,fun p hp=>?_,hok,I.len⟩
 ·exact keep b o (neL b o e) hb (neC b o e hx) (I.base.keep b o e n hb hx) (I.base.free b o e n hx)
 ·obtain ⟨sl,e1⟩:=I.base.slot b o e n hb hx
  obtain ⟨sl',e2⟩:=slot b _ (neL b o e) hb (neC b o e hx) e1 (I.base.free b o e n hx)
  exact ⟨sl',e2⟩
 ·obtain ⟨o',e1⟩:=I.base.there b o e hx
  exact free b o' (neC b o e hx) e1 (I.base.free b o e n hx)
 ·obtain ⟨o',e1⟩:=I.base.there b o e hx
  exact there b o' (neC b o e hx) e1
 ·obtain ⟨m1,e1⟩:=I.base.tbls b ps e
  obtain ⟨m2,e2⟩:=tbls b _ e1
  exact ⟨m1++m2,by rw [e2,Array.append_assoc]⟩
 ·obtain ⟨m,hn,hl⟩:=I.loc
  refine ⟨m,ns m hn,fun i x v e1 e2 e3=>?_⟩
  obtain ⟨u,r,l⟩:=hl i x v e1 e2 e3
  refine ⟨u,r,?_⟩
  rcases l with l | ⟨k,c,e,z⟩
  ·exact .inl l
  ·exact .inr ⟨k,c,e,cellK x c e _ z⟩
 ·obtain ⟨v,z⟩:=I.cell x c e
  exact ⟨v,cellK x c e v z⟩
 ·obtain ⟨m,⟨o,_,_,ho,_⟩,_⟩:=I.loc
  exact free _ o (fun z=>(hch _ z).2.1 rfl) ho I.free
 ·obtain ⟨v,o,ho,hd⟩:=I.cell x c e
  exact free c o (fun z=>(hch c z).2.2.1 x c e rfl) ho (I.freeC x c e)
 ·obtain ⟨e,n,ne,nf,d⟩:=I.pin p hp
  have nch:p.1 ∉ ch:=fun z=>(hch p.1 z).2.2.2 p hp rfl
  exact ⟨keep p.1 p.2 ne nf nch e n,free p.1 p.2 nch e n,ne,nf,d⟩
theorem Inv.un {t':Nat}(I:Inv X pins σ H s)(u:Un X.fs [] H H' s.heap h')(hok:HOk X.prog X.w H' h'):Inv X pins σ H' { s with heap:=h',toks:=t' }:=by
 obtain ⟨m,⟨o,es,ep,ho,r⟩,_⟩:=id I.loc
 obtain ⟨sl,hL⟩:=u.any ho I.free (by simp)
 exact I.step (g':=s.gens) (d':=s.drawn) (ch:=[]) (fun _ z=>nomatch z) (fun b o _ hb _ e n=>u.keep b o e n hb (by simp)) (fun b o _ hb _ e n=>u.slot b o e n hb (by simp)) (fun b o _ e n=>u.free b o e n (by simp)) (fun b o _ e=>u.there b o e (by simp)) u.tups u.frzs u.tbls (fun m' hm=>by
  obtain ⟨o',es',ep',ho',r'⟩:=hm
  rw [ho] at ho';cases ho'
  exact ⟨_,es',ep',hL,r'⟩) hok I.bare
theorem Inv.call {g':Array GenState}{t':Nat}{d':Drawn}{ch:List Addr}(I:Inv X pins σ H s)(u:Un (Bs X.stack) ch H H' s.heap h')(hok:HOk X.prog X.w H' h')(hg:AllBare g')
  (hch:∀ b∈ch,(b∈X.ex\/X.s₀.heap.objs.size<=b)/\b≠X.env.locals/\(∀ x c,X.env.cells.lookup x=some c->c≠b)/\∀ p∈X.pn++pins,p.1≠b) :
  Inv X pins σ H' { s with heap:=h',gens:=g',drawn:=d',toks:=t' }:=by
 obtain ⟨m,⟨o,es,ep,ho,r⟩,_⟩:=id I.loc
 obtain ⟨sl,hL⟩:=u.any ho I.free fun z=>(hch _ z).2.1 rfl
 exact I.step (ch:=ch) hch (fun b o hL hb hc e n=>u.keep b o e n (fun z=>(Pd.mp (I.stkSub b z)).elim hL hb) hc) (fun b o _ _ hc e n=>u.any e n hc) (fun b o hc e n=>u.free b o e n hc) (fun b o hc e=>u.there b o e hc) u.tups u.frzs u.tbls (fun m' hm=>by
  obtain ⟨o',es',ep',ho',r'⟩:=hm
  rw [ho] at ho';cases ho'
  exact ⟨_,es',ep',hL,r'⟩) hok hg
theorem Inv.turned {t':Nat}{it:Addr}(I:Inv X pins σ H s)(k:∀ b o,b≠it->s.heap.get? b=some o->h'.get? b=some o)(hn:H it=none)(hL:it≠X.env.locals)
  (h1:it∈X.ex\/X.s₀.heap.objs.size<=it) (h2:∀ x c,X.env.cells.lookup x=some c->c≠it) (h3:∀ p∈X.pn++pins,p.1≠it):Inv X pins σ H { s with heap:=h',toks:=t' }:=by
 have nit:∀ b u,H b=some u->b≠it:=fun b u e z=>by rw [z,hn] at e;cases e
 refine I.step (g':=s.gens) (d':=s.drawn) (ch:=[it]) (fun b hb=>?_) (fun b o _ _ hc e _=>k b o (fun z=>hc (by simp [z])) e) (fun b o _ _ hc e _=>⟨o.slots,k b o (fun z=>hc (by simp [z])) e⟩) (fun _ _ _ _ n=>n)
  (fun b o hc e=>⟨o,k b o (fun z=>hc (by simp [z])) e⟩) (fun _ _ e=>e) (fun _ _ _ e=>e) (fun b ps e=>⟨#[],by rw [e];simp⟩) (fun m hm=>?_) (fun b u e=>?_) I.bare
 ·have e:b=it:=by simpa using hb
  subst e
  exact ⟨h1,hL,h2,h3⟩
 ·obtain ⟨o,es,ep,ho,r⟩:=hm
  exact ⟨o,es,ep,k _ o (Pk hL) ho,r⟩
 ·refine (I.hok b u e).stay (fun c v hc q=>k c v ?_ q) (fun _ q=>q) fun _ _ q=>q
  rcases hc with z | z
  ·rw [z];exact nit b u e
  ·exact nit c _ z
theorem Inv.tok (I:Inv X pins σ H s)(t:Nat):Inv X pins σ H { s with toks:=t }:=I.un (h':=s.heap) (t':=t) Un.refl I.hok
theorem Inv.kept {t':Nat}(I:Inv X pins σ H s)(k:∀ b u,s.heap.get? b=some u->h'.get? b=some u):Inv X pins σ H { s with heap:=h',toks:=t' }:=I.un (Un.kept k) (I.hok.kept k)
theorem Inv.laid {a:Addr}{o:HO}{t':Nat}(I:Inv X pins σ H s)(k:∀ b u,s.heap.get? b=some u->h'.get? b=some u)(hp:s.heap.objs.size<=a)(new:ObjOk X.prog X.w (upd H a o) h' a o) :
  Inv X pins σ (upd H a o) { s with heap:=h',toks:=t' }:=I.un (Un.laid k hp (I.hok.fresh hp)) (I.hok.laid k hp new)
theorem Inv.write {x e:Addr}{o:HO}{t':Nat}(I:Inv X pins σ H s)(mu:Mut (H x))(he:e=x\/H e=some (.own x))(k:∀ b u,b≠e->s.heap.get? b=some u->h'.get? b=some u)(heo:∃ u,h'.get? e=some u)
  (new:ObjOk X.prog X.w (upd H x o) h' x o):Inv X pins σ (upd H x o) { s with heap:=h',toks:=t' }:=I.un (Un.write mu he k heo) (I.hok.write mu he k heo new)
theorem Inv.pins_of {pins':List (Addr×Obj)}(I:Inv X pins σ H s)(h:∀ p∈pins',s.heap.get? p.1=some p.2/\H p.1=none/\p.1≠X.env.locals/\p.1 ∉ X.fs/\∀ v,p.2.data≠.cell v):Inv X pins' σ H s :=
 ⟨I.ok,I.os,I.bare,I.base,I.loc,I.cell,I.free,I.freeC,fun p hp=>(Ra.mp hp).elim (fun z=>I.pin p (List.mem_append_left _ z)) (h p),I.hok,I.len⟩
theorem Zfc {N:List Str}(hN:N.Nodup){i j:Nat}{x:Str}(a:N[i]?=some x)(b:N[j]?=some x):i=j:=by
 obtain ⟨h1,e1⟩:=Pq.mp a
 obtain ⟨h2,e2⟩:=Pq.mp b
 exact (List.getElem_inj hN).mp (e1.trans e2.symm)
theorem Zd7 {M:Model}{A:Around}{E:Value->Shared->Prop}{i:Nat}{x:Str}{v:V}{u:Value}{Q:Unit->Shared->Prop}(I:Inv X pins σ H s)(hN:X.N.Nodup)(hi:X.N[i]?=some x)(hx:E6 X.env.scope x)(r:RelV v u)
  (h:∀ s',Inv X pins (σ.set i (some v)) H s'->(∃ a,Pp a s.heap s'.heap/\(a=X.env.locals\/X.env.cells.lookup x=some a))->Q () s') (hf:X.fn x=true\/X.env.scope.names.lookup x=some .local:=by first | exact .inl rfl | exact .inr rfl | assumption):wpAny M A (storeName X.env x u) Q E s:=by
 obtain ⟨m,hn,hl⟩:=id I.loc
 have hcls:(X.env.scope.kind == .class || (X.env.scope.kind == .module && X.env.locals != X.env.globals))=false:=by rw [I.ok.kind];rfl
 have hiσ:i < σ.length:=by rw [I.len];exact (Pq.mp hi).1
 have cne:=I.cne
 have tracked:∀{a:Addr}{h':Heap},(∃ o,s.heap.get? a=some o/\H a=none)->Pp a s.heap h'->HOk X.prog X.w H h':=fun {a h'} ha hs b ob e=>by
  obtain ⟨_,_,hfree⟩:=ha
  refine (I.hok b ob e).stay (fun c w' hc q=>(hs.2 c ?_).trans q) (fun _ q=>q) fun _ _ q=>q
  rintro rfl
  rcases hc with rfl | hc
  ·rw [hfree] at e;cases e
  ·rw [hfree] at hc;cases hc
 rcases hx with hk | hk
 ·refine wpAny_storeName_local hk hn (fun h' hn' hs=>?_) hcls
  obtain ⟨oL,_,_,hoL,_⟩:=id hn
  refine h _ ⟨I.ok,I.os,I.bare,⟨fun b o e n hb hx=>?_,fun b o e n hb hx=>?_,I.base.free,fun b o e hx=>?_,I.base.tups,I.base.frzs,I.base.tbls⟩,⟨_,hn',fun j y v' e1 e2 e3=>?_⟩,fun y c e=>?_,I.free,I.freeC,fun p hp=>?_,tracked ⟨oL,hoL,I.free⟩ hs,by simpa using I.len⟩ ⟨_,hs,.inl rfl⟩
  ·exact (hs.2 b (Pn (Pt (Pf e) I.ok.above))).trans (I.base.keep b o e n hb hx)
  ·obtain ⟨sl,e1⟩:=I.base.slot b o e n hb hx
   exact ⟨sl,(hs.2 b (Pn (Pt (Pf e) I.ok.above))).trans e1⟩
  ·obtain ⟨o',e1⟩:=I.base.there b o e hx
   exact ⟨o',(hs.2 b (Pn (Pt (Pf e) I.ok.above))).trans e1⟩
  ·by_cases hj:j=i
   ·subst hj
    rw [hi] at e1;cases e1
    rw [List.getElem?_set_self hiσ] at e2
    cases e2
    exact ⟨u,r,.inl ⟨hk,by simp⟩⟩
   ·rw [List.getElem?_set_ne (Pk hj)] at e2
    obtain ⟨u',r',q⟩:=hl j y v' e1 e2 e3
    refine ⟨u',r',?_⟩
    rcases q with ⟨k,e⟩ | ⟨k,c,e,z⟩
    ·refine .inl ⟨k,?_⟩
     have:y≠x:=fun e=>hj (Zfc hN e1 (e ▸ hi))
     simp [this,e]
    ·exact .inr ⟨k,c,e,z.sameBut hs (cne y c e)⟩
  ·obtain ⟨w',z⟩:=I.cell y c e
   exact ⟨w',z.sameBut hs (cne y c e)⟩
  ·obtain ⟨e,n,ne,nf,d⟩:=I.pin p hp
   exact ⟨(hs.2 p.1 ne).trans e,n,ne,nf,d⟩
 ·have hfn:X.fn x=true:=by
   rcases hf with z | z
   ·exact z
   ·rw [z] at hk;cases hk
  obtain ⟨c,hc⟩:=I.ok.has x (.inl hk)
  obtain ⟨w',z⟩:=I.cell x c hc
  refine wpAny_storeName_cell I.ok.kind hk hc z (fun h' hc' hs=>?_)
  obtain ⟨oc,hoc,hocd⟩:=id z
  refine h { s with heap:=h' } ⟨I.ok,I.os,I.bare,⟨fun b o e n hb hx=>?_,fun b o e n hb hx=>?_,I.base.free,fun b o e hx=>?_,I.base.tups,I.base.frzs,I.base.tbls⟩,⟨m,hn.sameBut hs (Pk (cne x c hc)),fun j y v' e1 e2 e3=>?_⟩,fun y c' e=>?_,I.free,I.freeC,fun p hp=>?_,tracked ⟨oc,hoc,I.freeC x c hc⟩ hs,by simpa using I.len⟩ ⟨c,hs,.inr hc⟩
  ·exact (hs.2 b (Pn (Pt (Pf e) (I.ok.cab x c hfn hc)))).trans (I.base.keep b o e n hb hx)
  ·obtain ⟨sl,e1⟩:=I.base.slot b o e n hb hx
   exact ⟨sl,(hs.2 b (Pn (Pt (Pf e) (I.ok.cab x c hfn hc)))).trans e1⟩
  ·obtain ⟨o',e1⟩:=I.base.there b o e hx
   exact ⟨o',(hs.2 b (Pn (Pt (Pf e) (I.ok.cab x c hfn hc)))).trans e1⟩
  ·by_cases hj:j=i
   ·subst hj
    rw [hi] at e1;cases e1
    rw [List.getElem?_set_self hiσ] at e2
    cases e2
    exact ⟨u,r,.inr ⟨.inl hk,c,hc,hc'⟩⟩
   ·rw [List.getElem?_set_ne (Pk hj)] at e2
    obtain ⟨u',r',q⟩:=hl j y v' e1 e2 e3
    refine ⟨u',r',?_⟩
    rcases q with q | ⟨k,c',e,z'⟩
    ·exact .inl q
    ·refine .inr ⟨k,c',e,z'.sameBut hs ?_⟩
     rintro rfl
     exact hj (Zfc hN e1 (I.ok.inj _ _ _ e hc ▸ hi))
  ·by_cases hcc:c'=c
   ·subst hcc;exact ⟨_,hc'⟩
   ·obtain ⟨w2,z2⟩:=I.cell y c' e
    exact ⟨w2,z2.sameBut hs hcc⟩
  ·obtain ⟨e,n,ne,nf,d⟩:=I.pin p hp
   refine ⟨(hs.2 p.1 ?_).trans e,n,ne,nf,d⟩
   intro q
   rw [q,hoc] at e
   have q':oc=p.2:=P5 e
   exact d w' (by rw [<- q'];exact hocd)
theorem Ob {M:Model}{A:Around}{E:Value->Shared->Prop}{i:Nat}{x:Str}{v:V}{u:Value}{Q:Unit->Shared->Prop}(I:Inv X pins σ H s)(hN:X.N.Nodup)(hi:X.N[i]?=some x)(hx:E6 X.env.scope x)(r:RelV v u)
  (h:∀ s',Inv X pins (σ.set i (some v)) H s'->Q () s') (hf:X.fn x=true\/X.env.scope.names.lookup x=some .local:=by first | exact .inl rfl | exact .inr rfl | assumption):wpAny M A (storeName X.env x u) Q E s :=
 Zd7 I hN hi hx r (fun s' I' _=>h s' I') hf
theorem Inv.call' {s':Shared}{ch:List Addr}(I:Inv X pins σ H s)(ho:s'.os=s.os)(u:Un (Bs X.stack) ch H H' s.heap s'.heap)(hok:HOk X.prog X.w H' s'.heap)(hg:AllBare s'.gens)
  (hch:∀ b∈ch,(b∈X.ex\/X.s₀.heap.objs.size<=b)/\b≠X.env.locals/\(∀ x c,X.env.cells.lookup x=some c->c≠b)/\∀ p∈X.pn++pins,p.1≠b):Inv X pins σ H' s':=by
 obtain ⟨h',g',d',t',o'⟩:=s'
 have e:o'=s.os:=ho
 subst e
 exact I.call (g':=g') (t':=t') (d':=d') u hok hg hch
end
noncomputable abbrev XK:=Value->Option Addr->Hp->Prop
noncomputable abbrev St:=List (Option V)
noncomputable abbrev VK:=V->Hp->Prop
noncomputable abbrev TE:=St->Hp->VK->Prop
noncomputable abbrev TT:=St->Hp->(Bool->Hp->Prop)->Prop
noncomputable abbrev TA:=St->Hp->(List V->Hp->Prop)->Prop
structure D7 where
 nx:St->Hp->Prop
 rt:VK
 bk:St->Hp->Prop:=fun _ _=>False
 ct:St->Hp->Prop:=fun _ _=>False
noncomputable abbrev TS:=D7->St->Hp->Prop
noncomputable def EP (X:Cx)(pins:List (Addr×Obj))(σ:St)(Q:VK)(u:Value)(s':Shared):Prop:=∃ v H',Inv X pins σ H' s'/\RelV v u/\Q v H'
noncomputable def TP (X:Cx)(pins:List (Addr×Obj))(σ:St)(Q:Bool->Hp->Prop)(b:Bool)(s':Shared):Prop:=∃ H',Inv X pins σ H' s'/\Q b H'
noncomputable def AP (X:Cx)(pins:List (Addr×Obj))(σ:St)(Q:List V->Hp->Prop)(us:List Value)(s':Shared):Prop:=∃ vs H',Inv X pins σ H' s'/\Vals vs us/\Q vs H'
noncomputable def SP (X:Cx)(pins:List (Addr×Obj))(D:D7)(f:Flow)(s':Shared):Prop :=
 match f with
 | .next=>∃ σ' H',Inv X pins σ' H' s'/\D.nx σ' H'
 | .brk=>∃ σ' H',Inv X pins σ' H' s'/\D.bk σ' H'
 | .cont=>∃ σ' H',Inv X pins σ' H' s'/\D.ct σ' H'
 | .ret u=>∃ v σ' H',Inv X pins σ' H' s'/\RelV v u/\D.rt v H'
noncomputable def PE (X:Cx)(e:Expr)(t:TE):Prop :=
 ∀(pins:List (Addr×Obj))(s:Shared)(σ:St)(H:Hp)(Q:VK),Inv X pins σ H s->t σ H Q->wpAny (model X.prog X.w) X.A (eval e X.env) (EP X pins σ Q) X.xe s
noncomputable def PT (X:Cx)(e:Expr)(t:TT):Prop :=
 ∀(pins:List (Addr×Obj))(s:Shared)(σ:St)(H:Hp)(Q:Bool->Hp->Prop),Inv X pins σ H s->t σ H Q->wpAny (model X.prog X.w) X.A (isTrue e X.env (eval e X.env)) (TP X pins σ Q) X.xe s
noncomputable def PW (X:Cx)(e:Expr)(t:TT):Prop :=
 ∀(whole:Sem Value)(pins:List (Addr×Obj))(s:Shared)(σ:St)(H:Hp)(Q:Bool->Hp->Prop),Inv X pins σ H s->t σ H Q->wpAny (model X.prog X.w) X.A (isTrue e X.env whole) (TP X pins σ Q) X.xe s
theorem PW.pt {X:Cx}{e:Expr}{t:TT}(h:PW X e t):PT X e t:=h _
noncomputable def PA (X:Cx)(es:List Expr)(t:TA):Prop :=
 ∀(pos:Pos)(pins:List (Addr×Obj))(s:Shared)(σ:St)(H:Hp)(Q:List V->Hp->Prop),Inv X pins σ H s->t σ H Q->wpAny (model X.prog X.w) X.A (spliced (backTo pos (starEach es X.env))) (AP X pins σ Q) X.xe s
noncomputable def PS (X:Cx)(st:Stmt)(t:TS):Prop :=
 ∀(pins:List (Addr×Obj))(s:Shared)(σ:St)(H:Hp)(D:D7),Inv X pins σ H s->t D σ H->wpAny (model X.prog X.w) X.A (exec st X.env) (SP X pins D) X.xe s
noncomputable def PSs (X:Cx)(st:List Stmt)(t:TS):Prop :=
 ∀(pins:List (Addr×Obj))(s:Shared)(σ:St)(H:Hp)(D:D7),Inv X pins σ H s->t D σ H->wpAny (model X.prog X.w) X.A (execs st X.env) (SP X pins D) X.xe s
theorem Ao {α:Type}{t:Sem α}{Q Q':α->Shared->Prop}{M:Model}{A:Around}{E:Value->Shared->Prop}{s:Shared}(h:wpAny M A t Q E s)(hQ:∀ a s,Q a s->Q' a s):wpAny M A t Q' E s:=Q5 h hQ fun _ _ x=>x
section
variable {X:Cx}
noncomputable def O0 (i:Nat):TE:=fun σ H Q=>∃ v,σ[i]?=some (some v)/\Q v H
noncomputable def tC (v:V):TE:=fun _ H Q=>Q v H
theorem Zpq {i:Nat}{x:Str}{pos:Pos}(hN:X.N[i]?=some x)(hv:Vis X.env.scope x)(hd:(x == ("__debug__" : Str))=false:=by decide)(hcd:(x == ("__classdict__" : Str))=false:=by decide):PE X (.Name x pos) (O0 i):=by
 intro pins s σ H Q I h
 obtain ⟨v,e,h⟩:=h
 obtain ⟨m,hn,hl⟩:=I.loc
 obtain ⟨u,r,l⟩:=hl i x v hN e hv
 have fin:EP X pins σ Q u s:=⟨v,H,I,r,h⟩
 rcases l with ⟨hk,hm⟩ | ⟨hk,c,hc,hcell⟩
 ·exact wpAny_Name (wpAny_loadName_local I.ok.kind hk hn hm fin) hd
 ·rcases hk with hk | hk
  ·exact wpAny_Name (wpAny_loadName_cell I.ok.kind hk hc hcell fin) hd
  ·exact wpAny_Name (wpAny_loadName_free I.ok.kind hk hc hcell fin hcd) hd
theorem Zdc {i j pos}:PE X (.Constant (.int i) j pos) (tC (.int i)):=fun _ _ _ H _ I h=>wpAny_Constant_int ⟨.int i,H,I.tok _,⟨_,rfl⟩,h⟩
theorem Zde {b j pos}:PE X (.Constant (.bool b) j pos) (tC (.bl b)):=fun _ _ _ H _ I h=>Constant_bool ⟨.bl b,H,I,rfl,h⟩
theorem Zdr {j pos}:PE X (.Constant .none j pos) (tC .non):=fun _ _ _ H _ I h=>Constant_none ⟨.non,H,I,rfl,h⟩
theorem Zfo {x j pos}:PE X (.Constant (.str x) j pos) (tC (.str x)):=fun _ _ _ H _ I h=>Calls.Constant_str ⟨.str x,H,I.tok _,⟨_,rfl⟩,h⟩
noncomputable def Gl (X:Cx)(x:Str):Prop:=X.env.kindOf x=some .globalImplicit
theorem Im {E:Value->Shared->Prop}{pins:List (Addr×Obj)}{s:Shared}{σ:St}{H:Hp}{x:Str}{u:Value}{pos:Pos}{Q:Value->Shared->Prop}(I:Inv X pins σ H s)(hg:Gl X x)(hm:X.mg x=some u)(h:Q u s)
  (hd:(x == ("__debug__" : Str))=false:=by decide):wpAny (model X.prog X.w) X.A (eval (.Name x pos) X.env) Q E s :=
 Calls.Name_function_global I.ok.kind hg (Calls.loadGlobal_global (by rw [I.ok.glob];exact I.mod.glob.keeps I.bk) hm h) hd
theorem Fm {E:Value->Shared->Prop}{pins:List (Addr×Obj)}{s:Shared}{σ:St}{H:Hp}{x:Str}{u:Value}{pos:Pos}{Q:Value->Shared->Prop}(I:Inv X pins σ H s)(hg:Gl X x)(hm:X.mg x=none)(hv:bootBuiltins x=some u)(h:Q u s)
  (hn:x ≠ "__name__" := by decide) (hd:(x == ("__debug__" : Str))=false:=by decide):wpAny (model X.prog X.w) X.A (eval (.Name x pos) X.env) Q E s:=by
 obtain ⟨mb,h1,h2⟩:=I.mod.blt
 exact Calls.Name_function_global I.ok.kind hg (Calls.loadGlobal_builtin (by rw [I.ok.glob];exact I.mod.glob.keeps I.bk) hm (by rw [I.ok.blt];exact h1.keeps I.bk) ((h2 x hn).trans hv) h) hd
theorem Zp8 {x:Str}{v:V}{u:Value}{pos:Pos}(hg:Gl X x)(hm:X.mg x=some u)(r:RelV v u)(hd:(x == ("__debug__" : Str))=false:=by decide):PE X (.Name x pos) (tC v) :=
 fun _ _ _ H _ I h=>Im I hg hm ⟨v,H,I,r,h⟩ hd
theorem Zn5 {x:Str}{v:V}{u:Value}{pos:Pos}(hg:Gl X x)(hm:X.mg x=none)(hv:bootBuiltins x=some u)(r:RelV v u)(hn:x ≠ "__name__" := by decide)(hd:(x == ("__debug__" : Str))=false:=by decide):PE X (.Name x pos) (tC v) :=
 fun _ _ _ H _ I h=>Fm I hg hm hv ⟨v,H,I,r,h⟩ hn hd
variable {a b:Expr}{ta tb:TE}{pos:Pos}
noncomputable def PC (X:Cx)(op:CmpOp)(a b:Expr)(t:TE):Prop :=
 ∀(pins:List (Addr×Obj))(s:Shared)(σ:St)(H:Hp)(Q:VK),Inv X pins σ H s->t σ H Q ->
  wpAny (model X.prog X.w) X.A (eval a X.env) (fun v s₁=>wpAny (model X.prog X.w) X.A (eval b X.env) (fun u s₂=>wpAny (model X.prog X.w) X.A (compareOp op v u) (EP X pins σ Q) X.xe s₂) X.xe s₁) X.xe s
theorem Ln (b:Expr){op:CmpOp}(h:op≠.In)(h2:op≠.NotIn):behindInMarks op b=false:=by
 have e1:(op == CmpOp.In)=false:=by cases op <;> first | rfl | exact absurd rfl h
 have e2:(op == CmpOp.NotIn)=false:=by cases op <;> first | rfl | exact absurd rfl h2
 cases b <;> simp [behindInMarks,e1,e2]
noncomputable def Nt (ta:TE):TE:=fun σ H Q=>ta σ H fun x H1=>Q (.bl (decide (x=.non))) H1
noncomputable def Zbb (ta:TE):TE:=fun σ H Q=>ta σ H fun x H1=>Q (.bl (!decide (x=.non))) H1
theorem RelV.none_iff {x:V}{v:Value}(r:RelV x v):(v == Value.none)=decide (x=.non):=by
 cases x with
 | non=>cases r;rfl
 | bl _=>cases r;rfl
 | int _=>obtain ⟨t,rfl⟩:=r;rfl
 | str _=>obtain ⟨t,rfl⟩:=r;rfl
 | byt _=>obtain ⟨t,rfl⟩:=r;rfl
 | flt _=>obtain ⟨t,rfl⟩:=r;rfl
 | ref _=>cases r;rfl
 | ty _=>cases r;rfl
theorem Zl5 {j pos'}(ha:PE X a ta):PC X .Is a (.Constant .none j pos') (Nt ta):=by
 intro pins s σ H Q I h
 refine Ao (ha pins s σ H _ I h) fun v s1 zq=>?_
 obtain ⟨x,H1,I1,r1,q1⟩:=zq
 exact Constant_none (is_none_gen ⟨.bl _,H1,I1,by rw [r1.none_iff];rfl,q1⟩)
theorem Zjn {j pos'}(ha:PE X a ta):PC X .IsNot a (.Constant .none j pos') (Zbb ta):=by
 intro pins s σ H Q I h
 refine Ao (ha pins s σ H _ I h) fun v s1 zq=>?_
 obtain ⟨x,H1,I1,r1,q1⟩:=zq
 exact Constant_none (isnot_none_gen ⟨.bl _,H1,I1,by rw [r1.none_iff];rfl,q1⟩)
noncomputable def tB (t:TE):TT:=fun σ H Q=>t σ H fun x H1=>∃ c,x=.bl c/\Q c H1
theorem Zj2 {op:CmpOp}{t:TE}(h:PC X op a b t)(h1:behindInMarks op b=false:=by first | exact Ln _ (by decide) (by decide) | rfl):PE X (.Compare a [op] [b] pos) t:=fun pins s σ H Q I hw=>wpAny_Compare1 (h pins s σ H Q I hw) h1
theorem Zly {op:CmpOp}{t:TE}(h:PC X op a b t)(h1:behindInMarks op b=false:=by first | exact Ln _ (by decide) (by decide) | rfl):PT X (.Compare a [op] [b] pos) (tB t):=by
 intro pins s σ H Q I hw
 refine wpAny_isTrue_Compare1 (Ao (h pins s σ H _ I hw) fun v s1 h1=>Ao h1 fun u s2 h2=>Ao h2 fun c s3 zq=>?_) h1
 obtain ⟨x,H1,I1,r1,q1⟩:=zq
 obtain ⟨d,rfl,q⟩:=q1
 cases r1
 exact Ri ⟨H1,I1,q⟩
theorem Zii {e:Expr}{t:TE}(h:PE X e t)(he:∀ whole,isTrue e X.env whole=(do let v <- whole;standAt e.pos;holding [v] (truthy v)):=by intro _;rfl):PT X e (tB t):=by
 intro pins s σ H Q I hw
 refine isTrue_plain (Ao (h pins s σ H _ I hw) fun v s1 zq=>?_) (he _)
 obtain ⟨x,H1,I1,r1,q1⟩:=zq
 obtain ⟨d,rfl,q⟩:=q1
 cases r1
 exact Ri ⟨H1,I1,q⟩
variable {tA tB':TT}{rest:List Expr}
noncomputable def On (t u:TT):TT:=fun σ H Q=>t σ H fun c H1=>if c=true then u σ H1 Q else Q false H1
noncomputable def tOr (t u:TT):TT:=fun σ H Q=>t σ H fun c H1=>if c=true then Q true H1 else u σ H1 Q
noncomputable def Zam (t:TT):TT:=fun σ H Q=>t σ H fun c H1=>Q (!c) H1
theorem pw_and1 (ha:PT X a tA):PW X (.BoolOp .And [a] pos) tA:=by
 intro wh pins s σ H Q I h
 refine isTrue_and (Ao (ha pins s σ H Q I h) fun c s1 e=>?_)
 cases c with
 | true=>exact isTrue_and_nil e
 | false=>exact e
theorem pw_or1 (ha:PT X a tA):PW X (.BoolOp .Or [a] pos) tA:=by
 intro wh pins s σ H Q I h
 refine isTrue_or (Ao (ha pins s σ H Q I h) fun c s1 e=>?_)
 cases c with
 | false=>exact isTrue_or_nil e
 | true=>exact e
theorem pw_and (ha:PT X a tA)(hb:PW X (.BoolOp .And (b::rest) pos) tB'):PW X (.BoolOp .And (a::b::rest) pos) (On tA tB'):=by
 intro wh pins s σ H Q I h
 refine isTrue_and (Ao (ha pins s σ H _ I h) fun c s1 zq=>?_)
 obtain ⟨H1,I1,q1⟩:=zq
 cases c with
 | true=>exact hb wh pins s1 σ H1 Q I1 q1
 | false=>exact ⟨H1,I1,q1⟩
theorem pw_or (ha:PT X a tA)(hb:PW X (.BoolOp .Or (b::rest) pos) tB'):PW X (.BoolOp .Or (a::b::rest) pos) (tOr tA tB'):=by
 intro wh pins s σ H Q I h
 refine isTrue_or (Ao (ha pins s σ H _ I h) fun c s1 zq=>?_)
 obtain ⟨H1,I1,q1⟩:=zq
 cases c with
 | true=>exact ⟨H1,I1,q1⟩
 | false=>exact hb wh pins s1 σ H1 Q I1 q1
theorem Zg6 (ha:PT X a tA):PT X (.UnaryOp .Not a pos) (Zam tA):=by
 intro pins s σ H Q I h
 exact isTrue_not (ha pins s σ H (fun c H1=>Q (!c) H1) I h)
noncomputable def Zbh (ta tb:TE):TE:=fun σ H Q=>ta σ H fun x H1=>∃ c,x=.bl c/\if c=true then tb σ H1 Q else Q (.bl false) H1
noncomputable def Zab (ta tb:TE):TE:=fun σ H Q=>ta σ H fun x H1=>∃ c,x=.bl c/\if c=true then Q (.bl true) H1 else tb σ H1 Q
theorem Zhk {op}{t:TE}(h:PE X a t):PE X (.BoolOp op [a] pos) t:=fun pins s σ H Q I hw=>BoolOp_one (h pins s σ H Q I hw)
theorem Zo7 (ha:PE X a ta)(hb:PE X (.BoolOp .And (b::rest) pos) tb):PE X (.BoolOp .And (a::b::rest) pos) (Zbh ta tb):=by
 intro pins s σ H Q I h
 refine BoolOp_and (Ao (ha pins s σ H _ I h) fun v s1 zq=>?_)
 obtain ⟨x,H1,I1,r1,q1⟩:=zq
 obtain ⟨c,rfl,q1⟩:=q1
 cases r1
 refine Ri ?_
 cases c with
 | true=>exact hb pins s1 σ H1 Q I1 q1
 | false=>exact ⟨.bl false,H1,I1,rfl,q1⟩
theorem Zgu (ha:PE X a ta)(hb:PE X (.BoolOp .Or (b::rest) pos) tb):PE X (.BoolOp .Or (a::b::rest) pos) (Zab ta tb):=by
 intro pins s σ H Q I h
 refine BoolOp_or (Ao (ha pins s σ H _ I h) fun v s1 zq=>?_)
 obtain ⟨x,H1,I1,r1,q1⟩:=zq
 obtain ⟨c,rfl,q1⟩:=q1
 cases r1
 refine Ri ?_
 cases c with
 | false=>exact hb pins s1 σ H1 Q I1 q1
 | true=>exact ⟨.bl true,H1,I1,rfl,q1⟩
noncomputable def tIf (t:TT)(ta tb:TE):TE:=fun σ H Q=>t σ H fun c H1=>if c=true then ta σ H1 Q else tb σ H1 Q
theorem Zp0 {c:Expr}(hc:PT X c tA)(ha:PE X a ta)(hb:PE X b tb):PE X (.IfExp c a b pos) (tIf tA ta tb):=by
 intro pins s σ H Q I h
 refine wpAny_IfExp (Ao (hc pins s σ H _ I h) fun d s1 zq=>?_)
 obtain ⟨H1,I1,q1⟩:=zq
 cases d with
 | true=>exact ha pins s1 σ H1 Q I1 q1
 | false=>exact hb pins s1 σ H1 Q I1 q1
end
noncomputable def SqL (K:O6)(H:Hp)(a:Addr)(xs:List V):Prop :=
 Rd H a (.lst xs) \/
  ∃(o:Obj)(its:Array Value)(n:Nat),K.lookup a=some o/\o.cls=.type "list" /\ o.dict=none/\o.data=.seq its n/\its.size<=sizeLine/\Vals xs its.toList
noncomputable def SqT (K:O6)(H:Hp)(a:Addr)(xs:List V):Prop :=
 Rd H a (.tup xs) \/
  ∃(o:Obj)(its:Array Value)(n:Nat),K.lookup a=some o/\o.cls=.type "tuple" /\ o.data=.seq its n/\its.size<=sizeLine/\Vals xs its.toList
noncomputable def L0:Value->Option V
 | .none=>some .non
 | .bool b=>some (.bl b)
 | .int i _=>some (.int i)
 | .str x _=>some (.str x)
 | .bytes b _=>some (.byt b)
 | .float b _=>some (.flt b)
 | .ref a=>some (.ref a)
 | .type n=>some (.ty n)
 | _=>none
theorem RelV.abs {x:V}{u:Value}(r:RelV x u):L0 u=some x:=by
 cases x with
 | non=>cases r;rfl
 | bl _=>cases r;rfl
 | int _=>obtain ⟨t,rfl⟩:=r;rfl
 | str _=>obtain ⟨t,rfl⟩:=r;rfl
 | byt _=>obtain ⟨t,rfl⟩:=r;rfl
 | flt _=>obtain ⟨t,rfl⟩:=r;rfl
 | ref _=>cases r;rfl
 | ty _=>cases r;rfl
theorem RelV.inj {x y:V}{u:Value}(r:RelV x u)(q:RelV y u):x=y:=P5 (r.abs.symm.trans q.abs)
theorem Vals.inj:∀{xs ys:List V}{us:List Value},Vals xs us->Vals ys us->xs=ys
 | _,_,_,.nil,.nil=>rfl
 | _,_,_,.cons r t,.cons r' t'=>by rw [r.inj r',Vals.inj t t']
section
variable {X:Cx}{pins:List (Addr×Obj)}{σ:St}{H:Hp}{s:Shared}{a:Addr}{xs ys:List V}
theorem SqL.of {K:O6}(h:H a=some (.lst xs)):SqL K H a xs:=.inl (.inl h)
theorem SqT.of {K:O6}(h:H a=some (.tup xs)):SqT K H a xs:=.inl (.inl h)
theorem Inv.list (I:Inv X pins σ H s)(h:SqL X.K H a xs):∃ its:List Value,Vals xs its/\PlainL s.heap a its.toArray/\xs.length<=sizeLine:=by
 rcases h with h | ⟨o,its,n,hk,hc,hd,hs,hz,r⟩
 ·obtain ⟨z,its,n,r,e⟩:=h.ok I.hok
  exact ⟨its,r,⟨_,n,e,rfl,rfl,rfl⟩,z⟩
 ·refine ⟨its.toList,r,⟨o,n,I.kIn a o hk,hc,hd,by simpa using hs⟩,?_⟩
  have e:=r.length
  simp only [R7] at e
  omega
theorem Inv.tuple (I:Inv X pins σ H s)(h:SqT X.K H a xs):∃ its:List Value,Vals xs its/\IsTup s.heap a its.toArray/\xs.length<=sizeLine:=by
 rcases h with h | ⟨o,its,n,hk,hc,hs,hz,r⟩
 ·obtain ⟨z,its,r,p⟩:=h.ok I.hok
  exact ⟨its,r,p,z⟩
 ·refine ⟨its.toList,r,⟨o,I.kIn a o hk,hc,n,by simpa using hs⟩,?_⟩
  have e:=r.length
  simp only [R7] at e
  omega
theorem Inv.list_inj (I:Inv X pins σ H s)(h:SqL X.K H a xs)(h':SqL X.K H a ys):xs=ys:=by
 obtain ⟨its,r,⟨o,n,e,_,_,d⟩,_⟩:=I.list h
 obtain ⟨its',r',⟨o',n',e',_,_,d'⟩,_⟩:=I.list h'
 rw [e] at e';cases e'
 rw [d] at d'
 injection d' with d1 _
 have:its=its':=by simpa using congrArg Array.toList d1
 subst this
 exact r.inj r'
theorem Inv.tuple_inj (I:Inv X pins σ H s)(h:SqT X.K H a xs)(h':SqT X.K H a ys):xs=ys:=by
 obtain ⟨its,r,⟨o,e,_,n,d⟩,_⟩:=I.tuple h
 obtain ⟨its',r',⟨o',e',_,n',d'⟩,_⟩:=I.tuple h'
 rw [e] at e';cases e'
 rw [d] at d'
 injection d' with d1 _
 have:its=its':=by simpa using congrArg Array.toList d1
 subst this
 exact r.inj r'
end
noncomputable abbrev Cx.wish (X:Cx)(E:Value->Shared->Prop):Cx:={ X with xe:=E }
noncomputable abbrev Cx.nox (X:Cx):Cx:=X.wish fun _ _=>False
theorem Cx.Ok.wish {X:Cx}(ok:X.Ok)(E:Value->Shared->Prop):(X.wish E).Ok :=
 ⟨ok.mod,ok.kind,ok.glob,ok.blt,ok.above,ok.inj,ok.has,ok.cab,ok.hd,ok.frames,ok.stk,ok.exf,ok.bs,ok.bsz,ok.noex,ok.exfs,ok.funs,ok.frf⟩
theorem Cx.Ok.unwish {X:Cx}{E:Value->Shared->Prop}(ok:(X.wish E).Ok):X.Ok :=
 ⟨ok.mod,ok.kind,ok.glob,ok.blt,ok.above,ok.inj,ok.has,ok.cab,ok.hd,ok.frames,ok.stk,ok.exf,ok.bs,ok.bsz,ok.noex,ok.exfs,ok.funs,ok.frf⟩
section
variable {X:Cx}{pins:List (Addr×Obj)}{σ:St}{H:Hp}{s:Shared}{E:Value->Shared->Prop}
theorem Inv.wish (I:Inv X pins σ H s)(E:Value->Shared->Prop):Inv (X.wish E) pins σ H s:=⟨I.ok.wish E,I.os,I.bare,I.base,I.loc,I.cell,I.free,I.freeC,I.pin,I.hok,I.len⟩
theorem Inv.unwish (I:Inv (X.wish E) pins σ H s):Inv X pins σ H s:=⟨I.ok.unwish,I.os,I.bare,I.base,I.loc,I.cell,I.free,I.freeC,I.pin,I.hok,I.len⟩
theorem SP.unwish {D:D7}{f:Flow}{s':Shared}(h:SP (X.wish E) pins D f s'):SP X pins D f s':=by
 cases f with
 | next=>obtain ⟨σ',H',I,q⟩:=h;exact ⟨σ',H',I.unwish,q⟩
 | brk=>obtain ⟨σ',H',I,q⟩:=h;exact ⟨σ',H',I.unwish,q⟩
 | cont=>obtain ⟨σ',H',I,q⟩:=h;exact ⟨σ',H',I.unwish,q⟩
 | ret u=>obtain ⟨v,σ',H',I,r,q⟩:=h;exact ⟨v,σ',H',I.unwish,r,q⟩
theorem PSs.nox {st:List Stmt}{t:TS}(h:PSs X.nox st t):PSs X st t:=fun pins s σ H D I hw =>
 Q5 (h pins s σ H D (I.wish _) hw) (fun _ _ q=>q.unwish) fun _ _ z=>P9 z
end
section
variable {X:Cx}{st:Stmt}{rest:List Stmt}{t u:TS}{e:Expr}{te:TE}{pos:Pos}
noncomputable def Nw:TS:=fun D σ H=>D.nx σ H
noncomputable def N1 (t u:TS):TS:=fun D σ H=>t { D with nx:=u D } σ H
theorem Zi2:PSs X [] Nw:=fun _ _ σ H _ I h=>R9 ⟨σ,H,I,h⟩
theorem Zn3 (h1:PS X st t)(h2:PSs X rest u):PSs X (st::rest) (N1 t u):=by
 intro pins s σ H D I h
 refine Vx (Ao (h1 pins s σ H { D with nx:=u D } I h) fun f s1 q=>?_)
 cases f with
 | next =>
  obtain ⟨σ',H',I',q⟩:=q
  exact h2 pins s1 σ' H' D I' q
 | ret v=>exact q
 | brk=>exact q
 | cont=>exact q
theorem Zkj (h1:PS X st t):PSs X [st] t:=by
 intro pins s σ H D I h
 refine Vx (Ao (h1 pins s σ H D I h) fun f s1 q=>?_)
 cases f with
 | next=>exact R9 q
 | ret v=>exact q
 | brk=>exact q
 | cont=>exact q
theorem Inv.quiet {pins:List (Addr×Obj)}{σ:St}{H:Hp}{s:Shared}(I:Inv X pins σ H s):interactive X.env=false:=by simp [interactive,I.ok.kind]
noncomputable def Zau (te:TE):TS:=fun D σ H=>te σ H fun _ H1=>D.nx σ H1
theorem Zmf (he:PE X e te)(hs:swapsWith e none pos.line X.env=pure false:=by rfl):PS X (.Expr e pos) (Zau te):=by
 intro pins s σ H D I h
 exact wpAny_Expr_any (Ao (he pins s σ H _ I h) fun v s1 ⟨x,H1,I1,r1,q1⟩=>⟨σ,H1,I1,q1⟩) I.quiet hs
noncomputable def Zbn (te:TE):TS:=fun D σ H=>te σ H D.rt
theorem Zrm (he:PE X e te):PS X (.Return (some e) pos) (Zbn te):=by
 intro pins s σ H D I h
 exact wpAny_Return_some (Ao (he pins s σ H _ I h) fun v s1 ⟨x,H1,I1,r1,q1⟩=>⟨x,σ,H1,I1,r1,q1⟩)
noncomputable def Cw (c:TT)(t u:TS):TS:=fun D σ H=>c σ H fun b H1=>if b=true then t D σ H1 else u D σ H1
theorem Zrn {c:Expr}{a b:List Stmt}{tc:TT}(hc:PT X c tc)(ha:PSs X a t)(hb:PSs X b u):PS X (.If c a b pos) (Cw tc t u):=by
 intro pins s σ H D I h
 refine wpAny_If (Ao (hc pins s σ H _ I h) fun d s1 zq=>?_)
 obtain ⟨H1,I1,q1⟩:=zq
 cases d with
 | true=>exact ha pins s1 σ H1 D I1 q1
 | false=>exact hb pins s1 σ H1 D I1 q1
end
noncomputable abbrev TG:=V->St->Hp->(St->Hp->Prop)->Prop
noncomputable abbrev Ee:=List V->St->Hp->(St->Hp->Prop)->Prop
noncomputable def PG (X:Cx)(target:Expr)(t:TG):Prop :=
 ∀(pins:List (Addr×Obj))(s:Shared)(σ:St)(H:Hp)(v:V)(u:Value)(Q:St->Hp->Prop),Inv X pins σ H s->RelV v u->t v σ H Q ->
  wpAny (model X.prog X.w) X.A (assign target X.env u) (fun _ s'=>∃ σ' H',Inv X pins σ' H' s'/\Q σ' H') X.xe s
noncomputable def PGs (X:Cx)(ts:List Expr)(t:Ee):Prop :=
 ∀(pins:List (Addr×Obj))(s:Shared)(σ:St)(H:Hp)(vs:List V)(us:List Value)(Q:St->Hp->Prop),Inv X pins σ H s->Vals vs us->t vs σ H Q ->
  wpAny (model X.prog X.w) X.A (assignInOrder ((assignEach ts X.env).map (·.2)) us) (fun _ s'=>∃ σ' H',Inv X pins σ' H' s'/\Q σ' H') X.xe s
noncomputable abbrev Js:=V->V->V->Hp->(Hp->Prop)->Prop
noncomputable def Ov (X:Cx)(t:Js):Prop :=
 ∀(pins:List (Addr×Obj))(s:Shared)(σ:St)(H:Hp)(o i v:V)(ov iv u:Value)(Q:Hp->Prop),Inv X pins σ H s->RelV o ov->RelV i iv->RelV v u->t o i v H Q ->
  wpAny (model X.prog X.w) X.A (setItem ov iv u) (fun _ s'=>∃ H',Inv X pins σ H' s'/\Q H') X.xe s
section
variable {X:Cx}{pos:Pos}
noncomputable def F9 (i:Nat):TG:=fun v σ H Q=>Q (σ.set i (some v)) H
theorem Zle {i:Nat}{x:Str}(hN:X.N.Nodup)(hi:X.N[i]?=some x)(hx:E6 X.env.scope x)(hf:X.fn x=true\/X.env.scope.names.lookup x=some .local:=by first | exact .inl rfl | exact .inr rfl | assumption):PG X (.Name x pos) (F9 i):=by
 intro pins s σ H v u Q I r h
 exact wpAny_assign_Name (Ob I hN hi hx r (fun s' I'=>⟨_,H,I',h⟩) hf)
noncomputable def Nz:Ee:=fun vs σ H Q=>vs=[]/\Q σ H
noncomputable def Zbz (t:TG)(u:Ee):Ee:=fun vs σ H Q=>∃ v r,vs=v::r/\t v σ H fun σ' H'=>u r σ' H' Q
theorem Zqc:PGs X [] Nz:=by
 intro pins s σ H vs us Q I r h
 obtain ⟨e,h⟩:=h
 subst e
 cases r
 exact assignInOrder_nil ⟨σ,H,I,h⟩
theorem Zpt {e:Expr}{es:List Expr}{t:TG}{u:Ee}(h1:PG X e t)(h2:PGs X es u)
  (hs:(assignEach (e::es) X.env).map (·.2)=assign e X.env::(assignEach es X.env).map (·.2):=by rfl):PGs X (e::es) (Zbz t u):=by
 intro pins s σ H vs us Q I r h
 obtain ⟨v,vr,e1,h⟩:=h
 subst e1
 cases r with
 | cons r rr =>
  rw [hs]
  refine assignInOrder_cons (Ao (h1 pins s σ H _ _ _ I r h) fun _ s1 zq=>?_)
  obtain ⟨σ1,H1,I1,q1⟩:=zq
  exact h2 pins s1 σ1 H1 _ _ Q I1 rr q1
noncomputable def My (K:O6)(n:Nat)(t:Ee):TG:=fun v σ H Q=>∃ a xs,v=.ref a/\SqT K H a xs/\xs.length=n/\t xs σ H Q
theorem Zqu {es:List Expr}{k:Nat}{t:Ee}{n:Nat}(hc:X.calm=true)(h:PGs X es t)
  (hn:(assignEach es X.env).length=n:=by rfl) (hst:(assignEach es X.env).findIdx? (·.1)=none:=by rfl):PG X (.Tuple es k pos) (My X.K n t):=by
 intro pins s σ H v u Q I r hw
 obtain ⟨a,xs,e1,hq,hl,hw⟩:=hw
 subst e1
 cases r
 obtain ⟨its,rv,ht,hz⟩:=I.tuple hq
 refine assign_Tuple_tuple (I.ok.hd hc) ht (by simp [hn,<- hl,rv.length]) hst fun h' hx=>?_
 have I1:Inv X pins σ H { s with heap:=h' }:=I.kept (t':=s.toks) fun b o e=>hx b o (Pn (Pf e)) e
 exact h pins _ σ H xs _ Q I1 (by simpa using rv) hw
noncomputable def Oq (to ti:TE)(t:Js):TG:=fun v σ H Q=>to σ H fun o H1=>ti σ H1 fun i H2=>t o i v H2 fun H3=>Q σ H3
theorem Ziw {o i:Expr}{to ti:TE}{t:Js}(ho:PE X o to)(hi:PE X i ti)(hs:Ov X t)
  (ha:∀ v,assign (.Subscript o i pos) X.env v=(do
   let ov <- holding [v] (eval o X.env)
   let iv <- holding [v,ov] (eval i X.env)
   standAt pos
   holding [v,ov,iv] (setItem ov iv v)
   release [v,ov,iv] []):=by intro _;rfl):PG X (.Subscript o i pos) (Oq to ti t):=by
 intro pins s σ H v u Q I r h
 rw [ha]
 refine O7 (Qy (Ao (ho pins s σ H _ I h) fun ov s1 zq=>?_))
 obtain ⟨x,H1,I1,r1,q1⟩:=zq
 refine O7 (Qy (Ao (hi pins s1 σ H1 _ I1 q1) fun iv s2 zq=>?_))
 obtain ⟨y,H2,I2,r2,q2⟩:=zq
 refine O7 (wpAny_standAt (O7 (Qy (Ao (hs pins s2 σ H2 x y v ov iv u _ I2 r1 r2 r q2) fun _ s3 zq=>?_))))
 obtain ⟨H3,I3,q3⟩:=zq
 exact wpAny_release ⟨σ,H3,I3,q3⟩
noncomputable def F4 (te:TE)(g:TG):TS:=fun D σ H=>te σ H fun x H1=>g x σ H1 D.nx
theorem Zhs {tg e:Expr}{te:TE}{g:TG}(he:PE X e te)(hg:PG X tg g)(hs:swapsWithSole [tg] e pos.line X.env=pure false:=by rfl)(hw:swappedStores [tg] e X.env=pure none:=by rfl)
  (h1:(assignEach [tg] X.env).map (·.2)=[assign tg X.env]:=by rfl):PS X (.Assign [tg] e pos) (F4 te g):=by
 intro pins s σ H D I h
 refine wpAny_Assign_stores (Ao (he pins s σ H _ I h) fun v s1 zq=>?_) hs hw
 obtain ⟨x,H1,I1,r1,q1⟩:=zq
 rw [h1]
 exact Ao (hg pins s1 σ H1 x v _ I1 r1 q1) fun _ s2 q=>q
theorem Zmd {i:Nat}{x:Str}{e:Expr}{te:TE}{pos':Pos}(hN:X.N.Nodup)(hi:X.N[i]?=some x)(hx:E6 X.env.scope x)(he:PE X e te)(hs:swapsWith e (some (.Name x pos')) pos.line X.env=pure false:=by rfl)(hf:X.fn x=true\/X.env.scope.names.lookup x=some .local:=by first | exact .inl rfl | exact .inr rfl | assumption) :
  PS X (.Assign [.Name x pos'] e pos) (F4 te (F9 i)):=by
 intro pins s σ H D I h
 refine wpAny_Assign_Name (Ao (he pins s σ H _ I h) fun v s1 zq=>?_) hs
 obtain ⟨y,H1,I1,r1,q1⟩:=zq
 exact Ob I1 hN hi hx r1 (fun s2 I2=>⟨_,H1,I2,q1⟩) hf
end
section
variable {X:Cx}{pos:Pos}
noncomputable def Zc2 (c:TT)(tb:TS):TS:=fun D σ H=>∃ W:Nat->St->Hp->Prop,(∃ m,W m σ H)/\∀ m σ H,W m σ H ->
 c σ H fun b H1=>if b=true then ∃ N:St->Hp->Prop,(∀ σ' H',N σ' H'->∃ m',m' < m/\W m' σ' H')/\tb { D with nx:=N,ct:=N,bk:=D.nx } σ H1 else D.nx σ H1
theorem Zqi {c:Expr}{body:List Stmt}{tc:TT}{tb:TS}(hp:PassesOwn (model X.prog X.w) X.A X.env X.xe)(hc:PT X c tc)(hb:PSs X body tb):PS X (.While c body [] pos) (Zc2 tc tb):=by
 intro pins s σ H D I h
 obtain ⟨W,⟨m0,w0⟩,turn⟩:=h
 refine wpAny_While (codeAny_whileLoop (fun n s'=>∃ σ' H',Inv X pins σ' H' s'/\W n σ' H') ?_ m0 ⟨σ,H,I,w0⟩)
 rintro n s1 ⟨σ1,H1,I1,w1⟩
 refine Ry hp (Ao (hc pins s1 σ1 H1 _ I1 (turn n σ1 H1 w1)) fun b s2 zq=>?_)
 obtain ⟨H2,I2,q2⟩:=zq
 cases b with
 | true =>
  obtain ⟨N,hN,q2⟩:=q2
  rw [if_pos rfl]
  refine Ry hp (Ao (hb pins s2 σ1 H2 _ I2 q2) fun f s3 q3=>?_)
  cases f with
  | next =>
   obtain ⟨σ3,H3,I3,n3⟩:=q3
   obtain ⟨m',hm,w3⟩:=hN σ3 H3 n3
   exact ⟨m',hm,σ3,H3,I3,w3⟩
  | cont =>
   obtain ⟨σ3,H3,I3,n3⟩:=q3
   obtain ⟨m',hm,w3⟩:=hN σ3 H3 n3
   exact ⟨m',hm,σ3,H3,I3,w3⟩
  | brk=>exact q3
  | ret v=>exact q3
 | false =>
  rw [if_neg Pi]
  exact R9 ⟨σ1,H2,I2,q2⟩
end
structure It where
 go:Nat->Hp->Prop
 yld:Nat->Hp->V->Hp->Prop
 stop:Nat->Hp->Prop
noncomputable def FpOk (X:Cx)(pins:List (Addr×Obj))(H:Hp)(b:Addr):Prop :=
 H b=none/\b≠X.env.locals/\b ∉ X.fs/\(b∈X.ex\/X.s₀.heap.objs.size<=b)/\(∀ x c,X.env.cells.lookup x=some c->c≠b)/\∀ p∈X.pn++pins,p.1≠b
theorem Inv.fpOk {X:Cx}{pins:List (Addr×Obj)}{σ:St}{H H':Hp}{s:Shared}{b:Addr}(I:Inv X pins σ H s)(hb:s.heap.objs.size<=b)(hn:H' b=none):FpOk X pins H' b:=by
 refine ⟨hn,Qq (Pt I.lt hb),I.nofs hb,.inr (P8 I.sz hb),fun x c e z=>?_,fun p hp z=>?_⟩
 ·obtain ⟨v,q⟩:=I.cell x c e
  exact absurd (Pt q.lt (by rw [z];exact hb)) (Qt _)
 ·exact absurd (Pt (Pf (I.pin p hp).1) (by rw [z];exact hb)) (Qt _)
structure Hi (P:Program)(w:World)(K:O6)(tg:Expr)(J:It)(fp:List Addr)(it:Addr)(tn:Nat->Heap->Prop):Prop where
 mem:it∈fp
 obj:∀ i h,tn i h->∀ b∈fp,∃ o,h.get? b=some o/\∀ v,o.data≠.cell v
 keep:∀ i h h',tn i h->(∀ b∈fp,∀ o,h.get? b=some o->h'.get? b=some o)->tn i h'
 item:∀(X:Cx),X.prog=P->X.w=w->X.K=K->X.calm=true->∀(i:Nat)(pins:List (Addr×Obj))(s:Shared)(σ:St)(H:Hp)(E:Value->Shared->Prop),Inv X pins σ H s->(∀ b∈fp,FpOk X pins H b)->tn i s.heap->J.go i H ->
  wpAny (model P w) X.A (pyNext (.ref it)) (fun r s1=>∃ u,r=some u /\
   wpAny (model P w) X.A (letOwnedTupleGo tg (.ref it) u) (fun _ s2=>∃ x H',Inv X pins σ H' s2/\RelV x u/\J.yld i H x H'/\tn (i+1) s2.heap/\∀ b∈fp,H' b=none) E s1) E s
 done:∀(X:Cx),X.prog=P->X.w=w->X.K=K->X.calm=true->∀(i:Nat)(pins:List (Addr×Obj))(s:Shared)(σ:St)(H:Hp)(E:Value->Shared->Prop),Inv X pins σ H s->(∀ b∈fp,FpOk X pins H b)->tn i s.heap->J.stop i H ->
  wpAny (model P w) X.A (pyNext (.ref it)) (fun r s1=>r=none/\Inv X pins σ H s1) E s
 self:∀(A:Around)(i:Nat)(s:Shared)(Q:Value->Shared->Prop)(E:Value->Shared->Prop),tn i s.heap->Q (.ref it) s->wpAny (model P w) A (pyIter (.ref it)) Q E s
noncomputable abbrev TI:=St->Hp->(It->Hp->Prop)->Prop
noncomputable def PIE (X:Cx)(pins:List (Addr×Obj))(σ:St)(tg:Expr)(R:It->Hp->Prop)(itv:Value)(s2:Shared):Prop :=
 ∃(it:Addr)(fp:List Addr)(tn:Nat->Heap->Prop)(J:It)(H':Hp),itv=.ref it/\Inv X pins σ H' s2/\Hi X.prog X.w X.K tg J fp it tn/\tn 0 s2.heap/\(∀ b∈fp,FpOk X pins H' b)/\R J H'
noncomputable def PI (X:Cx)(tg iter:Expr)(wi:TI):Prop :=
 ∀(pins:List (Addr×Obj))(s:Shared)(σ:St)(H:Hp)(R:It->Hp->Prop),Inv X pins σ H s->wi σ H R ->
  wpAny (model X.prog X.w) X.A (eval iter X.env) (fun v s1=>wpAny (model X.prog X.w) X.A (pyIter v) (PIE X pins σ tg R) X.xe s1) X.xe s
theorem Kh {M:Model}{A:Around}{E:Value->Shared->Prop}{s:Shared}{tg:Expr}{it:Addr}{u:Value}{o:Obj}{n:String}{vs:Array Value}{Q:Unit->Shared->Prop}(ho:s.heap.get? it=some o)(hc:o.cls=.type n)(hd:o.data=.fields vs)
  (hn:["enumerate", "zip", "dict_itemiterator", "dict_reverseitemiterator", "odict_iterator", "itertools.zip_longest", "itertools.pairwise"].contains n=false) (hQ:Q () s):wpAny M A (letOwnedTupleGo tg (.ref it) u) Q E s:=by
 unfold letOwnedTupleGo
 cases tg <;> first
  | exact O8 hQ
  | (cases u <;> first
    | exact O8 hQ
    | (refine O7 (wpAny_load ho ?_)
       rw [hc,hd]
       show wpAny M A (if (["enumerate", "zip", "dict_itemiterator", "dict_reverseitemiterator", "odict_iterator", "itertools.zip_longest", "itertools.pairwise"].contains n && vs[0]? == some (rawInt _))=true then _ else _) Q E s
       rw [if_neg (by intro h;rw [hn,Bool.false_and] at h;cases h)]
       exact O8 hQ))
noncomputable def He (K:O6)(a:Addr):It :=
 ⟨fun i H=>∃ xs x,SqL K H a xs/\xs[i]?=some x,fun i H x H'=>H'=H/\∀ xs,SqL K H a xs->xs[i]?=some x,fun i H=>∃ xs,SqL K H a xs/\xs.length<=i⟩
noncomputable def Itt (K:O6)(a:Addr):It :=
 ⟨fun i H=>∃ xs x,SqT K H a xs/\xs[i]?=some x,fun i H x H'=>H'=H/\∀ xs,SqT K H a xs->xs[i]?=some x,fun i H=>∃ xs,SqT K H a xs/\xs.length<=i⟩
noncomputable def Hh (lo:Int)(n:Nat):It:=⟨fun i _=>i < n,fun i H x H'=>H'=H/\x=.int (lo+i),fun i _=>n<=i⟩
theorem Zqk {P:Program}{w:World}{K:O6}{tg:Expr}(a it:Addr):Hi P w K tg (He K a) [it] it (fun i h=>h.IsListIter it a i) where
 mem:=by simp
 obj:=fun i h st b hb=>by
  have e:b=it:=by simpa using hb
  subst e
  obtain ⟨o,e,c,d⟩:=st
  exact ⟨o,e,fun v z=>by rw [d] at z;cases z⟩
 keep:=fun i h h' st k=>st.at fun o e=>k it (by simp) o e
 item:=by
  intro X hP hw hK hc i pins s σ H E I hf st hg
  subst hP hw hK
  obtain ⟨xs,x,hq,hx⟩:=hg
  obtain ⟨its,rv,p,hz⟩:=I.list hq
  obtain ⟨u,hu,ru⟩:=rv.get hx
  obtain ⟨f0,f1,f2,f3,f4,f5⟩:=hf it (by simp)
  refine wpAny_pyNext_list_item st p.isList (x:=u) (by simpa using hu) fun h' st' sb=>?_
  have I1:Inv X pins σ H { s with heap:=h' }:=I.turned (t':=s.toks) (fun b o hb e=>(sb.2 b hb).trans e) f0 f1 f3 f4 f5
  obtain ⟨o,e,c,d⟩:=id st'
  exact ⟨u,rfl,Kh (s:={ s with heap:=h' }) e c d (by decide) ⟨x,H,I1,ru,⟨rfl,fun ys hy=>by rw [I.list_inj hy hq];exact hx⟩,st',fun b hb=>(hf b hb).1⟩⟩
 done:=by
  intro X hP hw hK hc i pins s σ H E I hf st hg
  subst hP hw hK
  obtain ⟨xs,hq,hx⟩:=hg
  obtain ⟨its,rv,p,hz⟩:=I.list hq
  obtain ⟨f0,f1,f2,f3,f4,f5⟩:=hf it (by simp)
  have hl:=rv.length
  exact wpAny_pyNext_list_end (I.ok.hd hc) st p.isList (by simp;omega) fun h' eb=>⟨rfl,I.turned (t':=s.toks) (fun b o hb e=>eb b o hb e) f0 f1 f3 f4 f5⟩
 self:=fun _ _ _ _ _ st h=>wpAny_pyIter_listiter st h
theorem Znb {P:Program}{w:World}{K:O6}{tg:Expr}(a it:Addr):Hi P w K tg (Itt K a) [it] it (fun i h=>h.IsTupleIter it a i) where
 mem:=by simp
 obj:=fun i h st b hb=>by
  have e:b=it:=by simpa using hb
  subst e
  obtain ⟨o,e,c,d⟩:=st
  exact ⟨o,e,fun v z=>by rw [d] at z;cases z⟩
 keep:=fun i h h' st k=>st.at fun o e=>k it (by simp) o e
 item:=by
  intro X hP hw hK hc i pins s σ H E I hf st hg
  subst hP hw hK
  obtain ⟨xs,x,hq,hx⟩:=hg
  obtain ⟨its,rv,p,hz⟩:=I.tuple hq
  obtain ⟨u,hu,ru⟩:=rv.get hx
  obtain ⟨f0,f1,f2,f3,f4,f5⟩:=hf it (by simp)
  refine wpAny_pyNext_tuple_item st (show s.heap.IsTuple a its.toArray from p) (x:=u) (by simpa using hu) fun h' st' sb=>?_
  have I1:Inv X pins σ H { s with heap:=h' }:=I.turned (t':=s.toks) (fun b o hb e=>(sb.2 b hb).trans e) f0 f1 f3 f4 f5
  obtain ⟨o,e,c,d⟩:=id st'
  exact ⟨u,rfl,Kh (s:={ s with heap:=h' }) e c d (by decide) ⟨x,H,I1,ru,⟨rfl,fun ys hy=>by rw [I.tuple_inj hy hq];exact hx⟩,st',fun b hb=>(hf b hb).1⟩⟩
 done:=by
  intro X hP hw hK hc i pins s σ H E I hf st hg
  subst hP hw hK
  obtain ⟨xs,hq,hx⟩:=hg
  obtain ⟨its,rv,p,hz⟩:=I.tuple hq
  obtain ⟨f0,f1,f2,f3,f4,f5⟩:=hf it (by simp)
  have hl:=rv.length
  exact wpAny_pyNext_tuple_end (I.ok.hd hc) st (show s.heap.IsTuple a its.toArray from p) (by simp;omega) fun h' eb=>⟨rfl,I.turned (t':=s.toks) (fun b o hb e=>eb b o hb e) f0 f1 f3 f4 f5⟩
 self:=fun _ _ _ _ _ st h=>wpAny_pyIter_tupleiter st h
theorem Zoq {P:Program}{w:World}{K:O6}{tg:Expr}(it:Addr)(lo:Int)(n:Nat):Hi P w K tg (Hh lo n) [it] it (fun i h=>IsRangeIter h it (lo+(i:Nat) * 1) ((n:Int) - (i:Nat)) 1) where
 mem:=by simp
 obj:=fun i h st b hb=>by
  have e:b=it:=by simpa using hb
  subst e
  exact ⟨_,st,fun v z=>by
   have z':Data.fields _=Data.cell v:=z
   cases z'⟩
 keep:=fun i h h' st k=>k it (by simp) _ st
 item:=by
  intro X hP hw hK hc i pins s σ H E I hf st hg
  subst hP hw hK
  obtain ⟨f0,f1,f2,f3,f4,f5⟩:=hf it (by simp)
  have W:=Walks.range (prog:=X.prog) (w:=X.w) (I.ok.hd hc) it lo 1 n
  refine W.item i s _ _ hg st fun v h' tk hv st' kk=>?_
  obtain ⟨t,rfl⟩:=hv
  have I1:Inv X pins σ H { s with heap:=h',toks:=tk }:=I.turned (fun b o hb e=>kk b o (by simpa using hb) e) f0 f1 f3 f4 f5
  refine ⟨_,rfl,Kh (s:={ s with heap:=h',toks:=tk }) (n := "range_iterator") st' rfl rfl (by decide) ⟨.int (lo+i),H,I1,⟨t,?_⟩,⟨rfl,rfl⟩,st',fun b hb=>(hf b hb).1⟩⟩
  rw [Int.mul_one]
 done:=by
  intro X hP hw hK hc i pins s σ H E I hf st hg
  subst hP hw hK
  obtain ⟨f0,f1,f2,f3,f4,f5⟩:=hf it (by simp)
  exact wpAny_pyNext_range_end (I.ok.hd hc) st (by have:n<=i:=hg;omega) fun h' eb=>⟨rfl,I.turned (t':=s.toks) (fun b o hb e=>eb b o hb e) f0 f1 f3 f4 f5⟩
 self:=fun _ _ _ _ _ st h=>wpAny_pyIter_rangeiter st h
section
variable {X:Cx}{tg:Expr}
theorem Zhq {pins:List (Addr×Obj)}{σ:St}{H:Hp}{s:Shared}{R:It->Hp->Prop}{E:Value->Shared->Prop}{lo hi:Int}{t u v:Tok}{tk:Nat}(I:Inv X pins σ H s)(h1:-(2 ^ 62)<=lo)(h2:lo < 2 ^ 62)(h3:-(2 ^ 62)<=hi)(h4:hi < 2 ^ 62)
  (q:R (Hh lo (hi - lo).toNat) H):wpAny (model X.prog X.w) X.A (pyIter (.ref s.heap.objs.size)) (PIE X pins σ tg R) E { s with heap:=s.heap.push { cls:=.type "range",data:=.fields #[.int lo t,.int hi u,.int 1 v] },toks:=tk }:=by
 refine wpAny_pyIter_range (IsRange.new ..) (small_one h1 h2 h3 h4) ?_
 have I1:Inv X pins σ H { s with heap:=s.heap.push { cls:=.type "range",data:=.fields #[.int lo t,.int hi u,.int 1 v] },toks:=tk }:=I.kept fun b o e=>Pc _ e
 refine ⟨(s.heap.push { cls:=.type "range",data:=.fields #[.int lo t,.int hi u,.int 1 v] }).objs.size,[(s.heap.push { cls:=.type "range",data:=.fields #[.int lo t,.int hi u,.int 1 v] }).objs.size],_,_,H,rfl,
  I1.kept (t':=tk) fun b o e=>Pc _ e,Zoq _ lo (hi - lo).toNat,?_,fun b hb=>?_,q⟩
 ·have e1:lo+((0:Nat):Int) * 1=lo:=by simp
  have e2:(((hi - lo).toNat:Nat):Int) - ((0:Nat):Int)=Builtin.Range.rangeSize lo hi 1:=by rw [rangeSize_one];split <;> omega
  show IsRangeIter _ _ (lo+((0:Nat):Int) * 1) ((((hi - lo).toNat:Nat):Int) - ((0:Nat):Int)) 1
  rw [e1,e2]
  exact Po _ rfl
 ·have e:b=(s.heap.push { cls:=.type "range",data:=.fields #[.int lo t,.int hi u,.int 1 v] }).objs.size:=by simpa using hb
  subst e
  exact I1.fpOk (O9 _) (I1.hok.fresh (O9 _))
noncomputable def Nm (ta:TA):TI:=fun σ H R=>ta σ H fun vs H1=>∃ j:Int,vs=[.int j]/\-(2 ^ 62)<=j/\j < 2 ^ 62/\R (Hh 0 j.toNat) H1
theorem Zj7 {a:Expr}{ta:TA}{p pos:Pos}(hg:Gl X "range")(hm:X.mg "range" = none)(ha:PA X [a] ta)(hs:starEach [a] X.env=[(false,eval a X.env)]:=by rfl):PI X tg (.Call (.Name "range" p) [a] [] pos) (Nm ta):=by
 intro pins s σ H R I h
 refine Call_ (Fm I hg hm boot_range (Rq (Ao (ha pos pins s σ H _ I h) fun us s1 zq=>?_) hs rfl))
 obtain ⟨vs,H1,I1,r1,q1⟩:=zq
 obtain ⟨j,e,q1,q2,q⟩:=q1
 subst e
 cases r1 with
 | cons r rr =>
  cases rr
  obtain ⟨t,rfl⟩:=r
  exact call_range_1 (Zhq I1 (by omega) (by omega) q1 q2 (by simpa using q))
noncomputable def Oe (wi:TI)(g:TG)(tb:TS):TS:=fun D σ H=>wi σ H fun J H1=>∃ W:Nat->Nat->St->Hp->Prop,(∃ m,W 0 m σ H1)/\∀ i m σ H,W i m σ H ->
 (J.stop i H/\D.nx σ H)\/(J.go i H/\∃ N:St->Hp->Prop,(∀ σ' H',N σ' H'->∃ m',m' < m/\W (i+1) m' σ' H')/\∀ x H',J.yld i H x H'->g x σ H' fun σ2 H2=>tb { D with nx:=N,ct:=N,bk:=D.nx } σ2 H2)
noncomputable def J4 (fp:List Addr)(h:Heap):List (Addr×Obj):=fp.filterMap fun b=>(h.get? b).map fun o=>(b,o)
theorem Me {fp:List Addr}{h:Heap}{b:Addr}{o:Obj}(hb:b∈fp)(e:h.get? b=some o):(b,o)∈J4 fp h:=List.mem_filterMap.mpr ⟨b,hb,by rw [e];rfl⟩
theorem Zmk {fp:List Addr}{h:Heap}{p:Addr×Obj}(hp:p∈J4 fp h):p.1∈fp/\h.get? p.1=some p.2:=by
 obtain ⟨b,hb,e⟩:=List.mem_filterMap.mp hp
 cases q:h.get? b with
 | none=>rw [q] at e;cases e
 | some o =>
  rw [q] at e
  have e':(b,o)=p:=P5 e
  subst e'
  exact ⟨hb,q⟩
theorem Inv.pinned {pins:List (Addr×Obj)}{σ:St}{H:Hp}{s:Shared}{fp:List Addr}(I:Inv X pins σ H s)(hf:∀ b∈fp,FpOk X pins H b)(ho:∀ b∈fp,∃ o,s.heap.get? b=some o/\∀ v,o.data≠.cell v):Inv X (pins++J4 fp s.heap) σ H s :=
 I.pins_of fun p hp=>(Ra.mp hp).elim (fun z=>I.pin p (Q0 _ z)) fun z=>by
  obtain ⟨hb,e⟩:=Zmk z
  obtain ⟨f0,f1,f2,_⟩:=hf p.1 hb
  obtain ⟨o,e',d⟩:=ho p.1 hb
  rw [e] at e';cases e'
  exact ⟨e,f0,f1,f2,d⟩
theorem Inv.unpinned {pins pl:List (Addr×Obj)}{σ:St}{H:Hp}{s:Shared}(I:Inv X (pins++pl) σ H s):Inv X pins σ H s:=I.pins_of fun p hp=>I.pin p (Q0 _ (List.mem_append_left _ hp))
theorem Ziu {iter:Expr}{body:List Stmt}{wi:TI}{g:TG}{tb:TS}{pos:Pos}(hp:PassesOwn (model X.prog X.w) X.A X.env X.xe)(hc:X.calm=true)(hi:PI X tg iter wi)(hg:PG X tg g)(hb:PSs X body tb)
  (hs:∀ x,foldedSetIterable iter X.env x=pure x:=by intro _;rfl):PS X (.For tg iter body [] pos) (Oe wi g tb):=by
 intro pins s σ H D I h
 refine wpAny_For (Ao (hi pins s σ H _ I h) fun v s1 h1=>Ao h1 fun itv s2 h2=>?_) hs
 obtain ⟨it,fp,tn,J,H2,e,I2,T,st2,f2,W,⟨m0,w0⟩,turn⟩:=h2
 subst e
 have stat:∀{H':Hp},(∀ b∈fp,H' b=none)->∀ b∈fp,FpOk X pins H' b:=fun hn b hb=>⟨hn b hb,(f2 b hb).2⟩
 refine codeAny_forLoop_any (fun n s'=>∃ i σ' H',Inv X pins σ' H' s'/\tn i s'.heap/\(∀ b∈fp,H' b=none)/\W i n σ' H') ?_ m0 ⟨0,σ,H2,I2,st2,fun b hb=>(f2 b hb).1,w0⟩
 rintro n s3 ⟨i,σ3,H3,I3,st3,fr3,w3⟩
 rcases turn i n σ3 H3 w3 with ⟨stop,qn⟩ | ⟨go,N,hN,step⟩
 ·refine Ry hp (Ao (T.done X rfl rfl rfl hc i pins s3 σ3 H3 X.xe I3 (stat fr3) st3 stop) fun r s4 zq=>?_)
  obtain ⟨hr,I4⟩:=zq
  subst hr
  exact R9 ⟨σ3,H3,I4,qn⟩
 ·refine Ry hp (Ao (T.item X rfl rfl rfl hc i pins s3 σ3 H3 X.xe I3 (stat fr3) st3 go) fun r s4 zq=>?_)
  obtain ⟨u,hr,h4⟩:=zq
  subst hr
  refine Ry hp (Ao h4 fun _ s5 zq=>?_)
  obtain ⟨x,H5,I5,r5,y5,st5,fr5⟩:=zq
  have I5':=I5.pinned (stat fr5) (T.obj _ _ st5)
  refine Ry hp (Ao (hg _ s5 σ3 H5 x u _ I5' r5 (step x H5 y5)) fun _ s6 zq=>?_)
  obtain ⟨σ6,H6,I6,q6⟩:=zq
  refine Ry hp (Ao (hb _ s6 σ6 H6 _ I6 q6) fun f s7 q7=>?_)
  have again:∀{σ7:St}{H7:Hp},Inv X (pins++J4 fp s5.heap) σ7 H7 s7->N σ7 H7->∃ m,m < n/\∃ i σ' H',Inv X pins σ' H' s7/\tn i s7.heap/\(∀ b∈fp,H' b=none)/\W i m σ' H':=fun {σ7 H7} I7 n7=>by
   obtain ⟨m',hm,w7⟩:=hN σ7 H7 n7
   refine ⟨m',hm,i+1,σ7,H7,I7.unpinned,T.keep _ _ _ st5 fun b hb o e=>(I7.pin (b,o) (Q0 _ (Q0 _ (Me hb e)))).1,fun b hb=>?_,w7⟩
   obtain ⟨o,e,d⟩:=T.obj _ _ st5 b hb
   exact (I7.pin (b,o) (Q0 _ (Q0 _ (Me hb e)))).2.1
  cases f with
  | next=>obtain ⟨σ7,H7,I7,n7⟩:=q7;exact again I7 n7
  | cont=>obtain ⟨σ7,H7,I7,n7⟩:=q7;exact again I7 n7
  | brk=>obtain ⟨σ7,H7,I7,q7⟩:=q7;exact ⟨σ7,H7,I7.unpinned,q7⟩
  | ret v=>obtain ⟨x7,σ7,H7,I7,r7,q7⟩:=q7;exact ⟨x7,σ7,H7,I7.unpinned,r7,q7⟩
end
theorem Ox {K:O6}{a:Addr}{xs:List V}{g:TG}{tb:TS}{D:D7}{σ:St}{H:Hp}(Pv:Nat->St->Hp->Prop)(h0:Pv 0 σ H)(hl:∀ i σ H,i<=xs.length->Pv i σ H->SqL K H a xs)
  (hs:∀ i x σ H,xs[i]?=some x->Pv i σ H->g x σ H fun σ2 H2=>tb { D with nx:=Pv (i+1),ct:=Pv (i+1),bk:=D.nx } σ2 H2) (hd:∀ σ H,Pv xs.length σ H->D.nx σ H) :
  ∃ W:Nat->Nat->St->Hp->Prop,(∃ m,W 0 m σ H)/\∀ i m σ H,W i m σ H ->
   ((He K a).stop i H/\D.nx σ H)\/((He K a).go i H/\∃ N:St->Hp->Prop,(∀ σ' H',N σ' H'->∃ m',m' < m/\W (i+1) m' σ' H')/\∀ x H',(He K a).yld i H x H'->g x σ H' fun σ2 H2=>tb { D with nx:=N,ct:=N,bk:=D.nx } σ2 H2):=by
 refine ⟨fun i m σ H=>m=xs.length - i/\i<=xs.length/\Pv i σ H,⟨xs.length,by simp,Qh _,h0⟩,?_⟩
 rintro i m σ H ⟨rfl,hi,p⟩
 have q:=hl i σ H hi p
 by_cases hlt:i < xs.length
 ·refine .inr ⟨⟨xs,xs[i],q,by simp [hlt]⟩,Pv (i+1),fun σ' H' p'=>⟨xs.length - (i+1),by omega,rfl,hlt,p'⟩,fun x H' y=>?_⟩
  obtain ⟨e,y⟩:=y
  subst e
  exact hs i x σ _ (y xs q) p
 ·have e:i=xs.length:=by omega
  subst e
  exact .inl ⟨⟨xs,q,O9 _⟩,hd σ H p⟩
theorem Jc {lo:Int}{n:Nat}{g:TG}{tb:TS}{D:D7}{σ:St}{H:Hp}(Pv:Nat->St->Hp->Prop)(h0:Pv 0 σ H)
  (hs:∀ i σ H,i < n->Pv i σ H->g (.int (lo+i)) σ H fun σ2 H2=>tb { D with nx:=Pv (i+1),ct:=Pv (i+1),bk:=D.nx } σ2 H2) (hd:∀ σ H,Pv n σ H->D.nx σ H) :
  ∃ W:Nat->Nat->St->Hp->Prop,(∃ m,W 0 m σ H)/\∀ i m σ H,W i m σ H ->
   ((Hh lo n).stop i H/\D.nx σ H)\/((Hh lo n).go i H/\∃ N:St->Hp->Prop,(∀ σ' H',N σ' H'->∃ m',m' < m/\W (i+1) m' σ' H')/\∀ x H',(Hh lo n).yld i H x H'->g x σ H' fun σ2 H2=>tb { D with nx:=N,ct:=N,bk:=D.nx } σ2 H2):=by
 refine ⟨fun i m σ H=>m=n - i/\i<=n/\Pv i σ H,⟨n,by simp,Qh _,h0⟩,?_⟩
 rintro i m σ H ⟨rfl,hi,p⟩
 by_cases hlt:i < n
 ·refine .inr ⟨hlt,Pv (i+1),fun σ' H' p'=>⟨n - (i+1),by omega,rfl,hlt,p'⟩,fun x H' y=>?_⟩
  obtain ⟨e,y⟩:=y
  subst e y
  exact hs i σ _ hlt p
 ·have e:i=n:=by omega
  subst e
  exact .inl ⟨O9 _,hd σ H p⟩
noncomputable abbrev R2:=V->V->Hp->VK->Prop
noncomputable def OpR (X:Cx)(f:Value->Value->Sem Value)(r:R2):Prop :=
 ∀(pins:List (Addr×Obj))(s:Shared)(σ:St)(H:Hp)(x y:V)(v u:Value)(Q:VK),Inv X pins σ H s->RelV x v->RelV y u->r x y H Q ->
  wpAny (model X.prog X.w) X.A (f v u) (EP X pins σ Q) X.xe s
noncomputable def UnR (X:Cx)(f:Value->Sem Value)(r:V->Hp->VK->Prop):Prop :=
 ∀(pins:List (Addr×Obj))(s:Shared)(σ:St)(H:Hp)(x:V)(v:Value)(Q:VK),Inv X pins σ H s->RelV x v->r x H Q ->
  wpAny (model X.prog X.w) X.A (f v) (EP X pins σ Q) X.xe s
noncomputable def Cu (X:Cx)(f:Value)(r:List V->Hp->VK->Prop):Prop :=
 ∀(pins:List (Addr×Obj))(s:Shared)(σ:St)(H:Hp)(xs:List V)(us:List Value)(Q:VK),Inv X pins σ H s->Vals xs us->r xs H Q ->
  wpAny (model X.prog X.w) X.A (call f us) (EP X pins σ Q) X.xe s
noncomputable def TruR (X:Cx)(r:V->Hp->(Bool->Hp->Prop)->Prop):Prop :=
 ∀(pins:List (Addr×Obj))(s:Shared)(σ:St)(H:Hp)(x:V)(v:Value)(Q:Bool->Hp->Prop),Inv X pins σ H s->RelV x v->r x H Q ->
  wpAny (model X.prog X.w) X.A (truthy v) (TP X pins σ Q) X.xe s
noncomputable def Fd (r:R2)(ta tb:TE):TE:=fun σ H Q=>ta σ H fun x H1=>tb σ H1 fun y H2=>r x y H2 Q
noncomputable def tUn (r:V->Hp->VK->Prop)(ta:TE):TE:=fun σ H Q=>ta σ H fun x H1=>r x H1 Q
noncomputable def rI (C:Int->Int->Prop)(g:Int->Int->V):R2:=fun x y H Q=>∃ i j,x=.int i/\y=.int j/\C i j/\Q (g i j) H
noncomputable def Ew (g:Int->Int->V):R2:=fun x y H Q=>∃ i j,x=.int i/\y=.int j/\Q (g i j) H
noncomputable def rU (g:Int->V):V->Hp->VK->Prop:=fun x H Q=>∃ i,x=.int i/\Q (g i) H
section
variable {X:Cx}{a b c:Expr}{ta tb tc:TE}{pos:Pos}
theorem Zaq (ha:PE X a ta)(hb:PE X b tb){pins:List (Addr×Obj)}{s:Shared}{σ:St}{H:Hp}{R:V->V->Hp->Prop}(I:Inv X pins σ H s)
  (h:ta σ H fun x H1=>tb σ H1 fun y H2=>R x y H2) {Q:Value->Shared->Prop} {f:Value->Value->Sem Value}
  (hf:∀ v u s2 x y H2,Inv X pins σ H2 s2->RelV x v->RelV y u->R x y H2->wpAny (model X.prog X.w) X.A (f v u) Q X.xe s2) :
  wpAny (model X.prog X.w) X.A (eval a X.env) (fun v s₁=>wpAny (model X.prog X.w) X.A (eval b X.env) (fun u s₂=>wpAny (model X.prog X.w) X.A (f v u) Q X.xe s₂) X.xe s₁) X.xe s:=by
 refine Ao (ha pins s σ H _ I h) fun v s1 zq=>?_
 obtain ⟨x,H1,I1,r1,q1⟩:=zq
 refine Ao (hb pins s1 σ H1 _ I1 q1) fun u s2 zq=>?_
 obtain ⟨y,H2,I2,r2,q2⟩:=zq
 exact hf v u s2 x y H2 I2 r1 r2 q2
theorem Zq8 {op:Operator}{r:R2}(ho:OpR X (binaryOp op) r)(ha:PE X a ta)(hb:PE X b tb):PE X (.BinOp a op b pos) (Fd r ta tb):=by
 intro pins s σ H Q I h
 exact wpAny_BinOp (Zaq ha hb I h fun v u s2 x y H2 I2 rx ry q=>ho pins s2 σ H2 x y v u Q I2 rx ry q)
theorem Zgq {op:UnaryOp}{r:V->Hp->VK->Prop}(ho:UnR X (unaryOp op) r)(ha:PE X a ta):PE X (.UnaryOp op a pos) (tUn r ta):=by
 intro pins s σ H Q I h
 exact UnaryOp_ (Ao (ha pins s σ H _ I h) fun v s1 ⟨x,H1,I1,r1,q1⟩=>ho pins s1 σ H1 x v Q I1 r1 q1)
theorem opI {f:Value->Value->Sem Value}{C:Int->Int->Prop}{g:Int->Int->Int}
  (rule:∀(i j:Int)(t u:Tok)(s:Shared)(Q:Value->Shared->Prop)(E:Value->Shared->Prop),C i j->Q (.int (g i j) s.toks) { s with toks:=s.toks+1 }->wpAny (model X.prog X.w) X.A (f (.int i t) (.int j u)) Q E s) :
  OpR X f (rI C fun i j=>.int (g i j)):=by
 intro pins s σ H x y v u Q I rx ry h
 obtain ⟨i,j,rfl,rfl,hc,q⟩:=h
 obtain ⟨t,rfl⟩:=rx
 obtain ⟨t',rfl⟩:=ry
 exact rule i j t t' s _ _ hc ⟨.int (g i j),H,I.tok _,⟨_,rfl⟩,q⟩
theorem opI0 {f:Value->Value->Sem Value}{g:Int->Int->Int}
  (rule:∀(i j:Int)(t u:Tok)(s:Shared)(Q:Value->Shared->Prop)(E:Value->Shared->Prop),Q (.int (g i j) s.toks) { s with toks:=s.toks+1 }->wpAny (model X.prog X.w) X.A (f (.int i t) (.int j u)) Q E s) :
  OpR X f (Ew fun i j=>.int (g i j)):=by
 intro pins s σ H x y v u Q I rx ry h
 obtain ⟨i,j,rfl,rfl,q⟩:=h
 obtain ⟨t,rfl⟩:=rx
 obtain ⟨t',rfl⟩:=ry
 exact rule i j t t' s _ _ ⟨.int (g i j),H,I.tok _,⟨_,rfl⟩,q⟩
theorem Zbt {f:Value->Value->Sem Value}{g:Int->Int->Bool}
  (rule:∀(i j:Int)(t u:Tok)(s:Shared)(Q:Value->Shared->Prop)(E:Value->Shared->Prop),Q (.bool (g i j)) s->wpAny (model X.prog X.w) X.A (f (.int i t) (.int j u)) Q E s) :
  OpR X f (Ew fun i j=>.bl (g i j)):=by
 intro pins s σ H x y v u Q I rx ry h
 obtain ⟨i,j,rfl,rfl,q⟩:=h
 obtain ⟨t,rfl⟩:=rx
 obtain ⟨t',rfl⟩:=ry
 exact rule i j t t' s _ _ ⟨.bl (g i j),H,I,rfl,q⟩
noncomputable def CDiv (i j:Int):Prop:=0 < j/\j < 1073741824
noncomputable def CPow (i j:Int):Prop:=0<=j/\j<=1000000/\i.natAbs < 2 ^ 64
noncomputable def CMul (i j:Int):Prop:=(-(2 ^ 64) < i/\i < 2 ^ 64)\/(-(2 ^ 64) < j/\j < 2 ^ 64)
theorem CMul.ok {i j:Int}(h:CMul i j):IntMulOk i j:=by
 rcases h with ⟨h1,h2⟩ | ⟨h1,h2⟩
 ·exact .of_left (intBits_le_64 h1 h2)
 ·exact .of_right (intBits_le_64 h1 h2)
theorem op_add:OpR X (binaryOp .Add) (Ew fun i j=>.int (i+j)):=opI0 fun _ _ _ _ _ _ _ q=>add_int q
theorem Ds:OpR X (binaryOp .Sub) (Ew fun i j=>.int (i - j)):=opI0 fun _ _ _ _ _ _ _ q=>sub_int q
theorem op_mul:OpR X (binaryOp .Mult) (rI CMul fun i j=>.int (i * j)):=opI fun _ _ _ _ _ _ _ hc q=>mul_int q hc.ok
theorem C4:OpR X (binaryOp .FloorDiv) (rI CDiv fun i j=>.int (i / j)):=opI fun i j _ _ _ _ _ hc q=>by
 have h1:(0:Int) < j:=hc.1
 have h2:j < 1073741824:=hc.2
 exact floordiv_int (by omega) (by rw [Int.fdiv_eq_ediv_of_nonneg i (by omega)];exact q) (.inl (PyProof.noPylong_small (by omega)))
theorem Bm:OpR X (binaryOp .Mod) (rI (fun _ j=>0 < j) fun i j=>.int (i % j)):=opI fun i j _ _ _ _ _ hc q=>by
 have h1:(0:Int) < j:=hc
 exact mod_int' (by omega) (by rw [Int.fmod_eq_emod_of_nonneg i (by omega)];exact q)
theorem Ii:OpR X (binaryOp .Pow) (rI CPow fun i j=>.int (i ^ j.toNat)):=opI fun _ _ _ _ _ _ _ hc q=>pow_int_small hc.1 hc.2.1 hc.2.2 q
theorem unI {f:Value->Sem Value}{g:Int->Int}
  (rule:∀(i:Int)(t:Tok)(s:Shared)(Q:Value->Shared->Prop)(E:Value->Shared->Prop),Q (.int (g i) s.toks) { s with toks:=s.toks+1 }->wpAny (model X.prog X.w) X.A (f (.int i t)) Q E s) :
  UnR X f (rU fun i=>.int (g i)):=by
 intro pins s σ H x v Q I rx h
 obtain ⟨i,rfl,q⟩:=h
 obtain ⟨t,rfl⟩:=rx
 exact rule i t s _ _ ⟨.int (g i),H,I.tok _,⟨_,rfl⟩,q⟩
theorem Iu:UnR X (unaryOp .USub) (rU fun i=>.int (-i)):=unI fun _ _ _ _ _ q=>neg_int q
end
noncomputable def Mw:V->V->Bool
 | .non,.non=>true | .non,.int _=>true | .int _,.non=>true | .non,.bl _=>true | .bl _,.non=>true | .non,.str _=>true | .str _,.non=>true
 | .int _,.int _=>true | .bl _,.bl _=>true | .str _,.str _=>true | .byt _,.byt _=>true
 | .int _,.str _=>true | .str _,.int _=>true | .bl _,.str _=>true | .str _,.bl _=>true
 | _,_=>false
noncomputable def rEq:R2:=fun x y H Q=>Mw x y=true/\Q (.bl (decide (x=y))) H
noncomputable def rNe:R2:=fun x y H Q=>Mw x y=true/\Q (.bl (!decide (x=y))) H
theorem Zew {i j:Int}:decide (V.int i=V.int j)=(i == j):=by
 rw [Uq]
 simp
theorem Zfx {i j:Bool}:decide (V.bl i=V.bl j)=(i == j):=by
 rw [Uq]
 simp
theorem Bv {i j:Str}:decide (V.str i=V.str j)=(i == j):=by
 rw [Uq]
 simp
theorem Zd0 {i j:Array UInt8}:decide (V.byt i=V.byt j)=(i.toList == j.toList):=by
 rw [Uq]
 cases i
 cases j
 simp
section
variable {X:Cx}{a b c:Expr}{ta tb tc:TE}{pos:Pos}
theorem Br {pins:List (Addr×Obj)}{σ:St}{H:Hp}{s:Shared}{Q:VK}{k k':Bool}(I:Inv X pins σ H s)(q:Q (.bl k) H)(e:k=k'):EP X pins σ Q (.bool k') s:=by
 subst e
 exact ⟨.bl k,H,I,rfl,q⟩
theorem op_eq:OpR X (compareOp .Eq) rEq:=by
 intro pins s σ H x y v u Q I rx ry h
 obtain ⟨hs,q⟩:=h
 cases x with
 | non =>
  cases rx
  cases y with
  | non=>cases ry;exact PySem.EqNone.eq_none_none (Br I q (by simp))
  | bl j=>cases ry;exact PySem.EqNone.eq_none_bool (Br I q (by simp))
  | int j=>obtain ⟨t',rfl⟩:=ry;exact PySem.EqNone.eq_none_int (Br I q (by simp))
  | str j=>obtain ⟨t',rfl⟩:=ry;exact PySem.EqNone.eq_none_str (Br I q (by simp))
  | _=>exact absurd (show false=true from hs) Pi
 | bl i =>
  cases rx
  cases y with
  | non=>cases ry;exact PySem.EqNone.eq_bool_none (Br I q (by simp))
  | bl j=>cases ry;exact eq_bool (Br I q Zfx)
  | str j=>obtain ⟨t',rfl⟩:=ry;exact PySem.EqMixed.eq_bool_str (Br I q (by simp))
  | _=>exact absurd (show false=true from hs) Pi
 | int i =>
  obtain ⟨t,rfl⟩:=rx
  cases y with
  | non=>cases ry;exact PySem.EqNone.eq_int_none (Br I q (by simp))
  | int j=>obtain ⟨t',rfl⟩:=ry;exact eq_int (Br I q Zew)
  | str j=>obtain ⟨t',rfl⟩:=ry;exact PySem.EqMixed.eq_int_str (Br I q (by simp))
  | _=>exact absurd (show false=true from hs) Pi
 | str i =>
  obtain ⟨t,rfl⟩:=rx
  cases y with
  | non=>cases ry;exact PySem.EqNone.eq_str_none (Br I q (by simp))
  | bl j=>cases ry;exact PySem.EqMixed.eq_str_bool (Br I q (by simp))
  | int j=>obtain ⟨t',rfl⟩:=ry;exact PySem.EqMixed.eq_str_int (Br I q (by simp))
  | str j=>obtain ⟨t',rfl⟩:=ry;exact eq_str (Br I q Bv)
  | _=>exact absurd (show false=true from hs) Pi
 | byt i =>
  obtain ⟨t,rfl⟩:=rx
  cases y with
  | byt j=>obtain ⟨t',rfl⟩:=ry;exact PySem.W.eq_bytes (Br I q Zd0)
  | _=>exact absurd (show false=true from hs) Pi
 | _=>cases y <;> exact absurd (show false=true from hs) Pi
theorem op_ne:OpR X (compareOp .NotEq) rNe:=by
 intro pins s σ H x y v u Q I rx ry h
 obtain ⟨hs,q⟩:=h
 cases x with
 | non =>
  cases rx
  cases y with
  | non=>cases ry;exact PySem.EqNone.ne_none_none (Br I q (by simp))
  | bl j=>cases ry;exact PySem.EqNone.ne_none_bool (Br I q (by simp))
  | int j=>obtain ⟨t',rfl⟩:=ry;exact PySem.EqNone.ne_none_int (Br I q (by simp))
  | str j=>obtain ⟨t',rfl⟩:=ry;exact PySem.EqNone.ne_none_str (Br I q (by simp))
  | _=>exact absurd (show false=true from hs) Pi
 | bl i =>
  cases rx
  cases y with
  | non=>cases ry;exact PySem.EqNone.ne_bool_none (Br I q (by simp))
  | bl j=>cases ry;exact ne_bool (Br I q (congrArg not Zfx))
  | str j=>obtain ⟨t',rfl⟩:=ry;exact PySem.EqMixed.ne_bool_str (Br I q (by simp))
  | _=>exact absurd (show false=true from hs) Pi
 | int i =>
  obtain ⟨t,rfl⟩:=rx
  cases y with
  | non=>cases ry;exact PySem.EqNone.ne_int_none (Br I q (by simp))
  | int j=>obtain ⟨t',rfl⟩:=ry;exact ne_int (Br I q (congrArg not Zew))
  | str j=>obtain ⟨t',rfl⟩:=ry;exact PySem.EqMixed.ne_int_str (Br I q (by simp))
  | _=>exact absurd (show false=true from hs) Pi
 | str i =>
  obtain ⟨t,rfl⟩:=rx
  cases y with
  | non=>cases ry;exact PySem.EqNone.ne_str_none (Br I q (by simp))
  | bl j=>cases ry;exact PySem.EqMixed.ne_str_bool (Br I q (by simp))
  | int j=>obtain ⟨t',rfl⟩:=ry;exact PySem.EqMixed.ne_str_int (Br I q (by simp))
  | str j=>obtain ⟨t',rfl⟩:=ry;exact ne_str (Br I q (congrArg not Bv))
  | _=>exact absurd (show false=true from hs) Pi
 | byt i =>
  obtain ⟨t,rfl⟩:=rx
  cases y with
  | byt j=>obtain ⟨t',rfl⟩:=ry;exact PySem.W.ne_bytes (Br I q (congrArg not Zd0))
  | _=>exact absurd (show false=true from hs) Pi
 | _=>cases y <;> exact absurd (show false=true from hs) Pi
theorem op_lt:OpR X (compareOp .Lt) (Ew fun i j=>.bl (decide (i < j))):=Zbt fun _ _ _ _ _ _ _ q=>lt_int q
theorem op_le:OpR X (compareOp .LtE) (Ew fun i j=>.bl (decide (i<=j))):=Zbt fun _ _ _ _ _ _ _ q=>le_int q
theorem G6:OpR X (compareOp .Gt) (Ew fun i j=>.bl (decide (j < i))):=Zbt fun _ _ _ _ _ _ _ q=>gt_int q
theorem Zox:OpR X (compareOp .Lt) (fun x y H Q=>∃ i j,x=.str i/\y=.str j/\Q (.bl (decide (i.cps.toList < j.cps.toList))) H):=by
 intro pins s σ H x y v u Q I rx ry h
 obtain ⟨i,j,rfl,rfl,q⟩:=h
 obtain ⟨t,rfl⟩:=rx
 obtain ⟨t',rfl⟩:=ry
 exact lt_str (Br I q rfl)
theorem Zk9:OpR X (compareOp .In) (fun x y H Q=>∃ i j,x=.str i/\y=.str j/\Q (.bl (!(Builtin.Str.occurrences j i 0 j.length 1).isEmpty)) H):=by
 intro pins s σ H x y v u Q I rx ry h
 obtain ⟨i,j,rfl,rfl,q⟩:=h
 obtain ⟨t,rfl⟩:=rx
 obtain ⟨t',rfl⟩:=ry
 exact in_str (Br I q rfl)
theorem OpR.or {f:Value->Value->Sem Value}{r r':R2}(h:OpR X f r)(h':OpR X f r'):OpR X f (fun x y H Q=>r x y H Q\/r' x y H Q):=by
 intro pins s σ H x y v u Q I rx ry q
 rcases q with q | q
 ·exact h pins s σ H x y v u Q I rx ry q
 ·exact h' pins s σ H x y v u Q I rx ry q
theorem As (b:Expr){op:CmpOp}(h:op≠.In:=by decide)(h2:op≠.NotIn:=by decide):behindInMarks op b=false:=by
 have e1:(op == CmpOp.In)=false:=by cases op <;> first | rfl | exact absurd rfl h
 have e2:(op == CmpOp.NotIn)=false:=by cases op <;> first | rfl | exact absurd rfl h2
 cases b <;> simp [behindInMarks,e1,e2]
theorem Zkf {op:CmpOp}{r:R2}(ho:OpR X (compareOp op) r)(ha:PE X a ta)(hb:PE X b tb)(hm:behindInMarks op b=false):PE X (.Compare a [op] [b] pos) (Fd r ta tb):=by
 intro pins s σ H Q I h
 exact wpAny_Compare1 (Zaq ha hb I h fun v u s2 x y H2 I2 rx ry q=>ho pins s2 σ H2 x y v u Q I2 rx ry q) hm
noncomputable def N0 (t:TE):TT:=fun σ H Q=>t σ H fun x H'=>∃ k,x=.bl k/\Q k H'
theorem Zlx {op:CmpOp}{r:R2}(ho:OpR X (compareOp op) r)(ha:PE X a ta)(hb:PE X b tb)(hm:behindInMarks op b=false):PT X (.Compare a [op] [b] pos) (N0 (Fd r ta tb)):=by
 intro pins s σ H Q I h
 refine wpAny_isTrue_Compare1 (Ao (ha pins s σ H _ I h) fun v s1 ⟨x,H1,I1,r1,q1⟩=>Ao (hb pins s1 σ H1 _ I1 q1) fun u s2 ⟨y,H2,I2,r2,q2⟩ =>
  Ao (ho pins s2 σ H2 x y v u _ I2 r1 r2 q2) fun c s3 ⟨z,H3,I3,r3,k,e,q3⟩=>?_) hm
 subst e
 cases r3
 exact Ri ⟨H3,I3,q3⟩
noncomputable def Za6 (r r':R2)(ta tb tc:TE):TE:=fun σ H Q=>ta σ H fun x H1=>tb σ H1 fun y H2=>r x y H2 fun z H3=>∃ k,z=.bl k /\
 (if k=true then tc σ H3 fun w' H4=>r' y w' H4 Q else Q (.bl false) H3)
theorem Zm1 {op op':CmpOp}{r r':R2}(ho:OpR X (compareOp op) r)(ho':OpR X (compareOp op') r')(ha:PE X a ta)(hb:PE X b tb)(hc:PE X c tc)
  (hm:lastMarks [op,op'] [b,c]=false:=by with_unfolding_all rfl):PE X (.Compare a [op,op'] [b,c] pos) (Za6 r r' ta tb tc):=by
 intro pins s σ H Q I h
 refine Compare_chain (Ao (ha pins s σ H _ I h) fun v s1 ⟨x,H1,I1,r1,q1⟩=>chain_link (Ao (hb pins s1 σ H1 _ I1 q1) fun u s2 ⟨y,H2,I2,r2,q2⟩ =>
  Ao (ho pins s2 σ H2 x y v u _ I2 r1 r2 q2) fun d s3 ⟨z,H3,I3,r3,k,e,q3⟩=>?_)) hm
 subst e
 cases r3
 refine Ri ?_
 cases k with
 | false=>exact ite_ff ⟨.bl false,H3,I3,rfl,q3⟩
 | true=>exact ite_tt (chain_last (Ao (hc pins s3 σ H3 _ I3 q3) fun w' s4 ⟨z',H4,I4,r4,q4⟩=>ho' pins s4 σ H4 y z' u w' Q I4 r2 r4 q4))
noncomputable def Km (K:O6)(x:V)(H:Hp)(k:Bool):Prop :=
 match x with
 | .non=>k=false
 | .bl b=>k=b
 | .int i=>k=(i != 0)
 | .str y=>y.length<=sizeLine/\k=((y.length:Int) != 0)
 | .byt y=>y.size<=sizeLine/\k=((y.size:Int) != 0)
 | .ref p=>(∃ xs,SqL K H p xs/\k=!xs.isEmpty)\/(∃ xs,SqT K H p xs/\k=!xs.isEmpty)\/∃ kvs,H p=some (.dK kvs)/\k=!kvs.isEmpty
 | _=>False
theorem Zrj {κ:Type}{kvs:List (κ×V)}{vs:List (κ×Value)}(r:KV kvs vs):(!vs.isEmpty)=!kvs.isEmpty:=by
 cases r <;> rfl
theorem Zco {xs:List V}{its:List Value}(r:Vals xs its):(!its.toArray.isEmpty)=!xs.isEmpty:=by
 cases r <;> simp
theorem Ia:(sizeLine:Nat) < 2 ^ 63:=by rw [Vd];decide
theorem Zoe:TruR X (fun x H Q=>∃ k,Km X.K x H k/\Q k H):=by
 intro pins s σ H x v Q I rx h
 obtain ⟨k,e,q⟩:=h
 have hl:=Ia
 have hs:sizeLine=16777216:=Vd
 cases x with
 | non =>
  cases rx
  have e':k=false:=e
  subst e'
  exact truthy_none ⟨H,I,q⟩
 | bl b =>
  cases rx
  have e':k=b:=e
  subst e'
  exact Ri ⟨H,I,q⟩
 | int i =>
  obtain ⟨t,rfl⟩:=rx
  have e':k=(i != 0):=e
  subst e'
  exact PySem.P.truthy_int ⟨H,I,q⟩
 | str y =>
  obtain ⟨t,rfl⟩:=rx
  obtain ⟨hy,e'⟩:y.length<=sizeLine/\k=((y.length:Int) != 0):=e
  subst e'
  exact PySem.P.truthy_str (by omega) ⟨H,I.tok _,q⟩
 | byt y =>
  obtain ⟨t,rfl⟩:=rx
  obtain ⟨hy,e'⟩:y.size<=sizeLine/\k=((y.size:Int) != 0):=e
  subst e'
  exact PySem.W.truthy_bytes (by omega) ⟨H,I.tok _,q⟩
 | ref p =>
  cases rx
  have e':(∃ xs,SqL X.K H p xs/\k=!xs.isEmpty)\/(∃ xs,SqT X.K H p xs/\k=!xs.isEmpty)\/∃ kvs,H p=some (.dK kvs)/\k=!kvs.isEmpty:=e
  rcases e' with ⟨xs,hx,e'⟩ | ⟨xs,hx,e'⟩ | ⟨kvs,hx,e'⟩
  ·subst e'
   obtain ⟨its,r,pl,hz⟩:=I.list hx
   have hlen:=r.length
   exact wpAny_truthy_list pl.isList (by simp only [Pe];omega) ⟨H,I.tok _,by rw [Zco r];exact q⟩
  ·subst e'
   obtain ⟨its,r,pl,hz⟩:=I.tuple hx
   have hlen:=r.length
   exact truthy_tuple pl (by simp only [Pe];omega) ⟨H,I.tok _,by rw [Zco r];exact q⟩
  ·subst e'
   obtain ⟨hz,hS,vs,r,m⟩:kvs.length<=sizeLine/\(p == sysModules)=false/\∃ vs,KV kvs vs/\s.heap.DictOf (Dq X.prog X.w) p vs:=I.hok p _ hx
   have hlen:kvs.length=vs.length:=Uy r
   exact wpAny_truthy_dict hS m (by omega) ⟨H,I.tok _,by rw [Zrj r];exact q⟩
 | _=>exact (show False from e).elim
theorem Zj3 (ha:PE X a ta)(he:∀ whole,isTrue a X.env whole=(do let v <- whole;standAt a.pos;holding [v] (truthy v))) :
  PT X a (fun σ H Q=>ta σ H fun x H'=>∃ k,Km X.K x H' k/\Q k H'):=by
 intro pins s σ H Q I h
 exact isTrue_plain (Ao (ha pins s σ H _ I h) fun v s1 ⟨x,H1,I1,r1,q1⟩=>Zoe pins s1 σ H1 x v Q I1 r1 q1) (he _)
theorem op_add_str:OpR X (binaryOp .Add) (fun x y H Q=>∃ i j,x=.str i/\y=.str j/\i.length+j.length<=sizeLine/\Q (.str (i++j)) H):=by
 intro pins s σ H x y v u Q I rx ry h
 obtain ⟨i,j,rfl,rfl,hz,q⟩:=h
 obtain ⟨t,rfl⟩:=rx
 obtain ⟨t',rfl⟩:=ry
 exact add_str (fun t' tk=>⟨.str (i++j),H,I.tok _,⟨_,rfl⟩,q⟩) hz
theorem Hg {x:V}{us:List Value}(r:Vals [x] us):∃ u,us=[u]/\RelV x u:=by
 cases r with
 | cons r1 r2=>cases r2;exact ⟨_,rfl,r1⟩
theorem Zje {x y:V}{us:List Value}(r:Vals [x,y] us):∃ u w',us=[u,w']/\RelV x u/\RelV y w':=by
 cases r with
 | cons r1 r2 =>
  cases r2 with
  | cons r3 r4=>cases r4;exact ⟨_,_,rfl,r1,r3⟩
theorem Zqz (hc:X.calm=true):Cu X (.builtin "max") (fun xs H Q=>∃ i j,xs=[.int i,.int j]/\Q (.int (if j > i then j else i)) H):=by
 intro pins s σ H xs us Q I r h
 obtain ⟨i,j,rfl,q⟩:=h
 obtain ⟨u,w',rfl,⟨t,rfl⟩,⟨t',rfl⟩⟩:=Zje r
 refine max_two_ints (I.ok.hd hc) fun h' tk k=>⟨_,H,I.kept k,?_,q⟩
 by_cases hj:j > i
 ·rw [if_pos hj,if_pos hj];exact ⟨_,rfl⟩
 ·rw [if_neg hj,if_neg hj];exact ⟨_,rfl⟩
theorem Zny:Cu X (.type "int") (fun xs H Q=>(∃ i,xs=[.int i]/\Q (.int i) H)\/∃ k,xs=[.bl k]/\Q (.int (if k then 1 else 0)) H):=by
 intro pins s σ H xs us Q I r h
 rcases h with ⟨i,rfl,q⟩ | ⟨k,rfl,q⟩
 ·obtain ⟨u,rfl,t,rfl⟩:=Hg r
  exact call_int_int ⟨.int i,H,I,⟨_,rfl⟩,q⟩
 ·obtain ⟨u,rfl,r1⟩:=Hg r
  cases r1
  exact call_int_bool ⟨.int (if k then 1 else 0),H,I.tok _,⟨_,rfl⟩,q⟩
theorem Zme:Cu X (.type "str") (fun xs H Q=>∃ i,xs=[.int i]/\i.natAbs.log2 < 1920/\Q (.str (toString i)) H):=by
 intro pins s σ H xs us Q I r h
 obtain ⟨i,rfl,hz,q⟩:=h
 obtain ⟨u,rfl,t,rfl⟩:=Hg r
 exact PySem.P.str_of_int hz ⟨.str _,H,I.tok _,⟨_,rfl⟩,q⟩
noncomputable def LenV (K:O6)(x:V)(H:Hp)(n:Nat):Prop :=
 match x with
 | .str y=>y.length<=sizeLine/\n=y.length
 | .byt y=>y.size<=sizeLine/\n=y.size
 | .ref p=>(∃ xs,SqL K H p xs/\n=xs.length)\/∃ xs,SqT K H p xs/\n=xs.length
 | _=>False
theorem Zm0:Cu X (.builtin "len") (fun xs H Q=>∃ x n,xs=[x]/\LenV X.K x H n/\Q (.int n) H):=by
 intro pins s σ H xs us Q I r h
 obtain ⟨x,n,rfl,e,q⟩:=h
 obtain ⟨u,rfl,rx⟩:=Hg r
 have hl:=Ia
 have hs:sizeLine=16777216:=Vd
 cases x with
 | str y =>
  obtain ⟨t,rfl⟩:=rx
  obtain ⟨hy,e'⟩:y.length<=sizeLine/\n=y.length:=e
  subst e'
  exact len_str (by omega) ⟨.int _,H,I.tok _,⟨_,rfl⟩,q⟩
 | byt y =>
  obtain ⟨t,rfl⟩:=rx
  obtain ⟨hy,e'⟩:y.size<=sizeLine/\n=y.size:=e
  subst e'
  exact PySem.W.len_bytes (by omega) ⟨.int _,H,I.tok _,⟨_,rfl⟩,q⟩
 | ref p =>
  cases rx
  have e':(∃ xs,SqL X.K H p xs/\n=xs.length)\/∃ xs,SqT X.K H p xs/\n=xs.length:=e
  rcases e' with ⟨xs,hx,e'⟩ | ⟨xs,hx,e'⟩
  ·subst e'
   obtain ⟨its,r',pl,hz⟩:=I.list hx
   have hlen:=r'.length
   exact Calls.call_len_list pl.isList (by simp only [Pe];omega) ⟨.int xs.length,H,I.tok _,⟨_,by simp only [Pe];rw [hlen]⟩,q⟩
  ·subst e'
   obtain ⟨its,r',pl,hz⟩:=I.tuple hx
   have hlen:=r'.length
   exact len_tuple pl (by simp only [Pe];omega) ⟨.int xs.length,H,I.tok _,⟨_,by simp only [Pe];rw [hlen]⟩,q⟩
 | _=>exact (show False from e).elim
end
structure ObjM (h:Heap)(x dx C:Addr)(mA:Str->Option Value):Prop where
 obj:h.get? x=some (Rm C dx)
 ns:h.Ns1 dx mA
 ne:dx≠x
theorem Zig {h:Heap}{dx:Addr}{mA:Str->Option Value}(n:h.Ns1 dx mA):∃ od,h.get? dx=some od/\∀ name,Uw name od=some (mA name):=by
 obtain ⟨o,es,ep,ho,hd,hk,_,hm⟩:=n
 refine ⟨o,ho,fun name=>?_⟩
 have e:=hm name
 unfold nsFind findBy at e
 rw [<- Array.find?_toList] at e
 unfold Uw
 rw [hd]
 dsimp only
 split
 ·rename_i y q
  rw [q] at e
  exact congrArg some e
 ·rename_i q
  rw [q] at e
  have a:es.toList.any (·.refKey)=false:=by
   rw [List.any_eq_false]
   intro y hy
   obtain ⟨z,t,hkey⟩:=hk y (Array.mem_toList_iff.mp hy)
   simp [DictEntry.refKey,hkey]
  have a':¬ es.toList.any (·.refKey)=true:=by rw [a];exact Pi
  rw [if_neg a']
  exact congrArg some e
theorem ObjM.look {h:Heap}{x dx C:Addr}{mA:Str->Option Value}(I:ObjM h x dx C mA):∃ od,PySem.W.InstAt h x (Rm C dx) C (some od)/\∀ name,Uw name od=some (mA name) :=
 let ⟨od,ho,hl⟩:=Zig I.ns
 ⟨od,⟨I.obj,rfl,rfl,ho⟩,hl⟩
section
variable {prog:Program}{w:World}{A:Around}{E:Value->Shared->Prop}{s:Shared}{K:O6}{x dx C f:Addr}{mA:Str->Option Value}{name:Str}{v:Value}
theorem Zh9 {expr:Bool}{Q:Value->Shared->Prop}(X:K.In s.heap)(I:ObjM s.heap x dx C mA)(hg:S6 K C name=true)(hh:Uh K C=true)
  (ha:P7 K (.ref C) name=some none) (hv:mA name=some v) (hv':PySem.W.handedIn v=true) (h:Q v { s with toks:=s.toks+1 }) :
  wpAny (model prog w) A (getAttr (.ref x) name expr) Q E s:=by
 obtain ⟨od,J,hl⟩:=I.look
 exact PySem.W.get_value X J (Vp hg).1 (PySem.W.findObj_own hh ha rfl (by rw [hl,hv])) hv' h
theorem Zmx {pl:Sem Bool}{Q:Value×List Value->Shared->Prop}(X:K.In s.heap)(I:ObjM s.heap x dx C mA)(hg:S6 K C name=true)
  (hf:P7 K (.ref C) name=some (some (.ref f))) (ht:U5 K (.ref f)=true) (hv:mA name=none) (h:Q (.ref f,[.ref x]) s) :
  wpAny (model prog w) A (getMethod (.ref x) name pl) Q E s:=by
 obtain ⟨od,J,hl⟩:=I.look
 exact PySem.W.method_fn X J (Vp hg).1 (Vp hg).2 hf (beq_iff_eq.mp ht) (by show (Uw name od).map (·.isSome)=some false;rw [hl,hv];rfl) h
theorem Zpv {ns:List Str}{Q:Unit->Shared->Prop}(X:K.In s.heap)(I:ObjM s.heap x dx C mA)
  (hs:P7 K (.ref C) "__setattr__" = some (some (.builtin "object.__setattr__"))) (hp:Vs K C=true) (ht:V1 K C name=some none) (hh:Uh K C=true)
  (hw:U3 mA ns) (hsz:ns.length<=sizeLine)
  (h:∀ h',ObjM h' x dx C (fun y=>if y=name then some v else mA y)->Pp dx s.heap h'->Q () { s with heap:=h',toks:=s.toks+2 }) :
  wpAny (model prog w) A (setAttr (.ref x) name v) Q E s:=by
 obtain ⟨od,J,hl⟩:=I.look
 refine PySem.W.set_plain X J hs (PySem.W.osa_open (s:={ s with toks:=s.toks+1 }) (r:=none) X J hp ht fun b=>?_)
 obtain ⟨cd,hc,hd'⟩:=PySem.W.any_some hh
 have hx:s.heap.get? x=some ⟨.ref C,some dx,.plain,#[]⟩:=I.obj
 refine O7 (O8 (O7 (O7 (wpAny_loadPart hx (O7 (Te.here (s:={ s with toks:=s.toks+1 }) (PySem.W.looks_clsIn X hc) ?_))))))
 rw [hd']
 refine O8 (a:=some dx) (O7 (O8 (O7 ?_)))
 refine wpAny_nsSet1 (s:={ s with toks:=s.toks+1 }) I.ns fun h' hn2 hs2=>?_
 obtain ⟨oD,esD,epD,hoD,hdD,hcD⟩:=hn2.count (U3.cons name v hw)
 refine O7 (wpAny_lookBehind hoD (by rw [hdD];exact pastItsLine_dict (P8 hcD (by rw [Qn];omega))) ?_)
 exact O8 (h _ ⟨(hs2.2 _ (Pk I.ne)).trans I.obj,hn2,I.ne⟩ hs2)
theorem Zmj {R:Result->Shared->Prop}{vs:List Value}{kw:List (Str×Value)}(X:K.In s.heap)(hm:V2 K C=true)
  (hi:P7 K (.ref C) "__init__" = some (some (.ref f))) (hf:PySem.W.typeIn K (.ref f)=some (.type "function"))
  (h:codeAny (model prog w) (A.under (.builtin "type.__call__" ⟨.ref C::vs,kw⟩)) (.call (.ref f) ⟨.ref (s.heap.objs.size+1)::vs,kw⟩) (PySem.W.InitBack (s.heap.objs.size+1) R)
   { s with heap:=(s.heap.push Q8).push (Rm C s.heap.objs.size) }) :
  codeAny (model prog w) A (.call (.ref C) ⟨vs,kw⟩) R s:=by
 obtain ⟨hh,g,d,t,os⟩:=s
 exact PySem.W.make_core (PySem.W.makes_of X hm) (PySem.W.looks_findIn X hi) (fun self=>PySem.W.bind_fn X self hf) (.inl rfl) h
end
noncomputable def Ak (f:Str)(v:V):List (Str×V)->List (Str×V)
 | []=>[(f,v)]
 | (g,x)::r=>if g=f then (g,v)::r else (g,x)::Ak f v r
theorem Zez (f g:Str)(v:V):∀ fs:List (Str×V),(Ak f v fs).lookup g=if g=f then some v else fs.lookup g
 | []=>by
  show Rc g [(f,v)]=_
  by_cases h:g=f
  ·have hb:(g == f)=true:=beq_iff_eq.mpr h
   simp only [Rc,hb,if_pos h]
  ·have hb:(g == f)=false:=beq_eq_false_iff_ne.mpr h
   simp only [Rc,hb,if_neg h]
 | (k,x)::r=>by
  have ih:=Zez f g v r
  rw [show Ak f v ((k,x)::r)=(if k=f then (k,v)::r else (k,x)::Ak f v r) from rfl]
  by_cases hk:k=f
  ·rw [if_pos hk]
   by_cases h:g=k
   ·have hb:(g == k)=true:=beq_iff_eq.mpr h
    simp only [Rc,hb,if_pos (h.trans hk)]
   ·have hb:(g == k)=false:=beq_eq_false_iff_ne.mpr h
    simp only [Rc,hb,if_neg (fun e:g=f=>h (e.trans hk.symm))]
  ·rw [if_neg hk]
   by_cases h:g=k
   ·have hb:(g == k)=true:=beq_iff_eq.mpr h
    simp only [Rc,hb,if_neg (fun e:g=f=>hk (h.symm.trans e))]
   ·have hb:(g == k)=false:=beq_eq_false_iff_ne.mpr h
    simp only [Rc,hb]
    exact ih
theorem Zbe (f:Str)(v:V):∀ fs:List (Str×V),f∈(Ak f v fs).map (·.1)/\∀ g,g∈fs.map (·.1)->g∈(Ak f v fs).map (·.1)
 | []=>⟨by simp [Ak],fun g h=>by simp at h⟩
 | (k,x)::r=>by
  obtain ⟨i1,i2⟩:=Zbe f v r
  rw [show Ak f v ((k,x)::r)=(if k=f then (k,v)::r else (k,x)::Ak f v r) from rfl]
  by_cases hk:k=f
  ·rw [if_pos hk]
   subst hk
   exact ⟨by simp,fun g h=>by simpa using h⟩
  ·rw [if_neg hk]
   refine ⟨?_,fun g h=>?_⟩
   ·rw [Qb]
    exact Rh _ i1
   ·rw [Qb] at h ⊢
    rcases Pd.mp h with e | e
    ·exact Pd.mpr (.inl e)
    ·exact Rh _ (i2 g e)
theorem Zfr (f:Str)(v:V):∀ fs:List (Str×V),(Ak f v fs).length<=fs.length+1
 | []=>by simp [Ak]
 | (k,x)::r=>by
  have ih:=Zfr f v r
  rw [show Ak f v ((k,x)::r)=(if k=f then (k,v)::r else (k,x)::Ak f v r) from rfl]
  by_cases hk:k=f
  ·rw [if_pos hk,Qn,Qn];omega
  ·rw [if_neg hk,Qn,Qn];omega
theorem RelO.some_of {v:V}{o:Option Value}(r:RelO (some v) o):∃ u,o=some u/\RelV v u:=by
 cases o with
 | none=>exact (show False from r).elim
 | some u=>exact ⟨u,rfl,r⟩
theorem RelO.none_of {o:Option Value}(r:RelO none o):o=none:=by
 cases o with
 | none=>rfl
 | some u=>exact (show False from r).elim
theorem Zjc {v:V}{u:Value}(r:RelV v u):PySem.W.handedIn u=true:=by
 cases v with
 | non=>cases (show u=Value.none from r);rfl
 | bl b=>cases (show u=Value.bool b from r);rfl
 | int i=>obtain ⟨t,e⟩:=(show ∃ t,u=Value.int i t from r);cases e;rfl
 | str x=>obtain ⟨t,e⟩:=(show ∃ t,u=Value.str x t from r);cases e;rfl
 | byt b=>obtain ⟨t,e⟩:=(show ∃ t,u=Value.bytes b t from r);cases e;rfl
 | flt b=>obtain ⟨t,e⟩:=(show ∃ t,u=Value.float b t from r);cases e;rfl
 | ref a=>cases (show u=Value.ref a from r);rfl
 | ty n=>cases (show u=Value.type n from r);rfl
section
variable {P:Program}{w:World}{H H':Hp}{h h':Heap}{a C dx:Addr}{fs fs':List (Str×V)}
theorem Mb (hok:HOk P w H h)(e:H a=some (.ins C dx fs)):∃ mA,ObjM h a dx C mA/\(∀ f,RelO (fs.lookup f) (mA f))/\U3 mA (fs.map (·.1))/\fs.length<=1000/\H dx=some (.own a):=by
 obtain ⟨d,z,ne,ob,mA,n,r,q⟩:=(show ObjOk P w H h a (.ins C dx fs) from hok a _ e)
 exact ⟨mA,⟨ob,n,ne⟩,r,q,z,d⟩
end
structure Cls (K:O6)(C:Addr):Prop where
 pg:S6 K C Str.empty=true
 hd:Uh K C=true
 po:Vs K C=true
 sa:P7 K (.ref C) "__setattr__" = some (some (.builtin "object.__setattr__"))
theorem Cls.get {K:O6}{C:Addr}(c:Cls K C)(f:Str):S6 K C f=true:=c.pg
noncomputable def NoAttr (K:O6)(C:Addr)(f:Str):Prop:=P7 K (.ref C) f=some none
theorem NoAttr.taker {K:O6}{C:Addr}{f:Str}(n:NoAttr K C f):V1 K C f=some none:=by
 unfold V1
 rw [show P7 K (.ref C) f=some none from n]
 rfl
structure Meth (K:O6)(C:Addr)(m:Str)(f:Addr):Prop where
 at_:P7 K (.ref C) m=some (some (.ref f))
 fn:U5 K (.ref f)=true
 kp:Q3 K (.ref f)=true
section
variable {X:Cx}{pins:List (Addr×Obj)}{σ:St}{H:Hp}{s:Shared}{a C dx:Addr}{fs:List (Str×V)}{f:Str}{v:V}{A:Around}{E:Value->Shared->Prop}
theorem Zd1 {b:Bool}{Q:Value->Shared->Prop}(I:Inv X pins σ H s)(e:H a=some (.ins C dx fs))(c:Cls X.K C)(n:NoAttr X.K C f)(l:fs.lookup f=some v)
  (h:∀ u s',Inv X pins σ H s'->RelV v u->Q u s'):wpAny (model X.prog X.w) A (getAttr (.ref a) f b) Q E s:=by
 obtain ⟨mA,O,r,_,_,_⟩:=Mb I.hok e
 obtain ⟨u,hu,ru⟩:=RelO.some_of (v:=v) (o:=mA f) (by rw [<- l];exact r f)
 exact Zh9 I.kIn O (c.get f) c.hd n hu (Zjc ru) (h u _ (I.tok _) ru)
theorem Zee {m:Str}{g:Addr}{pl:Sem Bool}{Q:Value×List Value->Shared->Prop}(I:Inv X pins σ H s)(e:H a=some (.ins C dx fs))(c:Cls X.K C)(k:Meth X.K C m g)(l:fs.lookup m=none)
  (h:Q (.ref g,[.ref a]) s):wpAny (model X.prog X.w) A (getMethod (.ref a) m pl) Q E s:=by
 obtain ⟨mA,O,r,_,_,_⟩:=Mb I.hok e
 have hn:mA m=none:=RelO.none_of (by rw [<- l];exact r m)
 exact Zmx I.kIn O (c.get m) k.at_ k.fn hn h
theorem Ze7 {y:V}{u:Value}{Q:Unit->Shared->Prop}(I:Inv X pins σ H s)(e:H a=some (.ins C dx fs))(c:Cls X.K C)(n:NoAttr X.K C f)(hl:fs.length < 1000)(ry:RelV y u)
  (h:∀ s',Inv X pins σ (upd H a (.ins C dx (Ak f y fs))) s'->Q () s'):wpAny (model X.prog X.w) A (setAttr (.ref a) f u) Q E s:=by
 obtain ⟨mA,O,r,wi,_,ho⟩:=Mb I.hok e
 have hz:(fs.map (·.1)).length<=sizeLine:=by rw [Ph,Vd];omega
 refine Zpv I.kIn O c.sa c.po n.taker c.hd wi hz fun h' O' sb=>h _ ?_
 have hd:∃ o,h'.get? dx=some o:=let ⟨o,_,_,e',_⟩:=O'.ns;⟨o,e'⟩
 refine I.write (x:=a) (e:=dx) (by rw [e];exact True.intro) (.inr ho) (fun b q hb z=>(sb.2 b hb).trans z) hd ?_
 refine ⟨by rw [Ai O.ne];exact ho,?_,O.ne,O'.obj,_,O'.ns,fun g=>?_,fun g hg=>?_⟩
 ·have:=Zfr f y fs;omega
 ·show RelO ((Ak f y fs).lookup g) (if g=f then some u else mA g)
  rw [Zez]
  by_cases q:g=f
  ·rw [if_pos q,if_pos q];exact ry
  ·rw [if_neg q,if_neg q];exact r g
 ·by_cases q:g=f
  ·rw [q];exact (Zbe f y fs).1
  ·refine (Zbe f y fs).2 g (wi g fun z=>hg ?_)
   show (if g=f then some u else mA g)=none
   rw [if_neg q];exact z
theorem Inv.made (I:Inv X pins σ H s):Inv X pins σ (upd (upd H s.heap.objs.size (.own (s.heap.objs.size+1))) (s.heap.objs.size+1) (.ins C s.heap.objs.size []))
  { s with heap:=(s.heap.push Q8).push (Rm C s.heap.objs.size) }:=by
 have e1:(s.heap.push Q8).get? s.heap.objs.size=some Q8:=Po s.heap rfl
 have e2:((s.heap.push Q8).push (Rm C s.heap.objs.size)).get? (s.heap.objs.size+1)=some (Rm C s.heap.objs.size):=by
  have:=Po (s.heap.push Q8) (o:=Rm C s.heap.objs.size) rfl
  rwa [Qf] at this
 have e3:(s.heap.push Q8).Ns s.heap.objs.size (fun _=>none):=⟨Q8,#[],_,e1,rfl,(fun e he=>absurd he (by simp)),fun _=>rfl⟩
 have I1:=I.laid (a:=s.heap.objs.size) (o:=.own (s.heap.objs.size+1)) (h':=s.heap.push Q8) (t':=s.toks) (fun b u q=>Pc _ q) (O9 _) ⟨_,e1⟩
 refine I1.laid (a:=s.heap.objs.size+1) (o:=.ins C s.heap.objs.size []) (t':=s.toks) (fun b u q=>Pc _ q) (Nat.le_of_eq (Qf _ _)) ?_
 have ne:s.heap.objs.size≠s.heap.objs.size+1:=Pn (Ul _)
 refine ⟨by rw [Ai ne,Ad],Qh _,ne,e2,fun _=>none,(Heap.Ns1.of_empty e3).at fun o q=>Pc _ q,fun _=>True.intro,fun y hy=>absurd rfl hy⟩
theorem Zg8 {prog:Program}{w:World}{env:Env}{e:Expr}{f:Str}{pos:Pos}{s:Shared}{Q:Value->Shared->Prop}(hb:attributeBase e f env (eval e env)=eval e env)
  (h:wpAny (model prog w) A (eval e env) (fun o s₁=>wpAny (model prog w) A (getAttr o f true) Q E s₁) E s):wpAny (model prog w) A (eval (.Attribute e f pos) env) Q E s :=
 Attribute_any_ h (by rw [arm_eval_Attribute,hb])
end
noncomputable def Ol (K:O6)(ta:TE)(f:Str):TE:=fun σ H Q=>ta σ H fun x H1=>∃ a C dx fs v,x=.ref a/\H1 a=some (.ins C dx fs)/\Cls K C/\NoAttr K C f/\fs.lookup f=some v/\Q v H1
noncomputable def Ly (K:O6)(ta tv:TE)(f:Str):TS:=fun D σ H=>tv σ H fun y H1=>ta σ H1 fun x H2=>∃ a C dx fs,x=.ref a/\H2 a=some (.ins C dx fs)/\Cls K C/\NoAttr K C f/\fs.length < 1000 /\
 D.nx σ (upd H2 a (.ins C dx (Ak f y fs)))
noncomputable def Za9 (X:Cx)(op:Operator)(rd:V->V->Hp->VK->Prop):Prop :=
 ∀(pins:List (Addr×Obj))(s:Shared)(σ:St)(H:Hp)(x y:V)(u v:Value)(Q:VK),Inv X pins σ H s->RelV x u->RelV y v->rd x y H Q->wpAny (model X.prog X.w) X.A (inplaceOp op u v) (EP X pins σ Q) X.xe s
noncomputable def Zcn (K:O6)(ta tv:TE)(rd:V->V->Hp->VK->Prop)(f:Str):TS:=fun D σ H=>ta σ H fun x H1=>∃ a C dx fs v,x=.ref a/\H1 a=some (.ins C dx fs)/\Cls K C/\NoAttr K C f/\fs.lookup f=some v /\
 tv σ H1 fun y H2=>rd v y H2 fun z H3=>∃ dx' fs',H3 a=some (.ins C dx' fs')/\fs'.length < 1000/\D.nx σ (upd H3 a (.ins C dx' (Ak f z fs')))
section
variable {X:Cx}{o e value:Expr}{f:Str}{pos pos' tpos:Pos}{ta tv:TE}
theorem Zlk (he:PE X e ta)(hb:attributeBase e f X.env (eval e X.env)=eval e X.env):PE X (.Attribute e f pos) (Ol X.K ta f):=by
 intro pins s σ H Q I h
 refine Zg8 hb (Ao (he pins s σ H _ I h) fun u s1 zq=>?_)
 obtain ⟨x,H1,I1,rx,a,C,dx,fs,v,ex,ea,c,n,l,q⟩:=zq
 subst ex
 obtain rfl:u=Value.ref a:=rx
 exact Zd1 I1 ea c n l fun u' s2 I2 ru=>⟨v,H1,I2,ru,q⟩
theorem Zjg (ha:PE X o ta)(hv:PE X value tv)(hs:swapsWith value (some (.Attribute o f pos')) pos.line X.env=pure false):PS X (.Assign [.Attribute o f pos'] value pos) (Ly X.K ta tv f):=by
 intro pins s σ H D I h
 refine plainObj_wpAny_Assign_Attribute (Ao (hv pins s σ H _ I h) fun u s1 zq=>?_) hs
 obtain ⟨y,H1,I1,ry,q⟩:=zq
 refine Ao (ha pins s1 σ H1 _ I1 q) fun ov s2 zq=>?_
 obtain ⟨x,H2,I2,rx,a,C,dx,fs,ex,ea,c,n,l,q2⟩:=zq
 subst ex
 obtain rfl:ov=Value.ref a:=rx
 exact Ze7 I2 ea c n l ry fun s3 I3=>⟨σ,_,I3,q2⟩
theorem Zng {op:Operator}{rd:V->V->Hp->VK->Prop}(ha:PE X o ta)(hv:PE X value tv)(hop:Za9 X op rd):PS X (.AugAssign (.Attribute o f tpos) op value pos) (Zcn X.K ta tv rd f):=by
 intro pins s σ H D I h
 refine wpAny_AugAssign_AttributeAny (Ao (ha pins s σ H _ I h) fun ov s1 zq=>?_)
 obtain ⟨x,H1,I1,rx,a,C,dx,fs,v,ex,ea,c,n,l,q⟩:=zq
 subst ex
 obtain rfl:ov=Value.ref a:=rx
 refine Zd1 I1 ea c n l fun u s2 I2 ru=>Ao (hv pins s2 σ H1 _ I2 q) fun w3 s3 zq=>?_
 obtain ⟨y,H2,I3,ry,q3⟩:=zq
 refine Ao (hop pins s3 σ H2 v y u w3 _ I3 ru ry q3) fun w4 s4 zq=>?_
 obtain ⟨z,H3,I4,rz,dx',fs',ea',l',q4⟩:=zq
 exact Ze7 I4 ea' c n l' rz fun s5 I5=>⟨σ,_,I5,q4⟩
noncomputable def rAdd:V->V->Hp->VK->Prop:=fun x y H Q=>∃ i j,x=.int i/\y=.int j/\Q (.int (i+j)) H
theorem Zfj:Za9 X .Add rAdd:=by
 rintro pins s σ H x y u v Q I rx ry ⟨i,j,rfl,rfl,q⟩
 obtain ⟨t,rfl⟩:=(show ∃ t,u=Value.int i t from rx)
 obtain ⟨t',rfl⟩:=(show ∃ t',v=Value.int j t' from ry)
 exact PyProof.Rows.iadd_int ⟨.int (i+j),H,I.tok _,⟨_,rfl⟩,q⟩
end
section
variable {X:Cx}{pins:List (Addr×Obj)}{σ:St}{H:Hp}{s:Shared}{A:Around}{E:Value->Shared->Prop}{Q:Value->Shared->Prop}{c:Value}{b:Bool}
inductive Dv (K:O6)(H:Hp):V->Value->Prop where
 | non:Dv K H .non (.type "NoneType")
 | bl (x:Bool):Dv K H (.bl x) (.type "bool")
 | int (i:Int):Dv K H (.int i) (.type "int")
 | str (x:Str):Dv K H (.str x) (.type "str")
 | flt (x:UInt64):Dv K H (.flt x) (.type "float")
 | lst {a:Addr} {xs:List V} (e:H a=some (.lst xs)):Dv K H (.ref a) (.type "list")
 | frz {a:Addr} {o:Obj} {xs:List V} (e:H a=some (.frz o (.lst xs))):Dv K H (.ref a) (.type "list")
 | tup {a:Addr} {xs:List V} (e:H a=some (.tup xs)):Dv K H (.ref a) (.type "tuple")
 | dK {a:Addr} {kvs:List (Aq×V)} (e:H a=some (.dK kvs)):Dv K H (.ref a) (.type "dict")
 | dT {a:Addr} {kvs:List (List Aq×V)} (e:H a=some (.dT kvs)):Dv K H (.ref a) (.type "dict")
 | ins {a C dx:Addr} {fs:List (Str×V)} (e:H a=some (.ins C dx fs)) (cl:Cls K C) (ha:P7 K (.ref C) "__class__" = some (some (.builtin "object.__class__")))
   (hn:PySem.W.specialIn K (.builtin "object.__class__") "__get__" = some (some (.builtin "getset_descriptor.__get__"))) (htk:PySem.W.takesIn K (.builtin "object.__class__")=some true)
   (hm:PySem.W.mroIn K C (.type "object")=some true):Dv K H (.ref a) (.ref C)
theorem Zlr {x:V}{u t:Value}(I:Inv X pins σ H s)(rx:RelV x u)(ty:Dv X.K H x t)(e:Tc X.K t c=some b)(h:∀ tk,Q (.bool b) { s with toks:=tk }) :
  wpAny (model X.prog X.w) A (call (.builtin "isinstance") [u,c]) Q E s:=by
 cases ty with
 | non=>cases (show u=Value.none from rx);exact Qp PySem.W.kitx_none I.kIn True.intro e (fun z=>nomatch z) h
 | bl y=>cases (show u=Value.bool y from rx);exact Qp PySem.W.kitx_bool I.kIn True.intro e (fun z=>nomatch z) h
 | int i=>obtain ⟨t,q⟩:=(show ∃ t,u=Value.int i t from rx);cases q;exact Qp PySem.W.kitx_int I.kIn True.intro e (fun z=>nomatch z) h
 | str y=>obtain ⟨t,q⟩:=(show ∃ t,u=Value.str y t from rx);cases q;exact Qp PySem.W.kitx_str I.kIn True.intro e (fun z=>nomatch z) h
 | flt y=>obtain ⟨t,q⟩:=(show ∃ t,u=Value.float y t from rx);cases q;exact Qp PySem.W.kitx_float I.kIn True.intro e (fun z=>nomatch z) h
 | @lst a xs ea =>
  cases (show u=Value.ref a from rx)
  obtain ⟨_,_,n,_,h1⟩:=(show ObjOk X.prog X.w H s.heap a (.lst xs) from I.hok a _ ea)
  exact Qp Vt I.kIn ⟨_,h1,rfl⟩ e (fun z=>nomatch z) h
 | @frz a ob xs ea =>
  cases (show u=Value.ref a from rx)
  obtain ⟨_,_,_,n,_,h1⟩:=(show ObjOk X.prog X.w H s.heap a (.frz ob (.lst xs)) from I.hok a _ ea)
  exact Qp Vt I.kIn ⟨_,h1,rfl⟩ e (fun z=>nomatch z) h
 | @tup a xs ea =>
  cases (show u=Value.ref a from rx)
  obtain ⟨_,_,_,p⟩:=(show ObjOk X.prog X.w H s.heap a (.tup xs) from I.hok a _ ea)
  obtain ⟨o,h1,h2,_⟩:=p
  exact Qp PySem.W.kitx_tuple I.kIn ⟨o,h1,h2⟩ e (fun z=>nomatch z) h
 | @dK a kvs ea =>
  cases (show u=Value.ref a from rx)
  obtain ⟨_,_,vs,_,p⟩:=(show ObjOk X.prog X.w H s.heap a (.dK kvs) from I.hok a _ ea)
  obtain ⟨o,es,ep,h1,h2,_⟩:=p
  exact Qp PySem.W.kitx_dict I.kIn ⟨o,h1,h2.1⟩ e (fun z=>nomatch z) h
 | @dT a kvs ea =>
  cases (show u=Value.ref a from rx)
  obtain ⟨_,_,xs,_,o,es,ep,h1,h2,_⟩:=(show ObjOk X.prog X.w H s.heap a (.dT kvs) from I.hok a _ ea)
  exact Qp PySem.W.kitx_dict I.kIn ⟨o,h1,h2.1⟩ e (fun z=>nomatch z) h
 | @ins a C dx fs ea cl ha hn htk hm =>
  cases (show u=Value.ref a from rx)
  obtain ⟨mA,O,_⟩:=Mb I.hok ea
  obtain ⟨od,J,_⟩:=O.look
  exact Qp (PySem.W.kitx_own (cl.get _) cl.hd ha hn htk hm) I.kIn J e (fun z=>nomatch z) h
end
structure Room (k:Nat)(A:Around):Prop where
 hd:A.handled=none
 dp:A.depth+3 * k+5 < recursionLimit
 un:A.units+16 * k+200 < cLine
theorem Room.mono {j k:Nat}{A:Around}(r:Room k A)(h:j<=k):Room j A:=⟨r.hd,by have:=r.dp;omega,by have:=r.un;omega⟩
theorem Room.deeper {k:Nat}{A:Around}(r:Room (k+1) A)(env:Env):Room k (A.deeper env) :=
 ⟨r.hd,by have:=r.dp;show A.depth+1+3 * k+5 < _;omega,by have:=r.un;show A.units+3+16 * k+200 < _;omega⟩
theorem Zra {A:Around}{C:Addr}{us:List Value}{kw:List (Str×Value)}:(A.under (.builtin "type.__call__" ⟨.ref C::us,kw⟩)).depth=A.depth+1:=by
 first | rfl | simp [Around.under,Code.weight,Code.isCreation,Code.isGuard,Code.isCaller,Code.frames,Code.isFrame,guardIds]
theorem Znw {A:Around}{C:Addr}{us:List Value}{kw:List (Str×Value)}:(A.under (.builtin "type.__call__" ⟨.ref C::us,kw⟩)).units=A.units+1:=by
 first | rfl | simp [Around.under,Code.cUnits,Code.frames,Code.isFrame]
theorem Room.make {k:Nat}{A:Around}(r:Room (k+1) A)(C:Addr)(us:List Value)(kw:List (Str×Value)):Room k (A.under (.builtin "type.__call__" ⟨.ref C::us,kw⟩)) :=
 ⟨r.hd,by have:=r.dp;rw [Zra];omega,by have:=r.un;rw [Znw];omega⟩
theorem Room.depth {k:Nat}{A:Around}(r:Room k A):A.depth < recursionLimit:=by have:=r.dp;omega
noncomputable def Jv:TA:=fun _ H Q=>Q [] H
noncomputable def Zba (ta:TE)(tr:TA):TA:=fun σ H Q=>ta σ H fun x H1=>tr σ H1 fun xs H2=>Q (x::xs) H2
section
variable {X:Cx}{e:Expr}{es:List Expr}{te:TE}{t:TA}{pos:Pos}
theorem Zcg:PA X [] Jv:=fun _ _ _ _ H Q I h=>Vu ⟨[],H,I,.nil,h⟩
theorem Zfb (ha:PE X e te)(hr:PA X es t)(hs:starEach (e::es) X.env=(false,eval e X.env)::starEach es X.env:=by rfl):PA X (e::es) (Zba te t):=by
 intro pos pins s σ H Q I h
 rw [hs]
 show wpAny _ _ (spliced ((false,eval e X.env)::backTo pos (starEach es X.env))) _ _ s
 refine Vq (Ao (ha pins s σ H _ I h) fun u s1 zq=>?_)
 obtain ⟨x,H1,I1,r1,q1⟩:=zq
 exact Ao (hr pos pins s1 σ H1 _ I1 q1) fun us s2 ⟨xs,H2,I2,r2,q2⟩=>⟨x::xs,H2,I2,.cons r1 r2,q2⟩
noncomputable def Zbx (t:TA):TE:=fun σ H Q=>t σ H fun xs H1=>xs.length<=sizeLine/\∀ p,H1 p=none->Q (.ref p) (upd H1 p (.tup xs))
noncomputable def Zac (t:TA):TE:=fun σ H Q=>t σ H fun xs H1=>xs.length<=sizeLine/\∀ p,H1 p=none->Q (.ref p) (upd H1 p (.lst xs))
theorem Zoy {x1}(h:PA X es t):PE X (.Tuple es x1 pos) (Zbx t):=by
 intro pins s σ H Q I hq
 refine wpAny_Tuple_spliced (Ao (h pos pins s σ H _ I hq) fun us s1 ⟨xs,H1,I1,r,z,q⟩=>⟨by rw [<- r.length];exact z,?_⟩)
 have hf:H1 s1.heap.objs.size=none:=I1.hok.fresh (O9 _)
 refine ⟨.ref s1.heap.objs.size,upd H1 s1.heap.objs.size (.tup xs),I1.laid (t':=s1.toks) (fun b u e=>Pc _ e) (O9 _) ?_,rfl,q _ hf⟩
 exact ⟨z,us,r,⟨_,Po _ rfl,rfl,_,rfl⟩⟩
theorem Zp5 (h:PA X es t):PE X (.List es pos) (Zac t):=by
 intro pins s σ H Q I hq
 refine wpAny_List_spliced (Ao (h pos pins s σ H _ I hq) fun us s1 ⟨xs,H1,I1,r,z,q⟩=>⟨by rw [<- r.length];exact z,?_⟩)
 have hf:H1 s1.heap.objs.size=none:=I1.hok.fresh (O9 _)
 refine ⟨.ref s1.heap.objs.size,upd H1 s1.heap.objs.size (.lst xs),I1.laid (t':=s1.toks) (fun b u e=>Pc _ e) (O9 _) ?_,rfl,q _ hf⟩
 exact ⟨z,us,0,r,Po _ rfl⟩
end
noncomputable abbrev Sp:=List V->Hp->VK->XK->Prop
noncomputable abbrev Co:=List Env->Hp->Shared->XK->Value->Shared->Prop
structure Env0 (P:Program)(w:World)(K:O6)(mg:Str->Option Value)(base:Heap)(A:Around)(outer:List Env)(s:Shared)(H:Hp):Prop where
 frames:A.frames=some outer
 mod:Mod K mg base
 bs:∀ b o,base.get? b=some o->s.heap.get? b=some o/\H b=none
 bsz:base.objs.size<=s.heap.objs.size
 funs:s.heap.FunFrames base outer
 frf:∀ b∈Bs outer,H b=none
 hok:HOk P w H s.heap
 bare:AllBare s.gens
noncomputable def CE (outer:List Env)(P:Program)(w:World)(H:Hp)(s:Shared)(Q:VK)(u:Value)(s':Shared):Prop :=
 ∃ v H',s'.os=s.os/\AllBare s'.gens/\Un (Bs outer) [] H H' s.heap s'.heap/\HOk P w H' s'.heap/\RelV v u/\Q v H'
noncomputable def CR (CX:Co)(outer:List Env)(P:Program)(w:World)(H:Hp)(s:Shared)(Q:VK)(E:XK)(r:Result)(s':Shared):Prop :=
 match r with
 | .ok (.ret u)=>CE outer P w H s Q u s'
 | .ok _=>False
 | .error e=>CX outer H s E e s'
structure Az (P:Program)(w:World)(K:O6)(mg:Str->Option Value)(base:Heap)(CX:Co)(k:Nat)(f:Addr)(fd:FuncData)(ps:List Str)(sp:Sp):Prop where
 len:∀ vs H Q E,sp vs H Q E->vs.length=ps.length
 run:∀(A:Around)(outer:List Env)(s:Shared)(H:Hp)(args:Args)(us:List Value)(vs:List V)(Q:VK)(E:XK),Room k A->Env0 P w K mg base A outer s H->BindsTo s fd args (ps.zip us)->Vals vs us->sp vs H Q E ->
  codeAny (model P w) A (.call (.ref f) args) (CR CX outer P w H s Q E) s
theorem Env0.make {P:Program}{w:World}{K:O6}{mg:Str->Option Value}{base:Heap}{A:Around}{outer:List Env}{s:Shared}{H:Hp}(e:Env0 P w K mg base A outer s H)(C:Addr)(us:List Value)(kw:List (Str×Value)) :
  Env0 P w K mg base (A.under (.builtin "type.__call__" ⟨.ref C::us,kw⟩)) outer s H:=⟨by first | exact e.frames | (simpa [Around.under,Code.envs,Code.isFrame,pushEnvs] using e.frames),e.mod,e.bs,e.bsz,e.funs,e.frf,e.hok,e.bare⟩
section
variable {X:Cx}{pins:List (Addr×Obj)}{σ:St}{H:Hp}{s s':Shared}
theorem Inv.env0 (I:Inv X pins σ H s):Env0 X.prog X.w X.K X.mg X.base X.A X.stack s H :=
 ⟨I.ok.frames,I.ok.mod,I.bs,P8 I.ok.bsz I.sz,I.stack,I.stkFree,I.hok,I.bare⟩
theorem Inv.after {Q:VK}{u:Value}(I:Inv X pins σ H s)(h:CE X.stack X.prog X.w H s Q u s'):EP X pins σ Q u s':=by
 obtain ⟨v,H',os,bare,un,hok,r,q⟩:=h
 obtain ⟨hh,g,d,t,os'⟩:=s'
 obtain rfl:os'=s.os:=os
 exact ⟨v,H',I.call (h':=hh) (g':=g) (d':=d) (t':=t) (ch:=[]) un hok bare (fun b z=>absurd z (by simp)),r,q⟩
end
noncomputable def Lx (sp:Sp)(dvs:List V)(E:XK)(t:TA):TE:=fun σ H Q=>t σ H fun vs H1=>sp (vs++dvs) H1 Q E
noncomputable def Binds (K:O6)(fd:FuncData)(ps:List Str)(ds:List Value):Prop :=
 ∀(s:Shared)(us:List Value),K.In s.heap->(us++ds).length=ps.length->BindsTo s fd ⟨us,[]⟩ (ps.zip (us++ds))
theorem Binds.all {K:O6}{fd:FuncData}{ps:List Str}(h:∀ us:List Value,us.length=ps.length->bindArgs fd ⟨us,[]⟩=pure (ps.zip us)):Binds K fd ps []:=fun s us _ hl=>by
 rw [Qe] at hl ⊢
 exact .of_eq (h us hl)
noncomputable def Fv (CX:Co)(X:Cx)(E:XK):Prop:=∀(pins:List (Addr×Obj))(σ:St)(H:Hp)(s:Shared)(e:Value)(s':Shared),Inv X pins σ H s->CX X.stack H s E e s'->X.xe e s'
section
variable {X:Cx}{CX:Co}{k:Nat}{f C:Addr}{fd:FuncData}{ps:List Str}{sp:Sp}{dvs:List V}{ds:List Value}{E:XK}{x m:Str}{p pos apos:Pos}{e o:Expr}{es:List Expr}{ta:TE}{t:TA}
theorem Zby {pins:List (Addr×Obj)}{σ:St}{H:Hp}{s:Shared}{Q:VK}{us:List Value}{vs:List V}(F:Az X.prog X.w X.K X.mg X.base CX k f fd ps sp)(hr:Room k X.A)(hb:Binds X.K fd ps ds)(hd:Vals dvs ds)(hx:Fv CX X E)
  (I:Inv X pins σ H s) (r:Vals vs us) (h:sp (vs++dvs) H Q E):wpAny (model X.prog X.w) X.A (call (.ref f) us) (EP X pins σ Q) X.xe s:=by
 have r2:Vals (vs++dvs) (us++ds):=r.append hd
 have hl:(us++ds).length=ps.length:=by rw [<- r2.length];exact F.len _ _ _ _ h
 refine wpAny_call (Sh (F.run X.A X.stack s H ⟨us,[]⟩ (us++ds) (vs++dvs) Q E hr I.env0 (hb s us I.kIn hl) r2 h) fun r s' hq=>?_)
 cases r with
 | error e=>exact hx pins σ H s e s' I hq
 | ok fl =>
  cases fl with
  | ret u=>exact I.after hq
  | next=>exact P9 hq
  | brk=>exact P9 hq
  | cont=>exact P9 hq
theorem Zom (F:Az X.prog X.w X.K X.mg X.base CX k f fd ps sp)(hr:Room k X.A)(hg:Gl X x)(hm:X.mg x=some (.ref f))(hk:Q3 X.K (.ref f)=true)(hb:Binds X.K fd ps ds)(hd:Vals dvs ds)(hx:Fv CX X E)
  (ha:PA X (e::es) t) (hdb:(x == ("__debug__" : Str))=false:=by decide) (he:starEach (e::es) X.env=(false,eval e X.env)::starEach es X.env:=by rfl) (hpl:(backTo pos (starEach es X.env)).any (·.1)=false:=by rfl) :
  PE X (.Call (.Name x p) (e::es) [] pos) (Lx sp dvs E t):=by
 intro pins s σ H Q I h
 refine Sw (Im I hg hm ?_ hdb)
 refine Uf (h₀:=X.base) I.ok.mod.kin hk (Ao (ha pos pins s σ H _ I h) fun us s1 zq=>?_) he hpl
 obtain ⟨vs,H1,I1,r,q⟩:=zq
 refine ⟨I1.kIn,?_⟩
 exact Zby F hr hb hd hx I1 r q
structure Mk (K:O6)(C f:Addr):Prop where
 makes:V2 K C=true
 init:P7 K (.ref C) "__init__" = some (some (.ref f))
 fn:U5 K (.ref f)=true
 kp:Q3 K (.ref C)=true
theorem Zrf {pins:List (Addr×Obj)}{σ:St}{H:Hp}{s:Shared}{Q:VK}{us:List Value}{vs:List V}(M:Mk X.K C f)(F:Az X.prog X.w X.K X.mg X.base CX k f fd ps sp)(hr:Room (k+1) X.A)(hb:Binds X.K fd ps ds)(hd:Vals dvs ds)
  (hx:Fv CX X E) (I:Inv X pins σ H s) (r:Vals vs us)
  (h:∀ x dx,H x=none->H dx=none->dx≠x->sp (.ref x::(vs++dvs)) (upd (upd H dx (.own x)) x (.ins C dx [])) (fun v H2=>v=.non/\Q (.ref x) H2) E) :
  wpAny (model X.prog X.w) X.A (call (.ref C) us) (EP X pins σ Q) X.xe s:=by
 have hq:=h (s.heap.objs.size+1) s.heap.objs.size (I.hok.fresh (Ve _)) (I.hok.fresh (O9 _)) (Pn (Ul _))
 have I2:=Inv.made (C:=C) I
 have r2:Vals (V.ref (s.heap.objs.size+1)::(vs++dvs)) (Value.ref (s.heap.objs.size+1)::(us++ds)):=.cons rfl (r.append hd)
 have hl:(Value.ref (s.heap.objs.size+1)::us++ds).length=ps.length:=by
  have e:=r2.length
  rw [F.len _ _ _ _ hq] at e
  exact e.symm
 refine wpAny_call (Zmj (f:=f) I.kIn M.makes M.init (beq_iff_eq.mp M.fn) (Sh (F.run _ X.stack _ _ ⟨Value.ref (s.heap.objs.size+1)::us,[]⟩ (Value.ref (s.heap.objs.size+1)::(us++ds)) _ _ E (hr.make C us [])
  (I2.env0.make C us []) (hb _ (Value.ref (s.heap.objs.size+1)::us) I2.kIn hl) r2 hq) fun r s' hq'=>?_))
 cases r with
 | error e=>exact hx pins σ _ _ e s' I2 hq'
 | ok fl =>
  cases fl with
  | ret u =>
   obtain ⟨v,H',I3,rv,ev,q3⟩:=I2.after hq'
   subst ev
   exact ⟨rv,⟨V.ref (s.heap.objs.size+1),H',I3,rfl,q3⟩⟩
  | next=>exact P9 hq'
  | brk=>exact P9 hq'
  | cont=>exact P9 hq'
end
section
variable {X:Cx}{CX:Co}{k:Nat}{f C:Addr}{fd:FuncData}{ps ks:List Str}{sp:Sp}{E:XK}{x m:Str}{p pos apos kpos:Pos}{e o:Expr}{es:List Expr}{kws:List Keyword}{te ta:TE}{t tk:TA}{nm:Option Str}
variable {g:List Value->List Value->List Value}{gV:List V->List V->List V}
end
structure Bl (N P:List Str)(sc:Scope):Prop where
 kind:sc.kind=.function
 co:sc.isCoroutine=false
 gen:sc.isGenerator=false
 nd:N.Nodup
 pre:N.take P.length=P
 par:∀ x∈P,sc.names.lookup x=some .local\/sc.names.lookup x=some .cell
 nofree:∀ y∈sc.names,y.2≠.free
theorem Zdo {kindOf:Str->Option NameKind}{x:Str}:∀{binds:List (Str×Value)}{m:Str->Option Value},(∀ v,(x,v) ∉ binds)->bindL kindOf binds m x=m x
 | [],_,_=>rfl
 | (n,v)::r,m,h=>by
  unfold bindL
  rw [Zdo fun w hw=>h w (Rh _ hw)]
  split
  ·have:x≠n:=by rintro rfl;exact h v Ue
   simp [this]
  ·rfl
theorem Zeo {kindOf:Str->Option NameKind}{x:Str}:∀{binds:List (Str×Value)}{m:Str->Option Value},(∀ v,(x,v) ∉ binds)->bindC kindOf binds m x=m x
 | [],_,_=>rfl
 | (n,v)::r,m,h=>by
  unfold bindC
  rw [Zeo fun w hw=>h w (Rh _ hw)]
  split
  ·rfl
  ·have:x≠n:=by rintro rfl;exact h v Ue
   simp [this]
theorem Zft {kindOf:Str->Option NameKind}{x:Str}{v:Value}:∀{P:List Str}{vs:List Value}{i:Nat}{m:Str->Option Value},P.Nodup->P[i]?=some x->vs[i]?=some v->kindOf x=some .local ->
  bindL kindOf (P.zip vs) m x=some v
 | [],_,_,_,_,h,_,_=>by simp at h
 | _::_,[],_,_,_,_,h,_=>by simp at h
 | p::P,w::vs,0,m,nd,h1,h2,hk=>by
  simp at h1 h2;subst h1;subst h2
  show bindL kindOf ((p,w)::P.zip vs) m p=_
  unfold bindL
  rw [Zdo fun v hv=>(Ur.mp nd).1 (Us hv).1,if_pos hk]
  simp
 | p::P,w::vs,i+1,m,nd,h1,h2,hk=>by
  show bindL kindOf ((p,w)::P.zip vs) m x=_
  unfold bindL
  exact Zft (i:=i) (Ur.mp nd).2 (by simpa using h1) (by simpa using h2) hk
theorem Zcx {kindOf:Str->Option NameKind}{x:Str}{v:Value}:∀{P:List Str}{vs:List Value}{i:Nat}{m:Str->Option Value},P.Nodup->P[i]?=some x->vs[i]?=some v->kindOf x≠some .local ->
  bindC kindOf (P.zip vs) m x=some v
 | [],_,_,_,_,h,_,_=>by simp at h
 | _::_,[],_,_,_,_,h,_=>by simp at h
 | p::P,w::vs,0,m,nd,h1,h2,hk=>by
  simp at h1 h2;subst h1;subst h2
  show bindC kindOf ((p,w)::P.zip vs) m p=_
  unfold bindC
  rw [Zeo fun v hv=>(Ur.mp nd).1 (Us hv).1,if_neg hk]
  simp
 | p::P,w::vs,i+1,m,nd,h1,h2,hk=>by
  show bindC kindOf ((p,w)::P.zip vs) m x=_
  unfold bindC
  exact Zcx (i:=i) (Ur.mp nd).2 (by simpa using h1) (by simpa using h2) hk
noncomputable def E7 (N:List Str)(vs:List V):St:=vs.map some++Qg (N.length - vs.length) none
noncomputable def D8 (CX:Co)(P:Program)(w:World)(K:O6)(mg:Str->Option Value)(base:Heap)(N:List Str)(qual:Str)(scope:Scope)(f:Addr)(cd:Value)(A:Around)(outer:List Env)(s:Shared)(H:Hp)(E:XK):Cx where
 prog:=P
 w:=w
 K:=K
 mg:=mg
 base:=base
 A:=A.deeper (envOfC qual scope s.heap.objs.size f cd)
 N:=N
 s₀:=s
 H₀:=H
 env:=envOfC qual scope s.heap.objs.size f cd
 outer:=outer
 stack:=envOfC qual scope s.heap.objs.size f cd::outer
 ex:=[]
 calm:=true
 fn:=fun _=>true
 pn:=[]
 xe:=fun e s'=>wpAny (model P w) (A.deeper (envOfC qual scope s.heap.objs.size f cd)) (leaving (envOfC qual scope s.heap.objs.size f cd) e) (fun _ s''=>CX outer H s E e s'') (fun e' s''=>CX outer H s E e' s'') s'
theorem Zak {sc:Scope}{n:Nat}{x:Str}(h:sc.names.lookup x=some .cell):∃ c,(cellsFrom n sc.names []).lookup x=some c:=by
 have q:=PySem.W.cellsFrom_some sc.names n [] (.inl h)
 exact R5.mp q
theorem Zqb {CX:Co}{P:Program}{w:World}{K:O6}{mg:Str->Option Value}{base:Heap}{N ps:List Str}{qual:Str}{scope:Scope}{f:Addr}{cd:Value}{A:Around}{outer:List Env}{s s1:Shared}{H:Hp}{E:XK}{us:List Value}{vs:List V}
  (S:Bl N ps scope) (hd:A.handled=none) (e0:Env0 P w K mg base A outer s H) (hl:vs.length=ps.length) (r:Vals vs us)
  (x:InCallC s s.heap.objs.size (bindL (envOfC qual scope s.heap.objs.size f cd).kindOf (ps.zip us) fun _=>none) (cellsFrom (s.heap.objs.size+1) scope.names []) (bindC (envOfC qual scope s.heap.objs.size f cd).kindOf (ps.zip us) fun _=>none) s1) :
  Inv (D8 CX P w K mg base N qual scope f cd A outer s H E) [] (E7 N vs) H s1:=by
 have hpl:ps.length<=N.length:=by have:=congrArg Ti S.pre;rw [Qo] at this;omega
 obtain ⟨h1,tk,rfl,hk⟩:=x.done
 have noA:∀ b:Addr,b ∉ (D8 CX P w K mg base N qual scope f cd A outer s H E).ex:=fun b z=>absurd (show b∈([]:List Addr) from z) (by simp)
 refine ⟨⟨e0.mod,S.kind,rfl,rfl,O9 _,fun y z c h1 h2=>?_,fun y hy=>?_,fun y c _ h=>?_,fun _=>hd,Around.frames_deeper e0.frames,.inr ⟨rfl,rfl⟩,fun b z=>absurd z (noA b),e0.bs,e0.bsz,fun b _ _=>noA b,fun b z=>absurd z (noA b),e0.funs,e0.frf⟩,
  rfl,e0.bare,Un.kept hk,⟨_,x.toInCall.ns,fun i y v h1 h2 h3=>?_⟩,fun y c h=>⟨_,x.cell y c h⟩,e0.hok.fresh (O9 _),fun y c h=>?_,fun p hp=>absurd (show p∈([]:List (Addr×Obj)) from hp) (by simp),e0.hok.kept hk,?_⟩
 ·exact name_of_addr x.apart (Rr h1) (Rr h2)
 ·have hy:scope.names.lookup y=some .cell\/scope.names.lookup y=some .free:=hy
  rcases hy with hy | hy
  ·exact Zak hy
  ·exact absurd rfl (S.nofree _ (Rr hy))
 ·exact U4 (x.above y c (Rr h))
 ·have hi:i < vs.length:=by
   unfold E7 at h2
   by_cases hi:i < vs.length
   ·exact hi
   ·rw [P6 (by simpa using hi)] at h2
    rw [List.getElem?_replicate] at h2
    split at h2 <;> cases h2
  have ha:vs[i]?=some v:=by
   unfold E7 at h2
   rw [Qa (by simpa using hi),Ql] at h2
   cases e:vs[i]? with
   | none=>rw [e] at h2;cases h2
   | some a=>rw [e] at h2;cases h2;rfl
  obtain ⟨u,hu,rv⟩:=r.get ha
  have hp:ps[i]?=some y:=by
   rw [<- S.pre,List.getElem?_take_of_lt (by omega)];exact h1
  have ndP:ps.Nodup:=by rw [<- S.pre];exact S.nd.sublist (List.take_sublist _ _)
  refine ⟨u,rv,?_⟩
  rcases S.par y (Qs hp) with k | k
  ·exact .inl ⟨k,Zft ndP hp hu k⟩
  ·obtain ⟨c,e⟩:=Zak (n:=s.heap.objs.size+1) k
   refine .inr ⟨.inl k,c,e,?_⟩
   have q:=x.cell y c e
   rw [Zcx ndP hp hu (by show scope.names.lookup y≠_;rw [k];decide)] at q
   exact q
 ·exact e0.hok.fresh (U4 (x.above y c (Rr h)))
 ·unfold E7
  show _=N.length
  rw [Pg,Ph,List.length_replicate]
  omega
theorem Zfh {CX:Co}{P:Program}{w:World}{K:O6}{mg:Str->Option Value}{base:Heap}{k:Nat}{f:Addr}{name qual:Str}{params:Arguments}{body:List Stmt}{scope:Scope}{dV kV doc pm cdv ct oc:Value}{an od:Option Addr}
  {osl:Array (Option Value)} {N ps:List Str} {sp:Sp} (lk:K.lookup f=some ⟨oc,od,.func (Rn name qual params body scope dV kV doc pm an cdv ct),osl⟩) (hcd:PySem.W.codeIn K cdv qual=true) (S:Bl N ps scope)
  (len:∀ vs H Q E,sp vs H Q E->vs.length=ps.length)
  (hbody:∀(A:Around)(outer:List Env)(s:Shared)(H:Hp)(vs:List V)(Q:VK)(E:XK),Room k (A.deeper (envOfC qual scope s.heap.objs.size f cdv))->sp vs H Q E ->
   ∃ t,PSs (D8 CX P w K mg base N qual scope f cdv A outer s H E) body t/\t { nx:=fun _ H'=>Q .non H',rt:=Q } (E7 N vs) H) :
  Az P w K mg base CX (k+1) f (Rn name qual params body scope dV kV doc pm an cdv ct) ps sp:=by
 refine ⟨len,fun A outer s H args us vs Q E hr e0 hb r hsp=>?_⟩
 have hl:=len _ _ _ _ hsp
 have KX:K.In s.heap:=e0.mod.kin.keeps fun b o e=>(e0.bs b o e).1
 have lim:s.heap.NoLimit:=e0.mod.nolimit.keeps fun b o e=>(e0.bs b o e).1
 have hkind:∀ y∈ps.zip us,scope.names.lookup y.1=some .local\/(scope.names.lookup y.1=some .cell/\((cellsFrom (s.heap.objs.size+1) scope.names []).lookup y.1).isSome=true):=fun ⟨n,v⟩ hy=>by
  rcases S.par n (Us hy).1 with q | q
  ·exact .inl q
  ·exact .inr ⟨q,PySem.W.cellsFrom_some _ _ _ (.inl q)⟩
 refine codeAny_call_function hr.depth (KX _ _ lk) rfl S.co S.gen rfl (PySem.W.codeRec_of KX hcd) (hb _ _ _ _ ?_)
 refine wpAny_newFunctionEnv_cells S.kind hkind fun env he s1 x=>?_
 subst he
 refine ⟨lim.keeps x.toInCall.keep,codeAny_func ?_⟩
 obtain ⟨t,ht,hq⟩:=hbody A outer s H vs Q E (hr.deeper _) hsp
 have I:Inv (D8 CX P w K mg base N qual scope f cdv A outer s H E) [] (E7 N vs) H s1:=Zqb S hr.hd e0 hl r x
 refine Q5 (ht [] s1 (E7 N vs) H _ I hq) (fun fl s' hs=>?_) fun e s' hs=>hs
 have fin:∀{σ':St}{H':Hp}{v:V}{u:Value},Inv (D8 CX P w K mg base N qual scope f cdv A outer s H E) [] σ' H' s'->RelV v u->Q v H'->CE outer P w H s Q u s' :=
  fun {σ' H' v u} J rv q=>⟨v,H',J.os,J.bare,J.base,J.hok,rv,q⟩
 cases fl with
 | ret u =>
  obtain ⟨v,σ',H',J,rv,q⟩:=hs
  exact fin J rv q
 | next =>
  obtain ⟨σ',H',J,q⟩:=hs
  exact fin (v:=V.non) (u:=Value.none) J rfl q
 | brk =>
  obtain ⟨_,_,_,q⟩:=hs
  exact P9 q
 | cont =>
  obtain ⟨_,_,_,q⟩:=hs
  exact P9 q
section
variable {X:Cx}{x:Str}{p pos:Pos}{e:Expr}{es:List Expr}{t:TA}{id T:String}{r:List V->Hp->VK->Prop}
noncomputable def tCB (r:List V->Hp->VK->Prop)(t:TA):TE:=fun σ H Q=>t σ H fun vs H1=>r vs H1 Q
theorem Zot (hc:Cu X (.builtin id) r)(hg:Gl X x)(hm:X.mg x=none)(hv:bootBuiltins x=some (.builtin id))(ha:PA X (e::es) t)(hn:x ≠ "__name__" := by decide)(hdb:(x == ("__debug__" : Str))=false:=by decide)
  (he:starEach (e::es) X.env=(false,eval e X.env)::starEach es X.env:=by rfl) (hpl:(backTo pos (starEach es X.env)).any (·.1)=false:=by rfl):PE X (.Call (.Name x p) (e::es) [] pos) (tCB r t):=by
 intro pins s σ H Q I h
 refine Sw (Fm I hg hm hv ?_ hn hdb)
 exact PyProof.Rows.callWith_builtin1 (Ao (ha pos pins s σ H _ I h) fun us s1 ⟨vs,H1,I1,r1,q1⟩=>hc pins s1 σ H1 vs us Q I1 r1 q1) he hpl
theorem Znl (hc:Cu X (.type T) r)(hg:Gl X x)(hm:X.mg x=none)(hv:bootBuiltins x=some (.type T))(ha:PA X (e::es) t)(hn:x ≠ "__name__" := by decide)(hdb:(x == ("__debug__" : Str))=false:=by decide)
  (he:starEach (e::es) X.env=(false,eval e X.env)::starEach es X.env:=by rfl) (hpl:(backTo pos (starEach es X.env)).any (·.1)=false:=by rfl):PE X (.Call (.Name x p) (e::es) [] pos) (tCB r t):=by
 intro pins s σ H Q I h
 refine Sw (Fm I hg hm hv ?_ hn hdb)
 exact Rq (Ao (ha pos pins s σ H _ I h) fun us s1 ⟨vs,H1,I1,r1,q1⟩=>hc pins s1 σ H1 vs us Q I1 r1 q1) he hpl
end
end L2
namespace HT
open PySem PyProof.Rows
section
open PySem.SeqAt
open PySem.AutoSeq1 (wpAny_loadPart')
open PySem.MeetsSeq PySem.MeetsSeq2 PySem.MeetsSeq3
end
section
variable {prog:Program}{w:World}{A:Around}{E:Value->Shared->Prop}{s:Shared}
theorem cat_tup {t b:Addr}{vs ws:List Value}{Q:Value->Shared->Prop}(ht:IsTup s.heap t vs.toArray)(hb:IsTup s.heap b ws.toArray)(hv:vs≠[])
  (h1:ws=[]->Q (.ref t) s) (h2:ws≠[]->Q (.ref s.heap.objs.size) { s with heap:=s.heap.push { cls:=.type "tuple",data:=.seq (vs++ws).toArray } })
  (hsz:vs.length+ws.length<=sizeLine):wpAny (model prog w) A (binaryOp .Add (.ref t) (.ref b)) Q E s:=by
 obtain ⟨⟨cls,dd,data,sl⟩,ho,hc,n,hd⟩:=id ht
 obtain ⟨⟨cls2,dd2,data2,sl2⟩,ho2,hc2,n2,hd2⟩:=id hb
 simp only at hc hd hc2 hd2
 subst hc hd hc2 hd2
 have e:vs.toArray++ws.toArray=(vs++ws).toArray:=by simp
 by_cases hw:ws=[]
 ·exact U6 ⟨_,ho,rfl⟩ ⟨_,ho2,rfl⟩ Um Uz T9 Tx (Tu _ _)
   (tuple_addW1 t b vs.toArray ws.toArray n n2 dd dd2 sl sl2 (by simpa using hv) (by simp [hw])) ⟨ho,ho2,h1 hw⟩
 ·refine U6 ⟨_,ho,rfl⟩ ⟨_,ho2,rfl⟩ Um Uz T9 Tx (Tu _ _)
   (tuple_addW2 t b vs.toArray ws.toArray n n2 dd dd2 sl sl2 (by simpa using hv) (by simpa using hw) (by rw [Pe,Pe];exact hsz)) ⟨ho,ho2,?_⟩
  rw [e]
  exact h2 hw
noncomputable def sIx (n d:Nat):Option Int->Nat
 | none=>d
 | some v=>if v < 0 then (v+(n:Int)).toNat else min v.toNat n
theorem sIx_none (n d:Nat):sIx n d none=d:=rfl
theorem sIx_nat (n d k:Nat):sIx n d (some (k:Int))=min k n:=by
 show (if (k:Int) < 0 then ((k:Int)+(n:Int)).toNat else min (k:Int).toNat n)=min k n
 rw [if_neg (by omega),Qm]
theorem Zo8 (n d:Nat)(hd:d<=n)(o:Option Int):sIx n d o<=n:=by
 cases o with
 | none=>exact hd
 | some v =>
  show (if v < 0 then (v+(n:Int)).toNat else min v.toNat n)<=n
  by_cases hv:v < 0
  ·rw [if_pos hv];omega
  ·rw [if_neg hv];exact Nat.min_le_right _ _
theorem Zcm (v:Int)(n d:Nat):(if v < 0 then max (v+(n:Int)) 0 else min v (n:Int))=((sIx n d (some v):Nat):Int):=by
 show (if v < 0 then max (v+(n:Int)) 0 else min v (n:Int))=(((if v < 0 then (v+(n:Int)).toNat else min v.toNat n):Nat):Int)
 by_cases hv:v < 0
 ·simp only [if_pos hv];omega
 ·simp only [if_neg hv];omega
theorem Zrg (lo hi:Option Int)(n:Nat):Vk lo hi 1 (n:Int)=(((sIx n 0 lo:Nat):Int),((sIx n n hi:Nat):Int)):=by
 have h1:¬ ((1:Int) < 0):=by omega
 unfold Vk
 simp only [h1,if_false]
 refine Prod.ext ?_ ?_
 ·cases lo with
  | none=>rfl
  | some v=>exact Zcm v n 0
 ·cases hi with
  | none=>rfl
  | some v=>exact Zcm v n n
theorem Zgj (i j:Nat):Tt (i:Int) (j:Int) 1=j - i:=by
 unfold Tt
 have h1:(1:Int) > 0:=by omega
 simp only [h1,if_true,Int.ediv_one]
 split <;> omega
theorem Zf7 {v:Value}{o:Option Int}{Q:Option Int->Shared->Prop}(p:IsPart v o)(h:Q o s):wpAny (model prog w) A (Builtin.Slice.slicePartIndex v) Q E s:=by
 cases p with
 | none=>exact slicePart_none h
 | int i t=>exact slicePart_int h
theorem Zhw {sl:Addr}{vl vu:Value}{lo hi:Option Int}{n:Nat}{Q:Int×Int×Nat->Shared->Prop}(hs:s.heap.IsSliceOf sl vl vu .none)(pl:IsPart vl lo)(pu:IsPart vu hi)
  (h:Q (((sIx n 0 lo:Nat):Int),1,sIx n n hi - sIx n 0 lo) s):wpAny (model prog w) A (Builtin.Slice.sliceApplied (.ref sl) (pure (n:Int))) Q E s:=by
 obtain ⟨os,hos,hcs,hds⟩:=id hs
 unfold Builtin.Slice.sliceApplied Builtin.Slice.sliceFields
 refine O7 (O7 (Pm hos hds (x:=vl) rfl (O7 (Pm hos hds (x:=vu) rfl (O7 (Pm hos hds (x:=.none) rfl (O8 ?_)))))))
 refine O7 (slicePart_none ?_)
 show wpAny _ _ (if ((1:Int) == 0)=true then _ else _) _ _ s
 rw [if_neg (by decide)]
 refine O7 (Zf7 pl (O7 (Zf7 pu (O7 (O8 ?_)))))
 show wpAny _ _ (match Vk lo hi 1 (n:Int) with | (lo,hi)=>pure (lo,(1:Int),Tt lo hi 1)) _ _ s
 rw [Zrg lo hi n]
 show wpAny _ _ (pure (((sIx n 0 lo:Nat):Int),(1:Int),Tt ((sIx n 0 lo:Nat):Int) ((sIx n n hi:Nat):Int) 1)) _ _ s
 rw [Zgj]
 exact O8 h
theorem Zqr (xs:Array Value)(i k:Nat):((Pw k).filterMap fun (m:Nat)=>xs[((i:Int)+(m:Int) * 1).toNat]?).toArray=((xs.toList.drop i).take k).toArray:=by
 have e:(fun (m:Nat)=>xs[((i:Int)+(m:Int) * 1).toNat]?)=fun m=>xs[i+m]?:=by
  funext m
  have:((i:Int)+(m:Int) * 1).toNat=i+m:=by omega
  rw [this]
 rw [e]
 have:=pick_run xs i k
 rw [List.filterMap_map] at this
 have e2:((fun x=>xs[x]?) ∘ fun x=>i+x)=fun m=>xs[i+m]?:=rfl
 rw [e2] at this
 rw [this]
theorem getItem_tuple_cut {t sl:Addr}{items:Array Value}{vl vu:Value}{lo hi:Option Int}{Q:Value->Shared->Prop}(ht:IsTup s.heap t items)(hs:s.heap.IsSliceOf sl vl vu .none)(pl:IsPart vl lo)(pu:IsPart vu hi)
  (hw:¬ (sIx items.size 0 lo=0/\sIx items.size items.size hi=items.size))
  (h:Q (.ref s.heap.objs.size) { s with heap:=s.heap.push { cls:=.type "tuple",data:=.seq ((items.toList.drop (sIx items.size 0 lo)).take (sIx items.size items.size hi - sIx items.size 0 lo)).toArray } })
  (hsz:items.size<=sizeLine):wpAny (model prog w) A (getItem (.ref t) (.ref sl)) Q E s:=by
 have htake:sizeOk (.seq ((items.toList.drop (sIx items.size 0 lo)).take (sIx items.size items.size hi - sIx items.size 0 lo)).toArray):=by
  show ((items.toList.drop (sIx items.size 0 lo)).take (sIx items.size items.size hi - sIx items.size 0 lo)).toArray.size<=sizeLine
  rw [Pe,Qo,R8,R7]
  omega
 have hj:sIx items.size items.size hi<=items.size:=Zo8 _ _ (O9 _) hi
 obtain ⟨os,hos,hcs,hds⟩:=id hs
 have hTs:s.TypeIs (.ref sl) "slice" := ⟨os,hos,hcs⟩
 unfold getItem
 try with_reducible refine Qy ?_
 first | refine O7 (O8 ?_) | skip
 refine O7 (wpAny_sequenceKey ht.typeIs (by decide) ?_)
 refine O7 (Q6 (name:=Qj "__getitem__") ht.typeIs Vg
  (Q9 Vg ht.typeIs entry_tuple_getitem ?_ (args_tuple_getitem _ _)))
 show wpAny _ _ (Builtin.Tuple.tupleItemsOf (.ref t) >>= _) _ _ s
 refine O7 (tupleItemsOf_ ht ?_)
 refine O7 (U7 hTs ?_)
 rw [if_pos (by decide)]
 refine O7 (Zhw hs pl pu ?_)
 have hno:¬ ((((sIx items.size 0 lo:Nat):Int) == 0 && (1:Int) == 1 && (sIx items.size items.size hi - sIx items.size 0 lo) == items.size)=true):=by
  intro q
  rw [Rk,Rk] at q
  have q1:((sIx items.size 0 lo:Nat):Int)=0:=eq_of_beq q.1.1
  have q2:sIx items.size items.size hi - sIx items.size 0 lo=items.size:=eq_of_beq q.2
  exact hw ⟨by omega,by omega⟩
 show wpAny _ _ (if (((sIx items.size 0 lo:Nat):Int) == 0 && (1:Int) == 1 && (sIx items.size items.size hi - sIx items.size 0 lo) == items.size)=true then _ else _) _ _ s
 rw [if_neg hno,Zqr]
 first
  | exact O7 (m:=Tv _) (Rj (O8 ⟨_,rfl,O8 h⟩) htake)
  | exact O7 (m:=Tv _) (Rj (O7 (O8 (O8 ⟨_,rfl,O8 h⟩))) htake)
  | exact O7 (O7 (m:=Tv _) (Rj (O8 (O8 ⟨_,rfl,O8 h⟩)) htake))
  | exact O7 (O7 (m:=Tv _) (Rj (O8 ⟨_,rfl,O8 h⟩) htake))
end
end HT
namespace L2
open PySem PySem.Spec PyProof.Rows
noncomputable abbrev TO:=St->Hp->(Option Int->Hp->Prop)->Prop
noncomputable def PO (X:Cx)(e:Option Expr)(t:TO):Prop :=
 ∀(pins:List (Addr×Obj))(s:Shared)(σ:St)(H:Hp)(Q:Option Int->Hp->Prop),Inv X pins σ H s->t σ H Q ->
  wpAny (model X.prog X.w) X.A (evalPart e X.env) (fun u s'=>∃ o H',Inv X pins σ H' s'/\IsPart u o/\Q o H') X.xe s
noncomputable def Zai:TO:=fun _ H Q=>Q none H
noncomputable def Nk (t:TE):TO:=fun σ H Q=>t σ H fun x H1=>∃ i,x=.int i/\Q (some i) H1
section
variable {X:Cx}{e:Expr}{te:TE}{lo hi:Option Expr}{tl th:TO}{pos p2:Pos}
theorem Zo6:PO X none Zai:=by
 intro pins s σ H Q I h
 rw [evalPart_none]
 exact O8 ⟨none,H,I,.none,h⟩
theorem Ziy (h:PE X e te):PO X (some e) (Nk te):=by
 intro pins s σ H Q I hw
 rw [evalPart_some]
 refine Ao (h pins s σ H _ I hw) fun u s1 zq=>?_
 obtain ⟨x,H1,I1,r1,q1⟩:=zq
 obtain ⟨i,rfl,q⟩:=q1
 obtain ⟨t,rfl⟩:=r1
 exact ⟨some i,H1,I1,.int i t,q⟩
noncomputable def SlR (X:Cx)(r:V->Option Int->Option Int->Hp->VK->Prop):Prop :=
 ∀(pins:List (Addr×Obj))(s:Shared)(σ:St)(H:Hp)(x:V)(v vl vu:Value)(lo hi:Option Int)(sl:Addr)(Q:VK),Inv X pins σ H s->RelV x v->s.heap.IsSliceOf sl vl vu .none->IsPart vl lo->IsPart vu hi->r x lo hi H Q ->
  ∃ T id,typeLookup (.type T) "__getitem__" = pure (some (.builtin id))/\s.TypeIs v T/\wpAny (model X.prog X.w) X.A (getItem v (.ref sl)) (EP X pins σ Q) X.xe s
theorem SlR.or {r r':V->Option Int->Option Int->Hp->VK->Prop}(h:SlR X r)(h':SlR X r'):SlR X (fun x lo hi H Q=>r x lo hi H Q\/r' x lo hi H Q):=by
 intro pins s σ H x v vl vu lo hi sl Q I rx hs pl pu q
 rcases q with q | q
 ·exact h pins s σ H x v vl vu lo hi sl Q I rx hs pl pu q
 ·exact h' pins s σ H x v vl vu lo hi sl Q I rx hs pl pu q
noncomputable def tSl (r:V->Option Int->Option Int->Hp->VK->Prop)(te:TE)(tl th:TO):TE:=fun σ H Q=>te σ H fun x H1=>tl σ H1 fun l H2=>th σ H2 fun u H3=>r x l u H3 Q
theorem Zhr {r:V->Option Int->Option Int->Hp->VK->Prop}(hr:SlR X r)(he:PE X e te)(hl:PO X lo tl)(hu:PO X hi th):PE X (.Subscript e (.Slice lo hi none p2) pos) (tSl r te tl th):=by
 intro pins s σ H Q I h
 refine Subscript_ (Ao (he pins s σ H _ I h) fun v s1 zq=>?_)
 obtain ⟨x,H1,I1,r1,q1⟩:=zq
 refine wpAny_Slice (Ao (hl pins s1 σ H1 _ I1 q1) fun vl s2 zq=>?_)
 obtain ⟨l,H2,I2,pl,q2⟩:=zq
 refine Ao (hu pins s2 σ H2 _ I2 q2) fun vu s3 zq=>?_
 obtain ⟨u,H3,I3,pu,q3⟩:=zq
 rw [evalPart_none]
 refine O8 ?_
 have I4:Inv X pins σ H3 { s3 with heap:=s3.heap.push { cls:=.type "slice",data:=.fields #[vl,vu,.none] } }:=I3.kept (t':=s3.toks) fun b ob q=>Pc _ q
 obtain ⟨T,id,hT,ht,hg⟩:=hr pins { s3 with heap:=s3.heap.push { cls:=.type "slice",data:=.fields #[vl,vu,.none] } } σ H3 x v vl vu l u s3.heap.objs.size Q I4 r1 (Heap.IsSliceOf.new ..) pl pu q3
 show wpAny (model X.prog X.w) X.A (subscriptTail e (.Slice lo hi none p2) v (.ref s3.heap.objs.size)) (EP X pins σ Q) X.xe { s3 with heap:=s3.heap.push { cls:=.type "slice",data:=.fields #[vl,vu,.none] } }
 exact tail_any (ops:=[.ref s3.heap.objs.size,v]) ht hT hg (by with_unfolding_all rfl)
noncomputable def C3 (xs:List V)(lo hi:Option Int):List V:=(xs.drop (HT.sIx xs.length 0 lo)).take (HT.sIx xs.length xs.length hi - HT.sIx xs.length 0 lo)
theorem Zdu (xs:List V)(lo hi:Option Int):(C3 xs lo hi).length<=xs.length:=by
 unfold C3
 rw [Qo,R8]
 omega
noncomputable def rSlT (K:O6):V->Option Int->Option Int->Hp->VK->Prop:=fun x lo hi H Q=>∃ a xs,x=.ref a/\SqT K H a xs /\
 ¬ (HT.sIx xs.length 0 lo=0/\HT.sIx xs.length xs.length hi=xs.length)/\∀ p,H p=none->Q (.ref p) (upd H p (.tup (C3 xs lo hi)))
theorem Zmu:SlR X (rSlT X.K):=by
 intro pins s σ H x v vl vu lo hi sl Q I rx hs pl pu h
 obtain ⟨a,xs,rfl,hx,hw,q⟩:=h
 cases rx
 obtain ⟨its,r,ht,hz⟩:=I.tuple hx
 have hlen:its.toArray.size=xs.length:=by rw [Pe];exact r.length.symm
 refine ⟨"tuple",_,Vg.lookup,ht.typeIs,?_⟩
 refine HT.getItem_tuple_cut ht hs pl pu (by rw [hlen];exact hw) ?_ (by rw [hlen];exact hz)
 rw [hlen]
 refine ⟨.ref s.heap.objs.size,_,I.laid (t':=s.toks) (o:=.tup (C3 xs lo hi)) (fun b ob q=>Pc _ q) (O9 _) ?_,rfl,q _ (I.hok.fresh (O9 _))⟩
 exact ⟨P8 (Zdu xs lo hi) hz,_,(r.drop (HT.sIx xs.length 0 lo)).take (HT.sIx xs.length xs.length hi - HT.sIx xs.length 0 lo),IsTup.new _ _⟩
noncomputable def Zob (K:O6):R2:=fun x y H Q=>∃ a b xs ys,x=.ref a/\y=.ref b/\SqT K H a xs/\SqT K H b ys/\xs≠[]/\xs.length+ys.length<=sizeLine /\
 (ys=[]->Q (.ref a) H)/\(ys≠[]->∀ p,H p=none->Q (.ref p) (upd H p (.tup (xs++ys))))
theorem Vals.nil_iff {xs:List V}{us:List Value}(r:Vals xs us):us=[]↔xs=[]:=by
 cases r with
 | nil=>simp
 | cons _ _=>simp
theorem Zcj:OpR X (binaryOp .Add) (Zob X.K):=by
 intro pins s σ H x y v u Q I rx ry h
 obtain ⟨a,b,xs,ys,rfl,rfl,ha,hb,hx,hz,q1,q2⟩:=h
 cases rx
 cases ry
 obtain ⟨its,r1,p1,_⟩:=I.tuple ha
 obtain ⟨its2,r2,p2,_⟩:=I.tuple hb
 refine HT.cat_tup p1 p2 (fun z=>hx (r1.nil_iff.mp z)) (fun z=>⟨.ref a,H,I,rfl,q1 (r2.nil_iff.mp z)⟩) (fun z=>?_) (by rw [<- r1.length,<- r2.length];exact hz)
 refine ⟨.ref s.heap.objs.size,_,I.laid (t':=s.toks) (o:=.tup (xs++ys)) (fun b ob q=>Pc _ q) (O9 _) ?_,rfl,q2 (fun w=>z (r2.nil_iff.mpr w)) _ (I.hok.fresh (O9 _))⟩
 exact ⟨by rw [Pg];exact hz,_,r1.append r2,IsTup.new _ _⟩
end
noncomputable def Fo (n:Nat)(i:Int):Option Nat:=if 0<=i then (if i < n then some i.toNat else none) else if -(n:Int)<=i then some (i+n).toNat else none
noncomputable def Ck {α:Type}(xs:List α)(i:Int):Option α:=(Fo xs.length i).bind fun j=>xs[j]?
theorem Zcu {n:Nat}{i:Int}{j:Nat}(h:Fo n i=some j):seqIndex? i n=some j/\j < n/\-(n:Int)<=i/\i < n:=by
 unfold Fo at h
 by_cases h0:0<=i
 ·rw [if_pos h0] at h
  by_cases h1:i < n
  ·rw [if_pos h1] at h
   have e:i.toNat=j:=P5 h
   exact ⟨by rw [seqIndex_of h0 h1,e],by omega,by omega,h1⟩
  ·rw [if_neg h1] at h;cases h
 ·rw [if_neg h0] at h
  by_cases h1:-(n:Int)<=i
  ·rw [if_pos h1] at h
   have e:(i+n).toNat=j:=P5 h
   exact ⟨by rw [seqIndex_neg (by omega) h1,e],by omega,h1,by omega⟩
  ·rw [if_neg h1] at h;cases h
theorem Za7 {α:Type}{xs:List α}{i:Int}{v:α}(h:Ck xs i=some v):∃ j,seqIndex? i xs.length=some j/\xs[j]?=some v/\j < xs.length/\-(xs.length:Int)<=i/\i < xs.length:=by
 unfold Ck at h
 cases e:Fo xs.length i with
 | none=>rw [e] at h;cases h
 | some j =>
  rw [e] at h
  obtain ⟨h1,h2,h3,h4⟩:=Zcu e
  exact ⟨j,h1,h,h2,h3,h4⟩
theorem Dc {α:Type}{xs:List α}{j:Nat}{v:α}(h:xs[j]?=some v):Ck xs (j:Int)=some v:=by
 have hj:j < xs.length:=(Pq.mp h).1
 have e:Fo xs.length (j:Int)=some j:=by
  unfold Fo
  rw [if_pos (by omega),if_pos (by omega)];simp
 unfold Ck;rw [e];exact h
noncomputable def Zbk (b:Expr):Prop:=∀ o i,subscripted b false o i=operate [o,i] (getItem o i)
noncomputable def IxR (X:Cx)(r:R2):Prop :=
 ∀(value slice:Expr)(pins:List (Addr×Obj))(s:Shared)(σ:St)(H:Hp)(x y:V)(v u:Value)(Q:VK),Inv X pins σ H s->RelV x v->RelV y u->r x y H Q ->
  subscripted slice false v u=operate [v,u] (getItem v u)->wpAny (model X.prog X.w) X.A (subscriptTail value slice v u) (EP X pins σ Q) X.xe s
noncomputable def Gr (X:Cx)(id:String)(r:V->List V->Hp->VK->Prop):Prop :=
 ∀(pins:List (Addr×Obj))(s:Shared)(σ:St)(H:Hp)(x:V)(xs:List V)(v:Value)(us:List Value)(Q:VK),Inv X pins σ H s->RelV x v->Vals xs us->r x xs H Q ->
  wpAny (model X.prog X.w) X.A (call (.builtin id) (v::us)) (EP X pins σ Q) X.xe s
section
variable {X:Cx}{a b:Expr}{ta tb:TE}{pos:Pos}
theorem IxR.or {r r':R2}(h:IxR X r)(h':IxR X r'):IxR X (fun x y H Q=>r x y H Q\/r' x y H Q):=by
 intro value slice pins s σ H x y v u Q I rx ry q hs
 rcases q with q | q
 ·exact h value slice pins s σ H x y v u Q I rx ry q hs
 ·exact h' value slice pins s σ H x y v u Q I rx ry q hs
theorem Zk7 {r:R2}(hr:IxR X r)(ha:PE X a ta)(hb:PE X b tb)(hs:Zbk b):PE X (.Subscript a b pos) (Fd r ta tb):=by
 intro pins s σ H Q I h
 exact Subscript_ (Zaq ha hb I h fun v u s2 x y H2 I2 rx ry q=>hr a b pins s2 σ H2 x y v u Q I2 rx ry q (hs _ _))
noncomputable def rIxL (K:O6):R2:=fun x y H Q=>∃ p xs i v,x=.ref p/\y=.int i/\SqL K H p xs/\Ck xs i=some v/\Q v H
noncomputable def rIxT (K:O6):R2:=fun x y H Q=>∃ p xs i v,x=.ref p/\y=.int i/\SqT K H p xs/\Ck xs i=some v/\Q v H
noncomputable def rIxS:R2:=fun x y H Q=>∃ z i c,x=.str z/\y=.int i/\z.length<=sizeLine/\Ck z.cps.toList i=some c/\Q (.str ⟨#[c]⟩) H
theorem ix_list:IxR X (rIxL X.K):=by
 intro value slice pins s σ H x y v u Q I rx ry h hs
 obtain ⟨p,xs,i,z,rfl,rfl,hq,he,q⟩:=h
 cases rx
 obtain ⟨t,rfl⟩:=ry
 obtain ⟨its,r,pl,hz⟩:=I.list hq
 obtain ⟨j,h1,h2,h3,h4,h5⟩:=Za7 he
 obtain ⟨w,ew,rw'⟩:=r.get h2
 have hl:=r.length
 have hn:=Ia
 have fin:EP X pins σ Q w s:=⟨z,H,I,rw',q⟩
 by_cases h0:0<=i
 ·have hj:i.toNat=j:=by
   rw [seqIndex_of h0 h5] at h1
   exact P5 h1
  exact item_listR pl.isList h0 (by omega) (by rw [hj];simpa using ew) fin hs
 ·have hj:(i+(its.toArray.size:Int)).toNat=j:=by
   rw [seqIndex_neg (by omega) h4] at h1
   rw [Pe,<- hl]
   exact P5 h1
  exact subscriptTail_builtinR (x:=w) pl.isList.typeIs Vv.lookup
   (wpAny_getItem_list_neg (Q:=fun r s'=>r=w/\EP X pins σ Q r s') pl.isList (by omega) (by rw [Pe] <;> omega) (by omega) (by rw [hj];simpa using ew) ⟨rfl,fin⟩) hs
theorem ix_tup:IxR X (rIxT X.K):=by
 intro value slice pins s σ H x y v u Q I rx ry h hs
 obtain ⟨p,xs,i,z,rfl,rfl,hq,he,q⟩:=h
 cases rx
 obtain ⟨t,rfl⟩:=ry
 obtain ⟨its,r,pl,hz⟩:=I.tuple hq
 obtain ⟨j,h1,h2,h3,h4,h5⟩:=Za7 he
 obtain ⟨w,ew,rw'⟩:=r.get h2
 have hl:=r.length
 have hn:=Ia
 have fin:EP X pins σ Q w s:=⟨z,H,I,rw',q⟩
 exact subscriptTail_builtinR (x:=w) pl.typeIs slot_tuple_getitem.lookup
  (getItem_tuple (j:=j) (Q:=fun r s'=>r=w/\EP X pins σ Q r s') pl (by omega) (by omega) (by rw [Pe,<- hl];exact h1) (by simpa using ew) ⟨rfl,fin⟩) hs
theorem Zln:IxR X rIxS:=by
 intro value slice pins s σ H x y v u Q I rx ry h hs
 obtain ⟨z,i,c,rfl,rfl,hz,he,q⟩:=h
 obtain ⟨t,rfl⟩:=rx
 obtain ⟨t',rfl⟩:=ry
 obtain ⟨j,h1,h2,h3,h4,h5⟩:=Za7 he
 have hl:z.cps.toList.length=z.length:=by simp [Str.length]
 rw [hl] at h1 h4 h5
 have hn:=Ia
 exact tail_any (typeIs_str s z t) slot_str_getitem.lookup (getItem_str (c:=c) (by
  have e1:decide (i < -(2 ^ 63:Int))=false:=decide_eq_false (by omega)
  have e2:decide (i ≥ 2 ^ 63)=false:=decide_eq_false (by omega)
  rw [e1,e2,Bool.or_false]) (by rw [h1];simpa using h2) ⟨.str ⟨#[c]⟩,H,I.tok _,⟨_,rfl⟩,q⟩) hs
noncomputable def Jb (K:O6):R2:=fun x y H Q=>rIxL K x y H Q\/rIxT K x y H Q\/rIxS x y H Q
theorem Zok:IxR X (Jb X.K):=ix_list.or (ix_tup.or Zln)
theorem Zp7 (its:List Value)(n j:Nat)(u:Value):Qi (·.setIfInBounds j u) { cls:=.type "list",data:=.seq its.toArray n }={ cls:=.type "list",data:=.seq (its.set j u).toArray n }:=by
 simp [Qi]
theorem Inv.lst {pins:List (Addr×Obj)}{σ:St}{H:Hp}{s:Shared}{p:Addr}{xs:List V}(I:Inv X pins σ H s)(h:H p=some (.lst xs)) :
  ∃(its:List Value)(n:Nat),Vals xs its/\s.heap.get? p=some { cls:=.type "list",data:=.seq its.toArray n }/\xs.length<=sizeLine:=by
 obtain ⟨z,its,n,r,e⟩:=I.hok p _ h
 exact ⟨its,n,r,e,z⟩
theorem Inv.lstUpd {pins:List (Addr×Obj)}{σ:St}{H:Hp}{s:Shared}{p:Addr}{xs ys:List V}{its its':List Value}{n n':Nat}{f:Obj->Obj}(I:Inv X pins σ H s)(h:H p=some (.lst xs))
  (ho:s.heap.get? p=some { cls:=.type "list",data:=.seq its.toArray n }) (hf:f { cls:=.type "list",data:=.seq its.toArray n }={ cls:=.type "list",data:=.seq its'.toArray n' }) (r:Vals ys its') (hz:ys.length<=sizeLine) (t:Nat) :
  Inv X pins σ (upd H p (.lst ys)) { s with heap:=s.heap.update p f,toks:=t }:=by
 have e:(s.heap.update p f).get? p=some { cls:=.type "list",data:=.seq its'.toArray n' }:=by
  rw [Rf f ho (by rw [hf] <;> rfl),hf]
 refine I.write (x:=p) (e:=p) (by rw [h];trivial) (.inl rfl) (fun b u hb q=>(Qu _ _ (Pk hb)).trans q) ⟨_,e⟩ ?_
 exact ⟨hz,its',n',r,e⟩
noncomputable def Zgd:V->V->V->Hp->(Hp->Prop)->Prop:=fun o i v H Q=>∃ p xs k j,o=.ref p/\i=.int k/\H p=some (.lst xs)/\Fo xs.length k=some j/\Q (upd H p (.lst (xs.set j v)))
theorem Zi7:Ov X Zgd:=by
 intro pins s σ H o i v ov iv u Q I ro ri rv h
 obtain ⟨p,xs,k,j,rfl,rfl,hp,hj,q⟩:=h
 cases ro
 obtain ⟨t,rfl⟩:=ri
 obtain ⟨its,n,r,ho,hz⟩:=I.lst hp
 obtain ⟨h1,h2,h3,h4⟩:=Zcu hj
 have hl:=r.length
 have hn:=Ia
 have I':Inv X pins σ (upd H p (.lst (xs.set j v))) { s with heap:=s.heap.update p (Qi (·.setIfInBounds j u)) } :=
  I.lstUpd hp ho (Zp7 its n j u) (r.set rv j) (by rw [List.length_set];exact hz) s.toks
 by_cases h0:0<=k
 ·have hk:k.toNat=j:=by
   rw [seqIndex_of h0 h4] at h1
   exact P5 h1
  exact PySem.W.ki_setAt ho h0 (by omega) (by rw [Pe,<- hl];exact h4) (by rw [hk];exact ⟨_,I',q⟩)
 ·have hk:(k+(its.toArray.size:Int)).toNat=j:=by
   rw [seqIndex_neg (by omega) h3] at h1
   rw [Pe,<- hl]
   exact P5 h1
  exact PySem.W.ki_setBack ho (by omega) (by rw [Pe,<- hl];exact h3) (by omega) (by rw [hk];exact ⟨_,I',q⟩)
theorem Zhx (lo hi:Option Int)(n:Nat):(sliceBounds lo hi none n).1=((HT.sIx n 0 lo:Nat):Int)/\(sliceBounds lo hi none n).2.1=((HT.sIx n n hi:Nat):Int)/\(sliceBounds lo hi none n).2.2=1:=by
 refine ⟨?_,?_,rfl⟩
 ·cases lo with
  | none=>simp [sliceBounds,HT.sIx]
  | some i =>
   simp only [sliceBounds,HT.sIx,Option.getD_none,show (1:Int) > 0 by decide,if_true]
   by_cases h:i < 0
   ·simp only [h,if_true] <;> omega
   ·simp only [h,if_false] <;> omega
 ·cases hi with
  | none=>simp [sliceBounds,HT.sIx]
  | some i =>
   simp only [sliceBounds,HT.sIx,Option.getD_none,show (1:Int) > 0 by decide,if_true]
   by_cases h:i < 0
   ·simp only [h,if_true] <;> omega
   ·simp only [h,if_false] <;> omega
theorem Znh (its:List Value)(lo hi:Option Int):slicePick its.toArray lo hi none=((its.drop (HT.sIx its.length 0 lo)).take (HT.sIx its.length its.length hi - HT.sIx its.length 0 lo)).toArray:=by
 obtain ⟨h1,h2,h3⟩:=Zhx lo hi its.toArray.size
 unfold slicePick
 rw [h1,h2,h3]
 simp only [sliceRange_one,pick_run,Pe] <;> rfl
noncomputable def rSlL (K:O6):V->Option Int->Option Int->Hp->VK->Prop:=fun x lo hi H Q=>∃ a xs,x=.ref a/\SqL K H a xs/\∀ p,H p=none->Q (.ref p) (upd H p (.lst (C3 xs lo hi)))
theorem sl_list:SlR X (rSlL X.K):=by
 intro pins s σ H x v vl vu lo hi sl Q I rx hs pl pu h
 obtain ⟨a,xs,rfl,hx,q⟩:=h
 cases rx
 obtain ⟨its,r,ht,hz⟩:=I.list hx
 have hlen:=r.length
 refine ⟨"list",_,Vv.lookup,ht.isList.typeIs,?_⟩
 refine wpAny_getItem_list_slice ht.isList hs pl pu .none (by simp) ?_ (by rw [Pe] <;> omega)
 rw [Znh,<- hlen]
 refine ⟨.ref s.heap.objs.size,_,I.laid (t':=s.toks) (o:=.lst (C3 xs lo hi)) (fun b ob q=>Pc _ q) (O9 _) ?_,rfl,q _ (I.hok.fresh (O9 _))⟩
 exact ⟨P8 (Zdu xs lo hi) hz,_,0,(r.drop (HT.sIx xs.length 0 lo)).take (HT.sIx xs.length xs.length hi - HT.sIx xs.length 0 lo),Po _ rfl⟩
noncomputable def Cy:V->Bool
 | .non=>true
 | .bl _=>true
 | .int _=>true
 | .str _=>true
 | _=>false
noncomputable def Ei:V->V->Bool
 | .non,.non=>true
 | .bl a,.bl b=>a == b
 | .bl a,.int b=>(if a then 1 else 0) == b
 | .int a,.bl b=>a == (if b then 1 else 0)
 | .int a,.int b=>a == b
 | .str a,.str b=>a == b
 | _,_=>false
theorem Zbm {A:Around}{s:Shared}{y x:V}{u v:Value}(ry:RelV y u)(rx:RelV x v)(fy:Cy y=true)(fx:Cy x=true):Ps A s u v (Ei y x):=by
 cases y with
 | non =>
  cases ry
  cases x with
  | non=>cases rx;exact V3 _
  | bl b=>cases rx;exact Ps.none_bool b
  | int b=>obtain ⟨t,rfl⟩:=rx;exact Ps.none_int b t
  | str b=>obtain ⟨t,rfl⟩:=rx;exact Ps.none_str b t
  | _=>exact absurd (show false=true from fx) Pi
 | bl a =>
  cases ry
  cases x with
  | non=>cases rx;exact Ps.bool_none a
  | bl b=>cases rx;exact Ps.bool_bool a b
  | int b=>obtain ⟨t,rfl⟩:=rx;exact Ps.bool_int a b t
  | str b=>obtain ⟨t,rfl⟩:=rx;exact Ps.bool_str a b t
  | _=>exact absurd (show false=true from fx) Pi
 | int a =>
  obtain ⟨t',rfl⟩:=ry
  cases x with
  | non=>cases rx;exact Ps.int_none a t'
  | bl b=>cases rx;exact Ps.int_bool a t' b
  | int b=>obtain ⟨t,rfl⟩:=rx;exact Ps.int_int a t' b t
  | str b=>obtain ⟨t,rfl⟩:=rx;exact Ps.int_str a t' b t
  | _=>exact absurd (show false=true from fx) Pi
 | str a =>
  obtain ⟨t',rfl⟩:=ry
  cases x with
  | non=>cases rx;exact Ps.str_none a t'
  | bl b=>cases rx;exact Ps.str_bool a t' b
  | int b=>obtain ⟨t,rfl⟩:=rx;exact Ps.str_int a t' b t
  | str b=>obtain ⟨t,rfl⟩:=rx;exact Ps.str_str a t' b t
  | _=>exact absurd (show false=true from fx) Pi
 | _=>exact absurd (show false=true from fy) Pi
noncomputable def Fn (x:V)(u:Value):Bool:=match u with
 | .none=>Ei .non x
 | .bool b=>Ei (.bl b) x
 | .int i _=>Ei (.int i) x
 | .str z _=>Ei (.str z) x
 | _=>false
theorem Zca {x y:V}{u:Value}(r:RelV y u)(f:Cy y=true):Fn x u=Ei y x:=by
 cases y with
 | non=>cases r;rfl
 | bl b=>cases r;rfl
 | int i=>obtain ⟨t,rfl⟩:=r;rfl
 | str z=>obtain ⟨t,rfl⟩:=r;rfl
 | _=>exact absurd (show false=true from f) Pi
theorem O2 {x:V}:∀{xs:List V}{us:List Value},Vals xs us->xs.all Cy=true->us.any (Fn x)=xs.any fun y=>Ei y x
 | _,_,.nil,_=>rfl
 | y::xs,u::us,.cons r t,f=>by
  rw [Q4,Rk] at f
  rw [Tg,Tg,Zca r f.1,O2 t f.2]
theorem Zae {A:Around}{s:Shared}{x:V}{v:Value}(rx:RelV x v)(fx:Cy x=true):∀{xs:List V}{us:List Value},Vals xs us->xs.all Cy=true->∀ u∈us,Ps A s u v (Fn x u)
 | _,_,.nil,_=>fun u hu=>by cases hu
 | y::xs,u::us,.cons r t,f=>fun u' hu=>by
  rw [Q4,Rk] at f
  rcases Pd.mp hu with rfl | hu
  ·rw [Zca r f.1];exact Zbm r rx f.1 fx
  ·exact Zae rx fx t f.2 u' hu
noncomputable def Ef (x:V)(xs:List V):Bool:=xs.any fun y=>Ei y x
noncomputable def rIn (K:O6)(neg:Bool):R2:=fun x y H Q=>∃ p xs,y=.ref p/\(SqL K H p xs\/SqT K H p xs)/\Cy x=true/\xs.all Cy=true/\Q (.bl (if neg then !Ef x xs else Ef x xs)) H
theorem op_in_seq:OpR X (compareOp .In) (rIn X.K false):=by
 intro pins s σ H x y v u Q I rx ry h
 obtain ⟨p,xs,rfl,hq,fx,fs,q⟩:=h
 cases ry
 rcases hq with hq | hq
 ·obtain ⟨its,r,pl,hz⟩:=I.list hq
  refine SeqAt.in_listAt (Fn x) pl.isList (fun w hw=>Zae rx fx r fs w (by simpa using hw)) ⟨.bl _,H,I,rfl,?_⟩
  rw [show its.toArray.any (Fn x)=its.any (Fn x) by simp,O2 r fs]
  exact q
 ·obtain ⟨its,r,pl,hz⟩:=I.tuple hq
  refine SeqAt.in_tupleAt (Fn x) pl (fun w hw=>Zae rx fx r fs w (by simpa using hw)) ⟨.bl _,H,I,rfl,?_⟩
  rw [show its.toArray.any (Fn x)=its.any (Fn x) by simp,O2 r fs]
  exact q
theorem Zpc:Cu X (.type "list") (fun xs H Q=>∃ p ys,xs=[.ref p]/\(SqL X.K H p ys\/SqT X.K H p ys)/\∀ l,H l=none->Q (.ref l) (upd H l (.lst ys))):=by
 intro pins s σ H xs us Q I r h
 obtain ⟨p,ys,rfl,hq,q⟩:=h
 obtain ⟨u,rfl,rx⟩:=Hg r
 cases rx
 have fin:∀(its:List Value),Vals ys its->ys.length<=sizeLine->∀(h':Heap)(c':Nat),(∀ b o',s.heap.get? b=some o'->h'.get? b=some o') ->
   h'.get? s.heap.objs.size=some { cls:=.type "list",dict:=none,data:=.seq its.toArray c',slots:=#[] }->EP X pins σ Q (.ref s.heap.objs.size) { s with heap:=h' }:=fun its r' hz h' c' kp e =>
  ⟨.ref s.heap.objs.size,_,I.laid (t':=s.toks) kp (O9 _) (show ObjOk X.prog X.w _ h' _ (.lst ys) from ⟨hz,its,c',r',e⟩),rfl,q _ (I.hok.fresh (O9 _))⟩
 rcases hq with hq | hq
 ·obtain ⟨its,r',pl,hz⟩:=I.list hq
  have hlen:=r'.length
  obtain ⟨o,ho,hc,n,hd⟩:=pl.isList
  exact call_list_seq p (.inl rfl) ho hc hd (fun h' c' kp e=>fin its r' hz h' c' kp e) (by simp only [Pe] <;> omega)
 ·obtain ⟨its,r',pl,hz⟩:=I.tuple hq
  have hlen:=r'.length
  obtain ⟨o,ho,hc,n,hd⟩:=pl
  exact call_list_seq p (.inr rfl) ho hc hd (fun h' c' kp e=>fin its r' hz h' c' kp e) (by simp only [Pe] <;> omega)
theorem Zit:Cu X (.type "tuple") (fun xs H Q=>∃ p ys,xs=[.ref p]/\((SqL X.K H p ys/\∀ l,H l=none->Q (.ref l) (upd H l (.tup ys)))\/(SqT X.K H p ys/\Q (.ref p) H))):=by
 intro pins s σ H xs us Q I r h
 obtain ⟨p,ys,rfl,h⟩:=h
 obtain ⟨u,rfl,rx⟩:=Hg r
 cases rx
 rcases h with ⟨hq,q⟩ | ⟨hq,q⟩
 ·obtain ⟨its,r',pl,hz⟩:=I.list hq
  have hlen:=r'.length
  refine call_tuple_list pl.isList (fun h' kp=>?_) (by simp only [Pe] <;> omega)
  have I1:Inv X pins σ H { s with heap:=h' }:=I.kept (t':=s.toks) kp
  have I2:Inv X pins σ (upd H h'.objs.size (.tup ys)) { s with heap:=h'.push { cls:=.type "tuple",data:=.seq its.toArray } } :=
   I1.laid (t':=s.toks) (fun b o e=>Pc _ e) (O9 _) (show ObjOk X.prog X.w _ _ _ (.tup ys) from ⟨hz,its,r',IsTup.new _ _⟩)
  exact ⟨.ref h'.objs.size,_,I2,rfl,q _ (I1.hok.fresh (O9 _))⟩
 ·obtain ⟨its,r',pl,hz⟩:=I.tuple hq
  exact call_tuple_same pl ⟨.ref p,H,I,rfl,q⟩
noncomputable def Ih (K:O6)(T:String)(x:V)(H:Hp):Prop:=match x with
 | .str _=>T = "str"
 | .int _=>T = "int"
 | .ref p=>(T = "list" /\ ∃ xs,SqL K H p xs)\/(T = "tuple" /\ ∃ o,K.lookup p=some o/\o.cls=.type "tuple" /\ o.dict=none) \/
   (T = "dict" /\ ((∃ kvs,H p=some (.dK kvs))\/∃ kvs,H p=some (.dT kvs)))\/(T = "set" /\ ∃ S n,H p=some (.set S n))
 | _=>False
theorem Zc8 {pins:List (Addr×Obj)}{σ:St}{H:Hp}{s:Shared}{T:String}{x:V}{v:Value}(I:Inv X pins σ H s)(r:RelV x v)(ty:Ih X.K T x H) :
  s.TypeIs v T/\∀ a,v=.ref a->∃ ob,s.heap.get? a=some ob/\ob.dict=none:=by
 cases x with
 | str z =>
  obtain ⟨t,rfl⟩:=r
  cases (show T = "str" from ty)
  exact ⟨typeIs_str s z t,fun _ e=>nomatch e⟩
 | int i =>
  obtain ⟨t,rfl⟩:=r
  cases (show T = "int" from ty)
  exact ⟨typeIs_int s i t,fun _ e=>nomatch e⟩
 | ref p =>
  cases r
  rcases ty with ⟨rfl,xs,hq⟩ | ⟨rfl,o,hk,hc,hd⟩ | ⟨rfl,hk⟩ | ⟨rfl,S,n,hk⟩
  ·obtain ⟨its,_,pl,_⟩:=I.list hq
   refine ⟨pl.isList.typeIs,fun a e=>?_⟩
   cases e
   obtain ⟨o,n,e,c,hd,_⟩:=pl
   exact ⟨o,e,hd⟩
  ·refine ⟨⟨o,I.kIn p o hk,hc⟩,fun a e=>?_⟩
   cases e
   exact ⟨o,I.kIn _ o hk,hd⟩
  ·have z:∃ o,s.heap.get? p=some o/\o.ExactDict:=by
    rcases hk with ⟨kvs,hk⟩ | ⟨kvs,hk⟩
    ·obtain ⟨_,_,_,_,o,_,_,e,ex,_⟩:=I.hok p _ hk
     exact ⟨o,e,ex⟩
    ·obtain ⟨_,_,_,_,o,_,_,e,ex,_⟩:=I.hok p _ hk
     exact ⟨o,e,ex⟩
   obtain ⟨o,e,ex⟩:=z
   refine ⟨⟨o,e,ex.1⟩,fun a e2=>?_⟩
   cases e2
   exact ⟨o,e,ex.2.1⟩
  ·obtain ⟨o,_,_,_,e,ex,_⟩:=I.hok p _ hk
   refine ⟨⟨o,e,ex.1⟩,fun a e2=>?_⟩
   cases e2
   exact ⟨o,e,ex.2.1⟩
 | _=>exact P9 ty
noncomputable def Mn (K:O6)(T:String)(r:V->List V->Hp->VK->Prop)(to:TE):TE:=fun σ H Q=>to σ H fun x H1=>Ih K T x H1/\r x [] H1 Q
noncomputable def tBM (K:O6)(T:String)(r:V->List V->Hp->VK->Prop)(to:TE)(t:TA):TE:=fun σ H Q=>to σ H fun x H1=>Ih K T x H1/\t σ H1 fun xs H2=>r x xs H2 Q
variable {o e:Expr}{es:List Expr}{to:TE}{t:TA}{name:Str}{apos cpos:Pos}{T id:String}{r:V->List V->Hp->VK->Prop}
theorem Zos (pa:PlainAttrs T)(slot:Slot T name id)(hty:typeOf (.builtin id)=pure (.type "method_descriptor"))(hm:Gr X id r)(ho:PE X o to)
  (hbase:attributeBase o name X.env (eval o X.env)=eval o X.env:=by rfl) (hline:(apos.endLine == cpos.line)=true:=by rfl):PE X (.Call (.Attribute o name apos) [] [] cpos) (Mn X.K T r to):=by
 intro pins s σ H Q I h
 refine wpAny_Call_method0_late hbase hline (Ao (ho pins s σ H _ I h) fun v s1 zq=>?_)
 obtain ⟨x,H1,I1,r1,ty,q1⟩:=zq
 obtain ⟨h1,h2⟩:=Zc8 I1 r1 ty
 exact ⟨T,id,pa,slot,hty,h1,h2,Calls.callWith_builtin rfl (PySem.evalArgs_none (hm pins s1 σ H1 x [] v [] Q I1 r1 .nil q1))⟩
theorem Zjv (pa:PlainAttrs T)(slot:Slot T name id)(hty:typeOf (.builtin id)=pure (.type "method_descriptor"))(hm:Gr X id r)(ho:PE X o to)(ha:PA X (e::es) t)
  (hbase:attributeBase o name X.env (eval o X.env)=eval o X.env:=by rfl)
  (hfew:((backTo cpos (starEach (e::es) X.env)).all (fun x=>!x.1) && (backToKw cpos (keywordEach [] X.env)).all (fun x=>x.1.isSome)
   && decide ((e::es).length+([]:List Keyword).length+(if ([]:List Keyword).isEmpty then 0 else 1) < 30))=true:=by rfl)
  (hline:(apos.endLine == cpos.line)=true:=by rfl) (hs:starEach (e::es) X.env=(false,eval e X.env)::starEach es X.env:=by rfl) (hplain:(backTo cpos (starEach es X.env)).any (·.1)=false:=by rfl) :
  PE X (.Call (.Attribute o name apos) (e::es) [] cpos) (tBM X.K T r to t):=by
 intro pins s σ H Q I h
 refine wpAny_Call_method_late hbase hfew hline rfl (Ao (ho pins s σ H _ I h) fun v s1 zq=>?_)
 obtain ⟨x,H1,I1,r1,ty,q1⟩:=zq
 obtain ⟨h1,h2⟩:=Zc8 I1 r1 ty
 refine ⟨T,id,pa,slot,hty,h1,h2,?_⟩
 have hA:=ha cpos pins s1 σ H1 _ I1 q1
 rw [hs] at hA ⊢
 refine Calls.callWith_builtin (by show (false || (backTo cpos (starEach es X.env)).any (·.1))=false;rw [hplain] <;> rfl) (Calls.evalArgs_plain ?_)
 exact Ao hA fun us s2 ⟨vs,H2,I2,r2,q2⟩=>hm pins s2 σ H2 x vs v us Q I2 r1 r2 q2
end
noncomputable def MtM (X:Cx)(id:String)(r:V->List V->Hp->VK->Prop):Prop :=
 ∀(pins:List (Addr×Obj))(s:Shared)(σ:St)(H:Hp)(x:V)(xs:List V)(v:Value)(us:List Value)(Q:VK),Inv X pins σ H s->RelV x v->Vals xs us->r x xs H Q ->
  wpAny (model X.prog X.w) X.A (call (.builtin id) (v::us)) (EP X pins σ Q) X.xe s
theorem Vals.one:∀{x:V}{us:List Value},Vals [x] us->∃ u,us=[u]/\RelV x u
 := fun h=>by
 cases h with
 | cons r t =>
 cases t
 exact ⟨_,rfl,r⟩
theorem Vals.two:∀{x y:V}{us:List Value},Vals [x,y] us->∃ u v,us=[u,v]/\RelV x u/\RelV y v
 := fun h=>by
 cases h with
 | cons r t =>
 cases t with
 | cons q z =>
 cases z
 exact ⟨_,_,rfl,r,q⟩
theorem Vals.zero:∀{us:List Value},Vals [] us->us=[]
 | _,.nil=>rfl
theorem Vals.dropLast {xs:List V}{us:List Value}(h:Vals xs us):Vals xs.dropLast us.dropLast:=by
 induction h with
 | nil=>exact .nil
 | cons r t ih =>
  cases t with
  | nil=>exact .nil
  | cons q t'=>exact .cons r ih
theorem Vals.reverse {xs:List V}{us:List Value}(h:Vals xs us):Vals xs.reverse us.reverse:=by
 induction h with
 | nil=>exact .nil
 | cons r t ih=>rw [Sz,Sz];exact Vals.append ih (.cons r .nil)
theorem Vals.rep {xs:List V}{us:List Value}(h:Vals xs us):∀ k:Nat,Vals (Qg k xs).flatten (Qg k us).flatten
 | 0=>.nil
 | k+1=>by
  rw [Sv,Sv,Ui,Ui]
  exact Vals.append h (Vals.rep h k)
theorem Zi1 {α:Type}(l:List α):l.eraseIdx (l.length - 1)=l.dropLast:=by
 induction l with
 | nil=>rfl
 | cons a r ih =>
  cases r with
  | nil=>rfl
  | cons b r =>
   have e:(a::b::r).length - 1=((b::r).length - 1)+1:=by
    have h1:(a::b::r).length=r.length+2:=rfl
    have h2:(b::r).length=r.length+1:=rfl
    omega
   rw [e,List.eraseIdx_cons_succ,ih]
   all_goals rfl
theorem Zem (its:List Value):∀(k:Nat)(acc:List Value),
  List.foldl (fun x1 x2=>x1++x2) acc.toArray (Qg k its.toArray)=(acc++(Qg k its).flatten).toArray
 | 0,acc=>by simp
 | k+1,acc=>by
  have e:acc.toArray++its.toArray=(acc++its).toArray:=by simp
  have e2:(acc++its)++(Qg k its).flatten=acc++(Qg (k+1) its).flatten:=by
   rw [Sv,Ui,P0]
  rw [<- e2,<- Zem its k (acc++its),<- e,Sv,List.foldl_cons]
section
variable {X:Cx}{pins:List (Addr×Obj)}{σ:St}{H:Hp}{s:Shared}{l b:Addr}{xs ys zs:List V}
theorem Inv.lset {its its':List Value}{n:Nat}{f:Array Value->Array Value}{t':Nat}(I:Inv X pins σ H s)(hH:H l=some (.lst xs))
  (e:s.heap.get? l=some { cls:=.type "list",data:=.seq its.toArray n }) (hf:f its.toArray=its'.toArray) (hv:Vals ys its') (hz:ys.length<=sizeLine) :
  Inv X pins σ (upd H l (.lst ys)) { s with heap:=s.heap.update l (Qi f),toks:=t' }:=by
 have q:=PySem.IsL.update e f
 rw [hf] at q
 refine I.write (x:=l) (e:=l) (by rw [hH];exact trivial) (.inl rfl) (fun b' u hb hu=>(Qu s.heap (Qi f) (Pk hb)).trans hu) ⟨_,q⟩ ?_
 exact ⟨hz,its',_,hv,q⟩
theorem Inv.lnew {its:List Value}{t':Nat}(I:Inv X pins σ H s)(hv:Vals ys its)(hz:ys.length<=sizeLine) :
  Inv X pins σ (upd H s.heap.objs.size (.lst ys)) { s with heap:=s.heap.push { cls:=.type "list",data:=.seq its.toArray },toks:=t' } :=
 I.laid (fun _ _ q=>Pc _ q) (O9 _) ⟨hz,its,0,hv,Po _ rfl⟩
theorem Inv.fresh (I:Inv X pins σ H s):H s.heap.objs.size=none:=I.hok.fresh (O9 _)
theorem Inv.lstM (I:Inv X pins σ H s)(hH:H l=some (.lst xs)):xs.length<=sizeLine/\∃(its:List Value)(n:Nat),Vals xs its/\xs.length=its.length/\s.heap.get? l=some { cls:=.type "list",data:=.seq its.toArray n }:=by
 obtain ⟨z,its,n,r,e⟩:=I.hok l _ hH
 exact ⟨z,its,n,r,r.length,e⟩
theorem Zf5 {n:Nat}(h:n<=sizeLine):Tw n=false:=by
 unfold Tw
 exact decide_eq_false (by omega)
end
section
variable {X:Cx}
noncomputable def Zf6:V->List V->Hp->VK->Prop:=fun x vs H Q=>∃ l xs y,x=.ref l/\vs=[y]/\H l=some (.lst xs)/\xs.length < sizeLine/\Q .non (upd H l (.lst (xs++[y])))
theorem Dg:MtM X "list.append" Zf6:=by
 intro pins s σ H x vs v us Q I rx rv h
 obtain ⟨l,xs,y,rfl,rfl,hH,hz,q⟩:=h
 cases rx
 obtain ⟨u,rfl,ru⟩:=rv.one
 obtain ⟨z,its,n,r,hl,e⟩:=I.lstM hH
 refine R0 F.slot_list_append ⟨_,e,rfl⟩ F.entry_list_append (F.args_list_append_2 _ _) (PySem.list_append l its.toArray n u (by rw [Pe];omega)) ⟨e,?_⟩
 refine ⟨.non,_,I.lset (its':=its++[u]) hH e (by simp) (r.append (.cons ru .nil)) ?_,rfl,q⟩
 rw [Pg,Pl]
 omega
noncomputable def Zhu:V->List V->Hp->VK->Prop:=fun x vs H Q=>∃ l b xs zs,x=.ref l/\vs=[.ref b]/\H l=some (.lst xs)/\H b=some (.lst zs)/\xs.length+zs.length<=sizeLine/\Q .non (upd H l (.lst (xs++zs)))
theorem Zfy:MtM X "list.extend" Zhu:=by
 intro pins s σ H x vs v us Q I rx rv h
 obtain ⟨l,b,xs,zs,rfl,rfl,hH,hB,hz,q⟩:=h
 cases rx
 obtain ⟨u,rfl,ru⟩:=rv.one
 cases ru
 obtain ⟨z,its,n,r,hl,e⟩:=I.lstM hH
 obtain ⟨z2,its2,n2,r2,hl2,e2⟩:=I.lstM hB
 have hsz:its.toArray.size+its2.toArray.size<=sizeLine:=by rw [Pe,Pe];omega
 have hlong:¬ (!its.toArray.isEmpty && Tw (its.toArray.size+its2.toArray.size))=true:=by
  rw [Zf5 hsz,Bool.and_false]
  exact Pi
 refine R0 F.slot_list_extend ⟨_,e,rfl⟩ F.entry_list_extend (F.args_list_extend_2 _ _)
  (AutoSeq1.list_extend_list_list_0 l its.toArray n b its2.toArray n2 hlong (by rw [Pe];omega) (by omega)) ⟨e,e2,?_⟩
 refine ⟨.non,_,I.lset (its':=its++its2) hH e (by simp) (r.append r2) ?_,rfl,q⟩
 rw [Pg]
 omega
noncomputable def rPop:V->List V->Hp->VK->Prop:=fun x vs H Q=>∃ l xs y,x=.ref l/\vs=[]/\H l=some (.lst xs)/\xs[xs.length - 1]?=some y/\Q y (upd H l (.lst xs.dropLast))
theorem Jt:MtM X "list.pop" rPop:=by
 intro pins s σ H x vs v us Q I rx rv h
 obtain ⟨l,xs,y,rfl,rfl,hH,hy,q⟩:=h
 cases rx
 have hus:=rv.zero
 subst hus
 obtain ⟨z,its,n,r,hl,e⟩:=I.lstM hH
 obtain ⟨u,hu,ru⟩:=r.get hy
 have hy':its.toArray[its.toArray.size - 1]?=some u:=by
  show its.toArray[its.length - 1]?=some u
  rw [<- Array.getElem?_toList,<- hl]
  exact hu
 refine R0 F.slot_list_pop ⟨_,e,rfl⟩ F.entry_list_pop (F.args_list_pop_1 _) (MeetsSeq.list_pop_last l its.toArray n u hy' (by rw [Pe];omega)) ⟨e,?_⟩
 refine ⟨y,_,I.lset (its':=its.dropLast) hH e ?_ r.dropLast ?_,ru,q⟩
 ·show its.toArray.eraseIdxIfInBounds (its.toArray.size - 1)=its.dropLast.toArray
  rw [Pe,List.eraseIdxIfInBounds_toArray,Zi1]
 ·rw [List.length_dropLast]
  omega
noncomputable def rCat:R2:=fun x y H Q=>∃ l b xs zs,x=.ref l/\y=.ref b/\H l=some (.lst xs)/\H b=some (.lst zs)/\xs.length+zs.length<=sizeLine/\∀ p,H p=none->Q (.ref p) (upd H p (.lst (xs++zs)))
theorem op_cat:OpR X (binaryOp .Add) rCat:=by
 intro pins s σ H x y v u Q I rx ry h
 obtain ⟨l,b,xs,zs,rfl,rfl,hH,hB,hz,q⟩:=h
 cases rx
 cases ry
 obtain ⟨z,its,n,r,hl,e⟩:=I.lstM hH
 obtain ⟨z2,its2,n2,r2,hl2,e2⟩:=I.lstM hB
 refine PySem.P.add_list e e2 ?_ (by rw [Pe,Pe];omega)
 have ea:its.toArray++its2.toArray=(its++its2).toArray:=by simp
 rw [ea]
 exact ⟨.ref _,_,I.lnew (t':=s.toks) (r.append r2) (by rw [Pg];omega),rfl,q _ I.fresh⟩
noncomputable def rRep:R2:=fun x y H Q=>∃ l k xs,x=.ref l/\y=.int k/\H l=some (.lst xs)/\-(2 ^ 63)<=k/\k < 2 ^ 63/\xs.length * k.toNat<=sizeLine /\
 ∀ p,H p=none->Q (.ref p) (upd H p (.lst (Qg k.toNat xs).flatten))
theorem Zpj {α:Type}(xs:List α)(k:Nat):(Qg k xs).flatten.length=k * xs.length:=by
 induction k with
 | zero=>simp
 | succ k ih=>rw [Sv,Ui,Pg,ih,Nat.succ_mul,U8]
theorem Znr:OpR X (binaryOp .Mult) rRep:=by
 intro pins s σ H x y v u Q I rx ry h
 obtain ⟨l,k,xs,rfl,rfl,hH,h1,h2,hz,q⟩:=h
 cases rx
 obtain ⟨t,rfl⟩:=ry
 obtain ⟨z,its,n,r,hl,e⟩:=I.lstM hH
 have hlen:its.toArray.size * k.toNat<=sizeLine:=by rw [Pe,<- hl];exact hz
 have hcap:¬ its.toArray.size * k.toNat > (2 ^ 63 - 1) / 8:=by
  have:(sizeLine:Nat)<=(2 ^ 63 - 1) / 8:=by decide
  omega
 have hfit:¬ (!Builtin.List.listFitsIndex k)=true:=by
  rw [fitsIndex_both h1 h2]
  exact Pi
 have hlong:¬ Tw (its.toArray.size * k.toNat)=true:=by
  rw [Zf5 hlen]
  exact Pi
 have hnew:List.foldl (fun x1 x2=>x1++x2) #[] (Qg (if its.toArray.isEmpty=true then 0 else k.toNat) its.toArray)=(Qg k.toNat its).flatten.toArray:=by
  have f0:∀ m:Nat,List.foldl (fun x1 x2=>x1++x2) #[] (Qg m its.toArray)=(Qg m its).flatten.toArray:=fun m=>by
   have:=Zem its m []
   rw [List.nil_append] at this
   exact this
  rw [f0]
  cases its with
  | nil=>simp
  | cons a r'=>rw [if_neg (by simp)]
 refine wpAny_binaryOp_repeat_ref (T := "list") (U := "int") (by decide) ⟨_,e,rfl⟩ (fun s'=>typeIs_int s' k t) noFill_list_mul F.fills_int_mul F.slot_int_rmul repeat_list F.slot_int_index.lookup
  (R0 F.slot_int_rmul (typeIs_int s k t) F.entry_int_rmul (F.args_int_rmul_2 _ _) (int___rmul___int_list k t l its.toArray n)
   ⟨e,rfl,⟨_,e,rfl⟩,R0 F.slot_list_mul ⟨_,e,rfl⟩ F.entry_list_mul (F.args_list_mul_2 _ _) (AutoListH.list___mul___list_int_3 l its.toArray n k t hfit hcap hlong) ⟨e,?_⟩⟩)
 rw [hnew]
 exact ⟨.ref _,_,I.lnew (t':=s.toks) (r.rep k.toNat) (by rw [Zpj,Nat.mul_comm];exact hz),rfl,q _ I.fresh⟩
end
section
variable {prog:Program}{w:World}{A:Around}{E:Value->Shared->Prop}{s:Shared}
end
section
variable {X:Cx}
end
end L2
namespace Att
open PySem PySem.W PySem.Calls PyProof.Rows
theorem Zll {P:Params}{h:Heap}:∀(ns:List Int)(vs:List Value),WellAll P h vs (ns.map WData.int)->IntsAre vs ns:=by
 intro ns
 induction ns with
 | nil =>
  intro vs w
  rw [Ro] at w
  cases w
  exact .nil
 | cons n ns ih =>
  intro vs w
  rw [Qb] at w
  cases w with
  | cons a b =>
   cases a
   exact .cons _ _ (ih _ b)
theorem Zmr {l:OpenLaw}{n:Nat}(hn:l.most=some n){P:Params}{h:Heap}{args:List WData}{vals:List Value}
  (hpre:l.row.toRowW.claim.pre args=true) (hwl:WellAll P h vals args) :
  ∃ a vs ns,vals=[Value.ref a]/\args=[WData.list (ns.map WData.int)]/\h.get? a=some { cls:=.type "list",data:=.seq vs.toArray }/\IntsAre vs ns/\ns.length<=n:=by
 have hsh:WShape.hasAll [] args [.list .int]=true:=(pre_splitW hpre).1
 have hc:l.pre.holds [] { args:=args }=true:=(pre_splitW hpre).2
 obtain ⟨d,r,rfl,h1,h2⟩:=hasAllW_cons hsh
 obtain rfl:=hasAllW_nil h2
 obtain ⟨xs,rfl,h3⟩:=hasW_list h1
 obtain ⟨ns,rfl⟩:=items_int h3
 have hlen:ns.length<=n:=by
  unfold OpenLaw.pre at hc
  have h4:(WTm.not (.lt (.lit (.int (n:Int))) (.len (.arg 0)))).holds [] { args:=[.list (ns.map .int)] }=true:=by
   have h4:=(holds_andW hc).1
   rw [hn] at h4
   exact h4
  have h5:=condW_of h4 (w_not (w_lt w_lit (w_len_list (w_arg rfl))))
  rw [Ph] at h5
  refine Nat.le_of_not_lt fun q=>?_
  have q':(n:Int) < ((ns.length:Nat):Int):=by omega
  first
   | (rw [decide_eq_true q'] at h5;exact absurd h5 (by decide))
   | (simp at h5;omega)
 cases hwl with
 | cons w1 w2 =>
  cases w2
  cases w1 with
  | list ho hall=>exact ⟨_,_,ns,rfl,rfl,ho,Zll ns _ hall,hlen⟩
theorem Zgn (l:OpenLaw)(args:List WData):l.row.toRowW.claim.post args (.bool true) args=true :=
 postW_of (r:=l.row.toRowW) (X:=(true == true))
  (show WShape.has [] (.bool true) .bool=true by first | rfl | decide | simp [WShape.has,WShape.arms,WShape.armsAll])
  (show (WTm.eq .res (.lit (.bool true))).value [] { args:=args,res:=some (.bool true),after:=args }=some (.bool (true == true)) from w_eq_bool (w_res rfl) w_lit) rfl
theorem attach_call {l:OpenLaw}{n:Nat}{q:Program}{loose:List Str}{XP:(Str->Option Value)->Heap->Prop}{YP:World->Heap->Prop}{d:DefRec}
  (hn:l.most=some n) (hdf:d.params.defaults=[])
  (call:∀(w:World)(s₀ s₁:Shared)(mg mb:Str->Option Value)(fa:Addr)(o:Obj)(pm cd doc:Value)(a:Addr)(vs:List Value)(ns:List Int),
   Ground q loose [] XP w s₀ mg mb s₁.heap->YP w s₁.heap ->
   s₁.heap.get? fa=some o->o.data=.func (docDef d.name d.params d.body d.scope pm cd doc)->s₁.heap.CodeRec cd d.name->mg d.name=some (.ref fa) ->
   s₁.heap.get? a=some { cls:=.type "list",data:=.seq vs.toArray }->IntsAre vs ns->ns.length<=n->s₁.gens=#[] ->
   codeAny (model l.prog w) callerA (.call (.ref fa) ⟨[.ref a],[]⟩) (fun r s'=>r=.ok (.ret (.bool true))/\OldK s₁.heap s'.heap/\s'.os=s₁.os/\AllBare s'.gens) s₁) :
  WalkO q loose XP YP l.row.toRowW d [] (fun f vs=>PySem.call f vs):=by
 intro w s₀ s₁ mg mb G Y fa o pm cd doc dV kV ho hd hcd hD hmg hg args vals as hpre hlay hrd hwl hlo
 obtain rfl:dV=.none:=Dflts.none hD hdf
 obtain rfl:kV=.none:=Dflts.noKw hD
 obtain ⟨a,vs,ns,rfl,rfl,hobj,hints,hlen⟩:=Zmr hn hpre hwl
 refine enter_call (Sh (call w s₀ s₁ mg mb fa o pm cd doc a vs ns G Y ho (fd_plain hd) hcd hmg hobj hints hlen hg) fun r s' hq=>?_)
 obtain ⟨rfl,h2,h3,h4⟩:=hq
 exact ⟨.inl ⟨.bool true,.bool true,[],rfl,fun _=>rfl,.bool true,Zgn l _,fun _=>⟨List.Pairwise.nil,fun _ hm=>(nomatch hm)⟩⟩,h2,h3,h4⟩
section
variable {prog:Program}{w:World}{A:Around}{E:Value->Shared->Prop}{s:Shared}{K:Frag}
end
end Att
namespace L2
open PySem PySem.Spec PyProof.Rows
theorem Zc6:∀{vs:List Value}{ns:List Int},IntsAre vs ns->Vals (ns.map V.int) vs
 | _,_,.nil=>.nil
 | _,_,.cons n t h=>.cons ⟨t,rfl⟩ (Zc6 h)
noncomputable def Oa (H:Hp):Prop:=∀ b,H b=none\/∃ o xs,H b=some (.frz o (.lst xs))
theorem Zmy {P:Program}{w:World}{K:O6}{mg mb:Str->Option Value}{CX:Co}{k:Nat}{fa a:Addr}{fd:FuncData}{x:Str}{sp:Sp}{s₁:Shared}{vs:List Value}{ns:List Int}
  (KX:K.In s₁.heap) (hns:s₁.heap.Ns mainGlobals mg) (hb:s₁.heap.Ns builtinsNs mb) (hbb:∀ x:Str,x ≠ "__name__" -> mb x=bootBuiltins x) (hlim:s₁.heap.NoLimit) (hg:s₁.gens=#[])
  (ha:s₁.heap.get? a=some { cls:=.type "list",data:=.seq vs.toArray }) (hi:IntsAre vs ns) (hl:ns.length<=sizeLine) (hr:Room k callerA)
  (F:∀ base:Heap,K.In base->base.Ns mainGlobals mg->Az P w K mg base CX k fa fd [x] sp) (hbind:∀(s:Shared)(u:Value),BindsTo s fd ⟨[u],[]⟩ [(x,u)])
  (hsp:∀ H:Hp,Oa H->SqL K H a (ns.map V.int)->sp [.ref a] H (fun v _=>v=.bl true) fun _ _ _=>False)
  (hCX:∀ H e s',CX [] H s₁ (fun _ _ _=>False) e s'->False) :
  codeAny (model P w) callerA (.call (.ref fa) ⟨[.ref a],[]⟩) (fun r s'=>r=.ok (.ret (.bool true))/\OldK s₁.heap s'.heap/\s'.os=s₁.os/\AllBare s'.gens) s₁:=by
 have rv:=Zc6 hi
 have lenV:=hi.length
 have core:∀ H:Hp,Oa H->SqL K H a (ns.map V.int)->HOk P w H s₁.heap->(∀ b,H b≠none->b=a)->(H a≠none->K.lookup a=none) ->
   codeAny (model P w) callerA (.call (.ref fa) ⟨[.ref a],[]⟩) (fun r s'=>r=.ok (.ret (.bool true))/\OldK s₁.heap s'.heap/\s'.os=s₁.os/\AllBare s'.gens) s₁:=by
  intro H hO hS hok hA hK
  have base_of:∀{b:Addr}{o:Obj},s₁.heap.get? b=some o->H b=none->(Fs s₁.heap H).get? b=some o:=fun e n=>Zqy e n
  have noA:∀{b:Addr}{o:Obj}{es:Array DictEntry}{ep:Nat},s₁.heap.get? b=some o->o.data=.dict es ep->H b=none:=fun {b o es ep} e d=>by
   cases q:H b with
   | none=>rfl
   | some u =>
    have e':b=a:=hA b (by rw [q];simp)
    subst e'
    rw [ha] at e;cases e
    have d':Data.seq vs.toArray _=Data.dict es ep:=d
    cases d'
  have nsK:∀{b:Addr}{m:Str->Option Value},s₁.heap.Ns b m->(Fs s₁.heap H).Ns b m:=fun {b m} ⟨o,es,ep,e,d,r⟩=>⟨o,es,ep,base_of e (noA e d),d,r⟩
  have hKb:K.In (Fs s₁.heap H):=fun b o e=>base_of (KX b o e) (by
   cases q:H b with
   | none=>rfl
   | some u =>
    have e':b=a:=hA b (by rw [q];simp)
    subst e'
    rw [hK (by rw [q];simp)] at e;cases e)
  have hM:Mod K mg (Fs s₁.heap H):=⟨hKb,nsK hns,⟨mb,nsK hb,hbb⟩,let ⟨mc,h1,h2⟩:=hlim;⟨mc,nsK h1,h2⟩⟩
  have e0:Env0 P w K mg (Fs s₁.heap H) callerA [] s₁ H:=⟨rfl,hM,fun b o e=>Zkc e,Nat.le_of_eq (Zjp _ _),trivial,fun b hb=>absurd (show b∈([]:List Addr) from hb) (by simp),hok,.of_eq hg⟩
  refine Sh ((F _ hKb (nsK hns)).run callerA [] s₁ H ⟨[.ref a],[]⟩ [.ref a] [.ref a] _ _ hr e0 (hbind s₁ (.ref a)) (.cons rfl .nil) (hsp H hO hS)) fun r s' h=>?_
  cases r with
  | error e=>exact (hCX H e s' h).elim
  | ok fl =>
   cases fl with
   | next=>exact P9 h
   | brk=>exact P9 h
   | cont=>exact P9 h
   | ret u =>
    obtain ⟨v,H',os,bare,un,hok',r',q⟩:=h
    have q':v=.bl true:=q
    subst q'
    obtain rfl:u=Value.bool true:=r'
    refine ⟨rfl,OldK.of_keep fun b o e=>?_,os,bare⟩
    cases q:H b with
    | none=>exact un.keep b o e q (by intro z;exact absurd (show b∈([]:List Addr) from z) (by simp)) (by simp)
    | some u =>
     rcases hO b with z | ⟨ob,xs,z⟩
     ·rw [q] at z;cases z
     ·have z2:=un.frzs b ob _ z
      obtain ⟨e1,_⟩:=hok b _ z
      obtain ⟨e2,_⟩:=hok' b _ z2
      rw [e] at e1;cases e1
      exact e2
 cases hk:K.lookup a with
 | some o =>
  have e:=KX a o hk
  rw [ha] at e
  cases e
  refine core (fun _=>none) (fun _=>.inl rfl) (.inr ⟨_,vs.toArray,_,hk,rfl,rfl,rfl,by rw [Pe,lenV];exact hl,by simpa using rv⟩) (fun b u z=>by have z':(none:Option HO)=some u:=z;cases z') (fun b z=>absurd rfl z) fun z=>absurd rfl z
 | none =>
  refine core (fun b=>if b=a then some (.frz { cls:=.type "list",data:=.seq vs.toArray } (.lst (ns.map V.int))) else none) (fun b=>?_) (.inl (.inr ⟨{ cls:=.type "list",data:=.seq vs.toArray },if_pos rfl⟩)) (fun b u z=>?_) (fun b z=>?_) fun _=>hk
  ·by_cases hb:b=a
   ·exact .inr ⟨_,_,if_pos hb⟩
   ·exact .inl (if_neg hb)
  ·by_cases hb:b=a
   ·have z':=(if_pos hb).symm.trans z
    cases z'
    subst hb
    exact ⟨ha,by rw [Ph];exact hl,vs,_,rv,ha⟩
   ·have z':=(if_neg hb).symm.trans z
    cases z'
  ·by_cases hb:b=a
   ·exact hb
   ·exact absurd (if_neg hb) z
theorem walk_of {l:V4}{n k:Nat}{q:Program}{loose:List Str}{XP:(Str->Option Value)->Heap->Prop}{YP:World->Heap->Prop}{d:DefRec}{K:Params->O6}{CX:World->Co}{sp:World->Sp}{x:Str}
  (hn:l.most=some n) (hn2:n<=sizeLine) (hdf:d.params.defaults=[]) (hr:Room k callerA)
  (hY:∀(w:World)(h:Heap),YP w h->(K w.params).In h)
  (F:∀(w:World)(mg:Str->Option Value)(fa:Addr)(h:Heap),(K w.params).In h->h.Ns mainGlobals mg->mg d.name=some (.ref fa) ->
   ∃ fd:FuncData,(∀(s:Shared)(u:Value),BindsTo s fd ⟨[u],[]⟩ [(x,u)]) /\
    ∀ base:Heap,(K w.params).In base->base.Ns mainGlobals mg->Az l.prog w (K w.params) mg base (CX w) k fa fd [x] (sp w))
  (hsp:∀(w:World)(H:Hp)(a:Addr)(ns:List Int),ns.length<=n->Oa H->SqL (K w.params) H a (ns.map V.int)->sp w [.ref a] H (fun v _=>v=.bl true) fun _ _ _=>False)
  (hCX:∀(w:World)(H:Hp)(s:Shared)(e:Value)(s':Shared),CX w [] H s (fun _ _ _=>False) e s'->False) :
  PySem.W.WalkO q loose XP YP l.row.toRowW d [] (fun f vs=>PySem.call f vs):=by
 refine Att.attach_call hn hdf fun w s₀ s₁ mg mb fa o pm cd doc a vs ns G Y ho hd hcd hmg hobj hints hlen hg=>?_
 have KX:=hY w _ Y
 obtain ⟨fd,hb,hF⟩:=F w mg fa _ KX G.T.g hmg
 exact Zmy KX G.T.g G.T.b G.T.builtins G.T.nolimit hg hobj hints (P8 hlen hn2) hr hF hb (fun H hO hS=>hsp w H a ns hlen hO hS) fun H e s'=>hCX w H s₁ e s'
noncomputable def Gu (s:Stmt):Arguments:=match s with
 | .FunctionDef _ a _ _ _ _ _ _ _ _=>a
 | _=>{ posonlyargs:=[],args:=[],vararg:=none,kwonlyargs:=[],kw_defaults:=[],kwarg:=none,defaults:=[] }
noncomputable def E8 (s:Stmt):List Stmt:=match s with
 | .FunctionDef _ _ b _ _ _ _ _ _ _=>b
 | _=>[]
noncomputable def A9 (s:Stmt):Scope:=match s with
 | .FunctionDef _ _ _ _ _ _ sc _ _ _=>sc
 | _=>{ kind:=.function,names:=[],isGenerator:=false,isCoroutine:=false }
noncomputable abbrev Aw:Co:=fun _ _ _ _ _ _=>False
noncomputable abbrev E0:XK:=fun _ _ _=>False
theorem Dp {X:Cx}:Fv Aw X E0:=fun _ _ _ _ _ _ _ h=>h.elim
structure Fun (K:O6)(x qual:Str)(st:Stmt)(f:Addr)(fd:FuncData):Prop where
 ex:∃(oc:Value)(od:Option Addr)(kV doc pm:Value)(an:Option Addr)(cdv ct:Value)(osl:Array (Option Value)),
  fd=Rn x qual (Gu st) (E8 st) (A9 st) .none kV doc pm an cdv ct/\K.lookup f=some ⟨oc,od,.func fd,osl⟩/\PySem.W.codeIn K cdv qual=true
 kp:Q3 K (.ref f)=true
section
variable {P:Program}{w:World}{K:O6}{mg:Str->Option Value}{base:Heap}
theorem Fun.ok {x qual:Str}{st:Stmt}{f:Addr}{fd:FuncData}{N ps:List Str}{k:Nat}{sp:Sp}(F:Fun K x qual st f fd)(S:Bl N ps (A9 st))(len:∀ vs H Q E,sp vs H Q E->vs.length=ps.length)
  (hbody:∀(cdv:Value)(A:Around)(outer:List Env)(s:Shared)(H:Hp)(vs:List V)(Q:VK)(E:XK),Room k (A.deeper (envOfC qual (A9 st) s.heap.objs.size f cdv))->sp vs H Q E ->
   ∃ t,PSs (D8 Aw P w K mg base N qual (A9 st) f cdv A outer s H E).nox (E8 st) t/\t { nx:=fun _ H'=>Q .non H',rt:=Q } (E7 N vs) H):Az P w K mg base Aw (k+1) f fd ps sp:=by
 obtain ⟨oc,od,kV,doc,pm,an,cdv,ct,osl,rfl,lk,hcd⟩:=F.ex
 refine Zfh lk hcd S len fun A outer s H vs Q E hr hsp=>?_
 obtain ⟨t,h,q⟩:=hbody cdv A outer s H vs Q E hr hsp
 exact ⟨t,h.nox,q⟩
theorem Fun.binds {x qual:Str}{st:Stmt}{f:Addr}{fd:FuncData}{ps:List Str}(F:Fun K x qual st f fd)
  (h:∀(kV doc pm:Value)(an:Option Addr)(cdv ct:Value)(us:List Value),us.length=ps.length->bindArgs (Rn x qual (Gu st) (E8 st) (A9 st) .none kV doc pm an cdv ct) ⟨us,[]⟩=pure (ps.zip us)):Binds K fd ps []:=by
 obtain ⟨oc,od,kV,doc,pm,an,cdv,ct,osl,rfl,lk,hcd⟩:=F.ex
 exact .all (h kV doc pm an cdv ct)
theorem fun_mk {x qual:Str}{st:Stmt}{f:Addr}{oc:Value}{od an:Option Addr}{osl:Array (Option Value)}{kV doc pm cdv ct:Value}(l:K.lookup f=some ⟨oc,od,.func (Rn x qual (Gu st) (E8 st) (A9 st) .none kV doc pm an cdv ct),osl⟩)
  (c:PySem.W.codeIn K cdv qual=true) (k:Q3 K (.ref f)=true):Fun K x qual st f (Rn x qual (Gu st) (E8 st) (A9 st) .none kV doc pm an cdv ct):=⟨⟨oc,od,kV,doc,pm,an,cdv,ct,osl,rfl,l,c⟩,k⟩
end
section
variable {X:Cx}
end
theorem iteF {A B:Prop}(h:B):if false=true then A else B:=by
 rw [if_neg Pi]
 exact h
theorem iteT {A B:Prop}(h:A):if true=true then A else B:=by
 rw [if_pos rfl]
 exact h
theorem Bb {c A B:Prop}[Decidable c](h1:c->A)(h2:¬ c->B):if c then A else B:=by
 by_cases h:c
 ·rw [if_pos h]
  exact h1 h
 ·rw [if_neg h]
  exact h2 h
noncomputable def Same (H H':Hp):Prop:=∀ b o,H b=some o->H' b=some o
theorem Same.refl (H:Hp):Same H H:=fun _ _ h=>h
theorem Same.trans {H H1 H2:Hp}(a:Same H H1)(b:Same H1 H2):Same H H2:=fun c o h=>b c o (a c o h)
theorem Same.free {H H':Hp}(e:Same H H'){l:Addr}(h:H' l=Option.none):H l=Option.none:=by
 cases q:H l with
 | none=>rfl
 | some o =>
  rw [e l o q] at h
  cases h
theorem Same.seq {K:O6}{H H':Hp}{a:Addr}{xs:List V}(e:Same H H')(h:SqL K H a xs):SqL K H' a xs:=by
 rcases h with (h | ⟨o,h⟩) | h
 ·exact .inl (.inl (e _ _ h))
 ·exact .inl (.inr ⟨o,e _ _ h⟩)
 ·exact .inr h
end L2
set_option maxHeartbeats 8000000
namespace L2
open PySem PySem.Spec PyProof.Rows
noncomputable def D5 (env:Env):List (Str×NameKind)->List (Str×Addr)->List (Str×Addr)
 | [],acc=>acc
 | (n,k)::r,acc=>D5 env r (if k == .free then (match env.cells.lookup n with | some a=>(n,a)::acc | none=>acc) else acc)
theorem Oz {env:Env}:∀{ns:List (Str×NameKind)}{acc:List (Str×Addr)}{x:Str}{c:Addr},(∀ x c,acc.lookup x=some c->env.cells.lookup x=some c)->(D5 env ns acc).lookup x=some c->env.cells.lookup x=some c
 | [],acc,x,c,h,e=>h x c e
 | (n,k)::r,acc,x,c,h,e=>by
  refine Oz (ns:=r) ?_ e
  intro y d
  split
  ·split
   ·rename_i a ha
    intro q
    rw [Rl] at q
    split at q
    ·rename_i hy
     have hy':y=n:=by simpa using hy
     subst hy'
     rw [ha];exact q
    ·exact h y d q
   ·exact h y d
  ·exact h y d
theorem Zdi {env:Env}:∀{ns:List (Str×NameKind)}{acc:List (Str×Addr)}{x:Str},(acc.lookup x).isSome=true->((D5 env ns acc).lookup x).isSome=true
 | [],acc,x,h=>h
 | (n,k)::r,acc,x,h=>by
  refine Zdi (ns:=r) ?_
  split
  ·split
   ·rw [Rl]
    split
    ·rfl
    ·exact h
   ·exact h
  ·exact h
theorem Zgb {env:Env}:∀{ns:List (Str×NameKind)}{acc:List (Str×Addr)}{x:Str},(x,NameKind.free)∈ns->(env.cells.lookup x).isSome=true->((D5 env ns acc).lookup x).isSome=true
 | [],acc,x,h,_=>by cases h
 | (n,k)::r,acc,x,h,hc=>by
  rcases Pd.mp h with e | e
  ·cases e
   refine Zdi (ns:=r) ?_
   obtain ⟨a,ha⟩:=R5.mp hc
   rw [if_pos (by rfl),ha]
   show (Rc n ((n,a)::acc)).isSome=true
   rw [Rl]
   simp
  ·exact Zgb (ns:=r) e hc
theorem Zeh {scope:Scope}{env:Env}(h:∀ x∈scope.names,x.2=.free->(env.cells.lookup x.1).isSome=true):closureFor scope env=pure (D5 env scope.names []):=by
 have all:∀(ns:List (Str×NameKind))(acc:List (Str×Addr)),(∀ x∈ns,x.2=.free->(env.cells.lookup x.1).isSome=true) ->
   (forIn ns acc fun (x:Str×NameKind) (cs:List (Str×Addr))=>(if (x.2 == NameKind.free)=true then do let a <- cellOf env x.1;pure (ForInStep.yield ((x.1,a)::cs)) else pure (ForInStep.yield cs):Sem (ForInStep (List (Str×Addr)))))=pure (D5 env ns acc):=by
  intro ns
  induction ns with
  | nil=>intro acc _;rfl
  | cons x r ih =>
   intro acc hx
   obtain ⟨n,k⟩:=x
   rw [Ta]
   by_cases hk:(k == NameKind.free)=true
   ·obtain ⟨a,ha⟩:=R5.mp (hx (n,k) Ue (by simpa using hk))
    have ha:env.cells.lookup n=some a:=ha
    have hcell:cellOf env n=pure a:=by unfold cellOf;rw [ha]
    simp only [hk,if_true,hcell]
    refine Eq.trans (ih ((n,a)::acc) fun y hy=>hx y (Rh _ hy)) ?_
    conv=>rhs;unfold D5
    simp only [hk,if_true,ha]
   ·simp only [hk]
    refine Eq.trans (ih acc fun y hy=>hx y (Rh _ hy)) ?_
    conv=>rhs;unfold D5
    simp only [hk]
    rfl
 unfold closureFor
 exact (by
  have:=all scope.names [] h
  first | exact this | (simp only [bind_pure] ;exact this) | simpa using this)
noncomputable def C9 (X:Cx)(scope:Scope)(C:Addr)(N:List Str)(s₀:Shared)(H₀:Hp)(ex:List Addr):Cx where
 prog:=X.prog
 w:=X.w
 K:=X.K
 mg:=X.mg
 base:=X.base
 A:=X.A
 N:=N
 s₀:=s₀
 H₀:=H₀
 env:=compEnvC scope (D5 X.env scope.names []) C X.env
 outer:=X.stack
 stack:=X.stack
 ex:=ex
 fn:=fun _=>false
 calm:=X.calm
 pn:=[]
 xe:=fun _ _=>False
structure G9 (sc:Scope)(env:Env):Prop where
 kind:sc.kind=.function
 nocell:∀ y∈sc.names,y.2≠.cell
 loc:∀ y∈sc.names,y.2=.local->sc.names.lookup y.1=some .local
 free:∀ x∈sc.names,x.2=.free->(env.cells.lookup x.1).isSome=true
theorem Md {env:Env}:∀{names:List (Str×NameKind)}{x:Str}{k:NameKind},((names.map fun (n,k)=>if (k == NameKind.free && env.scope.kind == .function && env.kindOf n == some .cell) then (n,NameKind.cell) else (n,k)).lookup x=some k) ->
  ∃ k',names.lookup x=some k'/\(k'=k\/(k'=.free/\k=.cell))
 | [],x,k,h=>by simp at h
 | (n,q)::r,x,k,h=>by
  have ih:=@Md env r x k
  have h:Rc x ((if (q == NameKind.free && env.scope.kind == .function && env.kindOf n == some .cell)=true then (n,NameKind.cell) else (n,q))::_)=some k:=h
  rw [Rl]
  cases hx:x == n with
  | true =>
   by_cases hc:(q == NameKind.free && env.scope.kind == .function && env.kindOf n == some .cell)=true
   ·rw [if_pos hc] at h
    simp only [Rl,hx] at h
    refine ⟨q,rfl,.inr ⟨?_,(P5 h).symm⟩⟩
    simp only [Rk] at hc
    simpa using hc.1.1
   ·rw [if_neg hc] at h
    simp only [Rl,hx] at h
    exact ⟨q,rfl,.inl (P5 h)⟩
  | false =>
   by_cases hc:(q == NameKind.free && env.scope.kind == .function && env.kindOf n == some .cell)=true
   ·rw [if_pos hc] at h
    simp only [Rl,hx] at h
    exact ih h
   ·rw [if_neg hc] at h
    simp only [Rl,hx] at h
    exact ih h
noncomputable def Fz (X:Cx)(scope:Scope)(N:List Str)(σ σ0:St):Prop :=
 σ0.length=N.length/\∀(i:Nat)(x:Str)(v:V),N[i]?=some x->σ0[i]?=some (some v)->∃ j:Nat,X.N[j]?=some x/\σ[j]?=some (some v)/\scope.names.lookup x=some .free/\(X.env.kindOf x=some .cell\/X.env.kindOf x=some .free)
section
variable {X:Cx}
theorem Zi9 {scope:Scope}{N:List Str}{pins:List (Addr×Obj)}{σ σ0:St}{H:Hp}{s:Shared}{h':Heap}{tk:Nat}{fp:List Addr}(I:Inv X pins σ H s)(S:G9 scope X.env)(hf:∀ b∈fp,FpOk X pins H b)(hlt:∀ b∈fp,b < s.heap.objs.size)
  (T:Fz X scope N σ σ0) (hn:h'.Ns s.heap.objs.size (fun _=>none)) (hk:∀ b o,s.heap.get? b=some o->h'.get? b=some o) :
  Inv (C9 X scope s.heap.objs.size N s H fp) [] σ0 H { s with heap:=h',toks:=tk }:=by
 have subC:∀ x c,(D5 X.env scope.names []).lookup x=some c->X.env.cells.lookup x=some c:=fun x c e=>Oz (ns:=scope.names) (acc:=[]) (fun y d z=>by simp at z) e
 have hasC:∀ x,scope.names.lookup x=some .free->∃ c,(D5 X.env scope.names []).lookup x=some c:=fun x e=>by
  have m:=Rr e
  exact R5.mp (Zgb m (S.free _ m rfl))
 have fsN:∀ b∈fp,b ∉ Bs X.stack:=fun b hb z=>by
  obtain ⟨_,f1,f2,_⟩:=hf b hb
  rcases Pd.mp (I.stkSub b z) with e | e
  ·exact f1 e
  ·exact f2 e
 have kinds:∀ x,((relabel scope X.env).names.lookup x=some .cell\/(relabel scope X.env).names.lookup x=some .free)->scope.names.lookup x=some .free:=fun x hx=>by
  rcases hx with hx | hx
  ·obtain ⟨k',e,q⟩:=Md hx
   rcases q with q | ⟨q,_⟩
   ·subst q
    exact absurd rfl (S.nocell _ (Rr e))
   ·rw [e,q]
  ·obtain ⟨k',e,q⟩:=Md hx
   rcases q with q | ⟨_,q⟩
   ·rw [e,q]
   ·cases q
 have noex:∀ b o,X.base.get? b=some o->b ∉ fp:=fun b o e hb=>by
  obtain ⟨_,_,_,f3,_⟩:=hf b hb
  rcases f3 with z | z
  ·exact I.ok.noex b o e z
  ·exact absurd (Pt (Pf e) (P8 I.ok.bsz z)) (Qt _)
 refine ⟨⟨I.ok.mod,S.kind,I.ok.glob,I.ok.blt,O9 _,fun x y c e1 e2=>I.ok.inj x y c (subC x c e1) (subC y c e2),fun x hx=>hasC x (kinds x hx),fun x c z=>absurd (show false=true from z) Pi,I.ok.hd,I.ok.frames,.inl rfl,
   fun b hb=>⟨Pn (hlt b hb),fun x c e=>(hf b hb).2.2.2.2.1 x c (subC x c e)⟩,I.bs,P8 I.ok.bsz I.sz,noex,fsN,I.stack,I.stkFree⟩,
  rfl,I.bare,Un.kept hk,⟨_,hn,fun i x v e1 e2 e3=>?_⟩,fun x c e=>?_,I.hok.fresh (O9 _),fun x c e=>I.freeC x c (subC x c e),fun p hp=>absurd (show p∈([]:List (Addr×Obj)) from hp) (by simp),I.hok.kept hk,T.1⟩
 ·obtain ⟨j,hj,hs,hfr,hkd⟩:=T.2 i x v e1 e2
  obtain ⟨m,_,hl⟩:=I.loc
  obtain ⟨u,r,l⟩:=hl j x v hj hs (hkd.elim (fun z=>Or.inr (Or.inl z)) fun z=>Or.inr (Or.inr z))
  refine ⟨u,r,.inr ⟨?_,?_⟩⟩
  ·show (relabel scope X.env).names.lookup x=some .cell\/(relabel scope X.env).names.lookup x=some .free
   rcases e3 with z | z | z
   ·obtain ⟨k',e,q⟩:=Md (show (relabel scope X.env).names.lookup x=some .local from z)
    rw [hfr] at e
    cases e
    rcases q with q | ⟨_,q⟩ <;> cases q
   ·exact .inl z
   ·exact .inr z
  ·obtain ⟨c,hc⟩:=hasC x hfr
   refine ⟨c,hc,?_⟩
   rcases l with ⟨k,_⟩ | ⟨_,c',e,z⟩
   ·rcases hkd with hkd | hkd <;> (rw [hkd] at k;cases k)
   ·have e':=subC x c hc
    rw [e] at e'
    cases e'
    obtain ⟨o,ho,hd⟩:=z
    exact ⟨o,hk _ o ho,hd⟩
 ·obtain ⟨v,o,ho,hd⟩:=I.cell x c (subC x c e)
  exact ⟨v,o,hk _ o ho,hd⟩
theorem Zrb {scope:Scope}{N:List Str}{pins pins':List (Addr×Obj)}{σ σ':St}{H H':Hp}{s s':Shared}{h':Heap}{fp:List Addr}(I:Inv X pins σ H s)(hf:∀ b∈fp,FpOk X pins H b)
  (I':Inv (C9 X scope s.heap.objs.size N s H fp) pins' σ' H' s') (hs:Pp s.heap.objs.size s'.heap h'):Inv X pins σ H' { s' with heap:=h' }:=by
 have hC:H' s.heap.objs.size=none:=I'.free
 have ne:∀ b o,s.heap.get? b=some o->b≠s.heap.objs.size:=fun b o e=>Pn (Pf e)
 have B:Un (Bs X.stack) fp H H' s.heap s'.heap:=I'.base
 refine I.call' (s':={ s' with heap:=h' }) (ch:=fp) I'.os ⟨fun b o e n hb hx=>?_,fun b o e n hb hx=>?_,B.free,fun b o e hx=>?_,B.tups,B.frzs,B.tbls⟩ (fun b o e=>?_) I'.bare (fun b hb=>?_)
 ·exact (hs.2 b (ne b o e)).trans (B.keep b o e n hb hx)
 ·obtain ⟨sl,q⟩:=B.slot b o e n hb hx
  exact ⟨sl,(hs.2 b (ne b o e)).trans q⟩
 ·obtain ⟨o',q⟩:=B.there b o e hx
  exact ⟨o',(hs.2 b (ne b o e)).trans q⟩
 ·refine (I'.hok b o e).stay (fun c w' hc q=>(hs.2 c ?_).trans q) (fun _ q=>q) fun _ _ q=>q
  rintro rfl
  rcases hc with rfl | hc
  ·rw [hC] at e;cases e
  ·rw [hC] at hc;cases hc
 ·obtain ⟨_,f1,_,f3,f4,f5⟩:=hf b hb
  exact ⟨f3,f1,f4,f5⟩
end
section
variable {prog:Program}{w:World}{A:Around}{R:Result->Shared->Prop}{s:Shared}
theorem Zqp {elt target iter:Expr}{ifs:List Expr}{scope:Scope}{pos:Pos}{it acc:Value}{env:Env}(I:Nat->Shared->Prop)
  (turn:∀ n s,I n s->wpAny (model prog w) A (pyNext it) (fun r s₁=>match r with
   | none=>R (.ok .next) s₁
   | some v=>wpAny (model prog w) A (letOwnedTupleGo target it v) (fun _ s₁'=>wpAny (model prog w) A (assign target env v) (fun _ s₂ =>
     wpAny (model prog w) A (forIn ifs true fun c r=>if r=true then do let ok <- isTrue c env (eval c env);pure (ForInStep.yield ok) else pure (ForInStep.yield r)) (fun ok s₃ =>
      if ok=true then wpAny (model prog w) A (eval elt env) (fun x s₄ =>
       wpAny (model prog w) A (call (.builtin "list.append") [acc,x]) (fun _ s₅=>∃ m,m < n/\I m s₅) (fun _ _=>False) s₄) (fun _ _=>False) s₃
      else ∃ m,m < n/\I m s₃) (fun _ _=>False) s₂) (fun _ _=>False) s₁') (fun _ _=>False) s₁) (fun _ _=>False) s)
  (n:Nat) (h:I n s):codeAny (model prog w) A (.compLoop (.ListComp elt [⟨target,iter,ifs,0⟩] scope pos) 0 it acc env) R s:=by
 refine codeAny_loop rfl I (fun n s hI=>?_) n h
 show wpAny _ A ((compTurn (.ListComp elt [⟨target,iter,ifs,0⟩] scope pos) 0 it acc env).onRaise (fun x=>do noteFrame x env;theTreesLotGoes x)) _ _ s
 refine wpAny_noted ?_
 rw [compTurn_list]
 have up:∀{α:Type}{t:Sem α}{Q:α->Shared->Prop}{s:Shared}{E:Value->Shared->Prop},wpAny (model prog w) A t Q (fun _ _=>False) s->wpAny (model prog w) A t Q E s:=fun h=>wpAny_noRaise h
 refine O7 (wpAny_standAt (O7 (up (Ao (turn n s hI) fun r s₁ h₁=>?_))))
 cases r with
 | none=>exact O8 h₁
 | some v =>
  refine O7 (up (Ao h₁ fun _ s₁' h₁'=>?_))
  refine O7 (up (Ao h₁' fun _ s₂ h₂=>O7 (up (Ao h₂ fun ok s₃ h₃=>?_))))
  cases ok with
  | false=>exact O8 ⟨rfl,h₃⟩
  | true =>
   exact O7 (O7 (up (Ao h₃ fun x s₄ h₄=>O7 (up (Ao h₄ fun _ s₅ h₅=>O8 (O8 ⟨rfl,h₅⟩))))))
end
noncomputable def Mr (J:It)(g:TG)(tt:TT)(te:TE)(σ0:St)(H1:Hp)(D:Addr)(Q:VK):Prop :=
 ∃ W:Nat->Nat->St->Hp->Prop,(∃ m,W 0 m σ0 (upd H1 D (.lst [])))/\∀ i m σ' H',W i m σ' H' ->
  (J.stop i H'/\Q (.ref D) H')\/(J.go i H'/\∃ N:St->Hp->Prop,(∀ σ2 H2,N σ2 H2->∃ m',m' < m/\W (i+1) m' σ2 H2)/\∀ x H2,J.yld i H' x H2->g x σ' H2 fun σ2 H3=>tt σ2 H3 fun b H4 =>
   if b=true then te σ2 H4 fun y H5=>∃ ys,H5 D=some (.lst ys)/\ys.length < sizeLine/\N σ2 (upd H5 D (.lst (ys++[y]))) else N σ2 H4)
noncomputable def J3 (wi:TI)(σ0:St->St)(g:TG)(tt:TT)(te:TE):TE:=fun σ H Q=>wi σ H fun J H1=>∀ D,H1 D=none->Mr J g tt te (σ0 σ) H1 D Q
noncomputable def Gw (X:Cx)(ifs:List Expr)(t:TT):Prop :=
 ∀(pins:List (Addr×Obj))(s:Shared)(σ:St)(H:Hp)(Q:Bool->Hp->Prop),Inv X pins σ H s->t σ H Q ->
  wpAny (model X.prog X.w) X.A (forIn ifs true fun c r=>if r=true then do let ok <- isTrue c X.env (eval c X.env);pure (ForInStep.yield ok) else pure (ForInStep.yield r)) (TP X pins σ Q) X.xe s
noncomputable def Ot:TT:=fun _ H Q=>Q true H
theorem Zoi {X:Cx}:Gw X [] Ot:=fun _ _ _ H _ I h=>wpAny_tests_nil ⟨H,I,h⟩
theorem Zp4 {X:Cx}{c:Expr}{t:TT}(h:PT X c t):Gw X [c] t:=fun pins s σ H Q I hw=>wpAny_tests_one (h pins s σ H Q I hw)
section
variable {X:Cx}{elt target iter:Expr}{ifs:List Expr}{scope:Scope}{pos:Pos}{N:List Str}{wi:TI}{σ0:St->St}{g:TG}{tt:TT}{te:TE}
theorem Zeb {pins:List (Addr×Obj)}{σ:St}{H:Hp}{s:Shared}{it:Addr}{fp:List Addr}{tn:Nat->Heap->Prop}{J:It}{Q:Addr->Hp->Prop}{RR:Value->Addr->Result->Shared->Prop}{E:Value->Shared->Prop}
  (hc:X.calm=true) (S:G9 scope X.env) (T:Fz X scope N σ (σ0 σ)) (I:Inv X pins σ H s) (Tn:Hi X.prog X.w X.K target J fp it tn) (st:tn 0 s.heap) (hf:∀ b∈fp,FpOk X pins H b)
  (hg:∀ C s H fp,PG (C9 X scope C N s H fp) target g) (ht:∀ C s H fp,Gw (C9 X scope C N s H fp) ifs tt) (he:∀ C s H fp,PE (C9 X scope C N s H fp) elt te)
  (hw:∀ D,H D=none->∃ W:Nat->Nat->St->Hp->Prop,(∃ m,W 0 m (σ0 σ) (upd H D (.lst [])))/\∀ i m σ' H',W i m σ' H' ->
   (J.stop i H'/\Q D H')\/(J.go i H'/\∃ N:St->Hp->Prop,(∀ σ2 H2,N σ2 H2->∃ m',m' < m/\W (i+1) m' σ2 H2)/\∀ x H2,J.yld i H' x H2->g x σ' H2 fun σ2 H3=>tt σ2 H3 fun b H4 =>
    if b=true then te σ2 H4 fun y H5=>∃ ys,H5 D=some (.lst ys)/\ys.length < sizeLine/\N σ2 (upd H5 D (.lst (ys++[y]))) else N σ2 H4))
  (hR:∀(D C:Addr)(H':Hp)(s':Shared)(m:Str->Option Value),s.heap.objs.size<=C->H' C=none->s'.heap.Ns C m->(∀ h',Pp C s'.heap h'->Inv X pins σ H' { s' with heap:=h' })->Q D H'->RR (.ref D) C (.ok .next) s') :
  wpAny (model X.prog X.w) X.A (newList []) (fun acc s₃=>wpAny (model X.prog X.w) X.A (newFunctionEnv scope X.env.globals (D5 X.env scope.names []) [] X.env.qual none .none (some X.env)) (fun cenv s₄ =>
   codeAny (model X.prog X.w) X.A (.compStart (.ListComp elt [⟨target,iter,ifs,0⟩] scope pos) 0 (.ref it) acc { cenv with scope:=relabel scope X.env }) (RR acc cenv.locals) s₄) E s₃) E s:=by
 refine Rj (wpAny_newFunctionEnv S.nocell (by intro y hy;simp at hy) (fun h₁ hns₁ hsb₁=>?_) S.kind)
 have hD:H s.heap.objs.size=none:=I.hok.fresh (O9 _)
 have I3:Inv X pins σ (upd H s.heap.objs.size (.lst [])) { s with heap:=s.heap.push { cls:=.type "list",dict:=none,data:=.seq ([]:List Value).toArray } }:=I.lnew (ys:=[]) (its:=[]) (t':=s.toks) .nil (by simp)
 have hlt:∀ b∈fp,b < s.heap.objs.size:=fun b hb=>by obtain ⟨o,e,_⟩:=Tn.obj _ _ st b hb;exact Pf e
 have hf3:∀ b∈fp,FpOk X pins (upd H s.heap.objs.size (.lst [])) b:=fun b hb=>⟨by rw [Ai (Pn (hlt b hb))];exact (hf b hb).1,(hf b hb).2⟩
 have hlt3:∀ b∈fp,b < ({ s with heap:=s.heap.push { cls:=.type "list",dict:=none,data:=.seq ([]:List Value).toArray } }:Shared).heap.objs.size:=fun b hb=>by
  show b < (s.heap.push _).objs.size
  rw [Qf]
  exact Nat.lt_succ_of_lt (hlt b hb)
 have hk1:∀ b o,({ s with heap:=s.heap.push { cls:=.type "list",dict:=none,data:=.seq ([]:List Value).toArray } }:Shared).heap.get? b=some o->h₁.get? b=some o:=fun b o e =>
  hsb₁.extBut b o (Pn (Pf e)) (Pc _ e)
 have I4:=Zi9 (N:=N) (tk:=s.toks+([]:List (Str×Value)).length) I3 S hf3 hlt3 T hns₁ hk1
 have st4:tn 0 h₁:=Tn.keep _ _ _ st fun b hb o e=>hk1 b o (Pc _ e)
 obtain ⟨W,⟨m0,w0⟩,turn⟩:=hw _ hD
 generalize hX:C9 X scope ({ s with heap:=s.heap.push { cls:=.type "list",dict:=none,data:=.seq ([]:List Value).toArray } }:Shared).heap.objs.size N { s with heap:=s.heap.push { cls:=.type "list",dict:=none,data:=.seq ([]:List Value).toArray } } (upd H s.heap.objs.size (.lst [])) fp=X' at I4
 have eP:X'.prog=X.prog:=by rw [<- hX];rfl
 have eW:X'.w=X.w:=by rw [<- hX];rfl
 have eK:X'.K=X.K:=by rw [<- hX];rfl
 have eA:X'.A=X.A:=by rw [<- hX];rfl
 have eC:X'.calm=true:=by rw [<- hX];exact hc
 have eX:X'.xe=fun _ _=>False:=by rw [<- hX];rfl
 have eEx:X'.ex=fp:=by rw [<- hX];rfl
 have hg':PG X' target g:=by rw [<- hX];exact hg _ _ _ _
 have ht':Gw X' ifs tt:=by rw [<- hX];exact ht _ _ _ _
 have he':PE X' elt te:=by rw [<- hX];exact he _ _ _ _
 have eE:X'.env=compEnvC scope (D5 X.env scope.names []) ({ s with heap:=s.heap.push { cls:=.type "list",dict:=none,data:=.seq ([]:List Value).toArray } }:Shared).heap.objs.size X.env:=by rw [<- hX];rfl
 have fpIn:∀{H':Hp},(∀ b∈fp,H' b=none)->∀ b∈fp,FpOk X' [] H' b:=fun {H'} hn b hb=>by
  obtain ⟨f0,f1,f2,f3,f4,f5⟩:=hf3 b hb
  rw [<- hX]
  refine ⟨hn b hb,Pn (hlt3 b hb),fun z=>?_,.inl hb,fun x c e=>f4 x c (Oz (ns:=scope.names) (acc:=[]) (fun y d z=>by simp at z) e),fun p hp=>absurd (show p∈([]:List (Addr×Obj)) from hp) (by simp)⟩
  rcases Pd.mp (I3.stkSub b z) with e | e
  ·exact f1 e
  ·exact f2 e
 have fr0:∀ b∈fp,upd H s.heap.objs.size (.lst []) b=none:=fun b hb=>(hf3 b hb).1
 have loop:codeAny (model X.prog X.w) X.A (.compLoop (.ListComp elt [⟨target,iter,ifs,0⟩] scope pos) 0 (.ref it) (.ref s.heap.objs.size) X'.env)
   (RR (.ref s.heap.objs.size) ({ s with heap:=s.heap.push { cls:=.type "list",dict:=none,data:=.seq ([]:List Value).toArray } }:Shared).heap.objs.size)
   { s with heap:=h₁,toks:=s.toks+([]:List (Str×Value)).length }:=by
  refine Zqp (fun n s'=>∃ i σ' H',Inv X' [] σ' H' s'/\tn i s'.heap/\(∀ b∈fp,H' b=none)/\W i n σ' H') ?_ m0 ⟨0,σ0 σ,_,I4,st4,fr0,w0⟩
  rintro n s5 ⟨i,σ5,H5,I5,st5,fr5,w5⟩
  rcases turn i n σ5 H5 w5 with ⟨stop,qn⟩ | ⟨go,Nx,hN,step⟩
  ·have q:=Tn.done X' eP eW eK eC i [] s5 σ5 H5 (fun _ _=>False) I5 (fpIn fr5) st5 stop
   rw [eA] at q
   refine Ao q fun r s6 zq=>?_
   obtain ⟨hr,I6⟩:=zq
   subst hr
   obtain ⟨mm,hns6,_⟩:=I6.loc
   rw [eE] at hns6
   have fr6:=I6.free
   rw [eE] at fr6
   refine hR _ _ H5 s6 mm ?_ fr6 hns6 (fun h' hs=>?_) qn
   ·show s.heap.objs.size<=(s.heap.push _).objs.size
    rw [Qf]
    exact Ve _
   ·rw [<- hX] at I6
    exact Zrb I3 hf3 I6 hs
  ·have q:=Tn.item X' eP eW eK eC i [] s5 σ5 H5 (fun _ _=>False) I5 (fpIn fr5) st5 go
   rw [eA] at q
   refine Ao q fun r s6 zq=>?_
   obtain ⟨u,hr,h6⟩:=zq
   subst hr
   refine Ao h6 fun _ s7 zq=>?_
   obtain ⟨x,H7,I7,r7,y7,st7,fr7⟩:=zq
   have I7':=I7.pinned (fpIn fr7) (Tn.obj _ _ st7)
   have q8:=hg' _ s7 σ5 H7 x u _ I7' r7 (step x H7 y7)
   rw [eP,eW,eA,eX] at q8
   refine Ao q8 fun _ s8 zq=>?_
   obtain ⟨σ8,H8,I8,q8⟩:=zq
   have q9:=ht' _ s8 σ8 H8 _ I8 q8
   rw [eP,eW,eA,eX] at q9
   refine Ao q9 fun ok s9 zq=>?_
   obtain ⟨H9,I9,q9⟩:=zq
   have again:∀{σ10:St}{H10:Hp}{s10:Shared},Inv X' ([]++J4 fp s7.heap) σ10 H10 s10->Nx σ10 H10->∃ m,m < n/\∃ i σ' H',Inv X' [] σ' H' s10/\tn i s10.heap/\(∀ b∈fp,H' b=none)/\W i m σ' H':=fun {σ10 H10 s10} J10 n10=>by
    obtain ⟨m',hm,w10⟩:=hN σ10 H10 n10
    refine ⟨m',hm,i+1,σ10,H10,J10.unpinned,Tn.keep _ _ _ st7 fun b hb o e=>(J10.pin (b,o) (Q0 _ (Q0 _ (Me hb e)))).1,fun b hb=>?_,w10⟩
    obtain ⟨o,e,d⟩:=Tn.obj _ _ st7 b hb
    exact (J10.pin (b,o) (Q0 _ (Q0 _ (Me hb e)))).2.1
   cases ok with
   | false =>
    have q9':Nx σ8 H9:=q9
    exact again I9 q9'
   | true =>
    have q9':te σ8 H9 _:=q9
    have q10:=he' _ s9 σ8 H9 _ I9 q9'
    rw [eP,eW,eA,eX] at q10
    refine Ao q10 fun y s10 zq=>?_
    obtain ⟨yv,H10,I10,r10,ys,hys,hz,n10⟩:=zq
    have q11:=(Dg (X:=X')) _ s10 σ8 H10 (.ref s.heap.objs.size) [yv] (.ref s.heap.objs.size) [y] (fun _ H11=>Nx σ8 H11) I10 rfl (.cons r10 .nil) ⟨_,ys,yv,rfl,rfl,hys,hz,n10⟩
    rw [eP,eW,eA,eX] at q11
    exact Ao q11 fun _ s11 ⟨_,H11,I11,_,n11⟩=>again I11 n11
 rw [eE] at loop
 exact codeAny_compStart_list loop (Tn.self _ 0 _ _ _ st4 loop)
theorem Zks (hc:X.calm=true)(S:G9 scope X.env)(hi:PI X target iter wi)(T:∀ σ,σ.length=X.N.length->Fz X scope N σ (σ0 σ))
  (hg:∀ C s H fp,PG (C9 X scope C N s H fp) target g) (ht:∀ C s H fp,Gw (C9 X scope C N s H fp) ifs tt) (he:∀ C s H fp,PE (C9 X scope C N s H fp) elt te)
  (hs:∀ x,foldedSetIterable iter X.env x=pure x:=by intro _;rfl):PE X (.ListComp elt [⟨target,iter,ifs,0⟩] scope pos) (J3 wi σ0 g tt te):=by
 intro pins s σ H Q I h
 rw [eval_ListComp]
 refine wpAny_comprehension_free (use:=none) rfl hs (Zeh S.free) S.kind S.loc (Ao (hi pins s σ H _ I h) fun xv s₁ h₁=>Ao h₁ fun itv s₂ h₂=>?_)
 obtain ⟨it,fp,tn,J,H2,rfl,I2,Tn,st2,f2,hw⟩:=h₂
 refine Zeb (Q:=fun D H'=>Q (.ref D) H') (RR:=fun acc C=>compPost (model X.prog X.w) X.A X.xe none (EP X pins σ Q) acc C) hc S (T σ I.len) I2 Tn st2 f2 hg ht he hw ?_
 intro D C H' s' m hC _ hn hI hq
 exact ⟨m,hn,fun h' hs'=>⟨.ref D,H',hI h' hs',rfl,hq⟩⟩
theorem Zqo {i:Nat}{y:Str}{py spos:Pos}(hc:X.calm=true)(S:G9 scope X.env)(hi:PI X target iter wi)(T:∀ σ,σ.length=X.N.length->Fz X scope N σ (σ0 σ))
  (hg:∀ C s H fp,PG (C9 X scope C N s H fp) target g) (ht:∀ C s H fp,Gw (C9 X scope C N s H fp) ifs tt) (he:∀ C s H fp,PE (C9 X scope C N s H fp) elt te)
  (hN:X.N.Nodup) (hy:X.N[i]?=some y) (hx:E6 X.env.scope y)
  (hsw:swapsWith (.ListComp elt [⟨target,iter,ifs,0⟩] scope pos) (some (.Name y py)) spos.line X.env=pure true:=by rfl)
  (hf:X.fn y=true\/X.env.scope.names.lookup y=some .local:=by first | exact .inl rfl | exact .inr rfl | assumption)
  (hs:∀ x,foldedSetIterable iter X.env x=pure x:=by intro _;rfl):PS X (.Assign [.Name y py] (.ListComp elt [⟨target,iter,ifs,0⟩] scope pos) spos) (F4 (J3 wi σ0 g tt te) (F9 i)):=by
 intro pins s σ H D I h
 rw [exec_Assign_Name_used _ _ _ _ hsw]
 refine O7 (wpAny_standAt (O7 ?_))
 show wpAny _ X.A (do let _ <- comprehension (.ListComp elt [⟨target,iter,ifs,0⟩] scope pos) scope X.env _ (newList []) false (eval iter X.env) (some (assign (.Name y py) X.env))) _ _ s
 refine O7 (Ao (wpAny_comprehension_free (use:=some (assign (.Name y py) X.env)) (Q:=fun _ s'=>SP X pins D .next s') rfl hs (Zeh S.free) S.kind S.loc
  (Ao (hi pins s σ H _ I h) fun xv s₁ h₁=>Ao h₁ fun itv s₂ h₂=>?_)) fun _ s' hq=>O8 (O8 hq))
 obtain ⟨it,fp,tn,J,H2,rfl,I2,Tn,st2,f2,hw⟩:=h₂
 refine Zeb (Q:=fun L H'=>D.nx (σ.set i (some (.ref L))) H') (RR:=fun acc C=>compPost (model X.prog X.w) X.A X.xe (some (assign (.Name y py) X.env)) (fun _ s'=>SP X pins D .next s') acc C) hc S (T σ I.len) I2 Tn st2 f2 hg ht he hw ?_
 intro L C H' s' m hC hfree hn hI hq
 have I3:Inv X pins σ H' s':=hI s'.heap (.refl ..)
 refine wpAny_assign_Name (Zd7 I3 hN hy hx (v:=.ref L) rfl (fun s4 I4 hch=>?_) hf)
 obtain ⟨a,hsb,ha⟩:=hch
 have haC:C≠a:=by
  rintro rfl
  rcases ha with e | e
  ·have:=I2.lt
   rw [<- e] at this
   exact absurd (Pt this hC) (Qt _)
  ·obtain ⟨v,z⟩:=I2.cell y _ e
   exact absurd (Pt z.lt hC) (Qt _)
 refine ⟨m,hn.sameBut hsb haC,fun h' hs'=>⟨_,H',?_,hq⟩⟩
 have e4:({ s4 with heap:=h' }:Shared)={ s4 with heap:=h',toks:=s4.toks }:=rfl
 rw [e4]
 refine I4.turned (it:=C) (fun b o hb e=>(hs'.2 b hb).trans e) hfree ?_ (.inr (P8 I2.sz hC)) ?_ ?_
 ·exact Qq (Pt I2.lt hC)
 ·rintro x c e rfl
  obtain ⟨v,z⟩:=I2.cell x _ e
  exact absurd (Pt z.lt hC) (Qt _)
 ·rintro p hp e
  exact absurd (Pt (Pf (I2.pin p hp).1) (by rw [e];exact hC)) (Qt _)
end
section
variable {X:Cx}
theorem Zh4:OpR X (compareOp .LtE) (fun x y H Q=>∃ i j,x=.str i/\y=.str j/\Q (.bl (!(decide (j.cps.toList < i.cps.toList)))) H):=by
 intro pins s σ H x y v u Q I rx ry h
 obtain ⟨i,j,rfl,rfl,q⟩:=h
 obtain ⟨t,rfl⟩:=rx
 obtain ⟨t',rfl⟩:=ry
 exact PySem.P.le_str (Br I q rfl)
theorem Zps:OpR X (compareOp .In) (fun x y H Q=>∃(c:Nat)(j:Str),x=.str ⟨#[c]⟩/\y=.str j/\Q (.bl (decide (c∈j.cps.toList))) H):=by
 intro pins s σ H x y v u Q I rx ry h
 obtain ⟨c,j,rfl,rfl,q⟩:=h
 exact Zk9 pins s σ H _ _ v u Q I rx ry ⟨_,_,rfl,rfl,by rw [StrLaws.found_one];exact q⟩
noncomputable def rSlS:V->Option Int->Option Int->Hp->VK->Prop:=fun x lo hi H Q=>∃ z,x=.str z/\z.length<=sizeLine/\Q (.str (Tl z lo hi)) H
theorem sl_str:SlR X rSlS:=by
 intro pins s σ H x v vl vu lo hi sl Q I rx hs pl pu h
 obtain ⟨z,rfl,hz,q⟩:=h
 obtain ⟨t,rfl⟩:=rx
 obtain ⟨o,ho,hc,hd⟩:=hs
 refine ⟨"str",_,slot_str_getitem.lookup,typeIs_str _ _ _,?_⟩
 cases pl with
 | none =>
  cases pu with
  | none=>exact Tz (l:=none) (u:=none) (st:=none) ⟨_,ho,hc,hd⟩ rfl (Ut ⟨P8 (U9 z _ _) hz,fun t' k=>⟨.str (Tl z _ _),H,I.tok k,⟨t',rfl⟩,q⟩⟩)
  | int j u=>exact Tz (l:=none) (u:=some (j,u)) (st:=none) ⟨_,ho,hc,hd⟩ rfl (Ut ⟨P8 (U9 z _ _) hz,fun t' k=>⟨.str (Tl z _ _),H,I.tok k,⟨t',rfl⟩,q⟩⟩)
 | int i ti =>
  cases pu with
  | none=>exact Tz (l:=some (i,ti)) (u:=none) (st:=none) ⟨_,ho,hc,hd⟩ rfl (Ut ⟨P8 (U9 z _ _) hz,fun t' k=>⟨.str (Tl z _ _),H,I.tok k,⟨t',rfl⟩,q⟩⟩)
  | int j u=>exact Tz (l:=some (i,ti)) (u:=some (j,u)) (st:=none) ⟨_,ho,hc,hd⟩ rfl (Ut ⟨P8 (U9 z _ _) hz,fun t' k=>⟨.str (Tl z _ _),H,I.tok k,⟨t',rfl⟩,q⟩⟩)
end
noncomputable def Its (z:Str):It:=⟨fun i _=>i < z.cps.size,fun i H x H'=>H'=H/\∃ c,z.cps.toList[i]?=some c/\x=.str ⟨#[c]⟩,fun i _=>i=z.cps.size⟩
theorem Zlb (z:Str):["enumerate", "zip", "dict_itemiterator", "dict_reverseitemiterator", "odict_iterator", "itertools.zip_longest", "itertools.pairwise"].contains (strIterType z)=false:=by
 unfold strIterType
 cases z.cps.all (· < 128) <;> decide
theorem Zb0 {P:Program}{w:World}{A:Around}(hh:A.handled=none)(it:Addr)(z:Str)(t:Tok):Walks P w A it [it] [it] z.cps.size (SignAt z) (fun i h=>h.IsStrIter it (strIterType z) z t i):=by
 unfold strIterType
 cases z.cps.all (· < 128)
 ·exact Walks.strWide hh it z t
 ·exact Walks.strAscii hh it z t
theorem Zol {P:Program}{w:World}{K:O6}{tg:Expr}(it:Addr)(z:Str)(t:Tok):Hi P w K tg (Its z) [it] it (fun i h=>h.IsStrIter it (strIterType z) z t i) where
 mem:=by simp
 obj:=fun i h st b hb=>by
  have e:b=it:=by simpa using hb
  subst e
  obtain ⟨o,e,c,d⟩:=st
  exact ⟨o,e,fun v z=>by rw [d] at z;cases z⟩
 keep:=fun i h h' st k=>let ⟨o,e,r⟩:=st;⟨o,k it (by simp) o e,r⟩
 item:=by
  intro X hP hw hK hc i pins s σ H E I hf st hg
  subst hP hw hK
  obtain ⟨f0,f1,f2,f3,f4,f5⟩:=hf it (by simp)
  refine (Zb0 (P:=X.prog) (w:=X.w) (I.ok.hd hc) it z t).item i s _ _ hg st fun v h' tk hv st' kk=>?_
  obtain ⟨c,u,hcu,rfl⟩:=hv
  have I1:Inv X pins σ H { s with heap:=h',toks:=tk }:=I.turned (fun b o hb e=>kk b o (by simpa using hb) e) f0 f1 f3 f4 f5
  obtain ⟨o,e,cc,d⟩:=id st'
  exact ⟨_,rfl,Kh (s:={ s with heap:=h',toks:=tk }) e cc d (Zlb z) ⟨.str ⟨#[c]⟩,H,I1,⟨u,rfl⟩,⟨rfl,c,by simpa using hcu,rfl⟩,st',fun b hb=>(hf b hb).1⟩⟩
 done:=by
  intro X hP hw hK hc i pins s σ H E I hf st hg
  subst hP hw hK
  obtain ⟨f0,f1,f2,f3,f4,f5⟩:=hf it (by simp)
  have hg:i=z.cps.size:=hg
  subst hg
  exact (Zb0 (P:=X.prog) (w:=X.w) (I.ok.hd hc) it z t).done s _ _ st fun h' tk kk=>⟨rfl,I.turned (fun b o hb e=>kk b o (by simpa using hb) e) f0 f1 f3 f4 f5⟩
 self:=fun A i s Q E st h=>by
  obtain ⟨o,e,c,d⟩:=st
  unfold strIterType at c
  cases ha:z.cps.all (· < 128)
  ·rw [ha] at c;exact wpAny_pyIter_striter_wide ⟨o,e,c,d⟩ h
  ·rw [ha] at c;exact wpAny_pyIter_striter_ascii ⟨o,e,c,d⟩ h
section
variable {X:Cx}{tg:Expr}
end
section
variable {g:TG}{tt:TT}{te:TE}{σ0:St}{H1:Hp}{D:Addr}{Q:VK}
noncomputable def Zag (g:TG)(tt:TT)(te:TE)(D:Addr)(Nx:List V->St->Hp->Prop)(x:V)(σ:St)(H:Hp):Prop :=
 g x σ H fun σ2 H3=>tt σ2 H3 fun b H4=>if b=true then te σ2 H4 fun y H5=>∃ ys,H5 D=some (.lst ys)/\ys.length < sizeLine/\(∃ zs,upd H5 D (.lst (ys++[y])) D=some (.lst zs)/\Nx zs σ2 (upd H5 D (.lst (ys++[y])))) else ∃ zs,H4 D=some (.lst zs)/\Nx zs σ2 H4
theorem Lv {K:O6}{a:Addr}{xs:List V}(Pv:Nat->List V->St->Hp->Prop)(h0:Pv 0 [] σ0 (upd H1 D (.lst [])))(hl:∀ i ys σ H,i<=xs.length->Pv i ys σ H->SqL K H a xs)
  (hs:∀ i x ys σ H,xs[i]?=some x->H D=some (.lst ys)->Pv i ys σ H->Zag g tt te D (Pv (i+1)) x σ H)
  (hd:∀ ys σ H,H D=some (.lst ys)->Pv xs.length ys σ H->Q (.ref D) H):Mr (He K a) g tt te σ0 H1 D Q:=by
 refine ⟨fun i m σ H=>m=xs.length - i/\i<=xs.length/\∃ ys,H D=some (.lst ys)/\Pv i ys σ H,⟨xs.length,by simp,Qh _,[],Ad,h0⟩,?_⟩
 rintro i m σ H ⟨rfl,hi,ys,hD,p⟩
 have q:=hl i ys σ H hi p
 by_cases hlt:i < xs.length
 ·refine .inr ⟨⟨xs,xs[i],q,by simp [hlt]⟩,fun σ2 H2=>∃ zs,H2 D=some (.lst zs)/\Pv (i+1) zs σ2 H2,fun σ' H' p'=>⟨xs.length - (i+1),by omega,rfl,hlt,p'⟩,fun x H' y=>?_⟩
  obtain ⟨e,y⟩:=y
  subst e
  exact hs i x ys σ _ (y xs q) hD p
 ·have e:i=xs.length:=by omega
  subst e
  exact .inl ⟨⟨xs,q,O9 _⟩,hd ys σ H hD p⟩
end
section
variable {X:Cx}
theorem Zdw:∀{bs:List Bool}{us:List Value},Vals (bs.map V.bl) us->us=bs.map Value.bool
 | [],_,.nil=>rfl
 | b::bs,_,.cons r t=>by
  cases r
  rw [Zdw t]
  rfl
theorem Zor {bs:List Bool}:(Pw bs.length).all (fun i=>bs.getD i true)=bs.all id:=by
 induction bs with
 | nil=>rfl
 | cons b r ih =>
  rw [Qn,List.range_succ_eq_map,Q4,List.all_map,Q4]
  have:((fun i=>(b::r).getD i true) ∘ Nat.succ)=fun i=>r.getD i true:=by
   funext i
   simp
  rw [this,ih]
  rfl
theorem Zha (hc:X.calm=true):Cu X (.builtin "all") (fun xs H Q=>∃(p:Addr)(bs:List Bool),xs=[.ref p]/\SqL X.K H p (bs.map V.bl)/\Q (.bl (bs.all id)) H):=by
 intro pins s σ H xs us Q I r h
 obtain ⟨p,bs,rfl,hq,q⟩:=h
 obtain ⟨u,rfl,ru⟩:=r.one
 cases ru
 obtain ⟨its,rv,pl,hz⟩:=I.list hq
 obtain rfl:=Zdw rv
 refine call_all_walk (Uj pl.isList ?_)
 have hlt:p < s.heap.objs.size:=by obtain ⟨o,e,_⟩:=pl.isList;exact Pf e
 have hl':(s.heap.push { cls:=.type "list_iterator",data:=.fields #[.ref p,rawInt 0] }).IsList p (bs.map Value.bool).toArray:=pl.isList.at fun o e=>Pc _ e
 refine ⟨s.heap.objs.size,_,_,_,_,_,fun i=>bs.getD i true,rfl,Walks.list (A:=X.A.in1) (show X.A.in1.handled=none from I.ok.hd hc) s.heap.objs.size p (Pn hlt) (bs.map Value.bool).toArray,⟨⟨_,Po _ rfl,rfl,rfl⟩,?_⟩,?_,?_⟩
 ·exact pl.isList.at fun o e=>Pc _ e
 ·intro i v s' Q' E' hv hQ
  have hv':(bs.map Value.bool)[i]?=some v:=by simpa using hv
  rw [Ql] at hv'
  cases e:bs[i]? with
  | none=>rw [e] at hv';cases hv'
  | some b =>
   rw [e] at hv'
   cases hv'
   have:bs.getD i true=b:=by simp [List.getD,e]
   have hQ:Q' (bs.getD i true) s':=hQ
   rw [this] at hQ
   exact Ri hQ
 ·intro h' tk hk
  have I1:Inv X pins σ H { s with heap:=s.heap.push { cls:=.type "list_iterator",data:=.fields #[.ref p,rawInt 0] } }:=I.kept (t':=s.toks) fun b o e=>Pc _ e
  have F:=I.fpOk (O9 s.heap.objs.size) (I.hok.fresh (O9 _))
  obtain ⟨f0,f1,f2,f3,f4,f5⟩:=F
  have I2:Inv X pins σ H { s with heap:=h',toks:=tk }:=Inv.turned (s:={ s with heap:=s.heap.push { cls:=.type "list_iterator",data:=.fields #[.ref p,rawInt 0] } }) (h':=h') (t':=tk) (it:=s.heap.objs.size) I1 (fun b o hb e=>hk b o (by simpa using hb) e) f0 f1 f3 f4 f5
  refine ⟨.bl (bs.all id),H,I2,?_,q⟩
  show Value.bool _=Value.bool _
  have:(bs.map Value.bool).toArray.size=bs.length:=by simp
  rw [this,Zor]
end
theorem Same.upd {H:Hp}{p:Addr}{o:HO}(h:H p=none):Same H (upd H p o):=fun b u e=>by rw [Ai (Cr e h)];exact e
theorem D4 {H:Hp}{a:Addr}(h:H a=none)(o:HO):∃ H1,Same H H1/\H1 a=some o/\upd H a o=H1:=⟨_,Same.upd h,Ad,rfl⟩
theorem Same.put {H0 H:Hp}{p:Addr}{o:HO}(s:Same H0 H)(h:H p=none):Same H0 (L2.upd H p o):=s.trans (Same.upd h)
theorem Same.over {H0 H:Hp}{p:Addr}{o:HO}(s:Same H0 H)(h:H0 p=none):Same H0 (L2.upd H p o):=fun b u e=>by rw [Ai (Cr e h)];exact s b u e
theorem Same.tup {K:O6}{H H':Hp}{a:Addr}{xs:List V}(e:Same H H')(h:SqT K H a xs):SqT K H' a xs:=by
 rcases h with (h | ⟨o,h⟩) | h
 ·exact .inl (.inl (e _ _ h))
 ·exact .inl (.inr ⟨o,e _ _ h⟩)
 ·exact .inr h
theorem Iq {sc out:Scope}{qual:Str}{n:Nat}{f:Addr}{cd:Value}(hk:sc.kind=.function)(hc:(sc.names.all fun y=>y.2 != .cell)=true)
  (hl:(sc.names.all fun y=>y.2 != .local || sc.names.lookup y.1 == some .local)=true) (hf:(sc.names.all fun y=>y.2 != .free || out.names.lookup y.1 == some .cell)=true):G9 sc (envOfC qual out n f cd) where
 kind:=hk
 nocell:=fun y hy e=>by have:=Ru.mp hc y hy;rw [e] at this;cases this
 loc:=fun y hy e=>by
  have:=Ru.mp hl y hy
  rw [e] at this
  simpa using this
 free:=fun y hy e=>by
  have h:=Ru.mp hf y hy
  rw [e] at h
  have h:out.names.lookup y.1=some .cell:=by simpa using h
  obtain ⟨c,hc⟩:=Zak (n:=n+1) h
  show ((cellsFrom (n+1) out.names []).lookup y.1).isSome=true
  rw [hc]
  rfl
noncomputable def Fb (k:Nat)(cap:List Nat)(σ:St):St:=Qg k none++cap.map fun j=>(σ[j]?).join
theorem Zod {X:Cx}{scope:Scope}{N:List Str}{k:Nat}{cap:List Nat}{σ:St}(hl:k+cap.length=N.length)
  (h:∀(i j:Nat)(x:Str),cap[i]?=some j->N[k+i]?=some x->X.N[j]?=some x/\scope.names.lookup x=some .free/\(X.env.kindOf x=some .cell\/X.env.kindOf x=some .free)):Fz X scope N σ (Fb k cap σ):=by
 refine ⟨by unfold Fb;simp [hl],fun i x v hx hv=>?_⟩
 unfold Fb at hv
 by_cases hi:i < k
 ·rw [Qa (by simpa using hi),List.getElem?_replicate,if_pos hi] at hv
  cases hv
 ·rw [P6 (by simpa using hi),List.length_replicate,Ql] at hv
  cases hj:cap[i - k]? with
  | none=>rw [hj] at hv;cases hv
  | some j =>
   rw [hj] at hv
   have hv:(σ[j]?).join=some v:=P5 hv
   obtain ⟨h1,h2,h3⟩:=h (i - k) j x hj (by rw [show k+(i - k)=i by omega];exact hx)
   refine ⟨j,h1,?_,h2,h3⟩
   cases e:σ[j]? with
   | none=>rw [e] at hv;cases hv
   | some o=>rw [e] at hv;exact congrArg some hv
theorem Ja {X:Cx}{scope:Scope}{N:List Str}{k:Nat}{cap:List Nat}(hl:k+cap.length=N.length)
  (h:((cap.zip (N.drop k)).all fun p=>X.N[p.1]? == some p.2 && scope.names.lookup p.2 == some .free && (X.env.kindOf p.2 == some .cell || X.env.kindOf p.2 == some .free))=true):∀ σ,σ.length=X.N.length->Fz X scope N σ (Fb k cap σ):=fun σ _ =>
 Zod hl fun i j x hj hx=>by
  have m:(j,x)∈cap.zip (N.drop k):=by
   refine Qs (i:=i) ?_
   rw [List.getElem?_zip_eq_some]
   exact ⟨hj,by rw [List.getElem?_drop];exact hx⟩
  have:=Ru.mp h _ m
  simp only [Rk,Bool.or_eq_true,beq_iff_eq] at this
  exact ⟨this.1.1,this.1.2,this.2⟩
theorem Np {α:Type}{xs:List α}{i:Int}(h0:0<=i)(h1:i < xs.length):∃ v,Ck xs i=some v/\v∈xs:=by
 have hj:i.toNat < xs.length:=by omega
 refine ⟨xs[i.toNat],?_,Vy hj⟩
 have:=Dc (xs:=xs) (j:=i.toNat) (v:=xs[i.toNat]) (by simp [hj])
 rwa [Int.toNat_of_nonneg h0] at this
noncomputable def N3:Expr->Option V
 | .Constant (.str x) _ _=>some (.str x)
 | .Constant (.int i) _ _=>some (.int i)
 | .Constant (.bool b) _ _=>some (.bl b)
 | .Constant .none _ _=>some .non
 | _=>none
noncomputable def Ls:List Expr->Option (List V)
 | []=>some []
 | e::es=>match N3 e,Ls es with
  | some v,some vs=>some (v::vs)
  | _,_=>none
noncomputable def N4 (xs:List V):TA:=fun _ H Q=>Q xs H
theorem Zj6 {X:Cx}{e:Expr}{v:V}(h:N3 e=some v):PE X e (tC v)/\∀ es,starEach (e::es) X.env=(false,eval e X.env)::starEach es X.env:=by
 unfold N3 at h
 split at h
 ·cases h;exact ⟨Zfo,fun _=>rfl⟩
 ·cases h;exact ⟨Zdc,fun _=>rfl⟩
 ·cases h;exact ⟨Zde,fun _=>rfl⟩
 ·cases h;exact ⟨Zdr,fun _=>rfl⟩
 ·cases h
theorem Zfm {X:Cx}:∀{es:List Expr}{xs:List V},Ls es=some xs->PA X es (N4 xs)
 | [],xs,h=>by
  have h:some []=some xs:=h
  cases h
  exact Zcg
 | e::es,xs,h=>by
  unfold Ls at h
  split at h
  ·rename_i v vs h1 h2
   cases h
   obtain ⟨p,hs⟩:=Zj6 (X:=X) h1
   exact Zfb p (Zfm h2) (hs es)
  ·cases h
structure Bo (P:Program)(w:World)(K:O6)(mg:Str->Option Value)(base:Heap)(k:Nat)(x:Str)(ps:List Str)(sp:Sp):Prop where
 ex:∃(f:Addr)(fd:FuncData),Az P w K mg base Aw k f fd ps sp/\mg x=some (.ref f)/\Q3 K (.ref f)=true/\Binds K fd ps []
section
variable {X:Cx}{k:Nat}{x:Str}{ps:List Str}{sp:Sp}{p pos:Pos}{e:Expr}{es:List Expr}{t:TA}
theorem Zo3 (C:Bo X.prog X.w X.K X.mg X.base k x ps sp)(hr:Room k X.A)(ha:PA X (e::es) t)(hg:Gl X x:=by rfl)(hdb:(x == ("__debug__" : Str))=false:=by decide)
  (he:starEach (e::es) X.env=(false,eval e X.env)::starEach es X.env:=by rfl) (hpl:(backTo pos (starEach es X.env)).any (·.1)=false:=by rfl):PE X (.Call (.Name x p) (e::es) [] pos) (Lx sp [] E0 t):=by
 obtain ⟨f,fd,F,hm,hk,hb⟩:=C.ex
 exact Zom F hr hg hm hk hb .nil Dp ha hdb he hpl
end
end L2
namespace L2
open PySem
theorem Zpd {x:V}{u:Value}(h:L0 u=some x):RelV x u:=by
 cases u <;> simp only [L0] at h <;> first | (cases h;first | rfl | exact ⟨_,rfl⟩) | cases h
noncomputable def Et:List Value->Option (List V)
 | []=>some []
 | u::r=>match L0 u,Et r with
  | some x,some xs=>some (x::xs)
  | _,_=>none
theorem Zfp:∀{us:List Value}{xs:List V},Et us=some xs->Vals xs us
 | [],xs,h=>by
  have h:some []=some xs:=h
  cases h
  exact .nil
 | u::r,xs,h=>by
  unfold Et at h
  split at h
  ·rename_i x ys h1 h2
   cases h
   exact .cons (Zpd h1) (Zfp h2)
  ·cases h
theorem Go {K:O6}{a:Addr}{od:Option Addr}{its:Array Value}{n:Nat}{sl:Array (Option Value)}{xs:List V}(l:K.lookup a=some ⟨.type "tuple",od,.seq its n,sl⟩)(h:Et its.toList=some xs)(hz:xs.length<=1000):∀ H,SqT K H a xs:=fun H=>by
 have v:=Zfp h
 refine .inr ⟨_,its,n,l,rfl,rfl,?_,v⟩
 have e:=v.length
 have b:1000<=sizeLine:=by decide
 have e2:its.toList.length=its.size:=R7
 omega
theorem Li {P:Program}{w:World}{K:O6}{mg:Str->Option Value}{base:Heap}{k:Nat}{x:Str}{ps:List Str}{sp:Sp}{f:Addr}{fd:FuncData}(F:Az P w K mg base Aw k f fd ps sp)(m:mg x=some (.ref f))(kp:Q3 K (.ref f)=true)(b:Binds K fd ps []):Bo P w K mg base k x ps sp:=⟨f,fd,F,m,kp,b⟩
section
variable {P:Program}{w:World}{K:O6}{mg:Str->Option Value}{base:Heap}
end
end L2
set_option autoImplicit true
namespace L2
open PySem PySem.Spec PyProof.Rows
structure QE (X:Cx)(e:Expr)(t:TE):Prop where
 run:PE X e t
structure QT (X:Cx)(e:Expr)(t:TT):Prop where
 run:PT X e t
structure QW (X:Cx)(e:Expr)(t:TT):Prop where
 run:PW X e t
structure QA (X:Cx)(es:List Expr)(t:TA):Prop where
 run:PA X es t
structure QS (X:Cx)(st:Stmt)(t:TS):Prop where
 run:PS X st t
structure Ep (X:Cx)(sts:List Stmt)(t:TS):Prop where
 run:PSs X sts t
structure QG (X:Cx)(e:Expr)(g:TG):Prop where
 run:PG X e g
structure QGs (X:Cx)(es:List Expr)(g:Ee):Prop where
 run:PGs X es g
structure QI (X:Cx)(tg iter:Expr)(wi:TI):Prop where
 run:PI X tg iter wi
structure QC (X:Cx)(op:CmpOp)(a b:Expr)(t:TE):Prop where
 run:PC X op a b t
structure QO (X:Cx)(e:Option Expr)(t:TO):Prop where
 run:PO X e t
structure QTs (X:Cx)(ifs:List Expr)(t:TT):Prop where
 run:Gw X ifs t
theorem Ac {i j pos}:QE X (.Constant (.int i) j pos) (tC (.int i)):=⟨Zdc⟩
theorem Cp {b j pos}:QE X (.Constant (.bool b) j pos) (tC (.bl b)):=⟨Zde⟩
theorem Ek {j pos}:QE X (.Constant .none j pos) (tC .non):=⟨Zdr⟩
theorem Aj {x j pos}:QE X (.Constant (.str x) j pos) (tC (.str x)):=⟨Zfo⟩
theorem B3 {x:Str}{v:V}{u:Value}{pos:Pos}(hg:Gl X x)(hm:X.mg x=none)(hv:bootBuiltins x=some u)(r:RelV v u)(hn:x ≠ "__name__" := by decide)(hd:(x == ("__debug__" : Str))=false:=by decide):QE X (.Name x pos) (tC v):=⟨Zn5 hg hm hv r hn hd⟩
theorem Ah {op:Operator}{r:R2}(ho:OpR X (binaryOp op) r)(ha:QE X a ta)(hb:QE X b tb):QE X (.BinOp a op b pos) (Fd r ta tb):=⟨Zq8 ho ha.run hb.run⟩
theorem Hx {op:UnaryOp}{r:V->Hp->VK->Prop}(ho:UnR X (unaryOp op) r)(ha:QE X a ta):QE X (.UnaryOp op a pos) (tUn r ta):=⟨Zgq ho ha.run⟩
theorem Ka {op:CmpOp}{t:TE}(h:QC X op a b t)(h1:behindInMarks op b=false:=by first | exact Ln _ (by decide) (by decide) | rfl):QE X (.Compare a [op] [b] pos) t:=⟨Zj2 h.run h1⟩
theorem Oh {op:CmpOp}{t:TE}(h:QC X op a b t)(h1:behindInMarks op b=false:=by first | exact Ln _ (by decide) (by decide) | rfl):QT X (.Compare a [op] [b] pos) (tB t):=⟨Zly h.run h1⟩
theorem Dz {op:CmpOp}{r:R2}(ho:OpR X (compareOp op) r)(ha:QE X a ta)(hb:QE X b tb)(hm:behindInMarks op b=false):QE X (.Compare a [op] [b] pos) (Fd r ta tb):=⟨Zkf ho ha.run hb.run hm⟩
theorem Ax {op:CmpOp}{r:R2}(ho:OpR X (compareOp op) r)(ha:QE X a ta)(hb:QE X b tb)(hm:behindInMarks op b=false):QT X (.Compare a [op] [b] pos) (N0 (Fd r ta tb)):=⟨Zlx ho ha.run hb.run hm⟩
theorem Zkr {op op':CmpOp}{r r':R2}(ho:OpR X (compareOp op) r)(ho':OpR X (compareOp op') r')(ha:QE X a ta)(hb:QE X b tb)(hc:QE X c tc)(hm:lastMarks [op,op'] [b,c]=false:=by with_unfolding_all rfl):QE X (.Compare a [op,op'] [b,c] pos) (Za6 r r' ta tb tc):=⟨Zm1 ho ho' ha.run hb.run hc.run hm⟩
theorem Bt {e:Expr}{t:TE}(h:QE X e t)(he:∀ whole,isTrue e X.env whole=(do let v <- whole;standAt e.pos;holding [v] (truthy v)):=by intro _;rfl):QT X e (tB t):=⟨Zii h.run he⟩
theorem Ej (ha:QT X a tA):QW X (.BoolOp .And [a] pos) tA:=⟨pw_and1 ha.run⟩
theorem Dn (ha:QT X a tA):QW X (.BoolOp .Or [a] pos) tA:=⟨pw_or1 ha.run⟩
theorem D9 {rest:List Expr}(ha:QT X a tA)(hb:QW X (.BoolOp .And (b::rest) pos) tB'):QW X (.BoolOp .And (a::b::rest) pos) (On tA tB'):=⟨pw_and ha.run hb.run⟩
theorem C7 {rest:List Expr}(ha:QT X a tA)(hb:QW X (.BoolOp .Or (b::rest) pos) tB'):QW X (.BoolOp .Or (a::b::rest) pos) (tOr tA tB'):=⟨pw_or ha.run hb.run⟩
theorem C0 (ha:QT X a tA):QT X (.UnaryOp .Not a pos) (Zam tA):=⟨Zg6 ha.run⟩
theorem Gx {op}{t:TE}(h:QE X a t):QE X (.BoolOp op [a] pos) t:=⟨Zhk h.run⟩
theorem G5 {rest:List Expr}(ha:QE X a ta)(hb:QE X (.BoolOp .And (b::rest) pos) tb):QE X (.BoolOp .And (a::b::rest) pos) (Zbh ta tb):=⟨Zo7 ha.run hb.run⟩
theorem Zm6 {rest:List Expr}(ha:QE X a ta)(hb:QE X (.BoolOp .Or (b::rest) pos) tb):QE X (.BoolOp .Or (a::b::rest) pos) (Zab ta tb):=⟨Zgu ha.run hb.run⟩
theorem Zbp {c:Expr}(hc:QT X c tA)(ha:QE X a ta)(hb:QE X b tb):QE X (.IfExp c a b pos) (tIf tA ta tb):=⟨Zp0 hc.run ha.run hb.run⟩
theorem Ay  : Ep X [] Nw:=⟨Zi2⟩
theorem Ae {st:Stmt}{rest:List Stmt}{t u:TS}(h1:QS X st t)(h2:Ep X rest u):Ep X (st::rest) (N1 t u):=⟨Zn3 h1.run h2.run⟩
theorem Af {st:Stmt}{t:TS}(h1:QS X st t):Ep X [st] t:=⟨Zkj h1.run⟩
theorem Cc {e:Expr}{te:TE}(he:QE X e te)(hs:swapsWith e none pos.line X.env=pure false:=by rfl):QS X (.Expr e pos) (Zau te):=⟨Zmf he.run hs⟩
theorem Ap {e:Expr}{te:TE}(he:QE X e te):QS X (.Return (some e) pos) (Zbn te):=⟨Zrm he.run⟩
theorem Av {t u:TS}{c:Expr}{a b:List Stmt}{tc:TT}(hc:QT X c tc)(ha:Ep X a t)(hb:Ep X b u):QS X (.If c a b pos) (Cw tc t u):=⟨Zrn hc.run ha.run hb.run⟩
theorem Ge  : QGs X [] Nz:=⟨Zqc⟩
theorem Cs {e:Expr}{es:List Expr}{t:TG}{u:Ee}(h1:QG X e t)(h2:QGs X es u)(hs:(assignEach (e::es) X.env).map (·.2)=assign e X.env::(assignEach es X.env).map (·.2):=by rfl):QGs X (e::es) (Zbz t u):=⟨Zpt h1.run h2.run hs⟩
theorem Bu {i:Nat}{x:Str}(hN:X.N.Nodup)(hi:X.N[i]?=some x)(hx:E6 X.env.scope x)(hf:X.fn x=true\/X.env.scope.names.lookup x=some .local:=by first | exact .inl rfl | exact .inr rfl | assumption):QG X (.Name x pos) (F9 i):=⟨Zle hN hi hx hf⟩
theorem Zou {es:List Expr}{k:Nat}{t:Ee}{n:Nat}(hc:X.calm=true)(h:QGs X es t)(hn:(assignEach es X.env).length=n:=by rfl)(hst:(assignEach es X.env).findIdx? (·.1)=none:=by rfl):QG X (.Tuple es k pos) (My X.K n t):=⟨Zqu hc h.run hn hst⟩
theorem Zjs {o i:Expr}{to ti:TE}{t:Js}(ho:QE X o to)(hi:QE X i ti)(hs:Ov X t)(ha:∀ v,assign (.Subscript o i pos) X.env v=(do
   let ov <- holding [v] (eval o X.env)
   let iv <- holding [v,ov] (eval i X.env)
   standAt pos
   holding [v,ov,iv] (setItem ov iv v)
   release [v,ov,iv] []):=by intro _;rfl):QG X (.Subscript o i pos) (Oq to ti t):=⟨Ziw ho.run hi.run hs ha⟩
theorem Kc {tg e:Expr}{te:TE}{g:TG}(he:QE X e te)(hg:QG X tg g)(hs:swapsWithSole [tg] e pos.line X.env=pure false:=by rfl)(hw:swappedStores [tg] e X.env=pure none:=by rfl)(h1:(assignEach [tg] X.env).map (·.2)=[assign tg X.env]:=by rfl):QS X (.Assign [tg] e pos) (F4 te g):=⟨Zhs he.run hg.run hs hw h1⟩
theorem Zpa {i:Nat}{x:Str}{e:Expr}{te:TE}{pos':Pos}(hN:X.N.Nodup)(hi:X.N[i]?=some x)(hx:E6 X.env.scope x)(he:QE X e te)(hs:swapsWith e (some (.Name x pos')) pos.line X.env=pure false:=by rfl)(hf:X.fn x=true\/X.env.scope.names.lookup x=some .local:=by first | exact .inl rfl | exact .inr rfl | assumption):QS X (.Assign [.Name x pos'] e pos) (F4 te (F9 i)):=⟨Zmd hN hi hx he.run hs hf⟩
theorem Zcz {c:Expr}{body:List Stmt}{tc:TT}{tb:TS}(hp:PassesOwn (model X.prog X.w) X.A X.env X.xe)(hc:QT X c tc)(hb:Ep X body tb):QS X (.While c body [] pos) (Zc2 tc tb):=⟨Zqi hp hc.run hb.run⟩
theorem Kk {a:Expr}{ta:TA}{p pos:Pos}(hg:Gl X "range")(hm:X.mg "range" = none)(ha:QA X [a] ta)(hs:starEach [a] X.env=[(false,eval a X.env)]:=by rfl):QI X tg (.Call (.Name "range" p) [a] [] pos) (Nm ta):=⟨Zj7 hg hm ha.run hs⟩
theorem Fp {iter:Expr}{body:List Stmt}{wi:TI}{g:TG}{tb:TS}{pos:Pos}(hp:PassesOwn (model X.prog X.w) X.A X.env X.xe)(hc:X.calm=true)(hi:QI X tg iter wi)(hg:QG X tg g)(hb:Ep X body tb)(hs:∀ x,foldedSetIterable iter X.env x=pure x:=by intro _;rfl):QS X (.For tg iter body [] pos) (Oe wi g tb):=⟨Ziu hp hc hi.run hg.run hb.run hs⟩
theorem Zk4 (he:QE X e ta)(hb:attributeBase e f X.env (eval e X.env)=eval e X.env):QE X (.Attribute e f pos) (Ol X.K ta f):=⟨Zlk he.run hb⟩
theorem Zke (ha:QE X o ta)(hv:QE X value tv)(hs:swapsWith value (some (.Attribute o f pos')) pos.line X.env=pure false):QS X (.Assign [.Attribute o f pos'] value pos) (Ly X.K ta tv f):=⟨Zjg ha.run hv.run hs⟩
theorem Ab  : QA X [] Jv:=⟨Zcg⟩
theorem Aa (ha:QE X e te)(hr:QA X es t)(hs:starEach (e::es) X.env=(false,eval e X.env)::starEach es X.env:=by rfl):QA X (e::es) (Zba te t):=⟨Zfb ha.run hr.run hs⟩
theorem Ag {x1}(h:QA X es t):QE X (.Tuple es x1 pos) (Zbx t):=⟨Zoy h.run⟩
theorem Bg (h:QA X es t):QE X (.List es pos) (Zac t):=⟨Zp5 h.run⟩
theorem Ba (C:Bo X.prog X.w X.K X.mg X.base k x ps sp)(hr:Room k X.A)(ha:QA X (e::es) t)(hg:Gl X x:=by rfl)(hdb:(x == ("__debug__" : Str))=false:=by decide)(he:starEach (e::es) X.env=(false,eval e X.env)::starEach es X.env:=by rfl)(hpl:(backTo pos (starEach es X.env)).any (·.1)=false:=by rfl):QE X (.Call (.Name x p) (e::es) [] pos) (Lx sp [] E0 t):=⟨Zo3 C hr ha.run hg hdb he hpl⟩
theorem A6 {id:String}(hc:Cu X (.builtin id) r)(hg:Gl X x)(hm:X.mg x=none)(hv:bootBuiltins x=some (.builtin id))(ha:QA X (e::es) t)(hn:x ≠ "__name__" := by decide)(hdb:(x == ("__debug__" : Str))=false:=by decide)(he:starEach (e::es) X.env=(false,eval e X.env)::starEach es X.env:=by rfl)(hpl:(backTo pos (starEach es X.env)).any (·.1)=false:=by rfl):QE X (.Call (.Name x p) (e::es) [] pos) (tCB r t):=⟨Zot hc hg hm hv ha.run hn hdb he hpl⟩
theorem Fl {T:String}(hc:Cu X (.type T) r)(hg:Gl X x)(hm:X.mg x=none)(hv:bootBuiltins x=some (.type T))(ha:QA X (e::es) t)(hn:x ≠ "__name__" := by decide)(hdb:(x == ("__debug__" : Str))=false:=by decide)(he:starEach (e::es) X.env=(false,eval e X.env)::starEach es X.env:=by rfl)(hpl:(backTo pos (starEach es X.env)).any (·.1)=false:=by rfl):QE X (.Call (.Name x p) (e::es) [] pos) (tCB r t):=⟨Znl hc hg hm hv ha.run hn hdb he hpl⟩
theorem Eo  : QO X none Zai:=⟨Zo6⟩
theorem Dd (h:QE X e te):QO X (some e) (Nk te):=⟨Ziy h.run⟩
theorem El {lo hi:Option Expr}{r:V->Option Int->Option Int->Hp->VK->Prop}(hr:SlR X r)(he:QE X e te)(hl:QO X lo tl)(hu:QO X hi th):QE X (.Subscript e (.Slice lo hi none p2) pos) (tSl r te tl th):=⟨Zhr hr he.run hl.run hu.run⟩
theorem M0 {r:R2}(hr:IxR X r)(ha:QE X a ta)(hb:QE X b tb)(hs:Zbk b):QE X (.Subscript a b pos) (Fd r ta tb):=⟨Zk7 hr ha.run hb.run hs⟩
theorem Zko {T id:String}(pa:PlainAttrs T)(slot:Slot T name id)(hty:typeOf (.builtin id)=pure (.type "method_descriptor"))(hm:Gr X id r)(ho:QE X o to)(ha:QA X (e::es) t)(hbase:attributeBase o name X.env (eval o X.env)=eval o X.env:=by rfl)(hfew:((backTo cpos (starEach (e::es) X.env)).all (fun x=>!x.1) && (backToKw cpos (keywordEach [] X.env)).all (fun x=>x.1.isSome)
   && decide ((e::es).length+([]:List Keyword).length+(if ([]:List Keyword).isEmpty then 0 else 1) < 30))=true:=by rfl) (hline:(apos.endLine == cpos.line)=true:=by rfl) (hs:starEach (e::es) X.env=(false,eval e X.env)::starEach es X.env:=by rfl) (hplain:(backTo cpos (starEach es X.env)).any (·.1)=false:=by rfl):QE X (.Call (.Attribute o name apos) (e::es) [] cpos) (tBM X.K T r to t):=⟨Zjv pa slot hty hm ho.run ha.run hbase hfew hline hs hplain⟩
theorem Zo2 {T id:String}(pa:PlainAttrs T)(slot:Slot T name id)(hty:typeOf (.builtin id)=pure (.type "method_descriptor"))(hm:Gr X id r)(ho:QE X o to)(hbase:attributeBase o name X.env (eval o X.env)=eval o X.env:=by rfl)(hline:(apos.endLine == cpos.line)=true:=by rfl):QE X (.Call (.Attribute o name apos) [] [] cpos) (Mn X.K T r to):=⟨Zos pa slot hty hm ho.run hbase hline⟩
theorem Lj (hc:X.calm=true)(S:G9 scope X.env)(hi:QI X target iter wi)(T:∀ σ,σ.length=X.N.length->Fz X scope N σ (σ0 σ))(hg:∀ C s H fp,QG (C9 X scope C N s H fp) target g)(ht:∀ C s H fp,QTs (C9 X scope C N s H fp) ifs tt)(he:∀ C s H fp,QE (C9 X scope C N s H fp) elt te)(hs:∀ x,foldedSetIterable iter X.env x=pure x:=by intro _;rfl):QE X (.ListComp elt [⟨target,iter,ifs,0⟩] scope pos) (J3 wi σ0 g tt te):=⟨Zks hc S hi.run T (fun C s H fp=>(hg C s H fp).run) (fun C s H fp=>(ht C s H fp).run) (fun C s H fp=>(he C s H fp).run) hs⟩
theorem Zb8 {i:Nat}{y:Str}{py spos:Pos}(hc:X.calm=true)(S:G9 scope X.env)(hi:QI X target iter wi)(T:∀ σ,σ.length=X.N.length->Fz X scope N σ (σ0 σ))(hg:∀ C s H fp,QG (C9 X scope C N s H fp) target g)(ht:∀ C s H fp,QTs (C9 X scope C N s H fp) ifs tt)(he:∀ C s H fp,QE (C9 X scope C N s H fp) elt te)(hN:X.N.Nodup)(hy:X.N[i]?=some y)(hx:E6 X.env.scope y)(hsw:swapsWith (.ListComp elt [⟨target,iter,ifs,0⟩] scope pos) (some (.Name y py)) spos.line X.env=pure true:=by rfl)(hf:X.fn y=true\/X.env.scope.names.lookup y=some .local:=by first | exact .inl rfl | exact .inr rfl | assumption)(hs:∀ x,foldedSetIterable iter X.env x=pure x:=by intro _;rfl):QS X (.Assign [.Name y py] (.ListComp elt [⟨target,iter,ifs,0⟩] scope pos) spos) (F4 (J3 wi σ0 g tt te) (F9 i)):=⟨Zqo hc S hi.run T (fun C s H fp=>(hg C s H fp).run) (fun C s H fp=>(ht C s H fp).run) (fun C s H fp=>(he C s H fp).run) hN hy hx hsw hf hs⟩
theorem Jq {X:Cx}:QTs X [] Ot:=⟨Zoi⟩
theorem Zgp {X:Cx}{c:Expr}{t:TT}(h:QT X c t):QTs X [c] t:=⟨Zp4 h.run⟩
theorem Ht {j pos'}(ha:QE X a ta):QC X .Is a (.Constant .none j pos') (Nt ta):=⟨Zl5 ha.run⟩
theorem Zlw {j pos'}(ha:QE X a ta):QC X .IsNot a (.Constant .none j pos') (Zbb ta):=⟨Zjn ha.run⟩
theorem Kl {X:Cx}{es:List Expr}{xs:List V}(h:Ls es=some xs):QA X es (N4 xs):=⟨Zfm h⟩
theorem qv {X:Cx}(i:Nat){x:Str}{pos:Pos}(hN:X.N[i]?=some x:=by rfl)(hv:Vis X.env.scope x:=by first | exact Or.inl rfl | exact Or.inr (Or.inl rfl) | exact Or.inr (Or.inr rfl))(hd:(x == ("__debug__" : Str))=false:=by decide)
  (hcd:(x == ("__classdict__" : Str))=false:=by decide):QE X (.Name x pos) (O0 i):=⟨Zpq hN hv hd hcd⟩
theorem QW.qt {X:Cx}{e:Expr}{t:TT}(h:QW X e t):QT X e t:=⟨h.run.pt⟩
section
variable {P:Program}{w:World}{K:O6}{mg:Str->Option Value}{base:Heap}
theorem Fun.okq {x qual:Str}{st:Stmt}{f:Addr}{fd:FuncData}{N ps:List Str}{k:Nat}{sp:Sp}(F:Fun K x qual st f fd)(S:Bl N ps (A9 st))(len:∀ vs H Q E,sp vs H Q E->vs.length=ps.length)
  (hbody:∀(cdv:Value)(A:Around)(outer:List Env)(s:Shared)(H:Hp)(vs:List V)(Q:VK)(E:XK),Room k (A.deeper (envOfC qual (A9 st) s.heap.objs.size f cdv))->sp vs H Q E ->
   ∃ t,Ep (D8 Aw P w K mg base N qual (A9 st) f cdv A outer s H E).nox (E8 st) t/\t { nx:=fun _ H'=>Q .non H',rt:=Q } (E7 N vs) H):Az P w K mg base Aw (k+1) f fd ps sp :=
 F.ok S len fun cdv A outer s H vs Q E hr h=>by
  obtain ⟨t,q,r⟩:=hbody cdv A outer s H vs Q E hr h
  exact ⟨t,q.run,r⟩
end
section
variable {X:Cx}
noncomputable def Zla:R2:=fun x y H Q=>∃ i j,x=.str i/\y=.str j/\i.length+j.length<=sizeLine/\Q (.str (i++j)) H
noncomputable def Zd5 (K:O6):R2:=fun x y H Q=>∃ a b xs ys,x=.ref a/\y=.ref b/\SqT K H a xs/\SqT K H b ys/\xs.length+ys.length<=sizeLine /\
 ∀ r H',Same H H'->SqT K H' r (xs++ys)->Q (.ref r) H'
theorem Zmi:OpR X (binaryOp .Add) (Zd5 X.K):=by
 intro pins s σ H x y v u Q I rx ry h
 obtain ⟨a,b,xs,ys,rfl,rfl,ha,hb,hz,q⟩:=h
 by_cases hx:xs=[]
 ·subst hx
  cases rx
  cases ry
  obtain ⟨its,r1,p1,_⟩:=I.tuple ha
  obtain ⟨its2,r2,p2,_⟩:=I.tuple hb
  cases r1
  obtain ⟨⟨cls,dd,data,sl⟩,ho,hc,n,hd⟩:=id p1
  obtain ⟨⟨cls2,dd2,data2,sl2⟩,ho2,hc2,n2,hd2⟩:=id p2
  simp only at hc hd hc2 hd2
  subst hc hd hc2 hd2
  exact U6 ⟨_,ho,rfl⟩ ⟨_,ho2,rfl⟩ Um Uz T9 Tx (Tu _ _)
   (tuple_addW0 a b _ _ n n2 dd dd2 sl sl2 (by simp)) ⟨ho,ho2,⟨.ref b,H,I,rfl,q b H (Same.refl H) hb⟩⟩
 ·refine Zcj pins s σ H _ _ v u Q I rx ry ⟨a,b,xs,ys,rfl,rfl,ha,hb,hx,hz,fun e=>?_,fun _ p hp=>q p _ (fun c o e=>by rw [Ai (Cr e hp)];exact e) (.inl (.inl Ad))⟩
  subst e
  exact q a H (Same.refl H) (by rw [Qe];exact ha)
noncomputable def Gn (K:O6):R2:=fun x y H Q=>Ew (fun i j=>.int (i+j)) x y H Q\/Zla x y H Q\/rCat x y H Q\/Zd5 K x y H Q
theorem op_addA:OpR X (binaryOp .Add) (Gn X.K):=op_add.or (op_add_str.or (op_cat.or Zmi))
theorem s_add_int {K:O6}{i j:Int}{H:Hp}{Q:VK}(h:Q (.int (i+j)) H):Gn K (.int i) (.int j) H Q:=.inl ⟨i,j,rfl,rfl,h⟩
theorem Ms {K:O6}{i j:Str}{H:Hp}{Q:VK}(hl:i.length+j.length<=sizeLine)(h:Q (.str (i++j)) H):Gn K (.str i) (.str j) H Q:=.inr (.inl ⟨i,j,rfl,rfl,hl,h⟩)
theorem Gv {K:O6}{a b:Addr}{xs ys:List V}{H:Hp}{Q:VK}(ha:H a=some (.lst xs))(hb:H b=some (.lst ys))(hz:xs.length+ys.length<=sizeLine)(h:∀ p,H p=none->Q (.ref p) (upd H p (.lst (xs++ys)))):Gn K (.ref a) (.ref b) H Q:=.inr (.inr (.inl ⟨a,b,xs,ys,rfl,rfl,ha,hb,hz,h⟩))
theorem Znf {K:O6}{a b:Addr}{xs ys:List V}{H:Hp}{Q:VK}(ha:SqT K H a xs)(hb:SqT K H b ys)(hz:xs.length+ys.length<=sizeLine)(h:∀ r H',Same H H'->SqT K H' r (xs++ys)->Q (.ref r) H'):Gn K (.ref a) (.ref b) H Q:=.inr (.inr (.inr ⟨a,b,xs,ys,rfl,rfl,ha,hb,hz,h⟩))
noncomputable def Zal:R2:=fun x y H Q=>rI CMul (fun i j=>.int (i * j)) x y H Q\/rRep x y H Q
theorem Hu:OpR X (binaryOp .Mult) Zal:=op_mul.or Znr
theorem s_mul_l {i j:Int}{H:Hp}{Q:VK}(h1:-(2 ^ 64) < i)(h2:i < 2 ^ 64)(h:Q (.int (i * j)) H):Zal (.int i) (.int j) H Q:=.inl ⟨i,j,rfl,rfl,.inl ⟨h1,h2⟩,h⟩
theorem s_mul_r {i j:Int}{H:Hp}{Q:VK}(h1:-(2 ^ 64) < j)(h2:j < 2 ^ 64)(h:Q (.int (i * j)) H):Zal (.int i) (.int j) H Q:=.inl ⟨i,j,rfl,rfl,.inr ⟨h1,h2⟩,h⟩
theorem s_rI {C:Int->Int->Prop}{g:Int->Int->V}{i j:Int}{H:Hp}{Q:VK}(hc:C i j)(h:Q (g i j) H):rI C g (.int i) (.int j) H Q:=⟨i,j,rfl,rfl,hc,h⟩
theorem s_rI0 {g:Int->Int->V}{i j:Int}{H:Hp}{Q:VK}(h:Q (g i j) H):Ew g (.int i) (.int j) H Q:=⟨i,j,rfl,rfl,h⟩
theorem s_rU {g:Int->V}{i:Int}{H:Hp}{Q:VK}(h:Q (g i) H):rU g (.int i) H Q:=⟨i,rfl,h⟩
noncomputable def rLtA:R2:=fun x y H Q=>Ew (fun i j=>.bl (decide (i < j))) x y H Q\/∃ i j,x=.str i/\y=.str j/\Q (.bl (decide (i.cps.toList < j.cps.toList))) H
theorem E4:OpR X (compareOp .Lt) rLtA:=op_lt.or Zox
noncomputable def rLeA:R2:=fun x y H Q=>Ew (fun i j=>.bl (decide (i<=j))) x y H Q\/∃ i j,x=.str i/\y=.str j/\Q (.bl (!(decide (j.cps.toList < i.cps.toList)))) H
theorem Zhl:OpR X (compareOp .LtE) rLeA:=op_le.or Zh4
theorem s_lt {i j:Int}{H:Hp}{Q:VK}(h:Q (.bl (decide (i < j))) H):rLtA (.int i) (.int j) H Q:=.inl ⟨i,j,rfl,rfl,h⟩
theorem s_le {i j:Int}{H:Hp}{Q:VK}(h:Q (.bl (decide (i<=j))) H):rLeA (.int i) (.int j) H Q:=.inl ⟨i,j,rfl,rfl,h⟩
noncomputable def rInS (neg:Bool):R2:=fun x y H Q=>∃(c:Nat)(j:Str),x=.str ⟨#[c]⟩/\y=.str j/\Q (.bl (if neg then !decide (c∈j.cps.toList) else decide (c∈j.cps.toList))) H
theorem Zni:OpR X (compareOp .In) (rInS false):=Zps
noncomputable def Zbf (K:O6)(neg:Bool):R2:=fun x y H Q=>rIn K neg x y H Q\/rInS neg x y H Q
theorem Zm4:OpR X (compareOp .In) (Zbf X.K false):=op_in_seq.or Zni
theorem F8 {K:O6}{neg:Bool}{x:V}{p:Addr}{xs:List V}{H:Hp}{Q:VK}(hq:SqL K H p xs\/SqT K H p xs)(hx:Cy x=true)(hxs:xs.all Cy=true)(h:Q (.bl (if neg then !Ef x xs else Ef x xs)) H):Zbf K neg x (.ref p) H Q:=.inl ⟨p,xs,rfl,hq,hx,hxs,h⟩
noncomputable def Zay (K:O6):V->Option Int->Option Int->Hp->VK->Prop:=fun x lo hi H Q=>rSlL K x lo hi H Q\/rSlS x lo hi H Q\/rSlT K x lo hi H Q
theorem Zhy:SlR X (Zay X.K):=sl_list.or (sl_str.or Zmu)
theorem Ez {K:O6}{a:Addr}{xs:List V}{lo hi:Option Int}{H:Hp}{Q:VK}(ha:SqL K H a xs)(h:∀ p,H p=none->Q (.ref p) (upd H p (.lst (C3 xs lo hi)))):Zay K (.ref a) lo hi H Q:=.inl ⟨a,xs,rfl,ha,h⟩
theorem A8 {K:O6}{a:Addr}{xs:List V}{i:Int}{v:V}{H:Hp}{Q:VK}(ha:SqL K H a xs)(hv:Ck xs i=some v)(h:Q v H):Jb K (.ref a) (.int i) H Q:=.inl ⟨a,xs,i,v,rfl,rfl,ha,hv,h⟩
theorem A5 {K:O6}{a:Addr}{xs:List V}{i:Int}{v:V}{H:Hp}{Q:VK}(ha:SqT K H a xs)(hv:Ck xs i=some v)(h:Q v H):Jb K (.ref a) (.int i) H Q:=.inr (.inl ⟨a,xs,i,v,rfl,rfl,ha,hv,h⟩)
theorem Ziq {K:O6}{z:Str}{i:Int}{c:Nat}{H:Hp}{Q:VK}(hl:z.length<=sizeLine)(hv:Ck z.cps.toList i=some c)(h:Q (.str ⟨#[c]⟩) H):Jb K (.str z) (.int i) H Q:=.inr (.inr ⟨z,i,c,rfl,rfl,hl,hv,h⟩)
noncomputable def Lk (K:O6):List V->Hp->VK->Prop:=fun xs H Q=>∃ x n,xs=[x]/\LenV K x H n/\Q (.int n) H
theorem Zqx:Cu X (.builtin "len") (Lk X.K):=Zm0
theorem Cm {K:O6}{a:Addr}{xs:List V}{H:Hp}{Q:VK}(ha:SqL K H a xs)(h:Q (.int xs.length) H):Lk K [.ref a] H Q:=⟨_,_,rfl,.inl ⟨xs,ha,rfl⟩,h⟩
theorem En {K:O6}{a:Addr}{xs:List V}{H:Hp}{Q:VK}(ha:SqT K H a xs)(h:Q (.int xs.length) H):Lk K [.ref a] H Q:=⟨_,_,rfl,.inr ⟨xs,ha,rfl⟩,h⟩
structure Fc (mg:Str->Option Value)(x:Str)(v:V):Prop where
 ex:∃ u,mg x=some u/\RelV v u
theorem F3 {x:Str}{v:V}{pos:Pos}(G:Fc X.mg x v)(hg:Gl X x:=by rfl)(hd:(x == ("__debug__" : Str))=false:=by decide):QE X (.Name x pos) (tC v):=by
 obtain ⟨u,h,r⟩:=G.ex
 exact ⟨Zp8 hg h r hd⟩
noncomputable def Ou (K:O6)(tl:TE):TI:=fun σ H R=>tl σ H fun x H1=>(∃ a,x=.ref a/\(∃ xs,SqL K H1 a xs)/\R (He K a) H1)\/(∃ a,x=.ref a/\(∃ xs,SqT K H1 a xs)/\R (Itt K a) H1)\/∃ z,x=.str z/\R (Its z) H1
theorem Zkw {tg l:Expr}{tl:TE}(hl:QE X l tl):QI X tg l (Ou X.K tl):=by
 refine ⟨fun pins s σ H R I h=>?_⟩
 refine Ao (hl.run pins s σ H _ I h) fun v s1 zq=>?_
 obtain ⟨x,H1,I1,r1,q1⟩:=zq
 have one:∀(l:Expr)(t:TE),PE X l t->True:=fun _ _ _=>trivial
 rcases q1 with ⟨a,e,⟨xs,hq⟩,q⟩ | ⟨a,e,⟨xs,hq⟩,q⟩ | ⟨z,e,q⟩
 ·subst e
  cases r1
  obtain ⟨its,rv,p,hz⟩:=I1.list hq
  refine Uj p.isList ?_
  refine ⟨s1.heap.objs.size,[s1.heap.objs.size],_,_,H1,rfl,I1.kept (t':=s1.toks) fun b o e=>Pc _ e,Zqk a _,⟨_,Po _ rfl,rfl,rfl⟩,fun b hb=>?_,q⟩
  have e:b=s1.heap.objs.size:=by simpa using hb
  subst e
  exact I1.fpOk (O9 _) (I1.hok.fresh (O9 _))
 ·subst e
  cases r1
  obtain ⟨its,rv,p,hz⟩:=I1.tuple hq
  refine Sx (show s1.heap.IsTuple a its.toArray from p) ?_
  refine ⟨s1.heap.objs.size,[s1.heap.objs.size],_,_,H1,rfl,I1.kept (t':=s1.toks) fun b o e=>Pc _ e,Znb a _,⟨_,Po _ rfl,rfl,rfl⟩,fun b hb=>?_,q⟩
  have e:b=s1.heap.objs.size:=by simpa using hb
  subst e
  exact I1.fpOk (O9 _) (I1.hok.fresh (O9 _))
 ·subst e
  obtain ⟨t,rfl⟩:=r1
  refine wpAny_pyIter_strU ?_
  refine ⟨s1.heap.objs.size,[s1.heap.objs.size],_,_,H1,rfl,I1.kept (t':=s1.toks) fun b o e=>Pc _ e,Zol _ z t,⟨_,Po _ rfl,rfl,rfl⟩,fun b hb=>?_,q⟩
  have e:b=s1.heap.objs.size:=by simpa using hb
  subst e
  exact I1.fpOk (O9 _) (I1.hok.fresh (O9 _))
end
section
variable {X:Cx}{tg:Expr}
end
noncomputable def Ic (K:O6)(a:Addr)(n:Nat):It :=
 ⟨fun i H=>∃ xs,SqL K H a xs/\xs.length=n/\i < n,fun i H x H'=>H'=H/\∀ xs,SqL K H a xs->xs[n - 1 - i]?=some x,fun i _=>i=n⟩
theorem Zil {P:Program}{w:World}{K:O6}{tg:Expr}(a it:Addr)(n:Nat):Hi P w K tg (Ic K a n) [it] it (fun i h=>i<=n/\h.IsRevIter it a ((n:Int) - 1 - (i:Int))) where
 mem:=by simp
 obj:=fun i h st b hb=>by
  have e:b=it:=by simpa using hb
  subst e
  obtain ⟨o,e,c,d⟩:=st.2
  exact ⟨o,e,fun v z=>by rw [d] at z;cases z⟩
 keep:=fun i h h' st k=>⟨st.1,st.2.at fun o e=>k it (by simp) o e⟩
 item:=by
  intro X hP hw hK hc i pins s σ H E I hf st hg
  subst hP hw hK
  obtain ⟨xs,hq,hl,hi⟩:=hg
  obtain ⟨its,rv,p,hz⟩:=I.list hq
  have hx:xs[n - 1 - i]?=some (xs[n - 1 - i]'(by omega)):=Pa (by omega)
  obtain ⟨u,hu,ru⟩:=rv.get hx
  obtain ⟨f0,f1,f2,f3,f4,f5⟩:=hf it (by simp)
  have e:(n:Int) - 1 - (i:Int)=((n - 1 - i:Nat):Int):=by omega
  have hit:=st.2
  rw [e] at hit
  refine wpAny_pyNext_rev_item hit p.isList (x:=u) (by simpa using hu) fun h' st' sb=>?_
  have I1:Inv X pins σ H { s with heap:=h' }:=I.turned (t':=s.toks) (fun b o hb e=>(sb.2 b hb).trans e) f0 f1 f3 f4 f5
  have e2:((n - 1 - i:Nat):Int) - 1=(n:Int) - 1 - ((i+1:Nat):Int):=by omega
  rw [e2] at st'
  obtain ⟨o,eo,c,d⟩:=id st'
  exact ⟨u,rfl,Kh (s:={ s with heap:=h' }) eo c d (by decide) ⟨_,H,I1,ru,⟨rfl,fun ys hy=>by rw [I.list_inj hy hq];exact hx⟩,⟨hi,st'⟩,fun b hb=>(hf b hb).1⟩⟩
 done:=by
  intro X hP hw hK hc i pins s σ H E I hf st hg
  subst hP hw hK
  have hg:i=n:=hg
  subst hg
  obtain ⟨f0,f1,f2,f3,f4,f5⟩:=hf it (by simp)
  have e:(i:Int) - 1 - (i:Int)=-1:=by omega
  have hit:=st.2
  rw [e] at hit
  exact wpAny_pyNext_rev_end (I.ok.hd hc) hit fun h' eb=>⟨rfl,I.turned (t':=s.toks) (fun b o hb e=>eb b o hb e) f0 f1 f3 f4 f5⟩
 self:=fun _ _ _ _ _ st h=>wpAny_pyIter_revIter st.2 h
theorem Zq1:bootBuiltins "reversed" = some (.type "reversed"):=by decide +kernel
section
variable {X:Cx}{tg:Expr}
noncomputable def Za3 (K:O6)(ta:TA):TI:=fun σ H R=>ta σ H fun vs H1=>∃ a xs,vs=[.ref a]/\SqL K H1 a xs/\R (Ic K a xs.length) H1
theorem Zpi {a:Expr}{ta:TA}{p pos:Pos}(hg:Gl X "reversed")(hm:X.mg "reversed" = none)(ha:QA X [a] ta)(hs:starEach [a] X.env=[(false,eval a X.env)]:=by rfl):QI X tg (.Call (.Name "reversed" p) [a] [] pos) (Za3 X.K ta):=by
 refine ⟨fun pins s σ H R I h=>?_⟩
 refine Call_ (Fm I hg hm Zq1 (Rq (Ao (ha.run pos pins s σ H _ I h) fun us s1 zq=>?_) hs rfl))
 obtain ⟨vs,H1,I1,r1,q1⟩:=zq
 obtain ⟨l,xs,e,hq,q⟩:=q1
 subst e
 cases r1 with
 | cons r rr =>
  cases rr
  cases r
  obtain ⟨its,rv,pl,hz⟩:=I1.list hq
  refine call_reversed_list pl.isList ?_
  have hl:=rv.length
  have st0:(s1.heap.push (PySem.revObj l (((its.toArray).size:Int) - 1))).IsRevIter s1.heap.objs.size l ((xs.length:Int) - 1 - ((0:Nat):Int)):=by
   refine ⟨_,Po _ rfl,rfl,?_⟩
   have e:((its.toArray).size:Int) - 1=(xs.length:Int) - 1 - ((0:Nat):Int):=by simp [hl]
   rw [<- e]
   rfl
  refine wpAny_pyIter_revIter (it:=s1.heap.objs.size) (l:=l) (i:=(xs.length:Int) - 1 - ((0:Nat):Int)) st0 ?_
  refine ⟨s1.heap.objs.size,[s1.heap.objs.size],_,_,H1,rfl,I1.kept (t':=s1.toks) fun b o e=>Pc _ e,Zil l _ xs.length,⟨Qh _,st0⟩,fun b hb=>?_,q⟩
  have e:b=s1.heap.objs.size:=by simpa using hb
  subst e
  exact I1.fpOk (O9 _) (I1.hok.fresh (O9 _))
theorem Zki {K:O6}{a:Addr}{xs:List V}{g:TG}{tb:TS}{D:D7}{σ:St}{H:Hp}(Pv:Nat->St->Hp->Prop)(h0:Pv 0 σ H)(hl:∀ i σ H,i<=xs.length->Pv i σ H->SqL K H a xs)
  (hs:∀ i x σ H,i < xs.length->xs[xs.length - 1 - i]?=some x->Pv i σ H->g x σ H fun σ2 H2=>tb { D with nx:=Pv (i+1),ct:=Pv (i+1),bk:=D.nx } σ2 H2) (hd:∀ σ H,Pv xs.length σ H->D.nx σ H) :
  ∃ W:Nat->Nat->St->Hp->Prop,(∃ m,W 0 m σ H)/\∀ i m σ H,W i m σ H ->
   ((Ic K a xs.length).stop i H/\D.nx σ H)\/((Ic K a xs.length).go i H/\∃ N:St->Hp->Prop,(∀ σ' H',N σ' H'->∃ m',m' < m/\W (i+1) m' σ' H')/\∀ x H',(Ic K a xs.length).yld i H x H'->g x σ H' fun σ2 H2=>tb { D with nx:=N,ct:=N,bk:=D.nx } σ2 H2):=by
 refine ⟨fun i m σ H=>m=xs.length - i/\i<=xs.length/\Pv i σ H,⟨xs.length,by simp,Qh _,h0⟩,?_⟩
 rintro i m σ H ⟨rfl,hi,p⟩
 have q:=hl i σ H hi p
 by_cases hlt:i < xs.length
 ·refine .inr ⟨⟨xs,q,rfl,hlt⟩,Pv (i+1),fun σ' H' p'=>⟨xs.length - (i+1),by omega,rfl,hlt,p'⟩,fun x H' y=>?_⟩
  obtain ⟨e,y⟩:=y
  subst e
  exact hs i x σ _ hlt (y xs q) p
 ·have e:i=xs.length:=by omega
  subst e
  exact .inl ⟨rfl,hd σ H p⟩
end
section
variable {prog:Program}{w:World}{A:Around}{E:Value->Shared->Prop}{s:Shared}
theorem Zro {it t:Addr}{i:Nat}{items:Array Value}{x:Value}{Q:Value->Shared->Prop}(hit:s.heap.IsTupleIter it t i)(ht:s.heap.IsTuple t items)(hx:items[i]?=some x)
  (hQ:∀ h',h'.IsTupleIter it t (i+1)->Pp it s.heap h'->Q x { s with heap:=h' }):wpAny (model prog w) A (Qr (.ref it)) Q E s:=by
 obtain ⟨o,ho,hc,hd⟩:=id hit
 obtain ⟨ol,hol,_,nl,hdl⟩:=ht
 unfold Qr
 refine O7 (Q6 (name:=Qj "__next__") hit.typeIs To
  (Q9 To hit.typeIs V9 ?_ (V8 _)))
 show wpAny _ _ (field (.ref it) 0 >>= _) _ _ s
 refine O7 (Pm ho hd (x:=.ref t) rfl ?_)
 show wpAny _ _ (if (Value.ref t == Value.none)=true then _ else _) _ _ s
 rw [if_neg (show ¬ ((Value.ref t == Value.none)=true) from Pi)]
 show wpAny _ _ (field (.ref it) 1 >>= _) _ _ s
 refine O7 (Pm ho hd (x:=.int i 0) rfl ?_)
 show wpAny _ _ (seqItems? (.ref t) >>= _) _ _ s
 refine O7 (Qx hol hdl ?_)
 simp only [Qm,hx]
 refine O7 (Td ho hd (by simp) (O8 ⟨x,rfl,O8 (hQ _ ?_ (Pp.update ..))⟩))
 exact ⟨_,Rf _ ho (Vm (Ug hd _)),(Obj.cls_mapFields ..).trans hc,by
  rw [Ug hd];simp [rawInt]⟩
theorem Zkl {it t:Addr}{i:Nat}{items:Array Value}{Q:Value->Shared->Prop}(hh:A.handled=none)(hit:s.heap.IsTupleIter it t i)(ht:s.heap.IsTuple t items)(hx:items[i]?=none)
  (hE:∀ h' e,Si it s.heap h'->(∃ o,h'.get? e=some o/\o.cls=.type "StopIteration")->E (.ref e) { s with heap:=h' }):wpAny (model prog w) A (Qr (.ref it)) Q E s:=by
 obtain ⟨o,ho,hc,hd⟩:=id hit
 obtain ⟨ol,hol,_,nl,hdl⟩:=ht
 unfold Qr
 refine O7 (Q6 (name:=Qj "__next__") hit.typeIs To
  (Q9 To hit.typeIs V9 ?_ (V8 _)))
 show wpAny _ _ (field (.ref it) 0 >>= _) _ _ s
 refine O7 (Pm ho hd (x:=.ref t) rfl ?_)
 show wpAny _ _ (if (Value.ref t == Value.none)=true then _ else _) _ _ s
 rw [if_neg (show ¬ ((Value.ref t == Value.none)=true) from Pi)]
 show wpAny _ _ (field (.ref it) 1 >>= _) _ _ s
 refine O7 (Pm ho hd (x:=.int i 0) rfl ?_)
 show wpAny _ _ (seqItems? (.ref t) >>= _) _ _ s
 refine O7 (Qx hol hdl ?_)
 simp only [Qm,hx]
 refine O7 (Tk (O7 (Td ho hd (by simp) ?_)))
 show wpAny _ _ (newExc (.type "StopIteration") [] >>= _) _ _ _
 refine O7 ?_
 simp only [newExc,newTuple]
 refine O7 (Rj ?_ (by size_fits))
 refine O7 (m:=firstArgMember _ _) (wpAny_of_eq (a:=Value.none) (by first | rfl | (simp only [firstArgMember];rfl)) ?_)
 refine Rj ?_ (by size_fits)
 simp only [raiseNew]
 refine O7 (wpAny_handled ?_)
 first | rw [show A.in1.handled=none from hh] | rw [hh]
 refine O7 (O8 (wpAny_throw ?_))
 exact hE _ _ (((Pp.update ..).extBut.push _).push _) ⟨_,Po _ rfl,rfl⟩
end
theorem Zap {prog:Program}{w:World}{A:Around}(hh:A.handled=none)(it l:Addr)(hne:l≠it)(items:Array Value) :
  Draws prog w A it [it,l] items.size (fun i v=>items[i]?=some v) (fun i h=>h.IsTupleIter it l i/\h.IsTuple l items) where
 live:=fun _ _ st=>let ⟨o,ho,_⟩:=st.1;⟨o,ho⟩
 frame:=fun _ _ _ st hk=>⟨st.1.at fun o e=>hk it (by simp) o e,let ⟨o,e,r⟩:=st.2;⟨o,hk l (by simp) o e,r⟩⟩
 item:=fun i s Q E hi st hQ=>by
  refine Zro st.1 st.2 (x:=items[i]) (by simp [hi]) fun h' hit' hs'=>?_
  exact hQ _ h' s.toks (by simp [hi]) ⟨hit',st.2.extBut hs'.extBut hne⟩ hs'
 done:=fun s Q E st hE=>Zkl hh st.1 st.2 (by simp) hE
theorem Zqn (l:Addr)(items:Array Value)(n:Nat)(dct:Option Addr)(sl:Array (Option Value)) :
  Meets (Builtin.«enumerate.__new__» ⟨[.type "enumerate",.ref l],[]⟩) (fun _ R s=>s.heap.get? l=some { cls:=.type "tuple",dict:=dct,data:=.seq items n,slots:=sl } /\
   R (.ok (.ret (.ref (s.heap.push { cls:=.type "tuple_iterator",data:=.fields #[.ref l,.int 0 0] }).objs.size)))
    { s with heap:=(s.heap.push { cls:=.type "tuple_iterator",data:=.fields #[.ref l,.int 0 0] }).push { cls:=.type "enumerate",data:=.fields #[.none,.bool false,.ref s.heap.objs.size,rawInt 0,.none,.none] } }) :=
 .of_wp fun prog w A R s h=>by
  obtain ⟨hp,g,d,tk,os⟩:=s;obtain ⟨hl,h⟩:=h
  have hsub:=sub_enumerate
  have hL:Heap.IsTuple (Shared.heap ⟨hp,g,d,tk,os⟩) l items:=⟨_,hl,rfl,n,rfl⟩
  wp_walk using Tp hl
  refine wpAny_stack_any fun st=>O8 ?_
  split
  ·rename_i c _ _ _ _ _
   cases (c == Value.type "enumerate")
   ·wp_walk using Tp hl,Sx hL
    exact ⟨_,rfl,h⟩
   ·wp_walk using Tp hl,Sx hL
    exact ⟨_,rfl,h⟩
  ·wp_walk using Tp hl,Sx hL
   exact ⟨_,rfl,h⟩
section
variable {prog:Program}{w:World}{A:Around}{E:Value->Shared->Prop}{s:Shared}
theorem Zno {l:Addr}{items:Array Value}{Q:Value->Shared->Prop}(hL:s.heap.IsTuple l items)
  (h:∀ h',IsEnum h' (s.heap.objs.size+1) s.heap.objs.size 0 .none->h'.IsTupleIter s.heap.objs.size l 0->h'.objs.size=s.heap.objs.size+2 ->
   (∀ b o,s.heap.get? b=some o->h'.get? b=some o)->Q (.ref (s.heap.objs.size+1)) { s with heap:=h' }) :
  wpAny (model prog w) A (call (.type "enumerate") [.ref l]) Q E s:=by
 obtain ⟨⟨c,dct,dt,sl⟩,hl,hc,n,hd⟩:=hL
 replace hc:c=.type "tuple" := hc
 replace hd:dt=.seq items n:=hd
 subst hc hd
 refine callType_new PySem.F.called_enumerate (by decide) (PySem.F.typeCall_enumerate_1 _) (PySem.F.newCall_enumerate_1 _) (fun obj=>PySem.F.args_object_init_2 obj _) PySem.F.entry_enumerate_new
  (Zqn l items n dct sl) ⟨hl,?_⟩
 have hz:(s.heap.push { cls:=.type "tuple_iterator",data:=.fields #[.ref l,.int 0 0] }).objs.size=s.heap.objs.size+1:=Qf ..
 show _/\_
 rw [hz]
 have he:IsEnum ((s.heap.push { cls:=.type "tuple_iterator",data:=.fields #[.ref l,.int 0 0] }).push
   { cls:=.type "enumerate",data:=.fields #[.none,.bool false,.ref s.heap.objs.size,rawInt 0,.none,.none] }) (s.heap.objs.size+1) s.heap.objs.size 0 .none:=by
  unfold IsEnum
  rw [<- hz]
  exact Po _ rfl
 refine ⟨⟨_,he,rfl⟩,h _ he ⟨_,Pc _ (Po _ rfl),rfl,rfl⟩ (by rw [Qf,hz]) fun b o e=>Pc _ (Pc _ e)⟩
noncomputable def Lm (h:Heap)(e it:Addr)(i:Int):Prop:=∃(a:Addr)(oa:Obj)(f1 old:Value),h.get? e=some { cls:=.type "enumerate",dict:=none,data:=.fields #[rawInt a,f1,.ref it,rawInt i,.none,old],slots:=#[] }/\h.get? a=some oa/\a≠e/\a≠it
theorem Zfv {a:Addr}{Q:Option Obj->Shared->Prop}(h:Q (s.heap.get? a) s):wpAny (model prog w) A (loadIfAlive a) Q E s:=by
 intro Γ p hΓ
 show Sem.wp _ Γ (.loadIfAlive a .pure) _ _ p s
 rw [Sem.wp_loadIfAlive]
 exact h
theorem Zgw {e it:Addr}{fp:List Addr}{n i:Nat}{P:Nat->Value->Prop}{St:Nat->Heap->Prop}{Q:Value->Shared->Prop}
  (D:Draws prog w A it fp n P St) (he0:Lm s.heap e it i) (hst:St i s.heap) (hlt:i < n) (hne:e≠it) (hef:e ∉ fp)
  (hQ:∀ x h' tk,P i x->Lm h' e it ((i:Int)+1)->St (i+1) h' ->
   h'.get? s.heap.objs.size=some { cls:=.type "tuple",data:=.seq #[.int i tk,x] }->h'.objs.size=s.heap.objs.size+1 ->
   (∀ b o,b≠e->b≠it->s.heap.get? b=some o->h'.get? b=some o)->Q (.ref s.heap.objs.size) { s with heap:=h',toks:=tk+1 }) :
  wpAny (model prog w) A (Builtin.«enumerate.__next__» ⟨[.ref e],[]⟩) (fun fin s'=>∃ v,fin=.done (.ret v)/\Q v s') E s:=by
 obtain ⟨a,oa,f1,old,he,hoa,hae,hai⟩:=he0
 obtain ⟨hp,g,d,tk₀,os⟩:=s
 show wpAny _ _ (field (.ref e) 2 >>= _) _ _ _
 refine O7 (Pm he rfl (x:=.ref it) rfl ?_)
 refine O7 (D.item i _ _ _ hlt hst fun x h₁ tk hPx hit₁ hs₁=>?_)
 replace hs₁:Pp it hp h₁:=hs₁
 have he₁:=(hs₁.2 e hne).trans he
 have ha₁:=hs₁.extBut a oa hai hoa
 show wpAny _ _ (field (.ref e) 3 >>= _) _ _ ⟨h₁,g,d,tk,os⟩
 refine O7 (Pm he₁ rfl (x:=rawInt i) rfl ?_)
 show wpAny _ _ (field (.ref e) 4 >>= _) _ _ ⟨h₁,g,d,tk,os⟩
 refine O7 (Pm he₁ rfl (x:=.none) rfl ?_)
 show wpAny _ _ (mkInt i >>= _) _ _ ⟨h₁,g,d,tk,os⟩
 refine O7 (wpAny_mkInt ?_)
 show wpAny _ _ (setField (.ref e) 3 (rawInt ((i:Int)+1)) >>= _) _ _ ⟨h₁,g,d,tk+1,os⟩
 refine O7 (Q1 he₁ (by simp) fun h₂ he₂ hs₂=>?_)
 replace hs₂:Pp e h₁ h₂:=hs₂
 have ha₂:=hs₂.extBut a oa hae ha₁
 replace he₂:h₂.get? e=some { cls:=.type "enumerate",dict:=none,data:=.fields #[rawInt a,f1,.ref it,rawInt ((i:Int)+1),.none,old],slots:=#[] }:=he₂
 show wpAny _ _ (setField (.ref e) 4 .none >>= _) _ _ ⟨h₂,g,d,tk+1,os⟩
 refine O7 (Q1 he₂ (by simp) fun h₃ he₃ hs₃=>?_)
 replace hs₃:Pp e h₂ h₃:=hs₃
 have ha₃:=hs₃.extBut a oa hae ha₂
 replace he₃:h₃.get? e=some { cls:=.type "enumerate",dict:=none,data:=.fields #[rawInt a,f1,.ref it,rawInt ((i:Int)+1),.none,old],slots:=#[] }:=he₃
 show wpAny _ _ (newTuple [.int i tk,x] >>= _) _ _ ⟨h₃,g,d,tk+1,os⟩
 refine O7 (wpAny_newTuple ?_)
 have he₄:(h₃.push { cls:=.type "tuple",data:=.seq #[.int i tk,x] }).get? e=some { cls:=.type "enumerate",dict:=none,data:=.fields #[rawInt a,f1,.ref it,rawInt ((i:Int)+1),.none,old],slots:=#[] }:=Pc _ he₃
 have ha₄:(h₃.push { cls:=.type "tuple",data:=.seq #[.int i tk,x] }).get? a=some oa:=Pc _ ha₃
 generalize hh₄:h₃.push { cls:=.type "tuple",data:=.seq #[.int i tk,x] }=h₄ at he₄ ha₄
 have hsz:h₃.objs.size=hp.objs.size:=by rw [hs₃.1,hs₂.1,hs₁.1]
 have hel:e < hp.objs.size:=Pf he
 have ht₄:h₄.get? hp.objs.size=some { cls:=.type "tuple",data:=.seq #[.int i tk,x] }:=by rw [<- hh₄,<- hsz];exact Po _ rfl
 have hz₄:h₄.objs.size=hp.objs.size+1:=by rw [<- hh₄,Qf,hsz]
 have hk₄:∀ b o,b≠e->b≠it->hp.get? b=some o->h₄.get? b=some o:=fun b o hbe hbi hb=>by
  rw [<- hh₄];exact Pc _ (hs₃.extBut b o hbe (hs₂.extBut b o hbe (hs₁.extBut b o hbi hb)))
 have hit₄:St (i+1) h₄:=D.frame _ _ _ hit₁ fun b hb o y=>by
  have hbe:b≠e:=fun q=>hef (q ▸ hb)
  rw [<- hh₄];exact Pc _ (hs₃.extBut b o hbe (hs₂.extBut b o hbe y))
 show wpAny _ _ (Qz (.ref e) >>= _) _ _ ⟨h₄,g,d,tk+1,os⟩
 rw [hsz]
 clear hh₄ ha₃ ha₂ ha₁ he₃ hs₃ he₂ hs₂ he₁ hs₁ hit₁ hsz h₃ h₂ h₁
 refine O7 ?_
 unfold Qz
 refine O7 (Pm he₄ rfl (x:=rawInt a) rfl ?_)
 show wpAny _ _ (loadIfAlive ((a:Int).toNat) >>= _) _ _ ⟨h₄,g,d,tk+1,os⟩
 refine O7 (Zfv ?_)
 rw [Qm]
 show wpAny _ _ (if (h₄.get? a).isNone=true then _ else _) _ _ ⟨h₄,g,d,tk+1,os⟩
 rw [ha₄]
 rw [if_neg (by simp)]
 refine O7 (Pm he₄ rfl (x:=f1) rfl ?_)
 have fin:∀ h₅,Lm h₅ e it ((i:Int)+1)->Pp e h₄ h₅->Q (.ref hp.objs.size) ⟨h₅,g,d,tk+1,os⟩:=fun h₅ hl hs₅ =>
  hQ x h₅ tk hPx hl (D.frame _ _ _ hit₄ fun b hb o y=>hs₅.extBut b o (fun q=>hef (q ▸ hb)) y) (hs₅.extBut _ _ (Qq hel) ht₄) (by rw [hs₅.1,hz₄]) fun b o hbe hbi hb=>hs₅.extBut b o hbe (hk₄ b o hbe hbi hb)
 by_cases hf:(f1 != Value.bool true)=true
 ·simp only [hf,if_true]
  refine O7 (Q1 he₄ (by simp) fun h₅ he₅ hs₅=>?_)
  replace hs₅:Pp e h₄ h₅:=hs₅
  refine O8 ?_
  simp only [Sy,if_false]
  refine O8 ⟨_,rfl,fin h₅ ⟨a,oa,.bool true,old,he₅,hs₅.extBut a oa hae ha₄,hae,hai⟩ hs₅⟩
 ·simp only [hf]
  refine O8 ?_
  simp only [Sy,if_false]
  exact O8 ⟨_,rfl,fin h₄ ⟨a,oa,f1,old,he₄,ha₄,hae,hai⟩ (Pp.refl ..)⟩
noncomputable def EnSt (h:Heap)(e it:Addr)(i:Nat):Prop:=(i=0/\∃ old,IsEnum h e it 0 old)\/(0 < i/\Lm h e it i)
theorem EnSt.obj {h:Heap}{e it:Addr}{i:Nat}(x:EnSt h e it i):∃ vs,h.get? e=some { cls:=.type "enumerate",dict:=none,data:=.fields vs,slots:=#[] }:=by
 rcases x with ⟨_,old,x⟩ | ⟨_,_,_,_,_,x,_⟩
 ·exact ⟨_,x⟩
 ·exact ⟨_,x⟩
theorem Zgs {e it:Addr}{fp:List Addr}{n i:Nat}{P:Nat->Value->Prop}{St:Nat->Heap->Prop}{Q:Option Value->Shared->Prop}
  (D:Draws prog w A.in1 it fp n P St) (he:EnSt s.heap e it i) (hst:St i s.heap) (hlt:i < n) (hne:e≠it) (hef:e ∉ fp)
  (hQ:∀ x h' tk,P i x->EnSt h' e it (i+1)->St (i+1) h' ->
   h'.get? s.heap.objs.size=some { cls:=.type "tuple",data:=.seq #[.int i tk,x] }->h'.objs.size=s.heap.objs.size+1 ->
   (∀ b o,b≠e->b≠it->s.heap.get? b=some o->h'.get? b=some o)->Q (some (.ref s.heap.objs.size)) { s with heap:=h',toks:=tk+1 }) :
  wpAny (model prog w) A (pyNext (.ref e)) Q E s:=by
 obtain ⟨vs,ho⟩:=he.obj
 have hT:s.TypeIs (.ref e) "enumerate" := ⟨_,ho,rfl⟩
 have hel:e < s.heap.objs.size:=Pf ho
 have hil:it < s.heap.objs.size:=by obtain ⟨_,y⟩:=D.live _ _ hst;exact Pf y
 rcases he with ⟨rfl,old,he⟩ | ⟨_,he⟩
 ·refine wpAny_pyNext_enum_itemD D he hst hlt hne hef fun x h' tk a b c z k q=>?_
  exact hQ x h' tk a (.inr ⟨Va _,_,_,_,_,b,z,Qq hel,Qq hil⟩) c z k q
 ·unfold pyNext
  exact O7 (Sd (Q6 (name:=Qj "__next__") hT Tq
   (Q9 Tq hT Wb
    (Zgw D he hst hlt hne hef fun x h' tk a b c z k q=>O8 (hQ x h' tk a (.inr ⟨Va _,b⟩) c z k q)) (Wa _))))
theorem Zoo {e it:Addr}{fp:List Addr}{n:Nat}{P:Nat->Value->Prop}{St:Nat->Heap->Prop}{Q:Option Value->Shared->Prop}
  (D:Draws prog w A.in1 it fp n P St) (he:EnSt s.heap e it n) (hst:St n s.heap)
  (hQ:∀ h',Si it s.heap h'->Q none { s with heap:=h' }):wpAny (model prog w) A (pyNext (.ref e)) Q E s:=by
 obtain ⟨vs,ho⟩:=he.obj
 have hT:s.TypeIs (.ref e) "enumerate" := ⟨_,ho,rfl⟩
 have h2:vs[2]?=some (.ref it):=by
  rcases he with ⟨rfl,old,he⟩ | ⟨_,a,oa,f1,old,he,_⟩
  ·unfold IsEnum at he
   rw [ho] at he
   injection he with he
   injection he with _ _ he _
   injection he with he
   rw [he];rfl
  ·rw [ho] at he
   injection he with he
   injection he with _ _ he _
   injection he with he
   rw [he];rfl
 unfold pyNext
 refine O7 (Sd (Q6 (name:=Qj "__next__") hT Tq
  (Q9 Tq hT Wb ?_ (Wa _))))
 show wpAny _ _ (field (.ref e) 2 >>= _) _ _ _
 refine O7 (Pm ho rfl (x:=.ref it) h2 ?_)
 refine O7 (D.done _ _ _ hst fun h' x he' hx'=>?_)
 obtain ⟨o,ho',hc⟩:=hx'
 refine O7 (Vz (T := "StopIteration") (b:=true) ⟨o,ho',hc⟩ isSubtype_stop ?_)
 exact O8 (hQ _ he')
end
theorem Zdb {prog:Program}{w:World}{A:Around}{E:Value->Shared->Prop}{s:Shared}{it:Addr}{T:String}{Q:Bool->Shared->Prop}(hT:s.TypeIs (.ref it) T)(n1:typeLookup (.type T) "__len__" = pure none)(n2:typeLookup (.type T) "__length_hint__" = pure none)(h:Q true s):wpAny (model prog w) A (Vh (.ref it)) Q E s:=by
 unfold Vh
 refine O7 (V5 hT n1 ?_)
 show wpAny _ A (specialOf (Value.ref it) (Qj "__length_hint__") >>= _) _ _ _
 refine O7 (V5 hT n2 ?_)
 exact O8 h
structure Src (X:Cx)(pins:List (Addr×Obj))(σ:St)(it:Addr)(T:String)(n:Nat)(H0:Hp)(J:Nat->List V->Hp->Heap->Prop):Prop where
 ty:∀ i ys H h,J i ys H h->∃ o,h.get? it=some o/\o.cls=.type T
 nl:(Value.type T == Value.type "list")=false/\(Value.type T == Value.type "tuple")=false
 hint:∃ mr:Bool,∀(A:Around)(s:Shared)(Q:Bool->Shared->Prop)(E:Value->Shared->Prop),s.TypeIs (.ref it) T->Q mr s->wpAny (model X.prog X.w) A (Vh (.ref it)) Q E s
 self:∀(A:Around)(s:Shared)(ys:List V)(H:Hp)(Q:Value->Shared->Prop)(E:Value->Shared->Prop),J 0 ys H s.heap->Q (.ref it) s->wpAny (model X.prog X.w) A (pyIter (.ref it)) Q E s
 keep:∀ i ys H h h' S zs zs',H0 S=none->H S=some (.lst zs)->J i ys H h->(∀ b o,b≠S->h.get? b=some o->h'.get? b=some o)->(∃ o,h'.get? S=some o)->J i ys (upd H S (.lst zs')) h'
 fresh:∀ i ys H h,J i ys H h->H it=none
 item:∀(A:Around)(i:Nat)(s:Shared)(H:Hp)(ys:List V)(E:Value->Shared->Prop),A.handled=none->i < n->Inv X pins σ H s->J i ys H s.heap ->
  wpAny (model X.prog X.w) A (pyNext (.ref it)) (fun r s'=>∃ u x H',r=some u/\RelV x u/\Inv X pins σ H' s'/\J (i+1) (ys++[x]) H' s'.heap/\∀ S zs,H S=some (.lst zs)->H' S=some (.lst zs)) E s
 done:∀(A:Around)(s:Shared)(H:Hp)(ys:List V)(E:Value->Shared->Prop),A.handled=none->Inv X pins σ H s->J n ys H s.heap ->
  wpAny (model X.prog X.w) A (pyNext (.ref it)) (fun r s'=>r=none/\Inv X pins σ H s') E s
section
variable {X:Cx}{pins:List (Addr×Obj)}{σ:St}{it:Addr}{T:String}{n:Nat}{H0:Hp}{J:Nat->List V->Hp->Heap->Prop}
theorem Zf9 (C:Src X pins σ it T n H0 J)(hn:n<=sizeLine){A:Around}(hh:A.handled=none){R:Result->Shared->Prop}(S:Addr)(hS0:H0 S=none)(res:Value)
  (fin:∀ s' H' ys',Inv X pins σ H' s'->H' S=some (.lst ys')->ys'.length=n->(∃ h,J n ys' H' h)->R (.ok (.ret res)) s') :
  ∀(k i:Nat)(s:Shared)(H:Hp)(ys:List V),n - i=k->i<=n->Inv X pins σ H s->J i ys H s.heap->H S=some (.lst ys)->ys.length=i ->
  codeAny (model X.prog X.w) A (.builtin "list.extend.loop" ⟨[.ref S,.ref it,res],[]⟩) R s:=by
 intro k
 induction k with
 | zero =>
  intro i s H ys hk hi I j hS hl
  have hin:i=n:=by omega
  subst hin
  refine Sa PySem.F.entry_extend_loop ?_
  rw [R6 Sl _]
  show wpAny _ A.in1 (pyNext (.ref it) >>= _) _ _ s
  refine O7 (Ao (C.done A.in1 s H ys _ hh I j) fun r s' zq=>?_)
  obtain ⟨hr,I'⟩:=zq
  subst hr
  exact O8 (fin s' H ys I' hS hl ⟨_,j⟩)
 | succ k ih =>
  intro i s H ys hk hi I j hS hl
  have hlt:i < n:=by omega
  refine Sa PySem.F.entry_extend_loop ?_
  rw [R6 Sl _]
  show wpAny _ A.in1 (pyNext (.ref it) >>= _) _ _ s
  refine O7 (Ao (C.item A.in1 i s H ys _ hh hlt I j) fun r s' zq=>?_)
  obtain ⟨u,x,H',hr,rx,I',j',kS⟩:=zq
  subst hr
  have hS':=kS S ys hS
  obtain ⟨z,its,m,rv,hl',e⟩:=I'.lstM hS'
  show wpAny _ A.in1 (updateSeq S (·.push u) >>= _) _ _ _
  refine O7 ?_
  have hu:(its.toArray.push u)=(its++[u]).toArray:=by simp
  have I2:=I'.lset (f:=(·.push u)) (its':=its++[u]) (ys:=ys++[x]) (t':=s'.toks) hS' e hu (rv.append (.cons rx .nil)) (by rw [Pg,Pl];omega)
  refine Uu e rfl (O8 ⟨Rz Sl _,ih (i+1) _ _ (ys++[x]) (by omega) hlt I2 ?_ Ad (by simp [hl])⟩)
   (by rw [Pe];omega) (by show (its.toArray.push u).size<=sizeLine+1;rw [Array.size_push,Pe];omega)
  exact C.keep _ _ _ _ _ S ys (ys++[x]) hS0 hS' j' (fun b o hb eb=>(Qu _ _ (Pk hb)).trans eb) ⟨_,Rf _ e rfl⟩
theorem Zel {H:Hp}(C:Src X pins σ it T n H J)(hn:n<=sizeLine){A:Around}(hh:A.handled=none){s:Shared}{Q:VK}{E:Value->Shared->Prop}(I:Inv X pins σ H s)(j:J 0 [] H s.heap)
  (jn:∀ S,s.heap.objs.size<=S->H S=none->∀ h',(∀ b o,s.heap.get? b=some o->h'.get? b=some o)->J 0 [] (upd H S (.lst [])) h')
  (q:∀ S H' ys,H S=none->H' S=some (.lst ys)->ys.length=n->(∃ h,J n ys H' h)->Q (.ref S) H') :
  wpAny (model X.prog X.w) A (call (.type "list") [.ref it]) (EP X pins σ Q) E s:=by
 have hf:H s.heap.objs.size=none:=I.hok.fresh (O9 _)
 have hne:s.heap.objs.size≠it:=by
  obtain ⟨o,e,_⟩:=C.ty _ _ _ _ j
  exact Qq (Pf e)
 refine callType_codes (Q₁:=fun obj s₁=>obj=.ref s.heap.objs.size/\s₁={ s with heap:=s.heap.push { cls:=.type "list",data:=.seq #[] } }) PySem.F.called_list (PySem.F.typeCall_list_1 _) PySem.F.entry_list_init
  (code_list_new _ ⟨rfl,rfl⟩) fun obj s₁ h₁=>?_
 obtain ⟨rfl,rfl⟩:=h₁
 have hS:(s.heap.push { cls:=.type "list",data:=.seq #[] }).get? s.heap.objs.size=some { cls:=.type "list",data:=.seq #[] }:=Po _ rfl
 have I1:Inv X pins σ (upd H s.heap.objs.size (.lst [])) { s with heap:=s.heap.push { cls:=.type "list",data:=.seq ([]:List Value).toArray } }:=I.lnew (ys:=[]) (its:=[]) (t':=s.toks) .nil (by simp)
 have j1:J 0 [] (upd H s.heap.objs.size (.lst [])) (s.heap.push { cls:=.type "list",data:=.seq ([]:List Value).toArray })   := jn _ (O9 _) hf _ fun b o e=>Pc _ e
 refine ⟨⟨_,hS,rfl⟩,PySem.F.args_list_init_2 _ _,?_⟩
 generalize hs1:({ s with heap:=s.heap.push { cls:=.type "list",data:=.seq ([]:List Value).toArray } }:Shared)=s1 at I1
 have hS1:s1.heap.get? s.heap.objs.size=some { cls:=.type "list",data:=.seq ([]:List Value).toArray }:=by rw [<- hs1];exact hS
 replace j1:J 0 [] (upd H s.heap.objs.size (.lst [])) s1.heap:=by rw [<- hs1];exact j1
 have hs1':({ s with heap:=s.heap.push { cls:=.type "list",data:=.seq #[] } }:Shared)=s1:=hs1
 first | rw [hs1'] | skip
 show wpAny _ A.in1.in1 (do let old <- Builtin.List.listItems (.ref s.heap.objs.size);Builtin.List.listUpdate (.ref s.heap.objs.size) (fun _=>#[]);letGo old.toList.reverse;Vi (.ref s.heap.objs.size) (.ref it) .none) _ _ s1
 generalize s.heap.objs.size=S at *
 refine O7 ?_
 unfold Builtin.List.listItems
 refine O7 (Qx hS1 rfl (O8 ?_))
 show wpAny _ A.in1.in1 (updateSeq S (fun _=>#[]) >>= fun _=>letGo (#[]:Array Value).toList.reverse >>= fun _=>Vi (.ref S) (.ref it) .none) _ _ s1
 refine O7 (Uu hS1 rfl ?_)
 have I2:=I1.lset (f:=fun _=>#[]) (its':=[]) (ys:=[]) (t':=s1.toks) Ad hS1 rfl .nil (by simp)
 have hS2:=Rf (Qi (fun _=>(#[]:Array Value))) hS1 rfl
 have j2:=C.keep _ _ _ _ (s1.heap.update S (Qi fun _=>#[])) S [] [] hf Ad j1 (fun b o hb eb=>(Qu _ _ (Pk hb)).trans eb) ⟨_,hS2⟩
 rw [Jk] at I2 j2
 generalize hs2:({ s1 with heap:=s1.heap.update S (Qi fun _=>#[]),toks:=s1.toks }:Shared)=s2 at I2
 replace j2:J 0 [] (upd H S (.lst [])) s2.heap:=by rw [<- hs2];exact j2
 have hs2':({ s1 with heap:=s1.heap.update S (Qi fun _=>#[]) }:Shared)=s2:=hs2
 first | rw [hs2'] | skip
 refine O7 (Vf ?_)
 obtain ⟨oi,ei,ci⟩:=C.ty _ _ _ _ j2
 have hT:s2.TypeIs (.ref it) T:=⟨oi,ei,ci⟩
 unfold Vi
 refine O7 (U7 hT ?_)
 have h1:Builtin.List.listSameRef (.ref S) (.ref it)=false:=by simp [Builtin.List.listSameRef,hne]
 have h2:=C.nl.1
 have h3:=C.nl.2
 simp only [h1,h2,h3,Bool.or_false,Sy,if_false]
 refine O7 (C.self _ s2 _ _ _ _ j2 ?_)
 refine O7 (Qy ?_)
 obtain ⟨mr,hmr⟩:=C.hint
 refine hmr _ _ _ _ hT ?_
 split
 ·show wpAny _ A.in1.in1 (rule "list.extend.makes-room" >>= fun _=>Builtin.List.listTouch (.ref S) >>= fun _ =>
   again (.builtin "list.extend.loop" ⟨[.ref S,.ref it,.none],[]⟩)) _ _ _
  refine O7 (Tk ?_)
  refine O7 ?_
  show wpAny _ A.in1.in1 (updateSeq S (·.push .none) >>= fun _=>updateSeq S (·.pop)) _ _ _
  obtain ⟨_,its2,m2,rv2,_,e2⟩:=I2.lstM Ad
  cases rv2
  refine O7 (Uu e2 rfl ?_)
  have I3:=I2.lset (f:=(·.push Value.none)) (its':=[.none]) (ys:=[.non]) (t':=s2.toks) Ad e2 (by simp) (.cons rfl .nil) (by show 1<=sizeLine;decide)
  have hS3:=Rf (Qi (·.push Value.none)) e2 rfl
  have j3:=C.keep _ _ _ _ (s2.heap.update S (Qi (·.push Value.none))) S [] [.non] hf Ad j2 (fun b o hb eb=>(Qu _ _ (Pk hb)).trans eb) ⟨_,hS3⟩
  rw [Jk] at I3 j3
  generalize hs3:({ s2 with heap:=s2.heap.update S (Qi (·.push Value.none)),toks:=s2.toks }:Shared)=s3 at I3
  replace j3:J 0 [] (upd H S (.lst [.non])) s3.heap:=by rw [<- hs3];exact j3
  have hs3':({ s2 with heap:=s2.heap.update S (Qi (·.push Value.none)) }:Shared)=s3:=hs3
  first | rw [hs3'] | skip
  obtain ⟨_,its3,m3,rv3,hl3,e3⟩:=I3.lstM Ad
  have hl3':its3.length=1:=hl3.symm
  refine Uu e3 rfl ?_ (by rw [Pe,hl3'];decide) (by show its3.toArray.pop.size<=sizeLine+1;rw [Array.size_pop,Pe,hl3'];decide)
  have I4:=I3.lset (f:=(·.pop)) (its':=[]) (ys:=[]) (t':=s3.toks) Ad e3 (by
   cases its3 with
   | nil=>simp at hl3'
   | cons a r=>cases r with
    | nil=>simp
    | cons b r'=>simp at hl3') .nil (by simp)
  have hS4:=Rf (Qi (·.pop)) e3 rfl
  have j4:=C.keep _ _ _ _ (s3.heap.update S (Qi (·.pop))) S [.non] [] hf Ad j3 (fun b o hb eb=>(Qu _ _ (Pk hb)).trans eb) ⟨_,hS4⟩
  rw [Jk] at I4 j4
  refine O8 ⟨Rz Sl _,Zf9 C hn (A:=A.in1) hh S hf .none ?_ n 0 _ _ [] rfl (Qh _) I4 j4 Ad rfl⟩
  intro s' H' ys' I' hS' hl' hj'
  exact ⟨rfl,.ref S,H',I',rfl,q S H' ys' hf hS' hl' hj'⟩
 ·refine O8 ⟨Rz Sl _,Zf9 C hn (A:=A.in1) hh S hf .none ?_ n 0 _ _ [] rfl (Qh _) I2 j2 Ad rfl⟩
  intro s' H' ys' I' hS' hl' hj'
  exact ⟨rfl,.ref S,H',I',rfl,q S H' ys' hf hS' hl' hj'⟩
end
section
variable {X:Cx}{pins:List (Addr×Obj)}{σ:St}{H:Hp}{s:Shared}{h':Heap}
theorem Inv.turned2 {t':Nat}{i1 i2:Addr}(I:Inv X pins σ H s)(k:∀ b o,b≠i1->b≠i2->s.heap.get? b=some o->h'.get? b=some o)(f1:FpOk X pins H i1)(f2:FpOk X pins H i2):Inv X pins σ H { s with heap:=h',toks:=t' }:=by
 obtain ⟨n1,l1,_,e1,c1,p1⟩:=f1
 obtain ⟨n2,l2,_,e2,c2,p2⟩:=f2
 have nit:∀ b u,H b=some u->b≠i1/\b≠i2:=fun b u e=>⟨(fun z=>by rw [z,n1] at e;exact nomatch e),(fun z=>by rw [z,n2] at e;exact nomatch e)⟩
 refine I.step (g':=s.gens) (d':=s.drawn) (ch:=[i1,i2]) (fun b hb=>?_) (fun b o _ _ hc e _=>k b o (fun z=>hc (by simp [z])) (fun z=>hc (by simp [z])) e) (fun b o _ _ hc e _=>⟨o.slots,k b o (fun z=>hc (by simp [z])) (fun z=>hc (by simp [z])) e⟩) (fun _ _ _ _ n=>n)
  (fun b o hc e=>⟨o,k b o (fun z=>hc (by simp [z])) (fun z=>hc (by simp [z])) e⟩) (fun _ _ e=>e) (fun _ _ _ e=>e) (fun b ps e=>⟨#[],by rw [e];simp⟩) (fun m hm=>?_) (fun b u e=>?_) I.bare
 ·rcases Pd.mp hb with rfl | hb
  ·exact ⟨e1,l1,c1,p1⟩
  ·rw [P4.mp hb]
   exact ⟨e2,l2,c2,p2⟩
 ·obtain ⟨o,es,ep,ho,r⟩:=hm
  exact ⟨o,es,ep,k _ o (Pk l1) (Pk l2) ho,r⟩
 ·refine (I.hok b u e).stay (fun c v hc q=>k c v ?_ ?_ q) (fun _ q=>q) fun _ _ q=>q
  ·rcases hc with z | z
   ·rw [z];exact (nit b u e).1
   ·exact (nit c _ z).1
  ·rcases hc with z | z
   ·rw [z];exact (nit b u e).2
   ·exact (nit c _ z).2
end
theorem FpOk.of {X:Cx}{pins:List (Addr×Obj)}{H H':Hp}{b:Addr}(f:FpOk X pins H b)(h:H' b=none):FpOk X pins H' b:=⟨h,f.2⟩
theorem SqT.kept {K:O6}{H:Hp}{S a:Addr}{zs zs' xs:List V}(hS:H S=some (.lst zs))(h:SqT K H a xs):SqT K (upd H S (.lst zs')) a xs:=by
 rcases h with (h | ⟨o,h⟩) | h
 ·exact .inl (.inl (by rw [Ai (Dr h hS (by intro z;cases z))];exact h))
 ·exact .inl (.inr ⟨o,by rw [Ai (Dr h hS (by intro z;cases z))];exact h⟩)
 ·exact .inr h
theorem SqT.same {K:O6}{H H':Hp}{a:Addr}{xs:List V}(h:SqT K H a xs)(e:Same H H'):SqT K H' a xs:=e.tup h
noncomputable def Pairs (H:Hp)(xs:List V)(ys:List V):Prop:=∀(j:Nat)(y:V),ys[j]?=some y->∃(t:Addr)(x:V),y=V.ref t/\xs[j]?=some x/\H t=some (.tup [.int j,x])
noncomputable def JEn (K:O6)(H0:Hp)(en it a:Addr)(xs:List V):Nat->List V->Hp->Heap->Prop:=fun i ys H h =>
 EnSt h en it i/\h.IsTupleIter it a i/\(H en=none/\H it=none)/\SqT K H a xs/\ys.length=i/\Pairs H xs ys/\Same H0 H
theorem Zgy:typeLookup (.type "enumerate") "__len__" = pure none:=by rw [Tb,Sq];kernel_rfl
theorem Zlu:typeLookup (.type "enumerate") "__length_hint__" = pure none:=by rw [Tb,Sq];kernel_rfl
theorem Zqw {X:Cx}{pins:List (Addr×Obj)}{σ:St}{H0:Hp}{en it a:Addr}{xs:List V}(fe:FpOk X pins H0 en)(fi:FpOk X pins H0 it)(hne:en≠it)(hae:a≠en)(hai:a≠it):Src X pins σ en "enumerate" xs.length H0 (JEn X.K H0 en it a xs) where
 ty:=fun i ys H h j=>by
  obtain ⟨vs,e⟩:=j.1.obj
  exact ⟨_,e,rfl⟩
 nl:=by decide
 hint:=⟨_,fun A s Q E hT h=>Zdb hT Zgy Zlu h⟩
 self:=fun A s ys H Q E j q=>by
  rcases j.1 with ⟨_,old,e⟩ | ⟨z,_⟩
  ·exact wpAny_pyIter_enum e q
  ·exact absurd z (Qt _)
 keep:=fun i ys H h h' S zs zs' h0 hS j k al=>by
  obtain ⟨j1,j2,⟨j3,j4⟩,j5,j6,j7,j8⟩:=j
  have ne1:en≠S:=fun z=>by rw [z,hS] at j3;cases j3
  have ne2:it≠S:=fun z=>by rw [z,hS] at j4;cases j4
  refine ⟨?_,?_,⟨by rw [Ai ne1];exact j3,by rw [Ai ne2];exact j4⟩,j5.kept hS,j6,fun m y hy=>?_,fun b o e=>?_⟩
  ·rcases j1 with ⟨z,old,e⟩ | ⟨z,a0,oa,f1,old,e,ea,x1,x2⟩
   ·exact .inl ⟨z,old,k _ _ ne1 e⟩
   ·by_cases hs:a0=S
    ·subst hs
     obtain ⟨o,eo⟩:=al
     exact .inr ⟨z,a0,o,f1,old,k _ _ ne1 e,eo,x1,x2⟩
    ·exact .inr ⟨z,a0,oa,f1,old,k _ _ ne1 e,k _ _ hs ea,x1,x2⟩
  ·exact j2.at fun o e=>k _ _ ne2 e
  ·obtain ⟨t,x,e1,e2,e3⟩:=j7 m y hy
   exact ⟨t,x,e1,e2,by rw [Ai (Dr e3 hS (by intro z;cases z))];exact e3⟩
  ·have:b≠S:=fun z=>by rw [z,h0] at e;cases e
   rw [Ai this]
   exact j8 b o e
 fresh:=fun i ys H h j=>j.2.2.1.1
 item:=fun A i s H ys E hh hi I j=>by
  obtain ⟨j1,j2,⟨j3,j4⟩,j5,j6,j7,j8⟩:=j
  obtain ⟨its,rv,p,hz⟩:=I.tuple j5
  have hl:=rv.length
  have D:=Zap (prog:=X.prog) (w:=X.w) (A:=A.in1) hh it a hai its.toArray
  refine Zgs D j1 ⟨j2,p⟩ (by rw [Pe];omega) hne (by simp [hne,Pk hae]) fun x h' tk hx st' it' ht hsz kk=>?_
  have I1:Inv X pins σ H { s with heap:=h',toks:=tk+1 }:=I.turned2 (fun b o h1 h2 e=>kk b o h1 h2 e) (fe.of j3) (fi.of j4)
  have hx':its[i]?=some x:=by simpa using hx
  have hxs:i < xs.length:=hi
  obtain ⟨u,hu,ru⟩:=rv.get (Pa hxs)
  rw [hx'] at hu
  cases hu
  have hf:H s.heap.objs.size=none:=I.hok.fresh (O9 _)
  have I2:Inv X pins σ (upd H s.heap.objs.size (.tup [.int i,xs[i]])) { s with heap:=h',toks:=tk+1 }:=by
   have hokN:HOk X.prog X.w (upd H s.heap.objs.size (.tup [.int i,xs[i]])) h':=fun b o e=>by
    by_cases hb:b=s.heap.objs.size
    ·subst hb
     rw [Ad] at e
     cases e
     exact ⟨by show 2<=sizeLine;decide,[.int i tk,x],.cons ⟨tk,rfl⟩ (.cons ru .nil),⟨_,ht,rfl,_,rfl⟩⟩
    ·rw [Ai hb] at e
     refine (I1.hok b o e).stay (fun c v _ q=>q) (fun c q=>?_) fun c zs q=>?_
     ·rw [Ai (Cr q hf)];exact q
     ·rw [Ai (Cr q hf)];exact q
   have u:Un (Bs X.stack) [en,it] H (upd H s.heap.objs.size (.tup [.int i,xs[i]])) s.heap h':={
    keep:=fun b o e n _ hx=>kk b o (fun z=>hx (by simp [z])) (fun z=>hx (by simp [z])) e
    slot:=fun b o e n _ hx=>⟨o.slots,kk b o (fun z=>hx (by simp [z])) (fun z=>hx (by simp [z])) e⟩
    free:=fun b o e n _=>by rw [Ai (Pn (Pf e))];exact n
    there:=fun b o e hx=>⟨o,kk b o (fun z=>hx (by simp [z])) (fun z=>hx (by simp [z])) e⟩
    tups:=fun b zs e=>by rw [Ai (Cr e hf)];exact e
    frzs:=fun b o u e=>by rw [Ai (Cr e hf)];exact e
    tbls:=fun b ps e=>⟨#[],by rw [Ai (Cr e hf),e];simp⟩ }
   refine I.call (g':=s.gens) (d':=s.drawn) (t':=tk+1) u hokN I.bare fun b hb=>?_
   rcases Pd.mp hb with rfl | hb
   ·exact ⟨fe.2.2.2.1,fe.2.1,fe.2.2.2.2.1,fe.2.2.2.2.2⟩
   ·rw [P4.mp hb]
    exact ⟨fi.2.2.2.1,fi.2.1,fi.2.2.2.2.1,fi.2.2.2.2.2⟩
  have sm:Same H (upd H s.heap.objs.size (.tup [.int i,xs[i]])):=Same.upd hf
  have ne1:en≠s.heap.objs.size:=by obtain ⟨_,e⟩:=j1.obj;exact Pn (Pf e)
  have ne2:it≠s.heap.objs.size:=by obtain ⟨_,e,_⟩:=j2;exact Pn (Pf e)
  refine ⟨_,.ref s.heap.objs.size,_,rfl,rfl,I2,⟨st',it'.1,⟨by rw [Ai ne1];exact j3,by rw [Ai ne2];exact j4⟩,j5.same sm,by simp [j6],fun m y hy=>?_,j8.trans sm⟩,fun S zs e=>sm S _ e⟩
  by_cases hm:m < i
  ·rw [Qa (by omega)] at hy
   obtain ⟨t,z,e1,e2,e3⟩:=j7 m y hy
   exact ⟨t,z,e1,e2,sm _ _ e3⟩
  ·have hlen:=(Pq.mp hy).1
   rw [Pg,Pl] at hlen
   have:m=i:=by omega
   subst this
   rw [P6 (by omega),j6,Rb] at hy
   have hy:V.ref s.heap.objs.size=y:=by simpa using hy
   exact ⟨_,xs[m],hy.symm,Pa hxs,Ad⟩
 done:=fun A s H ys E hh I j=>by
  obtain ⟨j1,j2,⟨j3,j4⟩,j5,j6,j7,j8⟩:=j
  obtain ⟨its,rv,p,hz⟩:=I.tuple j5
  have hl:=rv.length
  have D:=Zap (prog:=X.prog) (w:=X.w) (A:=A.in1) hh it a hai its.toArray
  have e:xs.length=its.toArray.size:=by rw [Pe];omega
  rw [e] at j1 j2
  refine Zoo D j1 ⟨j2,p⟩ fun h' eb=>⟨rfl,?_⟩
  obtain ⟨g0,g1,g2,g3,g4,g5⟩:=fi.of j4
  exact I.turned (t':=s.toks) (fun b o hb e=>eb b o hb e) g0 g1 g3 g4 g5
section
variable {X:Cx}
theorem Zcp:bootBuiltins "list" = some (.type "list"):=by decide +kernel
noncomputable def Za4 (K:O6)(ta:TA):TE:=fun σ H Q=>ta σ H fun vs H1=>∃ a xs,vs=[.ref a]/\SqT K H1 a xs /\
 ∀(S:Addr)(ys:List V)(H2:Hp),H1 S=none->Same H1 H2->ys.length=xs.length->Pairs H2 xs ys->H2 S=some (.lst ys)->Q (.ref S) H2
theorem Zn8 {e:Expr}{ta:TA}{p p2 pos pos2:Pos}(hg:Gl X "list")(hm:X.mg "list" = none)(hg2:Gl X "enumerate")(hm2:X.mg "enumerate" = none)(ha:QA X [e] ta)(hc:X.calm=true:=by rfl)
  (hs:starEach [.Call (.Name "enumerate" p2) [e] [] pos2] X.env=[(false,eval (.Call (.Name "enumerate" p2) [e] [] pos2) X.env)]:=by rfl) (hs2:starEach [e] X.env=[(false,eval e X.env)]:=by rfl) :
  QE X (.Call (.Name "list" p) [.Call (.Name "enumerate" p2) [e] [] pos2] [] pos) (Za4 X.K ta):=by
 refine ⟨fun pins s σ H Q I h=>?_⟩
 refine Call_ (Fm I hg hm Zcp (Rq ?_ hs rfl))
 rw [hs]
 show wpAny _ _ (spliced ((false,eval (.Call (.Name "enumerate" p2) [e] [] pos2) X.env)::[])) _ _ s
 refine Vq ?_
 refine Call_ (Fm I hg2 hm2 PyProof.Rows.boot_enumerate (Rq (Ao (ha.run pos2 pins s σ H _ I h) fun us s1 zq=>?_) hs2 rfl))
 obtain ⟨vs,H1,I1,r1,q1⟩:=zq
 obtain ⟨a,xs,e1,hq,q⟩:=q1
 subst e1
 cases r1 with
 | cons r rr =>
  cases rr
  cases r
  obtain ⟨its,rv,pt,hz⟩:=I1.tuple hq
  have hlt:a < s1.heap.objs.size:=by obtain ⟨o,e,_⟩:=id pt;exact Pf e
  refine Zno (show s1.heap.IsTuple a its.toArray from pt) fun h' hen hit hsz hk=>?_
  refine Vu ?_
  have I2:Inv X pins σ H1 { s1 with heap:=h' }:=I1.kept (t':=s1.toks) hk
  have fe:=I1.fpOk (b:=s1.heap.objs.size+1) (Ve _) (I1.hok.fresh (Ve _))
  have fi:=I1.fpOk (b:=s1.heap.objs.size) (O9 _) (I1.hok.fresh (O9 _))
  have C:=Zqw (X:=X) (pins:=pins) (σ:=σ) (H0:=H1) (en:=s1.heap.objs.size+1) (it:=s1.heap.objs.size) (a:=a) (xs:=xs) fe fi (Nat.succ_ne_self _) (Pn (Nat.lt_succ_of_lt hlt)) (Pn hlt)
  refine Zel C (by omega) (I1.ok.hd hc) I2 ⟨.inl ⟨rfl,_,hen⟩,hit,⟨fe.1,fi.1⟩,hq,rfl,fun j y hy=>by simp at hy,Same.refl _⟩ (fun S hge hS h2 k2=>?_) fun S H' ys hS hS' hl' hj=>?_
  ·have sm:Same H1 (upd H1 S (.lst [])):=Same.upd hS
   refine ⟨.inl ⟨rfl,_,k2 _ _ hen⟩,hit.at fun o e=>k2 _ _ e,⟨?_,?_⟩,hq.same sm,rfl,fun j y hy=>by simp at hy,sm⟩
   ·rw [Ai (show s1.heap.objs.size+1≠S from fun z=>?_)]
    ·exact fe.1
    ·have hge:h'.objs.size<=S:=hge
     omega
   ·rw [Ai (show s1.heap.objs.size≠S from fun z=>?_)]
    ·exact fi.1
    ·have hge:h'.objs.size<=S:=hge
     omega
  ·obtain ⟨h,j⟩:=hj
   exact q S ys H' hS j.2.2.2.2.2.2 hl' j.2.2.2.2.2.1 hS'
end
end L2
namespace L2
open PySem PySem.SeqAt
open PySem.AutoSeq1 (wpAny_loadPart')
open PySem.MeetsSeq PySem.MeetsSeq2 PySem.MeetsSeq3 PySem.SeqRoads2
theorem Zql (l b:Addr)(items items2:Array Value)(n n2:Nat)(dd dd2:Option Addr)(sl sl2:Array (Option Value))(hsz:items.size=items2.size)(e:Nat->Bool)(k:Nat) :
  ∀ i:Nat,items.size - i=k->Meets (Builtin.«list.__eq__.loop» ⟨[.ref l,.ref b,rawInt i,rawInt 3],[]⟩)
   (fun A R s=>s.heap.get? l=some { cls:=.type "list",dict:=dd,data:=.seq items n,slots:=sl }/\s.heap.get? b=some { cls:=.type "list",dict:=dd2,data:=.seq items2 n2,slots:=sl2 } /\
    (∀ j (h1:j < items.size) (h2:j < items2.size),EqAt A.in1 s items[j] items2[j] (e j)) /\
    R (.ok (.ret (.bool (!((Pw items.size).drop i).all e)))) s):=by
 induction k with
 | zero =>
  intro i hk prog w A R s h
  obtain ⟨hp,g,d,tk,os⟩:=s;obtain ⟨hl,hb,he,h⟩:=h
  wp_walk using wpAny_loadPart' hl,wpAny_loadPart' hb
  have hi1:items[((i:Nat):Int).toNat]?=none:=by simp;omega
  have hi2:items2[((i:Nat):Int).toNat]?=none:=by simp;omega
  have hd:(Pw items.size).drop i=[]:=by simp;omega
  rw [hd] at h
  rw [hi1,hi2]
  wp_walk using wpAny_loadPart' hl,wpAny_loadPart' hb
  show R (.ok (.ret (.bool (items.size != items2.size)))) _
  rw [hsz]
  simpa using h
 | succ k ih =>
  intro i hk prog w A R s h
  obtain ⟨hp,g,d,tk,os⟩:=s;obtain ⟨hl,hb,he,h⟩:=h
  wp_walk using wpAny_loadPart' hl,wpAny_loadPart' hb
  have hlt:i < items.size:=by omega
  have hlt2:i < items2.size:=by omega
  have hi1:items[((i:Nat):Int).toNat]?=some items[i]:=by simp [hlt]
  have hi2:items2[((i:Nat):Int).toNat]?=some items2[i]:=by simp [hlt2]
  have hd:(Pw items.size).drop i=i::(Pw items.size).drop (i+1):=by simp [Sn,hlt]
  have hc:((i:Int)+1)=((i+1:Nat):Int):=by push_cast;rfl
  rw [hd,Q4] at h
  rw [hi1,hi2]
  refine O7 (he i hlt hlt2 prog w _ _ ?_)
  cases hb':e i with
  | true =>
   rw [hb'] at h
   wp_walk
   rw [hc]
   exact ⟨Rz plain_eq_loop _,Sa entry_eq_loop (by
    rw [R6 plain_eq_loop _]
    exact ih (i+1) (by omega) prog w A R _ ⟨hl,hb,he,by simpa using h⟩)⟩
  | false =>
   rw [hb'] at h
   wp_walk using wpAny_loadPart' hl,wpAny_loadPart' hb
   rw [hi1,hi2]
   wp_walk
   simpa using h
theorem Zpm (l b:Addr)(items items2:Array Value)(n n2:Nat)(dd dd2:Option Addr)(sl sl2:Array (Option Value))(hsz:items.size=items2.size)(e:Nat->Bool) :
  Meets (Builtin.«list.__ne__» ⟨[.ref l,.ref b],[]⟩)
   (fun A R s=>s.heap.get? l=some { cls:=.type "list",dict:=dd,data:=.seq items n,slots:=sl }/\s.heap.get? b=some { cls:=.type "list",dict:=dd2,data:=.seq items2 n2,slots:=sl2 } /\
    (∀ j (h1:j < items.size) (h2:j < items2.size),EqAt A.in1 s items[j] items2[j] (e j)) /\
    R (.ok (.ret (.bool (!(Pw items.size).all e)))) s):=by
 intro prog w A R s h
 obtain ⟨hp,g,d,tk,os⟩:=s;obtain ⟨hl,hb,he,h⟩:=h
 have f3:=PySem.AutoSeq1.sub_list_list
 have hne:¬ (items.size != items2.size)=true:=by simp [hsz]
 wp_walk using wpAny_loadPart' hl,wpAny_loadPart' hb
 exact ⟨Rz plain_eq_loop _,Sa entry_eq_loop (by
  rw [R6 plain_eq_loop _]
  exact Zql l b items items2 n n2 dd dd2 sl sl2 hsz e _ 0 rfl prog w A R _ ⟨hl,hb,he,by simpa using h⟩)⟩
theorem Znn (l b:Addr)(items items2:Array Value)(n n2:Nat)(dd dd2:Option Addr)(sl sl2:Array (Option Value))(e:Nat->Bool) :
  Meets (Builtin.«tuple.__ne__» ⟨[.ref l,.ref b],[]⟩)
   (fun A R s=>s.heap.get? l=some { cls:=.type "tuple",dict:=dd,data:=.seq items n,slots:=sl }/\s.heap.get? b=some { cls:=.type "tuple",dict:=dd2,data:=.seq items2 n2,slots:=sl2 } /\
    (∀ j (h1:j < items.size) (h2:j < items2.size),EqAt A.in1 s items[j] items2[j] (e j)) /\
    R (.ok (.ret (.bool (!((Pw (min items.size items2.size)).all e && items.size == items2.size))))) s) :=
 .of_wp fun prog w A R s h=>by
  obtain ⟨hp,g,d,tk,os⟩:=s;obtain ⟨hl,hb,he,h⟩:=h
  have f2:=PySem.AutoSeq1.sub_tuple_tuple
  have hZ:(items.toList.zip items2.toList).length=min items.size items2.size:=by simp
  wp_walk using wpAny_loadPart' hl,wpAny_loadPart' hb,wpAny_forIn_list _ (fun rest b s'=>b.1=none/\s'=⟨hp,g,d,tk,os⟩/\∃ i,rest=(items.toList.zip items2.toList).drop i /\
   R (.ok (.ret (.bool (!(((Pw (min items.size items2.size)).drop i).all e && items.size == items2.size))))) ⟨hp,g,d,tk,os⟩) _
  case turn =>
   rintro ⟨y,x⟩ rest b s' ⟨hb',rfl,i,hz,hR⟩
   have hlt:i < (items.toList.zip items2.toList).length:=by
    rcases Nat.lt_or_ge i (items.toList.zip items2.toList).length with h' | h'
    ·exact h'
    ·rw [So h'] at hz;cases hz
   have hm:i < min items.size items2.size:=hZ ▸ hlt
   have h1:i < items.size:=Pt hm (Nat.min_le_left _ _)
   have h2:i < items2.size:=Pt hm (Nat.min_le_right _ _)
   rw [Sn hlt] at hz
   injection hz with hyx hrest
   have hy:y=items[i]:=by have:=congrArg Prod.fst hyx;simpa using this
   have hx:x=items2[i]:=by have:=congrArg Prod.snd hyx;simpa using this
   subst hy hx
   have hd:(Pw (min items.size items2.size)).drop i=i::(Pw (min items.size items2.size)).drop (i+1):=by simp [Sn,hm]
   rw [hd,Q4] at hR
   refine O7 (he i h1 h2 prog w _ _ ?_)
   cases hy:e i with
   | true =>
    rw [hy] at hR
    wp_walk
    exact ⟨rfl,rfl,i+1,hrest,by simpa using hR⟩
   | false =>
    rw [hy] at hR
    wp_walk
    exact ⟨_,rfl,by simpa using hR⟩
  case fin =>
   rintro ⟨b1,b2⟩ s' ⟨hb',rfl,i,hz,hR⟩
   simp only at hb'
   subst hb'
   have hge:min items.size items2.size<=i:=by
    rcases Nat.lt_or_ge i (items.toList.zip items2.toList).length with h' | h'
    ·rw [Sn h'] at hz;cases hz
    ·exact hZ ▸ h'
   rw [So (by simpa using hge)] at hR
   wp_walk
   exact ⟨_,rfl,by simpa [Builtin.Tuple.tupleCompareSizes,bne] using hR⟩
  case h =>
   exact ⟨rfl,rfl,0,rfl,by simpa using h⟩
section
variable {prog:Program}{w:World}{A:Around}{E:Value->Shared->Prop}{s:Shared}
theorem Zk6 {l b:Addr}{items items2:Array Value}{e:Nat->Bool}{Q:Value->Shared->Prop}(hl:s.heap.IsList l items)(hb:s.heap.IsList b items2)(hsz:items.size=items2.size)(hu:A.units < cLine)
  (he:∀ j (h1:j < items.size) (h2:j < items2.size),EqAt A.in1 s items[j] items2[j] (e j)) (h:Q (.bool (!(Pw items.size).all e)) s):wpAny (model prog w) A (compareOp .NotEq (.ref l) (.ref b)) Q E s:=by
 obtain ⟨⟨cls,dd,data,sl⟩,ho,hc,n,hd⟩:=id hl
 obtain ⟨⟨cls2,dd2,data2,sl2⟩,ho2,hc2,n2,hd2⟩:=id hb
 simp only at hc hd hc2 hd2
 subst hc hd hc2 hd2
 exact richCompare_meets_room (op:=.NotEq) ⟨_,ho,rfl⟩ ⟨_,ho2,rfl⟩ F.slot_list_ne F.entry_list_ne (F.args_list_ne_2 _ _) (Zpm l b items items2 n n2 dd dd2 sl sl2 hsz e)
  ⟨ho,ho2,he,show Value.bool (!(Pw items.size).all e)≠Value.notImplemented/\Q (.bool (!(Pw items.size).all e)) s from ⟨(fun x=>nomatch x),h⟩⟩ hu
theorem Zpg {l b:Addr}{items items2:Array Value}{e:Nat->Bool}{Q:Value->Shared->Prop}(hl:s.heap.IsTuple l items)(hb:s.heap.IsTuple b items2)(hu:A.units < cLine)
  (he:∀ j (h1:j < items.size) (h2:j < items2.size),EqAt A.in1 s items[j] items2[j] (e j)) (h:Q (.bool (!((Pw (min items.size items2.size)).all e && items.size == items2.size))) s):wpAny (model prog w) A (compareOp .NotEq (.ref l) (.ref b)) Q E s:=by
 obtain ⟨⟨cls,dd,data,sl⟩,ho,hc,n,hd⟩:=id hl
 obtain ⟨⟨cls2,dd2,data2,sl2⟩,ho2,hc2,n2,hd2⟩:=id hb
 simp only at hc hd hc2 hd2
 subst hc hd hc2 hd2
 exact richCompare_meets_room (op:=.NotEq) ⟨_,ho,rfl⟩ ⟨_,ho2,rfl⟩ F.slot_tuple_ne F.entry_tuple_ne (F.args_tuple_ne_2 _ _) (Znn l b items items2 n n2 dd dd2 sl sl2 e)
  ⟨ho,ho2,he,show Value.bool (!((Pw (min items.size items2.size)).all e && items.size == items2.size))≠Value.notImplemented/\Q (.bool (!((Pw (min items.size items2.size)).all e && items.size == items2.size))) s from ⟨(fun x=>nomatch x),h⟩⟩ hu
end
end L2
namespace L2
open PySem PySem.Spec PyProof.Rows
inductive Dt where
 | flat (v:V)
 | tup (ds:List Dt)
 | lst (ds:List Dt)
inductive IsD (K:O6)(H:Hp):Nat->V->Dt->Prop where
 | flat {n:Nat} {v:V} (h:Cy v=true):IsD K H n v (.flat v)
 | tup {n:Nat} {a:Addr} {vs:List V} {ds:List Dt} (q:SqT K H a vs) (l:vs.length=ds.length) (h:∀(j:Nat)(v:V)(d:Dt),vs[j]?=some v->ds[j]?=some d->IsD K H n v d):IsD K H (n+1) (.ref a) (.tup ds)
 | lst {n:Nat} {a:Addr} {vs:List V} {ds:List Dt} (q:SqL K H a vs) (l:vs.length=ds.length) (h:∀(j:Nat)(v:V)(d:Dt),vs[j]?=some v->ds[j]?=some d->IsD K H n v d):IsD K H (n+1) (.ref a) (.lst ds)
theorem IsD.same {K:O6}{H H':Hp}{n:Nat}{v:V}{d:Dt}(h:IsD K H n v d)(e:Same H H'):IsD K H' n v d:=by
 induction h with
 | flat h=>exact .flat h
 | tup q l _ ih=>exact .tup (e.tup q) l ih
 | lst q l _ ih=>exact .lst (e.seq q) l ih
theorem IsD.up {K:O6}{H:Hp}{n m:Nat}{v:V}{d:Dt}(h:IsD K H n v d)(hm:n<=m):IsD K H m v d:=by
 induction h generalizing m with
 | flat h=>exact .flat h
 | tup q l _ ih =>
  obtain ⟨k,rfl⟩:∃ k,m=k+1:=⟨m - 1,by omega⟩
  exact .tup q l fun j v d e1 e2=>ih j v d e1 e2 (by omega)
 | lst q l _ ih =>
  obtain ⟨k,rfl⟩:∃ k,m=k+1:=⟨m - 1,by omega⟩
  exact .lst q l fun j v d e1 e2=>ih j v d e1 e2 (by omega)
theorem Zcd {v:V}(h:Cy v=true):Ei v v=true:=by
 cases v with
 | non=>rfl
 | bl b=>simp [Ei]
 | int i=>simp [Ei]
 | str x=>simp [Ei]
 | byt _=>cases h
 | flt _=>cases h
 | ref _=>cases h
 | ty _=>cases h
section
variable {X:Cx}{pins:List (Addr×Obj)}{σ:St}{H:Hp}{s:Shared}
theorem Zo1 (I:Inv X pins σ H s):∀{n:Nat}{x y:V}{d:Dt},IsD X.K H n x d->IsD X.K H n y d->∀{A:Around}{u v:Value},RelV x u->RelV y v->A.units+n < cLine->Ps A s u v true:=by
 intro n
 induction n with
 | zero =>
  intro x y d hx hy A u v rx ry hu
  cases hx with
  | flat fx =>
   cases hy with
   | flat fy =>
    have:=Zbm (A:=A) (s:=s) rx ry fx fy
    rw [Zcd fx] at this
    exact this
 | succ n ih =>
  intro x y d hx hy A u v rx ry hu
  cases hx with
  | flat fx =>
   cases hy with
   | flat fy =>
    have:=Zbm (A:=A) (s:=s) rx ry fx fy
    rw [Zcd fx] at this
    exact this
  | @tup _ a vs ds q l h =>
   cases hy with
   | @tup _ b ws _ q' l' h' =>
    cases rx
    cases ry
    by_cases hab:a=b
    ·subst hab
     exact V3 _
    obtain ⟨its,r1,p1,_⟩:=I.tuple q
    obtain ⟨its2,r2,p2,_⟩:=I.tuple q'
    have l1:=r1.length
    have l2:=r2.length
    have:=SeqAt.RcAt.tuples (A:=A) (e:=fun _=>true) (show s.heap.IsTuple a its.toArray from p1) (show s.heap.IsTuple b its2.toArray from p2) (by omega) fun j h1 h2=>by
     have h1':j < vs.length:=by simp only [Pe] at h1;omega
     have h2':j < ws.length:=by simp only [Pe] at h2;omega
     obtain ⟨u1,g1,k1⟩:=r1.get (Pa h1')
     obtain ⟨u2,g2,k2⟩:=r2.get (Pa h2')
     have e1:its.toArray[j]=u1:=by
      have:its[j]?=some its[j]:=by simp
      rw [this] at g1
      simpa using g1
     have e2:its2.toArray[j]=u2:=by
      have:its2[j]?=some its2[j]:=by simp
      rw [this] at g2
      simpa using g2
     rw [e1,e2]
     have hd:j < ds.length:=by omega
     exact ih (h j _ _ (Pa h1') (Pa hd)) (h' j _ _ (Pa h2') (Pa hd)) k1 k2 (by show A.units+1+n < cLine;omega)
    have e:((Pw (min its.toArray.size its2.toArray.size)).all (fun _=>true) && its.toArray.size == its2.toArray.size)=true:=by
     have:its.toArray.size=its2.toArray.size:=by simp only [Pe];omega
     rw [this]
     simp
    rw [e] at this
    exact Ps.of_refs hab this
  | @lst _ a vs ds q l h =>
   cases hy with
   | @lst _ b ws _ q' l' h' =>
    cases rx
    cases ry
    by_cases hab:a=b
    ·subst hab
     exact V3 _
    obtain ⟨its,r1,p1,_⟩:=I.list q
    obtain ⟨its2,r2,p2,_⟩:=I.list q'
    have l1:=r1.length
    have l2:=r2.length
    have:=SeqAt.RcAt.lists (A:=A) (e:=fun _=>true) p1.isList p2.isList (by simp only [Pe];omega) (by omega) fun j h1 h2=>by
     have h1':j < vs.length:=by simp only [Pe] at h1;omega
     have h2':j < ws.length:=by simp only [Pe] at h2;omega
     obtain ⟨u1,g1,k1⟩:=r1.get (Pa h1')
     obtain ⟨u2,g2,k2⟩:=r2.get (Pa h2')
     have e1:its.toArray[j]=u1:=by
      have:its[j]?=some its[j]:=by simp
      rw [this] at g1
      simpa using g1
     have e2:its2.toArray[j]=u2:=by
      have:its2[j]?=some its2[j]:=by simp
      rw [this] at g2
      simpa using g2
     rw [e1,e2]
     have hd:j < ds.length:=by omega
     exact ih (h j _ _ (Pa h1') (Pa hd)) (h' j _ _ (Pa h2') (Pa hd)) k1 k2 (by show A.units+1+n < cLine;omega)
    have e:(Pw its.toArray.size).all (fun _=>true)=true:=by simp
    rw [e] at this
    exact Ps.of_refs hab this
theorem Le (I:Inv X pins σ H s){n:Nat}{A:Around}{vs ws:List V}{its its2:List Value}{ds:List Dt}(r1:Vals vs its)(r2:Vals ws its2)(l:vs.length=ds.length)(l':ws.length=ds.length)
  (h:∀(j:Nat)(v:V)(d:Dt),vs[j]?=some v->ds[j]?=some d->IsD X.K H n v d) (h':∀(j:Nat)(v:V)(d:Dt),ws[j]?=some v->ds[j]?=some d->IsD X.K H n v d) (hu:A.units+n < cLine) :
  ∀ j (h1:j < its.toArray.size) (h2:j < its2.toArray.size),Ps A s its.toArray[j] its2.toArray[j] ((fun _=>true) j):=fun j h1 h2=>by
 have l1:=r1.length
 have l2:=r2.length
 have h1':j < vs.length:=by simp only [Pe] at h1;omega
 have h2':j < ws.length:=by simp only [Pe] at h2;omega
 obtain ⟨u1,g1,k1⟩:=r1.get (Pa h1')
 obtain ⟨u2,g2,k2⟩:=r2.get (Pa h2')
 have e1:its.toArray[j]=u1:=by
  have:its[j]?=some its[j]:=by simp
  rw [this] at g1
  simpa using g1
 have e2:its2.toArray[j]=u2:=by
  have:its2[j]?=some its2[j]:=by simp
  rw [this] at g2
  simpa using g2
 rw [e1,e2]
 have hd:j < ds.length:=by omega
 exact Zo1 I (h j _ _ (Pa h1') (Pa hd)) (h' j _ _ (Pa h2') (Pa hd)) k1 k2 hu
end
section
variable {X:Cx}
noncomputable def Lg (K:O6)(b:Bool):R2:=fun x y H Q=>∃(a c:Addr)(n:Nat)(d:Dt),x=.ref a/\y=.ref c/\n<=190/\IsD K H n x d/\IsD K H n y d/\Q (.bl b) H
theorem Zm5 (hu:X.A.units+200 < cLine):OpR X (compareOp .Eq) (Lg X.K true):=by
 intro pins s σ H x y v u Q I rx ry h
 obtain ⟨a,c,n,d,rfl,rfl,hn,hx,hy,q⟩:=h
 cases rx
 cases ry
 cases hx with
 | flat fx=>cases fx
 | @tup n _ vs ds qx l hd =>
  cases hy with
  | @tup _ _ ws _ qy l' hd' =>
   obtain ⟨its,r1,p1,_⟩:=I.tuple qx
   obtain ⟨its2,r2,p2,_⟩:=I.tuple qy
   have l1:=r1.length
   have l2:=r2.length
   refine SeqAt.eq_tupleAt (e:=fun _=>true) (show s.heap.IsTuple a its.toArray from p1) (show s.heap.IsTuple c its2.toArray from p2) (by omega) (Le I r1 r2 l l' hd hd' (by show X.A.units+1+n < cLine;omega)) ?_
   have e:((Pw (min its.toArray.size its2.toArray.size)).all (fun _=>true) && its.toArray.size == its2.toArray.size)=true:=by
    have:its.toArray.size=its2.toArray.size:=by simp only [Pe];omega
    rw [this]
    simp
   rw [e]
   exact ⟨.bl true,H,I,rfl,q⟩
 | @lst n _ vs ds qx l hd =>
  cases hy with
  | @lst _ _ ws _ qy l' hd' =>
   obtain ⟨its,r1,p1,_⟩:=I.list qx
   obtain ⟨its2,r2,p2,_⟩:=I.list qy
   have l1:=r1.length
   have l2:=r2.length
   refine SeqAt.eq_listAt (e:=fun _=>true) p1.isList p2.isList (by simp only [Pe];omega) (by omega) (Le I r1 r2 l l' hd hd' (by show X.A.units+1+n < cLine;omega)) ?_
   have e:(Pw its.toArray.size).all (fun _=>true)=true:=by simp
   rw [e]
   exact ⟨.bl true,H,I,rfl,q⟩
theorem Zms (hu:X.A.units+200 < cLine):OpR X (compareOp .NotEq) (Lg X.K false):=by
 intro pins s σ H x y v u Q I rx ry h
 obtain ⟨a,c,n,d,rfl,rfl,hn,hx,hy,q⟩:=h
 cases rx
 cases ry
 cases hx with
 | flat fx=>cases fx
 | @tup n _ vs ds qx l hd =>
  cases hy with
  | @tup _ _ ws _ qy l' hd' =>
   obtain ⟨its,r1,p1,_⟩:=I.tuple qx
   obtain ⟨its2,r2,p2,_⟩:=I.tuple qy
   have l1:=r1.length
   have l2:=r2.length
   refine Zpg (e:=fun _=>true) (show s.heap.IsTuple a its.toArray from p1) (show s.heap.IsTuple c its2.toArray from p2) (by omega) (Le I r1 r2 l l' hd hd' (by show X.A.units+1+n < cLine;omega)) ?_
   have e:(!((Pw (min its.toArray.size its2.toArray.size)).all (fun _=>true) && its.toArray.size == its2.toArray.size))=false:=by
    have:its.toArray.size=its2.toArray.size:=by simp only [Pe];omega
    rw [this]
    simp
   rw [e]
   exact ⟨.bl false,H,I,rfl,q⟩
 | @lst n _ vs ds qx l hd =>
  cases hy with
  | @lst _ _ ws _ qy l' hd' =>
   obtain ⟨its,r1,p1,_⟩:=I.list qx
   obtain ⟨its2,r2,p2,_⟩:=I.list qy
   have l1:=r1.length
   have l2:=r2.length
   refine Zk6 (e:=fun _=>true) p1.isList p2.isList (by simp only [Pe];omega) (by omega) (Le I r1 r2 l l' hd hd' (by show X.A.units+1+n < cLine;omega)) ?_
   have e:(!(Pw its.toArray.size).all (fun _=>true))=false:=by simp
   rw [e]
   exact ⟨.bl false,H,I,rfl,q⟩
noncomputable def O5 (K:O6):R2:=fun x y H Q=>rEq x y H Q\/Lg K true x y H Q
noncomputable def O3 (K:O6):R2:=fun x y H Q=>rNe x y H Q\/Lg K false x y H Q
theorem Zka (hu:X.A.units+200 < cLine):OpR X (compareOp .Eq) (O5 X.K):=op_eq.or (Zm5 hu)
theorem Znc (hu:X.A.units+200 < cLine):OpR X (compareOp .NotEq) (O3 X.K):=op_ne.or (Zms hu)
theorem s_eq {K:O6}{x y:V}{H:Hp}{Q:VK}(hs:Mw x y=true)(h:Q (.bl (decide (x=y))) H):O5 K x y H Q:=.inl ⟨hs,h⟩
theorem s_ne {K:O6}{x y:V}{H:Hp}{Q:VK}(hs:Mw x y=true)(h:Q (.bl (!decide (x=y))) H):O3 K x y H Q:=.inl ⟨hs,h⟩
theorem Room.u200 {k:Nat}{A:Around}(r:Room k A):A.units+200 < cLine:=by have:=r.un;omega
end
section
variable {t u:TS}{c d:TT}{te ta tb tc:TE}{g:TG}{gs:Ee}{ts:TA}{D:D7}{σ:St}{H:Hp}{Q:VK}{QB:Bool->Hp->Prop}{QA':List V->Hp->Prop}
theorem s_seq (h:t { D with nx:=u D } σ H):N1 t u D σ H:=h
theorem s_asg (h:te σ H fun x H1=>g x σ H1 D.nx):F4 te g D σ H:=h
theorem s_ret (h:te σ H D.rt):Zbn te D σ H:=h
theorem s_drop (h:te σ H fun _ H1=>D.nx σ H1):Zau te D σ H:=h
theorem s_next (h:D.nx σ H):Nw D σ H:=h
theorem s_ifS (h:c σ H fun b H1=>if b=true then t D σ H1 else u D σ H1):Cw c t u D σ H:=h
theorem s_var {i:Nat}{v:V}(e:σ[i]?=some (some v))(h:Q v H):O0 i σ H Q:=⟨v,e,h⟩
theorem s_c {v:V}(h:Q v H):tC v σ H Q:=h
theorem s_op {r:R2}(h:ta σ H fun x H1=>tb σ H1 fun y H2=>r x y H2 Q):Fd r ta tb σ H Q:=h
theorem s_un {r:V->Hp->VK->Prop}(h:ta σ H fun x H1=>r x H1 Q):tUn r ta σ H Q:=h
theorem s_test (h:te σ H fun x H'=>∃ k,x=.bl k/\QB k H'):N0 te σ H QB:=h
theorem s_tB (h:te σ H fun x H'=>∃ k,x=.bl k/\QB k H'):tB te σ H QB:=h
theorem s_ex {b:Bool}{P:Bool->Prop}(h:P b):∃ k,V.bl b=V.bl k/\P k:=⟨b,rfl,h⟩
theorem s_exi {i:Int}{P:Int->Prop}(h:P i):∃ k,V.int i=V.int k/\P k:=⟨i,rfl,h⟩
theorem s_not (h:c σ H fun b H1=>QB (!b) H1):Zam c σ H QB:=h
theorem s_and (h:c σ H fun b H1=>if b=true then d σ H1 QB else QB false H1):On c d σ H QB:=h
theorem s_or (h:c σ H fun b H1=>if b=true then QB true H1 else d σ H1 QB):tOr c d σ H QB:=h
theorem s_andV (h:ta σ H fun x H1=>∃ k,x=.bl k/\if k=true then tb σ H1 Q else Q (.bl false) H1):Zbh ta tb σ H Q:=h
theorem s_orV (h:ta σ H fun x H1=>∃ k,x=.bl k/\if k=true then Q (.bl true) H1 else tb σ H1 Q):Zab ta tb σ H Q:=h
theorem s_nil (h:QA' [] H):Jv σ H QA':=h
theorem s_cons (h:te σ H fun x H1=>ts σ H1 fun xs H2=>QA' (x::xs) H2):Zba te ts σ H QA':=h
theorem s_vals {xs:List V}(h:QA' xs H):N4 xs σ H QA':=h
theorem s_tup (h:ts σ H fun xs H1=>xs.length<=sizeLine/\∀ p,H1 p=none->Q (.ref p) (upd H1 p (.tup xs))):Zbx ts σ H Q:=h
theorem s_lst (h:ts σ H fun xs H1=>xs.length<=sizeLine/\∀ p,H1 p=none->Q (.ref p) (upd H1 p (.lst xs))):Zac ts σ H Q:=h
theorem s_call {sp:Sp}{dvs:List V}{E:XK}(h:ts σ H fun vs H1=>sp (vs++dvs) H1 Q E):Lx sp dvs E ts σ H Q:=h
theorem s_cb {r:List V->Hp->VK->Prop}(h:ts σ H fun vs H1=>r vs H1 Q):tCB r ts σ H Q:=h
theorem s_bm {K:O6}{T:String}{r:V->List V->Hp->VK->Prop}(h:te σ H fun x H1=>Ih K T x H1/\ts σ H1 fun xs H2=>r x xs H2 Q):tBM K T r te ts σ H Q:=h
theorem s_bm0 {K:O6}{T:String}{r:V->List V->Hp->VK->Prop}(h:te σ H fun x H1=>Ih K T x H1/\r x [] H1 Q):Mn K T r te σ H Q:=h
theorem s_sl {r:V->Option Int->Option Int->Hp->VK->Prop}{tl th:TO}(h:te σ H fun x H1=>tl σ H1 fun l H2=>th σ H2 fun u H3=>r x l u H3 Q):tSl r te tl th σ H Q:=h
theorem s_po {QO':Option Int->Hp->Prop}(h:te σ H fun x H1=>∃ i,x=.int i/\QO' (some i) H1):Nk te σ H QO':=h
theorem s_po0 {QO':Option Int->Hp->Prop}(h:QO' none H):Zai σ H QO':=h
theorem s_gname {i:Nat}{v:V}{QS':St->Hp->Prop}(h:QS' (σ.set i (some v)) H):F9 i v σ H QS':=h
theorem Fe {K:O6}{n:Nat}{a:Addr}{xs:List V}{QS':St->Hp->Prop}(q:SqT K H a xs)(l:xs.length=n)(h:gs xs σ H QS'):My K n gs (.ref a) σ H QS':=⟨a,xs,rfl,q,l,h⟩
theorem s_gcons {v:V}{r:List V}{QS':St->Hp->Prop}(h:g v σ H fun σ' H'=>gs r σ' H' QS'):Zbz g gs (v::r) σ H QS':=⟨v,r,rfl,h⟩
theorem s_gnil {QS':St->Hp->Prop}(h:QS' σ H):Nz [] σ H QS':=⟨rfl,h⟩
theorem s_gsub {to ti:TE}{tt:Js}{v:V}{QS':St->Hp->Prop}(h:to σ H fun o H1=>ti σ H1 fun i H2=>tt o i v H2 fun H3=>QS' σ H3):Oq to ti tt v σ H QS':=h
theorem s_isN (h:ta σ H fun x H1=>Q (.bl (decide (x=.non))) H1):Nt ta σ H Q:=h
theorem s_notN (h:ta σ H fun x H1=>Q (.bl (!decide (x=.non))) H1):Zbb ta σ H Q:=h
end
section
variable {wi:TI}{σ0:St->St}{g:TG}{tt:TT}{te:TE}{ta:TA}{tb:TS}{D:D7}{σ:St}{H:Hp}{Q:VK}{R:It->Hp->Prop}{K:O6}
theorem s_comp (h:wi σ H fun J H1=>∀ L,H1 L=none->Mr J g tt te (σ0 σ) H1 L Q):J3 wi σ0 g tt te σ H Q:=h
theorem s_for (h:wi σ H fun J H1=>∃ W:Nat->Nat->St->Hp->Prop,(∃ m,W 0 m σ H1)/\∀ i m σ H,W i m σ H ->
 (J.stop i H/\D.nx σ H)\/(J.go i H/\∃ N:St->Hp->Prop,(∀ σ' H',N σ' H'->∃ m',m' < m/\W (i+1) m' σ' H')/\∀ x H',J.yld i H x H'->g x σ H' fun σ2 H2=>tb { D with nx:=N,ct:=N,bk:=D.nx } σ2 H2)):Oe wi g tb D σ H:=h
theorem s_rng1 (h:ta σ H fun vs H1=>∃ j:Int,vs=[.int j]/\-(2 ^ 62)<=j/\j < 2 ^ 62/\R (Hh 0 j.toNat) H1):Nm ta σ H R:=h
theorem s_exr {i:Int}{P:Int->Prop}(h:P i):∃ j,([V.int i]:List V)=[.int j]/\P j:=⟨i,rfl,h⟩
theorem s_iany (h:te σ H fun x H1=>(∃ a,x=.ref a/\(∃ xs,SqL K H1 a xs)/\R (He K a) H1)\/(∃ a,x=.ref a/\(∃ xs,SqT K H1 a xs)/\R (Itt K a) H1)\/∃ z,x=.str z/\R (Its z) H1):Ou K te σ H R:=h
theorem s_irev (h:ta σ H fun vs H1=>∃ a xs,vs=[.ref a]/\SqL K H1 a xs/\R (Ic K a xs.length) H1):Za3 K ta σ H R:=h
theorem s_listen (h:ta σ H fun vs H1=>∃ a xs,vs=[.ref a]/\SqT K H1 a xs/\∀(S:Addr)(ys:List V)(H2:Hp),H1 S=none->Same H1 H2->ys.length=xs.length->Pairs H2 xs ys->H2 S=some (.lst ys)->Q (.ref S) H2):Za4 K ta σ H Q:=h
theorem s_yes {QB:Bool->Hp->Prop}(h:QB true H):Ot σ H QB:=h
theorem s_turn {L:Addr}{Nx:List V->St->Hp->Prop}{x:V}(h:g x σ H fun σ2 H3=>tt σ2 H3 fun b H4=>if b=true then te σ2 H4 fun y H5=>∃ ys,H5 L=some (.lst ys)/\ys.length < sizeLine/\(∃ zs,upd H5 L (.lst (ys++[y])) L=some (.lst zs)/\Nx zs σ2 (upd H5 L (.lst (ys++[y])))) else ∃ zs,H4 L=some (.lst zs)/\Nx zs σ2 H4):Zag g tt te L Nx x σ H:=h
theorem Dh {l:Addr}{xs:List V}{y:V}(e:H l=some (.lst xs))(z:xs.length < sizeLine)(h:Q .non (upd H l (.lst (xs++[y])))):Zf6 (.ref l) [y] H Q:=⟨l,xs,y,rfl,rfl,e,z,h⟩
theorem Ik {l:Addr}{xs:List V}{y:V}(e:H l=some (.lst (xs++[y])))(h:Q y (upd H l (.lst xs))):rPop (.ref l) [] H Q:=⟨l,xs++[y],y,rfl,rfl,e,by simp,by simpa using h⟩
theorem Zri {p:Addr}{xs:List V}{k:Int}{j:Nat}{v:V}{QH:Hp->Prop}(e:H p=some (.lst xs))(hj:Fo xs.length k=some j)(h:QH (upd H p (.lst (xs.set j v)))):Zgd (.ref p) (.int k) v H QH:=⟨p,xs,k,j,rfl,rfl,e,hj,h⟩
end
section
variable {X:Cx}(K:O6)
theorem B5 (hK:X.K=K:=by rfl):OpR X (binaryOp .Add) (Gn K):=by subst hK;exact op_addA
theorem A7 (hu:X.A.units+200 < cLine)(hK:X.K=K:=by rfl):OpR X (compareOp .Eq) (O5 K):=by subst hK;exact Zka hu
theorem Fg (hu:X.A.units+200 < cLine)(hK:X.K=K:=by rfl):OpR X (compareOp .NotEq) (O3 K):=by subst hK;exact Znc hu
theorem Hw (hK:X.K=K:=by rfl):OpR X (compareOp .In) (Zbf K false):=by subst hK;exact Zm4
theorem k_ix (hK:X.K=K:=by rfl):IxR X (Jb K):=by subst hK;exact Zok
theorem Eh (hK:X.K=K:=by rfl):SlR X (Zay K):=by subst hK;exact Zhy
theorem Ca (hK:X.K=K:=by rfl):Cu X (.builtin "len") (Lk K):=by subst hK;exact Zqx
inductive TyQ (K:O6)(H:Hp):V->Value->Prop where
 | ty {x:V} {t:Value} (h:Dv K H x t):TyQ K H x t
 | tup {a:Addr} {xs:List V} (q:SqT K H a xs):TyQ K H (.ref a) (.type "tuple")
 | lst {a:Addr} {xs:List V} (q:SqL K H a xs):TyQ K H (.ref a) (.type "list")
noncomputable def Kw (K:O6)(T:String):List V->Hp->VK->Prop:=fun xs H Q=>∃ x t b,xs=[x,.ty T]/\TyQ K H x t/\Tc K t (.type T)=some b/\Q (.bl b) H
theorem Zgo {T:String}:Cu X (.builtin "isinstance") (Kw X.K T):=by
 intro pins s σ H xs us Q I r h
 obtain ⟨x,t,b,rfl,ty,e,q⟩:=h
 obtain ⟨u,v,rfl,ru,rv⟩:=r.two
 obtain rfl:v=Value.type T:=rv
 cases ty with
 | ty ty=>exact Zlr I ru ty e fun tk=>⟨.bl b,H,I.tok tk,rfl,q⟩
 | tup hq =>
  cases ru
  obtain ⟨its,_,p,_⟩:=I.tuple hq
  obtain ⟨o,h1,h2,_⟩:=p
  exact Qp PySem.W.kitx_tuple I.kIn ⟨o,h1,h2⟩ e (fun z=>nomatch z) fun tk=>⟨.bl b,H,I.tok tk,rfl,q⟩
 | lst hq =>
  cases ru
  obtain ⟨its,_,p,_⟩:=I.list hq
  obtain ⟨o,n,h1,h2,_⟩:=p
  exact Qp Vt I.kIn ⟨o,h1,h2⟩ e (fun z=>nomatch z) fun tk=>⟨.bl b,H,I.tok tk,rfl,q⟩
theorem B2 (T:String)(hK:X.K=K:=by rfl):Cu X (.builtin "isinstance") (Kw K T):=by subst hK;exact Zgo
noncomputable def rAll (K:O6):List V->Hp->VK->Prop:=fun xs H Q=>∃(p:Addr)(bs:List Bool),xs=[.ref p]/\SqL K H p (bs.map V.bl)/\Q (.bl (bs.all id)) H
theorem Zjd (hc:X.calm=true)(hK:X.K=K:=by rfl):Cu X (.builtin "all") (rAll K):=by subst hK;exact Zha hc
noncomputable def Zj9 (K:O6):List V->Hp->VK->Prop:=fun xs H Q=>∃ p ys,xs=[.ref p]/\(SqL K H p ys\/SqT K H p ys)/\∀ l,H l=none->Q (.ref l) (upd H l (.lst ys))
theorem Zaa (hK:X.K=K:=by rfl):Cu X (.type "list") (Zj9 K):=by subst hK;exact Zpc
noncomputable def Zeq (K:O6):List V->Hp->VK->Prop:=fun xs H Q=>∃ p ys,xs=[.ref p]/\((SqL K H p ys/\∀ l,H l=none->Q (.ref l) (upd H l (.tup ys)))\/(SqT K H p ys/\Q (.ref p) H))
theorem Zli (hK:X.K=K:=by rfl):Cu X (.type "tuple") (Zeq K):=by subst hK;exact Zit
noncomputable def rInt:List V->Hp->VK->Prop:=fun xs H Q=>(∃ i,xs=[.int i]/\Q (.int i) H)\/∃ k,xs=[.bl k]/\Q (.int (if k then 1 else 0)) H
theorem Zkn:Cu X (.type "int") rInt:=Zny
theorem s_intb {k:Bool}{H:Hp}{Q:VK}(h:Q (.int (if k=true then 1 else 0)) H):rInt [.bl k] H Q:=.inr ⟨k,rfl,h⟩
theorem Fh {tg l:Expr}{tl:TE}(hl:QE X l tl)(hK:X.K=K:=by rfl):QI X tg l (Ou K tl):=by subst hK;exact Zkw hl
theorem Zjq {tg a:Expr}{ta:TA}{p pos:Pos}(hg:Gl X "reversed")(hm:X.mg "reversed" = none)(ha:QA X [a] ta)(hK:X.K=K:=by rfl)(hs:starEach [a] X.env=[(false,eval a X.env)]:=by rfl):QI X tg (.Call (.Name "reversed" p) [a] [] pos) (Za3 K ta):=by subst hK;exact Zpi hg hm ha hs
theorem Zlg {e:Expr}{ta:TA}{p p2 pos pos2:Pos}(hg:Gl X "list")(hm:X.mg "list" = none)(hg2:Gl X "enumerate")(hm2:X.mg "enumerate" = none)(ha:QA X [e] ta)(hK:X.K=K:=by rfl)(hc:X.calm=true:=by rfl)
  (hs:starEach [.Call (.Name "enumerate" p2) [e] [] pos2] X.env=[(false,eval (.Call (.Name "enumerate" p2) [e] [] pos2) X.env)]:=by rfl) (hs2:starEach [e] X.env=[(false,eval e X.env)]:=by rfl) :
  QE X (.Call (.Name "list" p) [.Call (.Name "enumerate" p2) [e] [] pos2] [] pos) (Za4 K ta):=by subst hK;exact Zn8 hg hm hg2 hm2 ha hc hs hs2
theorem Gf {es:List Expr}{k:Nat}{pos:Pos}{t:Ee}{n:Nat}(hc:X.calm=true)(h:QGs X es t)(hK:X.K=K:=by rfl)(hn:(assignEach es X.env).length=n:=by rfl)(hst:(assignEach es X.env).findIdx? (·.1)=none:=by rfl):QG X (.Tuple es k pos) (My K n t):=by subst hK;exact Zou hc h hn hst
noncomputable def Zek (K:O6)(ta:TE):TT:=fun σ H Q=>ta σ H fun x H'=>∃ k,Km K x H' k/\Q k H'
theorem Zbq {a:Expr}{ta:TE}(ha:QE X a ta)(he:∀ whole,isTrue a X.env whole=(do let v <- whole;standAt a.pos;holding [v] (truthy v)))(hK:X.K=K:=by rfl):QT X a (Zek K ta):=by subst hK;exact ⟨Zj3 ha.run he⟩
theorem Db {o e:Expr}{es:List Expr}{to:TE}{t:TA}{name:Str}{apos cpos:Pos}{T id:String}{r:V->List V->Hp->VK->Prop}(pa:PlainAttrs T)(slot:Slot T name id)(hty:typeOf (.builtin id)=pure (.type "method_descriptor"))(hm:Gr X id r)(ho:QE X o to)(ha:QA X (e::es) t)(hK:X.K=K:=by rfl)
  (hbase:attributeBase o name X.env (eval o X.env)=eval o X.env:=by rfl) (hfew:((backTo cpos (starEach (e::es) X.env)).all (fun x=>!x.1) && (backToKw cpos (keywordEach [] X.env)).all (fun x=>x.1.isSome)
   && decide ((e::es).length+([]:List Keyword).length+(if ([]:List Keyword).isEmpty then 0 else 1) < 30))=true:=by rfl) (hline:(apos.endLine == cpos.line)=true:=by rfl) (hs:starEach (e::es) X.env=(false,eval e X.env)::starEach es X.env:=by rfl) (hplain:(backTo cpos (starEach es X.env)).any (·.1)=false:=by rfl):QE X (.Call (.Attribute o name apos) (e::es) [] cpos) (tBM K T r to t):=by subst hK;exact Zko pa slot hty hm ho ha hbase hfew hline hs hplain
theorem Jx {o:Expr}{to:TE}{name:Str}{apos cpos:Pos}{T id:String}{r:V->List V->Hp->VK->Prop}(pa:PlainAttrs T)(slot:Slot T name id)(hty:typeOf (.builtin id)=pure (.type "method_descriptor"))(hm:Gr X id r)(ho:QE X o to)(hK:X.K=K:=by rfl)(hbase:attributeBase o name X.env (eval o X.env)=eval o X.env:=by rfl)(hline:(apos.endLine == cpos.line)=true:=by rfl):QE X (.Call (.Attribute o name apos) [] [] cpos) (Mn K T r to):=by subst hK;exact Zo2 pa slot hty hm ho hbase hline
end
section
variable {K:O6}{σ:St}{H:Hp}{Q:VK}{QB:Bool->Hp->Prop}{ta:TE}
theorem s_truth (h:ta σ H fun x H'=>∃ k,Km K x H' k/\QB k H'):Zek K ta σ H QB:=h
theorem Zeg {a:Addr}{xs:List V}{P:Bool->Prop}(q:SqL K H a xs)(h:P (!xs.isEmpty)):∃ k,Km K (.ref a) H k/\P k:=⟨_,.inl ⟨xs,q,rfl⟩,h⟩
theorem Bw {T:String}{x:V}{t:Value}{b:Bool}(ty:Dv K H x t)(e:Tc K t (.type T)=some b)(h:Q (.bl b) H):Kw K T [x,.ty T] H Q:=⟨x,t,b,rfl,.ty ty,e,h⟩
theorem D0 {T:String}{a:Addr}{xs:List V}{b:Bool}(q:SqT K H a xs)(e:Tc K (.type "tuple") (.type T)=some b)(h:Q (.bl b) H):Kw K T [.ref a,.ty T] H Q:=⟨_,_,b,rfl,.tup q,e,h⟩
theorem Ff {T:String}{a:Addr}{xs:List V}{b:Bool}(q:SqL K H a xs)(e:Tc K (.type "list") (.type T)=some b)(h:Q (.bl b) H):Kw K T [.ref a,.ty T] H Q:=⟨_,_,b,rfl,.lst q,e,h⟩
theorem Zkq {p:Addr}{ys:List V}(q:SqL K H p ys)(h:∀ l,H l=none->Q (.ref l) (upd H l (.tup ys))):Zeq K [.ref p] H Q:=⟨p,ys,rfl,.inl ⟨q,h⟩⟩
theorem Cj {a:Addr}{xs:List V}{P:Prop}(q:SqL K H a xs)(h:P):Ih K "list" (.ref a) H/\P:=⟨.inl ⟨rfl,_,q⟩,h⟩
end
theorem s_nt {A B:Prop}(h:B):if (!true)=true then A else B:=by simpa using h
theorem s_nf {A B:Prop}(h:A):if (!false)=true then A else B:=by simpa using h
end L2
namespace L2
open PySem
inductive Tr where
 | mk (wd:Str) (note:Dt) (ps:List Tr)
noncomputable def Tr.wd:Tr->Str
 | .mk w _ _=>w
noncomputable def Tr.ps:Tr->List Tr
 | .mk _ _ ps=>ps
mutual
noncomputable def Tr.size:Tr->Nat
 | .mk _ _ ps=>1+Bx ps
noncomputable def Bx:List Tr->Nat
 | []=>0
 | t::r=>t.size+Bx r
end
theorem Tr.size_eq (t:Tr):t.size=1+Bx t.ps:=by
 cases t with
 | mk w n ps=>rw [Tr.size];rfl
theorem Zgx (a b:List Tr):Bx (a++b)=Bx a+Bx b:=by
 induction a with
 | nil=>simp [Bx]
 | cons t r ih=>rw [V0,Bx,Bx,ih];omega
theorem Ziz {ts:List Tr}{j:Nat}{t:Tr}(h:ts[j]?=some t):t.size<=Bx ts:=by
 induction ts generalizing j with
 | nil=>simp at h
 | cons x r ih =>
  rw [Bx]
  cases j with
  | zero=>simp at h;subst h;omega
  | succ j=>have:=ih (j:=j) (by simpa using h);omega
noncomputable def SameT (H H':Hp):Prop:=∀ b,(∀ xs,H b=some (.tup xs)->H' b=some (.tup xs))/\∀ o u,H b=some (.frz o u)->H' b=some (.frz o u)
theorem Same.t {H H':Hp}(e:Same H H'):SameT H H':=fun b=>⟨fun xs h=>e b _ h,fun o u h=>e b _ h⟩
theorem SameT.refl (H:Hp):SameT H H:=fun _=>⟨fun _ h=>h,fun _ _ h=>h⟩
theorem SameT.trans {H H1 H2:Hp}(a:SameT H H1)(b:SameT H1 H2):SameT H H2:=fun c=>⟨fun xs h=>(b c).1 xs ((a c).1 xs h),fun o u h=>(b c).2 o u ((a c).2 o u h)⟩
theorem SameT.set {H:Hp}{S:Addr}{zs:List V}{o:HO}(h:H S=some (.lst zs)):SameT H (upd H S o):=fun b =>
 ⟨fun xs e=>by rw [Ai (Dr e h (by intro z;cases z))];exact e,fun o' u e=>by rw [Ai (Dr e h (by intro z;cases z))];exact e⟩
theorem SameT.new {H:Hp}{S:Addr}{o:HO}(h:H S=none):SameT H (upd H S o):=(Same.upd h).t
theorem SameT.tup {K:O6}{H H':Hp}{a:Addr}{xs:List V}(e:SameT H H')(h:SqT K H a xs):SqT K H' a xs:=by
 rcases h with (h | ⟨o,h⟩) | h
 ·exact .inl (.inl ((e a).1 _ h))
 ·exact .inl (.inr ⟨o,(e a).2 _ _ h⟩)
 ·exact .inr h
noncomputable def IsN (K:O6)(H:Hp)(v:V)(n:Dt):Prop:=(Cy v=true/\n=.flat v)\/∃(a:Addr)(vs:List V),v=.ref a/\SqT K H a vs/\vs.all Cy=true/\n=.tup (vs.map .flat)
theorem IsN.same {K:O6}{H H':Hp}{v:V}{n:Dt}(h:IsN K H v n)(e:SameT H H'):IsN K H' v n:=by
 rcases h with h | ⟨a,vs,h1,h2,h3⟩
 ·exact .inl h
 ·exact .inr ⟨a,vs,h1,e.tup h2,h3⟩
inductive TrAt (K:O6)(H:Hp):V->Tr->Prop where
 | mk {a p:Addr} {wd:Str} {nv:V} {n:Dt} {vs:List V} {ts:List Tr} (q:SqT K H a [.str wd,nv,.ref p]) (hn:IsN K H nv n) (qp:SqT K H p vs) (l:vs.length=ts.length)
   (h:∀(j:Nat)(v:V)(t:Tr),vs[j]?=some v->ts[j]?=some t->TrAt K H v t):TrAt K H (.ref a) (.mk wd n ts)
theorem TrAt.sameT {K:O6}{H H':Hp}{v:V}{t:Tr}(h:TrAt K H v t)(e:SameT H H'):TrAt K H' v t:=by
 induction h with
 | mk q hn qp l _ ih=>exact .mk (e.tup q) (hn.same e) (e.tup qp) l ih
theorem TrAt.same {K:O6}{H H':Hp}{v:V}{t:Tr}(h:TrAt K H v t)(e:Same H H'):TrAt K H' v t:=h.sameT e.t
noncomputable def Al {α:Type}(R:V->α->Prop)(vs:List V)(xs:List α):Prop:=vs.length=xs.length/\∀(j:Nat)(v:V)(x:α),vs[j]?=some v->xs[j]?=some x->R v x
section
variable {α:Type}{R R':V->α->Prop}{vs:List V}{xs:List α}{v:V}{x:α}
theorem Al.mono (h:Al R vs xs)(f:∀ v x,R v x->R' v x):Al R' vs xs:=⟨h.1,fun j v x a b=>f v x (h.2 j v x a b)⟩
theorem Al.nil:Al R [] []:=⟨rfl,fun j v x a _=>by simp at a⟩
theorem Al.snoc (h:Al R vs xs)(a:R v x):Al R (vs++[v]) (xs++[x]):=by
 refine ⟨by simp [h.1],fun j y z e1 e2=>?_⟩
 by_cases hj:j < vs.length
 ·rw [Qa hj] at e1
  rw [Qa (by have:=h.1;omega)] at e2
  exact h.2 j y z e1 e2
 ·have hl:=(Pq.mp e1).1
  rw [Pg,Pl] at hl
  have hj':j=vs.length:=by omega
  subst hj'
  rw [P6 (O9 _),Rb] at e1
  rw [h.1,P6 (O9 _),Rb] at e2
  have e1:v=y:=by simpa using e1
  have e2:x=z:=by simpa using e2
  rw [<- e1,<- e2]
  exact a
theorem Al.split (h:Al R (vs++[v]) xs):∃ ys x,xs=ys++[x]/\Al R vs ys/\R v x:=by
 have hl:xs.length=vs.length+1:=by have:=h.1;simp at this;omega
 have hne:xs≠[]:=fun z=>by rw [z] at hl;simp at hl
 refine ⟨xs.dropLast,xs.getLast hne,(Wc hne).symm,⟨by simp [hl],fun j y z e1 e2=>?_⟩,?_⟩
 ·have hj:=(Pq.mp e1).1
  refine h.2 j y z (by rw [Qa hj];exact e1) ?_
  rw [List.getElem?_dropLast] at e2
  split at e2
  ·exact e2
  ·cases e2
 ·refine h.2 vs.length v _ (by simp) ?_
  rw [List.getLast_eq_getElem,Pa (by omega)]
  congr 1
  simp [hl]
theorem Al.last (h:Al R vs xs)(hn:vs≠[]):∃ vs' v xs' x,vs=vs'++[v]/\xs=xs'++[x]/\Al R vs' xs'/\R v x:=by
 have e:=(Wc hn).symm
 rw [e] at h
 obtain ⟨ys,x,e2,a,r⟩:=h.split
 exact ⟨_,_,ys,x,e,e2,a,r⟩
theorem Al.get {j:Nat}(h:Al R vs xs)(e:vs[j]?=some v):∃ x,xs[j]?=some x/\R v x:=by
 have hj:=(Pq.mp e).1
 have hx:j < xs.length:=by have:=h.1;omega
 exact ⟨xs[j],Pa hx,h.2 j v _ e (Pa hx)⟩
end
mutual
noncomputable def walk:List Nat->Tr->List (List Nat×Tr)
 | pl,.mk w n ps=>(pl,.mk w n ps)::Cz pl 0 ps
noncomputable def Cz:List Nat->Nat->List Tr->List (List Nat×Tr)
 | _,_,[]=>[]
 | pl,i,t::r=>walk (pl++[i]) t++Cz pl (i+1) r
end
theorem Zgt (pl:List Nat)(t:Tr):walk pl t=(pl,t)::Cz pl 0 t.ps:=by
 cases t with
 | mk w n ps=>rw [walk];rfl
mutual
theorem Zbi:∀(pl:List Nat)(t:Tr),(walk pl t).length=t.size
 | pl,.mk w n ps=>by rw [walk,Tr.size,Qn,Zep pl 0 ps];omega
theorem Zep:∀(pl:List Nat)(i:Nat)(ts:List Tr),(Cz pl i ts).length=Bx ts
 | _,_,[]=>by rw [Cz,Bx];rfl
 | pl,i,t::r=>by rw [Cz,Bx,Pg,Zbi,Zep]
end
mutual
theorem Nb:∀(pl:List Nat)(t:Tr)(x:List Nat×Tr),x∈walk pl t->x.1.length+1<=pl.length+t.size
 | pl,.mk w n ps,x,h=>by
  rw [walk] at h
  rw [Tr.size]
  rcases Pd.mp h with h | h
  ·subst h;show pl.length+1<=_;omega
  ·have:=Zci pl 0 ps x h;omega
theorem Zci:∀(pl:List Nat)(i:Nat)(ts:List Tr)(x:List Nat×Tr),x∈Cz pl i ts->x.1.length<=pl.length+Bx ts
 | _,_,[],x,h=>by rw [Cz] at h;cases h
 | pl,i,t::r,x,h=>by
  rw [Cz] at h
  rw [Bx]
  rcases Ra.mp h with h | h
  ·have:=Nb (pl++[i]) t x h
   rw [Pg,Pl] at this
   omega
  ·have:=Zci pl (i+1) r x h;omega
end
noncomputable def Bp (pl:List Nat):List V:=pl.map fun i=>V.int ((i:Nat):Int)
noncomputable def Cq:List Nat->Nat->List Tr->List (List Nat×Tr)
 | _,_,[]=>[]
 | pl,i,t::r=>(pl++[i],t)::Cq pl (i+1) r
theorem Zdn (pl:List Nat):∀(i:Nat)(ts:List Tr),(Cq pl i ts).length=ts.length
 | _,[]=>rfl
 | i,t::r=>by rw [Cq,Qn,Qn,Zdn pl (i+1) r]
theorem Zch (pl:List Nat):∀(i j:Nat)(ts:List Tr),(Cq pl i ts)[j]?=(ts[j]?).map fun t=>(pl++[i+j],t)
 | _,_,[]=>by simp [Cq]
 | i,0,t::r=>by simp [Cq]
 | i,j+1,t::r=>by
  rw [Cq,List.getElem?_cons_succ,List.getElem?_cons_succ,Zch pl (i+1) j r]
  congr 1
  funext t
  rw [show i+1+j=i+(j+1) by omega]
theorem Zet (pl:List Nat):∀(i:Nat)(ts:List Tr),(Cq pl i ts).flatMap (fun x=>walk x.1 x.2)=Cz pl i ts
 | _,[]=>by simp [Cq,Cz]
 | i,t::r=>by rw [Cq,List.flatMap_cons,Cz,Zet pl (i+1) r]
noncomputable def F6 (st:List (List Nat×Tr)):List (List Nat×Tr):=st.reverse.flatMap fun x=>walk x.1 x.2
theorem Zh1:F6 []=[]:=rfl
theorem O1 (st:List (List Nat×Tr))(x:List Nat×Tr):F6 (st++[x])=x::F6 (st++(Cq x.1 0 x.2.ps).reverse):=by
 unfold F6
 rw [Rs,Rs,List.reverse_reverse,List.flatMap_append,List.flatMap_append,Zet]
 rw [Ua,List.flatMap_singleton,Zgt]
 rfl
noncomputable def Ev (st:List (List Nat×Tr)):Nat:=(F6 st).length
theorem Zjr (st:List (List Nat×Tr))(x:List Nat×Tr):Ev (st++(Cq x.1 0 x.2.ps).reverse) < Ev (st++[x]):=by
 unfold Ev
 rw [O1]
 exact Ul _
theorem Zj8 (st:List (List Nat×Tr)):st.length<=Ev st:=by
 unfold Ev F6
 have:∀ l:List (List Nat×Tr),l.length<=(l.flatMap fun x=>walk x.1 x.2).length:=fun l=>by
  induction l with
  | nil=>simp
  | cons x r ih =>
   rw [List.flatMap_cons,Pg,Zbi,Qn]
   have:=x.2.size_eq
   omega
 have:=this st.reverse
 rw [Rt] at this
 exact this
theorem Zkp {α:Type}{l:List α}{n i:Nat}{x:α}(hl:l.length=n)(hi:i < n)(hx:l[n - 1 - i]?=some x):(l.drop (n - (i+1))).reverse=(l.drop (n - i)).reverse++[x]:=by
 have hk:n - 1 - i < l.length:=by omega
 have e:l.drop (n - (i+1))=x::l.drop (n - i):=by
  have h1:n - (i+1)=n - 1 - i:=by omega
  rw [h1,Sn hk,show n - 1 - i+1=n - i by omega]
  rw [Pa hk] at hx
  rw [P5 hx]
 rw [e,Sz]
theorem Al.append {α:Type}{R:V->α->Prop}{vs ws:List V}{xs ys:List α}(h:Al R vs xs)(h':Al R ws ys):Al R (vs++ws) (xs++ys):=by
 refine ⟨by simp [h.1,h'.1],fun j v x e1 e2=>?_⟩
 by_cases hj:j < vs.length
 ·rw [Qa hj] at e1
  rw [Qa (by have:=h.1;omega)] at e2
  exact h.2 j v x e1 e2
 ·rw [P6 (by omega)] at e1
  rw [P6 (by have:=h.1;omega),<- h.1] at e2
  exact h'.2 _ v x e1 e2
end L2
namespace L2
open PySem PySem.Spec PyProof.Rows
section
open PySem.AutoSeq1
end
section
variable {X:Cx}
noncomputable def Dl (kvs:List (Str×V))(k:Str):Option V:=(kvs.find? fun kv=>kv.1=k).map (·.2)
inductive VPs:List (Str×V)->List (Str×Value)->Prop
 | nil:VPs [] []
 | cons {k:Str} {x:V} {v:Value} {r:List (Str×V)} {q:List (Str×Value)}:RelV x v->VPs r q->VPs ((k,x)::r) ((k,v)::q)
theorem VPs.look {kvs:List (Str×V)}{vs:List (Str×Value)}(h:VPs kvs vs)(k:Str):(valueAt vs k).isSome=(Dl kvs k).isSome/\∀ x,Dl kvs k=some x->∃ v,valueAt vs k=some v/\RelV x v:=by
 induction h with
 | nil=>exact ⟨rfl,fun x e=>nomatch e⟩
 | @cons k' x v r q rx _ ih =>
  unfold valueAt Dl at ih ⊢
  by_cases z:k'=k
  ·simp only [Qv,z,decide_true,Qw,Option.isSome_some]
   exact ⟨trivial,fun y e=>⟨v,rfl,by cases e;exact rx⟩⟩
  ·simp only [Qv,z,decide_false]
   exact ih
noncomputable def Gq (P:Program)(w:World)(K:O6)(a:Addr)(kvs:List (Str×V)):Prop :=
 ∃(o:Obj)(vs:List (Str×Value)),K.lookup a=some o/\o.IsDictOf (strKind P w) vs/\(a == sysModules)=false/\VPs kvs vs
noncomputable def rInD (P:Program)(w:World)(K:O6):R2:=fun x y H Q=>∃ s a kvs,x=.str s/\y=.ref a/\Gq P w K a kvs/\Q (.bl (Dl kvs s).isSome) H
theorem Zqt:OpR X (compareOp .In) (rInD X.prog X.w X.K):=by
 intro pins s σ H x y v u Q I rx ry h
 obtain ⟨z,a,kvs,rfl,rfl,⟨o,vs,hk,hd,lo,vp⟩,q⟩:=h
 obtain ⟨t,rfl⟩:=rx
 cases ry
 have D:s.heap.DictOf (strKind X.prog X.w) a vs:=V6.mpr ⟨o,I.kIn a o hk,hd⟩
 exact wpAny_in_of (knd:=strKind X.prog X.w) (k:=z) (strKind_is _ _ _ _) lo D.mapOf (Br (I.tok _) q (vp.look z).1.symm)
noncomputable def rIxD (P:Program)(w:World)(K:O6):R2:=fun x y H Q=>∃ a kvs s v,x=.ref a/\y=.str s/\Gq P w K a kvs/\Dl kvs s=some v/\Q v H
theorem ix_D:IxR X (rIxD X.prog X.w X.K):=by
 intro value slice pins s σ H x y v u Q I rx ry h hs
 obtain ⟨a,kvs,z,v',rfl,rfl,⟨o,vs,hk,hd,lo,vp⟩,hv,q⟩:=h
 cases rx
 obtain ⟨t,rfl⟩:=ry
 have D:s.heap.DictOf (strKind X.prog X.w) a vs:=V6.mpr ⟨o,I.kIn a o hk,hd⟩
 obtain ⟨u',e,r⟩:=(vp.look z).2 _ hv
 exact tail_any D.typeIs slot_dict_getitem.lookup (wpAny_getItem_of (knd:=strKind X.prog X.w) (k:=z) (strKind_is _ _ _ _) D.mapOf e ⟨v',H,I.tok _,r,q⟩) hs
end
section
variable {X:Cx}(P:Program)(w:World)(K:O6)
theorem Zcy (hP:X.prog=P:=by rfl)(hw:X.w=w:=by rfl)(hK:X.K=K:=by rfl):OpR X (compareOp .In) (rInD P w K):=by subst hP hw hK;exact Zqt
theorem Zat (hP:X.prog=P:=by rfl)(hw:X.w=w:=by rfl)(hK:X.K=K:=by rfl):IxR X (rIxD P w K):=by subst hP hw hK;exact ix_D
end
theorem s_chain {r r':R2}{ta tb tc:TE}{σ:St}{H:Hp}{Q:VK}(h:ta σ H fun x H1=>tb σ H1 fun y H2=>r x y H2 fun z H3=>∃ k,z=.bl k/\(if k=true then tc σ H3 fun w' H4=>r' y w' H4 Q else Q (.bl false) H3)):Za6 r r' ta tb tc σ H Q:=h
inductive Ents (p:Params):List DictEntry->List (Str×V)->Prop
 | nil:Ents p [] []
 | cons {k:Str} {t:Tok} {x:V} {v:Value} {r:List DictEntry} {q:List (Str×V)}:RelV x v->Ents p r q->Ents p (⟨PyData.keyHash p k,.str k t,v⟩::r) ((k,x)::q)
theorem Ents.pairs {P:Program}{w:World}{es:List DictEntry}{kvs:List (Str×V)}(h:Ents w.params es kvs):∃ vs,VPs kvs vs/\PySem.Pairs (PySem.strKind P w) es vs/\vs.map (·.1)=kvs.map (·.1)/\∀ e∈es,∃ k,(PySem.strKind P w).is k e.key=true/\e.hash=(PySem.strKind P w).hash k:=by
 induction h with
 | nil=>exact ⟨[],.nil,.nil,rfl,fun e he=>nomatch he⟩
 | @cons k t x v r q rx _ ih =>
  obtain ⟨vs,a,b,c,d⟩:=ih
  refine ⟨(k,v)::vs,.cons rx a,.cons (strKind_is _ _ _ _) rfl b,by simp [c],fun e he=>?_⟩
  rcases Pd.mp he with rfl | he
  ·exact ⟨k,strKind_is _ _ _ _,rfl⟩
  ·exact d e he
theorem Zj5 {P:Program}{w:World}{K:O6}{a:Addr}{es:Array DictEntry}{n:Nat}{kvs:List (Str×V)}(l:K.lookup a=some ⟨.type "dict",none,.dict es n,#[]⟩)(hs:(a == sysModules)=false)
  (e:Ents w.params es.toList kvs) (nd:(kvs.map (·.1)).Nodup):Gq P w K a kvs:=by
 obtain ⟨vs,a1,a2,a3,a4⟩:=e.pairs (P:=P)
 exact ⟨_,vs,l,⟨es,n,⟨rfl,rfl,rfl⟩,rfl,fun e he=>a4 e (by simpa using he),a2,by rw [a3];exact nd⟩,hs,a1⟩
section
variable {X:Cx}
noncomputable def Zdk:List V->Hp->VK->Prop:=fun xs H Q=>∃ i,xs=[.int i]/\i.natAbs.log2 < 1920/\Q (.str (toString i)) H
theorem Zd4:Cu X (.type "str") Zdk:=Zme
theorem Zcl {i:Int}{H:Hp}{Q:VK}(hi:i.natAbs.log2 < 1920)(h:Q (.str (toString i)) H):Zdk [.int i] H Q:=⟨i,rfl,hi,h⟩
end
structure ZA (z TI TO i1 i2:Addr)(fp1 fp2:List Addr):Prop where
 TIz:TI≠z
 TOz:TO≠z
 TITO:TI≠TO
 z1:z ∉ fp1
 z2:z ∉ fp2
 TI1:TI≠i1
 TI2:TI≠i2
 TO1:TO ∉ fp1
 TO2:TO ∉ fp2
 m1:i1∈fp1
 m2:i2∈fp2
 n1:i1 ∉ fp2
 n2:i2 ∉ fp1
theorem ZA.i1z {z TI TO i1 i2:Addr}{fp1 fp2:List Addr}(D:ZA z TI TO i1 i2 fp1 fp2):i1≠z:=fun e=>D.z1 (e ▸ D.m1)
theorem ZA.i2z {z TI TO i1 i2:Addr}{fp1 fp2:List Addr}(D:ZA z TI TO i1 i2 fp1 fp2):i2≠z:=fun e=>D.z2 (e ▸ D.m2)
theorem ZA.TOi1 {z TI TO i1 i2:Addr}{fp1 fp2:List Addr}(D:ZA z TI TO i1 i2 fp1 fp2):TO≠i1:=fun e=>D.TO1 (e ▸ D.m1)
theorem ZA.TOi2 {z TI TO i1 i2:Addr}{fp1 fp2:List Addr}(D:ZA z TI TO i1 i2 fp1 fp2):TO≠i2:=fun e=>D.TO2 (e ▸ D.m2)
theorem Cv {prog:Program}{w:World}{A:Around}{it c:Addr}{fp:List Addr}{n i:Nat}{P:Nat->Value->Prop}{St:Nat->Heap->Prop}(D:Draws prog w A it fp n P St){h h':Heap}(st:St i h)(e:Pp c h h')(hc:c ∉ fp):St i h' :=
 D.frame i h h' st fun b hb o eo=>e.extBut b o (fun z=>hc (z ▸ hb)) eo
section
variable {prog:Program}{w:World}{A:Around}{E:Value->Shared->Prop}{s:Shared}{z TI TO i1 i2:Addr}{fp1 fp2:List Addr}{n1 n2 i:Nat}{P1 P2:Nat->Value->Prop}{St1 St2:Nat->Heap->Prop}{a b:Value}
theorem Zov {Q:Value->Shared->Prop}(D1:Draws prog w A i1 fp1 n1 P1 St1)(D2:Draws prog w A i2 fp2 n2 P2 St2)(D:ZA z TI TO i1 i2 fp1 fp2)(hz:IsZip s.heap z TI TO .none)(hTI:IsPair s.heap TI (.ref i1) (.ref i2))(hTO:IsPair s.heap TO a b)
  (st1:St1 i s.heap) (st2:St2 i s.heap) (l1:i < n1) (l2:i < n2)
  (hQ:∀ x y h' tk,P1 i x->P2 i y->IsZip h' z TI TO (rawInt s.heap.objs.size)->IsPair h' TO x y->St1 (i+1) h'->St2 (i+1) h'->IsPair h' s.heap.objs.size x y->h'.objs.size=s.heap.objs.size+1 ->
   (∀ c o,c≠z->c≠TO->c≠i1->c≠i2->s.heap.get? c=some o->h'.get? c=some o)->Q (.ref s.heap.objs.size) { s with heap:=h',toks:=tk }) :
  wpAny (model prog w) A (Builtin.«zip.__next__» ⟨[.ref z],[]⟩) (fun fin s'=>∃ v,fin=.done (.ret v)/\Q v s') E s:=by
 show wpAny _ _ (field (.ref z) 2 >>= _) _ _ s
 refine O7 (Pm hz rfl (x:=Value.bool false) rfl ?_)
 show wpAny _ _ (field (.ref z) 3 >>= _) _ _ s
 refine O7 (Pm hz rfl (x:=Value.ref TI) rfl (O7 (Qx hTI rfl ?_)))
 show wpAny _ _ (Qz (.ref z) >>= _) _ _ s
 refine O7 ?_
 unfold Qz
 refine O7 (Pm hz rfl (x:=Value.none) rfl (O8 ?_))
 simp only [if_true]
 refine O7 (Tk (O7 (Pm hz rfl (x:=Value.ref TO) rfl ?_)))
 refine O7 (Q1 hz (by simp) fun h₁ hz₁ e1=>?_)
 replace hz₁:IsZip h₁ z TI TO Value.ellipsis:=hz₁
 refine O7 ?_
 simp only [List.zipIdx_cons,List.zipIdx_nil,Ta,Ux]
 refine O7 (O7 (U0 ?_))
 show wpAny _ _ (Qr (.ref i1) >>= _) _ _ _
 refine O7 (D1.item i _ _ _ l1 (Cv D1 st1 e1 D.z1) fun x h₂ tk₂ px s12 e2=>O8 ?_)
 replace e2:Pp i1 h₁ h₂:=e2
 have p2:IsPair h₂ TO a b:=e2.extBut _ _ D.TOi1 (e1.extBut _ _ D.TOz hTO)
 refine O7 (Qx p2 rfl (O7 (Vo p2 fun h₃ p3 e3=>?_)))
 replace p3:IsPair h₃ TO x b:=p3
 replace e3:Pp TO h₂ h₃:=e3
 refine O7 (Vf (O8 (O7 (O7 (U0 ?_)))))
 show wpAny _ _ (Qr (.ref i2) >>= _) _ _ _
 have s22:St2 i h₃:=Cv D2 (Cv D2 (Cv D2 st2 e1 D.z2) e2 D.n1) e3 D.TO2
 refine O7 (D2.item i _ _ _ l2 s22 fun y h₄ tk₄ py s24 e4=>O8 ?_)
 replace e4:Pp i2 h₃ h₄:=e4
 have p4:IsPair h₄ TO x b:=e4.extBut _ _ D.TOi2 p3
 refine O7 (Qx p4 rfl (O7 (Vo p4 fun h₅ p5 e5=>?_)))
 replace p5:IsPair h₅ TO x y:=p5
 replace e5:Pp TO h₄ h₅:=e5
 refine O7 (Vf (O8 (O8 (O7 (Qx p5 rfl (O7 (wpAny_newTuple ?_)))))))
 have sz:h₅.objs.size=s.heap.objs.size:=by rw [e5.1,e4.1,e3.1,e2.1,e1.1]
 have z5:IsZip h₅ z TI TO Value.ellipsis:=e5.extBut _ _ D.TOz.symm (e4.extBut _ _ D.i2z.symm (e3.extBut _ _ D.TOz.symm (e2.extBut _ _ D.i1z.symm hz₁)))
 have k5:∀ c o,c≠z->c≠TO->c≠i1->c≠i2->s.heap.get? c=some o->h₅.get? c=some o:=fun c o c1 c2 c3 c4 e=>e5.extBut _ _ c2 (e4.extBut _ _ c4 (e3.extBut _ _ c2 (e2.extBut _ _ c3 (e1.extBut _ _ c1 e))))
 have t1:St1 (i+1) h₅:=Cv D1 (Cv D1 (Cv D1 s12 e3 D.TO1) e4 D.n2) e5 D.TO1
 have t2:St2 (i+1) h₅:=Cv D2 s24 e5 D.TO2
 have zlt:z < h₅.objs.size:=Pf z5
 show wpAny _ _ (V7 (.ref z) (.ref h₅.objs.size) >>= _) _ _ _
 refine O7 ?_
 unfold V7
 have z6:IsZip (h₅.push { cls:=.type "tuple",data:=.seq #[x,y] }) z TI TO Value.ellipsis:=Pc _ z5
 refine O7 (Q1 z6 (by simp) fun h₇ z7 e7=>?_)
 replace z7:IsZip h₇ z TI TO (rawInt h₅.objs.size):=z7
 refine Q1 z7 (by simp) fun h₈ z8 e8=>?_
 replace z8:IsZip h₈ z TI TO (rawInt h₅.objs.size):=z8
 have up:∀ c o,c≠z->h₅.get? c=some o->h₈.get? c=some o:=fun c o c1 e=>e8.extBut _ _ c1 (e7.extBut _ _ c1 (Pc _ e))
 have t8:IsPair h₈ h₅.objs.size x y:=e8.extBut _ _ (Qq zlt) (e7.extBut _ _ (Qq zlt) (Po _ rfl))
 have sz8:h₈.objs.size=h₅.objs.size+1:=by rw [e8.1,e7.1,Qf]
 rw [sz] at z8 t8 sz8
 refine O8 ⟨_,rfl,?_⟩
 show Q (.ref h₅.objs.size) _
 rw [sz]
 exact hQ x y h₈ tk₄ px py z8 (up _ _ D.TOz p5) (D1.frame _ _ _ t1 fun c hc o e=>up c o (fun q=>D.z1 (q ▸ hc)) e) (D2.frame _ _ _ t2 fun c hc o e=>up c o (fun q=>D.z2 (q ▸ hc)) e) t8 sz8 fun c o c1 c2 c3 c4 e=>up c o c1 (k5 c o c1 c2 c3 c4 e)
theorem Zht {Q:Fin->Shared->Prop}(D1:Draws prog w A i1 fp1 n1 P1 St1)(D2:Draws prog w A i2 fp2 n2 P2 St2)(D:ZA z TI TO i1 i2 fp1 fp2)(hz:IsZip s.heap z TI TO .none)(hTI:IsPair s.heap TI (.ref i1) (.ref i2))(hTO:IsPair s.heap TO a b)
  (st1:St1 i s.heap) (st2:St2 i s.heap) (hend:i=n1\/(i < n1/\i=n2))
  (hE:∀ h' e tk,(∀ c o,c≠z->c≠TO->c≠i1->c≠i2->s.heap.get? c=some o->h'.get? c=some o)->(∃ o,h'.get? e=some o/\o.cls=.type "StopIteration")->E (.ref e) { s with heap:=h',toks:=tk }) :
  wpAny (model prog w) A (Builtin.«zip.__next__» ⟨[.ref z],[]⟩) Q E s:=by
 show wpAny _ _ (field (.ref z) 2 >>= _) _ _ s
 refine O7 (Pm hz rfl (x:=Value.bool false) rfl ?_)
 show wpAny _ _ (field (.ref z) 3 >>= _) _ _ s
 refine O7 (Pm hz rfl (x:=Value.ref TI) rfl (O7 (Qx hTI rfl ?_)))
 show wpAny _ _ (Qz (.ref z) >>= _) _ _ s
 refine O7 ?_
 unfold Qz
 refine O7 (Pm hz rfl (x:=Value.none) rfl (O8 ?_))
 simp only [if_true]
 refine O7 (Tk (O7 (Pm hz rfl (x:=Value.ref TO) rfl ?_)))
 refine O7 (Q1 hz (by simp) fun h₁ hz₁ e1=>?_)
 replace hz₁:IsZip h₁ z TI TO Value.ellipsis:=hz₁
 refine O7 ?_
 simp only [List.zipIdx_cons,List.zipIdx_nil,Ta,Ux]
 refine O7 (O7 (U0 ?_))
 show wpAny _ _ (Qr (.ref i1) >>= _) _ _ _
 rcases hend with rfl | ⟨l1,rfl⟩
 ·refine O7 (D1.done _ _ _ (Cv D1 st1 e1 D.z1) fun h₂ e e2 he=>?_)
  obtain ⟨oe,hoe,hce⟩:=he
  replace e2:Si i1 h₁ h₂:=e2
  have z2:IsZip h₂ z TI TO Value.ellipsis:=e2 _ _ D.i1z.symm hz₁
  have hez:e≠z:=fun x=>by subst x;rw [z2] at hoe;cases hoe;simp at hce
  refine Q1 z2 (by simp) fun h₃ _ e3=>hE h₃ e s.toks (fun c o c1 _ c3 _ x=>e3.extBut _ _ c1 (e2 _ _ c3 (e1.extBut _ _ c1 x))) ⟨oe,e3.extBut _ _ hez hoe,hce⟩
 ·refine O7 (D1.item i _ _ _ l1 (Cv D1 st1 e1 D.z1) fun x h₂ tk₂ px s12 e2=>O8 ?_)
  replace e2:Pp i1 h₁ h₂:=e2
  have p2:IsPair h₂ TO a b:=e2.extBut _ _ D.TOi1 (e1.extBut _ _ D.TOz hTO)
  refine O7 (Qx p2 rfl (O7 (Vo p2 fun h₃ p3 e3=>?_)))
  replace e3:Pp TO h₂ h₃:=e3
  refine O7 (Vf (O8 (O7 (O7 (U0 ?_)))))
  show wpAny _ _ (Qr (.ref i2) >>= _) _ _ _
  have s22:St2 i h₃:=Cv D2 (Cv D2 (Cv D2 st2 e1 D.z2) e2 D.n1) e3 D.TO2
  refine O7 (D2.done _ _ _ s22 fun h₄ e e4 he=>?_)
  obtain ⟨oe,hoe,hce⟩:=he
  replace e4:Si i2 h₃ h₄:=e4
  have z4:IsZip h₄ z TI TO Value.ellipsis:=e4 _ _ D.i2z.symm (e3.extBut _ _ D.TOz.symm (e2.extBut _ _ D.i1z.symm hz₁))
  have hez:e≠z:=fun x=>by subst x;rw [z4] at hoe;cases hoe;simp at hce
  refine Q1 z4 (by simp) fun h₅ _ e5=>hE h₅ e tk₂ (fun c o c1 c2 c3 c4 x=>e5.extBut _ _ c1 (e4 _ _ c4 (e3.extBut _ _ c2 (e2.extBut _ _ c3 (e1.extBut _ _ c1 x))))) ⟨oe,e5.extBut _ _ hez hoe,hce⟩
theorem Zl9 {Q:Option Value->Shared->Prop}(D1:Draws prog w A.in1 i1 fp1 n1 P1 St1)(D2:Draws prog w A.in1 i2 fp2 n2 P2 St2)(D:ZA z TI TO i1 i2 fp1 fp2)(hz:IsZip s.heap z TI TO .none)(hTI:IsPair s.heap TI (.ref i1) (.ref i2))(hTO:IsPair s.heap TO a b)
  (st1:St1 i s.heap) (st2:St2 i s.heap) (l1:i < n1) (l2:i < n2)
  (hQ:∀ x y h' tk,P1 i x->P2 i y->IsZip h' z TI TO (rawInt s.heap.objs.size)->IsPair h' TO x y->St1 (i+1) h'->St2 (i+1) h'->IsPair h' s.heap.objs.size x y->h'.objs.size=s.heap.objs.size+1 ->
   (∀ c o,c≠z->c≠TO->c≠i1->c≠i2->s.heap.get? c=some o->h'.get? c=some o)->Q (some (.ref s.heap.objs.size)) { s with heap:=h',toks:=tk }) :
  wpAny (model prog w) A (pyNext (.ref z)) Q E s:=by
 have hT:s.TypeIs (.ref z) "zip" := ⟨_,hz,rfl⟩
 unfold pyNext
 exact O7 (Sd (Q6 (name:=Qj "__next__") hT Rg
  (Q9 Rg hT Ub (Zov D1 D2 D hz hTI hTO st1 st2 l1 l2 fun x y h' tk a1 a2 a3 a4 a5 a6 a7 a8 a9=>O8 (hQ x y h' tk a1 a2 a3 a4 a5 a6 a7 a8 a9)) (T8 _))))
theorem Zg0 {Q:Option Value->Shared->Prop}(D1:Draws prog w A.in1 i1 fp1 n1 P1 St1)(D2:Draws prog w A.in1 i2 fp2 n2 P2 St2)(D:ZA z TI TO i1 i2 fp1 fp2)(hz:IsZip s.heap z TI TO .none)(hTI:IsPair s.heap TI (.ref i1) (.ref i2))(hTO:IsPair s.heap TO a b)
  (st1:St1 i s.heap) (st2:St2 i s.heap) (hend:i=n1\/(i < n1/\i=n2))
  (hQ:∀ h' tk,(∀ c o,c≠z->c≠TO->c≠i1->c≠i2->s.heap.get? c=some o->h'.get? c=some o)->Q none { s with heap:=h',toks:=tk }):wpAny (model prog w) A (pyNext (.ref z)) Q E s:=by
 have hT:s.TypeIs (.ref z) "zip" := ⟨_,hz,rfl⟩
 unfold pyNext
 refine O7 (Sd (Q6 (name:=Qj "__next__") hT Rg
  (Q9 Rg hT Ub (Zht D1 D2 D hz hTI hTO st1 st2 hend fun h' e tk hk he=>?_) (T8 _))))
 obtain ⟨o,ho,hc⟩:=he
 exact O7 (Vz (T := "StopIteration") (b:=true) ⟨o,ho,hc⟩ isSubtype_stop (O8 (hQ _ _ hk)))
end
section
variable {prog:Program}{w:World}{A:Around}{E:Value->Shared->Prop}{s:Shared}
end
section
variable {X:Cx}{pins:List (Addr×Obj)}{σ:St}{H:Hp}{s:Shared}{h':Heap}
theorem Inv.turnedL {t':Nat}{fp:List Addr}(I:Inv X pins σ H s)(k:∀ b o,b ∉ fp->s.heap.get? b=some o->h'.get? b=some o)(f:∀ b∈fp,FpOk X pins H b):Inv X pins σ H { s with heap:=h',toks:=t' }:=by
 have nit:∀ b u,H b=some u->b ∉ fp:=fun b u e hb=>by rw [(f b hb).1] at e;exact nomatch e
 refine I.step (g':=s.gens) (d':=s.drawn) (ch:=fp) (fun b hb=>?_) (fun b o _ _ hc e _=>k b o hc e) (fun b o _ _ hc e _=>⟨o.slots,k b o hc e⟩) (fun _ _ _ _ n=>n)
  (fun b o hc e=>⟨o,k b o hc e⟩) (fun _ _ e=>e) (fun _ _ _ e=>e) (fun b ps e=>⟨#[],by rw [e];simp⟩) (fun m hm=>?_) (fun b u e=>?_) I.bare
 ·obtain ⟨n1,l1,_,e1,c1,p1⟩:=f b hb
  exact ⟨e1,l1,c1,p1⟩
 ·obtain ⟨o,es,ep,ho,r⟩:=hm
  exact ⟨o,es,ep,k _ o (fun hb=>(f _ hb).2.1 rfl) ho,r⟩
 ·refine (I.hok b u e).stay (fun c v hc q=>k c v ?_ q) (fun _ q=>q) fun _ _ q=>q
  rcases hc with z | z
  ·rw [z];exact nit b u e
  ·exact nit c _ z
theorem Inv.pairL {tk:Nat}{fp:List Addr}{T:Addr}{xs:List V}{its:List Value}(I:Inv X pins σ H s)(f:∀ b∈fp,FpOk X pins H b)
  (kk:∀ b o,b ∉ fp->s.heap.get? b=some o->h'.get? b=some o) (hT:s.heap.objs.size<=T) (rv:Vals xs its) (hz:xs.length<=sizeLine) (ht:h'.IsTuple T its.toArray):Inv X pins σ (upd H T (.tup xs)) { s with heap:=h',toks:=tk }:=by
 have hf:H T=none:=I.hok.fresh hT
 have I1:Inv X pins σ H { s with heap:=h',toks:=tk }:=I.turnedL kk f
 have hokN:HOk X.prog X.w (upd H T (.tup xs)) h':=fun b o e=>by
  by_cases hb:b=T
  ·subst hb
   rw [Ad] at e
   cases e
   exact ⟨hz,its,rv,ht⟩
  ·rw [Ai hb] at e
   refine (I1.hok b o e).stay (fun c v _ q=>q) (fun c q=>?_) fun c zs q=>?_
   ·rw [Ai (Cr q hf)];exact q
   ·rw [Ai (Cr q hf)];exact q
 have u:Un (Bs X.stack) fp H (upd H T (.tup xs)) s.heap h':={
  keep:=fun b o e n _ hx=>kk b o hx e
  slot:=fun b o e n _ hx=>⟨o.slots,kk b o hx e⟩
  free:=fun b o e n _=>by rw [Ai (Pn (Pt (Pf e) hT))];exact n
  there:=fun b o e hx=>⟨o,kk b o hx e⟩
  tups:=fun b zs e=>by rw [Ai (Cr e hf)];exact e
  frzs:=fun b o u e=>by rw [Ai (Cr e hf)];exact e
  tbls:=fun b ps e=>⟨#[],by rw [Ai (Cr e hf),e];simp⟩ }
 refine I.call (g':=s.gens) (d':=s.drawn) (t':=tk) u hokN I.bare fun b hb=>?_
 obtain ⟨n1,l1,_,e1,c1,p1⟩:=f b hb
 exact ⟨e1,l1,c1,p1⟩
end
structure ZB (z TI TO i1 i2 a b:Addr):Prop where
 TIz:TI≠z
 TOz:TO≠z
 TITO:TI≠TO
 i1z:i1≠z
 i2z:i2≠z
 TI1:TI≠i1
 TI2:TI≠i2
 TO1:TO≠i1
 TO2:TO≠i2
 i12:i1≠i2
 az:a≠z
 aTO:a≠TO
 a1:a≠i1
 a2:a≠i2
 bz:b≠z
 bTO:b≠TO
 b1:b≠i1
 b2:b≠i2
theorem ZB.za {z TI TO i1 i2 a b:Addr}(D:ZB z TI TO i1 i2 a b):ZA z TI TO i1 i2 [i1,a] [i2,b] where
 TIz:=D.TIz
 TOz:=D.TOz
 TITO:=D.TITO
 z1:=by simp [D.i1z.symm,D.az.symm]
 z2:=by simp [D.i2z.symm,D.bz.symm]
 TI1:=D.TI1
 TI2:=D.TI2
 TO1:=by simp [D.TO1,D.aTO.symm]
 TO2:=by simp [D.TO2,D.bTO.symm]
 m1:=by simp
 m2:=by simp
 n1:=by simp [D.i12,D.b1.symm]
 n2:=by simp [D.i12.symm,D.a2.symm]
theorem Zlq {n a b:Nat}(h1:a < n)(h2:b < n):ZB (n+4) (n+2) (n+3) n (n+1) a b:=by
 have f:∀ i j:Nat,i≠j->n+i≠n+j:=fun i j h e=>h (Nat.add_left_cancel e)
 have g:∀ i:Nat,a≠n+i:=fun i e=>absurd h1 (by rw [e];exact Nat.not_lt.mpr (Uo _ _))
 have g':∀ i:Nat,b≠n+i:=fun i e=>absurd h2 (by rw [e];exact Nat.not_lt.mpr (Uo _ _))
 exact ⟨f 2 4 (by decide),f 3 4 (by decide),f 2 3 (by decide),f 0 4 (by decide),f 1 4 (by decide),f 2 0 (by decide),f 2 1 (by decide),f 3 0 (by decide),f 3 1 (by decide),f 0 1 (by decide),g 4,g 3,g 0,g 1,g' 4,g' 3,g' 0,g' 1⟩
section
variable {X:Cx}
end
theorem Zpw (xs:List V)(k:Nat):C3 xs none (some (k:Int))=xs.take k:=by
 unfold C3
 rw [HT.sIx_none,HT.sIx_nat,Vb,List.drop_zero]
 by_cases h:k<=xs.length
 ·rw [Nat.min_eq_left h]
 ·rw [Nat.min_eq_right (by omega),Uc (O9 _),Uc (by omega)]
theorem Zqm (xs:List V)(k:Nat):C3 xs (some (k:Int)) none=xs.drop k:=by
 unfold C3
 rw [HT.sIx_none,HT.sIx_nat]
 by_cases h:k<=xs.length
 ·rw [Nat.min_eq_left h,Uc (by simp)]
 ·rw [Nat.min_eq_right (by omega),So (O9 _),So (by omega)]
  simp
structure Mvd (fs xs:List Addr)(h h':Heap):Prop where
 keep:∀ b o,b ∉ xs->b ∉ fs->h.get? b=some o->h'.get? b=some o
 slot:∀ b o,b ∉ xs->h.get? b=some o->∃ sl,h'.get? b=some { o with slots:=sl }
theorem Mvd.trans {fs xs:List Addr}{h h1 h2:Heap}(a:Mvd fs xs h h1)(b:Mvd fs xs h1 h2):Mvd fs xs h h2 :=
 ⟨fun c o n1 n2 e=>b.keep c o n1 n2 (a.keep c o n1 n2 e),fun c o n e=>by
  obtain ⟨sl,e1⟩:=a.slot c o n e
  obtain ⟨sl',e2⟩:=b.slot c _ n e1
  exact ⟨sl',e2⟩⟩
theorem Mvd.mono {fs xs ys:List Addr}{h h1:Heap}(a:Mvd fs xs h h1)(s:∀ b∈xs,b∈ys):Mvd fs ys h h1 :=
 ⟨fun c o n1 n2 e=>a.keep c o (fun z=>n1 (s c z)) n2 e,fun c o n e=>a.slot c o (fun z=>n (s c z)) e⟩
theorem Mvd.upd {fs:List Addr}{h:Heap}{a:Addr}(f:Obj->Obj):Mvd fs [a] h (h.update a f) :=
 ⟨fun c o n _ e=>by rw [Qu _ _ (fun z=>n (by simp [z]))];exact e,fun c o n e=>⟨o.slots,by rw [Qu _ _ (fun z=>n (by simp [z]))];exact e⟩⟩
theorem Mvd.push {fs xs:List Addr}{h:Heap}(o:Obj):Mvd fs xs h (h.push o):=⟨fun _ _ _ _ e=>Pc _ e,fun _ o _ e=>⟨o.slots,Pc _ e⟩⟩
theorem Mvd.fun {fs xs:List Addr}{h h1 base:Heap}{l:List Env}(a:Mvd fs xs h h1)(hl:h.FunFrames base l)(nx:∀ b∈xs,∃ o vs,h.get? b=some o/\o.data=.fields vs):h1.FunFrames base l :=
 hl.of_keeps fun b o e hd=>by
  obtain ⟨sl,e1⟩:=a.slot b o (fun z=>by
   obtain ⟨o',vs,e',d'⟩:=nx b z
   rw [e] at e'
   cases e'
   exact hd vs d') e
  exact ⟨_,e1,rfl⟩
noncomputable def K4 (h:Heap)(e T:Addr)(cls:Value)(od:Option Addr)(fl:Value):Prop :=
 ∃ oe vs oT ts,h.get? e=some oe/\oe.cls=cls/\oe.dict=od/\oe.data=.fields vs/\vs[1]?=some (.ref T)/\T≠e/\h.get? T=some oT/\oT.data=.fields ts/\ts[3]?=some fl/\vs[2]?=some .none
noncomputable abbrev Ft (h:Heap)(e T:Addr)(cls:Value)(od:Option Addr):Prop:=K4 h e T cls od .none
noncomputable def Ll (h:Heap)(e:Addr)(cls:Value)(od:Option Addr):Prop:=∃ oe vs,h.get? e=some oe/\oe.cls=cls/\oe.dict=od/\oe.data=.fields vs/\vs[1]?=some .none/\vs[2]?=some .none
section
variable {M:Model}{A:Around}{E:Value->Shared->Prop}{s:Shared}
theorem Ze9 {base:Heap}{env:Env}{outer:List Env}{L e:Addr}{oe:Obj}{vs:Array Value}{head:Value}{hadNext:Bool}{Q:Unit->Shared->Prop}
  (hfr:A.frames=some (env::outer)) (hl:s.heap.FunFrames base (env::outer)) (hf:env.frame=some L) (he:s.heap.get? e=some oe) (hd:oe.data=.fields vs) (hsz:1 < vs.size) (hct:vs[2]?=some .none)
  (h:∀ h' T,s.heap.objs.size<=T->K4 h' e T oe.cls oe.dict (rawInt L)->Mvd (Bs (env::outer)) [e] s.heap h'->Q () { s with heap:=h' }) :
  wpAny M A (do let a <- frameOf env;let pl <- entryPlaceOf L hadNext;let b <- EntryCells.newEntry head a .none (rawInt L) .none pl;setField (.ref e) 1 b) Q E s:=by
 have hene:e ∉ Bs (env::outer):=fun hm=>by
  obtain ⟨_,o,ho,hnf⟩:=hl.mem hm
  rw [he] at ho
  cases ho
  exact hnf vs hd
 refine O7 (wpAny_frameOf_fun hfr hl hf fun h₁ s1=>?_)
 refine O7 (wpAny_entryPlaceOf fun pl hpl=>?_)
 unfold EntryCells.newEntry newFields
 refine O7 (Rj ?_ (hpl.sizeOk5 _ _ _ _ _))
 have e1:h₁.get? e=some oe:=(s1.2.1 e hene).trans he
 generalize hoT:({ cls:=.type "traceback",dict:=none,data:=.fields ([head,.ref L,.none,rawInt L,.none]++(if pl.isEmpty then Qg 6 Value.none else pl)).toArray }:Obj)=oT
 have e2:(h₁.push oT).get? e=some oe:=Pc _ e1
 refine Td e2 hd hsz (h _ h₁.objs.size (by rw [s1.1];exact O9 _) ?_ ?_)
 ·have nT:h₁.objs.size≠e:=Qq (Pf e1)
  have d3:=Ug hd (·.setIfInBounds 1 (Value.ref h₁.objs.size))
  have e3:=Rf (Se (·.setIfInBounds 1 (Value.ref h₁.objs.size))) e2 (Vm d3)
  have fT:oT.isFreed=false:=by rw [<- hoT];rfl
  have e4:=(Qu (h₁.push oT) (Se (·.setIfInBounds 1 (Value.ref h₁.objs.size))) (Pk nT)).trans (Po h₁ fT)
  refine ⟨_,_,_,_,e3,Obj.cls_mapFields _ _,?_,d3,by simp [hsz],nT,e4,by rw [<- hoT],?_⟩
  ·obtain ⟨c0,d0,t0,s0⟩:=oe
   cases t0 <;> rfl
  ·refine ⟨?_,by rw [Array.getElem?_setIfInBounds_ne (by decide)];exact hct⟩
   first | (simp;done) | (rcases hpl with rfl | ⟨_,_,_,_,_,_,_,rfl⟩ <;> simp)
 ·have m1:Mvd (Bs (env::outer)) [e] s.heap h₁:=⟨fun b o _ n e=>(s1.2.1 b n).trans e,fun b o _ e=>s1.2.2 b o e⟩
  exact (m1.trans (Mvd.push oT)).trans (Mvd.upd _)
theorem Lz {e T:Addr}{cls fl:Value}{od:Option Addr}{fs:List Addr}{Q:Unit->Shared->Prop}(x:K4 s.heap e T cls od fl)(h:∀ h',Ft h' e T cls od->Mvd fs [T] s.heap h'->Q () { s with heap:=h' }):wpAny M A (setFlight (.ref e) none) Q E s:=by
 obtain ⟨oe,vs,oT,ts,a1,a2,a3,a4,a5,a6,a7,a8,a9⟩:=x
 have hz:3 < ts.size:=(Ts.mp a9.1).1
 unfold setFlight
 refine O7 (Pm a1 a4 a5 ?_)
 rw [if_pos (show (Value.ref T != Value.none)=true from by simp)]
 refine Td a7 a8 hz (h _ ?_ (Mvd.upd _))
 have d:=Ug a8 (·.setIfInBounds 3 ((none:Option Addr).elim Value.none fun f=>rawInt f))
 exact ⟨oe,vs,_,_,by rw [Qu _ _ a6];exact a1,a2,a3,a4,a5,a6,Rf _ a7 (Vm d),d,by simp [hz],a9.2⟩
theorem Zgm {base:Heap}{env:Env}{outer:List Env}{L e:Addr}{cls:Value}{od:Option Addr}{Q:Unit->Shared->Prop}
  (hfr:A.frames=some (env::outer)) (hl:s.heap.FunFrames base (env::outer)) (hf:env.frame=some L) (x:Ll s.heap e cls od)
  (h:∀ h' T,s.heap.objs.size<=T->K4 h' e T cls od (rawInt L)->Mvd (Bs (env::outer)) [e] s.heap h'->Q () { s with heap:=h' }):wpAny M A (noteFrame (.ref e) env) Q E s:=by
 obtain ⟨oe,vs,he,rfl,rfl,hd,h1,hct⟩:=x
 unfold noteFrame
 simp only [hf]
 refine O7 (Pm he hd h1 ?_)
 rw [if_neg (by decide)]
 exact Ze9 hfr hl hf he hd (Ts.mp h1).1 hct h
theorem Ze2 {base:Heap}{env:Env}{outer:List Env}{L e T:Addr}{cls:Value}{od:Option Addr}{Q:Unit->Shared->Prop}
  (hfr:A.frames=some (env::outer)) (hl:s.heap.FunFrames base (env::outer)) (hf:env.frame=some L) (x:Ft s.heap e T cls od)
  (h:∀ h' T',s.heap.objs.size<=T'->K4 h' e T' cls od (rawInt L)->Mvd (Bs (env::outer)) [e,T] s.heap h'->Q () { s with heap:=h' }):wpAny M A (noteFrame (.ref e) env) Q E s:=by
 obtain ⟨oe,vs,oT,ts,he,rfl,rfl,hd,h1,nT,hT,dT,h3,hct⟩:=x
 unfold noteFrame
 simp only [hf]
 refine O7 (Pm he hd h1 ?_)
 rw [if_pos (show (Value.ref T != Value.none)=true from by simp)]
 refine O7 (Pm hT dT h3 ?_)
 rw [if_neg (show ¬ ((Value.none == rawInt L)=true) from by simp [rawInt])]
 refine O7 (Td hT dT (Ts.mp h3).1 ?_)
 have m1:Mvd (Bs (env::outer)) [T] s.heap (s.heap.update T (Se (·.setIfInBounds 3 Value.none))):=Mvd.upd _
 have he':(s.heap.update T (Se (·.setIfInBounds 3 Value.none))).get? e=some oe:=(Qu _ _ nT).trans he
 refine Ze9 hfr (m1.fun hl fun b hb=>by rw [P4.mp hb];exact ⟨oT,ts,hT,dT⟩) hf he' hd (Ts.mp h1).1 hct fun h' T' hz x m=>?_
 refine h h' T' ?_ x ((m1.mono (by simp)).trans (m.mono (by simp)))
 have:(s.heap.update T (Se (·.setIfInBounds 3 Value.none))).objs.size=s.heap.objs.size:=Heap.size_after_update ..
 have hz:(s.heap.update T (Se (·.setIfInBounds 3 Value.none))).objs.size<=T':=hz
 omega
theorem Zl2 {base:Heap}{env:Env}{outer:List Env}{L e:Addr}{cls:Value}{od:Option Addr}{Q:Unit->Shared->Prop}
  (hfr:A.frames=some (env::outer)) (hl:s.heap.FunFrames base (env::outer)) (hf:env.frame=some L) (x:Ll s.heap e cls od)
  (h:∀ h' T,s.heap.objs.size<=T->Ft h' e T cls od->Mvd (Bs (env::outer)) [e,T] s.heap h'->Q () { s with heap:=h' }):wpAny M A (leaving env (.ref e)) Q E s:=by
 unfold leaving
 refine O7 (Zgm hfr hl hf x fun h1 T hz y m=>?_)
 refine Lz (fs:=Bs (env::outer)) y fun h2 y2 m2=>h h2 T hz y2 ((m.mono (by simp)).trans (m2.mono (by simp)))
theorem Zl3 {base:Heap}{env:Env}{outer:List Env}{L e T:Addr}{cls:Value}{od:Option Addr}{Q:Unit->Shared->Prop}
  (hfr:A.frames=some (env::outer)) (hl:s.heap.FunFrames base (env::outer)) (hf:env.frame=some L) (x:Ft s.heap e T cls od)
  (h:∀ h' T',s.heap.objs.size<=T'->Ft h' e T' cls od->Mvd (Bs (env::outer)) [e,T,T'] s.heap h'->Q () { s with heap:=h' }):wpAny M A (leaving env (.ref e)) Q E s:=by
 unfold leaving
 refine O7 (Ze2 hfr hl hf x fun h1 T' hz y m=>?_)
 refine Lz (fs:=Bs (env::outer)) y fun h2 y2 m2=>h h2 T' hz y2 ((m.mono (by simp)).trans (m2.mono (by simp)))
end
theorem Zhj {X:Cx}{st:Stmt}:QS X st (fun _ _ _=>False):=⟨fun _ _ _ _ _ _ h=>h.elim⟩
noncomputable def Jh (h:Heap)(z TI TO i1 i2:Addr):Prop:=∃(a:Addr)(oa:Obj)(f1:Value),h.get? z=some { cls:=.type "zip",dict:=none,data:=.fields #[rawInt a,f1,.bool false,.ref TI,.ref TO],slots:=#[] }/\h.get? a=some oa/\a≠z/\a≠i1/\a≠i2
section
variable {prog:Program}{w:World}{A:Around}{E:Value->Shared->Prop}{s:Shared}{z TI TO i1 i2:Addr}{fp1 fp2:List Addr}{n1 n2 i:Nat}{P1 P2:Nat->Value->Prop}{St1 St2:Nat->Heap->Prop}{a b:Value}
theorem Zfn {Q:Bool->Shared->Prop}(hz:Jh s.heap z TI TO i1 i2)(h:∀ h',Jh h' z TI TO i1 i2->Pp z s.heap h'->Q false { s with heap:=h' }):wpAny (model prog w) A (Qz (.ref z)) Q E s:=by
 obtain ⟨a,oa,f1,e,ea,n0,n1,n2⟩:=hz
 unfold Qz
 refine O7 (Pm e rfl (x:=rawInt a) rfl ?_)
 show wpAny _ _ (loadIfAlive ((a:Int).toNat) >>= _) _ _ s
 refine O7 (Zfv ?_)
 rw [Qm,ea]
 rw [if_neg (by simp)]
 refine O7 (Pm e rfl (x:=f1) rfl ?_)
 by_cases hf:(f1 != Value.bool true)=true
 ·simp only [hf,if_true]
  refine O7 (Q1 e (by simp) fun h₅ e5 s5=>?_)
  replace s5:Pp z s.heap h₅:=s5
  exact O8 (h h₅ ⟨a,oa,.bool true,e5,s5.extBut a oa n0 ea,n0,n1,n2⟩ s5)
 ·simp only [hf]
  exact O8 (h s.heap ⟨a,oa,f1,e,ea,n0,n1,n2⟩ (Pp.refl ..))
theorem Zkk {Q:Value->Shared->Prop}(D1:Draws prog w A i1 fp1 n1 P1 St1)(D2:Draws prog w A i2 fp2 n2 P2 St2)(D:ZA z TI TO i1 i2 fp1 fp2)(hz:Jh s.heap z TI TO i1 i2)(hTI:IsPair s.heap TI (.ref i1) (.ref i2))
  (st1:St1 i s.heap) (st2:St2 i s.heap) (l1:i < n1) (l2:i < n2)
  (hQ:∀ x y h' tk,P1 i x->P2 i y->Jh h' z TI TO i1 i2->St1 (i+1) h'->St2 (i+1) h'->IsPair h' s.heap.objs.size x y->h'.objs.size=s.heap.objs.size+1 ->
   (∀ c o,c≠z->c≠i1->c≠i2->s.heap.get? c=some o->h'.get? c=some o)->Q (.ref s.heap.objs.size) { s with heap:=h',toks:=tk }) :
  wpAny (model prog w) A (Builtin.«zip.__next__» ⟨[.ref z],[]⟩) (fun fin s'=>∃ v,fin=.done (.ret v)/\Q v s') E s:=by
 obtain ⟨a0,oa0,f10,e0,_⟩:=id hz
 show wpAny _ _ (field (.ref z) 2 >>= _) _ _ s
 refine O7 (Pm e0 rfl (x:=Value.bool false) rfl ?_)
 show wpAny _ _ (field (.ref z) 3 >>= _) _ _ s
 refine O7 (Pm e0 rfl (x:=Value.ref TI) rfl (O7 (Qx hTI rfl ?_)))
 show wpAny _ _ (Qz (.ref z) >>= _) _ _ s
 refine O7 (Zfn hz fun h₁ hz₁ e1=>?_)
 simp only [Sy,if_false]
 refine O7 ?_
 simp only [List.forIn_toArray,Ta,Ux]
 refine O7 (O7 (Qy ?_))
 show wpAny _ _ (Qr (.ref i1) >>= _) _ _ _
 refine O7 (D1.item i _ _ _ l1 (Cv D1 st1 e1 D.z1) fun x h₂ tk₂ px s12 e2=>O8 (O8 ?_))
 replace e2:Pp i1 h₁ h₂:=e2
 refine O7 (O7 (Qy ?_))
 show wpAny _ _ (Qr (.ref i2) >>= _) _ _ _
 have s22:St2 i h₂:=Cv D2 (Cv D2 st2 e1 D.z2) e2 D.n1
 refine O7 (D2.item i _ _ _ l2 s22 fun y h₄ tk₄ py s24 e4=>O8 (O8 (O8 ?_)))
 replace e4:Pp i2 h₂ h₄:=e4
 show wpAny _ _ (newTuple [x,y] >>= _) _ _ _
 refine O7 (wpAny_newTuple (O8 ⟨_,rfl,?_⟩))
 have sz:h₄.objs.size=s.heap.objs.size:=by rw [e4.1,e2.1,e1.1]
 show Q (.ref h₄.objs.size) { s with heap:=h₄.push { cls:=.type "tuple",data:=.seq #[x,y] },toks:=tk₄ }
 have up:∀ c o,h₄.get? c=some o->(h₄.push { cls:=.type "tuple",data:=.seq #[x,y] }).get? c=some o:=fun c o e=>Pc _ e
 have k4:∀ c o,c≠z->c≠i1->c≠i2->s.heap.get? c=some o->h₄.get? c=some o:=fun c o c1 c3 c4 e=>e4.extBut _ _ c4 (e2.extBut _ _ c3 (e1.extBut _ _ c1 e))
 have t8:IsPair (h₄.push { cls:=.type "tuple",data:=.seq #[x,y] }) h₄.objs.size x y:=Po _ rfl
 rw [sz] at t8
 rw [sz]
 obtain ⟨a1,oa1,f1,g1,g2,g3,g4,g5⟩:=hz₁
 refine hQ x y _ tk₄ px py ⟨a1,oa1,f1,up _ _ (e4.extBut _ _ D.i2z.symm (e2.extBut _ _ D.i1z.symm g1)),up _ _ (e4.extBut _ _ g5 (e2.extBut _ _ g4 g2)),g3,g4,g5⟩ ?_ ?_ t8 (by rw [Qf,sz]) fun c o c1 c3 c4 e=>up c o (k4 c o c1 c3 c4 e)
 ·exact D1.frame _ _ _ (Cv D1 s12 e4 D.n2) fun c _ o e=>up c o e
 ·exact D2.frame _ _ _ s24 fun c _ o e=>up c o e
theorem Zmo {Q:Fin->Shared->Prop}(D1:Draws prog w A i1 fp1 n1 P1 St1)(D2:Draws prog w A i2 fp2 n2 P2 St2)(D:ZA z TI TO i1 i2 fp1 fp2)(hz:Jh s.heap z TI TO i1 i2)(hTI:IsPair s.heap TI (.ref i1) (.ref i2))
  (st1:St1 i s.heap) (st2:St2 i s.heap) (hend:i=n1\/(i < n1/\i=n2))
  (hE:∀ h' e tk,(∀ c o,c≠z->c≠i1->c≠i2->s.heap.get? c=some o->h'.get? c=some o)->(∃ o,h'.get? e=some o/\o.cls=.type "StopIteration")->E (.ref e) { s with heap:=h',toks:=tk }) :
  wpAny (model prog w) A (Builtin.«zip.__next__» ⟨[.ref z],[]⟩) Q E s:=by
 obtain ⟨a0,oa0,f10,e0,_⟩:=id hz
 show wpAny _ _ (field (.ref z) 2 >>= _) _ _ s
 refine O7 (Pm e0 rfl (x:=Value.bool false) rfl ?_)
 show wpAny _ _ (field (.ref z) 3 >>= _) _ _ s
 refine O7 (Pm e0 rfl (x:=Value.ref TI) rfl (O7 (Qx hTI rfl ?_)))
 show wpAny _ _ (Qz (.ref z) >>= _) _ _ s
 refine O7 (Zfn hz fun h₁ hz₁ e1=>?_)
 simp only [Sy,if_false]
 refine O7 ?_
 simp only [List.forIn_toArray,Ta,Ux]
 refine O7 (O7 (Qy ?_))
 show wpAny _ _ (Qr (.ref i1) >>= _) _ _ _
 rcases hend with rfl | ⟨l1,rfl⟩
 ·refine O7 (D1.done _ _ _ (Cv D1 st1 e1 D.z1) fun h₂ e e2 he=>?_)
  replace e2:Si i1 h₁ h₂:=e2
  exact hE h₂ e s.toks (fun c o c1 c3 _ x=>e2 _ _ c3 (e1.extBut _ _ c1 x)) he
 ·refine O7 (D1.item i _ _ _ l1 (Cv D1 st1 e1 D.z1) fun x h₂ tk₂ px s12 e2=>O8 (O8 ?_))
  replace e2:Pp i1 h₁ h₂:=e2
  refine O7 (O7 (Qy ?_))
  show wpAny _ _ (Qr (.ref i2) >>= _) _ _ _
  have s22:St2 i h₂:=Cv D2 (Cv D2 st2 e1 D.z2) e2 D.n1
  refine O7 (D2.done _ _ _ s22 fun h₄ e e4 he=>?_)
  replace e4:Si i2 h₂ h₄:=e4
  exact hE h₄ e tk₂ (fun c o c1 c3 c4 x=>e4 _ _ c4 (e2.extBut _ _ c3 (e1.extBut _ _ c1 x))) he
noncomputable def ZpSt (h:Heap)(z TI TO i1 i2:Addr)(i:Nat):Prop:=(i=0/\IsZip h z TI TO .none/\∃ u v,IsPair h TO u v)\/(0 < i/\Jh h z TI TO i1 i2)
theorem ZpSt.obj {h:Heap}{z TI TO i1 i2:Addr}{i:Nat}(x:ZpSt h z TI TO i1 i2 i):∃ vs,h.get? z=some { cls:=.type "zip",dict:=none,data:=.fields vs,slots:=#[] }:=by
 rcases x with ⟨_,x,_⟩ | ⟨_,_,_,_,x,_⟩
 ·exact ⟨_,x⟩
 ·exact ⟨_,x⟩
theorem Zm9 {Q:Option Value->Shared->Prop}(D1:Draws prog w A.in1 i1 fp1 n1 P1 St1)(D2:Draws prog w A.in1 i2 fp2 n2 P2 St2)(D:ZA z TI TO i1 i2 fp1 fp2)(hz:ZpSt s.heap z TI TO i1 i2 i)(hTI:IsPair s.heap TI (.ref i1) (.ref i2))(eTO:∃ o,s.heap.get? TO=some o)
  (st1:St1 i s.heap) (st2:St2 i s.heap) (l1:i < n1) (l2:i < n2)
  (hQ:∀ x y h' tk,P1 i x->P2 i y->ZpSt h' z TI TO i1 i2 (i+1)->(∃ o,h'.get? TO=some o)->St1 (i+1) h'->St2 (i+1) h'->IsPair h' s.heap.objs.size x y->h'.objs.size=s.heap.objs.size+1 ->
   (∀ c o,c≠z->c≠TO->c≠i1->c≠i2->s.heap.get? c=some o->h'.get? c=some o)->Q (some (.ref s.heap.objs.size)) { s with heap:=h',toks:=tk }) :
  wpAny (model prog w) A (pyNext (.ref z)) Q E s:=by
 obtain ⟨vs,ho⟩:=hz.obj
 have hT:s.TypeIs (.ref z) "zip" := ⟨_,ho,rfl⟩
 have zl:z < s.heap.objs.size:=Pf ho
 have l1':i1 < s.heap.objs.size:=by obtain ⟨_,y⟩:=D1.live _ _ st1;exact Pf y
 have l2':i2 < s.heap.objs.size:=by obtain ⟨_,y⟩:=D2.live _ _ st2;exact Pf y
 rcases hz with ⟨rfl,hz,u,v,hTO⟩ | ⟨hi,hz⟩
 ·exact Zl9 D1 D2 D hz hTI hTO st1 st2 l1 l2 fun x y h' tk a1 a2 a3 a4 a5 a6 a7 a8 a9=>hQ x y h' tk a1 a2 (.inr ⟨Va _,_,_,_,a3,a7,Qq zl,Qq l1',Qq l2'⟩) ⟨_,a4⟩ a5 a6 a7 a8 a9
 ·unfold pyNext
  exact O7 (Sd (Q6 (name:=Qj "__next__") hT Rg
   (Q9 Rg hT Ub (Zkk D1 D2 D hz hTI st1 st2 l1 l2 fun x y h' tk a1 a2 a3 a4 a5 a6 a7 a8=>O8 (hQ x y h' tk a1 a2 (.inr ⟨Va _,a3⟩) (let ⟨o,e⟩:=eTO;⟨o,a8 _ o D.TOz D.TOi1 D.TOi2 e⟩) a4 a5 a6 a7 fun c o c1 _ c3 c4 e=>a8 c o c1 c3 c4 e)) (T8 _))))
theorem Zjl {Q:Option Value->Shared->Prop}(D1:Draws prog w A.in1 i1 fp1 n1 P1 St1)(D2:Draws prog w A.in1 i2 fp2 n2 P2 St2)(D:ZA z TI TO i1 i2 fp1 fp2)(hz:ZpSt s.heap z TI TO i1 i2 i)(hTI:IsPair s.heap TI (.ref i1) (.ref i2))
  (st1:St1 i s.heap) (st2:St2 i s.heap) (hend:i=n1\/(i < n1/\i=n2))
  (hQ:∀ h' tk,(∀ c o,c≠z->c≠TO->c≠i1->c≠i2->s.heap.get? c=some o->h'.get? c=some o)->Q none { s with heap:=h',toks:=tk }):wpAny (model prog w) A (pyNext (.ref z)) Q E s:=by
 obtain ⟨vs,ho⟩:=hz.obj
 have hT:s.TypeIs (.ref z) "zip" := ⟨_,ho,rfl⟩
 rcases hz with ⟨rfl,hz,u,v,hTO⟩ | ⟨hi,hz⟩
 ·exact Zg0 D1 D2 D hz hTI hTO st1 st2 hend hQ
 ·unfold pyNext
  refine O7 (Sd (Q6 (name:=Qj "__next__") hT Rg
   (Q9 Rg hT Ub (Zmo D1 D2 D hz hTI st1 st2 hend fun h' e tk hk he=>?_) (T8 _))))
  obtain ⟨o,ho,hc⟩:=he
  exact O7 (Vz (T := "StopIteration") (b:=true) ⟨o,ho,hc⟩ isSubtype_stop (O8 (hQ _ _ fun c o c1 _ c3 c4 e=>hk c o c1 c3 c4 e)))
end
noncomputable abbrev itZ (b:Bool)(l:Addr):Obj:={ cls:=.type (cond b "tuple_iterator" "list_iterator"),data:=.fields #[.ref l,.int 0 0] }
noncomputable def ZIt (b:Bool)(h:Heap)(a l:Addr)(i:Nat):Prop:=∃ o,h.get? a=some o/\o.cls=.type (cond b "tuple_iterator" "list_iterator")/\o.data=.fields #[.ref l,.int i 0]
theorem ZIt.at {b:Bool}{h h':Heap}{a l:Addr}{i:Nat}(x:ZIt b h a l i)(k:∀ o,h.get? a=some o->h'.get? a=some o):ZIt b h' a l i:=let ⟨o,e,r⟩:=x;⟨o,k o e,r⟩
noncomputable def ZIn (b:Bool)(h:Heap)(a:Addr)(xs:Array Value):Prop:=cond b (h.IsTuple a xs) (h.IsList a xs)
noncomputable def Gb (b:Bool)(K:O6)(H:Hp)(a:Addr)(xs:List V):Prop:=cond b (SqT K H a xs) (SqL K H a xs)
theorem ZIn.lt {b:Bool}{h:Heap}{a:Addr}{xs:Array Value}(x:ZIn b h a xs):a < h.objs.size:=by
 cases b <;> exact let ⟨_,e,_⟩:=id x;Pf e
theorem ZIn.push {b:Bool}{h:Heap}{a:Addr}{xs:Array Value}(x:ZIn b h a xs)(o:Obj):ZIn b (h.push o) a xs:=by
 cases b
 ·exact Heap.IsList.push x _
 ·obtain ⟨o,e,r⟩:=id x
  exact ⟨o,Pc _ e,r⟩
theorem Same.sqZ {b:Bool}{K:O6}{H H':Hp}{a:Addr}{xs:List V}(m:Same H H')(x:Gb b K H a xs):Gb b K H' a xs:=by
 cases b
 ·exact m.seq x
 ·exact m.tup x
theorem Inv.zin {X:Cx}{pins:List (Addr×Obj)}{σ:St}{H:Hp}{s:Shared}{b:Bool}{a:Addr}{xs:List V}(I:Inv X pins σ H s)(x:Gb b X.K H a xs):∃ its,Vals xs its/\ZIn b s.heap a its.toArray:=by
 cases b
 ·obtain ⟨its,rv,pl,hz⟩:=I.list x
  exact ⟨its,rv,pl.isList⟩
 ·obtain ⟨its,rv,pl,hz⟩:=I.tuple x
  exact ⟨its,rv,pl⟩
theorem Inv.zsz {X:Cx}{pins:List (Addr×Obj)}{σ:St}{H:Hp}{s:Shared}{b:Bool}{a:Addr}{xs:List V}(I:Inv X pins σ H s)(x:Gb b X.K H a xs):xs.length<=sizeLine:=by
 cases b
 ·obtain ⟨its,rv,pl,hz⟩:=I.list x
  have:=rv.length
  omega
 ·obtain ⟨its,rv,pl,hz⟩:=I.tuple x
  have:=rv.length
  omega
theorem Mm {prog:Program}{w:World}{A:Around}(b:Bool)(hh:A.handled=none)(it l:Addr)(hne:l≠it)(items:Array Value) :
  Draws prog w A it [it,l] items.size (fun i v=>items[i]?=some v) (fun i h=>ZIt b h it l i/\ZIn b h l items):=by
 cases b
 ·exact Draws.list hh it l hne items
 ·exact Zap hh it l hne items
theorem Ze0 {prog:Program}{w:World}{A:Around}{E:Value->Shared->Prop}{s:Shared}{b:Bool}{a:Addr}{xs:Array Value}{Q:Value->Shared->Prop}(q:ZIn b s.heap a xs)
  (h:Q (.ref s.heap.objs.size) { s with heap:=s.heap.push (itZ b a) }):wpAny (model prog w) A (pyIter (.ref a)) Q E s:=by
 cases b
 ·exact Uj q h
 ·exact Sx q h
noncomputable abbrev zl1 (b:Bool)(h:Heap)(l1:Addr):Heap:=h.push (itZ b l1)
noncomputable abbrev zl2 (b gg:Bool)(h:Heap)(l1 l2:Addr):Heap:=(zl1 b h l1).push (itZ gg l2)
noncomputable abbrev zl3 (b gg:Bool)(h:Heap)(l1 l2:Addr):Heap:=(zl2 b gg h l1 l2).push { cls:=.type "tuple",data:=.seq #[.ref h.objs.size,.ref (zl1 b h l1).objs.size] }
noncomputable abbrev zl4 (b gg:Bool)(h:Heap)(l1 l2:Addr):Heap:=(zl3 b gg h l1 l2).push { cls:=.type "tuple",data:=.seq #[.none,.none] }
noncomputable abbrev Gi (b gg:Bool)(h:Heap)(l1 l2:Addr):Heap:=(zl4 b gg h l1 l2).push { cls:=.type "zip",data:=.fields #[.none,.bool false,.bool false,.ref (zl2 b gg h l1 l2).objs.size,.ref (zl3 b gg h l1 l2).objs.size] }
theorem Zjb (b gg:Bool)(l1 l2:Addr)(xs ys:Array Value) :
  Meets (Builtin.«zip.__new__» ⟨[.type "zip",.ref l1,.ref l2],[]⟩) (fun _ R s=>ZIn b s.heap l1 xs/\ZIn gg s.heap l2 ys/\R (.ok (.ret (.ref (zl4 b gg s.heap l1 l2).objs.size))) { s with heap:=Gi b gg s.heap l1 l2 }) :=
 .of_wp fun prog w A R s h=>by
  obtain ⟨hp,g,d,tk,os⟩:=s;obtain ⟨hl1,hl2,h⟩:=h
  have hsub:=sub_zip
  have q1:ZIn b (Shared.heap ⟨hp,g,d,tk,os⟩) l1 xs:=hl1
  have q2:ZIn gg (Shared.heap ⟨hp.push (itZ b l1),g,d,tk,os⟩) l2 ys:=hl2.push _
  wp_walk using Ze0 q1,Ze0 q2
  exact ⟨_,rfl,h⟩
theorem Zik {b gg:Bool}{prog:Program}{w:World}{A:Around}{E:Value->Shared->Prop}{s:Shared}{l1 l2:Addr}{xs ys:Array Value}{Q:Value->Shared->Prop}(hl1:ZIn b s.heap l1 xs)(hl2:ZIn gg s.heap l2 ys)
  (h:∀ h',IsZip h' (s.heap.objs.size+4) (s.heap.objs.size+2) (s.heap.objs.size+3) .none->IsPair h' (s.heap.objs.size+2) (.ref s.heap.objs.size) (.ref (s.heap.objs.size+1)) ->
   IsPair h' (s.heap.objs.size+3) .none .none->ZIt b h' s.heap.objs.size l1 0->ZIt gg h' (s.heap.objs.size+1) l2 0->h'.objs.size=s.heap.objs.size+5 ->
   (∀ c o,s.heap.get? c=some o->h'.get? c=some o)->Q (.ref (s.heap.objs.size+4)) { s with heap:=h' }) :
  wpAny (model prog w) A (call (.type "zip") [.ref l1,.ref l2]) Q E s:=by
 refine callType_new PySem.F.called_zip (by decide) (PySem.F.typeCall_zip_2 _ _) (PySem.F.newCall_zip_2 _ _) (fun obj=>PySem.F.args_object_init_3 obj _ _) PySem.F.entry_zip_new (Zjb b gg l1 l2 xs ys) ⟨hl1,hl2,?_⟩
 have y1:(zl1 b s.heap l1).objs.size=s.heap.objs.size+1:=Qf ..
 have y2:(zl2 b gg s.heap l1 l2).objs.size=s.heap.objs.size+2:=by rw [Qf,y1]
 have y3:(zl3 b gg s.heap l1 l2).objs.size=s.heap.objs.size+3:=by rw [Qf,y2]
 have y4:(zl4 b gg s.heap l1 l2).objs.size=s.heap.objs.size+4:=by rw [Qf,y3]
 have y5:(Gi b gg s.heap l1 l2).objs.size=s.heap.objs.size+5:=by rw [Qf,y4]
 have u5:(Gi b gg s.heap l1 l2).get? (zl4 b gg s.heap l1 l2).objs.size=some _:=Po _ rfl
 have u4:(Gi b gg s.heap l1 l2).get? (zl3 b gg s.heap l1 l2).objs.size=some _:=Pc _ (Po _ rfl)
 have u3:(Gi b gg s.heap l1 l2).get? (zl2 b gg s.heap l1 l2).objs.size=some _:=Pc _ (Pc _ (Po _ rfl))
 have u2:(Gi b gg s.heap l1 l2).get? (zl1 b s.heap l1).objs.size=some _:=Pc _ (Pc _ (Pc _ (Po _ rfl)))
 have u1:(Gi b gg s.heap l1 l2).get? s.heap.objs.size=some _:=Pc _ (Pc _ (Pc _ (Pc _ (Po _ rfl))))
 show _/\_
 rw [y2,y3,y4] at u5
 rw [y1,y2] at u3
 rw [y3] at u4
 rw [y1] at u2
 rw [y4]
 exact ⟨⟨_,u5,rfl⟩,h _ u5 u3 u4 ⟨_,u1,rfl,rfl⟩ ⟨_,u2,rfl,rfl⟩ y5 fun c o x=>Pc _ (Pc _ (Pc _ (Pc _ (Pc _ x))))⟩
noncomputable def Zbo (H:Hp)(xs ys zs:List V):Prop:=∀(j:Nat)(z:V),zs[j]?=some z->∃(t:Addr)(x y:V),z=V.ref t/\xs[j]?=some x/\ys[j]?=some y/\H t=some (.tup [x,y])
noncomputable def JZp (f gg:Bool)(K:O6)(H0:Hp)(z TI TO i1 i2 a b:Addr)(xs ys:List V):Nat->List V->Hp->Heap->Prop:=fun i zs H h =>
 ZpSt h z TI TO i1 i2 i/\(IsPair h TI (.ref i1) (.ref i2)/\∃ o,h.get? TO=some o)/\ZIt f h i1 a i/\ZIt gg h i2 b i/\(∀ c∈[z,TI,TO,i1,i2],H c=none)/\zs.length=i/\Zbo H xs ys zs/\Same H0 H
theorem Zgk:typeLookup (.type "zip") "__len__" = pure none:=by rw [Tb,Sq];kernel_rfl
theorem Zh5:typeLookup (.type "zip") "__length_hint__" = pure none:=by rw [Tb,Sq];kernel_rfl
theorem Zl7 {f gg:Bool}{X:Cx}{pins:List (Addr×Obj)}{σ:St}{H0:Hp}{z TI TO i1 i2 a b:Addr}{xs ys:List V}(fp:∀ c∈[z,TI,TO,i1,i2],FpOk X pins H0 c)(D:ZB z TI TO i1 i2 a b)(ha:Gb f X.K H0 a xs)(hb:Gb gg X.K H0 b ys) :
  Src X pins σ z "zip" (min xs.length ys.length) H0 (JZp f gg X.K H0 z TI TO i1 i2 a b xs ys) where
 ty:=fun i zs H h j=>by
  obtain ⟨vs,e⟩:=j.1.obj
  exact ⟨_,e,rfl⟩
 nl:=by decide
 hint:=⟨_,fun A s Q E hT h=>Zdb hT Zgk Zh5 h⟩
 self:=fun A s zs H Q E j q=>by
  rcases j.1 with ⟨_,e,_⟩ | ⟨z,_⟩
  ·exact wpAny_pyIter_zip e q
  ·exact absurd z (Qt _)
 keep:=fun i zs H h h' S us us' h0 hS j k al=>by
  obtain ⟨j1,⟨j2,jT⟩,j3,j4,j5,j6,j7,j8⟩:=j
  have ne:∀ c∈[z,TI,TO,i1,i2],c≠S:=fun c hc e=>by
   have:=j5 c hc
   rw [e,hS] at this
   cases this
  refine ⟨?_,⟨k _ _ (ne TI (by simp)) j2,let ⟨o,e⟩:=jT;⟨o,k _ _ (ne TO (by simp)) e⟩⟩,j3.at fun o e=>k _ _ (ne i1 (by simp)) e,j4.at fun o e=>k _ _ (ne i2 (by simp)) e,fun c hc=>by rw [Ai (ne c hc)];exact j5 c hc,j6,fun m y hy=>?_,j8.over h0⟩
  ·rcases j1 with ⟨z0,e,u,v,e2⟩ | ⟨z0,a0,oa,f1,e,ea,x1,x2,x3⟩
   ·exact .inl ⟨z0,k _ _ (ne z (by simp)) e,u,v,k _ _ (ne TO (by simp)) e2⟩
   ·by_cases hs:a0=S
    ·subst hs
     obtain ⟨o,eo⟩:=al
     exact .inr ⟨z0,a0,o,f1,k _ _ (ne z (by simp)) e,eo,x1,x2,x3⟩
    ·exact .inr ⟨z0,a0,oa,f1,k _ _ (ne z (by simp)) e,k _ _ hs ea,x1,x2,x3⟩
  ·obtain ⟨t,x,y',e1,e2,e3,e4⟩:=j7 m y hy
   exact ⟨t,x,y',e1,e2,e3,by rw [Ai (Dr e4 hS (by intro z;cases z))];exact e4⟩
 fresh:=fun i zs H h j=>j.2.2.2.2.1 z (by simp)
 item:=fun A i s H zs E hh hi I j=>by
  obtain ⟨j1,⟨j2,jT⟩,j3,j4,j5,j6,j7,j8⟩:=j
  obtain ⟨its,rv,p⟩:=I.zin (j8.sqZ ha)
  obtain ⟨its2,rv2,p2⟩:=I.zin (j8.sqZ hb)
  have g1:=rv.length
  have g2:=rv2.length
  have l1:i < xs.length:=by omega
  have l2:i < ys.length:=by omega
  have D1:=Mm (prog:=X.prog) (w:=X.w) (A:=A.in1) f hh i1 a D.a1 its.toArray
  have D2:=Mm (prog:=X.prog) (w:=X.w) (A:=A.in1) gg hh i2 b D.b2 its2.toArray
  refine Zm9 D1 D2 D.za j1 j2 jT ⟨j3,p⟩ ⟨j4,p2⟩ (by rw [Pe];omega) (by rw [Pe];omega) fun x y h' tk px py a1 aT a2 a3 a4 a5 a6=>?_
  have hx':its[i]?=some x:=by simpa using px
  have hy':its2[i]?=some y:=by simpa using py
  obtain ⟨u1,hu1,ru1⟩:=rv.get (Pa l1)
  obtain ⟨u2,hu2,ru2⟩:=rv2.get (Pa l2)
  rw [hx'] at hu1
  cases hu1
  rw [hy'] at hu2
  cases hu2
  have hf:H s.heap.objs.size=none:=I.hok.fresh (O9 _)
  have fpH:∀ c∈[z,TI,TO,i1,i2],FpOk X pins H c:=fun c hc=>(fp c hc).of (j5 c hc)
  have kk:∀ c o,c ∉ [z,TI,TO,i1,i2]->s.heap.get? c=some o->h'.get? c=some o:=fun c o hc e=>by
   simp only [Pd,Pj,or_false,not_or] at hc
   exact a6 c o hc.1 hc.2.2.1 hc.2.2.2.1 hc.2.2.2.2 e
  have I2:=I.pairL (tk:=tk) (T:=s.heap.objs.size) (xs:=[xs[i],ys[i]]) (its:=[x,y]) fpH kk (O9 _) (.cons ru1 (.cons ru2 .nil)) (by show 2<=sizeLine;decide) ⟨_,a4,rfl,_,rfl⟩
  have sm:Same H (upd H s.heap.objs.size (.tup [xs[i],ys[i]])):=Same.upd hf
  have lt:∀{c o},s.heap.get? c=some o->c≠s.heap.objs.size:=fun e=>Pn (Pf e)
  have nw:∀ c∈[z,TI,TO,i1,i2],c≠s.heap.objs.size:=fun c hc=>by
   simp only [Pd,Pj,or_false] at hc
   rcases hc with rfl | rfl | rfl | rfl | rfl
   ·obtain ⟨_,e⟩:=j1.obj;exact lt e
   ·exact lt j2
   ·obtain ⟨_,e⟩:=jT;exact lt e
   ·obtain ⟨_,e,_⟩:=j3;exact lt e
   ·obtain ⟨_,e,_⟩:=j4;exact lt e
  refine ⟨_,.ref s.heap.objs.size,_,rfl,rfl,I2,⟨a1,⟨a6 _ _ D.TIz D.TITO D.TI1 D.TI2 j2,aT⟩,a2.1,a3.1,fun c hc=>by rw [Ai (nw c hc)];exact j5 c hc,by simp [j6],fun m y hy=>?_,j8.trans sm⟩,fun S us e=>sm S _ e⟩
  by_cases hm:m < i
  ·rw [Qa (by omega)] at hy
   obtain ⟨t,x,y',e1,e2,e3,e4⟩:=j7 m y hy
   exact ⟨t,x,y',e1,e2,e3,sm _ _ e4⟩
  ·have hlen:=(Pq.mp hy).1
   rw [Pg,Pl] at hlen
   have:m=i:=by omega
   subst this
   rw [P6 (by omega),j6,Rb] at hy
   have hy:V.ref s.heap.objs.size=y:=by simpa using hy
   exact ⟨_,xs[m],ys[m],hy.symm,Pa l1,Pa l2,Ad⟩
 done:=fun A s H zs E hh I j=>by
  obtain ⟨j1,⟨j2,jT⟩,j3,j4,j5,j6,j7,j8⟩:=j
  obtain ⟨its,rv,p⟩:=I.zin (j8.sqZ ha)
  obtain ⟨its2,rv2,p2⟩:=I.zin (j8.sqZ hb)
  have g1:=rv.length
  have g2:=rv2.length
  have D1:=Mm (prog:=X.prog) (w:=X.w) (A:=A.in1) f hh i1 a D.a1 its.toArray
  have D2:=Mm (prog:=X.prog) (w:=X.w) (A:=A.in1) gg hh i2 b D.b2 its2.toArray
  have fpH:∀ c∈[z,TI,TO,i1,i2],FpOk X pins H c:=fun c hc=>(fp c hc).of (j5 c hc)
  refine Zjl D1 D2 D.za j1 j2 ⟨j3,p⟩ ⟨j4,p2⟩ (by simp only [Pe];omega) fun h' tk kk=>⟨rfl,I.turnedL (fun c o hc e=>?_) fpH⟩
  simp only [Pd,Pj,or_false,not_or] at hc
  exact kk c o hc.1 hc.2.2.1 hc.2.2.2.1 hc.2.2.2.2 e
section
variable {X:Cx}
noncomputable def Zf2 (f gg:Bool)(K:O6)(ta:TA):TE:=fun σ H Q=>ta σ H fun vs H1=>∃ a b xs ys,vs=[.ref a,.ref b]/\Gb f K H1 a xs/\Gb gg K H1 b ys /\
 ∀(S:Addr)(zs:List V)(H2:Hp),H1 S=none->Same H1 H2->zs.length=min xs.length ys.length->Zbo H2 xs ys zs->H2 S=some (.lst zs)->Q (.ref S) H2
theorem Zkx (f gg:Bool)(K:O6){e e2:Expr}{ta:TA}{p p2 pos pos2:Pos}(hg:Gl X "list")(hm:X.mg "list" = none)(hg2:Gl X "zip")(hm2:X.mg "zip" = none)(ha:QA X [e,e2] ta)(hK:X.K=K:=by rfl)(hc:X.calm=true:=by rfl)
  (hs:starEach [.Call (.Name "zip" p2) [e,e2] [] pos2] X.env=[(false,eval (.Call (.Name "zip" p2) [e,e2] [] pos2) X.env)]:=by rfl) (hs2:starEach [e,e2] X.env=[(false,eval e X.env),(false,eval e2 X.env)]:=by rfl) (hs3:starEach [e2] X.env=[(false,eval e2 X.env)]:=by rfl) :
  QE X (.Call (.Name "list" p) [.Call (.Name "zip" p2) [e,e2] [] pos2] [] pos) (Zf2 f gg K ta):=by
 subst hK
 refine ⟨fun pins s σ H Q I h=>?_⟩
 refine Call_ (Fm I hg hm Zcp (Rq ?_ hs rfl))
 rw [hs]
 show wpAny _ _ (spliced ((false,eval (.Call (.Name "zip" p2) [e,e2] [] pos2) X.env)::[])) _ _ s
 refine Vq ?_
 refine Call_ (Fm I hg2 hm2 PyProof.Rows.boot_zip (Rq (Ao (ha.run pos2 pins s σ H _ I h) fun us s1 ⟨vs,H1,I1,r1,q1⟩=>?_) (by rw [hs2,hs3]) (by rw [hs3];rfl)))
 obtain ⟨a,b,xs,ys,e1,hq,hq2,q⟩:=q1
 subst e1
 obtain ⟨u,v,rfl,ru,rv⟩:=r1.two
 cases ru
 cases rv
 obtain ⟨its,rv,pl⟩:=I1.zin hq
 obtain ⟨its2,rv2,pl2⟩:=I1.zin hq2
 have hz2:=I1.zsz hq2
 have lt1:a < s1.heap.objs.size:=pl.lt
 have lt2:b < s1.heap.objs.size:=pl2.lt
 refine Zik pl pl2 fun h' a1 a2 a3 a4 a5 a6 hk=>?_
 refine Vu ?_
 have fr:∀ k,FpOk X pins H1 (s1.heap.objs.size+k):=fun k=>I1.fpOk (Uo _ _) (I1.hok.fresh (Uo _ _))
 have fp:∀ c∈[s1.heap.objs.size+4,s1.heap.objs.size+2,s1.heap.objs.size+3,s1.heap.objs.size,s1.heap.objs.size+1],FpOk X pins H1 c:=fun c hc=>by
  simp only [Pd,Pj,or_false] at hc
  rcases hc with rfl | rfl | rfl | rfl | rfl
  ·exact fr 4
  ·exact fr 2
  ·exact fr 3
  ·exact fr 0
  ·exact fr 1
 have C:=Zl7 (X:=X) (pins:=pins) (σ:=σ) (H0:=H1) fp (Zlq lt1 lt2) hq hq2
 have I2:Inv X pins σ H1 { s1 with heap:=h' }:=I1.kept (t':=s1.toks) hk
 refine Zel C (by omega) (I1.ok.hd hc) I2 ⟨.inl ⟨rfl,a1,_,_,a3⟩,⟨a2,_,a3⟩,a4,a5,fun c hc=>(fp c hc).1,rfl,fun j y hy=>by simp at hy,Same.refl _⟩ (fun S hge hS h2 k2=>?_) fun S H' zs hS hS' hl' hj=>?_
 ·have sm:Same H1 (upd H1 S (.lst [])):=Same.upd hS
  refine ⟨.inl ⟨rfl,k2 _ _ a1,_,_,k2 _ _ a3⟩,⟨k2 _ _ a2,_,k2 _ _ a3⟩,a4.at fun o e=>k2 _ _ e,a5.at fun o e=>k2 _ _ e,fun c hc=>?_,rfl,fun j y hy=>by simp at hy,sm⟩
  have hge:h'.objs.size<=S:=hge
  rw [Ai (show c≠S from fun z=>?_)]
  ·exact (fp c hc).1
  ·simp only [Pd,Pj,or_false] at hc
   rcases hc with rfl | rfl | rfl | rfl | rfl <;> exact absurd z (Pn (Pt (by omega) hge))
 ·obtain ⟨h,j⟩:=hj
  exact q S zs H' hS j.2.2.2.2.2.2.2 hl' j.2.2.2.2.2.2.1 hS'
end
section
variable {X:Cx}
end
noncomputable def Ci (P:Program)(w:World):Co:=fun outer H s E ev s'=>∃(e T:Addr)(cls:Value)(od:Option Addr)(H':Hp),ev=.ref e/\s'.os=s.os/\AllBare s'.gens/\Un (Bs outer) [] H H' s.heap s'.heap/\HOk P w H' s'.heap /\
 s.heap.get? e=none/\s.heap.get? T=none/\H' e=none/\H' T=none/\Ft s'.heap e T cls od/\E cls od H'
section
variable {X:Cx}{pins:List (Addr×Obj)}{σ:St}{H:Hp}{s:Shared}
theorem Inv.old (I:Inv X pins σ H s)(hex:X.ex=[]){b:Addr}(h:s.heap.get? b=none):X.s₀.heap.get? b=none:=by
 cases q:X.s₀.heap.get? b with
 | none=>rfl
 | some o =>
  obtain ⟨o',e⟩:=I.base.there b o q (by rw [hex];simp)
  rw [h] at e
  cases e
theorem Inv.mvd (I:Inv X pins σ H s){h':Heap}{xs:List Addr}(m:Mvd (Bs X.stack) xs s.heap h')(hx:∀ b∈xs,X.s₀.heap.get? b=none/\H b=none)(hex:X.ex=[]):Un X.fs [] X.H₀ H X.s₀.heap h'/\HOk X.prog X.w H h':=by
 have low:∀ b o,X.s₀.heap.get? b=some o->b ∉ xs:=fun b o e hb=>by rw [(hx b hb).1] at e;cases e
 have neL:∀ b o,X.s₀.heap.get? b=some o->b≠X.env.locals:=fun b o e=>Pn (Pt (Pf e) I.ok.above)
 have nst:∀ b o,X.s₀.heap.get? b=some o->b ∉ X.fs->b ∉ Bs X.stack:=fun b o e hf hs=>by
  rcases I.ok.stk with z | ⟨z,z2⟩
  ·rw [z] at hs;exact hf hs
  ·rw [z] at hs
   unfold Bs at hs
   rw [Ud,z2] at hs
   rcases Pd.mp hs with q | q
   ·exact neL b o e q
   ·exact hf q
 have B:=I.base
 rw [hex] at B
 refine ⟨⟨fun b o e n hf _=>?_,fun b o e n hf _=>?_,fun b o e n _=>B.free b o e n (by simp),fun b o e _=>?_,B.tups,B.frzs,B.tbls⟩,fun b u e=>?_⟩
 ·exact m.keep b o (low b o e) (nst b o e hf) (B.keep b o e n hf (by simp))
 ·obtain ⟨sl,e1⟩:=B.slot b o e n hf (by simp)
  obtain ⟨sl',e2⟩:=m.slot b _ (low b o e) e1
  exact ⟨sl',e2⟩
 ·obtain ⟨o',e1⟩:=B.there b o e (by simp)
  obtain ⟨sl,e2⟩:=m.slot b o' (low b o e) e1
  exact ⟨_,e2⟩
 ·have tr:∀ c v,H c=some v->c ∉ xs/\c ∉ Bs X.stack:=fun c v q=>⟨(fun z=>by rw [(hx c z).2] at q;cases q),(fun z=>by rw [I.stkFree c z] at q;cases q)⟩
  refine (I.hok b u e).stay (fun c v hc q=>m.keep c v ?_ ?_ q) (fun _ q=>q) fun _ _ q=>q
  ·rcases hc with z | z
   ·rw [z];exact (tr b u e).1
   ·exact (tr c _ z).1
  ·rcases hc with z | z
   ·rw [z];exact (tr b u e).2
   ·exact (tr c _ z).2
end
section
variable {P:Program}{w:World}{K:O6}{mg:Str->Option Value}{base:Heap}{N:List Str}{qual:Str}{scope:Scope}{f:Addr}{cd:Value}{A:Around}{outer:List Env}{s0:Shared}{H0:Hp}{E:XK}
theorem Lb {E':XK}(h:∀ cls od H',E' cls od H'->E cls od H'):Fv (Ci P w) (D8 (Ci P w) P w K mg base N qual scope f cd A outer s0 H0 E) E':=by
 intro pins σ H s ev s' I c
 obtain ⟨e,T,cls,od,H',rfl,h1,h2,h3,h4,h5,h6,h7,h8,h9,h10⟩:=c
 have J:Inv (D8 (Ci P w) P w K mg base N qual scope f cd A outer s0 H0 E) pins σ H' s':=I.call' (ch:=[]) h1 h3 h4 h2 (fun b z=>absurd z (by simp))
 refine Zl3 (base:=base) (outer:=outer) (L:=s0.heap.objs.size) J.ok.frames J.stack rfl h9 fun h' T' hT' y m=>?_
 obtain ⟨u,ok⟩:=J.mvd (h':=h') m (fun b hb=>by
  simp only [Pd,Pj,or_false] at hb
  rcases hb with rfl | rfl | rfl
  ·exact ⟨I.old rfl h5,h7⟩
  ·exact ⟨I.old rfl h6,h8⟩
  ·exact ⟨J.old rfl (Su hT'),J.hok.fresh hT'⟩) rfl
 exact ⟨e,T',cls,od,H',rfl,J.os,J.bare,u,ok,I.old rfl h5,J.old rfl (Su hT'),h7,J.hok.fresh hT',y,h _ _ _ h10⟩
theorem Zow {pins:List (Addr×Obj)}{σ:St}{H:Hp}{s:Shared}{e:Addr}{cls:Value}{od:Option Addr}(I:Inv (D8 (Ci P w) P w K mg base N qual scope f cd A outer s0 H0 E) pins σ H s)(x:Ll s.heap e cls od)(he:s0.heap.get? e=none)(hn:H e=none)(h:E cls od H) :
  (D8 (Ci P w) P w K mg base N qual scope f cd A outer s0 H0 E).xe (.ref e) s:=by
 refine Zl2 (base:=base) (outer:=outer) (L:=s0.heap.objs.size) I.ok.frames I.stack rfl x fun h' T hT y m=>?_
 obtain ⟨u,ok⟩:=I.mvd (h':=h') m (fun b hb=>by
  simp only [Pd,Pj,or_false] at hb
  rcases hb with rfl | rfl
  ·exact ⟨he,hn⟩
  ·exact ⟨I.old rfl (Su hT),I.hok.fresh hT⟩) rfl
 exact ⟨e,T,cls,od,H,rfl,I.os,I.bare,u,ok,he,I.old rfl (Su hT),hn,I.hok.fresh hT,y,h⟩
end
section
variable {P:Program}{w:World}{K:O6}{mg:Str->Option Value}{base:Heap}
theorem Fun.okx {x qual:Str}{st:Stmt}{f:Addr}{fd:FuncData}{N ps:List Str}{k:Nat}{sp:Sp}(F:Fun K x qual st f fd)(S:Bl N ps (A9 st))(len:∀ vs H Q E,sp vs H Q E->vs.length=ps.length)
  (hbody:∀(cdv:Value)(A:Around)(outer:List Env)(s:Shared)(H:Hp)(vs:List V)(Q:VK)(E:XK),Room k (A.deeper (envOfC qual (A9 st) s.heap.objs.size f cdv))->sp vs H Q E ->
   ∃ t,Ep (D8 (Ci P w) P w K mg base N qual (A9 st) f cdv A outer s H E) (E8 st) t/\t { nx:=fun _ H'=>Q .non H',rt:=Q } (E7 N vs) H):Az P w K mg base (Ci P w) (k+1) f fd ps sp:=by
 obtain ⟨oc,od,kV,doc,pm,an,cdv,ct,osl,rfl,lk,hcd⟩:=F.ex
 refine Zfh lk hcd S len fun A outer s H vs Q E hr hsp=>?_
 obtain ⟨t,h,q⟩:=hbody cdv A outer s H vs Q E hr hsp
 exact ⟨t,h.run,q⟩
structure Ma (P:Program)(w:World)(K:O6)(mg:Str->Option Value)(base:Heap)(k:Nat)(x:Str)(ps:List Str)(sp:Sp):Prop where
 ex:∃(f:Addr)(fd:FuncData),Az P w K mg base (Ci P w) k f fd ps sp/\mg x=some (.ref f)/\Q3 K (.ref f)=true/\Binds K fd ps []
theorem Zl6 {k:Nat}{x:Str}{ps:List Str}{sp:Sp}{f:Addr}{fd:FuncData}(F:Az P w K mg base (Ci P w) k f fd ps sp)(m:mg x=some (.ref f))(kp:Q3 K (.ref f)=true)(b:Binds K fd ps []):Ma P w K mg base k x ps sp:=⟨f,fd,F,m,kp,b⟩
end
section
variable {X:Cx}{k:Nat}{x:Str}{ps:List Str}{sp:Sp}{p pos np cpos:Pos}{e:Expr}{es:List Expr}{t:TA}{E:XK}
noncomputable abbrev VE:List Value:=[.type "ValueError",.type "Exception",.type "BaseException",.type "object"]
noncomputable def Zk5 (X:Cx)(E:XK):Prop:=∀(pins:List (Addr×Obj))(σ:St)(H:Hp)(s:Shared)(a:Addr)(cls:Value)(od:Option Addr),Inv X pins σ H s->Ll s.heap a cls od->X.s₀.heap.get? a=none->H a=none->E cls od H->X.xe (.ref a) s
structure Mf (K:O6)(C:Addr):Prop where
 ex:∃ bm dd nm bs ns qn hd sn sub ab col k0 k1 k2 k3 k5,K.lookup C=some (excClassObj nm qn C ns bs bm hd sn sub ab col dd k0 k1 k2 k3 k5 "ValueError.__new__")/\Sb K VE bm=true/\Sc K ns=true/\Pu K ns "__init__" = some none
theorem Zp2 {K:O6}{h0:Heap}{C:Addr}(kin0:K.In h0)(q:Mf K C) :
  ∃ bm N nm q bs hdct sn sub ab col dd k0 k1 k2 k3 k5 mN,mN "__init__" = none/\∀ h:Heap,K.In h->h.get? C=some (excClassObj nm q C N bs bm hdct sn sub ab col dd k0 k1 k2 k3 k5 "ValueError.__new__")/\h.Ns N mN/\OwnTail h VE bm:=by
 obtain ⟨bm,dd,nm,bs,ns,qn,hd,sn,sub,ab,col,k0,k1,k2,k3,k5,ho,ht,hok,hni⟩:=q.ex
 have n0:h0.Ns ns (h0.nsMap ns):=.of_isNs (PySem.W.isNs_of_in kin0 hok)
 refine ⟨bm,ns,nm,qn,bs,hd,sn,sub,ab,col,dd,k0,k1,k2,k3,k5,h0.nsMap ns,PySem.W.nsMap_none_of_in kin0 hok hni,fun h kin=>⟨kin _ _ ho,?_,PySem.W.tail_of_in kin ht⟩⟩
 obtain ⟨o,es,ep,e,r⟩:=n0
 refine ⟨o,es,ep,?_,r⟩
 unfold Sc at hok
 split at hok
 ·rename_i hl
  have:=kin0 _ _ hl
  rw [e] at this
  cases this
  exact kin _ _ hl
 ·cases hok
theorem ObjOk.there {P:Program}{w:World}{H:Hp}{h:Heap}{a:Addr}{o:HO}(x:ObjOk P w H h a o):∃ u,h.get? a=some u:=by
 induction o with
 | lst xs=>obtain ⟨_,_,_,_,e⟩:=x;exact ⟨_,e⟩
 | tup xs=>obtain ⟨_,_,_,o,e,_⟩:=x;exact ⟨_,e⟩
 | dK kvs=>obtain ⟨_,_,vs,_,d⟩:=x;obtain ⟨o,e,_⟩:=V6.mp d;exact ⟨_,e⟩
 | dT kvs=>obtain ⟨_,_,_,_,o,_,_,e,_⟩:=x;exact ⟨_,e⟩
 | set S n=>obtain ⟨o,_,_,_,e,_⟩:=x;exact ⟨_,e⟩
 | ins C dx fs=>obtain ⟨_,_,_,e,_⟩:=x;exact ⟨_,e⟩
 | own y=>exact x
 | xd fs=>obtain ⟨_,⟨o,_,_,e,_⟩,_⟩:=x;exact ⟨_,e⟩
 | met f y=>exact ⟨_,x⟩
 | rng lo hi=>obtain ⟨_,_,_,e⟩:=x;exact ⟨_,e⟩
 | frz o u _=>exact ⟨_,x.1⟩
 | tbl ps=>exact ⟨_,x⟩
 | ext φ=>exact x.2.1
theorem HOk.no {P:Program}{w:World}{H:Hp}{h:Heap}(x:HOk P w H h){a:Addr}(e:h.get? a=none):H a=none:=by
 cases q:H a with
 | none=>rfl
 | some u =>
  have z:=(x a u q).there
  rw [e] at z
  obtain ⟨o,z⟩:=z
  cases z
theorem Zqe {C:Addr}{a:Expr}(hc:X.calm=true)(hC:Mf X.K C)(G:X.mg x=some (.ref C))(ha:QA X [a] t)(hx:Zk5 X E)(hex:X.ex=[])(hg:Gl X x:=by rfl)(hdb:(x == ("__debug__" : Str))=false:=by decide)
  (he:starEach [a] X.env=[(false,eval a X.env)]:=by rfl):QS X (.Raise (some (.Call (.Name x np) [a] [] cpos)) none pos) (fun D σ H=>t σ H fun vs H1=>vs.length<=sizeLine/\E (.ref C) none H1):=by
 refine ⟨fun pins s σ H D I h=>?_⟩
 obtain ⟨bm,N,nm,q,bs,hdct,sn,sub,ab,col,dd,k0,k1,k2,k3,k5,mN,cni,cl⟩:=Zp2 I.kIn hC
 obtain ⟨cC,cN,cT⟩:=cl _ I.kIn
 refine wpAny_Raise_call_subU (C:=C) (nm:=nm) (q:=q) (N:=N) (bs:=bs) (bm:=bm) (hdct:=hdct) (sn:=sn) (sub:=sub) (ab:=ab) (col:=col) (dd:=dd) (k0:=k0) (k1:=k1) (k2:=k2) (k3:=k3) (k5:=k5)
  Vj (by decide) Vj (mN:=mN) (cT.hasType Vj.hasBase) (I.ok.hd hc) (by rw [he];rfl) cni (Im I hg G ⟨rfl,?_⟩ hdb)
 rw [he]
 have ar:=ha.run cpos pins s σ H _ I h
 rw [he] at ar
 refine Calls.evalArgs_plain (Q5 ar (fun us s2 h2=>?_) fun _ _ y=>y)
 obtain ⟨vs,H1,I1,r1,z,q1⟩:=h2
 obtain ⟨cC',cN',cT'⟩:=cl _ I1.kIn
 refine ⟨rfl,by rw [<- r1.length];exact z,cC',cN',cT',fun h' a' hm=>?_⟩
 obtain ⟨t',e1,_,_⟩:=hm.there
 have I2:Inv X pins σ H1 { s2 with heap:=h' }:=I1.kept (t':=s2.toks) hm.keeps
 exact hx pins σ H1 _ a' (.ref C) none I2 ⟨_,_,e1,rfl,rfl,rfl,rfl,rfl⟩ (I1.old hex hm.new) (I1.hok.no hm.new) q1
end
noncomputable def exk (a:Addr)(cls:Value)(od:Option Addr):HO:=.ext fun h=>∃ o vs,h.get? a=some o/\o.cls=cls/\o.dict=od/\o.data=.fields vs/\vs[2]?=some .none
theorem Zqg {P:Program}{w:World}{H:Hp}{h:Heap}{a T:Addr}{cls:Value}{od:Option Addr}(x:Ft h a T cls od):ObjOk P w H h a (exk a cls od):=by
 obtain ⟨oe,vs,oT,ts,a1,a2,a3,a4,a5,a6,a7,a8,a9⟩:=x
 refine ⟨⟨oe,vs,a1,a2,a3,a4,a9.2⟩,⟨oe,a1⟩,fun h1 h2 q k=>?_⟩
 obtain ⟨o,vs,q1,q2⟩:=q
 exact ⟨o,vs,k o q1,q2⟩
theorem Un.land {fs xs:List Addr}{H H':Hp}{h h1 h2:Heap}{e:Addr}{o:HO}(u:Un fs [] H H' h h1)(m:Mvd fs xs h1 h2)(hx:∀ b∈xs,h.get? b=none)(he:h.get? e=none)(hn:H' e=none):Un fs [] H (upd H' e o) h h2:=by
 have low:∀ b ob,h.get? b=some ob->b ∉ xs:=fun b ob q z=>by rw [hx b z] at q;cases q
 have ne:∀ b ob,h.get? b=some ob->b≠e:=fun b ob q z=>by rw [z,he] at q;cases q
 have ne':∀ b ob,H' b=some ob->b≠e:=fun b ob q z=>by rw [z,hn] at q;cases q
 refine ⟨fun b ob q n hf _=>m.keep b ob (low b ob q) hf (u.keep b ob q n hf (by simp)),fun b ob q n hf _=>?_,fun b ob q n _=>?_,fun b ob q _=>?_,fun b ys q=>?_,fun b ob v q=>?_,fun b ps q=>?_⟩
 ·obtain ⟨sl,e1⟩:=u.slot b ob q n hf (by simp)
  obtain ⟨sl',e2⟩:=m.slot b _ (low b ob q) e1
  exact ⟨sl',e2⟩
 ·rw [Ai (ne b ob q)];exact u.free b ob q n (by simp)
 ·obtain ⟨o',e1⟩:=u.there b ob q (by simp)
  obtain ⟨sl,e2⟩:=m.slot b o' (low b ob q) e1
  exact ⟨_,e2⟩
 ·have z:=u.tups b ys q
  rw [Ai (ne' b _ z)];exact z
 ·have z:=u.frzs b ob v q
  rw [Ai (ne' b _ z)];exact z
 ·obtain ⟨more,z⟩:=u.tbls b ps q
  exact ⟨more,by rw [Ai (ne' b _ z)];exact z⟩
theorem HOk.land {P:Program}{w:World}{fs xs:List Addr}{H:Hp}{h1 h2:Heap}{e:Addr}{o:HO}(x:HOk P w H h1)(m:Mvd fs xs h1 h2)(hx:∀ b∈xs,H b=none)(hf:∀ b∈fs,H b=none)(hn:H e=none)(new:ObjOk P w (upd H e o) h2 e o):HOk P w (upd H e o) h2:=by
 intro b u q
 by_cases hb:b=e
 ·subst hb
  rw [Ad] at q
  cases q
  exact new
 ·rw [Ai hb] at q
  have tr:∀ c v,H c=some v->c ∉ xs/\c ∉ fs:=fun c v q=>⟨(fun z=>by rw [hx c z] at q;cases q),(fun z=>by rw [hf c z] at q;cases q)⟩
  have ne':∀ b ob,H b=some ob->b≠e:=fun b ob q z=>by rw [z,hn] at q;cases q
  refine (x b u q).stay (fun c v hc z=>?_) (fun c z=>by rw [Ai (ne' c _ z)];exact z) fun c ys z=>by rw [Ai (ne' c _ z)];exact z
  rcases hc with r | r
  ·rw [r] at z ⊢
   exact m.keep b v (tr b u q).1 (tr b u q).2 z
  ·exact m.keep c v (tr c _ r).1 (tr c _ r).2 z
noncomputable abbrev TX:=St->Hp->VK->XK->Prop
noncomputable abbrev Hr:=D7->(St->XK)->St->Hp->Prop
noncomputable def XP (X:Cx)(pins:List (Addr×Obj))(σ:St)(E:XK)(ev:Value)(s':Shared):Prop:=∃ H0 s0,Inv X pins σ H0 s0/\Ci X.prog X.w X.stack H0 s0 E ev s'
structure QX (X:Cx)(e:Expr)(t:TX):Prop where
 run:∀(pins:List (Addr×Obj))(s:Shared)(σ:St)(H:Hp)(Q:VK)(E:XK),Inv X pins σ H s->t σ H Q E->wpAny (model X.prog X.w) X.A (eval e X.env) (EP X pins σ Q) (XP X pins σ E) s
structure QXS (X:Cx)(sts:List Stmt)(t:Hr):Prop where
 run:∀(pins:List (Addr×Obj))(s:Shared)(σ:St)(H:Hp)(D:D7)(E:St->XK),Inv X pins σ H s->t D E σ H->wpAny (model X.prog X.w) X.A (execs sts X.env) (SP X pins D) (fun ev s'=>∃ σ',XP X pins σ' (E σ') ev s') s
noncomputable abbrev Cx.to (X:Cx)(A:Around)(c:Bool)(XE:Value->Shared->Prop):Cx:={ X with A:=A,calm:=c,xe:=XE }
section
variable {X:Cx}{pins:List (Addr×Obj)}{σ:St}{H:Hp}{s:Shared}
theorem Inv.to (I:Inv X pins σ H s){A:Around}{c:Bool}{XE:Value->Shared->Prop}(hA:A.frames=X.A.frames)(hc:c=true->A.handled=none):Inv (X.to A c XE) pins σ H s :=
 ⟨⟨I.ok.mod,I.ok.kind,I.ok.glob,I.ok.blt,I.ok.above,I.ok.inj,I.ok.has,I.ok.cab,hc,hA.trans I.ok.frames,I.ok.stk,I.ok.exf,I.ok.bs,I.ok.bsz,I.ok.noex,I.ok.exfs,I.ok.funs,I.ok.frf⟩,I.os,I.bare,I.base,I.loc,I.cell,I.free,I.freeC,I.pin,I.hok,I.len⟩
theorem Inv.back {A:Around}{c:Bool}{XE:Value->Shared->Prop}(I:Inv (X.to A c XE) pins σ H s)(ok:X.Ok):Inv X pins σ H s :=
 ⟨ok,I.os,I.bare,I.base,I.loc,I.cell,I.free,I.freeC,I.pin,I.hok,I.len⟩
end
section
variable {X:Cx}{k:Nat}{x:Str}{ps:List Str}{sp:Sp}{p pos np cpos:Pos}{e:Expr}{es:List Expr}{t:TA}
theorem Zif (C:Ma X.prog X.w X.K X.mg X.base k x ps sp)(hr:Room k X.A)(ha:∀ XE,QA (X.to X.A X.calm XE) (e::es) t)(hg:Gl X x:=by rfl)(hdb:(x == ("__debug__" : Str))=false:=by decide)
  (he:starEach (e::es) X.env=(false,eval e X.env)::starEach es X.env:=by rfl) (hpl:(backTo pos (starEach es X.env)).any (·.1)=false:=by rfl):QX X (.Call (.Name x p) (e::es) [] pos) (fun σ H Q E=>t σ H fun vs H1=>sp vs H1 Q E):=by
 obtain ⟨f,fd,F,hm,hk,hb⟩:=C.ex
 refine ⟨fun pins s σ H Q E I h=>?_⟩
 refine Sw (Im I hg hm ?_ hdb)
 refine Uf (h₀:=X.base) I.ok.mod.kin hk (Ao ((ha (XP X pins σ E)).run pos pins s σ H _ (I.to rfl I.ok.hd) h) fun us s1 zq=>?_) he hpl
 obtain ⟨vs,H1,I1,r,q⟩:=zq
 refine ⟨(I1.back I.ok).kIn,?_⟩
 have I1:=I1.back I.ok
 have hl:us.length=ps.length:=by rw [<- r.length];exact F.len _ _ _ _ q
 have hb':=hb s1 us I1.kIn (by simpa using hl)
 rw [Qe] at hb'
 refine wpAny_call (Sh (F.run X.A X.stack s1 H1 ⟨us,[]⟩ us vs Q E hr I1.env0 hb' r q) fun r s' hq=>?_)
 cases r with
 | error e=>exact ⟨H1,s1,I1,hq⟩
 | ok fl =>
  cases fl with
  | ret u=>exact I1.after hq
  | next=>exact P9 hq
  | brk=>exact P9 hq
  | cont=>exact P9 hq
theorem Zjk {i:Nat}{t:TX}{pos':Pos}(hN:X.N.Nodup)(hi:X.N[i]?=some x)(hx:E6 X.env.scope x)(he:QX X e t)(hs:swapsWith e (some (.Name x pos')) pos.line X.env=pure false:=by rfl)(hf:X.fn x=true\/X.env.scope.names.lookup x=some .local:=by first | exact .inl rfl | exact .inr rfl | assumption) :
  QXS X [.Assign [.Name x pos'] e pos] (fun D E σ H=>t σ H (fun v H1=>D.nx (σ.set i (some v)) H1) (E σ)):=by
 refine ⟨fun pins s σ H D E I h=>?_⟩
 refine Vx (Q5 (wpAny_Assign_Name (Q:=SP X pins D) (Ao (he.run pins s σ H _ (E σ) I h) fun v s1 ⟨y,H1,I1,r1,q1⟩=>Ob I1 hN hi hx r1 (fun s2 I2=>⟨_,H1,I2,q1⟩) hf) hs) (fun f s1 q=>?_) fun ev s1 q=>⟨σ,q⟩)
 cases f with
 | next=>exact R9 q
 | ret v=>exact q
 | brk=>exact q
 | cont=>exact q
end
structure Lu (K:O6)(C:Addr):Prop where
 ty:PySem.W.typeIn K (.ref C)=some (.type "type")
 cl:(Sf K C).isSome=true
 bs:Sg K (.ref C) (.type "BaseException")=some true
theorem Zmc {K:O6}{M:Model}{h:Heap}{C:Addr}(X:K.In h)(e:(Sf K C).isSome=true):Te M h (isType (.ref C)) true:=by
 unfold Sf at e
 split at e
 ·rename_i c' d' cd' sl' ho
  intro A' Q' E' s' k q
  unfold isType loadHead
  exact O7 (wpAny_loadPart (k _ _ (X _ _ ho)) (O8 q))
 ·cases e
theorem Zmq {K:O6}{M:Model}{A:Around}{E:Value->Shared->Prop}{s:Shared}{Q:Bool->Shared->Prop}{e C C':Addr}{oe:Obj}(X:K.In s.heap)(c:Lu K C)(he:s.heap.get? e=some oe)(hcls:oe.cls=.ref C')(hs:Sg K (.ref C') (.ref C)=some true)(h:Q true s) :
  wpAny M A (excMatches (.ref e) (.ref C)) Q E s:=by
 have L1:Te M s.heap (typeOf (.ref C)) (.type "type"):=PySem.W.looks_typeIn X c.ty
 have L2:Te M s.heap (isType (.ref C)) true:=Zmc X c.cl
 have L3:=PySem.W.looks_subIn (M:=M) X c.bs
 have L4:Te M s.heap (typeOf (.ref e)) (.ref C'):=by
  intro A' Q' E' s' k q
  unfold typeOf
  exact O7 (wpAny_loadPart (k _ _ he) (O8 (by rw [hcls];exact q)))
 have L5:=PySem.W.looks_subIn (M:=M) X hs
 have f:=tc_notTuple
 unfold excMatches
 unfold isInstance isExcClass
 repeat (first | with_reducible refine L1.here ?_ | with_reducible refine L2.here ?_ | with_reducible refine L3.here ?_ | with_reducible refine L4.here ?_ | with_reducible refine L5.here ?_ | wp_step)
 exact h
section
variable {X:Cx}{pins:List (Addr×Obj)}{σ:St}{H:Hp}{s:Shared}
end
section
variable {X:Cx}{c n:Str}{np hpos pos:Pos}{body hbody:List Stmt}{b₀:Stmt}{tb:Hr}{th:TS}{i:Nat}{C:Addr}
end
section
open PySem.W PySem.Builtin PySem.Builtin.ObjectAttr
variable {prog:Program}{w:World}{A:Around}{E:Value->Shared->Prop}{s:Shared}{K:Frag}{x C:Addr}{ox:Obj}{od:Option Obj}{name:Str}{R:Result->Shared->Prop}
end
section
variable {X:Cx}{pins:List (Addr×Obj)}{σ:St}{H:Hp}{s:Shared}
end
section
variable {X:Cx}{pins:List (Addr×Obj)}{σ:St}{H:Hp}{s:Shared}{a C:Addr}{f:Str}{A:Around}{E:Value->Shared->Prop}
open PySem.W PySem.Builtin PySem.Builtin.ObjectAttr
end
section
variable {X:Cx}{o e value:Expr}{f:Str}{pos pos':Pos}{ta tv:TE}
end
section
open PySem.W
end
section
variable {prog:Program}{w:World}{A:Around}{E:Value->Shared->Prop}{h:Heap}{g:Array GenState}{d:Drawn}{t:Nat}{os:OsState}
variable {nm q:Str}{C N:Addr}{bs bm bmB:List Value}{hdct:Bool}{sn:List Str}{sub:List Value}{ab:Bool}{col:Option Bool}{dd:Option Addr}{k0 k1 k2 k3 k5:Option Value}{B Bn newId nid initId inN:String}{bmN:List Value}
end
section
variable {X:Cx}{k:Nat}{x:Str}{sp:Sp}{ps:List Str}{C f:Addr}{fd:FuncData}{np cpos pos:Pos}{a:Expr}{t:TA}{E:XK}
end
section
variable {P:Program}{w:World}{K:O6}{mg:Str->Option Value}{base:Heap}
end
section
variable {X:Cx}{k:Nat}{x:Str}{ps:List Str}{sp:Sp}{p pos:Pos}{e:Expr}{es:List Expr}{t:TA}
end
section
open PySem.W PySem.Builtin PySem.Builtin.ObjectAttr
variable {prog:Program}{w:World}{A:Around}{E:Value->Shared->Prop}{s:Shared}{K:Frag}{x D:Addr}{ox:Obj}{od:Option Obj}
end
section
variable {X:Cx}{pins:List (Addr×Obj)}{σ:St}{H:Hp}{s:Shared}{a C':Addr}{od:Option Addr}
end
section
variable {X:Cx}
end
end L2
namespace L2
open PySem
inductive Eg:Dt->Prop where
 | flat (v:V):Eg (.flat v)
 | tup {ds:List Dt} (l:ds.length<=5000) (h:∀ d∈ds,Eg d):Eg (.tup ds)
 | lst {ds:List Dt} (l:ds.length<=5000) (h:∀ d∈ds,Eg d):Eg (.lst ds)
noncomputable def SameA (A:Addr->Prop)(H H':Hp):Prop:=SameT H H'/\∀ b xs,¬ A b->H b=some (.lst xs)->H' b=some (.lst xs)
theorem Same.a {A:Addr->Prop}{H H':Hp}(e:Same H H'):SameA A H H':=⟨e.t,fun b xs _ h=>e b _ h⟩
theorem SameA.trans {A:Addr->Prop}{H H1 H2:Hp}(a:SameA A H H1)(b:SameA A H1 H2):SameA A H H2:=⟨a.1.trans b.1,fun c xs n h=>b.2 c xs n (a.2 c xs n h)⟩
theorem SameA.set {A:Addr->Prop}{H:Hp}{S:Addr}{zs:List V}{o:HO}(h:H S=some (.lst zs))(hA:A S):SameA A H (upd H S o):=⟨SameT.set h,fun b xs n e=>by rw [Ai (fun z=>n (by rw [z];exact hA))];exact e⟩
theorem SameA.mono {A B:Addr->Prop}{H H':Hp}(e:SameA A H H')(h:∀ b,A b->B b):SameA B H H':=⟨e.1,fun b xs n=>e.2 b xs fun a=>n (h b a)⟩
noncomputable def ThAt (K:O6)(H:Hp)(v:V)(x:Str×V):Prop:=Cy x.2=true/\∃ a,v=.ref a/\SqT K H a [.str x.1,x.2]
theorem ThAt.same {K:O6}{H H':Hp}(e:SameT H H')(v:V)(x:Str×V)(h:ThAt K H v x):ThAt K H' v x:=by
 obtain ⟨f,a,r,q⟩:=h
 exact ⟨f,a,r,e.tup q⟩
noncomputable def PrAt (K:O6)(H:Hp)(v:V)(x:Str×Str×V):Prop:=∃(a:Addr)(u:V),v=.ref a/\SqT K H a [.str x.1,u]/\ThAt K H u x.2
theorem PrAt.same {K:O6}{H H':Hp}(e:SameT H H')(v:V)(x:Str×Str×V)(h:PrAt K H v x):PrAt K H' v x:=by
 obtain ⟨a,u,r,q,t⟩:=h
 exact ⟨a,u,r,e.tup q,t.same e⟩
structure Rx where
 wd:Str
 pl:List Int
 ops:List (Str×V)
 ar:List (Str×Str×V)
noncomputable def RwAt (K:O6)(A:Addr->Prop)(H:Hp)(v:V)(x:Rx):Prop:=∃(a p o e:Addr)(ov ev:List V),v=.ref a/\SqT K H a [.str x.wd,.ref p,.ref o,.ref e]/\SqT K H p (x.pl.map V.int)/\H o=some (.lst ov)/\Al (ThAt K H) ov x.ops/\H e=some (.lst ev)/\Al (PrAt K H) ev x.ar/\¬ A o/\¬ A e
theorem RwAt.same {K:O6}{A:Addr->Prop}{H H':Hp}(s:SameA A H H')(v:V)(x:Rx)(h:RwAt K A H v x):RwAt K A H' v x:=by
 obtain ⟨a,p,o,e,ov,ev,h1,h2,h3,h4,h5,h6,h7,h8,h9⟩:=h
 exact ⟨a,p,o,e,ov,ev,h1,s.1.tup h2,s.1.tup h3,s.2 _ _ h8 h4,h5.mono (ThAt.same s.1),s.2 _ _ h9 h6,h7.mono (PrAt.same s.1),h8,h9⟩
theorem RwAt.mono {K:O6}{A B:Addr->Prop}{H:Hp}(s:∀ b,B b->H b≠none->A b)(v:V)(x:Rx)(h:RwAt K A H v x):RwAt K B H v x:=by
 obtain ⟨a,p,o,e,ov,ev,h1,h2,h3,h4,h5,h6,h7,h8,h9⟩:=h
 exact ⟨a,p,o,e,ov,ev,h1,h2,h3,h4,h5,h6,h7,fun b=>h8 (s o b (by rw [h4];simp)),fun b=>h9 (s e b (by rw [h6];simp))⟩
noncomputable def Je (x:Str×V):Dt:=.tup [.flat (.str x.1),.flat x.2]
noncomputable def prD (x:Str×Str×V):Dt:=.tup [.flat (.str x.1),Je x.2]
noncomputable def rzD (x:Rx):Dt:=.tup [.flat (.str x.wd),.tup (x.pl.map fun i=>.flat (.int i)),.lst (x.ops.map Je),.lst (x.ar.map prD)]
theorem ThAt.d {K:O6}{H:Hp}{v:V}{x:Str×V}(h:ThAt K H v x):IsD K H 1 v (Je x):=by
 obtain ⟨f,a,rfl,q⟩:=h
 refine .tup q rfl fun j v d h1 h2=>?_
 match j,h1,h2 with
 | 0,h1,h2=>cases h1;cases h2;exact .flat rfl
 | 1,h1,h2=>cases h1;cases h2;exact .flat f
theorem PrAt.d {K:O6}{H:Hp}{v:V}{x:Str×Str×V}(h:PrAt K H v x):IsD K H 2 v (prD x):=by
 obtain ⟨a,u,rfl,q,t⟩:=h
 refine .tup q rfl fun j v d h1 h2=>?_
 match j,h1,h2 with
 | 0,h1,h2=>cases h1;cases h2;exact .flat rfl
 | 1,h1,h2=>cases h1;cases h2;exact t.d
theorem Al.lstD {K:O6}{H:Hp}{α:Type}{R:V->α->Prop}{g:α->Dt}{n:Nat}{a:Addr}{vs:List V}{xs:List α}(al:Al R vs xs)(e:SqL K H a vs)(h:∀ v x,R v x->IsD K H n v (g x)):IsD K H (n+1) (.ref a) (.lst (xs.map g)):=by
 refine .lst e (by rw [Ph];exact al.1) fun j v d h1 h2=>?_
 rw [Ql] at h2
 obtain ⟨r,hr,rfl⟩:=Q7.mp h2
 exact h v r (al.2 j v r h1 hr)
theorem Zk8 {K:O6}{H:Hp}{n:Nat}{p:Addr}{pl:List Int}(q:SqT K H p (pl.map V.int)):IsD K H (n+1) (.ref p) (.tup (pl.map fun i=>.flat (.int i))):=by
 refine .tup q (by simp) fun j v d h1 h2=>?_
 rw [Ql] at h1 h2
 obtain ⟨k,hk,rfl⟩:=Q7.mp h1
 rw [hk] at h2
 cases h2
 exact .flat rfl
theorem RwAt.d {K:O6}{A:Addr->Prop}{H:Hp}{v:V}{x:Rx}(h:RwAt K A H v x):IsD K H 4 v (rzD x):=by
 obtain ⟨a,p,o,e,ov,ev,rfl,h2,h3,h4,h5,h6,h7,_,_⟩:=h
 refine .tup h2 rfl fun j v d f1 f2=>?_
 match j,f1,f2 with
 | 0,h1,h2=>cases h1;cases h2;exact .flat rfl
 | 1,h1,h2=>cases h1;cases h2;exact Zk8 h3
 | 2,h1,h2=>cases h1;cases h2;exact (h5.lstD (g:=Je) (SqL.of h4) fun _ _ t=>t.d).up (by omega)
 | 3,h1,h2=>cases h1;cases h2;exact h7.lstD (g:=prD) (SqL.of h6) fun _ _ t=>t.d
theorem Zbg (x:Str×V):Eg (Je x):=.tup (by show 2<=5000;omega) fun d h=>by
 simp only [Pd,Pj,or_false] at h
 rcases h with rfl | rfl
 ·exact .flat _
 ·exact .flat _
theorem Zq2 (x:Str×Str×V):Eg (prD x):=.tup (by show 2<=5000;omega) fun d h=>by
 simp only [Pd,Pj,or_false] at h
 rcases h with rfl | rfl
 ·exact .flat _
 ·exact Zbg _
theorem Nr {α:Type}{g:α->Dt}{xs:List α}(l:xs.length<=5000)(h:∀ x∈xs,Eg (g x)):Eg (.lst (xs.map g)):=.lst (by rw [Ph];exact l) fun d hd=>by
 obtain ⟨x,hx,rfl⟩:=Vc.mp hd
 exact h x hx
structure Rx.Ok (x:Rx):Prop where
 pl:x.pl.length<=5000
 ops:x.ops.length<=5000
 ar:x.ar.length<=5000
theorem Zmz {x:Rx}(h:x.Ok):Eg (rzD x):=.tup (by show 4<=5000;omega) fun d hd=>by
 simp only [Pd,Pj,or_false] at hd
 rcases hd with rfl | rfl | rfl | rfl
 ·exact .flat _
 ·refine .tup (by rw [Ph];exact h.pl) fun d hd=>?_
  obtain ⟨x,hx,rfl⟩:=Vc.mp hd
  exact .flat _
 ·exact Nr h.ops fun x _=>Zbg x
 ·exact Nr h.ar fun x _=>Zq2 x
section
variable {g:TG}{tt:TT}{te:TE}{σ0:St}{H1:Hp}{D:Addr}{Q:VK}
end
end L2
namespace L2
open PySem PySem.Spec PyProof.Rows
section
variable {X:Cx}
end
section
variable {prog:Program}{w:World}{A:Around}{E:Value->Shared->Prop}{s:Shared}
end
section
variable {X:Cx}
end
section
variable {g:TG}{tt:TT}{te:TE}{σ0:St}{H1:Hp}{D:Addr}{Q:VK}
end
theorem via {t:TS}{X:St->Hp->Prop}{rt:VK}{bk ct:St->Hp->Prop}{σ:St}{H:Hp}(R:Hp->Prop)(h2:∀ H',R H'->X σ H')(h1:∀ Y:St->Hp->Prop,(∀ H',R H'->Y σ H')->t ⟨Y,rt,bk,ct⟩ σ H):t ⟨X,rt,bk,ct⟩ σ H:=h1 X h2
section
variable {X:Cx}
open PySem.Builtin PySem.Builtin.Str in
noncomputable def Zg4 (z:Str):Value->Bool
 | .str a _=>a == z
 | _=>false
theorem Zec:∀{ws:List Str}{us:List Value}{j:Nat}{u:Value},Vals (ws.map V.str) us->us[j]?=some u->∃ a t,u=.str a t/\ws[j]?=some a
 | [],_,j,u,.nil,h=>by simp at h
 | a::r,_,0,u,.cons ra _,h=>by
  obtain ⟨t,rfl⟩:=ra
  have h:u=.str a t:=by simpa using h.symm
  exact ⟨a,t,h,rfl⟩
 | a::r,_,j+1,u,.cons _ rr,h=>by
  obtain ⟨b,t,e1,e2⟩:=Zec (j:=j) rr (by simpa using h)
  exact ⟨b,t,e1,by simpa using e2⟩
noncomputable def Zma (K:O6):V->List V->Hp->VK->Prop:=fun x vs H Q=>∃(l:Addr)(z:Str)(ws:List Str)(j:Nat),x=.ref l/\vs=[.str z]/\SqL K H l (ws.map V.str)/\ws[j]?=some z/\(∀ m < j,ws[m]?≠some z)/\ws.length<=1000/\Q (.int (j:Nat)) H
theorem Zm3 (K:O6)(hK:X.K=K:=by rfl):Gr X "list.index" (Zma K):=by
 subst hK
 intro pins s σ H x vs v us Q I rx rv h
 obtain ⟨l,z,ws,j,rfl,rfl,hl,hj,hno,hz,q⟩:=h
 cases rx
 obtain ⟨u,rfl,ru⟩:=rv.one
 obtain ⟨t,rfl⟩:=ru
 obtain ⟨its,r,p,_⟩:=I.list hl
 have hlen:=r.length
 rw [Ph] at hlen
 have hjl:=(Pq.mp hj).1
 obtain ⟨⟨cls,dd,data,sl⟩,ho,hc,n,hd⟩:=id p.isList
 simp only at hc hd
 subst hc hd
 have at':∀ m (hm:m < its.toArray.size),∃ a t,its.toArray[m]=.str a t/\ws[m]?=some a:=fun m hm=>by
  have hm':m < its.length:=by simpa using hm
  have:=Zec r (Pa hm')
  simpa using this
 refine R0 PySem.F.slot_list_index ⟨_,ho,rfl⟩ PySem.F.entry_list_index (PySem.F.args_list_index_2 _ _) (SeqAt.list_indexAt l its.toArray n dd sl (.str z t) (Zg4 z) j (by rw [Pe];omega) (by omega) ?_ ?_) ⟨ho,fun y hy=>?_,?_⟩
 ·obtain ⟨a,t',e1,e2⟩:=at' j (by rw [Pe];omega)
  rw [hj] at e2
  cases e2
  rw [e1]
  show (z == z)=true
  simp
 ·intro m hm hmj
  obtain ⟨a,t',e1,e2⟩:=at' m hm
  rw [e1]
  show (a == z)=false
  have:a≠z:=fun e=>hno m hmj (by rw [e2,e])
  simpa using this
 ·obtain ⟨m,hm,rfl⟩:=Array.mem_iff_getElem.mp hy
  obtain ⟨a,t',e1,e2⟩:=at' m hm
  rw [e1]
  exact Ps.str_str a t' z t
 ·exact ⟨.int (j:Nat),H,I.tok _,⟨_,rfl⟩,q⟩
end
section
variable {prog:Program}{w:World}{A:Around}{E:Value->Shared->Prop}{s:Shared}
end
section
variable {X:Cx}
end
section
variable {X:Cx}{k:Nat}{x:Str}{ps:List Str}{sp:Sp}{p pos:Pos}
end
structure Da (CX:Co)(P:Program)(w:World)(K:O6)(mg:Str->Option Value)(base:Heap)(k:Nat)(C:Addr)(m:Str)(ps:List Str)(sp:Sp):Prop where
 ex:∃(g:Addr)(fd:FuncData),Az P w K mg base CX k g fd ps sp/\Cls K C/\Meth K C m g/\Binds K fd ps []
structure Nc (CX:Co)(P:Program)(w:World)(K:O6)(mg:Str->Option Value)(base:Heap)(k:Nat)(x:Str)(C:Addr)(ps:List Str)(sp:Sp):Prop where
 ex:∃(f:Addr)(fd:FuncData),Az P w K mg base CX k f fd ps sp/\Mk K C f/\mg x=some (.ref C)/\Binds K fd ps []
noncomputable def Zei (CX:Co)(P:Program)(w:World)(K:O6)(mg:Str->Option Value)(base:Heap)(k:Nat)(m:Str)(ps:List Str)(E:XK)(ta:TE)(t:TA):TE:=fun σ H Q=>ta σ H fun x H1=>∃ a C dx fs sp,x=.ref a/\H1 a=some (.ins C dx fs)/\fs.lookup m=none/\Da CX P w K mg base k C m ps sp /\
 t σ H1 fun vs H2=>sp (.ref a::vs) H2 Q E
noncomputable def tNew (C:Addr)(sp:Sp)(E:XK)(t:TA):TE:=fun σ H Q=>t σ H fun vs H1=>∀ x dx,H1 x=none->H1 dx=none->dx≠x->sp (.ref x::vs) (upd (upd H1 dx (.own x)) x (.ins C dx [])) (fun v H2=>v=.non/\Q (.ref x) H2) E
section
variable {X:Cx}{k:Nat}{x m:Str}{ps:List Str}{sp:Sp}{E:XK}{C:Addr}{p pos apos:Pos}{e o:Expr}{es:List Expr}{ta:TE}{t:TA}{CX:Co}{P:Program}{w:World}{mg:Str->Option Value}{base:Heap}
theorem Dj (K:O6)(CX:Co)(ps:List Str){pl:Sem Bool}(he:QE X o ta)(hr:Room k X.A)(hx:Fv CX X E)(ha:QA X (e::es) t)(hP:X.prog=P:=by rfl)(hw:X.w=w:=by rfl)(hK:X.K=K:=by rfl)(hmg:X.mg=mg:=by rfl)(hbs:X.base=base:=by rfl)
  (hst:starEach (e::es) X.env=(false,eval e X.env)::starEach es X.env:=by rfl) (hpl:(backTo pos (starEach es X.env)).any (·.1)=false:=by rfl)
  (ht:eval (.Call (.Attribute o m apos) (e::es) [] pos) X.env=(do
   let ov <- eval o X.env
   standAt apos.atName
   let (f,first) <- holding [ov] (getMethod ov m pl)
   callWith pos f first (backTo pos (starEach (e::es) X.env)) (backToKw pos (keywordEach [] X.env))):=by rfl) :
  QE X (.Call (.Attribute o m apos) (e::es) [] pos) (Zei CX P w K mg base k m ps E ta t):=by
 subst hP hw hK hmg hbs
 refine ⟨fun pins s σ H Q I h=>?_⟩
 refine PySem.W.methodCall_KW (pl:=pl) (Ao (he.run pins s σ H _ I h) fun u s1 zq=>?_) ht
 obtain ⟨x,H1,I1,rx,a,C,dx,fs,sp,ex,ea,l,M,q⟩:=zq
 obtain ⟨g,fd,F,c,hm,hb⟩:=M.ex
 subst ex
 obtain rfl:u=Value.ref a:=rx
 refine Zee I1 ea c hm l ?_
 refine Uf (first:=[.ref a]) (h₀:=X.base) I.ok.mod.kin hm.kp (Ao (ha.run pos pins s1 σ H1 _ I1 q) fun us s2 zq=>?_) hst hpl
 obtain ⟨vs,H2,I2,r,q2⟩:=zq
 refine ⟨I2.kIn,?_⟩
 exact Zby (us:=.ref a::us) (vs:=.ref a::vs) (dvs:=[]) F hr hb .nil hx I2 (.cons rfl r) (by rw [Qe];exact q2)
theorem Zgz (M:Nc CX X.prog X.w X.K X.mg X.base k x C ps sp)(hr:Room (k+1) X.A)(hx:Fv CX X E)(ha:QA X (e::es) t)(hg:Gl X x:=by rfl)(hdb:(x == ("__debug__" : Str))=false:=by decide)
  (he:starEach (e::es) X.env=(false,eval e X.env)::starEach es X.env:=by rfl) (hpl:(backTo pos (starEach es X.env)).any (·.1)=false:=by rfl):QE X (.Call (.Name x p) (e::es) [] pos) (tNew C sp E t):=by
 obtain ⟨f,fd,F,mk,hm,hb⟩:=M.ex
 refine ⟨fun pins s σ H Q I h=>?_⟩
 refine Sw (Im I hg hm ?_ hdb)
 refine Uf (h₀:=X.base) I.ok.mod.kin mk.kp (Ao (ha.run pos pins s σ H _ I h) fun us s1 zq=>?_) he hpl
 obtain ⟨vs,H1,I1,r,q⟩:=zq
 refine ⟨I1.kIn,?_⟩
 exact Zrf (dvs:=[]) mk F hr hb .nil hx I1 r (fun x dx h1 h2 h3=>by rw [Qe];exact q x dx h1 h2 h3)
end
section
variable {X:Cx}{e o value:Expr}{f:Str}{pos pos':Pos}{ta tv:TE}{pins:List (Addr×Obj)}{σ:St}{H:Hp}{s:Shared}
theorem Cb (K:O6)(he:QE X e ta)(hb:attributeBase e f X.env (eval e X.env)=eval e X.env:=by rfl)(hK:X.K=K:=by rfl):QE X (.Attribute e f pos) (Ol K ta f):=by subst hK;exact Zk4 he hb
theorem Iz (K:O6)(ha:QE X o ta)(hv:QE X value tv)(hs:swapsWith value (some (.Attribute o f pos')) pos.line X.env=pure false:=by rfl)(hK:X.K=K:=by rfl):QS X (.Assign [.Attribute o f pos'] value pos) (Ly K ta tv f):=by subst hK;exact Zke ha hv hs
end
section
variable {X:Cx}{pins:List (Addr×Obj)}{σ:St}{H:Hp}{s:Shared}
end
section
variable {P:Program}{w:World}{K:O6}{mg:Str->Option Value}{base:Heap}
end
section
variable {X:Cx}{k:Nat}{x:Str}{ps ks:List Str}{gV:List V->List V->List V}{sp:Sp}{E:XK}{C:Addr}{p pos kpos:Pos}{e:Expr}{es:List Expr}{kws:List Keyword}{te:TE}{t tk:TA}{CX:Co}{nm:Option Str}{f:Addr}{fd:FuncData}{g:List Value->List Value->List Value}
end
section
variable {X:Cx}{pins:List (Addr×Obj)}{σ:St}{H:Hp}{s:Shared}
end
section
variable {κ:Type}[DecidableEq κ]
noncomputable def B4 (kvs:List (κ×V))(k:κ):Option V:=(kvs.find? fun kv=>decide (kv.1=k)).map (·.2)
noncomputable def C5 (kvs:List (κ×V))(k:κ)(v:V):List (κ×V) :=
 if (kvs.any fun kv=>decide (kv.1=k))=true then kvs.map (fun kv=>if kv.1=k then (kv.1,v) else kv) else kvs++[(k,v)]
theorem Eu {p:κ×V}{r:List (κ×V)}{k:κ}(e:p.1=k):B4 (p::r) k=some p.2:=by simp [B4,Qv,e]
theorem Ey {p:κ×V}{r:List (κ×V)}{k:κ}(e:¬ p.1=k):B4 (p::r) k=B4 r k:=by simp [B4,Qv,e]
theorem Mi (k:κ):∀ kvs:List (κ×V),(kvs.any fun kv=>decide (kv.1=k))=(B4 kvs k).isSome
 | []=>rfl
 | p::r=>by
  rw [Tg]
  by_cases e:p.1=k
  ·simp only [Eu e,decide_eq_true e,Bool.true_or,Option.isSome_some]
  ·rw [Ey e,decide_eq_false e,Bool.false_or];exact Mi k r
theorem Zf4 (k j:κ)(y:V):∀ kvs:List (κ×V),B4 (kvs.map fun kv=>if kv.1=k then (kv.1,y) else kv) j=(B4 kvs j).map fun x=>if j=k then y else x
 | []=>rfl
 | p::r=>by
  have ih:=Zf4 k j y r
  rw [Qb]
  by_cases h:p.1=k
  ·rw [if_pos h]
   by_cases e:p.1=j
   ·rw [Eu (p:=(p.1,y)) e,Eu e,Qw,if_pos (e.symm.trans h)]
   ·rw [Ey (p:=(p.1,y)) e,Ey e,ih]
  ·rw [if_neg h]
   by_cases e:p.1=j
   ·rw [Eu (p:=p) e,Eu e,Qw,if_neg (fun z=>h (e.trans z))]
   ·rw [Ey (p:=p) e,Ey e,ih]
theorem Zce (k j:κ)(y:V):∀ kvs:List (κ×V),B4 kvs k=none->B4 (kvs++[(k,y)]) j=if j=k then some y else B4 kvs j
 | [],_=>by
  by_cases e:k=j
  ·rw [if_pos e.symm];exact Eu (p:=(k,y)) e
  ·rw [if_neg (fun z=>e z.symm)];exact Ey (p:=(k,y)) e
 | p::r,hn=>by
  rw [V0]
  have hk:¬ p.1=k:=fun z=>by rw [Eu z] at hn;cases hn
  rw [Ey hk] at hn
  have ih:=Zce k j y r hn
  by_cases e:p.1=j
  ·rw [Eu e,Eu e,if_neg (fun z=>hk (e.trans z))]
  ·rw [Ey e,Ey e,ih]
theorem Zhc (kvs:List (κ×V))(k j:κ)(y:V):B4 (C5 kvs k y) j=if j=k then some y else B4 kvs j:=by
 unfold C5
 by_cases a:(kvs.any fun kv=>decide (kv.1=k))=true
 ·rw [if_pos a,Zf4]
  rw [Mi] at a
  by_cases e:j=k
  ·obtain ⟨x,hx⟩:=R5.mp a
   rw [if_pos e,e,hx,Qw,if_pos rfl]
  ·rw [if_neg e]
   cases B4 kvs j with
   | none=>rfl
   | some x=>rw [Qw,if_neg e]
 ·rw [if_neg a]
  refine Zce k j y kvs ?_
  rw [Mi] at a
  cases q:B4 kvs k with
  | none=>rfl
  | some x=>rw [q] at a;exact (a rfl).elim
theorem Ni (kvs:List (κ×V))(k:κ)(v:V):(C5 kvs k v).length<=kvs.length+1:=by
 unfold C5
 split
 ·rw [Ph];omega
 ·rw [Pg,Qn,Uv];omega
theorem RelO.isSome_eq {o:Option V}{u:Option Value}(r:RelO o u):o.isSome=u.isSome:=by
 cases o with
 | none=>cases u with
  | none=>rfl
  | some _=>exact (show False from r).elim
 | some _=>cases u with
  | none=>exact (show False from r).elim
  | some _=>rfl
theorem KV.val {kvs:List (κ×V)}{vs:List (κ×Value)}(r:KV kvs vs)(k:κ):RelO (B4 kvs k) (valueAt vs k):=by
 unfold KV at r
 induction r with
 | nil=>exact True.intro
 | @cons p q ps qs h t ih =>
  obtain ⟨h1,h2⟩:=h
  by_cases e:p.1=k
  ·have e':q.1=k:=h1.symm.trans e
   have b:valueAt (q::qs) k=some q.2:=by simp [valueAt,Qv,e']
   rw [Eu e,b];exact h2
  ·have e':¬ q.1=k:=fun z=>e (h1.trans z)
   have b:valueAt (q::qs) k=valueAt qs k:=by simp [valueAt,Qv,e']
   rw [Ey e,b];exact ih
theorem KV.any {kvs:List (κ×V)}{vs:List (κ×Value)}(r:KV kvs vs)(k:κ):(kvs.any fun kv=>decide (kv.1=k))=vs.any fun kv=>decide (kv.1=k):=by
 unfold KV at r
 induction r with
 | nil=>rfl
 | cons h t ih=>rw [Tg,Tg,ih,h.1]
theorem KV.repl {kvs:List (κ×V)}{vs:List (κ×Value)}(r:KV kvs vs)(k:κ){y:V}{u:Value}(ry:RelV y u) :
  KV (kvs.map fun kv=>if kv.1=k then (kv.1,y) else kv) (vs.map fun kv=>if kv.1=k then (kv.1,u) else kv):=by
 unfold KV at r ⊢
 induction r with
 | nil=>exact .nil
 | @cons p q ps qs h t ih =>
  rw [Qb,Qb]
  refine .cons ?_ ih
  obtain ⟨h1,h2⟩:=h
  by_cases e:p.1=k
  ·rw [if_pos e,if_pos (h1.symm.trans e)];exact ⟨h1,ry⟩
  ·rw [if_neg e,if_neg (fun z=>e (h1.trans z))];exact ⟨h1,h2⟩
theorem KV.put {kvs:List (κ×V)}{vs:List (κ×Value)}(r:KV kvs vs)(k:κ){y:V}{u:Value}(ry:RelV y u):KV (C5 kvs k y) (stored vs k u):=by
 unfold C5 stored
 rw [r.any k]
 by_cases e:(vs.any fun kv=>decide (kv.1=k))=true
 ·rw [if_pos e,if_pos e];exact r.repl k ry
 ·rw [if_neg e,if_neg e];exact Paired.snoc r ⟨rfl,ry⟩
theorem KV.length {kvs:List (κ×V)}{vs:List (κ×Value)}(r:KV kvs vs):kvs.length=vs.length:=Uy r
end
theorem Ld {P:Program}{w:World}{k:Aq}{u:Value}(r:RelV (kV k) u):(Dq P w).is k u=true:=by
 cases k with
 | inl i=>obtain ⟨t,e⟩:=(show ∃ t,u=Value.int i t from r);subst e;exact Zg1 P w i t
 | inr x=>obtain ⟨t,e⟩:=(show ∃ t,u=Value.str x t from r);subst e;exact Zon P w x t
theorem Zea {P:Program}{w:World}:∀{ks:List Aq}{us:List Value},Vals (ks.map kV) us->ItemsAre (Dq P w) ks us
 | [],_,r=>by rw [Ro] at r;cases r;exact .nil
 | k::ks,_,r=>by
  rw [Qb] at r
  cases r with
  | cons h t=>exact .cons (Ld h) (Zea t)
noncomputable abbrev KT (H:Hp):List (List Aq×V)->List (List Aq×Addr×Value)->Prop:=Paired fun p q=>p.1=q.1/\H q.2.1=some (.tup (p.1.map kV))/\RelV p.2 q.2.2
theorem KT.val {H:Hp}{kvs:List (List Aq×V)}{xs:List (List Aq×Addr×Value)}(r:KT H kvs xs)(k:List Aq):RelO (B4 kvs k) ((atKey xs k).map (·.2)):=by
 induction r with
 | nil=>exact True.intro
 | @cons p q ps qs h t ih =>
  obtain ⟨h1,_,h2⟩:=h
  by_cases e:p.1=k
  ·have e':q.1=k:=h1.symm.trans e
   have b:atKey (q::qs) k=some q.2:=by simp [atKey,Qv,e']
   rw [Eu e,b];exact h2
  ·have e':¬ q.1=k:=fun z=>e (h1.trans z)
   have b:atKey (q::qs) k=atKey qs k:=by simp [atKey,Qv,e']
   rw [Ey e,b];exact ih
theorem KT.repl {H:Hp}{kvs:List (List Aq×V)}{xs:List (List Aq×Addr×Value)}(r:KT H kvs xs)(k:List Aq){y:V}{u:Value}(ry:RelV y u) :
  KT H (kvs.map fun kv=>if kv.1=k then (kv.1,y) else kv) (xs.map (putAt k u)):=by
 induction r with
 | nil=>exact .nil
 | @cons p q ps qs h t ih =>
  rw [Qb,Qb]
  refine .cons ?_ ih
  obtain ⟨h1,h2,h3⟩:=h
  unfold putAt
  by_cases e:p.1=k
  ·rw [if_pos e,if_pos (h1.symm.trans e)];exact ⟨h1,h2,ry⟩
  ·rw [if_neg e,if_neg (fun z=>e (h1.trans z))];exact ⟨h1,h2,h3⟩
theorem KT.put {H:Hp}{kvs:List (List Aq×V)}{xs:List (List Aq×Addr×Value)}(r:KT H kvs xs)(k:List Aq){b:Addr}{y:V}{u:Value}(hb:H b=some (.tup (k.map kV)))(ry:RelV y u) :
  KT H (C5 kvs k y) (storedH xs k b u):=by
 have e:(kvs.any fun kv=>decide (kv.1=k))=(atKey xs k).isSome:=by
  rw [Mi,(r.val k).isSome_eq,Option.isSome_map]
 unfold C5 storedH
 rw [e]
 by_cases q:(atKey xs k).isSome=true
 ·rw [if_pos q,if_pos q];exact r.repl k ry
 ·rw [if_neg q,if_neg q];exact Paired.snoc r ⟨rfl,hb,ry⟩
theorem KT.keeps {H H':Hp}{kvs:List (List Aq×V)}{xs:List (List Aq×Addr×Value)}(r:KT H kvs xs)(ht:∀ b ys,H b=some (.tup ys)->H' b=some (.tup ys)):KT H' kvs xs :=
 Paired.mapP r fun _ _ z=>⟨z.1,ht _ _ z.2.1,z.2.2⟩
section
variable {P:Program}{w:World}{H:Hp}{h:Heap}{a:Addr}
theorem Zc3 {u:HO}(ok:HOk P w H h)(e:Rd H a u):ObjOk P w H h a u:=e.ok ok
theorem Lc {kvs:List (Aq×V)}(ok:HOk P w H h)(e:Rd H a (.dK kvs)):kvs.length<=sizeLine/\(a == sysModules)=false/\∃ vs,KV kvs vs/\h.DictOf (Dq P w) a vs :=
 show ObjOk P w H h a (.dK kvs) from Zc3 ok e
theorem Zl8 {kvs:List (Aq×V)}(ok:HOk P w H h)(e:H a=some (.dK kvs)):kvs.length<=sizeLine/\(a == sysModules)=false/\∃ vs,KV kvs vs/\h.DictOf (Dq P w) a vs:=Lc ok (.inl e)
theorem L6 {ks:List Aq}(ok:HOk P w H h)(e:H a=some (.tup (ks.map kV))):(tupleKind (Dq P w)).is h ks a:=by
 obtain ⟨_,its,r,o,h1,h2,n,h3⟩:=(show ObjOk P w H h a (.tup (ks.map kV)) from ok a _ e)
 exact ⟨o,its.toArray,n,h1,h2,h3,by simpa using Zea r⟩
theorem Mx {kvs:List (List Aq×V)}(ok:HOk P w H h)(e:Rd H a (.dT kvs)):kvs.length<=sizeLine/\(a == sysModules)=false /\
  ∃ xs,KT H kvs xs/\h.DictOfH (tupleKind (Dq P w)) a xs:=by
 obtain ⟨z,y,xs,r,o,es,ep,h1,h2,h3,h4,h5⟩:=(show ObjOk P w H h a (.dT kvs) from Zc3 ok e)
 refine ⟨z,y,xs,r,o,es,ep,h1,h2,h3,h4,fun x hx=>?_,h5⟩
 have all:∀{l:List (List Aq×V)}{m:List (List Aq×Addr×Value)},KT H l m->∀ x∈m,(tupleKind (Dq P w)).is h x.1 x.2.1:=by
  intro l m q
  induction q with
  | nil=>intro x hx;exact nomatch hx
  | @cons p q ps qs hq t ih =>
   intro x hx
   rcases Pd.mp hx with e | hx
   ·subst e
    exact L6 ok (by rw [<- hq.1];exact hq.2.1)
   ·exact ih x hx
 exact all r x hx
theorem Zm7 {kvs:List (List Aq×V)}(ok:HOk P w H h)(e:H a=some (.dT kvs)):kvs.length<=sizeLine/\(a == sysModules)=false /\
  ∃ xs,KT H kvs xs/\h.DictOfH (tupleKind (Dq P w)) a xs:=Mx ok (.inl e)
end
noncomputable def DGet (H:Hp)(a:Addr)(y:V)(r:Option V):Prop :=
 (∃ kvs k,Rd H a (.dK kvs)/\y=kV k/\r=B4 kvs k)\/∃ kvs k b,Rd H a (.dT kvs)/\y=.ref b/\H b=some (.tup (k.map kV))/\r=B4 kvs k
noncomputable def DPut (H:Hp)(a:Addr)(y v:V)(H':Hp):Prop :=
 (∃ kvs k,H a=some (.dK kvs)/\y=kV k/\kvs.length < sizeLine/\H'=upd H a (.dK (C5 kvs k v))) \/
 ∃ kvs k b,H a=some (.dT kvs)/\y=.ref b/\H b=some (.tup (k.map kV))/\kvs.length < sizeLine/\H'=upd H a (.dT (C5 kvs k v))
theorem DGet.k {H:Hp}{a:Addr}{kvs:List (Aq×V)}{k:Aq}(e:H a=some (.dK kvs)):DGet H a (kV k) (B4 kvs k):=.inl ⟨kvs,k,.inl e,rfl,rfl⟩
theorem DGet.t {H:Hp}{a b:Addr}{kvs:List (List Aq×V)}{k:List Aq}(e:H a=some (.dT kvs))(eb:H b=some (.tup (k.map kV))):DGet H a (.ref b) (B4 kvs k):=.inr ⟨kvs,k,b,.inl e,rfl,eb,rfl⟩
theorem DPut.k {H:Hp}{a:Addr}{kvs:List (Aq×V)}{k:Aq}{v:V}(e:H a=some (.dK kvs))(hl:kvs.length < sizeLine):DPut H a (kV k) v (upd H a (.dK (C5 kvs k v))):=.inl ⟨kvs,k,e,rfl,hl,rfl⟩
theorem DPut.t {H:Hp}{a b:Addr}{kvs:List (List Aq×V)}{k:List Aq}{v:V}(e:H a=some (.dT kvs))(eb:H b=some (.tup (k.map kV)))(hl:kvs.length < sizeLine) :
  DPut H a (.ref b) v (upd H a (.dT (C5 kvs k v))):=.inr ⟨kvs,k,b,e,rfl,eb,hl,rfl⟩
section
variable {X:Cx}{pins:List (Addr×Obj)}{σ:St}{H:Hp}{s:Shared}{a:Addr}{y v:V}{u r:Value}{o:Option V}{A:Around}{E:Value->Shared->Prop}
theorem Inv.big (I:Inv X pins σ H s):sysModules < s.heap.objs.size:=by
 have h:mainGlobals < s.heap.objs.size:=(I.mod.glob.keeps I.bk).lt
 exact Nat.lt_trans (by decide) h
theorem Zmt {Q:Value->Shared->Prop}(hu:A.units+1 < cLine)(I:Inv X pins σ H s)(g:DGet H a y (some v))(ry:RelV y u)(h:∀ w' s',Inv X pins σ H s'->RelV v w'->Q w' s') :
  wpAny (model X.prog X.w) A (getItem (.ref a) u) Q E s:=by
 rcases g with ⟨kvs,k,e,ey,l⟩ | ⟨kvs,k,b,e,ey,eb,l⟩
 ·subst ey
  obtain ⟨z,hd,vs,rel,dd⟩:=Lc I.hok e
  obtain ⟨w',hw,rw'⟩:=RelO.some_of (v:=v) (o:=valueAt vs k) (by rw [l];exact rel.val k)
  exact wpAny_getItem_of (Ld ry) dd.mapOf hw (h w' _ (I.tok _) rw')
 ·subst ey
  cases (show u=Value.ref b from ry)
  obtain ⟨z,hd,xs,rel,dd⟩:=Mx I.hok e
  obtain ⟨w',hw,rw'⟩:=RelO.some_of (v:=v) (o:=(atKey xs k).map (·.2)) (by rw [l];exact rel.val k)
  obtain ⟨p,hp,hp2⟩:=Q7.mp hw
  refine wpAny_getItem_heap (tupleKind_room_in1 hu) (L6 I.hok eb) dd hp ?_
  rw [hp2]
  exact h w' _ (I.tok _) rw'
theorem d_in {Q:Value->Shared->Prop}(hu:A.units+1 < cLine)(I:Inv X pins σ H s)(g:DGet H a y o)(ry:RelV y u)(h:∀ s',Inv X pins σ H s'->Q (.bool o.isSome) s') :
  wpAny (model X.prog X.w) A (compareOp .In u (.ref a)) Q E s:=by
 rcases g with ⟨kvs,k,e,ey,l⟩ | ⟨kvs,k,b,e,ey,eb,l⟩
 ·subst ey
  obtain ⟨z,hd,vs,rel,dd⟩:=Lc I.hok e
  refine wpAny_in_of (Ld ry) hd dd.mapOf ?_
  rw [<- (rel.val k).isSome_eq,<- l]
  exact h _ (I.tok _)
 ·subst ey
  cases (show u=Value.ref b from ry)
  obtain ⟨z,hd,xs,rel,dd⟩:=Mx I.hok e
  refine wpAny_in_heap (tupleKind_room_in1 hu) (L6 I.hok eb) hd dd ?_
  have q:=(rel.val k).isSome_eq
  rw [Option.isSome_map] at q
  rw [<- q,<- l]
  exact h _ (I.tok _)
theorem Zf3 {h':Heap}{t':Nat}{ob:HO}(I:Inv X pins σ H s)(mu:Mut (H a))(hs:Pp a s.heap h')(he:∃ q,h'.get? a=some q)(new:ObjOk X.prog X.w (upd H a ob) h' a ob) :
  Inv X pins σ (upd H a ob) { s with heap:=h',toks:=t' } :=
 I.write (x:=a) (e:=a) mu (.inl rfl) (fun b q hb z=>(hs.2 b hb).trans z) he new
theorem Zjh {P:Program}{w:World}{H':Hp}{h':Heap}{kvs:List (Aq×V)}{vs:List (Aq×Value)}(z:kvs.length<=sizeLine)(hd:(a == sysModules)=false)(rel:KV kvs vs)(dd:h'.DictOf (Dq P w) a vs) :
  ObjOk P w H' h' a (.dK kvs):=⟨z,hd,vs,rel,dd⟩
end
section
variable {X:Cx}{pins:List (Addr×Obj)}{σ:St}{H:Hp}{s:Shared}{a:Addr}{kvs:List (Aq×V)}{k:Aq}{u:Value}{A:Around}{E:Value->Shared->Prop}
end
noncomputable def Zao (i:Expr):Prop:=∀ ov iv,subscripted i false ov iv=operate [ov,iv] (getItem ov iv)
theorem Zn9 {prog:Program}{w:World}{A:Around}{E:Value->Shared->Prop}{s:Shared}{env:Env}{value slice:Expr}{pos:Pos}{T id:String}{Q:Value->Shared->Prop}
  (hl:typeLookup (.type T) "__getitem__" = pure (some (.builtin id))) (hs:Zao slice)
  (h:wpAny (model prog w) A (eval value env) (fun o s₁=>wpAny (model prog w) A (eval slice env) (fun i s₂=>s₂.TypeIs o T/\wpAny (model prog w) A (getItem o i) Q E s₂) E s₁) E s) :
  wpAny (model prog w) A (eval (.Subscript value slice pos) env) Q E s:=by
 refine Subscript_ (Q5 h (fun o s₁ h₁=>Q5 h₁ (fun i s₂ h₂=>?_) fun _ _ x=>x) fun _ _ x=>x)
 obtain ⟨hT,h₂⟩:=h₂
 unfold subscriptTail
 refine O7 ?_
 rw [getitemInPython_of_ne hT.not_modules]
 refine O7 (V5 hT hl ?_)
 have fin:wpAny (model prog w) A (subscripted slice false o i) (fun r s₃=>wpAny (model prog w) A (letTemporaryGo value o r >>= fun _=>pure r) Q E s₃) E s₂:=by
  rw [hs o i]
  exact wpAny_operating (Q5 h₂ (fun r s₃ h₃=>O7 (wpAny_letTemporaryGo (O8 h₃))) fun _ _ x=>x)
 first
  | exact O8 (O7 fin)
  | exact O7 (O8 (O7 fin))
  | exact O7 fin
theorem Zq5 {X:Cx}{pins:List (Addr×Obj)}{σ:St}{H:Hp}{s:Shared}{a:Addr}{y:V}{o:Option V}(I:Inv X pins σ H s)(g:DGet H a y o):s.TypeIs (.ref a) "dict" := by
 rcases g with ⟨kvs,k,e,_,_⟩ | ⟨kvs,k,b,e,_,_,_⟩
 ·obtain ⟨_,_,vs,_,dd⟩:=Lc I.hok e
  exact dd.typeIs
 ·obtain ⟨_,_,xs,_,dd⟩:=Mx I.hok e
  exact dd.typeIs
noncomputable def Zfi (td ty:TE):TE:=fun σ H Q=>td σ H fun x H1=>ty σ H1 fun y H2=>∃ a v,x=.ref a/\DGet H2 a y (some v)/\Q v H2
noncomputable def tDIn (ty td:TE):TE:=fun σ H Q=>ty σ H fun y H1=>td σ H1 fun x H2=>∃ a o,x=.ref a/\DGet H2 a y o/\Q (.bl o.isSome) H2
section
variable {X:Cx}{o i e value:Expr}{pos pos' tpos:Pos}{td ty tv:TE}
theorem Zqs (hu:X.A.units+1 < cLine)(ho:PE X o td)(hi:PE X i ty)(hs:Zao i):PE X (.Subscript o i pos) (Zfi td ty):=by
 intro pins s σ H Q I h
 refine Zn9 PySem.F.slot_dict_getitem.lookup hs (Ao (ho pins s σ H _ I h) fun u s1 zq=>?_)
 obtain ⟨x,H1,I1,rx,q1⟩:=zq
 refine Ao (hi pins s1 σ H1 _ I1 q1) fun iv s2 zq=>?_
 obtain ⟨y,H2,I2,ry,a,v,ex,g,q2⟩:=zq
 subst ex
 obtain rfl:u=Value.ref a:=rx
 exact ⟨Zq5 I2 g,Zmt hu I2 g ry fun w' s3 I3 rw'=>⟨v,H2,I3,rw',q2⟩⟩
theorem Zj4 (hu:X.A.units+1 < cLine)(hi:PE X i ty)(ho:PE X o td):PC X .In i o (tDIn ty td):=by
 intro pins s σ H Q I h
 refine Ao (hi pins s σ H _ I h) fun iv s1 zq=>?_
 obtain ⟨y,H1,I1,ry,q1⟩:=zq
 refine Ao (ho pins s1 σ H1 _ I1 q1) fun u s2 zq=>?_
 obtain ⟨x,H2,I2,rx,a,ov,ex,g,q2⟩:=zq
 subst ex
 obtain rfl:u=Value.ref a:=rx
 exact d_in hu I2 g ry fun s3 I3=>⟨.bl ov.isSome,H2,I3,rfl,q2⟩
end
theorem Zlc {P:Program}{w:World}{H:Hp}(h:Heap)(hb:sysModules < h.objs.size):ObjOk P w H (h.push { cls:=.type "dict",data:=.dict #[] }) h.objs.size (.dK []) :=
 ⟨Qh _,beq_eq_false_iff_ne.mpr (Pk (Pn hb)),[],.nil,Heap.DictOf.new h⟩
theorem Zpx {P:Program}{w:World}{H:Hp}(h:Heap)(hb:sysModules < h.objs.size):ObjOk P w H (h.push { cls:=.type "dict",data:=.dict #[] }) h.objs.size (.dT []) :=
 ⟨Qh _,beq_eq_false_iff_ne.mpr (Pk (Pn hb)),[],.nil,_,#[],0,Po _ rfl,⟨rfl,rfl,rfl⟩,rfl,rfl,List.nodup_nil⟩
section
variable {X:Cx}{pos:Pos}
end
section
variable {X:Cx}{pins:List (Addr×Obj)}{σ:St}{H:Hp}{s:Shared}{a:Addr}{y d:V}{u r:Value}{o:Option V}{A:Around}{E:Value->Shared->Prop}
end
section
variable {X:Cx}{o e f:Expr}{apos cpos:Pos}{td ty tx:TE}
end
section
variable {X:Cx}{pins:List (Addr×Obj)}{σ:St}{H:Hp}{s:Shared}{a:Addr}{kvs:List (Aq×V)}{A:Around}{E:Value->Shared->Prop}
end
section
variable {X:Cx}{pins:List (Addr×Obj)}{σ:St}{H:Hp}{s:Shared}{a:Addr}{y:V}{u:Value}{A:Around}{E:Value->Shared->Prop}
end
end L2
namespace PySem
theorem Zhd:typeLookup (.type "list") "keys" = pure none:=by rw [Tb,Sq];kernel_rfl
theorem Zmn {prog:Program}{w:World}{A:Around}{E:Value->Shared->Prop}{s:Shared}{a:Addr}{o:Obj}{xs:Array Value}{k:Nat}{name:Str}{Q:Option Value->Shared->Prop}
  (hx:s.heap.get? a=some o) (hc:o.cls=.type "list") (hdat:o.data=.seq xs k) (hd:o.dict=none) (hmiss:typeLookup (.type "list") name=pure none) (hname:(["__module__", "__name__", "__qualname__", "__doc__", "__annotations__"]:List Str).contains name=false) (hA:A.handled=none)
  (h:∀ h' tk,(∀ b ob,s.heap.get? b=some ob->h'.get? b=some ob)->Q none { s with heap:=h',toks:=tk }) (hsz:name.length+100<=sizeLine:=by size_fits) :
  wpAny (model prog w) A (getAttr? (.ref a) name) Q E s:=by
 obtain ⟨c,dct,dat,sl⟩:=o
 simp only at hc hdat hd
 subst hc hdat hd
 obtain ⟨hp,g,d,tk,os⟩:=s
 have hT:∀ tk',(⟨hp,g,d,tk',os⟩:Shared).TypeIs (.ref a) "list" := fun _=>⟨_,hx,rfl⟩
 have f1:=sub_AttributeError
 have f3:=Vl.lookup
 have f4:=Vl.bind (.ref a)
 have f5:=am_list_getattr_none
 unfold getAttr? getAttrBy? getAttrBy
 repeat (any_goals (first | assumption | exact hT _ | ((with_reducible show wpAny _ _ (call (Value.builtin "list.__getattribute__") _ _) _ _ _);refine R0 Vl (hT _) am_entry_list_getattribute (F.args_list_getattribute_2 _ _) (meets_getattribute_miss_list a xs k sl name _ hmiss hname hsz) ⟨hx,hA,fun h' tk' e hx'=>?_⟩) | wp_step))
 obtain ⟨t',u',he⟩:=hx'.there
 unfold getattributeRaised
 repeat (any_goals (first | assumption | wp_step))
 exact h _ _ hx'.keeps
namespace F
theorem entry_dict_update_loop:entryFor table "dict.update.loop" = some Builtin.«dict.update.loop»:=entryFor_of_tree (by kernel_rfl)
theorem plain_dict_update_loop:plainId "dict.update.loop" = true:=by decide +kernel
end F
end PySem
namespace L2
open PySem PySem.Spec PyProof.Rows
section
variable {X:Cx}{pins:List (Addr×Obj)}{σ:St}{H:Hp}{s:Shared}{a:Addr}{y v:V}{u r:Value}{A:Around}{E:Value->Shared->Prop}
theorem Znx {H':Hp}{Q:Unit->Shared->Prop}(hu:A.units < cLine)(I:Inv X pins σ H s)(g:DPut H a y v H')(ry:RelV y u)(rv:RelV v r)(h:∀ s',Inv X pins σ H' s'->Pp a s.heap s'.heap->Q () s') :
  wpAny (model X.prog X.w) A (dictSet a u r) Q E s:=by
 rcases g with ⟨kvs,k,e,ey,l,eH⟩ | ⟨kvs,k,b,e,ey,eb,l,eH⟩
 ·subst ey eH
  obtain ⟨z,hd,vs,rel,dd⟩:=Zl8 I.hok e
  have hz:vs.length<=sizeLine:=by rw [<- rel.length];exact z
  have hl:(C5 kvs k v).length<=sizeLine:=by have:=Ni kvs k v;omega
  refine wpAny_dictSet_pairs (hsz:=hz) (Ld ry) dd fun h' dd' hs=>h _ ?_ hs
  have he:∃ q,h'.get? a=some q:=let ⟨q,_,_,hq,_⟩:=dd';⟨q,hq⟩
  exact Zf3 I (by rw [e];exact True.intro) hs he (Zjh hl hd (rel.put k rv) dd')
 ·subst ey eH
  cases (show u=Value.ref b from ry)
  obtain ⟨z,hd,xs,rel,dd⟩:=Zm7 I.hok e
  have hz:xs.length<=sizeLine:=by rw [<- Uy rel];exact z
  have hl:(C5 kvs k v).length<=sizeLine:=by have:=Ni kvs k v;omega
  refine wpAny_dictSet_heap (hsz:=hz) hu (L6 I.hok eb) dd fun h' dd' hs=>h _ ?_ hs
  obtain ⟨q,es,ep,hq,h2,h3,h4,_,h5⟩:=dd'
  refine Zf3 I (by rw [e];exact True.intro) hs ⟨q,hq⟩ ⟨hl,hd,_,(rel.put k eb rv).keeps fun c ys ec=>?_,q,es,ep,hq,h2,h3,h4,h5⟩
  rw [Ai (Dr ec e (fun z=>nomatch z))]
  exact ec
theorem Zhi {R:Result->Shared->Prop}{p it d:Addr}{xs:List V}{Hs:Nat->Hp}{res:Value}(hh:A.handled=none)(hu:A.units+1 < cLine)(hdi:d≠it)(hd:∀ i,i<=xs.length->SqL X.K (Hs i) p xs)(hf:∀ i,FpOk X pins (Hs i) it)
  (hs:∀ i x,xs[i]?=some x->∃(c:Addr)(y v:V),x=.ref c/\SqT X.K (Hs i) c [y,v]/\DPut (Hs i) d y v (Hs (i+1)))
  (fin:∀ s',Inv X pins σ (Hs xs.length) s'->R (.ok (.ret res)) s') :
  ∀(k i:Nat)(s:Shared),xs.length - i=k->i<=xs.length->Inv X pins σ (Hs i) s->s.heap.IsListIter it p i ->
  codeAny (model X.prog X.w) A (.builtin "dict.update.loop" ⟨[.ref d,.ref it,rawInt i,res],[]⟩) R s:=by
 intro k
 induction k with
 | zero =>
  intro i s hk hi I st
  have hin:i=xs.length:=by omega
  subst hin
  obtain ⟨its,rv,pl,hz⟩:=I.list (hd _ hi)
  obtain ⟨f0,f1,f2,f3,f4,f5⟩:=hf xs.length
  have hl:=rv.length
  refine Sa PySem.F.entry_dict_update_loop ?_
  rw [R6 PySem.F.plain_dict_update_loop _]
  show wpAny _ A.in1 (pyNext (.ref it) >>= _) _ _ s
  refine O7 (wpAny_pyNext_list_end hh st pl.isList (by simp;omega) fun h' eb=>?_)
  have I':=I.turned (t':=s.toks) (fun b o hb e=>eb b o hb e) f0 f1 f3 f4 f5
  exact O7 (O8 (O8 (fin _ I')))
 | succ k ih =>
  intro i s hk hi I st
  have hlt:i < xs.length:=by omega
  obtain ⟨its,rv,pl,hz⟩:=I.list (hd _ hi)
  obtain ⟨c,y,v,ex,hc,hput⟩:=hs i _ (Pa hlt)
  obtain ⟨u,hu',ru⟩:=rv.get (Pa hlt)
  rw [ex] at ru
  cases ru
  obtain ⟨f0,f1,f2,f3,f4,f5⟩:=hf i
  refine Sa PySem.F.entry_dict_update_loop ?_
  rw [R6 PySem.F.plain_dict_update_loop _]
  show wpAny _ A.in1 (pyNext (.ref it) >>= _) _ _ s
  refine O7 (wpAny_pyNext_list_item st pl.isList (x:=.ref c) (by simpa using hu') fun h' st' sb=>?_)
  have I1:Inv X pins σ (Hs i) { s with heap:=h' }:=I.turned (t':=s.toks) (fun b o hb e=>(sb.2 b hb).trans e) f0 f1 f3 f4 f5
  obtain ⟨its2,rv2,pt,hz2⟩:=I1.tuple hc
  obtain ⟨u1,u2,rfl,r1,r2⟩:∃ u1 u2,its2=[u1,u2]/\RelV y u1/\RelV v u2:=by
   cases rv2 with
   | cons r1 t=>cases t with
    | cons r2 t=>cases t;exact ⟨_,_,rfl,r1,r2⟩
  obtain ⟨ot,et,ct,nt,dt⟩:=pt
  obtain ⟨oc,od,oda,osl⟩:=ot
  cases ct
  cases dt
  refine O7 (Qy ?_)
  refine O7 (wpAny_tryCatch ?_)
  have hT:(⟨h',s.gens,s.drawn,s.toks,s.os⟩:Shared).TypeIs (.ref c) "tuple" := ⟨_,et,rfl⟩
  unfold Builtin.Dict.pairItems
  refine O7 (U7 hT ?_)
  rw [if_pos (by decide)]
  refine O7 ?_
  unfold seqItems?
  refine O7 (wpAny_load et (O8 (O8 ?_)))
  show wpAny _ A.in1 (holding [u1,u2] (dictSet d u1 u2)) _ _ _
  refine Qy (Znx (by exact hu) I1 hput r1 r2 fun s2 I2 sb2=>?_)
  refine O8 ⟨Rz PySem.F.plain_dict_update_loop _,?_⟩
  have e1:rawInt ((i:Int)+1)=rawInt (((i+1:Nat)):Int):=rfl
  rw [e1]
  exact ih (i+1) s2 (by omega) hlt I2 (st'.at fun o e=>(sb2.2 it (Pk hdi)).trans e)
noncomputable def B1 {κ:Type}[DecidableEq κ](kvs:List (κ×V))(l:List (κ×V)):List (κ×V):=l.foldl (fun a kv=>C5 a kv.1 kv.2) kvs
theorem Zej {κ:Type}[DecidableEq κ](l:List (κ×V)):∀ kvs:List (κ×V),(B1 kvs l).length<=kvs.length+l.length:=by
 induction l with
 | nil=>intro kvs;exact O9 _
 | cons kv r ih =>
  intro kvs
  have h1:=ih (C5 kvs kv.1 kv.2)
  have h2:=Ni kvs kv.1 kv.2
  rw [Qn]
  show (B1 (C5 kvs kv.1 kv.2) r).length<=_
  omega
theorem Zd3 {κ:Type}[DecidableEq κ]{l:List (κ×V)}{i:Nat}{kv:κ×V}(h:l[i]?=some kv)(kvs:List (κ×V)):B1 kvs (l.take (i+1))=C5 (B1 kvs (l.take i)) kv.1 kv.2:=by
 unfold B1
 rw [Uk,h,List.foldl_append]
 rfl
noncomputable def Zb2 (K:O6):List V->Hp->VK->Prop:=fun xs H Q=>∃(p:Addr)(vs:List V),xs=[.ref p]/\SqL K H p vs /\
 ((∃ kvs:List (Aq×V),Al (fun x (kv:Aq×V)=>∃ a,x=.ref a/\SqT K H a [kV kv.1,kv.2]) vs kvs/\∀ d,H d=none->Q (.ref d) (upd H d (.dK (B1 [] kvs)))) \/
   (∃ kvs:List (List Aq×V),Al (fun x (kv:List Aq×V)=>∃ a b,x=.ref a/\SqT K H a [.ref b,kv.2]/\H b=some (.tup (kv.1.map kV))) vs kvs/\∀ d,H d=none->Q (.ref d) (upd H d (.dT (B1 [] kvs)))))
theorem Zey {p:Addr}{vs:List V}{Q:VK}{Hs:Nat->Hp}(hu:A.units+3 < cLine)(hh:A.handled=none)(I:Inv X pins σ H s)(hq:SqL X.K H p vs)(d:Addr)(hdd:d=s.heap.objs.size)
  (h0:Inv X pins σ (Hs 0) { s with heap:=s.heap.push { cls:=.type "dict",data:=.dict #[] } }) (hs0:∀ i b,H b=none->b≠d->Hs i b=none) (hsd:∀ i,i<=vs.length->SqL X.K (Hs i) p vs)
  (hs:∀ i x,vs[i]?=some x->∃(c:Addr)(y v:V),x=.ref c/\SqT X.K (Hs i) c [y,v]/\DPut (Hs i) d y v (Hs (i+1))) (q:Q (.ref d) (Hs vs.length)) :
  wpAny (model X.prog X.w) A (call (.type "dict") [.ref p]) (EP X pins σ Q) E s:=by
 refine callType_codes (Q₁:=fun obj s₁=>obj=.ref s.heap.objs.size/\s₁={ s with heap:=s.heap.push { cls:=.type "dict",data:=.dict #[] } }) F.kt_called_dict (F.kt_typeCall_dict_1 _) F.entry_dict_init (kt_code_dict_new _ ⟨rfl,rfl⟩) ?_
 rintro obj s₁ ⟨rfl,rfl⟩
 have hnT:({ s with heap:=s.heap.push { cls:=.type "dict",data:=.dict #[] } }:Shared).TypeIs (.ref s.heap.objs.size) "dict" := ⟨_,Po _ rfl,rfl⟩
 refine ⟨hnT,F.args_dict_init_2 _ _,?_⟩
 unfold Builtin.«dict.__init__»
 refine O7 ?_
 unfold Builtin.Dict.selfAndRest
 refine O7 (wpAny_notOrdered_dict hnT ?_)
 show wpAny _ _ (pure (s.heap.objs.size,[Value.ref p])) _ _ _
 refine O8 ?_
 show wpAny _ _ (Builtin.Dict.updateFrom "dict.__init__" s.heap.objs.size (.ref p) [] .none) _ _ _
 subst hdd
 obtain ⟨its,rv,pl,hz⟩:=h0.list (hsd 0 (Qh _))
 have hsz:s.heap.objs.size < (s.heap.push { cls:=Value.type "dict",data:=Data.dict #[] }).objs.size:=by rw [Qf];exact Ul _
 generalize hs1:({ s with heap:=s.heap.push { cls:=.type "dict",data:=.dict #[] } }:Shared)=s1 at *
 have hsz1:s.heap.objs.size < s1.heap.objs.size:=by rw [<- hs1];exact hsz
 obtain ⟨ol,nl,el,cl,dn,dl⟩:=pl
 unfold Builtin.Dict.updateFrom
 refine O7 (U7 ⟨_,el,cl⟩ ?_)
 rw [if_pos (by decide)]
 refine O7 (Zmn el cl dl dn Zhd (by decide +kernel) hh (fun h2 tk2 kp=>?_) (by decide +kernel))
 rw [if_pos (by decide)]
 refine O7 (Tk ?_)
 have I2:Inv X pins σ (Hs 0) { s1 with heap:=h2,toks:=tk2 }:=h0.kept kp
 have pl2:h2.IsList p its.toArray:=⟨ol,kp _ _ el,cl,nl,dl⟩
 refine O7 (Uj pl2 ?_)
 have hsz2:s.heap.objs.size < h2.objs.size:=by
  obtain ⟨on,en,_⟩:=hnT
  exact Pf (kp _ _ en)
 have hHn:∀ i,Hs i h2.objs.size=none:=fun i=>hs0 i _ (I.hok.fresh (U4 hsz2)) (Qq hsz2)
 refine O8 ⟨Rz PySem.F.plain_dict_update_loop _,Zhi (A:=A.in1) (Hs:=Hs) (xs:=vs) (p:=p) hh (by show A.units+1+1 < cLine;omega) (Pn hsz2) hsd (fun i=>I2.fpOk (O9 _) (hHn i)) hs (fun s' I'=>?_) vs.length 0 _ rfl (Qh _) (I2.kept (t':=tk2) fun b o e=>Pc _ e) ⟨_,Po _ rfl,rfl,rfl⟩⟩
 exact ⟨rfl,.ref s.heap.objs.size,_,I',rfl,q⟩
theorem Zof (hu:X.A.units+3 < cLine)(hh:X.calm=true):Cu X (.type "dict") (Zb2 X.K):=by
 intro pins s σ H xs us Q I r h
 obtain ⟨p,vs,rfl,hq,h⟩:=h
 obtain ⟨u,rfl,rx⟩:=Hg r
 cases rx
 have hf:H s.heap.objs.size=none:=I.hok.fresh (O9 _)
 have hpd:p≠s.heap.objs.size:=by
  obtain ⟨its,rv,⟨o,n,e,_⟩,hz⟩:=I.list hq
  exact Pn (Pf e)
 have hn:vs.length<=sizeLine:=by
  obtain ⟨its,rv,_,hz⟩:=I.list hq
  exact hz
 rcases h with ⟨kvs,al,q⟩ | ⟨kvs,al,q⟩
 ·refine Zey (Hs:=fun i=>upd H s.heap.objs.size (.dK (B1 [] (kvs.take i)))) hu (I.ok.hd hh) I hq s.heap.objs.size rfl (I.laid (a:=s.heap.objs.size) (o:=.dK []) (t':=s.toks) (fun _ _ q=>Pc _ q) (O9 _) (Zlc s.heap I.big)) (fun i b hb hd=>by show upd H _ _ b=none;rw [Ai hd];exact hb) (fun i _=>(Same.upd hf).seq hq) (fun i x hx=>?_) ?_
  ·obtain ⟨kv,hkv,c,rfl,hc⟩:=al.get hx
   have hi:i < vs.length:=(Pq.mp hx).1
   refine ⟨c,_,_,rfl,(Same.upd hf).tup hc,?_⟩
   show DPut _ _ _ _ (upd H s.heap.objs.size (.dK (B1 [] (kvs.take (i+1)))))
   rw [Zd3 hkv]
   have hl:(B1 [] (kvs.take i)).length < sizeLine:=by have:=Zej (kvs.take i) ([]:List (Aq×V));rw [Qo] at this;simp only [Uv] at this;omega
   have r:=DPut.k (H:=upd H s.heap.objs.size (.dK (B1 [] (kvs.take i)))) (k:=kv.1) (v:=kv.2) Ad hl
   rw [Jk] at r
   exact r
  ·show Q _ (upd H s.heap.objs.size (.dK (B1 [] (kvs.take vs.length))))
   rw [al.1,Rv]
   exact q _ hf
 ·refine Zey (Hs:=fun i=>upd H s.heap.objs.size (.dT (B1 [] (kvs.take i)))) hu (I.ok.hd hh) I hq s.heap.objs.size rfl (I.laid (a:=s.heap.objs.size) (o:=.dT []) (t':=s.toks) (fun _ _ q=>Pc _ q) (O9 _) (Zpx s.heap I.big)) (fun i b hb hd=>by show upd H _ _ b=none;rw [Ai hd];exact hb) (fun i _=>(Same.upd hf).seq hq) (fun i x hx=>?_) ?_
  ·obtain ⟨kv,hkv,c,b,rfl,hc,hb⟩:=al.get hx
   have hi:i < vs.length:=(Pq.mp hx).1
   refine ⟨c,_,_,rfl,(Same.upd hf).tup hc,?_⟩
   show DPut _ _ _ _ (upd H s.heap.objs.size (.dT (B1 [] (kvs.take (i+1)))))
   rw [Zd3 hkv]
   have hl:(B1 [] (kvs.take i)).length < sizeLine:=by have:=Zej (kvs.take i) ([]:List (List Aq×V));rw [Qo] at this;simp only [Uv] at this;omega
   have r:=DPut.t (H:=upd H s.heap.objs.size (.dT (B1 [] (kvs.take i)))) (v:=kv.2) Ad ((Same.upd hf) _ _ hb) hl
   rw [Jk] at r
   exact r
  ·show Q _ (upd H s.heap.objs.size (.dT (B1 [] (kvs.take vs.length))))
   rw [al.1,Rv]
   exact q _ hf
end
theorem Room.u1 {k:Nat}{A:Around}(r:Room k A):A.units+1 < cLine:=by have:=r.u200;omega
section
variable {X:Cx}{k:Nat}{x m f:Str}{ps:List Str}{sp:Sp}{E:XK}{C:Addr}{p pos pos' tpos apos:Pos}{e o i value:Expr}{es:List Expr}{ta tv td ty:TE}{t:TA}{CX:Co}{P:Program}{w:World}{mg:Str->Option Value}{base:Heap}{K:O6}
theorem Zpk (K:O6)(CX:Co)(ps:List Str){pl:Sem Bool}(he:QE X o ta)(hr:Room k X.A)(hx:Fv CX X E)(hP:X.prog=P:=by rfl)(hw:X.w=w:=by rfl)(hK:X.K=K:=by rfl)(hmg:X.mg=mg:=by rfl)(hbs:X.base=base:=by rfl)
  (ht:eval (.Call (.Attribute o m apos) [] [] pos) X.env=(do
   let ov <- eval o X.env
   standAt apos.atName
   let (f,first) <- holding [ov] (getMethod ov m pl)
   callWith pos f first (backTo pos (starEach [] X.env)) (backToKw pos (keywordEach [] X.env))):=by rfl) :
  QE X (.Call (.Attribute o m apos) [] [] pos) (Zei CX P w K mg base k m ps E ta Jv):=by
 subst hP hw hK hmg hbs
 refine ⟨fun pins s σ H Q I h=>?_⟩
 refine PySem.W.methodCall_KW (pl:=pl) (Ao (he.run pins s σ H _ I h) fun u s1 zq=>?_) ht
 obtain ⟨x,H1,I1,rx,a,C,dx,fs,sp,ex,ea,l,M,q⟩:=zq
 obtain ⟨g,fd,F,c,hm,hb⟩:=M.ex
 subst ex
 obtain rfl:u=Value.ref a:=rx
 refine Zee I1 ea c hm l ?_
 exact PySem.W.callWith_K0 (first:=[.ref a]) I1.kIn hm.kp (Zby (us:=[.ref a]) (vs:=[.ref a]) (dvs:=[]) F hr hb .nil hx I1 (.cons rfl .nil) q)
theorem Zfd (K:O6){op:Operator}{rd:V->V->Hp->VK->Prop}(ha:QE X o ta)(hv:QE X value tv)(hop:Za9 X op rd)(hK:X.K=K:=by rfl):QS X (.AugAssign (.Attribute o f tpos) op value pos) (Zcn K ta tv rd f):=by subst hK;exact ⟨Zng ha.run hv.run hop⟩
theorem Zfe (K:O6)(hu:X.A.units+200 < cLine)(hh:X.calm=true)(hK:X.K=K:=by rfl):Cu X (.type "dict") (Zb2 K):=by subst hK;exact Zof (by omega) hh
theorem K7 (hu:X.A.units+1 < cLine)(ho:QE X o td)(hi:QE X i ty)(hs:Zao i):QE X (.Subscript o i pos) (Zfi td ty):=⟨Zqs hu ho.run hi.run hs⟩
theorem Zq7 (hu:X.A.units+1 < cLine)(hi:QE X i ty)(ho:QE X o td):QC X .In i o (tDIn ty td):=⟨Zj4 hu hi.run ho.run⟩
noncomputable def N7 (K:O6):R2:=fun x y H Q=>Gn K x y H Q\/∃(a b:Addr)(xs ys:List V),x=.ref a/\y=.ref b/\H a=some (.tup xs)/\H b=some (.tup ys)/\xs.length+ys.length<=sizeLine/\∀ p H',Same H H'->H' p=some (.tup (xs++ys))->Q (.ref p) H'
theorem Zjf:OpR X (binaryOp .Add) (N7 X.K):=by
 refine op_addA.or ?_
 intro pins s σ H x y v u Q I rx ry h
 obtain ⟨a,b,xs,ys,rfl,rfl,ha,hb,hz,q⟩:=h
 have ha':SqT X.K H a xs:=SqT.of ha
 have hb':SqT X.K H b ys:=SqT.of hb
 by_cases hx:xs=[]
 ·subst hx
  cases rx
  cases ry
  obtain ⟨its,r1,p1,_⟩:=I.tuple ha'
  obtain ⟨its2,r2,p2,_⟩:=I.tuple hb'
  cases r1
  obtain ⟨⟨cls,dd,data,sl⟩,ho,hc,n,hd⟩:=id p1
  obtain ⟨⟨cls2,dd2,data2,sl2⟩,ho2,hc2,n2,hd2⟩:=id p2
  simp only at hc hd hc2 hd2
  subst hc hd hc2 hd2
  exact U6 ⟨_,ho,rfl⟩ ⟨_,ho2,rfl⟩ Um Uz T9 Tx (Tu _ _)
   (tuple_addW0 a b _ _ n n2 dd dd2 sl sl2 (by simp)) ⟨ho,ho2,⟨.ref b,H,I,rfl,q b H (Same.refl H) hb⟩⟩
 ·refine Zcj pins s σ H _ _ v u Q I rx ry ⟨a,b,xs,ys,rfl,rfl,ha',hb',hx,hz,fun e=>?_,fun _ p hp=>q p _ (fun c o e=>by rw [Ai (Cr e hp)];exact e) Ad⟩
  subst e
  exact q a H (Same.refl H) (by rw [Qe];exact ha)
theorem Lp (K:O6)(hK:X.K=K:=by rfl):OpR X (binaryOp .Add) (N7 K):=by subst hK;exact Zjf
theorem Zav {a b:Addr}{xs ys:List V}{H:Hp}{Q:VK}(ha:H a=some (.tup xs))(hb:H b=some (.tup ys))(hz:xs.length+ys.length<=sizeLine)(h:∀ p H',Same H H'->H' p=some (.tup (xs++ys))->Q (.ref p) H'):N7 K (.ref a) (.ref b) H Q:=.inr ⟨a,b,xs,ys,rfl,rfl,ha,hb,hz,h⟩
end
end L2
namespace L2
open PySem
noncomputable def RowT (K:O6)(H:Hp)(v:V)(x:List Nat×Tr):Prop:=∃(a p:Addr)(u:V),v=.ref a/\SqT K H a [.ref p,u]/\H p=some (.tup (Bp x.1))/\TrAt K H u x.2
theorem RowT.same {K:O6}{H H':Hp}(e:SameT H H')(v:V)(x:List Nat×Tr)(h:RowT K H v x):RowT K H' v x:=by
 obtain ⟨a,p,u,r,q,qp,t⟩:=h
 exact ⟨a,p,u,r,e.tup q,(e p).1 _ qp,t.sameT e⟩
theorem Zqq {κ:Type}[DecidableEq κ](l:List (κ×V))(kv:κ×V)(kvs:List (κ×V)):B1 kvs (l++[kv])=C5 (B1 kvs l) kv.1 kv.2:=by
 unfold B1
 rw [List.foldl_append]
 rfl
noncomputable def Dy {κ:Type}[DecidableEq κ](l:List (κ×V))(k:κ):Option V:=(l.reverse.find? fun kv=>decide (kv.1=k)).map (·.2)
theorem Zbw {κ:Type}[DecidableEq κ](l:List (κ×V))(kv:κ×V)(k:κ):Dy (l++[kv]) k=if kv.1=k then some kv.2 else Dy l k:=by
 unfold Dy
 rw [Rs,Ua,Vn,Qv]
 by_cases h:kv.1=k
 ·simp [h]
 ·simp [h]
theorem Zbs {α:Type}{P:List α->Prop}(h0:P [])(h1:∀ l x,P l->P (l++[x]))(l:List α):P l:=by
 rw [<- l.reverse_reverse]
 induction l.reverse with
 | nil=>exact h0
 | cons x r ih=>rw [Sz];exact h1 _ _ ih
theorem M9 {κ:Type}[DecidableEq κ](l:List (κ×V))(k:κ):B4 (B1 [] l) k=Dy l k:=by
 refine Zbs (P:=fun l=>B4 (B1 [] l) k=Dy l k) rfl (fun l kv ih=>?_) l
 rw [Zqq,Zbw,Zhc,ih]
 by_cases h:kv.1=k
 ·rw [if_pos h,if_pos h.symm]
 ·rw [if_neg h,if_neg (Pk h)]
structure Wt where
 pl:List Nat
 ar:List (Str×Str×V)
 came:Bool
structure MS where
 rows:List Rx
 wait:List Wt
 things:List (Str×V)
 steps:Int
noncomputable def An (pl:List Nat):List Int:=pl.map fun i:Nat=>((i:Nat):Int)
theorem Ib (pl:List Nat):(An pl).map V.int=Bp pl:=by unfold An Bp;rw [List.map_map];rfl
noncomputable def Df (pl:List Nat):List Aq:=pl.map fun i:Nat=>Sum.inl ((i:Nat):Int)
theorem Ko (pl:List Nat):(Df pl).map kV=Bp pl:=by unfold Df Bp;rw [List.map_map];rfl
noncomputable def WtAt (K:O6)(A:Addr->Prop)(H:Hp)(v:V)(x:Wt):Prop:=∃(a p e:Addr)(ev:List V),v=.ref a/\SqT K H a [.ref p,.ref e,.bl x.came]/\H p=some (.tup (Bp x.pl))/\H e=some (.lst ev)/\Al (PrAt K H) ev x.ar/\¬ A e
theorem WtAt.same {K:O6}{A:Addr->Prop}{H H':Hp}(s:SameA A H H')(v:V)(x:Wt)(h:WtAt K A H v x):WtAt K A H' v x:=by
 obtain ⟨a,p,e,ev,h1,h2,h3,h4,h5,h6⟩:=h
 exact ⟨a,p,e,ev,h1,s.1.tup h2,(s.1 p).1 _ h3,s.2 _ _ h6 h4,h5.mono (PrAt.same s.1),h6⟩
theorem WtAt.mono {K:O6}{A B:Addr->Prop}{H:Hp}(s:∀ b,B b->H b≠none->A b)(v:V)(x:Wt)(h:WtAt K A H v x):WtAt K B H v x:=by
 obtain ⟨a,p,e,ev,h1,h2,h3,h4,h5,h6⟩:=h
 exact ⟨a,p,e,ev,h1,h2,h3,h4,h5,fun b=>h6 (s e b (by rw [h4];simp))⟩
noncomputable def RwX (K:O6)(A:Addr->Prop)(H:Hp)(v:V)(x:Rx):Prop:=RwAt K A H v x/\∃(a p o e:Addr),v=.ref a/\SqT K H a [.str x.wd,.ref p,.ref o,.ref e]/\H p=some (.tup (x.pl.map V.int))
theorem RwX.same {K:O6}{A:Addr->Prop}{H H':Hp}(s:SameA A H H')(v:V)(x:Rx)(h:RwX K A H v x):RwX K A H' v x:=by
 obtain ⟨h1,a,p,o,e,r,q,t⟩:=h
 exact ⟨RwAt.same s v x h1,a,p,o,e,r,s.1.tup q,(s.1 p).1 _ t⟩
theorem RwX.mono {K:O6}{A B:Addr->Prop}{H:Hp}(s:∀ b,B b->H b≠none->A b)(v:V)(x:Rx)(h:RwX K A H v x):RwX K B H v x:=⟨RwAt.mono s v x h.1,h.2⟩
noncomputable def RwO (K:O6)(A:Addr->Prop)(H:Hp)(v:V)(y:Rx×Addr×Addr):Prop:=∃(a p:Addr)(ov ev:List V),v=.ref a/\SqT K H a [.str y.1.wd,.ref p,.ref y.2.1,.ref y.2.2]/\SqT K H p (y.1.pl.map V.int)/\H y.2.1=some (.lst ov)/\Al (ThAt K H) ov y.1.ops/\H y.2.2=some (.lst ev)/\Al (PrAt K H) ev y.1.ar/\¬ A y.2.1/\¬ A y.2.2/\y.2.1≠y.2.2
theorem RwO.same {K:O6}{A:Addr->Prop}{H H':Hp}(s:SameA A H H')(v:V)(y:Rx×Addr×Addr)(h:RwO K A H v y):RwO K A H' v y:=by
 obtain ⟨a,p,ov,ev,h1,h2,h3,h4,h5,h6,h7,h8,h9,hn⟩:=h
 exact ⟨a,p,ov,ev,h1,s.1.tup h2,s.1.tup h3,s.2 _ _ h8 h4,h5.mono (ThAt.same s.1),s.2 _ _ h9 h6,h7.mono (PrAt.same s.1),h8,h9,hn⟩
theorem RwO.mono {K:O6}{A B:Addr->Prop}{H:Hp}(s:∀ b,B b->H b≠none->A b)(v:V)(y:Rx×Addr×Addr)(h:RwO K A H v y):RwO K B H v y:=by
 obtain ⟨a,p,ov,ev,h1,h2,h3,h4,h5,h6,h7,h8,h9,hn⟩:=h
 exact ⟨a,p,ov,ev,h1,h2,h3,h4,h5,h6,h7,fun b=>h8 (s _ b (by rw [h4];simp)),fun b=>h9 (s _ b (by rw [h6];simp)),hn⟩
noncomputable def SepR (K:O6)(A:Addr->Prop)(H:Hp)(rv:List V)(rs:List Rx):Prop:=∃ ys:List (Rx×Addr×Addr),ys.map (·.1)=rs/\Al (RwO K A H) rv ys/\∀(i j:Nat)(x y:Rx×Addr×Addr),ys[i]?=some x->ys[j]?=some y->i < j->x.2.1≠y.2.1/\x.2.1≠y.2.2/\x.2.2≠y.2.1/\x.2.2≠y.2.2
theorem SepR.nil {K:O6}{A:Addr->Prop}{H:Hp}:SepR K A H [] []:=⟨[],rfl,.nil,fun i j x y h=>by simp at h⟩
theorem SepR.same {K:O6}{A:Addr->Prop}{H H':Hp}{rv:List V}{rs:List Rx}(h:SepR K A H rv rs)(s:SameA A H H'):SepR K A H' rv rs:=by
 obtain ⟨ys,e,al,d⟩:=h
 exact ⟨ys,e,al.mono (RwO.same s),d⟩
theorem SepR.mono {K:O6}{A B:Addr->Prop}{H:Hp}{rv:List V}{rs:List Rx}(h:SepR K A H rv rs)(s:∀ b,B b->H b≠none->A b):SepR K B H rv rs:=by
 obtain ⟨ys,e,al,d⟩:=h
 exact ⟨ys,e,al.mono (RwO.mono s),d⟩
theorem SepR.add {K:O6}{A:Addr->Prop}{H H':Hp}{rv:List V}{rs:List Rx}{v:V}{y:Rx×Addr×Addr}(h:SepR K A H rv rs)(s:Same H H')(ho:H y.2.1=none)(he:H y.2.2=none)(q:RwO K A H' v y):SepR K A H' (rv++[v]) (rs++[y.1]):=by
 obtain ⟨ys,er,al,d⟩:=h
 refine ⟨ys++[y],by rw [Pz,er];rfl,(al.mono (RwO.same s.a)).snoc q,fun i j x z hi hj hij=>?_⟩
 have hjl:j < (ys++[y]).length:=(Pq.mp hj).1
 rw [Pg,Pl] at hjl
 have hil:i < ys.length:=by omega
 rw [Qa hil] at hi
 by_cases hjl2:j < ys.length
 ·rw [Qa hjl2] at hj
  exact d i j x z hi hj hij
 ·have ej:j=ys.length:=by omega
  rw [ej] at hj
  simp at hj
  obtain ⟨v',hv⟩:∃ v,rv[i]?=some v:=⟨_,Pa (by rw [al.1];exact hil)⟩
  obtain ⟨x',hx',a2,p2,os2,es2,g1,g2,g3,g4,g5,g6,g7,g8,g9,_⟩:=al.get hv
  rw [hi] at hx'
  cases hx'
  rw [<- hj]
  exact ⟨fun z=>(by rw [z,ho] at g4;cases g4),fun z=>(by rw [z,he] at g4;cases g4),fun z=>(by rw [z,ho] at g6;cases g6),fun z=>(by rw [z,he] at g6;cases g6)⟩
structure Ml where
 m:Addr
 dx:Addr
 fd:Addr
 rd:Addr
 wd:Addr
 td:Addr
noncomputable def Ml.A (L:Ml)(b:Addr):Prop:=b=L.rd\/b=L.wd\/b=L.td
noncomputable def Ml.fs (L:Ml)(n:Int):List (Str×V):=[("forms",.ref L.fd),("rows",.ref L.rd),("waiting",.ref L.wd),("things",.ref L.td),("steps",.int n)]
structure MAt (K:O6)(HB:Hp)(C:Addr)(kvs:List (List Aq×V))(L:Ml)(H:Hp)(S:MS):Prop where
 base:Same HB H
 nm:HB L.m=none
 nr:HB L.rd=none
 nw:HB L.wd=none
 nt:HB L.td=none
 ins:H L.m=some (.ins C L.dx (L.fs S.steps))
 frm:H L.fd=some (.dT kvs)
 rw:L.rd≠L.wd
 rt:L.rd≠L.td
 wt:L.wd≠L.td
 rows:∃ rv,H L.rd=some (.lst rv)/\Al (RwX K (fun b=>L.A b\/HB b≠none) H) rv S.rows/\SepR K (fun b=>L.A b\/HB b≠none) H rv S.rows
 wait:∃ wv,H L.wd=some (.lst wv)/\Al (WtAt K L.A H) wv S.wait
 things:∃ tv,H L.td=some (.lst tv)/\Al (ThAt K H) tv S.things
noncomputable def SameM (L:Ml)(H H':Hp):Prop:=∀ b o,b≠L.m->¬ L.A b->H b=some o->H' b=some o
theorem SameM.refl (L:Ml)(H:Hp):SameM L H H:=fun _ _ _ _ h=>h
theorem SameM.trans {L:Ml}{H H1 H2:Hp}(a:SameM L H H1)(b:SameM L H1 H2):SameM L H H2:=fun c o h1 h2 h=>b c o h1 h2 (a c o h1 h2 h)
theorem _root_.L2.Same.m {H H':Hp}(e:Same H H')(L:Ml):SameM L H H':=fun b o _ _ h=>e b o h
theorem SameM.trans' {L L':Ml}{H H1 H2:Hp}(a:SameM L H H1)(b:SameM L' H1 H2)(hm:L'.m=L.m)(hr:L'.rd=L.rd)(hw:L'.wd=L.wd)(ht:L'.td=L.td\/H L'.td=none):SameM L H H2:=fun c o h1 h2 h=>by
 refine b c o (by rw [hm];exact h1) ?_ (a c o h1 h2 h)
 rintro (z | z | z)
 ·exact h2 (.inl (z.trans hr))
 ·exact h2 (.inr (.inl (z.trans hw)))
 ·rcases ht with e | e
  ·exact h2 (.inr (.inr (z.trans e)))
  ·rw [<- z,h] at e
   cases e
section
variable {K:O6}{HB H H':Hp}{C:Addr}{kvs:List (List Aq×V)}{L:Ml}{S:MS}
theorem MAt.ne {o:HO}(M:MAt K HB C kvs L H S){b:Addr}(h:H b=some o)(hi:∀ c d f,o≠.ins c d f)(hl:∀ xs,o≠.lst xs):b≠L.m/\¬ L.A b:=by
 obtain ⟨rv,er,_⟩:=M.rows
 obtain ⟨wv,ew,_⟩:=M.wait
 obtain ⟨tv,et,_⟩:=M.things
 refine ⟨fun z=>?_,?_⟩
 ·rw [z,M.ins] at h;cases h;exact hi _ _ _ rfl
 ·rintro (z | z | z)
  ·rw [z,er] at h;cases h;exact hl _ rfl
  ·rw [z,ew] at h;cases h;exact hl _ rfl
  ·rw [z,et] at h;cases h;exact hl _ rfl
theorem MAt.a (M:MAt K HB C kvs L H S)(e:SameM L H H'):SameA L.A H H':=by
 refine ⟨fun b=>⟨fun xs h=>?_,fun o u h=>?_⟩,fun b xs n h=>?_⟩
 ·obtain ⟨h1,h2⟩:=M.ne h (fun _ _ _ z=>nomatch z) (fun _ z=>nomatch z)
  exact e b _ h1 h2 h
 ·obtain ⟨h1,h2⟩:=M.ne h (fun _ _ _ z=>nomatch z) (fun _ z=>nomatch z)
  exact e b _ h1 h2 h
 ·refine e b _ (fun z=>?_) n h
  rw [z,M.ins] at h
  cases h
theorem MAt.t (M:MAt K HB C kvs L H S)(e:SameM L H H'):SameT H H':=(M.a e).1
theorem MAt.outer (M:MAt K HB C kvs L H S)(e:SameM L H H'):Same HB H':=fun b o h=>by
 refine e b o (fun z=>?_) ?_ (M.base b o h)
 ·rw [z,M.nm] at h;cases h
 ·rintro (z | z | z)
  ·rw [z,M.nr] at h;cases h
  ·rw [z,M.nw] at h;cases h
  ·rw [z,M.nt] at h;cases h
theorem MAt.big (M:MAt K HB C kvs L H S)(e:SameM L H H'):SameA (fun b=>L.A b\/HB b≠none) H H':=(M.a e).mono fun _ h=>.inl h
theorem MAt.new (M:MAt K HB C kvs L H S)(e:Same H H'):MAt K HB C kvs L H' S:=by
 obtain ⟨rv,er,ar,sp⟩:=M.rows
 obtain ⟨wv,ew,aw⟩:=M.wait
 obtain ⟨tv,et,at_⟩:=M.things
 exact ⟨M.base.trans e,M.nm,M.nr,M.nw,M.nt,e _ _ M.ins,e _ _ M.frm,M.rw,M.rt,M.wt,⟨rv,e _ _ er,ar.mono (RwX.same e.a),sp.same e.a⟩,⟨wv,e _ _ ew,aw.mono (WtAt.same e.a)⟩,⟨tv,e _ _ et,at_.mono (ThAt.same e.t)⟩⟩
theorem SameM.upd {x:Addr}{o:HO}(hx:x=L.m\/L.A x):SameM L H (upd H x o):=fun b o' h1 h2 h=>by
 rw [Ai (fun z=>?_)]
 ·exact h
 ·rw [z] at h1 h2
  rcases hx with e | e
  ·exact h1 e
  ·exact h2 e
theorem MAt.apart (M:MAt K HB C kvs L H S):L.rd≠L.m/\L.wd≠L.m/\L.td≠L.m/\L.fd≠L.m/\L.fd≠L.rd/\L.fd≠L.wd/\L.fd≠L.td:=by
 obtain ⟨rv,er,_⟩:=M.rows
 obtain ⟨wv,ew,_⟩:=M.wait
 obtain ⟨tv,et,_⟩:=M.things
 exact ⟨Dr er M.ins (fun z=>nomatch z),Dr ew M.ins (fun z=>nomatch z),Dr et M.ins (fun z=>nomatch z),Dr M.frm M.ins (fun z=>nomatch z),Dr M.frm er (fun z=>nomatch z),Dr M.frm ew (fun z=>nomatch z),Dr M.frm et (fun z=>nomatch z)⟩
theorem MAt.setSteps (M:MAt K HB C kvs L H S)(n:Int):MAt K HB C kvs L (L2.upd H L.m (.ins C L.dx (L.fs n))) { S with steps:=n }:=by
 have e:SameM L H (L2.upd H L.m (.ins C L.dx (L.fs n))):=SameM.upd (.inl rfl)
 obtain ⟨a1,a2,a3,a4,a5,a6,a7⟩:=M.apart
 obtain ⟨rv,er,ar,sp⟩:=M.rows
 obtain ⟨wv,ew,aw⟩:=M.wait
 obtain ⟨tv,et,at_⟩:=M.things
 exact ⟨M.outer e,M.nm,M.nr,M.nw,M.nt,Ad,by rw [Ai a4];exact M.frm,M.rw,M.rt,M.wt,⟨rv,by rw [Ai a1];exact er,ar.mono (RwX.same (M.big e)),sp.same (M.big e)⟩,⟨wv,by rw [Ai a2];exact ew,aw.mono (WtAt.same (M.a e))⟩,⟨tv,by rw [Ai a3];exact et,at_.mono (ThAt.same (M.t e))⟩⟩
theorem MAt.setRows (M:MAt K HB C kvs L H S){rv:List V}{rs:List Rx}(al:Al (RwX K (fun b=>L.A b\/HB b≠none) H) rv rs)(sp:SepR K (fun b=>L.A b\/HB b≠none) H rv rs):MAt K HB C kvs L (L2.upd H L.rd (.lst rv)) { S with rows:=rs }:=by
 have e:SameM L H (L2.upd H L.rd (.lst rv)):=SameM.upd (.inr (.inl rfl))
 obtain ⟨a1,a2,a3,a4,a5,a6,a7⟩:=M.apart
 obtain ⟨wv,ew,aw⟩:=M.wait
 obtain ⟨tv,et,at_⟩:=M.things
 exact ⟨M.outer e,M.nm,M.nr,M.nw,M.nt,by rw [Ai (Pk a1)];exact M.ins,by rw [Ai a5];exact M.frm,M.rw,M.rt,M.wt,⟨rv,Ad,al.mono (RwX.same (M.big e)),sp.same (M.big e)⟩,⟨wv,by rw [Ai (Pk M.rw)];exact ew,aw.mono (WtAt.same (M.a e))⟩,⟨tv,by rw [Ai (Pk M.rt)];exact et,at_.mono (ThAt.same (M.t e))⟩⟩
theorem MAt.setWait (M:MAt K HB C kvs L H S){wv:List V}{ws:List Wt}(al:Al (WtAt K L.A H) wv ws):MAt K HB C kvs L (L2.upd H L.wd (.lst wv)) { S with wait:=ws }:=by
 have e:SameM L H (L2.upd H L.wd (.lst wv)):=SameM.upd (.inr (.inr (.inl rfl)))
 obtain ⟨a1,a2,a3,a4,a5,a6,a7⟩:=M.apart
 obtain ⟨rv,er,ar,sp⟩:=M.rows
 obtain ⟨tv,et,at_⟩:=M.things
 exact ⟨M.outer e,M.nm,M.nr,M.nw,M.nt,by rw [Ai (Pk a2)];exact M.ins,by rw [Ai a6];exact M.frm,M.rw,M.rt,M.wt,⟨rv,by rw [Ai M.rw];exact er,ar.mono (RwX.same (M.big e)),sp.same (M.big e)⟩,⟨wv,Ad,al.mono (WtAt.same (M.a e))⟩,⟨tv,by rw [Ai (Pk M.wt)];exact et,at_.mono (ThAt.same (M.t e))⟩⟩
theorem MAt.setThings (M:MAt K HB C kvs L H S){tv:List V}{ts:List (Str×V)}(al:Al (ThAt K H) tv ts):MAt K HB C kvs L (L2.upd H L.td (.lst tv)) { S with things:=ts }:=by
 have e:SameM L H (L2.upd H L.td (.lst tv)):=SameM.upd (.inr (.inr (.inr rfl)))
 obtain ⟨a1,a2,a3,a4,a5,a6,a7⟩:=M.apart
 obtain ⟨rv,er,ar,sp⟩:=M.rows
 obtain ⟨wv,ew,aw⟩:=M.wait
 exact ⟨M.outer e,M.nm,M.nr,M.nw,M.nt,by rw [Ai (Pk a3)];exact M.ins,by rw [Ai a7];exact M.frm,M.rw,M.rt,M.wt,⟨rv,by rw [Ai M.rt];exact er,ar.mono (RwX.same (M.big e)),sp.same (M.big e)⟩,⟨wv,by rw [Ai M.wt];exact ew,aw.mono (WtAt.same (M.a e))⟩,⟨tv,Ad,al.mono (ThAt.same (M.t e))⟩⟩
noncomputable def Ml.with (L:Ml)(t:Addr):Ml:={ L with td:=t }
theorem MAt.swap (M:MAt K HB C kvs L H S){H1:Hp}{t:Addr}{tv:List V}{ts:List (Str×V)}(e0:Same H H1)(ht:H t=none)(h1:H1 t=some (.lst tv))(al:Al (ThAt K H1) tv ts):MAt K HB C kvs (L.with t) (L2.upd H1 L.m (.ins C L.dx ((L.with t).fs S.steps))) { S with things:=ts }/\SameM L H (L2.upd H1 L.m (.ins C L.dx ((L.with t).fs S.steps))):=by
 have M1:=M.new e0
 have e:SameM L H1 (L2.upd H1 L.m (.ins C L.dx ((L.with t).fs S.steps))):=SameM.upd (.inl rfl)
 obtain ⟨a1,a2,a3,a4,a5,a6,a7⟩:=M1.apart
 obtain ⟨rv0,er0,_⟩:=M.rows
 obtain ⟨wv0,ew0,_⟩:=M.wait
 obtain ⟨rv,er,ar,sp⟩:=M1.rows
 obtain ⟨wv,ew,aw⟩:=M1.wait
 have nm:t≠L.m:=fun z=>by rw [z,M.ins] at ht;cases ht
 have nr:L.rd≠t:=fun z=>by rw [<- z,er0] at ht;cases ht
 have nw:L.wd≠t:=fun z=>by rw [<- z,ew0] at ht;cases ht
 have nb:HB t=none:=by
  cases h:HB t with
  | none=>rfl
  | some o=>rw [M.base _ _ h] at ht;cases ht
 have s2:∀ B:Addr->Prop,SameA B H (L2.upd H1 L.m (.ins C L.dx ((L.with t).fs S.steps))):=fun B=>⟨e0.t.trans (M1.t e),fun b xs _ h=>by
  rw [Ai (fun z=>?_)]
  ·exact e0 _ _ h
  ·rw [z,M.ins] at h;cases h⟩
 obtain ⟨rv1,er1,ar1,sp1⟩:=M.rows
 obtain ⟨wv1,ew1,aw1⟩:=M.wait
 have hA:∀ b,(L.with t).A b->H b≠none->L.A b:=fun b hb hn=>by
  rcases hb with z | z | z
  ·exact .inl z
  ·exact .inr (.inl z)
  ·rw [show b=t from z,ht] at hn;exact absurd rfl hn
 refine ⟨⟨M1.outer e,M.nm,M.nr,M.nw,nb,Ad,(Ai (show L.fd≠L.m from a4)).trans M1.frm,M.rw,nr,nw,⟨rv1,(Ai (show L.rd≠L.m from a1)).trans (e0 _ _ er1),?_,?_⟩,⟨wv1,(Ai (show L.wd≠L.m from a2)).trans (e0 _ _ ew1),?_⟩,⟨tv,(Ai (show t≠L.m from nm)).trans h1,al.mono (ThAt.same (M1.t e))⟩⟩,(e0.m L).trans e⟩
 ·refine (ar1.mono (RwX.mono fun b hb hn=>?_)).mono (RwX.same (s2 _))
  rcases hb with z | z
  ·exact .inl (hA b z hn)
  ·exact .inr z
 ·refine (sp1.mono fun b hb hn=>?_).same (s2 _)
  rcases hb with z | z
  ·exact .inl (hA b z hn)
  ·exact .inr z
 ·exact (aw1.mono (WtAt.mono hA)).mono (WtAt.same (s2 _))
end
noncomputable def Ce (ar:List (Str×Str×V))(z:Str):Option (Str×V):=(ar.reverse.find? fun x=>decide (x.1=z)).map (·.2)
theorem Zi3 (l:List (Str×Str×V))(x:Str×Str×V)(z:Str):Ce (l++[x]) z=if x.1=z then some x.2 else Ce l z:=by
 unfold Ce
 rw [Rs,Ua,Vn,Qv]
 by_cases h:x.1=z
 ·simp [h]
 ·simp [h]
theorem Zjo {K:O6}{H:Hp}:∀(ev:List V)(ar:List (Str×Str×V)),Al (PrAt K H) ev ar->∃ kvs:List (Aq×V),Al (fun v (kv:Aq×V)=>∃ a,v=.ref a/\SqT K H a [kV kv.1,kv.2]) ev kvs /\
  ∀ z:Str,(Dy kvs (Sum.inr z)=none/\Ce ar z=none)\/∃ u th,Dy kvs (Sum.inr z)=some u/\Ce ar z=some th/\ThAt K H u th:=by
 intro ev
 refine Zbs (P:=fun ev=>∀ ar,Al (PrAt K H) ev ar->∃ kvs:List (Aq×V),Al (fun v (kv:Aq×V)=>∃ a,v=.ref a/\SqT K H a [kV kv.1,kv.2]) ev kvs /\
  ∀ z:Str,(Dy kvs (Sum.inr z)=none/\Ce ar z=none)\/∃ u th,Dy kvs (Sum.inr z)=some u/\Ce ar z=some th/\ThAt K H u th) ?_ ?_ ev
 ·intro ar al
  have:ar=[]:=Sk al.1.symm
  subst this
  exact ⟨[],.nil,fun z=>.inl ⟨rfl,rfl⟩⟩
 ·intro l v ih ar al
  obtain ⟨l',v',ar',x,e1,rfl,al',a,u,rfl,q,t⟩:=al.last (by simp)
  obtain ⟨rfl,e2⟩:=Rw e1 rfl
  cases e2
  obtain ⟨kvs,ak,hk⟩:=ih ar' al'
  refine ⟨kvs++[(Sum.inr x.1,u)],ak.snoc ⟨a,rfl,q⟩,fun z=>?_⟩
  rw [Zbw,Zi3]
  by_cases hz:x.1=z
  ·refine .inr ⟨u,x.2,?_,if_pos hz,t⟩
   rw [if_pos (by rw [hz])]
  ·rw [if_neg hz,if_neg (fun h=>hz (Sum.inr.inj h))]
   exact hk z
section
variable {g:TG}{tt:TT}{te:TE}{σ0:St}{H1:Hp}{D:Addr}{Q:VK}
theorem Zrh {K:O6}{a:Addr}{xs:List V}(Pv:Nat->List V->St->Hp->Prop)(h0:Pv 0 [] σ0 (upd H1 D (.lst [])))(hl:∀ i ys σ H,i<=xs.length->Pv i ys σ H->SqT K H a xs)
  (hs:∀ i x ys σ H,xs[i]?=some x->H D=some (.lst ys)->Pv i ys σ H->Zag g tt te D (Pv (i+1)) x σ H)
  (hd:∀ ys σ H,H D=some (.lst ys)->Pv xs.length ys σ H->Q (.ref D) H):Mr (Itt K a) g tt te σ0 H1 D Q:=by
 refine ⟨fun i m σ H=>m=xs.length - i/\i<=xs.length/\∃ ys,H D=some (.lst ys)/\Pv i ys σ H,⟨xs.length,by simp,Qh _,[],Ad,h0⟩,?_⟩
 rintro i m σ H ⟨rfl,hi,ys,hD,p⟩
 have q:=hl i ys σ H hi p
 by_cases hlt:i < xs.length
 ·refine .inr ⟨⟨xs,xs[i],q,by simp [hlt]⟩,fun σ2 H2=>∃ zs,H2 D=some (.lst zs)/\Pv (i+1) zs σ2 H2,fun σ' H' p'=>⟨xs.length - (i+1),by omega,rfl,hlt,p'⟩,fun x H' y=>?_⟩
  obtain ⟨e,y⟩:=y
  subst e
  exact hs i x ys σ _ (y xs q) hD p
 ·have e:i=xs.length:=by omega
  subst e
  exact .inl ⟨⟨xs,q,O9 _⟩,hd ys σ H hD p⟩
end
noncomputable def Jn:Tr->Dt
 | .mk _ n _=>n
theorem Zqv (t:Tr):t=.mk t.wd (Jn t) t.ps:=by cases t;rfl
theorem Znz {a b:List Nat}(h:Df a=Df b):a=b:=by
 unfold Df at h
 induction a generalizing b with
 | nil=>cases b with
  | nil=>rfl
  | cons y r=>simp at h
 | cons x l ih=>cases b with
  | nil=>simp at h
  | cons y r =>
   simp only [Qb,List.cons.injEq] at h
   have h1:x=y:=by have:=Sum.inl.inj h.1;omega
   rw [h1,ih h.2]
noncomputable def Cn (ws:List (List Nat×Tr))(pl:List Nat):Option Tr:=(ws.reverse.find? fun x=>decide (x.1=pl)).map (·.2)
theorem Zix (l:List (List Nat×Tr))(x:List Nat×Tr)(pl:List Nat):Cn (l++[x]) pl=if x.1=pl then some x.2 else Cn l pl:=by
 unfold Cn
 rw [Rs,Ua,Vn,Qv]
 by_cases h:x.1=pl
 ·simp [h]
 ·simp [h]
theorem Zku {ws:List (List Nat×Tr)}{pl:List Nat}{t:Tr}(h:Cn ws pl=some t):(pl,t)∈ws:=by
 unfold Cn at h
 obtain ⟨x,hx,rfl⟩:=Q7.mp h
 have h1:=List.find?_some hx
 have h2:x.1=pl:=of_decide_eq_true h1
 rw [<- h2]
 exact Up.mp (List.mem_of_find?_eq_some hx)
theorem Zlv {K:O6}{H:Hp}:∀(rows:List V)(ws:List (List Nat×Tr)),Al (RowT K H) rows ws->∃ kvs:List (List Aq×V),Al (fun v (kv:List Aq×V)=>∃ a b,v=.ref a/\SqT K H a [.ref b,kv.2]/\H b=some (.tup (kv.1.map kV))) rows kvs /\
  ∀ pl:List Nat,(Dy kvs (Df pl)=none/\Cn ws pl=none)\/∃ u t,Dy kvs (Df pl)=some u/\Cn ws pl=some t/\TrAt K H u t:=by
 intro rows
 refine Zbs (P:=fun rows=>∀ ws,Al (RowT K H) rows ws->∃ kvs:List (List Aq×V),Al (fun v (kv:List Aq×V)=>∃ a b,v=.ref a/\SqT K H a [.ref b,kv.2]/\H b=some (.tup (kv.1.map kV))) rows kvs /\
  ∀ pl:List Nat,(Dy kvs (Df pl)=none/\Cn ws pl=none)\/∃ u t,Dy kvs (Df pl)=some u/\Cn ws pl=some t/\TrAt K H u t) ?_ ?_ rows
 ·intro ws al
  have:ws=[]:=Sk al.1.symm
  subst this
  exact ⟨[],.nil,fun z=>.inl ⟨rfl,rfl⟩⟩
 ·intro l v ih ws al
  obtain ⟨l',v',ws',x,e1,rfl,al',a,p,u,rfl,q,hp,t⟩:=al.last (by simp)
  obtain ⟨rfl,e2⟩:=Rw e1 rfl
  cases e2
  obtain ⟨kvs,ak,hk⟩:=ih ws' al'
  refine ⟨kvs++[(Df x.1,u)],ak.snoc ⟨a,p,rfl,q,by rw [Ko];exact hp⟩,fun pl=>?_⟩
  rw [Zbw,Zix]
  by_cases hz:x.1=pl
  ·refine .inr ⟨u,x.2,?_,if_pos hz,t⟩
   rw [if_pos (by rw [hz])]
  ·rw [if_neg hz,if_neg (fun h=>hz (Znz h))]
   exact hk pl
end L2
namespace L2
open PySem PySem.Spec PyProof.Rows
section
variable {X:Cx}
noncomputable abbrev Zdj:=Zf2 false false
theorem Zh2 (K:O6){e e2:Expr}{ta:TA}{p p2 pos pos2:Pos}(hg:Gl X "list")(hm:X.mg "list" = none)(hg2:Gl X "zip")(hm2:X.mg "zip" = none)(ha:QA X [e,e2] ta)(hK:X.K=K:=by rfl)(hc:X.calm=true:=by rfl)
  (hs:starEach [.Call (.Name "zip" p2) [e,e2] [] pos2] X.env=[(false,eval (.Call (.Name "zip" p2) [e,e2] [] pos2) X.env)]:=by rfl) (hs2:starEach [e,e2] X.env=[(false,eval e X.env),(false,eval e2 X.env)]:=by rfl) (hs3:starEach [e2] X.env=[(false,eval e2 X.env)]:=by rfl) :
  QE X (.Call (.Name "list" p) [.Call (.Name "zip" p2) [e,e2] [] pos2] [] pos) (Zdj K ta):=Zkx false false K hg hm hg2 hm2 ha hK hc hs hs2 hs3
theorem Zhe {K:O6}{ta:TA}{σ:St}{H:Hp}{Q:VK}(h:ta σ H fun vs H1=>∃ a b xs ys,vs=[.ref a,.ref b]/\SqL K H1 a xs/\SqL K H1 b ys /\
 ∀(S:Addr)(zs:List V)(H2:Hp),H1 S=none->Same H1 H2->zs.length=min xs.length ys.length->Zbo H2 xs ys zs->H2 S=some (.lst zs)->Q (.ref S) H2):Zdj K ta σ H Q:=h
end
end L2
namespace L2
open PySem PySem.Spec PySem.Calls PySem.W PyProof.Rows
section
variable {X:Cx}
noncomputable def Iy (K:O6)(te:TE)(ts:TO):TE:=fun σ H Q=>te σ H fun x H1=>ts σ H1 fun o H2=>∃ a xs,x=.ref a/\o=some (-1)/\SqL K H2 a xs/\∀ p,H2 p=none->Q (.ref p) (upd H2 p (.lst xs.reverse))
theorem Zim {e st:PySem.Expr}{te:TE}{ts:TO}{p2 pos:Pos}(he:PE X e te)(hs:PO X (some st) ts):PE X (.Subscript e (.Slice none none (some st) p2) pos) (Iy X.K te ts):=by
 intro pins s σ H Q I h
 refine Subscript_ (Ao (he pins s σ H _ I h) fun v s1 zq=>?_)
 obtain ⟨x,H1,I1,r1,q1⟩:=zq
 refine wpAny_Slice ?_
 rw [evalPart_none]
 refine O8 ?_
 refine O8 ?_
 refine Ao (hs pins s1 σ H1 _ I1 q1) fun vk s3 zq=>?_
 obtain ⟨o,H3,I3,pk,q3⟩:=zq
 obtain ⟨a,xs,rfl,rfl,hx,q⟩:=q3
 cases r1
 have I4:Inv X pins σ H3 { s3 with heap:=s3.heap.push { cls:=.type "slice",data:=.fields #[.none,.none,vk] } }:=I3.kept (t':=s3.toks) fun b ob q=>Pc _ q
 obtain ⟨its,r,ht,hz⟩:=I4.list hx
 have hlen:=r.length
 refine tail_any (ops:=[.ref a,.ref s3.heap.objs.size]) ht.isList.typeIs Vv.lookup ?_ (by with_unfolding_all rfl)
 refine wpAny_getItem_list_slice ht.isList (Heap.IsSliceOf.new ..) .none .none pk (by decide) ?_ (by rw [Pe] <;> omega)
 rw [PySem.W.krv_pick]
 refine ⟨.ref _,_,I4.laid (t':=s3.toks) (o:=.lst xs.reverse) (fun b ob q=>Pc _ q) (O9 _) ?_,rfl,q _ (I4.hok.fresh (O9 _))⟩
 exact ⟨by rw [Rt];exact hz,_,0,r.reverse,Po _ rfl⟩
theorem Lf {e st:PySem.Expr}{te:TE}{ts:TO}{p2 pos:Pos}(K:O6)(he:QE X e te)(hs:QO X (some st) ts)(hK:X.K=K:=by rfl):QE X (.Subscript e (.Slice none none (some st) p2) pos) (Iy K te ts):=by
 subst hK
 exact ⟨Zim he.run hs.run⟩
end
end L2
namespace L2
open PySem PySem.Spec PyProof.Rows
noncomputable def Zkv (K:O6)(C:Addr)(tb:Hr)(th:TS):TS:=fun D σ H=>tb D (fun σ1 cls od H2=>(∃ C',cls=.ref C'/\Sg K (.ref C') (.ref C)=some true)/\∀ a,H2 a=none->th D σ1 (upd H2 a (exk a cls od))) σ H
section
variable {X:Cx}{c n:Str}{np hpos pos:Pos}{body hbody:List Stmt}{b₀:Stmt}{tb:Hr}{th:TS}{i:Nat}{C:Addr}
theorem Zm8 (hC:Lu X.K C)(G:X.mg c=some (.ref C))(hf:X.env.frame=some X.env.locals)(hst:X.stack=X.env::X.outer)(hb:QXS X body tb)(hh:∀ e XE,Ep (X.to (X.A.mark (some e)) false XE) (b₀::hbody) th)(hg:Gl X c:=by rfl)(hdb:(c == ("__debug__" : Str))=false:=by decide) :
  QS X (.Try body [.ExceptHandler (some (.Name c np)) none (b₀::hbody) hpos] [] [] pos) (Zkv X.K C tb th):=by
 refine ⟨fun pins s σ H D I h=>?_⟩
 refine wpAny_Try_except (Q5 (hb.run pins s σ H D _ I h) (fun f s1 q=>?_) fun ev s1 q=>?_)
 ·cases f with
  | next=>exact R9 q
  | ret v=>exact q
  | brk=>exact q
  | cont=>exact q
 ·obtain ⟨σ1,H0,s0,I0,e,T,cls,od,H',rfl,h1,h2,h3,h4,h5,h6,h7,h8,h9,⟨C',rfl,hsub⟩,h10⟩:=q
  have J:Inv X pins σ1 H' s1:=I0.call' (ch:=[]) h1 h3 h4 h2 (fun b z=>absurd z (by simp))
  have hfr:X.A.frames=some (X.env::X.outer):=by rw [<- hst];exact J.ok.frames
  have hstk:=J.stack
  rw [hst] at hstk
  refine Ze2 (base:=X.base) hfr hstk hf h9 fun h' T' hT' y m=>Lz (fs:=Bs (X.env::X.outer)) y fun h'' y' m'=>?_
  have M1:Mvd (Bs X.stack) [e,T,T'] s1.heap h'':=by rw [hst];exact (m.mono (by simp)).trans (m'.mono (by simp))
  have fT':s0.heap.get? T'=none:=by
   cases q:s0.heap.get? T' with
   | none=>rfl
   | some o =>
    obtain ⟨o',z⟩:=h3.there T' o q (by simp)
    exact absurd (Pf z) (Nat.not_lt.mpr hT')
  have hT'n:H' T'=none:=J.hok.fresh hT'
  have fx:∀ b∈[e,T,T'],s0.heap.get? b=none/\H' b=none:=by
   intro b hb
   simp only [Pd,Pj,or_false] at hb
   rcases hb with rfl | rfl | rfl
   ·exact ⟨h5,h7⟩
   ·exact ⟨h6,h8⟩
   ·exact ⟨fT',hT'n⟩
  have land:∀{h3':Heap},Mvd (Bs X.stack) [e,T,T'] s1.heap h3'->Ft h3' e T' (.ref C') od->Inv X pins σ1 (upd H' e (exk e (.ref C') od)) { s1 with heap:=h3' }:=fun {h3'} mm ll =>
   I0.call' (s':={ s1 with heap:=h3' }) (ch:=[]) h1 (h3.land mm (fun b hb=>(fx b hb).1) h5 h7) (h4.land mm (fun b hb=>(fx b hb).2) (fun b hb=>J.stkFree b hb) h7 (Zqg ll)) h2 (fun b z=>absurd z (by simp))
  have I1:=land M1 y'
  refine wpAny_handleBy_cons (codeAny_handlers_test ?_) (by intro q;cases q)
  have I1':Inv (X.to (X.A.mark (some (.ref e))) false (notedBy (model X.prog X.w) (X.A.mark (some (.ref e))) X.env fun x s₁=>True)) pins σ1 (upd H' e (exk e (.ref C') od)) { s1 with heap:=h'' }:=I1.to rfl (by simp)
  refine Im I1' hg G ?_ hdb
  obtain ⟨oe,vs,oT,ts,a1,a2,a3,a4,a5,a6,a7,a8,a9⟩:=id y'
  refine Zmq I1.kIn hC a1 a2 hsub ?_
  refine codeAny_handlers_suite (Lz (fs:=Bs X.stack) y' fun h4' y4 m4=>?_)
  have I2:=land (M1.trans (m4.mono (by simp))) y4
  refine Q5 ((hh (.ref e) _).run pins _ _ _ D (I2.to rfl (by simp)) (h10 e h7)) (fun f s4 q=>?_) fun ev s4 q=>q
  cases f with
  | next =>
   obtain ⟨σ',H4,I4,q⟩:=q
   exact ⟨σ',H4,I4.back I.ok,q⟩
  | ret v =>
   obtain ⟨u,σ',H4,I4,r,q⟩:=q
   exact ⟨u,σ',H4,I4.back I.ok,r,q⟩
  | brk =>
   obtain ⟨σ',H4,I4,q⟩:=q
   exact ⟨σ',H4,I4.back I.ok,q⟩
  | cont =>
   obtain ⟨σ',H4,I4,q⟩:=q
   exact ⟨σ',H4,I4.back I.ok,q⟩
end
section
variable {X:Cx}{o i e f k v value:Expr}{pos pos' apos cpos:Pos}{td ty tx tk tv:TE}
end
section
variable {X:Cx}{c n:Str}{np hpos pos:Pos}{body hbody:List Stmt}{b₀:Stmt}{tb:Hr}{th:TS}{i:Nat}{C:Addr}{rest:List ExceptHandler}{tr:THd}
end
section
variable {X:Cx}
end
section
variable {X:Cx}
end
section
variable {g:TG}{tt:TT}{te:TE}{σ0:St}{H1:Hp}{D:Addr}{Q:VK}
end
section
variable {X:Cx}
end
section
variable {prog:Program}{w:World}{A:Around}{E:Value->Shared->Prop}{s:Shared}
end
section
variable {X:Cx}{tg:Expr}
end
section
variable {X:Cx}{c n:Str}{np hpos pos:Pos}{body hbody:List Stmt}{b₀:Stmt}{tb:Hr}{th:Addr->TS}{i:Nat}{C:Addr}
end
section
variable {P:Program}{w:World}{K:O6}{mg:Str->Option Value}{base:Heap}
end
section
variable {X:Cx}{k:Nat}{x:Str}{ps:List Str}{sp:Addr->Sp}{p pos:Pos}{e:Expr}{es:List Expr}{t:TA}
end
section
variable {X:Cx}{tg:Expr}
end
section
variable {X:Cx}
end
section
variable {X:Cx}
end
section
variable {X:Cx}{pins:List (Addr×Obj)}{σ:St}{H:Hp}{s:Shared}
end
section
variable {X:Cx}
open Classical in
end
section
variable {X:Cx}{pins:List (Addr×Obj)}{σ:St}{H:Hp}{s:Shared}
end
section
variable {X:Cx}
end
end L2
namespace PySem
open PyProof.Rows
section
variable {prog:Program}{w:World}{A:Around}{E:Value->Shared->Prop}{s:Shared}
end
end PySem
namespace L2
open PySem PySem.Spec PyProof.Rows
section
variable {X:Cx}{tg:Expr}
end
section
variable {X:Cx}
end
section
variable {X:Cx}{pins:List (Addr×Obj)}{σ:St}{H:Hp}{s:Shared}
end
section
variable {X:Cx}
end
section
variable {X:Cx}{c e:Expr}{tc:TE}{t:TX}{pos:Pos}
end
section
variable {X:Cx}
end
end L2
local macro_rules | `(tactic| walk_at "sc")=>`(tactic| exact ⟨rfl,rfl,rfl,by decide +kernel,rfl,by decide +kernel,by decide +kernel⟩)
namespace L2
open PySem PySem.Spec PyProof.Rows
theorem Bk:0<=sizeLine:=by decide
theorem B7:1<=sizeLine:=by decide
theorem sz13:13<=sizeLine:=by decide
theorem Bh:2<=sizeLine:=by decide
theorem Bf:3<=sizeLine:=by decide
theorem F5:4<=sizeLine:=by decide
theorem sz5:5<=sizeLine:=by decide
theorem sz9:9<=sizeLine:=by decide
theorem Room.m {j k:Nat}{A:Around}(r:Room k A)(h:j<=k:=by decide):Room j A:=r.mono h
section
variable {X:Cx}{a b:Expr}{ta tb:TE}{pos:Pos}{K:O6}
theorem Au (i:Nat){ps:List Str}{sc:Scope}{x:Str}{e:Expr}{te:TE}{pos':Pos}(S:Bl X.N ps sc)(he:QE X e te)(hi:X.N[i]?=some x:=by rfl)(hx:E6 X.env.scope x:=by exact Or.inl rfl)(hs:swapsWith e (some (.Name x pos')) pos.line X.env=pure false:=by rfl)(hf:X.fn x=true\/X.env.scope.names.lookup x=some .local:=by first | exact .inl rfl | exact .inr rfl | assumption):QS X (.Assign [.Name x pos'] e pos) (F4 te (F9 i)):=Zpa S.nd hi hx he hs hf
theorem Am (K:O6)(ha:QE X a ta)(hb:QE X b tb)(hs:Zbk b:=by exact fun _ _=>rfl)(hK:X.K=K:=by rfl):QE X (.Subscript a b pos) (Fd (Jb K) ta tb):=M0 (k_ix K hK) ha hb hs
end
end L2
namespace K49
theorem lz1 {α:Type}{vs:List α}(h:vs.length=1):∃ u,vs=[u]:=by
 cases vs with
 | nil=>cases h
 | cons u r=>cases Sk (Nat.succ.inj h);exact ⟨u,rfl⟩
theorem lz2 {α:Type}{vs:List α}(h:vs.length=2):∃ u v,vs=[u,v]:=by
 cases vs with
 | nil=>cases h
 | cons u r=>obtain ⟨v,rfl⟩:=lz1 (Nat.succ.inj h);exact ⟨u,v,rfl⟩
end K49
namespace K49
open PySem L2
noncomputable def A0 (i:Nat):Stmt:=R4.main.body.getD i (.Pass ⟨0,0,0,0⟩)
noncomputable abbrev J8:Stmt:=A0 5
noncomputable abbrev Jp:Stmt:=A0 7
noncomputable abbrev Kj:Stmt:=A0 9
noncomputable abbrev Kn:Stmt:=A0 14
noncomputable abbrev Jz:Stmt:=A0 15
noncomputable abbrev Cf (i j:Nat):Stmt:=match A0 i with | .ClassDef _ _ _ b _ _ _ _ _ _ _=>b.getD j (.Pass ⟨0,0,0,0⟩) | s=>s
noncomputable abbrev Ju:Stmt:=Cf 16 0
noncomputable abbrev Iv:Stmt:=Cf 16 1
noncomputable abbrev La:Stmt:=Cf 16 2
noncomputable abbrev Ke:Stmt:=Cf 16 3
noncomputable abbrev J7:Stmt:=Cf 16 5
noncomputable abbrev Ie:Stmt:=Cf 16 6
noncomputable abbrev K5:Stmt:=Cf 16 7
noncomputable abbrev K2:Stmt:=Cf 16 8
noncomputable abbrev Kq:Stmt:=Cf 16 9
noncomputable abbrev J0:Stmt:=Cf 16 10
noncomputable abbrev Kr:Stmt:=Cf 16 11
noncomputable abbrev Jo:Stmt:=Cf 16 12
noncomputable abbrev Kv:Stmt:=A0 18
noncomputable abbrev Jy:Stmt:=A0 20
noncomputable abbrev J5:Stmt:=A0 21
noncomputable abbrev Jf:Stmt:=A0 22
noncomputable abbrev Ky:Stmt:=A0 23
noncomputable abbrev K0:Stmt:=A0 24
noncomputable abbrev Kb:Stmt:=A0 25
noncomputable abbrev Ho:Stmt:=A0 26
noncomputable abbrev Ks:Stmt:=A0 27
noncomputable abbrev Hq:Stmt:=A0 28
noncomputable abbrev Kf:Stmt:=A0 29
noncomputable abbrev K9:Stmt:=A0 30
noncomputable abbrev K1:Stmt:=A0 31
noncomputable abbrev Kg:Stmt:=A0 32
noncomputable abbrev J2:Stmt:=A0 33
noncomputable abbrev Kt:Stmt:=A0 34
noncomputable abbrev J6:Stmt:=A0 35
noncomputable abbrev Kz:Stmt:=A0 36
noncomputable abbrev Jj:Stmt:=A0 37
noncomputable abbrev Ki:Stmt:=A0 38
structure Txt (K:O6)(mg:Str->Option Value):Prop where
 reversed:mg "reversed" = none
 list:mg "list" = none
 enumerate:mg "enumerate" = none
 all:mg "all" = none
 len:mg "len" = none
 isinstance:mg "isinstance" = none
 bool:mg "bool" = none
 tuple:mg "tuple" = none
 range:mg "range" = none
 str:mg "str" = none
 int:mg "int" = none
 max:mg "max" = none
 dict:mg "dict" = none
 zip:mg "zip" = none
structure Script (K:O6)(H:Hp)(a:Addr):Prop where
 ex:∃ ns:List Int,SqL K H a (ns.map V.int)/\ns.length<=63
theorem Script.same {K:O6}{H H':Hp}{a:Addr}(S:Script K H a)(h:Same H H'):Script K H' a:=by
 obtain ⟨ns,q,l⟩:=S.ex
 exact ⟨ns,h.seq q,l⟩
theorem big:100000<=sizeLine:=by decide
end K49
local macro_rules | `(tactic| walk_at "r1")=>`(tactic| (first | (with_reducible first | refine L2.s_seq ?_ | refine L2.s_asg ?_ | refine L2.s_ret ?_ | refine L2.s_ifS ?_ | refine L2.s_test ?_ | refine L2.s_op ?_ | refine L2.s_c ?_ | refine L2.s_cons ?_ | refine L2.s_nil ?_ | refine L2.s_call ?_ | refine L2.s_cb ?_ | refine L2.s_gname ?_ | refine L2.s_ex ?_ | refine L2.s_exi ?_ | refine L2.s_drop ?_ | refine L2.s_next ?_ | refine L2.s_un ?_ | refine L2.s_tB ?_ | refine L2.s_not ?_ | refine L2.s_and ?_ | refine L2.s_or ?_ | refine L2.s_andV ?_ | refine L2.s_orV ?_ | refine L2.s_notV ?_ | refine L2.s_vals ?_ | refine L2.s_tup ?_ | refine L2.s_lst ?_ | refine L2.s_bm ?_ | refine L2.s_bm0 ?_ | refine L2.s_sl ?_ | refine L2.s_po ?_ | refine L2.s_po0 ?_ | refine L2.s_gcons ?_ | refine L2.s_gnil ?_ | refine L2.s_gsub ?_ | refine L2.s_isN ?_ | refine L2.s_notN ?_ | refine L2.s_rI0 ?_ | refine L2.s_rU ?_ | refine L2.s_add_int ?_ | refine L2.s_lt ?_ | refine L2.s_le ?_ | refine L2.iteT ?_ | refine L2.iteF ?_ | refine L2.s_comp ?_ | refine L2.s_for ?_ | refine L2.s_rng1 ?_ | refine L2.s_rng3 ?_ | refine L2.s_exr ?_ | refine L2.s_iany ?_ | refine L2.s_irev ?_ | refine L2.s_ienum ?_ | refine L2.s_listen ?_ | refine L2.s_listrev ?_ | refine L2.s_izip ?_ | refine L2.s_ienumT ?_ | refine L2.s_listzp ?_ | refine L2.s_ipI ?_ | refine L2.s_yes ?_ | refine L2.s_turn ?_ | refine L2.s_int_b ?_ | refine L2.s_intb ?_ | refine L2.s_truth ?_ | refine L2.s_chain ?_ | refine L2.s_nt ?_ | refine L2.s_nf ?_) | ((with_reducible refine' L2.s_var ?e ?_); (case e=>exact rfl)) | ((with_reducible refine' L2.s_aug ?e ?_); (case e=>exact rfl)) | ((with_reducible refine' L2.s_eq ?e ?_); (case e=>exact rfl)) | ((with_reducible refine' L2.s_ne ?e ?_); (case e=>exact rfl)) | ((with_reducible refine' L2.s_neb ?e ?_); (case e=>exact rfl)) | ((with_reducible refine' L2.s_rI ?c ?_); (case c=>first | decide | exact ⟨by decide,by decide⟩ | exact ⟨by decide,by decide,by decide⟩)) | ((with_reducible refine' L2.s_mul_r ?a ?b ?_); (case a=>decide); (case b=>decide)) | ((with_reducible refine' L2.s_mul_l ?a ?b ?_); (case a=>decide); (case b=>decide)) | ((with_reducible refine' L2.s_exr3 ?e ?_); (case e=>decide))))
local macro_rules | `(tactic| walk_at "r")=>`(tactic| (repeat walk_at "r1"))
namespace K49
open PySem L2
section
variable {P:Program}{w:World}{K:O6}{mg:Str->Option Value}{base:Heap}
noncomputable def Nl (K:O6):Sp:=fun vs H Q _=>∃(a:Addr)(k:Int),vs=[.ref a,.int k]/\Script K H a/\0<=k/\k<=1000/\∀ z:Int,Q (.int z) H
theorem Zlp:Bl ["_law_script", "_law_k"] ["_law_script", "_law_k"] (A9 Jy):=by walk_at "sc"
theorem Zi6 {f:Addr}{fd:FuncData}(F:Fun K "_law_cell" "_law_cell" Jy f fd)(T:Txt K mg):Az P w K mg base Aw 1 f fd ["_law_script", "_law_k"] (Nl K):=by
 refine F.okq Zlp (fun vs H Q E h=>?_) (fun cdv A outer s H vs Q E hr h=>?_)
 ·obtain ⟨a,k,rfl,_⟩:=h
  rfl
 ·obtain ⟨a,k,rfl,S,h0,h9,q⟩:=h
  obtain ⟨ns,hS,hl⟩:=S.ex
  refine ⟨_,Ae (Av (Ax E4 (qv 1) (A6 (Ca K) (by rfl) T.len (by decide +kernel) (Aa (qv 0) Ab)) (As _)) (Af (Ap (Am K (qv 0) (qv 1)))) Ay)
   (Af (Ap (Ah (B5 K) (Ah Hu (qv 1) Ac) Ac))),?_⟩
  walk_at "r"
  refine Cm hS ?_
  walk_at "r"
  refine Bb (fun h=>?_) (fun h=>?_)
  ·have h1:k < (ns.map V.int).length:=by simpa using h
   obtain ⟨v,hv,m⟩:=Np h0 h1
   obtain ⟨z,_,rfl⟩:=Vc.mp m
   walk_at "r"
   exact A8 hS hv (q z)
  ·walk_at "r"
   exact q _
noncomputable def Ku:Sp:=fun vs H Q _=>∃(c k:Int),vs=[.int c,.int k]/\0<=k/\k<=1000/\∀ z:Int,0<=z->z < 999999999999999989->Q (.int z) H
theorem Zne:Bl ["_law_cell_here", "_law_k"] ["_law_cell_here", "_law_k"] (A9 J5):=by walk_at "sc"
theorem Zns {f:Addr}{fd:FuncData}(F:Fun K "_law_mixed" "_law_mixed" J5 f fd)(T:Txt K mg):Az P w K mg base Aw 1 f fd ["_law_cell_here", "_law_k"] Ku:=by
 refine F.okq Zne (fun vs H Q E h=>?_) (fun cdv A outer s H vs Q E hr h=>?_)
 ·obtain ⟨a,k,rfl,_⟩:=h
  rfl
 ·obtain ⟨a,k,rfl,h0,h9,q⟩:=h
  refine ⟨_,Af (Ap (Ah Bm (Ah Hu (Ah (B5 K) (Ah (B5 K) (qv 0) (Ah Hu Ac (qv 1))) Ac) Ac) Ac)),?_⟩
  walk_at "r"
  exact q _ (P3 _ (by decide)) (Qk _ (by decide))
noncomputable def Gp (K:O6)(n:Nat):Sp:=fun vs H Q _=>∃(x y:V)(d:Dt)(m:Nat),vs=[x,y]/\m < n/\IsD K H m x d/\IsD K H m y d/\Eg d/\∀ H',Same H H'->Q (.bl true) H'
theorem sc_law_same:Bl ["_law_found", "_law_due_here", "_law_k"] ["_law_found", "_law_due_here"] (A9 Jf):=by walk_at "sc"
theorem Zoa {n:Nat}{f:Addr}{fd:FuncData}(F:Fun K "_law_same" "_law_same" Jf f fd)(T:Txt K mg)(C__law_same:Bo P w K mg base (n+1) "_law_same" ["_law_found", "_law_due_here"] (Gp K n)):Az P w K mg base Aw (n+2) f fd ["_law_found", "_law_due_here"] (Gp K (n+1)):=by
 refine F.okq sc_law_same (fun vs H Q E h=>?_) (fun cdv A outer s H vs Q E hr h=>?_)
 ·obtain ⟨x,y,d,m,rfl,_⟩:=h
  rfl
 ·obtain ⟨x,y,d,m,rfl,hm,hx,hy,hd,q⟩:=h
  refine ⟨_,Ae (Av (QW.qt (C7 (Bt (A6 (B2 K "bool") (by rfl) T.isinstance (by decide +kernel) (Aa (qv 0) (Aa (B3 (v:=.ty "bool") (by rfl) T.bool (by decide +kernel) rfl) Ab)))) (Dn (Bt (A6 (B2 K "bool") (by rfl) T.isinstance (by decide +kernel) (Aa (qv 1) (Aa (B3 (v:=.ty "bool") (by rfl) T.bool (by decide +kernel) rfl) Ab))))))) (Af (Ap (G5 (A6 (B2 K "bool") (by rfl) T.isinstance (by decide +kernel) (Aa (qv 0) (Aa (B3 (v:=.ty "bool") (by rfl) T.bool (by decide +kernel) rfl) Ab))) (G5 (A6 (B2 K "bool") (by rfl) T.isinstance (by decide +kernel) (Aa (qv 1) (Aa (B3 (v:=.ty "bool") (by rfl) T.bool (by decide +kernel) rfl) Ab))) (Gx (Dz (A7 K hr.u200) (qv 0) (qv 1) (As _))))))) Ay)
   (Ae (Av (QW.qt (C7 (Bt (A6 (B2 K "list") (by rfl) T.isinstance (by decide +kernel) (Aa (qv 1) (Aa (B3 (v:=.ty "list") (by rfl) T.list (by decide +kernel) rfl) Ab)))) (Dn (Bt (A6 (B2 K "tuple") (by rfl) T.isinstance (by decide +kernel) (Aa (qv 1) (Aa (B3 (v:=.ty "tuple") (by rfl) T.tuple (by decide +kernel) rfl) Ab))))))) (Ae (Av (QW.qt (D9 (C0 (Bt (A6 (B2 K "list") (by rfl) T.isinstance (by decide +kernel) (Aa (qv 0) (Aa (B3 (v:=.ty "list") (by rfl) T.list (by decide +kernel) rfl) Ab))))) (Ej (C0 (Bt (A6 (B2 K "tuple") (by rfl) T.isinstance (by decide +kernel) (Aa (qv 0) (Aa (B3 (v:=.ty "tuple") (by rfl) T.tuple (by decide +kernel) rfl) Ab)))))))) (Af (Ap Cp)) Ay)
   (Ae (Av (QW.qt (C7 (Ax (Fg K hr.u200) (A6 (B2 K "list") (by rfl) T.isinstance (by decide +kernel) (Aa (qv 0) (Aa (B3 (v:=.ty "list") (by rfl) T.list (by decide +kernel) rfl) Ab))) (A6 (B2 K "list") (by rfl) T.isinstance (by decide +kernel) (Aa (qv 1) (Aa (B3 (v:=.ty "list") (by rfl) T.list (by decide +kernel) rfl) Ab))) (As _)) (Dn (Ax (Fg K hr.u200) (A6 (Ca K) (by rfl) T.len (by decide +kernel) (Aa (qv 0) Ab)) (A6 (Ca K) (by rfl) T.len (by decide +kernel) (Aa (qv 1) Ab)) (As _))))) (Af (Ap Cp)) Ay)
   (Ae (Fp Q2 rfl (Kk rfl T.range (Aa (A6 (Ca K) (by rfl) T.len (by decide +kernel) (Aa (qv 1) Ab)) Ab)) (Bu (i:=2) sc_law_same.nd rfl (Or.inl rfl)) (Af (Av (C0 (Bt (Ba C__law_same (hr.mono (by omega)) (Aa (Am K (qv 0) (qv 2)) (Aa (Am K (qv 1) (qv 2)) Ab))))) (Af (Ap Cp)) Ay)))
   (Af (Ap Cp))))) Ay)
   (Ae (Av (Bt (A6 (B2 K "str") (by rfl) T.isinstance (by decide +kernel) (Aa (qv 1) (Aa (B3 (v:=.ty "str") (by rfl) T.str (by decide +kernel) rfl) Ab)))) (Af (Ap (G5 (A6 (B2 K "str") (by rfl) T.isinstance (by decide +kernel) (Aa (qv 0) (Aa (B3 (v:=.ty "str") (by rfl) T.str (by decide +kernel) rfl) Ab))) (Gx (Dz (A7 K hr.u200) (qv 0) (qv 1) (As _)))))) Ay)
   (Ae (Av (Bt (A6 (B2 K "int") (by rfl) T.isinstance (by decide +kernel) (Aa (qv 1) (Aa (B3 (v:=.ty "int") (by rfl) T.int (by decide +kernel) rfl) Ab)))) (Af (Ap (G5 (A6 (B2 K "int") (by rfl) T.isinstance (by decide +kernel) (Aa (qv 0) (Aa (B3 (v:=.ty "int") (by rfl) T.int (by decide +kernel) rfl) Ab))) (Gx (Dz (A7 K hr.u200) (qv 0) (qv 1) (As _)))))) Ay)
   (Af (Ap (G5 (Ka (Ht (qv 0))) (Gx (Ka (Ht (qv 1)))))))))),?_⟩
  have bg:=big
  cases hx with
  | flat hv =>
   cases hy with
   | flat _ =>
   cases x with
   | non =>
    walk_at "r"
    refine Bw (b:=false) .non rfl ?_
    walk_at "r"
    refine Bw (b:=false) .non rfl ?_
    walk_at "r"
    refine Bw (b:=false) .non rfl ?_
    walk_at "r"
    refine Bw (b:=false) .non rfl ?_
    walk_at "r"
    refine Bw (b:=false) .non rfl ?_
    walk_at "r"
    refine Bw (b:=false) .non rfl ?_
    walk_at "r"
    rw [decide_eq_true (Eq.refl _)]
    walk_at "r"
    rw [decide_eq_true (Eq.refl _)]
    walk_at "r"
    exact q H (Same.refl _)
   | bl b =>
    walk_at "r"
    refine Bw (b:=true) (.bl b) rfl ?_
    walk_at "r"
    refine Bw (b:=true) (.bl b) rfl ?_
    walk_at "r"
    refine Bw (b:=true) (.bl b) rfl ?_
    walk_at "r"
    rw [decide_eq_true (Eq.refl _)]
    walk_at "r"
    exact q H (Same.refl _)
   | int b =>
    walk_at "r"
    refine Bw (b:=false) (.int b) rfl ?_
    walk_at "r"
    refine Bw (b:=false) (.int b) rfl ?_
    walk_at "r"
    refine Bw (b:=false) (.int b) rfl ?_
    walk_at "r"
    refine Bw (b:=false) (.int b) rfl ?_
    walk_at "r"
    refine Bw (b:=false) (.int b) rfl ?_
    walk_at "r"
    refine Bw (b:=true) (.int b) rfl ?_
    walk_at "r"
    refine Bw (b:=true) (.int b) rfl ?_
    walk_at "r"
    rw [decide_eq_true (Eq.refl _)]
    walk_at "r"
    exact q H (Same.refl _)
   | str b =>
    walk_at "r"
    refine Bw (b:=false) (.str b) rfl ?_
    walk_at "r"
    refine Bw (b:=false) (.str b) rfl ?_
    walk_at "r"
    refine Bw (b:=false) (.str b) rfl ?_
    walk_at "r"
    refine Bw (b:=false) (.str b) rfl ?_
    walk_at "r"
    refine Bw (b:=true) (.str b) rfl ?_
    walk_at "r"
    refine Bw (b:=true) (.str b) rfl ?_
    walk_at "r"
    rw [decide_eq_true (Eq.refl _)]
    walk_at "r"
    exact q H (Same.refl _)
   | _=>exact absurd hv (by simp [Cy])
  | @tup k a vs ds qa la ha =>
   cases hy with
   | @tup _ c ws _ qc lc hc =>
   cases hd with
   | tup hl hds =>
   walk_at "r"
   refine D0 (b:=false) qa rfl ?_
   walk_at "r"
   refine D0 (b:=false) qc rfl ?_
   walk_at "r"
   refine D0 (b:=false) qc rfl ?_
   walk_at "r"
   refine D0 (b:=true) qc rfl ?_
   walk_at "r"
   refine D0 (b:=false) qa rfl ?_
   walk_at "r"
   refine D0 (b:=true) qa rfl ?_
   walk_at "r"
   refine D0 (b:=false) qa rfl ?_
   walk_at "r"
   refine D0 (b:=false) qc rfl ?_
   walk_at "r"
   rw [decide_eq_true (Eq.refl _)]
   walk_at "r"
   refine En qa ?_
   walk_at "r"
   refine En qc ?_
   walk_at "r"
   rw [la,lc,decide_eq_true (Eq.refl _)]
   walk_at "r"
   refine En qc ?_
   walk_at "r"
   rw [lc]
   refine ⟨by omega,by omega,?_⟩
   refine Jc (n:=(ds.length:Int).toNat) (fun i σ' H'=>∃ v2,σ'=[some (.ref a),some (.ref c),v2]/\Same H H') ⟨none,rfl,Same.refl _⟩ ?_ ?_
   ·rintro i σ' H' hi ⟨v2,rfl,sm⟩
    have hi:i < ds.length:=by omega
    have e0:(0:Int)+(i:Int)=((i:Nat):Int):=by omega
    rw [e0]
    have hiv:i < vs.length:=by omega
    have hiw:i < ws.length:=by omega
    walk_at "r"
    refine A5 (sm.tup qa) (Dc (Pa hiv)) ?_
    walk_at "r"
    refine A5 (sm.tup qc) (Dc (Pa hiw)) ?_
    walk_at "r"
    refine ⟨vs[i],ws[i],ds[i],k,rfl,by omega,(ha i _ _ (Pa hiv) (Pa hi)).same sm,(hc i _ _ (Pa hiw) (Pa hi)).same sm,hds _ (Vy hi),fun H2 s2=>?_⟩
    walk_at "r"
    exact ⟨_,rfl,sm.trans s2⟩
   ·rintro σ' H' ⟨v2,rfl,sm⟩
    walk_at "r"
    exact q H' sm
  | @lst k a vs ds qa la ha =>
   cases hy with
   | @lst _ c ws _ qc lc hc =>
   cases hd with
   | lst hl hds =>
   walk_at "r"
   refine Ff (b:=false) qa rfl ?_
   walk_at "r"
   refine Ff (b:=false) qc rfl ?_
   walk_at "r"
   refine Ff (b:=true) qc rfl ?_
   walk_at "r"
   refine Ff (b:=true) qa rfl ?_
   walk_at "r"
   refine Ff (b:=true) qa rfl ?_
   walk_at "r"
   refine Ff (b:=true) qc rfl ?_
   walk_at "r"
   rw [decide_eq_true (Eq.refl _)]
   walk_at "r"
   refine Cm qa ?_
   walk_at "r"
   refine Cm qc ?_
   walk_at "r"
   rw [la,lc,decide_eq_true (Eq.refl _)]
   walk_at "r"
   refine Cm qc ?_
   walk_at "r"
   rw [lc]
   refine ⟨by omega,by omega,?_⟩
   refine Jc (n:=(ds.length:Int).toNat) (fun i σ' H'=>∃ v2,σ'=[some (.ref a),some (.ref c),v2]/\Same H H') ⟨none,rfl,Same.refl _⟩ ?_ ?_
   ·rintro i σ' H' hi ⟨v2,rfl,sm⟩
    have hi:i < ds.length:=by omega
    have e0:(0:Int)+(i:Int)=((i:Nat):Int):=by omega
    rw [e0]
    have hiv:i < vs.length:=by omega
    have hiw:i < ws.length:=by omega
    walk_at "r"
    refine A8 (sm.seq qa) (Dc (Pa hiv)) ?_
    walk_at "r"
    refine A8 (sm.seq qc) (Dc (Pa hiw)) ?_
    walk_at "r"
    refine ⟨vs[i],ws[i],ds[i],k,rfl,by omega,(ha i _ _ (Pa hiv) (Pa hi)).same sm,(hc i _ _ (Pa hiw) (Pa hi)).same sm,hds _ (Vy hi),fun H2 s2=>?_⟩
    walk_at "r"
    exact ⟨_,rfl,sm.trans s2⟩
   ·rintro σ' H' ⟨v2,rfl,sm⟩
    walk_at "r"
    exact q H' sm
noncomputable def LETS:Str := "abcdefghijklmnopqrstuvwxyz_"
theorem Zdl:LETS.cps.toList.length=27:=by decide +kernel
theorem Zqa:LETS.length<=sizeLine:=by decide +kernel
theorem Zg5 (u v:Str):(u++v).length=u.length+v.length:=by
 show (u.cps++v.cps).size=_
 simp [Str.length]
theorem Zfs (c:Nat):(⟨#[c]⟩:Str).length=1:=rfl
theorem Zky {α:Type}{xs:List α}{i:Int}{x:α}(h0:0<=i)(h:Ck xs i=some x):xs[i.toNat]?=some x:=by
 unfold Ck Fo at h
 rw [if_pos h0] at h
 by_cases hl:i < (xs.length:Int)
 ·rw [if_pos hl] at h
  simpa using h
 ·rw [if_neg hl] at h
  simp at h
noncomputable def BB (a m:Int):Int:=a / 64 / (m+1)+5 * m
noncomputable def At27 (B:Int)(n:Nat)(j:Int)(x:Str):Prop:=x.cps.toList[n]?=LETS.cps.toList[((B+j) % 27).toNat]?
noncomputable def Oj (ts:List Str):Prop:=∀ i j x y,i < 5->5<=j->j < 8->ts[i]?=some x->ts[j]?=some y->x≠y
theorem Zo4:∀ i < 27,∀ j < 27,LETS.cps.toList[i]?=LETS.cps.toList[j]?->i=j:=by decide +kernel
theorem Zh3 {ts:List Str}{B:Int}{n:Nat}(h:∀(i:Nat) x,ts[i]?=some x->At27 B n (i:Nat) x):Oj ts:=fun i j x y hi h5 hj ex ey e=>by
 have h1:=h i x ex
 have h2:=h j y ey
 rw [<- e] at h2
 unfold At27 at h1 h2
 have:=Zo4 _ (by omega) _ (by omega) (h1.symm.trans h2)
 omega
theorem Zp3 {u v:Str}{n:Nat}{c:Nat}(h:u.cps.toList[n]?=some c):(u++v).cps.toList[n]?=some c:=by
 show (u.cps++v.cps).toList[n]?=some c
 rw [Array.toList_append]
 exact (Qa (Pq.mp h).1).trans h
theorem Zij {u:Str}{n c:Nat}(h:u.length=n):(u++(⟨#[c]⟩:Str)).cps.toList[n]?=some c:=by
 show (u.cps++#[c]).toList[n]?=some c
 rw [Array.toList_append,P6 (by rw [R7];exact Nat.le_of_eq h),R7,show u.cps.size=n from h,Rb]
 rfl
theorem At27.some {B:Int}{n:Nat}{j:Int}{x:Str}(h:At27 B n j x):∃ c,x.cps.toList[n]?=some c/\LETS.cps.toList[((B+j) % 27).toNat]?=some c:=by
 unfold At27 at h
 have hl:((B+j) % 27).toNat < LETS.cps.toList.length:=by rw [Zdl];omega
 rw [Pa hl] at h
 exact ⟨_,h,Pa hl⟩
theorem At27.more {B:Int}{n:Nat}{j:Int}{x y:Str}(h:At27 B n j x):At27 B n j (x++y):=by
 obtain ⟨c,h1,h2⟩:=h.some
 unfold At27
 rw [h2]
 exact Zp3 h1
noncomputable def Zcq:Sp:=fun vs H Q _=>∃(a:Int),vs=[.int a,.int 8]/\∀(p:Addr)(ts:List Str)(H':Hp),Same H H'->H p=none->ts.length=8->Oj ts->H' p=some (.lst (ts.map V.str))->Q (.ref p) H'
theorem sc_law_names:Bl ["_law_cell_here", "_law_many", "_law_signs", "_law_kept", "_law_size", "_law_at", "_law_names_here", "_law_k", "_law_word", "_law_j", "_law_step"] ["_law_cell_here", "_law_many"] (A9 Ky):=by walk_at "sc"
noncomputable def Kx:List V:=[.str "let",.str "in",.str "if",.str "then",.str "else",.str "fn",.str "rec",.str "yes",.str "no"]
noncomputable def NmJ (H:Hp)(a:Int)(D p:Addr)(j:Nat)(σ':St)(H':Hp):Prop:=∃(v7 v8 v9 v10:Option V)(ts:List Str),σ'=[some (.int a),some (.int 8),some (.str LETS),some (.ref D),some (.int (1+a % 8)),some (.int (a / 8 % (1+a % 8))),some (.ref p),v7,v8,v9,v10]/\H' D=some (.lst Kx)/\H' p=some (.lst (ts.map V.str))/\ts.length=j/\(∀(i:Nat) x,ts[i]?=some x->At27 (BB a (a / 8 % (1+a % 8))) (a / 8 % (1+a % 8)).toNat (i:Nat) x)/\Same H H'
theorem Zgi {f:Addr}{fd:FuncData}(F:Fun K "_law_names" "_law_names" Ky f fd)(T:Txt K mg)(C__law_mixed:Bo P w K mg base 1 "_law_mixed" ["_law_cell_here", "_law_k"] Ku):Az P w K mg base Aw 2 f fd ["_law_cell_here", "_law_many"] Zcq:=by
 refine F.okq sc_law_names (fun vs H Q E h=>?_) (fun cdv A outer s H vs Q E hr h=>?_)
 ·obtain ⟨a,rfl,_⟩:=h
  rfl
 ·obtain ⟨a0,rfl,q⟩:=h
  refine ⟨_,Ae (Au 2 sc_law_names Aj)
   (Ae (Au 3 sc_law_names (Bg (Kl (xs:=[.str "let",.str "in",.str "if",.str "then",.str "else",.str "fn",.str "rec",.str "yes",.str "no"]) rfl)))
   (Ae (Au 0 sc_law_names (Ba C__law_mixed hr.m (Aa (qv 0) (Aa Ac Ab))))
   (Ae (Au 4 sc_law_names (Ah (B5 K) Ac (Ah Bm (qv 0) Ac)))
   (Ae (Au 5 sc_law_names (Ah Bm (Ah C4 (qv 0) Ac) (qv 4)))
   (Ae (Au 6 sc_law_names (Bg Ab))
   (Ae (Fp Q2 rfl (Kk rfl T.range (Aa (qv 1) Ab)) (Bu (i:=7) sc_law_names.nd rfl (Or.inl rfl)) (Ae (Au 8 sc_law_names Aj)
   (Ae (Fp Q2 rfl (Kk rfl T.range (Aa (qv 4) Ab)) (Bu (i:=9) sc_law_names.nd rfl (Or.inl rfl)) (Ae (Au 10 sc_law_names (Ah (B5 K) (Ah C4 (Ah C4 (qv 0) Ac) (Ah (B5 K) (qv 9) Ac)) (Ah Hu Ac (qv 9))))
   (Af (Au 8 sc_law_names (Ah (B5 K) (qv 8) (Am K (qv 2) (Ah Bm (Ah (B5 K) (qv 10) (Ah Hu (qv 7) (Fl Zkn (by rfl) T.int (by decide +kernel) (Aa (Dz (A7 K hr.u200) (qv 9) (qv 5) (As _)) Ab)))) Ac)))))))
   (Ae (Av (Ax (Hw K) (qv 8) (qv 3) (by rfl)) (Af (Au 8 sc_law_names (Ah (B5 K) (qv 8) Aj))) Ay)
   (Af (Cc (Db K Py Qc Qd Dg (qv 6) (Aa (qv 8) Ab))))))))
   (Af (Ap (qv 6))))))))),?_⟩
  have bg:=big
  walk_at "r"
  refine ⟨sz9,fun D hD=>?_⟩
  walk_at "r"
  refine ⟨a0,3,rfl,by decide,by decide,fun a ha0 ha1=>?_⟩
  have hs0:0<=a % 8:=P3 a (by decide)
  have hs1:a % 8 < 8:=Qk a (by decide)
  walk_at "r"
  refine s_rI (by show (0:Int) < 1+a % 8;omega) ?_
  walk_at "r"
  refine ⟨Bk,fun p hp=>?_⟩
  have hpD:D≠p:=fun z=>by rw [<- z,Ad] at hp;cases hp
  have hp0:H p=none:=(Same.upd hD).free hp
  have sm0:Same H (upd (upd H D (.lst Kx)) p (.lst [])):=(Same.upd (o:=.lst Kx) hD).put hp
  have hD0:upd (upd H D (.lst Kx)) p (.lst []) D=some (.lst Kx):=by rw [Ai hpD];exact Ad
  walk_at "r"
  refine ⟨by decide,by decide,?_⟩
  refine Jc (n:=8) (NmJ H a D p) ⟨_,_,_,_,[],rfl,hD0,Ad,rfl,(fun i x h=>by simp at h),sm0⟩ ?_ ?_
  ·rintro j σ' H2 hj ⟨v7,v8,v9,v10,ts,rfl,hD2,hp2,hl2,hd2,sm2⟩
   walk_at "r"
   refine ⟨by omega,by omega,?_⟩
   refine Jc (n:=(1+a % 8).toNat) (fun k σ' H'=>∃ v9 v10 t,σ'=[some (.int a),some (.int 8),some (.str LETS),some (.ref D),some (.int (1+a % 8)),some (.int (a / 8 % (1+a % 8))),some (.ref p),some (.int (0+j)),some (.str t),v9,v10]/\t.length=k/\((a / 8 % (1+a % 8)).toNat < k->At27 (BB a (a / 8 % (1+a % 8))) (a / 8 % (1+a % 8)).toNat (j:Nat) t)/\H'=H2) ⟨_,_,Str.empty,rfl,rfl,(fun h=>absurd h (by omega)),rfl⟩ ?_ ?_
   ·rintro k σ' H3 hk ⟨v9',v10',t,rfl,hl3,ht3,rfl⟩
    walk_at "r"
    refine s_rI (by show (0:Int) < 0+k+1/\(0:Int)+k+1 < 1073741824;omega) ?_
    walk_at "r"
    refine s_mul_r (by split <;> decide) (by split <;> decide) ?_
    walk_at "r"
    obtain ⟨c,hc,_⟩:=Np (xs:=LETS.cps.toList) (i:=(a / 64 / (0+(k:Int)+1)+5 * (0+(k:Int))+(0+(j:Int)) * (if decide (V.int (0+(k:Int))=V.int (a / 8 % (1+a % 8)))=true then 1 else 0)) % 27) (P3 _ (by decide)) (by rw [Zdl];exact Qk _ (by decide))
    refine Ziq Zqa hc ?_
    refine Ms (by rw [Zfs];omega) ?_
    refine ⟨_,_,_,rfl,by rw [Zg5,Zfs];omega,fun hlt=>?_,rfl⟩
    by_cases e:(a / 8 % (1+a % 8)).toNat < k
    ·exact (ht3 e).more
    ·have hm0:0<=a / 8 % (1+a % 8):=P3 _ (by omega)
     have ek:(k:Int)=a / 8 % (1+a % 8):=by omega
     unfold At27
     rw [show (a / 8 % (1+a % 8)).toNat=k by omega,Zij hl3,<- ek]
     rw [<- ek,if_pos (decide_eq_true (by rw [Int.zero_add]))] at hc
     have:=Zky (P3 _ (by decide)) hc
     rw [<- this]
     unfold BB
     rw [show a / 64 / (0+(k:Int)+1)+5 * (0+(k:Int))+(0+(j:Int)) * 1=a / 64 / ((k:Int)+1)+5 * (k:Int)+(j:Int) by rw [Int.zero_add,Int.zero_add,Int.mul_one]]
   ·rintro σ' H3 ⟨v9',v10',t,rfl,hl3,ht3,rfl⟩
    walk_at "r"
    refine F8 (.inl (SqL.of hD2)) rfl rfl ?_
    have htt:=ht3 (by have:=Qk (a / 8) (show (0:Int) < 1+a % 8 by omega);have:=P3 (a / 8) (show (1:Int)+a % 8≠0 by omega);omega)
    have fin:∀(t':Str),At27 (BB a (a / 8 % (1+a % 8))) (a / 8 % (1+a % 8)).toNat (j:Nat) t'->NmJ H a D p (j+1) [some (.int a),some (.int 8),some (.str LETS),some (.ref D),some (.int (1+a % 8)),some (.int (a / 8 % (1+a % 8))),some (.ref p),some (.int (0+(j:Int))),some (.str t'),v9',v10'] (upd H3 p (.lst (ts.map V.str++[.str t']))):=fun t' h27 =>
     ⟨_,_,_,_,ts++[t'],rfl,by rw [Ai hpD];exact hD2,by rw [Ad,Pz];rfl,by simp [hl2],(fun i x hx=>by
      by_cases e:i < ts.length
      ·rw [Qa e] at hx
       exact hd2 i x hx
      ·rw [P6 (by omega)] at hx
       have e0:i - ts.length=0:=by
        have:=(Pq.mp hx).1
        rw [Pl] at this
        omega
       rw [e0] at hx
       cases hx
       rw [show i=j by omega]
       exact h27),sm2.over hp0⟩
    walk_at "r"
    refine Bb (fun _=>?_) (fun _=>?_)
    ·walk_at "r"
     have l1:(Qj "_").length=1:=by decide +kernel
     refine Ms (by rw [l1];omega) ?_
     walk_at "r"
     refine Cj (SqL.of hp2) ?_
     walk_at "r"
     refine Dh hp2 (by rw [Ph];omega) ?_
     exact fin _ htt.more
    ·walk_at "r"
     refine Cj (SqL.of hp2) ?_
     walk_at "r"
     refine Dh hp2 (by rw [Ph];omega) ?_
     exact fin _ htt
  ·rintro σ' H2 ⟨v7,v8,v9,v10,ts,rfl,hD2,hp2,hl2,hd2,sm2⟩
   walk_at "r"
   exact q p ts _ sm2 hp0 hl2 (Zh3 hd2) hp2
noncomputable def Zdf:Sp:=fun vs H Q _=>∃ c:Int,vs=[.int c]/\∀ z:Int,Q (.int z) H
theorem Znt:Bl ["_law_cell_here"] ["_law_cell_here"] (A9 K0):=by walk_at "sc"
theorem Zmb {f:Addr}{fd:FuncData}(F:Fun K "_law_number" "_law_number" K0 f fd)(T:Txt K mg):Az P w K mg base Aw 1 f fd ["_law_cell_here"] Zdf:=by
 refine F.okq Znt (fun vs H Q E h=>?_) (fun cdv A outer s H vs Q E hr h=>?_)
 ·obtain ⟨c,rfl,_⟩:=h
  rfl
 ·obtain ⟨c,rfl,q⟩:=h
  refine ⟨_,Ae (Av (Ax (A7 K hr.u200) (Ah Bm (qv 0) Ac) Ac (As _)) (Af (Ap (Ah Bm (Ah C4 (qv 0) Ac) Ac))) Ay)
   (Ae (Av (Ax (A7 K hr.u200) (Ah Bm (qv 0) Ac) Ac (As _)) (Af (Ap (Ah Ds (Ah Ds (Ah Ii Ac Ac) Ac) (Ah Bm (Ah C4 (qv 0) Ac) Ac)))) Ay)
   (Af (Ap (Ah Bm (Ah Hu (qv 0) Ac) (Ah Ii Ac Ac))))),?_⟩
  walk_at "r"
  refine Bb (fun h=>?_) (fun h=>?_)
  ·walk_at "r"
   exact q _
  walk_at "r"
  refine Bb (fun h=>?_) (fun h=>?_)
  ·walk_at "r"
   exact q _
  walk_at "r"
  exact q _
end
noncomputable def B9 (wd:Str):Option (List Int):=if wd∈(["plus", "minus", "less", "call"]:List Str) then some [1,0] else if wd∈(["if", "let"]:List Str) then some [0] else none
noncomputable def WA:List Str:=["gap", "fn", "rec", "if"]
structure Mc (K:O6)(C:Addr):Prop where
 cl:Cls K C
 nf:NoAttr K C "forms"
 nr:NoAttr K C "rows"
 nw:NoAttr K C "waiting"
 nt:NoAttr K C "things"
 ns:NoAttr K C "steps"
theorem Mv (L:Ml)(n:Int):(L.fs n).lookup ("forms" : Str)=some (V.ref L.fd):=rfl
theorem J9 (L:Ml)(n:Int):(L.fs n).lookup ("rows" : Str)=some (V.ref L.rd):=rfl
theorem Hf (L:Ml)(n:Int):(L.fs n).lookup ("waiting" : Str)=some (V.ref L.wd):=rfl
theorem F0 (L:Ml)(n:Int):(L.fs n).lookup ("things" : Str)=some (V.ref L.td):=rfl
theorem Jm (L:Ml)(n:Int):(L.fs n).lookup ("steps" : Str)=some (V.int n):=rfl
theorem Zf1 (L:Ml)(n k:Int):Ak "steps" (.int k) (L.fs n)=L.fs k:=rfl
theorem Zkz (L:Ml)(n:Int)(t:Addr):Ak "things" (.ref t) (L.fs n)=(L.with t).fs n:=rfl
theorem Dm (L:Ml)(n:Int):(L.fs n).lookup ("make_steps" : Str)=none/\(L.fs n).lookup ("new_row" : Str)=none/\(L.fs n).lookup ("thing_of_leaf" : Str)=none/\(L.fs n).lookup ("come_to" : Str)=none/\(L.fs n).lookup ("go_further" : Str)=none/\(L.fs n).lookup ("taken_things" : Str)=none/\(L.fs n).lookup ("thing_at_the_end" : Str)=none/\(L.fs n).lookup ("thing_of_form" : Str)=none:=⟨rfl,rfl,rfl,rfl,rfl,rfl,rfl,rfl⟩
theorem Zq6 {ws:List Str}:(ws.map V.str).all Cy=true:=by rw [List.all_map];exact Ru.mpr fun _ _=>rfl
theorem G7 {t:Str}{ws:List Str}:Ef (.str t) (ws.map V.str)=decide (t∈ws):=by
 unfold Ef
 rw [List.any_map]
 by_cases hm:t∈ws
 ·rw [decide_eq_true hm]
  exact List.any_eq_true.mpr ⟨t,hm,by show (t == t)=true;simp⟩
 ·rw [decide_eq_false hm]
  exact Bool.eq_false_iff.mpr fun h=>by
   obtain ⟨x,hx,e⟩:=List.any_eq_true.mp h
   have e:(x == t)=true:=e
   have e:x=t:=by simpa using e
   exact hm (by rw [<- e];exact hx)
section
variable {P:Program}{w:World}{K:O6}{mg:Str->Option Value}{base:Heap}
noncomputable def Nu (K:O6)(C:Addr):Sp:=fun vs H Q _=>∃(n:Int)(HB:Hp)(kvs:List (List Aq×V))(L:Ml)(S:MS),vs=[.ref L.m,.int n]/\MAt K HB C kvs L H S/\S.steps+n<=500/\∀ H',SameM L H H'->MAt K HB C kvs L H' { S with steps:=S.steps+n }->Q .non H'
theorem Zct:Bl ["self", "many"] ["self", "many"] (A9 Iv):=by walk_at "sc"
theorem Zl0 {C:Addr}{f:Addr}{fd:FuncData}(F:Fun K "make_steps" "Machine.make_steps" Iv f fd)(T:Txt K mg)(O:Mc K C)(G_MOST_STEPS:Fc mg "MOST_STEPS" (.int 500)):Az P w K mg base Aw 1 f fd ["self", "many"] (Nu K C):=by
 refine F.okq Zct (fun vs H Q E h=>?_) (fun cdv A outer s H vs Q E hr h=>?_)
 ·obtain ⟨n,HB,kvs,L,S,rfl,_⟩:=h
  rfl
 ·obtain ⟨n,HB,kvs,L,S,rfl,M,hn,q⟩:=h
  refine ⟨_,Ae (Zfd K (qv 0) (qv 1) Zfj)
   (Af (Av (Ax G6 (Cb K (qv 0)) (F3 G_MOST_STEPS) (As _)) (Af Zhj) Ay)),?_⟩
  walk_at "r"
  refine ⟨_,rfl,L.m,C,L.dx,_,_,rfl,M.ins,O.cl,O.ns,Jm L S.steps,_,rfl,?_⟩
  refine ⟨_,_,rfl,rfl,L.dx,_,M.ins,by show 5 < 1000;decide,?_⟩
  rw [Zf1]
  have M1:=M.setSteps (S.steps+n)
  have e1:SameM L H (upd H L.m (.ins C L.dx (L.fs (S.steps+n)))):=SameM.upd (.inl rfl)
  revert M1 e1
  generalize upd H L.m (.ins C L.dx (L.fs (S.steps+n)))=H1
  intro M1 e1
  walk_at "r"
  refine ⟨_,rfl,L.m,C,L.dx,_,_,rfl,M1.ins,O.cl,O.ns,Jm L (S.steps+n),?_⟩
  walk_at "r"
  rw [decide_eq_false (by omega)]
  walk_at "r"
  exact q _ e1 M1
noncomputable def Lo (K:O6)(C:Addr):Sp:=fun vs H Q _=>∃(wd:Str)(p o e:Addr)(pl:List Nat)(ov ev:List V)(ops:List (Str×V))(ar:List (Str×Str×V))(HB:Hp)(kvs:List (List Aq×V))(L:Ml)(S:MS),vs=[.ref L.m,.str wd,.ref p,.ref o,.ref e]/\MAt K HB C kvs L H S/\H p=some (.tup (Bp pl))/\SqL K H o ov/\Al (ThAt K H) ov ops/\SqL K H e ev/\Al (PrAt K H) ev ar/\S.rows.length < 10000 /\
 ∀ v H',SameM L H H'->MAt K HB C kvs L H' { S with rows:=S.rows++[⟨wd,An pl,ops,if wd∈WA then ar else []⟩] }->ThAt K H' v ("row",.int (S.rows.length:Nat))->Q v H'
theorem Zgg:Bl ["self", "word", "place", "operands", "around", "kept"] ["self", "word", "place", "operands", "around"] (A9 La):=by walk_at "sc"
theorem viaV {t:TE}{σ:St}{H:Hp}{Q:VK}(R:V->Hp->Prop)(h2:∀ x H',R x H'->Q x H')(h1:∀ Q':VK,(∀ x H',R x H'->Q' x H')->t σ H Q'):t σ H Q:=h1 Q h2
theorem Zls {C:Addr}{f:Addr}{fd:FuncData}(F:Fun K "new_row" "Machine.new_row" La f fd)(T:Txt K mg)(O:Mc K C){aw:Addr}(G_WORDS_WITH_AROUND:Fc mg "WORDS_WITH_AROUND" (.ref aw))(hwa:∀ H,SqT K H aw (WA.map V.str)):Az P w K mg base Aw 1 f fd ["self", "word", "place", "operands", "around"] (Lo K C):=by
 refine F.okq Zgg (fun vs H Q E h=>?_) (fun cdv A outer s H vs Q E hr h=>?_)
 ·obtain ⟨wd,p,o,e,pl,ov,ev,ops,ar,HB,kvs,L,S,rfl,_⟩:=h
  rfl
 ·obtain ⟨wd,p,o,e,pl,ov,ev,ops,ar,HB,kvs,L,S,rfl,M,hp,ho,alo,he,ale,hz,q⟩:=h
  refine ⟨_,Ae (Au 5 Zgg (Zbp (Ax (Hw K) (qv 1) (F3 G_WORDS_WITH_AROUND) (by rfl)) (Fl (Zaa K) (by rfl) T.list (by decide +kernel) (Aa (qv 4) Ab)) (Bg Ab)))
   (Ae (Cc (Db K Py Qc Qd Dg (Cb K (qv 0)) (Aa (Ag (Aa (qv 1) (Aa (qv 2) (Aa (Fl (Zaa K) (by rfl) T.list (by decide +kernel) (Aa (qv 3) Ab)) (Aa (qv 5) Ab))))) Ab)))
   (Af (Ap (Ag (Aa Aj (Aa (Ah Ds (A6 (Ca K) (by rfl) T.len (by decide +kernel) (Aa (Cb K (qv 0)) Ab)) Ac) Ab)))))),?_⟩
  have bg:=big
  walk_at "r"
  have kept:Al (PrAt K H) (if wd∈WA then ev else []) (if wd∈WA then ar else []):=by
   by_cases hw:wd∈WA
   ·rw [if_pos hw,if_pos hw];exact ale
   ·rw [if_neg hw,if_neg hw];exact .nil
  refine viaV (R:=fun x H'=>∃ k,x=.ref k/\H k=none/\H'=upd H k (.lst (if wd∈WA then ev else []))) ?_ (fun Q' hQ=>?_)
  ·rintro _ _ ⟨k,rfl,hk,rfl⟩
   have s1:Same H (upd H k (.lst (if wd∈WA then ev else []))):=Same.upd hk
   have e1:upd H k (.lst (if wd∈WA then ev else [])) k=some (.lst (if wd∈WA then ev else [])):=Ad
   revert s1 e1 kept
   generalize (if wd∈WA then ev else [])=kv
   generalize (if wd∈WA then ar else [])=ka at q ⊢
   generalize upd H k (.lst kv)=H1
   intro kept s1 e1
   have M1:=M.new s1
   obtain ⟨rv,er,arr,spr⟩:=M1.rows
   walk_at "r"
   refine ⟨_,rfl,L.m,C,L.dx,_,_,rfl,M1.ins,O.cl,O.nr,J9 L S.steps,?_⟩
   refine Cj (SqL.of er) ?_
   walk_at "r"
   refine ⟨_,ov,rfl,.inl (s1.seq ho),fun o2 ho2=>?_⟩
   have s2:Same H1 (upd H1 o2 (.lst ov)):=Same.upd ho2
   have e2:upd H1 o2 (.lst ov) o2=some (.lst ov):=Ad
   have e12:=s2 _ _ e1
   revert s2 e2 e12
   generalize upd H1 o2 (.lst ov)=H2
   intro s2 e2 e12
   walk_at "r"
   refine ⟨F5,fun r hr=>?_⟩
   obtain ⟨H3,s3,e3,z9⟩:=D4 hr (.tup [.str wd,.ref p,.ref o2,.ref k])
   rw [z9]
   have s13:=s2.trans s3
   have s03:=s1.trans s13
   have M3:=M.new s03
   have hrl:rv.length=S.rows.length:=arr.1
   walk_at "r"
   refine Dh (s13 _ _ er) (by omega) ?_
   obtain ⟨rv0,er0,_,sp0⟩:=M.rows
   obtain ⟨wv0,ew0,_⟩:=M.wait
   obtain ⟨tv0,et0,_⟩:=M.things
   have nb:∀ b,H b=none->¬ (L.A b\/HB b≠none):=by
    intro b hb hx
    rcases hx with (z | z | z) | z
    ·rw [z,er0] at hb;cases hb
    ·rw [z,ew0] at hb;cases hb
    ·rw [z,et0] at hb;cases hb
    ·cases h:HB b with
     | none=>exact z h
     | some ob=>rw [M.base _ _ h] at hb;cases hb
   have rw4:RwO K (fun b=>L.A b\/HB b≠none) H3 (.ref r) (⟨wd,An pl,ops,ka⟩,o2,k):=⟨r,p,ov,kv,rfl,SqT.of e3,by rw [Ib];exact SqT.of (s03 _ _ hp),s3 _ _ e2,alo.mono (ThAt.same s03.t),s3 _ _ e12,kept.mono (PrAt.same s03.t),nb _ (s1.free ho2),nb _ hk,fun z=>by rw [show o2=k from z,e1] at ho2;cases ho2⟩
   have sp4:SepR K (fun b=>L.A b\/HB b≠none) H3 (rv++[.ref r]) (S.rows++[⟨wd,An pl,ops,ka⟩]):=SepR.add (H:=H) (by rw [show rv=rv0 from by have h:=s1 _ _ er0;rw [er] at h;cases h;rfl];exact sp0) s03 (s1.free ho2) hk rw4
   have M4:=M3.setRows (rv:=rv++[.ref r]) (rs:=S.rows++[⟨wd,An pl,ops,ka⟩]) ((arr.mono (RwX.same s13.a)).snoc ⟨⟨r,p,o2,k,ov,kv,rfl,SqT.of e3,by rw [Ib];exact SqT.of (s03 _ _ hp),s3 _ _ e2,alo.mono (ThAt.same s03.t),s3 _ _ e12,kept.mono (PrAt.same s03.t),nb _ (s1.free ho2),nb _ hk⟩,r,p,o2,k,rfl,SqT.of e3,by rw [Ib];exact s03 _ _ hp⟩) sp4
   have e4:SameM L H (upd H3 L.rd (.lst (rv++[.ref r]))):=(s03.m L).trans (SameM.upd (.inr (.inl rfl)))
   have er4:upd H3 L.rd (.lst (rv++[.ref r])) L.rd=some (.lst (rv++[.ref r])):=Ad
   revert M4 e4 er4
   generalize upd H3 L.rd (.lst (rv++[.ref r]))=H4
   intro M4 e4 er4
   walk_at "r"
   refine ⟨_,rfl,L.m,C,L.dx,_,_,rfl,M4.ins,O.cl,O.nr,J9 L S.steps,?_⟩
   walk_at "r"
   refine Cm (SqL.of er4) ?_
   walk_at "r"
   refine ⟨Bh,fun t ht=>?_⟩
   have e5:(((rv++[V.ref r]).length:Nat):Int) - 1=((S.rows.length:Nat):Int):=by rw [Pg,Pl];omega
   rw [e5]
   have s5:Same H4 (upd H4 t (.tup [.str "row",.int (S.rows.length:Nat)])):=Same.upd ht
   exact q _ _ (e4.trans (s5.m L)) (M4.new s5) ⟨rfl,t,rfl,SqT.of Ad⟩
  ·unfold tIf
   walk_at "r"
   refine F8 (.inr (hwa _)) rfl Zq6 ?_
   rw [if_neg Pi,G7]
   refine ⟨_,rfl,?_⟩
   refine Bb (fun h=>?_) (fun h=>?_)
   ·have h:wd∈WA:=of_decide_eq_true h
    walk_at "r"
    refine ⟨_,ev,rfl,.inl he,fun k hk=>?_⟩
    exact hQ _ _ ⟨k,rfl,hk,by rw [if_pos h]⟩
   ·have h:¬ wd∈WA:=fun x=>h (decide_eq_true x)
    walk_at "r"
    refine ⟨Bk,fun k hk=>?_⟩
    exact hQ _ _ ⟨k,rfl,hk,by rw [if_neg h]⟩
noncomputable def Cd (S:MS)(wd:Str)(nv:V)(pl:List Nat)(ar:List (Str×Str×V)):(Str×V)×MS :=
 if wd∈(["num", "truth"]:List Str) then ((wd,nv),S)
 else match (match nv with | .str z=>if wd = "name" then Ce ar z else none | _=>none) with
  | some th=>(th,S)
  | none=>(("row",.int (S.rows.length:Nat)),{ S with rows:=S.rows++[⟨wd,An pl,[],if wd∈WA then ar else []⟩] })
noncomputable def Zad (K:O6)(C:Addr):Sp:=fun vs H Q _=>∃(wd:Str)(nv:V)(p e:Addr)(pl:List Nat)(ev:List V)(ar:List (Str×Str×V))(HB:Hp)(kvs:List (List Aq×V))(L:Ml)(S:MS),vs=[.ref L.m,.str wd,nv,.ref p,.ref e]/\MAt K HB C kvs L H S/\H p=some (.tup (Bp pl))/\SqL K H e ev/\Al (PrAt K H) ev ar/\S.rows.length < 10000/\(wd∈(["num", "truth"]:List Str)->Cy nv=true)/\(wd = "name" -> ∃ z,nv=.str z) /\
 ∀ v H',SameM L H H'->MAt K HB C kvs L H' (Cd S wd nv pl ar).2->ThAt K H' v (Cd S wd nv pl ar).1->Q v H'
theorem Zdd:Bl ["self", "word", "note", "place", "around", "bound"] ["self", "word", "note", "place", "around"] (A9 K5):=by walk_at "sc"
theorem Zkm {C:Addr}{f:Addr}{fd:FuncData}(F:Fun K "thing_of_leaf" "Machine.thing_of_leaf" K5 f fd)(T:Txt K mg)(O:Mc K C)(MR:Da Aw P w K mg base 1 C "new_row" ["self", "word", "place", "operands", "around"] (Lo K C)):Az P w K mg base Aw 2 f fd ["self", "word", "note", "place", "around"] (Zad K C):=by
 refine F.okq Zdd (fun vs H Q E h=>?_) (fun cdv A outer s H vs Q E hr h=>?_)
 ·obtain ⟨wd,nv,p,e,pl,ev,ar,HB,kvs,L,S,rfl,_⟩:=h
  rfl
 ·obtain ⟨wd,nv,p,e,pl,ev,ar,HB,kvs,L,S,rfl,M,hp,he,ale,hz,hf,hnm,q⟩:=h
  refine ⟨_,Ae (Av (Ax (Hw K) (qv 1) (Ag (Aa Aj (Aa Aj Ab))) (by rfl)) (Af (Ap (Ag (Aa (qv 1) (Aa (qv 2) Ab))))) Ay)
   (Ae (Au 5 Zdd (Fl (Zfe K hr.u200 rfl) (by rfl) T.dict (by decide +kernel) (Aa (qv 4) Ab)))
   (Ae (Av (QW.qt (D9 (Ax (A7 K hr.u200) (qv 1) Aj (As _)) (Ej (Oh (Zq7 hr.u1 (qv 2) (qv 5)))))) (Af (Ap (K7 hr.u1 (qv 5) (qv 2) (fun _ _=>rfl)))) Ay)
   (Af (Ap (Dj (k:=1) K Aw ["self", "word", "place", "operands", "around"] (qv 0) hr.m Dp (Aa (qv 1) (Aa (qv 3) (Aa (Bg Ab) (Aa (qv 4) Ab))))))))),?_⟩
  have bg:=big
  unfold Cd at q
  walk_at "r"
  refine ⟨Bh,fun p1 h1=>?_⟩
  refine F8 (.inr (SqT.of Ad)) rfl rfl ?_
  have s1:Same H (upd H p1 (.tup [.str "num",.str "truth"])):=Same.upd h1
  rw [if_neg Pi,show Ef (.str wd) [.str "num",.str "truth"]=decide (wd∈(["num", "truth"]:List Str)) from G7 (ws:=["num", "truth"])]
  revert s1
  generalize upd H p1 (.tup [.str "num",.str "truth"])=H1
  intro s1
  walk_at "r"
  refine Bb (fun h=>?_) (fun h=>?_)
  ·have h:wd∈(["num", "truth"]:List Str):=of_decide_eq_true h
   rw [if_pos h] at q
   walk_at "r"
   refine ⟨Bh,fun p2 h2=>?_⟩
   have s2:=s1.put (o:=.tup [.str wd,nv]) h2
   exact q _ _ (s2.m L) (M.new s2) ⟨hf h,p2,rfl,SqT.of Ad⟩
  have h:¬ wd∈(["num", "truth"]:List Str):=fun x=>h (decide_eq_true x)
  rw [if_neg h] at q
  walk_at "r"
  obtain ⟨bk,alk,look⟩:=Zjo (K:=K) (H:=H1) ev ar (ale.mono (PrAt.same s1.t))
  refine ⟨e,ev,rfl,s1.seq he,.inl ⟨bk,alk,fun d hd=>?_⟩⟩
  obtain ⟨H2,s2,e2,z9⟩:=D4 hd (.dK (B1 [] bk))
  rw [z9]
  have s02:=s1.trans s2
  have M2:=M.new s02
  have row:(match nv with | .str z=>if wd = "name" then Ce ar z else none | _=>none)=none->∀ l,H2 l=none->Lo K C [.ref L.m,.str wd,.ref p,.ref l,.ref e] (upd H2 l (.lst [])) Q E0:=by
   intro hn l hl
   rw [hn] at q
   have s3:=s02.put (o:=.lst []) hl
   refine ⟨wd,p,l,e,pl,[],ev,[],ar,HB,kvs,L,S,rfl,M.new s3,s3 _ _ hp,SqL.of Ad,.nil,s3.seq he,ale.mono (PrAt.same s3.t),hz,fun v H' e' M' t'=>q v H' ((s3.m L).trans e') M' t'⟩
  walk_at "r"
  by_cases hw:wd = "name"
  ·subst hw
   obtain ⟨z,rfl⟩:=hnm rfl
   rw [decide_eq_true (Eq.refl _)]
   refine iteT ?_
   refine ⟨_,rfl,_,rfl,d,_,rfl,DGet.k (k:=Sum.inr z) e2,?_⟩
   rw [M9]
   rcases look z with ⟨l1,l2⟩ | ⟨u,th,l1,l2,t⟩
   ·rw [l1]
    refine ⟨false,rfl,?_⟩
    refine iteF ?_
    walk_at "r"
    refine ⟨_,rfl,L.m,C,L.dx,_,_,rfl,M2.ins,(Dm L S.steps).2.1,MR,?_⟩
    walk_at "r"
    refine ⟨Bk,fun l hl=>?_⟩
    walk_at "r"
    exact row (by simp [l2]) l hl
   ·rw [l1]
    refine ⟨true,rfl,?_⟩
    refine iteT ?_
    walk_at "r"
    refine ⟨_,rfl,_,rfl,d,u,rfl,?_,?_⟩
    ·rw [<- l1,<- M9]
     exact DGet.k (k:=Sum.inr z) e2
    ·have e:(match V.str z with | .str z=>if ("name" : Str) = "name" then Ce ar z else none | _=>none)=some th:=by simp [l2]
     rw [e] at q
     exact q _ _ (s02.m L) M2 (ThAt.same s2.t _ _ t)
  ·rw [decide_eq_false (fun h=>hw (V.str.inj h))]
   walk_at "r"
   refine ⟨_,rfl,L.m,C,L.dx,_,_,rfl,M2.ins,(Dm L S.steps).2.1,MR,?_⟩
   walk_at "r"
   refine ⟨Bk,fun l hl=>?_⟩
   walk_at "r"
   refine row ?_ l hl
   cases nv <;> simp [hw]
noncomputable def C1:Dt->V
 | .flat v=>v
 | _=>.non
noncomputable def Fa (S:MS)(wd:Str)(d:Dt)(pl:List Nat)(ar:List (Str×Str×V)):MS :=
 let S1:=if wd = "gap" then S else { S with steps:=S.steps+1 }
 match B9 wd with
 | some ns=>{ S1 with wait:=(S1.wait++[⟨pl,ar,true⟩])++ns.map fun n=>⟨pl++[n.toNat],ar,false⟩ }
 | none=>{ (Cd S1 wd (C1 d) pl ar).2 with things:=(Cd S1 wd (C1 d) pl ar).2.things++[(Cd S1 wd (C1 d) pl ar).1] }
noncomputable def Lr (wd:Str)(d:Dt):Prop:=(wd∈(["num", "truth"]:List Str)->∃ v,d=.flat v)/\(wd = "name" -> ∃ z,d=.flat (.str z))
noncomputable def Zd6 (K:O6)(C:Addr):Sp:=fun vs H Q _=>∃(p e:Addr)(pl:List Nat)(ev:List V)(ar:List (Str×Str×V))(HB:Hp)(kvs:List (List Aq×V))(L:Ml)(S:MS)(v:V)(wd:Str)(d:Dt)(ts:List Tr),vs=[.ref L.m,.ref p,.ref e]/\MAt K HB C kvs L H S/\H p=some (.tup (Bp pl))/\H e=some (.lst ev)/\Al (PrAt K H) ev ar/\¬ L.A e/\B4 kvs (Df pl)=some v/\TrAt K H v (.mk wd d ts)/\Lr wd d/\pl.length<=2000/\S.rows.length < 9000/\S.wait.length < 9000/\S.things.length < 9000/\(wd ≠ "gap" -> S.steps+1<=500) /\
 ∀ H',SameM L H H'->MAt K HB C kvs L H' (Fa S wd d pl ar)->Q .non H'
theorem Zds:(["number", "around", "place"]:List Str).Nodup:=by decide +kernel
theorem sc_Machine_come_to:Bl ["self", "place", "around", "word", "note"] ["self", "place", "around"] (A9 Ie):=by walk_at "sc"
theorem Zld {wd:Str}{ns:List Int}(h:B9 wd=some ns):ns.length<=2/\∀ n∈ns,0<=n:=by
 unfold B9 at h
 split at h
 ·cases h;exact ⟨by decide,by decide⟩
 split at h
 ·cases h;exact ⟨by decide,by decide⟩
 ·cases h
theorem Zg2 {K:O6}{H:Hp}{S:MS}{wd:Str}{nv:V}{d:Dt}{pl:List Nat}{ar:List (Str×Str×V)}(h:IsN K H nv d)(hn:Lr wd d):Cd S wd nv pl ar=Cd S wd (C1 d) pl ar:=by
 rcases h with ⟨_,rfl⟩ | ⟨a,vs,rfl,_,_,rfl⟩
 ·rfl
 ·have h1:¬ wd∈(["num", "truth"]:List Str):=fun x=>by obtain ⟨v,e⟩:=hn.1 x;cases e
  unfold Cd
  rw [if_neg h1,if_neg h1]
  rfl
theorem Zju (S:MS)(wd:Str)(nv:V)(pl:List Nat)(ar:List (Str×Str×V)):(Cd S wd nv pl ar).2.things=S.things:=by
 unfold Cd
 split
 ·rfl
 split <;> rfl
theorem Zkd {C:Addr}{f:Addr}{fd:FuncData}(F:Fun K "come_to" "Machine.come_to" Ie f fd)(T:Txt K mg)(O:Mc K C){ap:Addr}{pk:List (Str×V)}(G_PARTS_AWAITED:Fc mg "PARTS_AWAITED" (.ref ap))(hpa:Gq P w K ap pk)(hpk:∀ wd,(Dl pk wd).isSome=(B9 wd).isSome/\∀ ns,B9 wd=some ns->∃ b,Dl pk wd=some (.ref b)/\∀ H,SqT K H b (ns.map V.int))
  (MS_:Da Aw P w K mg base 1 C "make_steps" ["self", "many"] (Nu K C)) (MLf:Da Aw P w K mg base 2 C "thing_of_leaf" ["self", "word", "note", "place", "around"] (Zad K C)):Az P w K mg base Aw 3 f fd ["self", "place", "around"] (Zd6 K C):=by
 refine F.okq sc_Machine_come_to (fun vs H Q E h=>?_) (fun cdv A outer s H vs Q E hr h=>?_)
 ·obtain ⟨p,e,pl,ev,ar,HB,kvs,L,S,v,wd,d,ts,rfl,_⟩:=h
  rfl
 ·obtain ⟨p,e,pl,ev,ar,HB,kvs,L,S,v,wd,d,ts,rfl,M,hp,he,ale,nA,hv,ht,nok,hpl,z1,z2,z3,z4,q⟩:=h
  refine ⟨_,Ae (Kc (El (Eh K) (K7 hr.u1 (Cb K (qv 0)) (qv 1) (fun _ _=>rfl)) (Eo) (Dd Ac)) (Gf K (n:=2) rfl (Cs (Bu (i:=3) sc_Machine_come_to.nd rfl (Or.inl rfl)) (Cs (Bu (i:=4) sc_Machine_come_to.nd rfl (Or.inl rfl)) (Ge)))))
   (Ae (Av (Ax (Fg K hr.u200) (qv 3) Aj (As _)) (Af (Cc (Dj (k:=1) K Aw ["self", "many"] (qv 0) hr.m Dp (Aa Ac Ab)))) Ay)
   (Af (Av (Ax (Zcy P w K) (qv 3) (F3 G_PARTS_AWAITED) (by rfl)) (Ae (Cc (Db K Py Qc Qd Dg (Cb K (qv 0)) (Aa (Ag (Aa (qv 1) (Aa (qv 2) (Aa Cp Ab)))) Ab)))
   (Af (Cc (Db K Py PySem.F.slot_list_extend PySem.F.type_list_extend Zfy (Cb K (qv 0)) (Aa (Lj (N:=["number", "around", "place"]) (σ0:=Fb 1 [2,1]) rfl (Iq rfl (by decide +kernel) (by decide +kernel) (by decide +kernel)) (Fh K (M0 (Zat P w K) (F3 G_PARTS_AWAITED) (qv 3) (fun _ _=>rfl))) (Ja rfl (by rfl)) (fun _ _ _ _=>Bu (i:=0) Zds rfl (Or.inl rfl)) (fun _ _ _ _=>Jq) (fun _ _ _ _=>Ag (Aa (Ah (Lp K) (qv 2) (Ag (Aa (qv 0) Ab))) (Aa (qv 1) (Aa Cp Ab))))) Ab))))) (Af (Cc (Db K Py Qc Qd Dg (Cb K (qv 0)) (Aa (Dj (k:=2) K Aw ["self", "word", "note", "place", "around"] (qv 0) hr.m Dp (Aa (qv 3) (Aa (qv 4) (Aa (qv 1) (Aa (qv 2) Ab))))) Ab))))))),?_⟩
  have bg:=big
  cases ht with
  | @mk b pp _ nv _ vs _ qb hn qpp hl hch =>
  walk_at "r"
  refine ⟨_,rfl,L.m,C,L.dx,_,_,rfl,M.ins,O.cl,O.nf,Mv L S.steps,_,rfl,L.fd,.ref b,rfl,?_,?_⟩
  ·rw [<- hv]
   refine DGet.t M.frm ?_
   rw [Ko]
   exact hp
  walk_at "r"
  refine .inr (.inr ⟨b,_,rfl,qb,by show ¬(HT.sIx 3 0 none=0/\HT.sIx 3 3 (some 2)=3);decide,fun p1 h1=>?_⟩)
  rw [show C3 [V.str wd,nv,.ref pp] none (some 2)=[V.str wd,nv] from rfl]
  have s1:Same H (upd H p1 (.tup [.str wd,nv])):=Same.upd h1
  have e1:upd H p1 (.tup [.str wd,nv]) p1=some (.tup [.str wd,nv]):=Ad
  have hp1:=s1 _ _ hp
  have he1:=s1 _ _ he
  have M1:=M.new s1
  have hn1:IsN K (upd H p1 (.tup [.str wd,nv])) nv d:=hn.same s1.t
  revert s1 e1 hp1 he1 M1 hn1
  generalize upd H p1 (.tup [.str wd,nv])=H1
  intro s1 e1 hp1 he1 M1 hn1
  refine Fe (SqT.of e1) rfl ?_
  refine s_gcons ?_
  refine s_gname ?_
  refine s_gcons ?_
  refine s_gname ?_
  refine s_gnil ?_
  with_reducible refine s_seq ?_
  obtain ⟨S1,hS1⟩:∃ S1,S1=(if wd = "gap" then S else { S with steps:=S.steps+1 }):=⟨_,rfl⟩
  refine via (t:=Cw _ _ _) (R:=fun H2=>SameM L H1 H2/\MAt K HB C kvs L H2 S1) ?_ (fun Y hY=>?_)
  ·rintro H2 ⟨m2,M2⟩
   have a2:=M1.a m2
   have t2:=M1.t m2
   have hp2:=(t2 p).1 _ hp1
   have he2:=a2.2 _ _ nA he1
   have ale2:Al (PrAt K H2) ev ar:=ale.mono (PrAt.same (s1.t.trans t2))
   have m02:SameM L H H2:=(s1.m L).trans m2
   have hn2:IsN K H2 nv d:=hn1.same t2
   obtain ⟨y1,y2,y3⟩:S1.rows=S.rows/\S1.wait=S.wait/\S1.things=S.things:=by
    rw [hS1]
    split <;> exact ⟨rfl,rfl,rfl⟩
   have q:∀ H',SameM L H H'->MAt K HB C kvs L H' (match B9 wd with
    | some ns=>{ S1 with wait:=(S1.wait++[⟨pl,ar,true⟩])++ns.map fun n=>⟨pl++[n.toNat],ar,false⟩ }
    | none=>{ (Cd S1 wd (C1 d) pl ar).2 with things:=(Cd S1 wd (C1 d) pl ar).2.things++[(Cd S1 wd (C1 d) pl ar).1] })->Q .non H':=by
    intro H' e' M'
    refine q H' e' ?_
    unfold Fa
    rw [<- hS1]
    exact M'
   walk_at "r"
   refine ⟨wd,ap,pk,rfl,rfl,hpa,?_⟩
   rw [(hpk wd).1]
   cases hpw:B9 wd with
   | none =>
    rw [hpw] at q
    walk_at "r"
    refine iteF ?_
    walk_at "r"
    obtain ⟨tv,et,att⟩:=M2.things
    refine ⟨_,rfl,L.m,C,L.dx,_,_,rfl,M2.ins,O.cl,O.nt,F0 L S1.steps,?_⟩
    refine Cj (SqL.of et) ?_
    walk_at "r"
    refine ⟨_,rfl,L.m,C,L.dx,_,_,rfl,M2.ins,(Dm L S1.steps).2.2.1,MLf,?_⟩
    walk_at "r"
    refine ⟨wd,nv,p,e,pl,ev,ar,HB,kvs,L,S1,rfl,M2,hp2,SqL.of he2,ale2,by rw [y1];omega,(fun x=>by
     obtain ⟨v,rfl⟩:=nok.1 x
     rcases hn2 with ⟨h,_⟩ | ⟨a,vs,_,_,_,h⟩
     ·exact h
     ·cases h),(fun x=>by
     obtain ⟨z,rfl⟩:=nok.2 x
     rcases hn2 with ⟨_,h⟩ | ⟨a,vs,_,_,_,h⟩
     ·injection h with h;exact ⟨z,h.symm⟩
     ·cases h),fun v H3 e3 M3 t3=>?_⟩
    rw [Zg2 hn2 nok] at M3 t3
    obtain ⟨tv3,et3,at3⟩:=M3.things
    have hl3:tv3.length=S.things.length:=by rw [at3.1,Zju,y3]
    walk_at "r"
    refine Dh et3 (by omega) ?_
    have M4:=M3.setThings (at3.snoc t3)
    walk_at "r"
    exact q _ (m02.trans (e3.trans (SameM.upd (.inr (.inr (.inr rfl)))))) M4
   | some ns =>
    rw [hpw] at q
    obtain ⟨nl,nn⟩:=Zld hpw
    obtain ⟨bt,hbt,qbt⟩:=(hpk wd).2 ns hpw
    walk_at "r"
    refine iteT ?_
    walk_at "r"
    obtain ⟨wv,ew,aw⟩:=M2.wait
    have hwl:wv.length=S.wait.length:=by rw [aw.1,y2]
    refine ⟨_,rfl,L.m,C,L.dx,_,_,rfl,M2.ins,O.cl,O.nw,Hf L S1.steps,?_⟩
    refine Cj (SqL.of ew) ?_
    walk_at "r"
    refine ⟨Bf,fun r hr'=>?_⟩
    obtain ⟨H3,s3,e3,z9⟩:=D4 hr' (.tup [.ref p,.ref e,.bl true])
    rw [z9]
    walk_at "r"
    refine Dh (s3 _ _ ew) (by omega) ?_
    have M3:=M2.new s3
    have M4:=M3.setWait (wv:=wv++[.ref r]) (ws:=S1.wait++[⟨pl,ar,true⟩]) ((aw.mono (WtAt.same s3.a)).snoc ⟨r,p,e,ev,rfl,SqT.of e3,s3 _ _ hp2,s3 _ _ he2,ale2.mono (PrAt.same s3.t),nA⟩)
    have m34:SameM L H3 (upd H3 L.wd (.lst (wv++[.ref r]))):=SameM.upd (.inr (.inr (.inl rfl)))
    have ew4:upd H3 L.wd (.lst (wv++[.ref r])) L.wd=some (.lst (wv++[.ref r])):=Ad
    revert M4 m34 ew4
    generalize upd H3 L.wd (.lst (wv++[.ref r]))=H4
    intro M4 m34 ew4
    have t4:=M3.t m34
    have hp4:=(t4 p).1 _ (s3 _ _ hp2)
    have he4:=(M3.a m34).2 _ _ nA (s3 _ _ he2)
    have ale4:Al (PrAt K H4) ev ar:=ale2.mono (PrAt.same (s3.t.trans t4))
    have m04:SameM L H H4:=m02.trans ((s3.m L).trans m34)
    walk_at "r"
    refine ⟨_,rfl,L.m,C,L.dx,_,_,rfl,M4.ins,O.cl,O.nw,Hf L S1.steps,?_⟩
    refine Cj (SqL.of ew4) ?_
    walk_at "r"
    refine ⟨ap,pk,wd,.ref bt,rfl,rfl,hpa,hbt,.inr (.inl ⟨bt,rfl,⟨_,qbt _⟩,fun D hD=>?_⟩)⟩
    obtain ⟨rv4,er4,_⟩:=M4.rows
    obtain ⟨tv4,et4,_⟩:=M4.things
    have nD:¬ L.A D:=by
     rintro (z | z | z)
     ·rw [z,er4] at hD;cases hD
     ·rw [z,ew4] at hD;cases hD
     ·rw [z,et4] at hD;cases hD
    refine Zrh (K:=K) (a:=bt) (xs:=ns.map V.int) (Pv:=fun i ys σ' H'=>∃ kv,σ'=[kv,some (.ref e),some (.ref p)]/\Al (WtAt K (fun b=>L.A b\/b=D) H') ys ((ns.take i).map fun n=>⟨pl++[n.toNat],ar,false⟩)/\Same H4 H') ⟨none,rfl,.nil,Same.upd hD⟩ (fun i ys σ' H' _ _=>qbt _) ?_ ?_
    ·rintro i x ys σ' H5 hx hys ⟨kv,rfl,al5,s5⟩
     rw [Ql] at hx
     obtain ⟨n,hni,rfl⟩:=Q7.mp hx
     have hin:i < ns.length:=(Pq.mp hni).1
     have n0:=nn n (Qs hni)
     obtain ⟨k,rfl⟩:∃ k:Nat,n=(k:Int):=⟨n.toNat,by omega⟩
     have hyl:ys.length<=2:=by rw [al5.1,Ph,Qo];omega
     walk_at "r"
     refine ⟨B7,fun p6 h6=>?_⟩
     obtain ⟨H6,s6,e6,z9⟩:=D4 h6 (.tup [.int (k:Nat)])
     rw [z9]
     refine Zav (s6 _ _ (s5 _ _ hp4)) e6 (by unfold Bp;rw [Ph,Pl];omega) fun p7 H7 s7 e7=>?_
     walk_at "r"
     refine ⟨Bf,fun p8 h8=>?_⟩
     obtain ⟨H8,s8,e8,z9⟩:=D4 h8 (.tup [.ref p7,.ref e,.bl false])
     rw [z9]
     have s58:=s6.trans (s7.trans s8)
     have s48:=s5.trans s58
     refine ⟨_,s58 _ _ hys,by omega,_,Ad,?_⟩
     have hD8:=s58 _ _ hys
     have sA:SameA (fun b=>L.A b\/b=D) H8 (upd H8 D (.lst (ys++[.ref p8]))):=SameA.set hD8 (.inr rfl)
     have nED:e≠D:=fun z=>by rw [<- z,he4] at hD;cases hD
     ·refine ⟨_,rfl,?_,s48.over hD⟩
      rw [Uk,hni,Option.toList_some,Pz,List.map_singleton]
      refine (al5.mono fun v x h=>WtAt.same sA v x (WtAt.same s58.a v x h)).snoc (WtAt.same sA _ _ ⟨p8,p7,e,ev,rfl,SqT.of e8,?_,s48 _ _ he4,ale4.mono (PrAt.same s48.t),fun h=>h.elim nA nED⟩)
      have e9:=s8 _ _ e7
      show H8 p7=some (.tup (Bp (pl++[((k:Nat):Int).toNat])))
      rw [show Bp (pl++[((k:Nat):Int).toNat])=Bp pl++[.int ((k:Nat):Int)] by unfold Bp;rw [Pz];simp]
      exact e9
    ·rintro ys σ' H5 hys ⟨kv,rfl,al5,s5⟩
     rw [Ph,Rv] at al5
     have al5:=al5.mono (WtAt.mono (B:=L.A) fun b hb _=>.inl hb)
     walk_at "r"
     have hyl:ys.length<=2:=by rw [al5.1,Ph];omega
     refine ⟨L.wd,D,_,ys,rfl,rfl,s5 _ _ ew4,hys,by rw [Pg,Pl];omega,?_⟩
     have M5:=M4.new s5
     obtain ⟨wv5,ew5,aw5⟩:=M5.wait
     have ew5':wv5=wv++[.ref r]:=by rw [s5 _ _ ew4] at ew5;cases ew5;rfl
     subst ew5'
     have M6:=M5.setWait (aw5.append al5)
     walk_at "r"
     exact q _ (m04.trans ((s5.m L).trans (SameM.upd (.inr (.inr (.inl rfl)))))) M6
  ·walk_at "r"
   by_cases hg:wd = "gap"
   ·rw [decide_eq_true (by rw [hg])]
    walk_at "r"
    exact hY _ ⟨SameM.refl _ _,by rw [hS1,if_pos hg];exact M1⟩
   ·rw [decide_eq_false (fun h=>hg (V.str.inj h))]
    walk_at "r"
    refine ⟨_,rfl,L.m,C,L.dx,_,_,rfl,M1.ins,(Dm L S.steps).1,MS_,?_⟩
    walk_at "r"
    refine ⟨1,HB,kvs,L,S,rfl,M1,z4 hg,fun H2 e2 M2=>?_⟩
    walk_at "r"
    exact hY _ ⟨e2,by rw [hS1,if_neg hg];exact M2⟩
theorem Zk0 (xs:List V)(n:Nat)(h0:0 < n)(h:n<=xs.length):C3 xs (some (-(n:Int))) none=xs.drop (xs.length - n)/\C3 xs none (some (-(n:Int)))=xs.take (xs.length - n):=by
 unfold C3
 have e:∀ d,HT.sIx xs.length d (some (-(n:Int)))=xs.length - n:=by
  intro d
  show (if (-(n:Int)) < 0 then ((-(n:Int))+(xs.length:Int)).toNat else min (-(n:Int)).toNat xs.length)=_
  rw [if_pos (by omega)]
  omega
 rw [e,e,HT.sIx_none,HT.sIx_none,Vb,List.drop_zero]
 refine ⟨?_,rfl⟩
 rw [Uc (by rw [R8];omega)]
noncomputable def Zc0 (K:O6)(C:Addr):Sp:=fun vs H Q _=>∃(n:Nat)(th last:List (Str×V))(HB:Hp)(kvs:List (List Aq×V))(L:Ml)(S:MS),vs=[.ref L.m,.int (n:Nat)]/\MAt K HB C kvs L H S/\0 < n/\S.things=th++last/\last.length=n /\
 ∀(l t:Addr)(lv:List V)(H':Hp),SameM L H H'->MAt K HB C kvs (L.with t) H' { S with things:=th }->H t=none->H' l=some (.lst lv)->Al (ThAt K H') lv last->H l=none->l≠t->Q (.ref l) H'
theorem Zff:Bl ["self", "many", "taken"] ["self", "many"] (A9 Kq):=by walk_at "sc"
theorem Znj {C:Addr}{f:Addr}{fd:FuncData}(F:Fun K "taken_things" "Machine.taken_things" Kq f fd)(T:Txt K mg)(O:Mc K C):Az P w K mg base Aw 1 f fd ["self", "many"] (Zc0 K C):=by
 refine F.okq Zff (fun vs H Q E h=>?_) (fun cdv A outer s H vs Q E hr h=>?_)
 ·obtain ⟨n,th,last,HB,kvs,L,S,rfl,_⟩:=h
  rfl
 ·obtain ⟨n,th,last,HB,kvs,L,S,rfl,M,n0,hS,hln,q⟩:=h
  refine ⟨_,Ae (Au 2 Zff (El (Eh K) (Cb K (qv 0)) (Dd (Hx Iu (qv 1))) (Eo)))
   (Ae (Iz K (qv 0) (El (Eh K) (Cb K (qv 0)) (Eo) (Dd (Hx Iu (qv 1)))))
   (Af (Ap (qv 2)))),?_⟩
  obtain ⟨tv,et,att⟩:=M.things
  have hlt:tv.length=th.length+n:=by rw [att.1,hS,Pg,hln]
  obtain ⟨c1,c2⟩:=Zk0 tv n n0 (by omega)
  have e0:tv.length - n=th.length:=by omega
  rw [e0] at c1 c2
  rw [hS] at att
  walk_at "r"
  refine ⟨_,rfl,L.m,C,L.dx,_,_,rfl,M.ins,O.cl,O.nt,F0 L S.steps,?_⟩
  walk_at "r"
  refine Ez (SqL.of et) fun l hl=>?_
  rw [c1]
  obtain ⟨H1,s1,e1,z9⟩:=D4 hl (.lst (tv.drop th.length))
  rw [z9]
  have M1:=M.new s1
  walk_at "r"
  refine ⟨_,rfl,L.m,C,L.dx,_,_,rfl,M1.ins,O.cl,O.nt,F0 L S.steps,?_⟩
  walk_at "r"
  refine Ez (SqL.of (s1 _ _ et)) fun t ht=>?_
  rw [c2]
  obtain ⟨H2,s2,e2,z9⟩:=D4 ht (.lst (tv.take th.length))
  rw [z9]
  have s02:=s1.trans s2
  have M2:=M.new s02
  have hlt':l≠t:=fun z=>by rw [<- z,e1] at ht;cases ht
  have ht0:=s1.free ht
  have a1:Al (ThAt K H2) (tv.take th.length) th:=⟨by rw [Qo];omega,fun j v x f1 f2=>by
   have hj:j < th.length:=(Pq.mp f2).1
   rw [List.getElem?_take_of_lt hj] at f1
   exact ThAt.same s02.t _ _ (att.2 j v x f1 (by rw [Qa hj];exact f2))⟩
  have a2:Al (ThAt K H2) (tv.drop th.length) last:=⟨by rw [R8];omega,fun j v x f1 f2=>by
   rw [List.getElem?_drop] at f1
   exact ThAt.same s02.t _ _ (att.2 (th.length+j) v x f1 (by rw [P6 (by omega),Nat.add_sub_cancel_left];exact f2))⟩
  obtain ⟨M3,e3⟩:=M.swap s02 ht0 e2 a1
  refine ⟨_,rfl,L.m,C,L.dx,_,rfl,M2.ins,O.cl,O.nt,by show 5 < 1000;decide,?_⟩
  rw [Zkz]
  have nlm:l≠L.m:=fun z=>by rw [z,M.ins] at hl;cases hl
  walk_at "r"
  refine q l t _ _ e3 M3 ht0 ((Ai nlm).trans (s2 _ _ e1)) (a2.mono (ThAt.same ?_)) hl hlt'
  exact M2.t (SameM.upd (.inl rfl))
theorem Bv (a b:Str):decide (V.str a=V.str b)=decide (a=b):=by
 by_cases h:a=b
 ·rw [decide_eq_true h,decide_eq_true (by rw [h])]
 ·rw [decide_eq_false h,decide_eq_false (fun x=>h (V.str.inj x))]
noncomputable def Ij (ops:List (Str×V)):Bool:=ops.all fun x=>decide (x.1=("num" : Str))
noncomputable def Zen (K:O6):Sp:=fun vs H Q _=>∃(o:Addr)(ov:List V)(ops:List (Str×V)),vs=[.ref o]/\H o=some (.lst ov)/\Al (ThAt K H) ov ops/\ops.length<=1000/\∀ H',Same H H'->Q (.bl (Ij ops)) H'
theorem Zrq:(["thing"]:List Str).Nodup:=by decide +kernel
theorem Zmg:Bl ["things"] ["things"] (A9 Kn):=by walk_at "sc"
theorem Zhg {f:Addr}{fd:FuncData}(F:Fun K "are_numbers" "are_numbers" Kn f fd)(T:Txt K mg):Az P w K mg base Aw 1 f fd ["things"] (Zen K):=by
 refine F.okq Zmg (fun vs H Q E h=>?_) (fun cdv A outer s H vs Q E hr h=>?_)
 ·obtain ⟨o,ov,ops,rfl,_⟩:=h
  rfl
 ·obtain ⟨o,ov,ops,rfl,ho,al,hl,q⟩:=h
  refine ⟨_,Af (Ap (A6 (Zjd K rfl) (by rfl) T.all (by decide +kernel) (Aa (Lj (N:=["thing"]) (σ0:=Fb 1 []) rfl (Iq rfl (by decide +kernel) (by decide +kernel) (by decide +kernel)) (Fh K (qv 0)) (Ja rfl (by rfl)) (fun _ _ _ _=>Bu (i:=0) Zrq rfl (Or.inl rfl)) (fun _ _ _ _=>Jq) (fun _ _ _ _=>Dz (A7 K hr.u200) (Am K (qv 0) Ac) Aj (As _))) Ab))),?_⟩
  have bg:=big
  have hlen:=al.1
  walk_at "r"
  refine .inl ⟨o,rfl,⟨_,SqL.of ho⟩,fun D hD=>?_⟩
  refine Lv (K:=K) (a:=o) (xs:=ov) (Pv:=fun i ys σ' H'=>∃ kv,σ'=[kv]/\ys=((ops.take i).map fun x:Str×V=>decide (x.1=("num" : Str))).map V.bl/\Same H H') ⟨none,rfl,rfl,Same.upd hD⟩ ?_ ?_ ?_
  ·rintro i ys σ' H' _ ⟨kv,_,_,sm⟩
   exact SqL.of (sm _ _ ho)
  ·rintro i x ys σ' H' hx hys ⟨kv,rfl,rfl,sm⟩
   obtain ⟨y,hy,_,a,rfl,qa⟩:=al.get hx
   have hi:i < ov.length:=(Pq.mp hx).1
   walk_at "r"
   refine A5 (sm.tup qa) rfl ?_
   walk_at "r"
   rw [Bv]
   refine ⟨_,hys,by rw [Ph,Ph,Qo];omega,_,Ad,_,rfl,?_,sm.over hD⟩
   rw [Uk,hy,Option.toList_some,Pz,Pz]
   rfl
  ·rintro ys σ' H' hys ⟨kv,rfl,rfl,sm⟩
   walk_at "r"
   refine ⟨D,_,rfl,SqL.of hys,?_⟩
   walk_at "r"
   have q':=q H' sm
   rw [hlen,Rv]
   unfold Ij at q'
   rw [List.all_map]
   exact q'
noncomputable def Es (wd:Str)(i j:Int):Str×V:=if wd = "plus" then ("num",.int (i+j)) else if wd = "minus" then ("num",.int (i - j)) else ("truth",.bl (decide (i < j)))
noncomputable def Zcf (K:O6):Sp:=fun vs H Q _=>∃(wd:Str)(i j:Int),vs=[.str wd,.int i,.int j]/\∀ v H',Same H H'->ThAt K H' v (Es wd i j)->Q v H'
theorem Zre:Bl ["word", "left", "right"] ["word", "left", "right"] (A9 Jz):=by walk_at "sc"
theorem Zlm {f:Addr}{fd:FuncData}(F:Fun K "reckoned" "reckoned" Jz f fd)(T:Txt K mg):Az P w K mg base Aw 1 f fd ["word", "left", "right"] (Zcf K):=by
 refine F.okq Zre (fun vs H Q E h=>?_) (fun cdv A outer s H vs Q E hr h=>?_)
 ·obtain ⟨wd,i,j,rfl,_⟩:=h
  rfl
 ·obtain ⟨wd,i,j,rfl,q⟩:=h
  refine ⟨_,Ae (Av (Ax (A7 K hr.u200) (qv 0) Aj (As _)) (Af (Ap (Ag (Aa Aj (Aa (Ah (B5 K) (qv 1) (qv 2)) Ab))))) Ay)
   (Ae (Av (Ax (A7 K hr.u200) (qv 0) Aj (As _)) (Af (Ap (Ag (Aa Aj (Aa (Ah Ds (qv 1) (qv 2)) Ab))))) Ay)
   (Af (Ap (Ag (Aa Aj (Aa (Dz E4 (qv 1) (qv 2) (As _)) Ab)))))),?_⟩
  unfold Es at q
  walk_at "r"
  rw [Bv]
  refine Bb (fun h=>?_) (fun h=>?_)
  ·have h:wd = "plus" := of_decide_eq_true h
   rw [if_pos h] at q
   walk_at "r"
   refine ⟨Bh,fun p hp=>?_⟩
   exact q _ _ (Same.upd hp) ⟨rfl,p,rfl,SqT.of Ad⟩
  have h:¬ wd = "plus" := fun x=>h (decide_eq_true x)
  rw [if_neg h] at q
  walk_at "r"
  rw [Bv]
  refine Bb (fun h=>?_) (fun h=>?_)
  ·have h:wd = "minus" := of_decide_eq_true h
   rw [if_pos h] at q
   walk_at "r"
   refine ⟨Bh,fun p hp=>?_⟩
   exact q _ _ (Same.upd hp) ⟨rfl,p,rfl,SqT.of Ad⟩
  have h:¬ wd = "minus" := fun x=>h (decide_eq_true x)
  rw [if_neg h] at q
  walk_at "r"
  refine ⟨Bh,fun p hp=>?_⟩
  exact q _ _ (Same.upd hp) ⟨rfl,p,rfl,SqT.of Ad⟩
noncomputable def Zdx (K:O6):Sp:=fun vs H Q _=>∃(v:V)(t:Tr),vs=[v]/\TrAt K H v t/\t.size<=2000/\∀(p:Addr)(rows:List V)(H':Hp),Same H H'->H p=none->H' p=some (.lst rows)->Al (RowT K H') rows (walk [] t)->Q (.ref p) H'
theorem sc_placed_forms:Bl ["tree", "told", "waiting", "pair", "number", "part"] ["tree"] (A9 J8):=by walk_at "sc"
noncomputable def PlJ (K:O6)(H:Hp)(v:V)(t:Tr)(pt pw:Addr)(m:Nat)(σ:St)(H':Hp):Prop:=∃(v3 v4 v5:Option V)(tv wv:List V)(dn st:List (List Nat×Tr)),σ=[some v,some (.ref pt),some (.ref pw),v3,v4,v5]/\H' pt=some (.lst tv)/\H' pw=some (.lst wv) /\
 Al (RowT K H') tv dn/\Al (RowT K H') wv st/\dn++F6 st=walk [] t/\m=Ev st/\Same H H'
theorem Zg7 {f:Addr}{fd:FuncData}(F:Fun K "placed_forms" "placed_forms" J8 f fd)(T:Txt K mg):Az P w K mg base Aw 1 f fd ["tree"] (Zdx K):=by
 refine F.okq sc_placed_forms (fun vs H Q E h=>?_) (fun cdv A outer s H vs Q E hr h=>?_)
 ·obtain ⟨v,t,rfl,_⟩:=h
  rfl
 ·obtain ⟨v,t,rfl,ht,hz,q⟩:=h
  refine ⟨_,Ae (Au 1 sc_placed_forms (Bg Ab))
   (Ae (Au 2 sc_placed_forms (Bg (Aa (Ag (Aa (Ag Ab) (Aa (qv 0) Ab))) Ab)))
   (Ae (Zcz Q2 (Zbq K (qv 2) (by intro _;rfl)) (Ae (Au 3 sc_placed_forms (Jx K Py Sr Ss Jt (qv 2)))
   (Ae (Cc (Db K Py Qc Qd Dg (qv 1) (Aa (qv 3) Ab)))
   (Af (Fp Q2 rfl (Zjq K rfl T.reversed (Aa (Zlg K (by rfl) T.list (by rfl) T.enumerate (Aa (Am K (Am K (qv 3) Ac) Ac) Ab)) Ab)) (Gf K (n:=2) rfl (Cs (Bu (i:=4) sc_placed_forms.nd rfl (Or.inl rfl)) (Cs (Bu (i:=5) sc_placed_forms.nd rfl (Or.inl rfl)) (Ge)))) (Af (Cc (Db K Py Qc Qd Dg (qv 2) (Aa (Ag (Aa (Ah (Lp K) (Am K (qv 3) Ac) (Ag (Aa (qv 4) Ab))) (Aa (qv 5) Ab))) Ab)))))))))
   (Af (Ap (qv 1))))),?_⟩
  have bg:=big
  walk_at "r"
  refine ⟨Bk,fun pt hpt=>?_⟩
  walk_at "r"
  refine ⟨Bk,fun p0 hp0=>?_⟩
  walk_at "r"
  refine ⟨Bh,fun p1 hp1=>?_⟩
  walk_at "r"
  refine ⟨B7,fun pw hpw=>?_⟩
  walk_at "r"
  have s0:Same (upd H pt (.lst [])) _:=((Same.upd (o:=.tup []) hp0).put (o:=.tup [.ref p0,v]) hp1).put (o:=.lst [.ref p1]) hpw
  have s1:Same (upd (upd H pt (.lst [])) p0 (.tup [])) _:=(Same.upd (o:=.tup [.ref p0,v]) hp1).put (o:=.lst [.ref p1]) hpw
  have s2:=Same.upd (o:=.lst [.ref p1]) hpw
  have sH:=(Same.upd (o:=.lst []) hpt).trans s0
  have ept:=s0 pt _ Ad
  have epw:upd (upd (upd (upd H pt (.lst [])) p0 (.tup [])) p1 (.tup [.ref p0,v])) pw (.lst [.ref p1]) pw=some (.lst [.ref p1]):=Ad
  have ep0:=s1 p0 _ Ad
  have ep1:=s2 p1 _ Ad
  have npw:pt≠pw:=fun z=>by rw [z] at ept;rw [Ad] at ept;cases ept
  have hpw0:H pw=none:=((Same.upd (o:=.lst []) hpt).trans ((Same.upd (o:=.tup []) hp0).put (o:=.tup [.ref p0,v]) hp1)).free hpw
  refine ⟨PlJ K H v t pt pw,⟨_,none,none,none,[],[.ref p1],[],[([],t)],rfl,ept,epw,.nil,Al.nil.snoc ⟨p1,p0,v,rfl,SqT.of ep1,ep0,ht.same sH⟩,by simp [F6],rfl,sH⟩,?_⟩
  rintro m σ' H' ⟨v3,v4,v5,tv,wv,dn,st,rfl,et,ew,al1,al2,hw,rfl,sm⟩
  have hdl:dn.length+Ev st=t.size:=by
   have:=congrArg Ti hw
   rw [Pg,Zbi] at this
   exact this
  have htl:tv.length=dn.length:=al1.1
  walk_at "r"
  refine Zeg (SqL.of ew) ?_
  by_cases hwv:wv=[]
  ·subst hwv
   have hst:st=[]:=Sk al2.1.symm
   subst hst
   refine iteF ?_
   walk_at "r"
   rw [Zh1,Qe] at hw
   rw [hw] at al1
   exact q pt tv H' sm hpt et al1
  obtain ⟨wv',tp,st',x,rfl,rfl,al3,hrow⟩:=al2.last hwv
  have hne:(!(wv'++[tp]).isEmpty)=true:=by simp
  rw [hne]
  refine iteT ?_
  obtain ⟨pl,tx⟩:=x
  have hx:(pl,tx)∈walk [] t:=by rw [<- hw,O1];simp
  have hpl:pl.length<=2000:=by have:=Nb [] t _ hx;simp at this;omega
  have hload:=Zjr st' (pl,tx)
  have hll:=Zj8 (st'++(Cq pl 0 tx.ps).reverse)
  refine ⟨fun σ2 H2=>∃ m',m' < Ev (st'++[(pl,tx)])/\PlJ K H v t pt pw m' σ2 H2,fun _ _ h=>h,?_⟩
  walk_at "r"
  refine Cj (SqL.of ew) ?_
  refine Ik ew ?_
  have t1:SameT H' (upd H' pw (.lst wv')):=SameT.set ew
  have et2:upd H' pw (.lst wv') pt=some (.lst tv):=by rw [Ai npw];exact et
  walk_at "r"
  refine Cj (SqL.of et2) ?_
  walk_at "r"
  refine Dh et2 (by omega) ?_
  have t2:SameT H' (upd (upd H' pw (.lst wv')) pt (.lst (tv++[tp]))):=t1.trans (SameT.set et2)
  have et3:upd (upd H' pw (.lst wv')) pt (.lst (tv++[tp])) pt=some (.lst (tv++[tp])):=Ad
  have ew3:upd (upd H' pw (.lst wv')) pt (.lst (tv++[tp])) pw=some (.lst wv'):=by rw [Ai npw.symm,Ad]
  have sm3:Same H (upd (upd H' pw (.lst wv')) pt (.lst (tv++[tp]))):=(sm.over hpw0).over hpt
  revert t2 et3 ew3 sm3
  generalize upd (upd H' pw (.lst wv')) pt (.lst (tv++[tp]))=H3
  intro t2 et3 ew3 sm3
  have hrow3:=RowT.same t2 _ _ hrow
  obtain ⟨a,p,u,rfl,qa,qp,hu⟩:=id hrow3
  cases hu with
  | @mk b pp wd nv n vs ts qb hn qpp hl hch =>
  walk_at "r"
  refine A5 qa rfl ?_
  walk_at "r"
  refine A5 qb rfl ?_
  walk_at "r"
  refine ⟨pp,vs,rfl,qpp,fun S ys H4 hS s4 hl4 hpairs hS4=>?_⟩
  walk_at "r"
  refine ⟨S,ys,rfl,SqL.of hS4,?_⟩
  have nSp:pw≠S:=Cr ew3 hS
  have nSt:pt≠S:=Cr et3 hS
  have al4:Al (RowT K H4) wv' st':=al3.mono (RowT.same (t2.trans s4.t))
  have hkl:(Cq pl 0 ts).length=ys.length:=by rw [Zdn];omega
  refine Zki (K:=K) (a:=S) (xs:=ys) (fun j σ5 H5=>∃(v4 v5:Option V)(wv5:List V),σ5=[some v,some (.ref pt),some (.ref pw),some (.ref a),v4,v5]/\H5 pt=some (.lst (tv++[.ref a]))/\H5 pw=some (.lst wv5)/\H5 S=some (.lst ys)/\Al (RowT K H5) wv5 (st'++((Cq pl 0 ts).drop (ys.length - j)).reverse)/\SameT H4 H5/\Same H H5)
   ⟨_,_,wv',rfl,s4 _ _ et3,s4 _ _ ew3,hS4,by rw [Vb,So (by omega)];simpa using al4,SameT.refl _,sm3.trans s4⟩ ?_ ?_ ?_
  ·rintro j σ5 H5 _ ⟨_,_,_,_,_,_,e,_⟩
   exact SqL.of e
  ·rintro i y σ5 H5 hi hy ⟨v4',v5',wv5,rfl,e5t,e5w,e5s,al5,t5,sm5⟩
   obtain ⟨tt,xw,rfl,hxw,htt⟩:=hpairs _ _ hy
   have htt5:=(t5 tt).1 _ htt
   walk_at "r"
   refine Fe (SqT.of htt5) rfl ?_
   walk_at "r"
   refine Cj (SqL.of e5w) ?_
   walk_at "r"
   have T5:SameT H3 H5:=s4.t.trans t5
   refine A5 (T5.tup qa) rfl ?_
   walk_at "r"
   refine ⟨B7,fun p6 h6=>?_⟩
   refine Zav (((T5.trans (SameT.new h6)) p).1 _ qp) Ad (by show (Bp pl).length+1<=sizeLine;unfold Bp;rw [Ph];omega) fun r H7 s7 q7=>?_
   walk_at "r"
   refine ⟨Bh,fun p7 h7=>?_⟩
   walk_at "r"
   have s57:Same H5 H7:=(Same.upd h6).trans s7
   have s58:=s57.put (o:=.tup [.ref r,xw]) h7
   have hlw:wv5.length=st'.length+((Cq pl 0 ts).drop (ys.length - i)).length:=by have:=al5.1;simp at this ⊢;omega
   have hlk:(st'++(Cq pl 0 ts).reverse).length=st'.length+ys.length:=by rw [Pg,Rt,hkl]
   have hll':(st'++(Cq pl 0 ts).reverse).length<=2000:=by
    have h1:Ev (st'++(Cq pl 0 (Tr.mk wd n ts).ps).reverse) < Ev (st'++[(pl,Tr.mk wd n ts)]):=hload
    have h2:(st'++(Cq pl 0 (Tr.mk wd n ts).ps).reverse).length<=Ev (st'++(Cq pl 0 (Tr.mk wd n ts).ps).reverse):=hll
    have h3:(Tr.mk wd n ts).ps=ts:=rfl
    rw [h3] at h1 h2
    omega
   have hdr:((Cq pl 0 ts).drop (ys.length - i)).length<=ys.length:=by rw [R8];omega
   refine Dh (s58 _ _ e5w) (by omega) ?_
   have e8w:=s58 _ _ e5w
   have t9:SameT H5 (upd (upd H7 p7 (.tup [.ref r,xw])) pw (.lst (wv5++[.ref p7]))):=s58.t.trans (SameT.set e8w)
   obtain ⟨tk,htk,hat⟩:∃ tk,ts[ys.length - 1 - i]?=some tk/\TrAt K H3 xw tk:=by
    have hj:=(Pq.mp hxw).1
    have hj':ys.length - 1 - i < ts.length:=by omega
    exact ⟨_,Pa hj',hch _ _ _ hxw (Pa hj')⟩
   have hkid:(Cq pl 0 ts)[ys.length - 1 - i]?=some (pl++[ys.length - 1 - i],tk):=by
    rw [Zch,htk]
    simp
   refine ⟨_,_,wv5++[.ref p7],rfl,?_,Ad,?_,?_,t5.trans t9,(sm5.trans s58).over hpw0⟩
   ·rw [Ai npw];exact s58 _ _ e5t
   ·rw [Ai nSp.symm];exact s58 _ _ e5s
   ·rw [Zkp hkl hi hkid,<- P0]
    refine (al5.mono (RowT.same t9)).snoc ⟨p7,r,xw,rfl,(SameT.set e8w).tup (SqT.of Ad),?_,hat.sameT (T5.trans t9)⟩
    have q9:=(((SameT.new (o:=.tup [.ref r,xw]) h7).trans (SameT.set (o:=.lst (wv5++[.ref p7])) e8w)) r).1 _ q7
    have e:Bp (pl++[ys.length - 1 - i])=Bp pl++[.int ((ys.length - 1 - i:Nat):Int)]:=by unfold Bp;rw [Pz];rfl
    show upd _ _ _ r=some (.tup (Bp (pl++[ys.length - 1 - i])))
    rw [e]
    exact q9
  ·rintro σ5 H5 ⟨v4',v5',wv5,rfl,e5t,e5w,e5s,al5,t5,sm5⟩
   rw [Rb,List.drop_zero] at al5
   refine ⟨_,hload,_,_,_,tv++[.ref a],wv5,dn++[(pl,.mk wd n ts)],_,rfl,e5t,e5w,?_,al5,?_,rfl,sm5⟩
   ·exact (al1.mono (RowT.same (t2.trans (s4.t.trans t5)))).snoc (RowT.same (s4.t.trans t5) _ _ hrow3)
   ·rw [<- hw,O1,P0]
    rfl
noncomputable def Bq (rs:List Rx)(x:Str×V):Bool:=match x with
 | (w,.int k)=>decide (w = "row") && (match rs[k.toNat]? with | some r=>decide (r.wd∈(["fn", "rec"]:List Str)) | none=>false)
 | _=>false
noncomputable def Kp (rs:List Rx)(x:Str×V):Prop:=x.1 = "row" -> ∃ k:Nat,x.2=.int (k:Nat)/\k < rs.length
noncomputable def Zd8 (K:O6):Sp:=fun vs H Q _=>∃(v:V)(x:Str×V)(r:Addr)(rv:List V)(A:Addr->Prop)(rs:List Rx),vs=[v,.ref r]/\ThAt K H v x/\x.1 = "row" /\ Kp rs x/\H r=some (.lst rv)/\Al (RwAt K A H) rv rs/\∀ H',Same H H'->Q (.bl (Bq rs x)) H'
theorem Zh7:Bl ["thing", "rows"] ["thing", "rows"] (A9 Jp):=by walk_at "sc"
theorem Zp6 {f:Addr}{fd:FuncData}(F:Fun K "is_finished" "is_finished" Jp f fd)(T:Txt K mg):Az P w K mg base Aw 1 f fd ["thing", "rows"] (Zd8 K):=by
 refine F.okq Zh7 (fun vs H Q E h=>?_) (fun cdv A outer s H vs Q E hr h=>?_)
 ·obtain ⟨v,x,r,rv,A,rs,rfl,_⟩:=h
  rfl
 ·obtain ⟨v,x,r,rv,B,rs,rfl,hx,hw,ok,er,al,q⟩:=h
  refine ⟨_,Af (Ap (Zm6 (Dz (Fg K hr.u200) (Am K (qv 0) Ac) Aj (As _)) (Gx (Dz (Hw K) (Am K (Am K (qv 1) (Am K (qv 0) Ac)) Ac) (Ag (Aa Aj (Aa Aj Ab))) (by rfl))))),?_⟩
  obtain ⟨hf,a,rfl,qa⟩:=hx
  obtain ⟨k,ek,hk⟩:=ok hw
  obtain ⟨xw,xv⟩:=x
  have hw:xw = "row" := hw
  have ek:xv=.int (k:Nat):=ek
  subst hw ek
  have hkr:k < rv.length:=by rw [al.1];exact hk
  obtain ⟨y,hy,a2,p2,o2,e2,ov,ev,h1,h2,_⟩:=al.get (Pa hkr)
  have ef:Bq rs ("row",.int (k:Nat))=decide (y.wd∈(["fn", "rec"]:List Str)):=by
   unfold Bq
   simp only [Qm,hy,decide_true,Bool.true_and]
  rw [ef] at q
  walk_at "r"
  refine A5 qa rfl ?_
  walk_at "r"
  rw [decide_eq_true (Eq.refl _)]
  walk_at "r"
  refine A5 qa rfl ?_
  walk_at "r"
  refine A8 (SqL.of er) (Dc (Pa hkr)) ?_
  rw [h1]
  walk_at "r"
  refine A5 h2 rfl ?_
  walk_at "r"
  refine ⟨Bh,fun p1 hp1=>?_⟩
  refine F8 (.inr (SqT.of Ad)) rfl rfl ?_
  rw [if_neg Pi,show Ef (.str y.wd) [.str "fn",.str "rec"]=decide (y.wd∈(["fn", "rec"]:List Str)) from G7 (ws:=["fn", "rec"])]
  exact q _ (Same.upd hp1)
noncomputable def Ct (wd:Str)(d:Dt)(n:Int):List Str :=
 if wd = "fn" then (match d with | .flat (.str z)=>[z] | _=>[])
 else if wd = "rec" then (match d with | .tup [.flat (.str y),.flat (.str z)]=>[y,z] | _=>[])
 else if wd = "let" /\ n=1 then (match d with | .flat (.str z)=>[z] | _=>[])
 else []
noncomputable def E5 (wd:Str)(d:Dt):Prop:=(wd = "fn" \/ wd = "let" -> ∃ z,d=.flat (.str z))/\(wd = "rec" -> ∃ y z,d=.tup [.flat (.str y),.flat (.str z)])
noncomputable def Zgf (K:O6):Sp:=fun vs H Q _=>∃(v:V)(wd:Str)(d:Dt)(ts:List Tr)(n:Int),vs=[v,.int n]/\TrAt K H v (.mk wd d ts)/\E5 wd d/\∀ l H',Same H H'->H l=none->H' l=some (.lst ((Ct wd d n).map V.str))->Q (.ref l) H'
theorem Znv:Bl ["form", "number"] ["form", "number"] (A9 Kj):=by walk_at "sc"
theorem Zi4 {f:Addr}{fd:FuncData}(F:Fun K "names_bound" "names_bound" Kj f fd)(T:Txt K mg):Az P w K mg base Aw 1 f fd ["form", "number"] (Zgf K):=by
 refine F.okq Znv (fun vs H Q E h=>?_) (fun cdv A outer s H vs Q E hr h=>?_)
 ·obtain ⟨v,wd,d,ts,n,rfl,_⟩:=h
  rfl
 ·obtain ⟨v,wd,d,ts,n,rfl,ht,ok,q⟩:=h
  refine ⟨_,Ae (Av (Ax (A7 K hr.u200) (Am K (qv 0) Ac) Aj (As _)) (Af (Ap (Bg (Aa (Am K (qv 0) Ac) Ab)))) Ay)
   (Ae (Av (Ax (A7 K hr.u200) (Am K (qv 0) Ac) Aj (As _)) (Af (Ap (Fl (Zaa K) (by rfl) T.list (by decide +kernel) (Aa (Am K (qv 0) Ac) Ab)))) Ay)
   (Ae (Av (QW.qt (D9 (Ax (A7 K hr.u200) (Am K (qv 0) Ac) Aj (As _)) (Ej (Ax (A7 K hr.u200) (qv 1) Ac (As _))))) (Af (Ap (Bg (Aa (Am K (qv 0) Ac) Ab)))) Ay)
   (Af (Ap (Bg Ab))))),?_⟩
  cases ht with
  | @mk b pp _ nv _ vs _ qb hn qpp hl hch =>
  have flat:∀ z,d=.flat (.str z)->nv=.str z:=by
   intro z e
   rcases hn with ⟨_,h⟩ | ⟨_,_,_,_,_,h⟩
   ·rw [e] at h;injection h with h;exact h.symm
   ·rw [e] at h;cases h
  unfold Ct at q
  walk_at "r"
  refine A5 qb rfl ?_
  walk_at "r"
  rw [Bv]
  refine Bb (fun h=>?_) (fun h=>?_)
  ·have h:wd = "fn" := of_decide_eq_true h
   obtain ⟨z,rfl⟩:=ok.1 (.inl h)
   have:=flat z rfl
   subst this
   rw [if_pos h] at q
   walk_at "r"
   refine A5 qb rfl ?_
   walk_at "r"
   refine ⟨B7,fun l hl'=>?_⟩
   exact q l _ (Same.upd hl') hl' Ad
  have h:¬ wd = "fn" := fun x=>h (decide_eq_true x)
  rw [if_neg h] at q
  walk_at "r"
  refine A5 qb rfl ?_
  walk_at "r"
  rw [Bv]
  refine Bb (fun h=>?_) (fun h=>?_)
  ·have h:wd = "rec" := of_decide_eq_true h
   obtain ⟨y,z,rfl⟩:=ok.2 h
   rw [if_pos h] at q
   obtain ⟨a,us,rfl,qa,hus⟩:∃ a us,nv=.ref a/\SqT K H a us/\us=[.str y,.str z]:=by
    rcases hn with ⟨_,h⟩ | ⟨a,us,e,qa,_,h⟩
    ·cases h
    ·refine ⟨a,us,e,qa,?_⟩
     injection h with h
     obtain ⟨u1,u2,rfl⟩:=lz2 (vs:=us) (by first | exact h | (have:=congrArg Ti h;rw [Ph] at this;exact this.symm))
     simp only [Qb,Ro,List.cons.injEq,Dt.flat.injEq,and_true] at h
     rw [h.1,h.2]
   subst hus
   walk_at "r"
   refine A5 qb rfl ?_
   walk_at "r"
   refine ⟨a,_,rfl,.inr qa,fun l hl'=>?_⟩
   exact q l _ (Same.upd hl') hl' Ad
  have h:¬ wd = "rec" := fun x=>h (decide_eq_true x)
  rw [if_neg h] at q
  walk_at "r"
  refine A5 qb rfl ?_
  walk_at "r"
  rw [Bv]
  by_cases hlet:wd = "let"
  ·rw [decide_eq_true hlet]
   walk_at "r"
   by_cases hn1:n=1
   ·rw [decide_eq_true (by rw [hn1])]
    obtain ⟨z,rfl⟩:=ok.1 (.inr hlet)
    have:=flat z rfl
    subst this
    rw [if_pos ⟨hlet,hn1⟩] at q
    walk_at "r"
    refine A5 qb rfl ?_
    walk_at "r"
    refine ⟨B7,fun l hl'=>?_⟩
    exact q l _ (Same.upd hl') hl' Ad
   ·rw [decide_eq_false (fun h=>hn1 (V.int.inj h))]
    rw [if_neg (fun h=>hn1 h.2)] at q
    walk_at "r"
    refine ⟨Bk,fun l hl'=>?_⟩
    exact q l _ (Same.upd hl') hl' Ad
  ·rw [decide_eq_false hlet]
   rw [if_neg (fun h=>hlet h.1)] at q
   walk_at "r"
   refine ⟨Bk,fun l hl'=>?_⟩
   exact q l _ (Same.upd hl') hl' Ad
noncomputable def Zdp (K:O6)(C:Addr):Sp:=fun vs H Q _=>∃(v:V)(x:Str×V)(HB:Hp)(kvs:List (List Aq×V))(L:Ml)(S:MS),vs=[.ref L.m,v]/\MAt K HB C kvs L H S/\ThAt K H v x/\Kp S.rows x/\∀ H',Same H H'->Q (.bl (Bq S.rows x)) H'
theorem Zoz:Bl ["self", "thing"] ["self", "thing"] (A9 J0):=by walk_at "sc"
theorem Zgl {C:Addr}{f:Addr}{fd:FuncData}(F:Fun K "is_function" "Machine.is_function" J0 f fd)(T:Txt K mg)(O:Mc K C)(C_is_finished:Bo P w K mg base 1 "is_finished" ["thing", "rows"] (Zd8 K)):Az P w K mg base Aw 2 f fd ["self", "thing"] (Zdp K C):=by
 refine F.okq Zoz (fun vs H Q E h=>?_) (fun cdv A outer s H vs Q E hr h=>?_)
 ·obtain ⟨v,x,HB,kvs,L,S,rfl,_⟩:=h
  rfl
 ·obtain ⟨v,x,HB,kvs,L,S,rfl,M,hx,ok,q⟩:=h
  refine ⟨_,Af (Ap (G5 (Dz (A7 K hr.u200) (Am K (qv 1) Ac) Aj (As _)) (Gx (Ba C_is_finished hr.m (Aa (qv 1) (Aa (Cb K (qv 0)) Ab)))))),?_⟩
  obtain ⟨hf,a,rfl,qa⟩:=id hx
  obtain ⟨rv,er,ar,spr⟩:=M.rows
  walk_at "r"
  refine A5 qa rfl ?_
  walk_at "r"
  rw [Bv]
  by_cases hw:x.1 = "row"
  ·rw [decide_eq_true hw]
   walk_at "r"
   refine ⟨_,rfl,L.m,C,L.dx,_,_,rfl,M.ins,O.cl,O.nr,J9 L S.steps,?_⟩
   walk_at "r"
   exact ⟨_,x,L.rd,rv,_,S.rows,rfl,hx,hw,ok,er,ar.mono fun v x h=>h.1,q⟩
  ·rw [decide_eq_false hw]
   have e:Bq S.rows x=false:=by
    unfold Bq
    split
    ·simp only at hw
     rw [decide_eq_false hw]
     rfl
    ·rfl
   rw [e] at q
   walk_at "r"
   exact q H (Same.refl _)
noncomputable def B6 (ns:List Str)(xs:List (Str×V)):List (Str×Str×V):=ns.zip xs
noncomputable def Jg (S:MS)(wd:Str)(d:Dt)(pl:List Nat)(n:Nat)(ar:List (Str×Str×V))(xs:List (Str×V)):MS:={ S with wait:=S.wait++[⟨pl++[n],ar++B6 (Ct wd d n) xs,false⟩] }
noncomputable def Mp (K:O6)(C:Addr):Sp:=fun vs H Q _=>∃(p e o:Addr)(n:Nat)(pl:List Nat)(ev ov:List V)(ar:List (Str×Str×V))(xs:List (Str×V))(HB:Hp)(kvs:List (List Aq×V))(L:Ml)(S:MS)(v:V)(wd:Str)(d:Dt)(ts:List Tr),vs=[.ref L.m,.ref p,.int (n:Nat),.ref e,.ref o]/\MAt K HB C kvs L H S/\H p=some (.tup (Bp pl))/\H e=some (.lst ev)/\Al (PrAt K H) ev ar/\H o=some (.lst ov)/\Al (ThAt K H) ov xs/\B4 kvs (Df pl)=some v/\TrAt K H v (.mk wd d ts)/\E5 wd d/\pl.length<=2000/\ar.length<=9000/\S.wait.length < 9000 /\
 ∀ H',SameM L H H'->MAt K HB C kvs L H' (Jg S wd d pl n ar xs)->Q .non H'
theorem Zdt:Bl ["self", "place", "number", "around", "things", "names"] ["self", "place", "number", "around", "things"] (A9 Jo):=by walk_at "sc"
theorem Znm (wd:Str)(d:Dt)(n:Int):(Ct wd d n).length<=2:=by
 unfold Ct
 repeat' split
 all_goals simp
theorem Zpe {C:Addr}{f:Addr}{fd:FuncData}(F:Fun K "go_within" "Machine.go_within" Jo f fd)(T:Txt K mg)(O:Mc K C)(C_names_bound:Bo P w K mg base 1 "names_bound" ["form", "number"] (Zgf K)):Az P w K mg base Aw 2 f fd ["self", "place", "number", "around", "things"] (Mp K C):=by
 refine F.okq Zdt (fun vs H Q E h=>?_) (fun cdv A outer s H vs Q E hr h=>?_)
 ·obtain ⟨p,e,o,n,pl,ev,ov,ar,xs,HB,kvs,L,S,v,wd,d,ts,rfl,_⟩:=h
  rfl
 ·obtain ⟨p,e,o,n,pl,ev,ov,ar,xs,HB,kvs,L,S,v,wd,d,ts,rfl,M,hp,he,ale,ho,alo,hv,ht,bk,hpl,hal,hwl,q⟩:=h
  refine ⟨_,Ae (Au 5 Zdt (Ba C_names_bound hr.m (Aa (K7 hr.u1 (Cb K (qv 0)) (qv 1) (fun _ _=>rfl)) (Aa (qv 2) Ab))))
   (Af (Cc (Db K Py Qc Qd Dg (Cb K (qv 0)) (Aa (Ag (Aa (Ah (Lp K) (qv 1) (Ag (Aa (qv 2) Ab))) (Aa (Ah (B5 K) (qv 3) (Zh2 K (by rfl) T.list (by rfl) T.zip (Aa (qv 5) (Aa (qv 4) Ab)))) (Aa Cp Ab)))) Ab)))),?_⟩
  have bg:=big
  have bn:=Znm wd d n
  walk_at "r"
  refine ⟨_,rfl,L.m,C,L.dx,_,_,rfl,M.ins,O.cl,O.nf,Mv L S.steps,_,rfl,L.fd,v,rfl,?_,?_⟩
  ·rw [<- hv]
   refine DGet.t M.frm ?_
   rw [Ko]
   exact hp
  walk_at "r"
  refine ⟨v,wd,d,ts,n,rfl,ht,bk,fun l H1 s1 hl e1=>?_⟩
  have M1:=M.new s1
  obtain ⟨wv,ew,aw⟩:=M1.wait
  have hwv:=aw.1
  walk_at "r"
  refine ⟨_,rfl,L.m,C,L.dx,_,_,rfl,M1.ins,O.cl,O.nw,Hf L S.steps,?_⟩
  refine Cj (SqL.of ew) ?_
  walk_at "r"
  refine ⟨B7,fun p2 hp2=>?_⟩
  obtain ⟨H2,s2,e2,z9⟩:=D4 hp2 (.tup [.int (n:Nat)])
  rw [z9]
  refine Zav (s2 _ _ (s1 _ _ hp)) e2 (by unfold Bp;rw [Ph,Pl];omega) fun p3 H3 s3 e3=>?_
  have s03:=s1.trans (s2.trans s3)
  walk_at "r"
  refine Zhe ?_
  walk_at "r"
  refine ⟨l,o,_,ov,rfl,SqL.of (s3 _ _ (s2 _ _ e1)),SqL.of (s03 _ _ ho),fun z zs H4 hz0 s4 hzl hzp ez=>?_⟩
  have s04:=s03.trans s4
  have he4:=s04 _ _ he
  have alz:Al (PrAt K H4) zs (B6 (Ct wd d n) xs):=by
   have hlo:=alo.1
   refine ⟨by unfold B6;rw [hzl,Ph,List.length_zip,hlo],fun j y x f1 f2=>?_⟩
   obtain ⟨t,u1,u2,rfl,g1,g2,g3⟩:=hzp j y f1
   unfold B6 at f2
   rw [List.getElem?_zip_eq_some] at f2
   rw [Ql,f2.1] at g1
   cases g1
   exact ⟨t,u2,rfl,SqT.of g3,ThAt.same s04.t _ _ (alo.2 j _ _ g2 f2.2)⟩
  have hzl2:zs.length<=2:=by rw [hzl,Ph];omega
  have hel:=ale.1
  refine Gv he4 ez (by omega) fun e5 he5=>?_
  have s5:Same H4 (upd H4 e5 (.lst (ev++zs))):=Same.upd he5
  have ee5:upd H4 e5 (.lst (ev++zs)) e5=some (.lst (ev++zs)):=Ad
  have nA5:¬ L.A e5:=by
   have M4:=M.new s04
   obtain ⟨rv,er,_⟩:=M4.rows
   obtain ⟨wv',ew',_⟩:=M4.wait
   obtain ⟨tv,et,_⟩:=M4.things
   rintro (y | y | y)
   ·rw [y,er] at he5;cases he5
   ·rw [y,ew'] at he5;cases he5
   ·rw [y,et] at he5;cases he5
  revert s5 ee5
  generalize upd H4 e5 (.lst (ev++zs))=H5
  intro s5 ee5
  have s05:=s04.trans s5
  walk_at "r"
  refine ⟨Bf,fun r hr'=>?_⟩
  obtain ⟨H6,s6,e6,z9⟩:=D4 hr' (.tup [.ref p3,.ref e5,.bl false])
  rw [z9]
  have s06:=s05.trans s6
  have s16:=s2.trans (s3.trans (s4.trans (s5.trans s6)))
  walk_at "r"
  refine Dh (s16 _ _ ew) (by omega) ?_
  have M6:=M.new s06
  have M7:=M6.setWait (wv:=wv++[.ref r]) (ws:=S.wait++[⟨pl++[n],ar++B6 (Ct wd d n) xs,false⟩]) ((aw.mono (WtAt.same s16.a)).snoc ⟨r,p3,e5,ev++zs,rfl,SqT.of e6,?_,s6 _ _ ee5,?_,nA5⟩)
  ·walk_at "r"
   exact q _ ((s06.m L).trans (SameM.upd (.inr (.inr (.inl rfl))))) M7
  ·have e9:=s6 _ _ (s5 _ _ (s4 _ _ e3))
   rw [e9]
   unfold Bp
   rw [Pz]
   rfl
  ·exact (ale.mono (PrAt.same s06.t)).append (alz.mono (PrAt.same (s5.trans s6).t))
theorem Ir (L:Ml)(n:Int):(L.fs n).lookup ("go_within" : Str)=none/\(L.fs n).lookup ("is_function" : Str)=none/\(L.fs n).lookup ("call" : Str)=none:=⟨rfl,rfl,rfl⟩
noncomputable def Zc5 (K:O6)(C:Addr):Sp:=fun vs H Q _=>∃(o:Addr)(ov:List V)(k:Nat)(xs:List (Str×V))(r:Rx)(pl:List Nat)(HB:Hp)(kvs:List (List Aq×V))(L:Ml)(S:MS)(v:V)(wd:Str)(d:Dt)(ts:List Tr),vs=[.ref L.m,.ref o]/\MAt K HB C kvs L H S/\H o=some (.lst ov)/\Al (ThAt K H) ov (("row",.int (k:Nat))::xs)/\S.rows[k]?=some r/\r.pl=An pl/\B4 kvs (Df pl)=some v/\TrAt K H v (.mk wd d ts)/\E5 wd d/\pl.length<=2000/\r.ar.length<=9000/\S.wait.length < 9000/\xs.length<=1000 /\
 ∀ H',SameM L H H'->MAt K HB C kvs L H' (Jg S wd d pl 0 r.ar (if r.wd = "rec" then ("row",.int (k:Nat))::xs else xs))->Q .non H'
theorem Zdz:Bl ["self", "operands", "row"] ["self", "operands"] (A9 Kr):=by walk_at "sc"
theorem Zio {C:Addr}{f:Addr}{fd:FuncData}(F:Fun K "call" "Machine.call" Kr f fd)(T:Txt K mg)(O:Mc K C)(MW:Da Aw P w K mg base 2 C "go_within" ["self", "place", "number", "around", "things"] (Mp K C)):Az P w K mg base Aw 3 f fd ["self", "operands"] (Zc5 K C):=by
 refine F.okq Zdz (fun vs H Q E h=>?_) (fun cdv A outer s H vs Q E hr h=>?_)
 ·obtain ⟨o,ov,k,xs,r,pl,HB,kvs,L,S,v,wd,d,ts,rfl,_⟩:=h
  rfl
 ·obtain ⟨o,ov,k,xs,r,pl,HB,kvs,L,S,v,wd,d,ts,rfl,M,ho,alo,hr1,hpl,hv,ht,bk,hpn,har,hwl,hxl,q⟩:=h
  refine ⟨_,Ae (Au 2 Zdz (Am K (Cb K (qv 0)) (Am K (Am K (qv 1) Ac) Ac)))
   (Af (Cc (Dj (k:=2) K Aw ["self", "place", "number", "around", "things"] (qv 0) hr.m Dp (Aa (Am K (qv 2) Ac) (Aa Ac (Aa (Am K (qv 2) Ac) (Aa (Zbp (Ax (A7 K hr.u200) (Am K (qv 2) Ac) Aj (As _)) (qv 1) (El (Eh K) (qv 1) (Dd Ac) (Eo))) Ab))))))),?_⟩
  have bg:=big
  obtain ⟨rv,er,ar,spr⟩:=M.rows
  obtain ⟨u,hu⟩:∃ u,rv[k]?=some u:=⟨_,Pa (by rw [ar.1];exact (Pq.mp hr1).1)⟩
  obtain ⟨r',hr',xr⟩:=ar.get hu
  rw [hr1] at hr'
  cases hr'
  obtain ⟨⟨a,p',o',e,ops',ev,rfl,qa,_,_,_,he,ale,_,nAe⟩,a2,p,o2,e2,ea,qa2,hp⟩:=xr
  cases ea
  obtain ⟨u0,us,rfl⟩:∃ u0 us,ov=u0::us:=by
   have hl:=alo.1
   match ov,hl with
   | u0::us,_=>exact ⟨u0,us,rfl⟩
  obtain ⟨_,ax,rfl,qx⟩:=alo.2 0 u0 _ rfl rfl
  have hp':H p=some (.tup (Bp pl)):=by rw [hp,hpl,Ib]
  walk_at "r"
  refine ⟨_,rfl,L.m,C,L.dx,_,_,rfl,M.ins,O.cl,O.nr,J9 L S.steps,?_⟩
  walk_at "r"
  refine A8 (SqL.of ho) (Dc (j:=0) rfl) ?_
  walk_at "r"
  refine A5 qx rfl ?_
  refine A8 (SqL.of er) (Dc hu) ?_
  walk_at "r"
  refine ⟨_,rfl,L.m,C,L.dx,_,_,rfl,M.ins,(Ir L S.steps).1,MW,?_⟩
  walk_at "r"
  refine A5 qa2 rfl ?_
  walk_at "r"
  refine A5 qa rfl ?_
  walk_at "r"
  unfold tIf
  walk_at "r"
  refine A5 qa rfl ?_
  walk_at "r"
  rw [Bv]
  by_cases hw:r.wd = "rec"
  ·rw [if_pos hw] at q
   rw [decide_eq_true hw]
   walk_at "r"
   exact ⟨p,e,o,0,pl,ev,_,r.ar,_,HB,kvs,L,S,v,wd,d,ts,rfl,M,hp',he,ale,ho,alo,hv,ht,bk,hpn,har,hwl,fun H2 e2 M2=>by walk_at "r";exact q _ e2 M2⟩
  ·rw [if_neg hw] at q
   rw [decide_eq_false hw]
   walk_at "r"
   refine Ez (SqL.of ho) fun l hl=>?_
   have ec:C3 (V.ref ax::us) (some 1) none=us:=Zqm _ 1
   rw [ec]
   obtain ⟨H2,s2,e2,z9⟩:=D4 hl (.lst us)
   rw [z9]
   have alu:Al (ThAt K H2) us xs:=⟨by have:=alo.1;simpa using this,fun j y x f1 f2=>ThAt.same s2.t _ _ (alo.2 (j+1) y x (by simpa using f1) (by simpa using f2))⟩
   exact ⟨p,e,l,0,pl,ev,us,r.ar,xs,HB,kvs,L,S,v,wd,d,ts,rfl,M.new s2,s2 _ _ hp',s2 _ _ he,ale.mono (PrAt.same s2.t),e2,alu,hv,ht.same s2,bk,hpn,har,hwl,fun H3 e3 M3=>by walk_at "r";exact q _ ((s2.m L).trans e3) M3⟩
noncomputable def Fy:V->Int
 | .int i=>i
 | _=>0
noncomputable def Zbc (x:Str×V):Prop:=x.1 = "num" -> ∃ i,x.2=.int i
noncomputable def Gc:List Str:=["plus", "minus", "less"]
noncomputable def Fi (S:MS)(wd:Str)(pl:List Nat)(th:List (Str×V))(x y:Str×V):MS :=
 if wd∈Gc/\x.1 = "num" /\ y.1 = "num" then { S with things:=th++[Es wd (Fy x.2) (Fy y.2)] }
 else { S with rows:=S.rows++[⟨wd,An pl,[x,y],[]⟩],things:=th++[(("row" : Str),V.int (S.rows.length:Nat))] }
noncomputable def FormsAt (K:O6)(H:Hp)(kvs:List (List Aq×V))(sub:List Nat->Option (Str×Dt)):Prop:=∀ pl wd d,sub pl=some (wd,d)->pl.length<=2000/\∃ v ts,B4 kvs (Df pl)=some v/\TrAt K H v (.mk wd d ts)
theorem FormsAt.same {K:O6}{H H':Hp}{kvs:List (List Aq×V)}{sub:List Nat->Option (Str×Dt)}(h:FormsAt K H kvs sub)(e:SameT H H'):FormsAt K H' kvs sub:=fun pl wd d hs=>by
 obtain ⟨h1,v,ts,h2,h3⟩:=h pl wd d hs
 exact ⟨h1,v,ts,h2,h3.sameT e⟩
inductive Gj (sub:List Nat->Option (Str×Dt))(wd:Str)(d:Dt)(pl:List Nat)(ar:List (Str×Str×V))(S:MS):MS->Prop where
 | two {th:List (Str×V)} {x y:Str×V} (h:wd∈Gc\/wd = "call" /\ Bq S.rows x=false) (hS:S.things=th++[x,y]) (ok:Kp S.rows x) (ox:Zbc x) (oy:Zbc y):Gj sub wd d pl ar S (Fi S wd pl th x y)
 | calls {th:List (Str×V)} {k:Nat} {y:Str×V} {r:Rx} {pl':List Nat} {wd':Str} {d':Dt} (h:wd = "call") (hS:S.things=th++[(("row" : Str),V.int (k:Nat)),y]) (hr:S.rows[k]?=some r) (hf:r.wd∈(["fn", "rec"]:List Str)) (hp:r.pl=An pl') (hs:sub pl'=some (wd',d')) (bk:E5 wd' d') (ha:r.ar.length<=9000):Gj sub wd d pl ar S (Jg { S with things:=th } wd' d' pl' 0 r.ar (if r.wd = "rec" then [(("row" : Str),V.int (k:Nat)),y] else [y]))
 | ifs {th:List (Str×V)} {b:Bool} (h:wd = "if") (hS:S.things=th++[(("truth" : Str),V.bl b)]) (bk:E5 wd d):Gj sub wd d pl ar S (Jg { S with things:=th } wd d pl (if b then 1 else 2) ar [])
 | ifr {th:List (Str×V)} {x:Str×V} (h:wd = "if") (hS:S.things=th++[x]) (hx:¬ x.1 = "truth"):Gj sub wd d pl ar S { S with rows:=S.rows++[⟨wd,An pl,[x],ar⟩],things:=th++[(("row" : Str),V.int (S.rows.length:Nat))] }
 | lets {th:List (Str×V)} {x:Str×V} (h:wd = "let") (hS:S.things=th++[x]) (bk:E5 wd d):Gj sub wd d pl ar S (Jg { S with things:=th } wd d pl 1 ar [x])
noncomputable def Zdv (K:O6)(C:Addr):Sp:=fun vs H Q _=>∃(p e:Addr)(pl:List Nat)(ev:List V)(ar:List (Str×Str×V))(HB:Hp)(kvs:List (List Aq×V))(L:Ml)(S S2:MS)(v:V)(wd:Str)(d:Dt)(ts:List Tr),vs=[.ref L.m,.ref p,.ref e]/\MAt K HB C kvs L H S/\H p=some (.tup (Bp pl))/\H e=some (.lst ev)/\Al (PrAt K H) ev ar/\¬ L.A e/\B4 kvs (Df pl)=some v/\TrAt K H v (.mk wd d ts)/\∃ sub:List Nat->Option (Str×Dt),FormsAt K H kvs sub/\Gj sub wd d pl ar S S2/\S.rows.length < 9000/\S.things.length < 9000/\S.wait.length < 9000/\pl.length<=2000/\ar.length<=9000 /\
 ∀ H' t,SameM L H H'->MAt K HB C kvs (L.with t) H' S2->H t=none->Q .non H'
theorem Nv:Bl ["self", "place", "around", "word", "operands"] ["self", "place", "around"] (A9 K2):=by walk_at "sc"
theorem Zjj {C:Addr}{f:Addr}{fd:FuncData}(F:Fun K "go_further" "Machine.go_further" K2 f fd)(T:Txt K mg)(O:Mc K C){ap:Addr}{pk:List (Str×V)}(G_PARTS_AWAITED:Fc mg "PARTS_AWAITED" (.ref ap))(hpa:Gq P w K ap pk)(hpk:∀ wd,(Dl pk wd).isSome=(B9 wd).isSome/\∀ ns,B9 wd=some ns->∃ b,Dl pk wd=some (.ref b)/\∀ H,SqT K H b (ns.map V.int))
  (MT:Da Aw P w K mg base 1 C "taken_things" ["self", "many"] (Zc0 K C)) (MR:Da Aw P w K mg base 1 C "new_row" ["self", "word", "place", "operands", "around"] (Lo K C)) (MW:Da Aw P w K mg base 2 C "go_within" ["self", "place", "number", "around", "things"] (Mp K C)) (MC:Da Aw P w K mg base 3 C "call" ["self", "operands"] (Zc5 K C)) (MI:Da Aw P w K mg base 2 C "is_function" ["self", "thing"] (Zdp K C)) (C_are_numbers:Bo P w K mg base 1 "are_numbers" ["things"] (Zen K)) (C_reckoned:Bo P w K mg base 1 "reckoned" ["word", "left", "right"] (Zcf K)):Az P w K mg base Aw 4 f fd ["self", "place", "around"] (Zdv K C):=by
 refine F.okq Nv (fun vs H Q E h=>?_) (fun cdv A outer s H vs Q E hr h=>?_)
 ·obtain ⟨p,e,pl,ev,ar,HB,kvs,L,S,S2,v,wd,d,ts,rfl,_⟩:=h
  rfl
 ·obtain ⟨p,e,pl,ev,ar,HB,kvs,L,S,S2,v,wd,d,ts,rfl,M,hp,he,ale,nA,hv,ht,sub,FA,fur,z1,z3,z2,hpl,har,q⟩:=h
  refine ⟨_,Ae (Au 3 Nv (Am K (K7 hr.u1 (Cb K (qv 0)) (qv 1) (fun _ _=>rfl)) Ac))
   (Ae (Au 4 Nv (Dj (k:=1) K Aw ["self", "many"] (qv 0) hr.m Dp (Aa (A6 (Ca K) (by rfl) T.len (by decide +kernel) (Aa (M0 (Zat P w K) (F3 G_PARTS_AWAITED) (qv 3) (fun _ _=>rfl)) Ab)) Ab)))
   (Af (Av (Ax (A7 K hr.u200) (qv 3) Aj (As _)) (Af (Cc (Dj (k:=2) K Aw ["self", "place", "number", "around", "things"] (qv 0) hr.m Dp (Aa (qv 1) (Aa Ac (Aa (qv 2) (Aa (qv 4) Ab))))))) (Af (Av (QW.qt (D9 (Ax (A7 K hr.u200) (qv 3) Aj (As _)) (Ej (Ax (A7 K hr.u200) (Am K (Am K (qv 4) Ac) Ac) Aj (As _))))) (Af (Cc (Dj (k:=2) K Aw ["self", "place", "number", "around", "things"] (qv 0) hr.m Dp (Aa (qv 1) (Aa (Zbp (Bt (Am K (Am K (qv 4) Ac) Ac)) Ac Ac) (Aa (qv 2) (Aa (Bg Ab) Ab))))))) (Af (Av (QW.qt (D9 (Ax (A7 K hr.u200) (qv 3) Aj (As _)) (Ej (Bt (Dj (k:=2) K Aw ["self", "thing"] (qv 0) hr.m Dp (Aa (Am K (qv 4) Ac) Ab)))))) (Af (Cc (Dj (k:=3) K Aw ["self", "operands"] (qv 0) hr.m Dp (Aa (qv 4) Ab)))) (Af (Av (QW.qt (D9 (Ax (Hw K) (qv 3) (Ag (Aa Aj (Aa Aj (Aa Aj Ab)))) (by rfl)) (Ej (Bt (Ba C_are_numbers hr.m (Aa (qv 4) Ab)))))) (Af (Cc (Db K Py Qc Qd Dg (Cb K (qv 0)) (Aa (Ba C_reckoned hr.m (Aa (qv 3) (Aa (Am K (Am K (qv 4) Ac) Ac) (Aa (Am K (Am K (qv 4) Ac) Ac) Ab)))) Ab)))) (Af (Cc (Db K Py Qc Qd Dg (Cb K (qv 0)) (Aa (Dj (k:=1) K Aw ["self", "word", "place", "operands", "around"] (qv 0) hr.m Dp (Aa (qv 3) (Aa (qv 1) (Aa (qv 4) (Aa (qv 2) Ab))))) Ab))))))))))))),?_⟩
  have bg:=big
  have htr:=ht
  cases ht with
  | @mk b pp _ nv _ vs _ qb hn qpp hl hch =>
  walk_at "r"
  refine ⟨_,rfl,L.m,C,L.dx,_,_,rfl,M.ins,O.cl,O.nf,Mv L S.steps,_,rfl,L.fd,.ref b,rfl,?_,?_⟩
  ·rw [<- hv]
   refine DGet.t M.frm ?_
   rw [Ko]
   exact hp
  walk_at "r"
  refine A5 qb rfl ?_
  walk_at "r"
  refine ⟨_,rfl,L.m,C,L.dx,_,_,rfl,M.ins,(Dm L S.steps).2.2.2.2.2.1,MT,?_⟩
  cases fur with
  | @lets th x hwl hS bk =>
   subst hwl
   obtain ⟨bt,hbt,qbt⟩:=(hpk "let").2 [0] (by decide +kernel)
   walk_at "r"
   refine ⟨ap,pk, "let",.ref bt,rfl,rfl,hpa,hbt,?_⟩
   walk_at "r"
   refine En (qbt _) ?_
   walk_at "r"
   refine ⟨1,th,[x],HB,kvs,L,S,rfl,M,by decide,hS,rfl,fun o t ov H1 e1 M1 ht0 ho alo ho0 hot=>?_⟩
   have t1:=M.t e1
   walk_at "r"
   rw [decide_eq_true (Eq.refl _)]
   refine iteT ?_
   walk_at "r"
   refine ⟨_,rfl,L.m,C,L.dx,_,_,rfl,M1.ins,(Ir (L.with t) S.steps).1,MW,?_⟩
   walk_at "r"
   refine ⟨p,e,o,1,pl,ev,ov,ar,[x],HB,kvs,L.with t,_,.ref b, "let",d,ts,rfl,M1,(t1 p).1 _ hp,(M.a e1).2 _ _ nA he,ale.mono (PrAt.same t1),ho,alo,hv,htr.sameT t1,bk,hpl,har,z2,fun H2 e2 M2=>?_⟩
   walk_at "r"
   exact q _ t (e1.trans' (L':=L.with t) e2 rfl rfl rfl (.inr ht0)) M2 ht0
  | @ifs th b2 hwi hS bk =>
   subst hwi
   obtain ⟨bt,hbt,qbt⟩:=(hpk "if").2 [0] (by decide +kernel)
   walk_at "r"
   refine ⟨ap,pk, "if",.ref bt,rfl,rfl,hpa,hbt,?_⟩
   walk_at "r"
   refine En (qbt _) ?_
   walk_at "r"
   refine ⟨1,th,[("truth",.bl b2)],HB,kvs,L,S,rfl,M,by decide,hS,rfl,fun o t ov H1 e1 M1 ht0 ho alo ho0 hot=>?_⟩
   have t1:=M.t e1
   obtain ⟨u1,us,rfl⟩:∃ u1 us,ov=u1::us:=by
    have hl:=alo.1
    match ov,hl with
    | u1::us,_=>exact ⟨u1,us,rfl⟩
   obtain ⟨_,ax,rfl,qx⟩:=alo.2 0 u1 _ rfl rfl
   walk_at "r"
   rw [Bv,decide_eq_false (by decide +kernel)]
   walk_at "r"
   rw [Bv,decide_eq_true (Eq.refl _)]
   walk_at "r"
   refine A8 (SqL.of ho) (Dc (j:=0) rfl) ?_
   walk_at "r"
   refine A5 qx rfl ?_
   walk_at "r"
   rw [Bv,decide_eq_true (Eq.refl _)]
   walk_at "r"
   refine ⟨_,rfl,L.m,C,L.dx,_,_,rfl,M1.ins,(Ir (L.with t) S.steps).1,MW,?_⟩
   walk_at "r"
   unfold tIf
   walk_at "r"
   refine A8 (SqL.of ho) (Dc (j:=0) rfl) ?_
   walk_at "r"
   refine A5 qx rfl ?_
   have fin:∀ l H2,H1 l=none->H2=upd H1 l (.lst [])->Mp K C [.ref L.m,.ref p,.int ((if b2 then 1 else 2:Nat):Nat),.ref e,.ref l] H2 (fun v H'=>Q .non H') E0:=by
    intro l H2 hl hH2
    have s2:Same H1 H2:=by rw [hH2];exact Same.upd hl
    have e2:H2 l=some (.lst []):=by rw [hH2];exact Ad
    refine ⟨p,e,l,(if b2 then 1 else 2),pl,ev,[],ar,[],HB,kvs,L.with t,_,.ref b, "if",d,ts,rfl,M1.new s2,s2 _ _ ((t1 p).1 _ hp),s2 _ _ ((M.a e1).2 _ _ nA he),(ale.mono (PrAt.same t1)).mono (PrAt.same s2.t),e2,.nil,hv,(htr.sameT t1).same s2,bk,hpl,har,z2,fun H3 e3 M3=>?_⟩
    exact q _ t (e1.trans' (L':=L.with t) ((s2.m _).trans e3) rfl rfl rfl (.inr ht0)) M3 ht0
   refine ⟨b2,rfl,?_⟩
   cases b2 with
   | true =>
    rw [if_pos rfl]
    walk_at "r"
    refine ⟨Bk,fun l hl=>?_⟩
    exact fin l _ hl rfl
   | false =>
    rw [if_neg Pi]
    walk_at "r"
    refine ⟨Bk,fun l hl=>?_⟩
    exact fin l _ hl rfl
  | @ifr th x hwi hS hxt =>
   subst hwi
   obtain ⟨bt,hbt,qbt⟩:=(hpk "if").2 [0] (by decide +kernel)
   walk_at "r"
   refine ⟨ap,pk, "if",.ref bt,rfl,rfl,hpa,hbt,?_⟩
   walk_at "r"
   refine En (qbt _) ?_
   walk_at "r"
   refine ⟨1,th,[x],HB,kvs,L,S,rfl,M,by decide,hS,rfl,fun o t ov H1 e1 M1 ht0 ho alo ho0 hot=>?_⟩
   have t1:=M.t e1
   have hp1:=(t1 p).1 _ hp
   have he1:=(M.a e1).2 _ _ nA he
   have ale1:Al (PrAt K H1) ev ar:=ale.mono (PrAt.same t1)
   obtain ⟨u1,us,rfl⟩:∃ u1 us,ov=u1::us:=by
    have hl:=alo.1
    match ov,hl with
    | u1::us,_=>exact ⟨u1,us,rfl⟩
   obtain ⟨_,ax,rfl,qx⟩:=alo.2 0 u1 _ rfl rfl
   walk_at "r"
   rw [Bv,decide_eq_false (by decide +kernel)]
   walk_at "r"
   rw [Bv,decide_eq_true (Eq.refl _)]
   walk_at "r"
   refine A8 (SqL.of ho) (Dc (j:=0) rfl) ?_
   walk_at "r"
   refine A5 qx rfl ?_
   walk_at "r"
   rw [Bv,decide_eq_false hxt]
   walk_at "r"
   rw [Bv,decide_eq_false (by decide +kernel)]
   walk_at "r"
   refine ⟨Bf,fun p2 h2=>?_⟩
   refine F8 (.inr (SqT.of Ad)) rfl rfl ?_
   have s3:Same H1 (upd H1 p2 (.tup [.str "plus",.str "minus",.str "less"])):=Same.upd h2
   rw [if_neg Pi,show Ef (.str "if") [.str "plus",.str "minus",.str "less"]=decide (("if" : Str)∈(["plus", "minus", "less"]:List Str)) from G7 (ws:=["plus", "minus", "less"]),decide_eq_false (by decide +kernel)]
   revert s3
   generalize upd H1 p2 (.tup [.str "plus",.str "minus",.str "less"])=H3
   intro s13
   have M3:=M1.new s13
   obtain ⟨tv,et,att⟩:=M3.things
   have htl:tv.length=th.length:=att.1
   have hthl:th.length+1=S.things.length:=by rw [hS,Pg];rfl
   have ho3:=s13 _ _ ho
   refine ⟨false,rfl,?_⟩
   refine iteF ?_
   walk_at "r"
   refine ⟨_,rfl,L.m,C,L.dx,_,_,rfl,M3.ins,O.cl,O.nt,F0 (L.with t) S.steps,?_⟩
   refine Cj (SqL.of et) ?_
   walk_at "r"
   refine ⟨_,rfl,L.m,C,L.dx,_,_,rfl,M3.ins,(Dm (L.with t) S.steps).2.1,MR,?_⟩
   walk_at "r"
   refine ⟨"if",p,o,e,pl,_,ev,[x],ar,HB,kvs,L.with t,_,rfl,M3,s13 _ _ hp1,SqL.of ho3,alo.mono (ThAt.same s13.t),SqL.of (s13 _ _ he1),ale1.mono (PrAt.same s13.t),by show S.rows.length < 10000;omega,fun v4 H4 e4 M4 t4=>?_⟩
   rw [if_pos (by decide +kernel)] at M4
   obtain ⟨tv4,et4,at4⟩:=M4.things
   have htl4:tv4.length=th.length:=at4.1
   walk_at "r"
   refine Dh et4 (by omega) ?_
   have M5:=M4.setThings (at4.snoc t4)
   walk_at "r"
   refine q _ t (e1.trans' (L':=L.with t) ((s13.m _).trans (e4.trans (SameM.upd (.inr (.inr (.inr rfl)))))) rfl rfl rfl (.inr ht0)) M5 ht0
  | @calls th k y r pl' wd' d' hwc hS hrk hf hpl' hs bk har' =>
   subst hwc
   obtain ⟨bt,hbt,qbt⟩:=(hpk "call").2 [1,0] (by decide +kernel)
   walk_at "r"
   refine ⟨ap,pk, "call",.ref bt,rfl,rfl,hpa,hbt,?_⟩
   walk_at "r"
   refine En (qbt _) ?_
   walk_at "r"
   refine ⟨2,th,[("row",.int (k:Nat)),y],HB,kvs,L,S,rfl,M,by decide,hS,rfl,fun o t ov H1 e1 M1 ht0 ho alo ho0 hot=>?_⟩
   have t1:=M.t e1
   have hfn:Bq S.rows ("row",.int (k:Nat))=true:=by
    show (decide (("row" : Str) = "row") && (match S.rows[((k:Nat):Int).toNat]? with | some r=>decide (r.wd∈(["fn", "rec"]:List Str)) | none=>false))=true
    rw [Qm,hrk]
    simp only [decide_eq_true hf,decide_true,Bool.and_self]
   have rok:Kp S.rows ("row",.int (k:Nat)):=fun _=>⟨k,rfl,(Pq.mp hrk).1⟩
   obtain ⟨u1,us,rfl⟩:∃ u1 us,ov=u1::us:=by
    have hl:=alo.1
    match ov,hl with
    | u1::us,_=>exact ⟨u1,us,rfl⟩
   have hx1:=alo.2 0 u1 _ rfl rfl
   walk_at "r"
   rw [Bv,decide_eq_false (by decide +kernel)]
   walk_at "r"
   rw [Bv,decide_eq_false (by decide +kernel)]
   walk_at "r"
   rw [Bv,decide_eq_true (Eq.refl _)]
   walk_at "r"
   refine ⟨_,rfl,L.m,C,L.dx,_,_,rfl,M1.ins,(Ir (L.with t) S.steps).2.1,MI,?_⟩
   walk_at "r"
   refine A8 (SqL.of ho) (Dc (j:=0) rfl) ?_
   walk_at "r"
   refine ⟨_,("row",.int (k:Nat)),HB,kvs,L.with t,_,rfl,M1,hx1,rok,fun H2 s2=>?_⟩
   rw [show Bq ({ S with things:=th }:MS).rows ("row",.int (k:Nat))=true from hfn]
   refine ⟨true,rfl,?_⟩
   refine iteT ?_
   walk_at "r"
   have M2:=M1.new s2
   obtain ⟨hpl2,v',ts',hv',ht'⟩:=(FA.same t1).same s2.t pl' wd' d' hs
   refine ⟨_,rfl,L.m,C,L.dx,_,_,rfl,M2.ins,(Ir (L.with t) S.steps).2.2,MC,?_⟩
   walk_at "r"
   refine ⟨o,_,k,[y],r,pl',HB,kvs,L.with t,_,v',wd',d',ts',rfl,M2,s2 _ _ ho,alo.mono (ThAt.same s2.t),hrk,hpl',hv',ht',bk,hpl2,har',z2,by show 1<=1000;decide,fun H3 e3 M3=>?_⟩
   walk_at "r"
   exact q _ t (e1.trans' (L':=L.with t) ((s2.m _).trans e3) rfl rfl rfl (.inr ht0)) M3 ht0
  | @two th x y hw3 hS ok ox oy =>
  have hwd:B9 wd=some [1,0]/\¬ wd = "let" /\ ¬ wd = "if" /\ ¬ wd∈WA:=by
   rcases hw3 with h | ⟨rfl,_⟩
   ·unfold Gc at h
    simp only [Pd,Pj,or_false] at h
    rcases h with rfl | rfl | rfl <;> exact ⟨by decide +kernel,by decide +kernel,by decide +kernel,by decide +kernel⟩
   ·exact ⟨by decide +kernel,by decide +kernel,by decide +kernel,by decide +kernel⟩
  obtain ⟨pw,w1,w2,w4⟩:=hwd
  obtain ⟨bt,hbt,qbt⟩:=(hpk wd).2 _ pw
  walk_at "r"
  refine ⟨ap,pk,wd,.ref bt,rfl,rfl,hpa,hbt,?_⟩
  walk_at "r"
  refine En (qbt _) ?_
  walk_at "r"
  refine ⟨2,th,[x,y],HB,kvs,L,S,rfl,M,by decide,hS,rfl,fun o t ov H1 e1 M1 ht0 ho alo ho0 hot=>?_⟩
  have t1:=M.t e1
  have hp1:=(t1 p).1 _ hp
  have he1:=(M.a e1).2 _ _ nA he
  have ale1:Al (PrAt K H1) ev ar:=ale.mono (PrAt.same t1)
  have nAo:¬ (L.with t).A o:=by
   obtain ⟨rv,er,_⟩:=M.rows
   obtain ⟨wv,ew,_⟩:=M.wait
   rintro (z | z | z)
   ·rw [z] at ho0;rw [show (L.with t).rd=L.rd from rfl,er] at ho0;cases ho0
   ·rw [z] at ho0;rw [show (L.with t).wd=L.wd from rfl,ew] at ho0;cases ho0
   ·exact hot z
  have hx:∃ ax ay,ov=[.ref ax,.ref ay]/\SqT K H1 ax [.str x.1,x.2]/\SqT K H1 ay [.str y.1,y.2]:=by
   have hl:=alo.1
   obtain ⟨u1,u2,rfl⟩:=lz2 (vs:=ov) hl
   obtain ⟨_,ax,e3,q3⟩:=alo.2 0 u1 x rfl rfl
   obtain ⟨_,ay,e4,q4⟩:=alo.2 1 u2 y rfl rfl
   exact ⟨ax,ay,by rw [e3,e4],q3,q4⟩
  obtain ⟨ax,ay,rfl,qx,qy⟩:=hx
  walk_at "r"
  rw [Bv,decide_eq_false w1]
  walk_at "r"
  rw [Bv,decide_eq_false w2]
  walk_at "r"
  rw [Bv]
  by_cases w3:wd = "call"
  ·have hfn:Bq S.rows x=false:=by
    rcases hw3 with h | h
    ·rw [w3] at h;exact absurd h (by decide +kernel)
    ·exact h.2
   rw [decide_eq_true w3]
   walk_at "r"
   refine ⟨_,rfl,L.m,C,L.dx,_,_,rfl,M1.ins,(Ir (L.with t) S.steps).2.1,MI,?_⟩
   walk_at "r"
   refine A8 (SqL.of ho) rfl ?_
   walk_at "r"
   refine ⟨_,x,HB,kvs,L.with t,_,rfl,M1,⟨(alo.2 0 _ x rfl rfl).1,ax,rfl,qx⟩,ok,fun H2 s2=>?_⟩
   rw [show Bq ({ S with things:=th }:MS).rows x=false from hfn]
   refine ⟨false,rfl,?_⟩
   refine iteF ?_
   walk_at "r"
   refine ⟨Bf,fun p2 h2=>?_⟩
   refine F8 (.inr (SqT.of Ad)) rfl rfl ?_
   have s3:Same H2 (upd H2 p2 (.tup [.str "plus",.str "minus",.str "less"])):=Same.upd h2
   rw [if_neg Pi,show Ef (.str wd) [.str "plus",.str "minus",.str "less"]=decide (wd∈(["plus", "minus", "less"]:List Str)) from G7 (ws:=["plus", "minus", "less"]),decide_eq_false (by rw [w3];decide +kernel)]
   revert s3
   generalize upd H2 p2 (.tup [.str "plus",.str "minus",.str "less"])=H3
   intro s3
   have s13:=s2.trans s3
   have M3:=M1.new s13
   obtain ⟨tv,et,att⟩:=M3.things
   have htl:tv.length=th.length:=att.1
   have hthl:th.length+2=S.things.length:=by rw [hS,Pg];rfl
   have ho3:=s13 _ _ ho
   have ef:Fi S wd pl th x y={ S with rows:=S.rows++[⟨wd,An pl,[x,y],[]⟩],things:=th++[(("row" : Str),V.int (S.rows.length:Nat))] }:=by
    unfold Fi
    rw [if_neg fun h=>absurd h.1 (by rw [w3];decide +kernel)]
   rw [ef] at q
   refine ⟨false,rfl,?_⟩
   refine iteF ?_
   walk_at "r"
   refine ⟨_,rfl,L.m,C,L.dx,_,_,rfl,M3.ins,O.cl,O.nt,F0 (L.with t) S.steps,?_⟩
   refine Cj (SqL.of et) ?_
   walk_at "r"
   refine ⟨_,rfl,L.m,C,L.dx,_,_,rfl,M3.ins,(Dm (L.with t) S.steps).2.1,MR,?_⟩
   walk_at "r"
   refine ⟨wd,p,o,e,pl,_,ev,[x,y],ar,HB,kvs,L.with t,_,rfl,M3,s13 _ _ hp1,SqL.of ho3,alo.mono (ThAt.same s13.t),SqL.of (s13 _ _ he1),ale1.mono (PrAt.same s13.t),by show S.rows.length < 10000;omega,fun v4 H4 e4 M4 t4=>?_⟩
   rw [if_neg w4] at M4
   obtain ⟨tv4,et4,at4⟩:=M4.things
   have htl4:tv4.length=th.length:=at4.1
   walk_at "r"
   refine Dh et4 (by omega) ?_
   have M5:=M4.setThings (at4.snoc t4)
   walk_at "r"
   refine q _ t (e1.trans' (L':=L.with t) ((s13.m _).trans (e4.trans (SameM.upd (.inr (.inr (.inr rfl)))))) rfl rfl rfl (.inr ht0)) M5 ht0
  have hw3':wd∈(["plus", "minus", "less"]:List Str):=by
   rcases hw3 with h | h
   ·exact h
   ·exact absurd h.1 w3
  rw [decide_eq_false w3]
  walk_at "r"
  refine ⟨Bf,fun p2 h2=>?_⟩
  refine F8 (.inr (SqT.of Ad)) rfl rfl ?_
  have s2:Same H1 (upd H1 p2 (.tup [.str "plus",.str "minus",.str "less"])):=Same.upd h2
  rw [if_neg Pi,show Ef (.str wd) [.str "plus",.str "minus",.str "less"]=decide (wd∈(["plus", "minus", "less"]:List Str)) from G7 (ws:=["plus", "minus", "less"]),decide_eq_true hw3']
  revert s2
  generalize upd H1 p2 (.tup [.str "plus",.str "minus",.str "less"])=H2
  intro s2
  walk_at "r"
  refine ⟨o,_,[x,y],rfl,s2 _ _ ho,alo.mono (ThAt.same s2.t),by show 2<=1000;decide,fun H3 s3=>?_⟩
  have s13:=s2.trans s3
  have M3:=M1.new s13
  obtain ⟨tv,et,att⟩:=M3.things
  have htl:tv.length=th.length:=att.1
  have hthl:th.length+2=S.things.length:=by rw [hS,Pg];rfl
  have ho3:=s13 _ _ ho
  by_cases hnum:x.1 = "num" /\ y.1 = "num"
  ·have en:Ij [x,y]=true:=by
    unfold Ij
    rw [Q4,Q4,List.all_nil,decide_eq_true hnum.1,decide_eq_true hnum.2]
    rfl
   rw [en]
   obtain ⟨i,ei⟩:=ox hnum.1
   obtain ⟨j,ej⟩:=oy hnum.2
   rw [ei] at qx
   rw [ej] at qy
   have ef:Fi S wd pl th x y={ S with things:=th++[Es wd i j] }:=by
    unfold Fi
    rw [if_pos ⟨hw3',hnum⟩,ei,ej]
    rfl
   rw [ef] at q
   refine ⟨true,rfl,?_⟩
   refine iteT ?_
   walk_at "r"
   refine ⟨_,rfl,L.m,C,L.dx,_,_,rfl,M3.ins,O.cl,O.nt,F0 (L.with t) S.steps,?_⟩
   refine Cj (SqL.of et) ?_
   walk_at "r"
   refine A8 (SqL.of ho3) rfl ?_
   walk_at "r"
   refine A5 (s13.tup qx) rfl ?_
   walk_at "r"
   refine A8 (SqL.of ho3) rfl ?_
   walk_at "r"
   refine A5 (s13.tup qy) rfl ?_
   walk_at "r"
   refine ⟨wd,i,j,rfl,fun v4 H4 s4 t4=>?_⟩
   have M4:=M3.new s4
   walk_at "r"
   refine Dh (s4 _ _ et) (by omega) ?_
   have M5:=M4.setThings ((att.mono (ThAt.same s4.t)).snoc t4)
   walk_at "r"
   refine q _ t (e1.trans' (L':=L.with t) (((s13.trans s4).m _).trans (SameM.upd (.inr (.inr (.inr rfl))))) rfl rfl rfl (.inr ht0)) M5 ht0
  ·have en:Ij [x,y]=false:=by
    unfold Ij
    rw [Q4,Q4,List.all_nil,Bool.and_true,<- Bool.not_eq_true,Rk,decide_eq_true_iff,decide_eq_true_iff]
    exact hnum
   rw [en]
   have ef:Fi S wd pl th x y={ S with rows:=S.rows++[⟨wd,An pl,[x,y],[]⟩],things:=th++[(("row" : Str),V.int (S.rows.length:Nat))] }:=by
    unfold Fi
    rw [if_neg fun h=>hnum h.2]
   rw [ef] at q
   refine ⟨false,rfl,?_⟩
   refine iteF ?_
   walk_at "r"
   refine ⟨_,rfl,L.m,C,L.dx,_,_,rfl,M3.ins,O.cl,O.nt,F0 (L.with t) S.steps,?_⟩
   refine Cj (SqL.of et) ?_
   walk_at "r"
   refine ⟨_,rfl,L.m,C,L.dx,_,_,rfl,M3.ins,(Dm (L.with t) S.steps).2.1,MR,?_⟩
   walk_at "r"
   refine ⟨wd,p,o,e,pl,_,ev,[x,y],ar,HB,kvs,L.with t,_,rfl,M3,s13 _ _ hp1,SqL.of ho3,alo.mono (ThAt.same s13.t),SqL.of (s13 _ _ he1),ale1.mono (PrAt.same s13.t),by show S.rows.length < 10000;omega,fun v4 H4 e4 M4 t4=>?_⟩
   rw [if_neg w4] at M4
   obtain ⟨tv4,et4,at4⟩:=M4.things
   have htl4:tv4.length=th.length:=at4.1
   walk_at "r"
   refine Dh et4 (by omega) ?_
   have M5:=M4.setThings (at4.snoc t4)
   walk_at "r"
   refine q _ t (e1.trans' (L':=L.with t) ((s13.m _).trans (e4.trans (SameM.upd (.inr (.inr (.inr rfl)))))) rfl rfl rfl (.inr ht0)) M5 ht0
theorem Zi0 {CX:Co}{k:Nat}{f:Addr}{fd:FuncData}{ps:List Str}{sp:Sp}(F:Az P w K mg base Aw k f fd ps sp):Az P w K mg base CX k f fd ps sp:=⟨F.len,fun A outer s H args us vs Q E hr he hb hv hs=>Sh (F.run A outer s H args us vs Q E hr he hb hv hs) fun r s' h=>by
 cases r with
 | ok f=>cases f <;> exact h
 | error e=>exact P9 h⟩
theorem Zl4 {CX:Co}{k:Nat}{f:Addr}{fd:FuncData}{ps:List Str}{sp1 sp2:Sp}(F1:Az P w K mg base CX k f fd ps sp1)(F2:Az P w K mg base CX k f fd ps sp2):Az P w K mg base CX k f fd ps (fun vs H Q E=>sp1 vs H Q E\/sp2 vs H Q E) :=
 ⟨fun vs H Q E h=>h.elim (F1.len vs H Q E) (F2.len vs H Q E),fun A outer s H args us vs Q E hr he hb hv hs=>hs.elim (F1.run A outer s H args us vs Q E hr he hb hv) (F2.run A outer s H args us vs Q E hr he hb hv)⟩
noncomputable def Ze1 (K:O6)(C TL:Addr):Sp:=fun vs H _ E=>∃(n:Int)(HB:Hp)(kvs:List (List Aq×V))(L:Ml)(S:MS),vs=[.ref L.m,.int n]/\MAt K HB C kvs L H S/\500 < S.steps+n/\∀ H',SameM L H H'->E (.ref TL) none H'
theorem Zhb {C N_TooLong:Addr}{f:Addr}{fd:FuncData}(F:Fun K "make_steps" "Machine.make_steps" Iv f fd)(T:Txt K mg)(O:Mc K C)(G_MOST_STEPS:Fc mg "MOST_STEPS" (.int 500))(R_TooLong:Mf K N_TooLong)(G_TooLong:mg "TooLong" = some (.ref N_TooLong)):Az P w K mg base (Ci P w) 1 f fd ["self", "many"] (Ze1 K C N_TooLong):=by
 refine F.okx Zct (fun vs H Q E h=>?_) (fun cdv A outer s H vs Q E hr h=>?_)
 ·obtain ⟨n,HB,kvs,L,S,rfl,_⟩:=h
  rfl
 ·obtain ⟨n,HB,kvs,L,S,rfl,M,hn,q⟩:=h
  refine ⟨_,Ae (Zfd K (qv 0) (qv 1) Zfj)
   (Af (Av (Ax G6 (Cb K (qv 0)) (F3 G_MOST_STEPS) (As _)) (Af (Zqe rfl R_TooLong G_TooLong (Aa Aj Ab) (fun _ _ _ _ _ _ _ I x h0 hn he=>Zow I x h0 hn he) rfl)) Ay)),?_⟩
  walk_at "r"
  refine ⟨_,rfl,L.m,C,L.dx,_,_,rfl,M.ins,O.cl,O.ns,Jm L S.steps,_,rfl,?_⟩
  refine ⟨_,_,rfl,rfl,L.dx,_,M.ins,by show 5 < 1000;decide,?_⟩
  rw [Zf1]
  have M1:=M.setSteps (S.steps+n)
  have e1:SameM L H (upd H L.m (.ins C L.dx (L.fs (S.steps+n)))):=SameM.upd (.inl rfl)
  revert M1 e1
  generalize upd H L.m (.ins C L.dx (L.fs (S.steps+n)))=H1
  intro M1 e1
  walk_at "r"
  refine ⟨_,rfl,L.m,C,L.dx,_,_,rfl,M1.ins,O.cl,O.ns,Jm L (S.steps+n),?_⟩
  walk_at "r"
  rw [decide_eq_true (by omega)]
  walk_at "r"
  exact ⟨B7,q _ e1⟩
noncomputable def Zb1 (K:O6)(C TL:Addr):Sp:=fun vs H _ E=>∃(p e:Addr)(pl:List Nat)(ev:List V)(ar:List (Str×Str×V))(HB:Hp)(kvs:List (List Aq×V))(L:Ml)(S:MS)(v:V)(wd:Str)(d:Dt)(ts:List Tr),vs=[.ref L.m,.ref p,.ref e]/\MAt K HB C kvs L H S/\H p=some (.tup (Bp pl))/\H e=some (.lst ev)/\Al (PrAt K H) ev ar/\¬ L.A e/\B4 kvs (Df pl)=some v/\TrAt K H v (.mk wd d ts)/\wd ≠ "gap" /\ 500 < S.steps+1 /\
 ∀ H',SameM L H H'->E (.ref TL) none H'
theorem Znq {C TL:Addr}{f:Addr}{fd:FuncData}(F:Fun K "come_to" "Machine.come_to" Ie f fd)(T:Txt K mg)(O:Mc K C){ap:Addr}{pk:List (Str×V)}(G_PARTS_AWAITED:Fc mg "PARTS_AWAITED" (.ref ap))(hpa:Gq P w K ap pk)(hpk:∀ wd,(Dl pk wd).isSome=(B9 wd).isSome/\∀ ns,B9 wd=some ns->∃ b,Dl pk wd=some (.ref b)/\∀ H,SqT K H b (ns.map V.int))
  (MS_:Da (Ci P w) P w K mg base 1 C "make_steps" ["self", "many"] (Ze1 K C TL)) (MLf:Da Aw P w K mg base 2 C "thing_of_leaf" ["self", "word", "note", "place", "around"] (Zad K C)):Az P w K mg base (Ci P w) 3 f fd ["self", "place", "around"] (Zb1 K C TL):=by
 refine F.okx sc_Machine_come_to (fun vs H Q E h=>?_) (fun cdv A outer s H vs Q E hr h=>?_)
 ·obtain ⟨p,e,pl,ev,ar,HB,kvs,L,S,v,wd,d,ts,rfl,_⟩:=h
  rfl
 ·obtain ⟨p,e,pl,ev,ar,HB,kvs,L,S,v,wd,d,ts,rfl,M,hp,he,ale,nA,hv,ht,hg,h5,q⟩:=h
  refine ⟨_,Ae (Kc (El (Eh K) (K7 hr.u1 (Cb K (qv 0)) (qv 1) (fun _ _=>rfl)) (Eo) (Dd Ac)) (Gf K (n:=2) rfl (Cs (Bu (i:=3) sc_Machine_come_to.nd rfl (Or.inl rfl)) (Cs (Bu (i:=4) sc_Machine_come_to.nd rfl (Or.inl rfl)) (Ge)))))
   (Ae (Av (Ax (Fg K hr.u200) (qv 3) Aj (As _)) (Af (Cc (Dj (k:=1) K (Ci P w) ["self", "many"] (qv 0) hr.m (Lb (fun _ _ _ h=>h)) (Aa Ac Ab)))) Ay)
   (Af (Av (Ax (Zcy P w K) (qv 3) (F3 G_PARTS_AWAITED) (by rfl)) (Ae (Cc (Db K Py Qc Qd Dg (Cb K (qv 0)) (Aa (Ag (Aa (qv 1) (Aa (qv 2) (Aa Cp Ab)))) Ab)))
   (Af (Cc (Db K Py PySem.F.slot_list_extend PySem.F.type_list_extend Zfy (Cb K (qv 0)) (Aa (Lj (N:=["number", "around", "place"]) (σ0:=Fb 1 [2,1]) rfl (Iq rfl (by decide +kernel) (by decide +kernel) (by decide +kernel)) (Fh K (M0 (Zat P w K) (F3 G_PARTS_AWAITED) (qv 3) (fun _ _=>rfl))) (Ja rfl (by rfl)) (fun _ _ _ _=>Bu (i:=0) Zds rfl (Or.inl rfl)) (fun _ _ _ _=>Jq) (fun _ _ _ _=>Ag (Aa (Ah (Lp K) (qv 2) (Ag (Aa (qv 0) Ab))) (Aa (qv 1) (Aa Cp Ab))))) Ab))))) (Af (Cc (Db K Py Qc Qd Dg (Cb K (qv 0)) (Aa (Dj (k:=2) K Aw ["self", "word", "note", "place", "around"] (qv 0) hr.m Dp (Aa (qv 3) (Aa (qv 4) (Aa (qv 1) (Aa (qv 2) Ab))))) Ab))))))),?_⟩
  have bg:=big
  cases ht with
  | @mk b pp _ nv _ vs _ qb hn qpp hl hch =>
  walk_at "r"
  refine ⟨_,rfl,L.m,C,L.dx,_,_,rfl,M.ins,O.cl,O.nf,Mv L S.steps,_,rfl,L.fd,.ref b,rfl,?_,?_⟩
  ·rw [<- hv]
   refine DGet.t M.frm ?_
   rw [Ko]
   exact hp
  walk_at "r"
  refine .inr (.inr ⟨b,_,rfl,qb,by show ¬(HT.sIx 3 0 none=0/\HT.sIx 3 3 (some 2)=3);decide,fun p1 h1=>?_⟩)
  rw [show C3 [V.str wd,nv,.ref pp] none (some 2)=[V.str wd,nv] from rfl]
  have s1:Same H (upd H p1 (.tup [.str wd,nv])):=Same.upd h1
  have e1:upd H p1 (.tup [.str wd,nv]) p1=some (.tup [.str wd,nv]):=Ad
  have hp1:=s1 _ _ hp
  have he1:=s1 _ _ he
  have M1:=M.new s1
  have hn1:IsN K (upd H p1 (.tup [.str wd,nv])) nv d:=hn.same s1.t
  revert s1 e1 hp1 he1 M1 hn1
  generalize upd H p1 (.tup [.str wd,nv])=H1
  intro s1 e1 hp1 he1 M1 hn1
  refine Fe (SqT.of e1) rfl ?_
  refine s_gcons ?_
  refine s_gname ?_
  refine s_gcons ?_
  refine s_gname ?_
  refine s_gnil ?_
  with_reducible refine s_seq ?_
  walk_at "r"
  rw [decide_eq_false (fun h=>hg (V.str.inj h))]
  walk_at "r"
  refine ⟨_,rfl,L.m,C,L.dx,_,_,rfl,M1.ins,(Dm L S.steps).1,MS_,?_⟩
  walk_at "r"
  exact ⟨1,HB,kvs,L,S,rfl,M1,h5,fun H2 e2=>q _ ((s1.m L).trans e2)⟩
inductive E9 (sub:List Nat->Option (Str×Dt)):MS->MS->Prop where
 | come {S:MS} {w:List Wt} {x:Wt} {wd:Str} {d:Dt} (hw:S.wait=w++[x]) (hc:x.came=false) (hs:sub x.pl=some (wd,d)) (hn:Lr wd d) (h5:wd ≠ "gap" -> S.steps+1<=500):E9 sub S (Fa { S with wait:=w } wd d x.pl x.ar)
 | further {S S2:MS} {w:List Wt} {x:Wt} {wd:Str} {d:Dt} (hw:S.wait=w++[x]) (hc:x.came=true) (hs:sub x.pl=some (wd,d)) (hf:Gj sub wd d x.pl x.ar { S with wait:=w } S2) (hr:x.ar.length<=9000):E9 sub S S2
structure Hb (S:MS):Prop where
 r:S.rows.length < 9000
 w:S.wait.length < 9000
 t:S.things.length < 9000
inductive Dw (sub:List Nat->Option (Str×Dt)):Nat->MS->Option MS->Prop where
 | nil {S:MS} (h:S.wait=[]):Dw sub 0 S (some S)
 | last {S:MS} {w:List Wt} {x:Wt} {wd:Str} {d:Dt} (hs:Hb S) (hw:S.wait=w++[x]) (hc:x.came=false) (hsub:sub x.pl=some (wd,d)) (hg:wd ≠ "gap") (h5:500 < S.steps+1):Dw sub 0 S none
 | cons {n:Nat} {S S1:MS} {o:Option MS} (hs:Hb S) (h1:E9 sub S S1) (h2:Dw sub n S1 o):Dw sub (n+1) S o
noncomputable def Zcc (K:O6)(C TL:Addr):Sp:=fun vs H Q E=>∃(HB:Hp)(kvs:List (List Aq×V))(L:Ml)(S:MS)(sub:List Nat->Option (Str×Dt))(n:Nat)(o:Option MS),vs=[.ref L.m]/\MAt K HB C kvs L H S/\FormsAt K H kvs sub/\Dw sub n S o/\(∀ S',o=some S'->∃(th:List (Str×V))(x:Str×V),S'.things=th++[x]/\∀ v H' t,SameM L H H'->MAt K HB C kvs (L.with t) H' { S' with things:=th }->ThAt K H' v x->Q v H')/\(o=none->∀ H',Same HB H'->E (.ref TL) none H')
theorem sc_Machine_thing_at_the_end:Bl ["self", "place", "around", "parts_came"] ["self"] (A9 J7):=by walk_at "sc"
theorem Zk3 {C TL:Addr}{f:Addr}{fd:FuncData}(F:Fun K "thing_at_the_end" "Machine.thing_at_the_end" J7 f fd)(T:Txt K mg)(O:Mc K C)(MC:Da (Ci P w) P w K mg base 3 C "come_to" ["self", "place", "around"] (fun vs H Q E=>Zd6 K C vs H Q E\/Zb1 K C TL vs H Q E))(MG:Da Aw P w K mg base 4 C "go_further" ["self", "place", "around"] (Zdv K C)):Az P w K mg base (Ci P w) 5 f fd ["self"] (Zcc K C TL):=by
 refine F.okx sc_Machine_thing_at_the_end (fun vs H Q E h=>?_) (fun cdv A outer s H vs Q E hr h=>?_)
 ·obtain ⟨HB,kvs,L,S,sub,n,oo,rfl,_⟩:=h
  rfl
 ·obtain ⟨HB,kvs,L,S,sub,n,oo,rfl,M,FA,R,qS,qN⟩:=h
  refine ⟨_,Ae (Zcz PassesOwn.leaving (Zbq K (Cb K (qv 0)) (by intro _;rfl)) (Ae (Kc (Jx K Py Sr Ss Jt (Cb K (qv 0))) (Gf K (n:=3) rfl (Cs (Bu (i:=1) sc_Machine_thing_at_the_end.nd rfl (Or.inl rfl)) (Cs (Bu (i:=2) sc_Machine_thing_at_the_end.nd rfl (Or.inl rfl)) (Cs (Bu (i:=3) sc_Machine_thing_at_the_end.nd rfl (Or.inl rfl)) (Ge))))))
   (Af (Av (Zbq K (qv 3) (by intro _;rfl)) (Af (Cc (Dj (k:=4) K Aw ["self", "place", "around"] (qv 0) hr.m Dp (Aa (qv 1) (Aa (qv 2) Ab))))) (Af (Cc (Dj (k:=3) K (Ci P w) ["self", "place", "around"] (qv 0) hr.m (Lb (fun _ _ _ h=>h)) (Aa (qv 1) (Aa (qv 2) Ab)))))))))
   (Af (Ap (Jx K Py Sr Ss Jt (Cb K (qv 0))))),?_⟩
  have bg:=big
  walk_at "r"
  refine ⟨fun m σ' H'=>∃ v1 v2 v3 S1 t,σ'=[some (.ref L.m),v1,v2,v3]/\MAt K HB C kvs (L.with t) H' S1/\Dw sub m S1 oo/\SameM L H H'/\(t=L.td\/H t=none),⟨n,none,none,none,S,L.td,rfl,M,R,SameM.refl _ _,.inl rfl⟩,?_⟩
  rintro m σ' H1 ⟨v1,v2,v3,S1,t,rfl,M1,R1,e1,ht⟩
  obtain ⟨wv,ew,aw⟩:=M1.wait
  have FA1:=FA.same (M.t e1)
  walk_at "r"
  refine ⟨_,rfl,L.m,C,L.dx,_,_,rfl,M1.ins,O.cl,O.nw,Hf (L.with t) S1.steps,?_⟩
  refine Zeg (SqL.of ew) ?_
  cases R1 with
  | nil hw =>
   have hwv:wv=[]:=Sk (by rw [aw.1,hw];rfl)
   subst hwv
   refine iteF ?_
   walk_at "r"
   obtain ⟨tv,et,att⟩:=M1.things
   obtain ⟨th,x,hx,q⟩:=qS _ rfl
   rw [hx] at att
   obtain ⟨tv',v,th',x',rfl,exx,at',hv⟩:=att.last (by intro z;rw [z] at att;have:=att.1;simp at this)
   obtain ⟨rfl,e2⟩:=Rw exx rfl
   cases e2
   refine ⟨_,rfl,L.m,C,L.dx,_,_,rfl,M1.ins,O.cl,O.nt,F0 (L.with t) S1.steps,?_⟩
   refine Cj (SqL.of et) ?_
   refine Ik et ?_
   have M2:=M1.setThings at'
   have e2:SameM (L.with t) H1 (upd H1 (L.with t).td (.lst tv')):=SameM.upd (.inr (.inr (.inr rfl)))
   refine q v _ t (e1.trans' (L':=L.with t) e2 rfl rfl rfl ht) M2 (ThAt.same (M1.t e2) _ _ hv)
  | @last _ w0 xw wd d hs hw hc hsub hg h5 =>
   rw [hw] at aw
   obtain ⟨wv',v,wl',xw',rfl,exx,aw',hvw⟩:=aw.last (by intro z;rw [z] at aw;have:=aw.1;simp at this)
   obtain ⟨rfl,e2⟩:=Rw exx rfl
   cases e2
   have hne:(!(wv'++[v]).isEmpty)=true:=by simp
   rw [hne]
   refine iteT ?_
   refine ⟨fun σ2 H2=>∃ m2,m2 < 0/\∃ v1 v2 v3 S1 t,σ2=[some (.ref L.m),v1,v2,v3]/\MAt K HB C kvs (L.with t) H2 S1/\Dw sub m2 S1 none/\SameM L H H2/\(t=L.td\/H t=none),fun _ _ h=>h,?_⟩
   walk_at "r"
   refine ⟨_,rfl,L.m,C,L.dx,_,_,rfl,M1.ins,O.cl,O.nw,Hf (L.with t) S1.steps,?_⟩
   refine Cj (SqL.of ew) ?_
   refine Ik ew ?_
   have M2:=M1.setWait aw'
   have e12:SameM (L.with t) H1 (upd H1 (L.with t).wd (.lst wv')):=SameM.upd (.inr (.inr (.inl rfl)))
   have hv2:=WtAt.same (M1.a e12) _ _ hvw
   have FA2:=FA1.same (M1.t e12)
   revert M2 e12 hv2 FA2
   generalize upd H1 (L.with t).wd (.lst wv')=H2
   intro M2 e12 hv2 FA2
   obtain ⟨a,p,e,ev,rfl,qa,hp,he,ale,nA⟩:=hv2
   have e02:SameM L H H2:=e1.trans' (L':=L.with t) e12 rfl rfl rfl ht
   walk_at "r"
   refine Fe qa rfl ?_
   walk_at "r"
   refine ⟨xw.came,rfl,?_⟩
   rw [hc]
   refine iteF ?_
   walk_at "r"
   obtain ⟨hpl,vv,ts,hval,htr⟩:=FA2 _ _ _ hsub
   refine ⟨_,rfl,L.m,C,L.dx,_,_,rfl,M2.ins,(Dm (L.with t) S1.steps).2.2.2.1,MC,?_⟩
   walk_at "r"
   exact .inr ⟨p,e,xw.pl,ev,xw.ar,HB,kvs,L.with t,_,vv,wd,d,ts,rfl,M2,hp,he,ale,nA,hval,htr,hg,h5,fun H3 e3=>qN rfl _ (M2.outer e3)⟩
  | @cons m' _ S2 _ hs h1 h2 =>
   have key:∃ w x,S1.wait=w++[x]:=by
    cases h1 with
    | come hw=>exact ⟨_,_,hw⟩
    | further hw=>exact ⟨_,_,hw⟩
   obtain ⟨wl,xw,hwx⟩:=key
   rw [hwx] at aw
   obtain ⟨wv',v,wl',xw',rfl,exx,aw',hvw⟩:=aw.last (by intro z;rw [z] at aw;have:=aw.1;simp at this)
   obtain ⟨rfl,e2⟩:=Rw exx rfl
   cases e2
   have hne:(!(wv'++[v]).isEmpty)=true:=by simp
   rw [hne]
   refine iteT ?_
   refine ⟨fun σ2 H2=>∃ m2,m2 < m'+1/\∃ v1 v2 v3 S1 t,σ2=[some (.ref L.m),v1,v2,v3]/\MAt K HB C kvs (L.with t) H2 S1/\Dw sub m2 S1 oo/\SameM L H H2/\(t=L.td\/H t=none),fun _ _ h=>h,?_⟩
   walk_at "r"
   refine ⟨_,rfl,L.m,C,L.dx,_,_,rfl,M1.ins,O.cl,O.nw,Hf (L.with t) S1.steps,?_⟩
   refine Cj (SqL.of ew) ?_
   refine Ik ew ?_
   have M2:=M1.setWait aw'
   have e12:SameM (L.with t) H1 (upd H1 (L.with t).wd (.lst wv')):=SameM.upd (.inr (.inr (.inl rfl)))
   have hv2:=WtAt.same (M1.a e12) _ _ hvw
   have FA2:=FA1.same (M1.t e12)
   revert M2 e12 hv2 FA2
   generalize upd H1 (L.with t).wd (.lst wv')=H2
   intro M2 e12 hv2 FA2
   obtain ⟨a,p,e,ev,rfl,qa,hp,he,ale,nA⟩:=hv2
   have e02:SameM L H H2:=e1.trans' (L':=L.with t) e12 rfl rfl rfl ht
   walk_at "r"
   refine Fe qa rfl ?_
   walk_at "r"
   have hwl:wl.length < 9000:=by have:=hs.w;rw [hwx,Pg] at this;omega
   refine ⟨xw.came,rfl,?_⟩
   cases h1 with
   | @come w2 x2 wd d hw hc hsub hn h5 =>
    rw [hwx] at hw
    obtain ⟨rfl,e2⟩:=Rw hw rfl
    cases e2
    rw [hc]
    refine iteF ?_
    walk_at "r"
    obtain ⟨hpl,vv,ts,hval,htr⟩:=FA2 _ _ _ hsub
    refine ⟨_,rfl,L.m,C,L.dx,_,_,rfl,M2.ins,(Dm (L.with t) S1.steps).2.2.2.1,MC,?_⟩
    walk_at "r"
    refine .inl ⟨p,e,xw.pl,ev,xw.ar,HB,kvs,L.with t,_,vv,wd,d,ts,rfl,M2,hp,he,ale,nA,hval,htr,hn,hpl,hs.r,hwl,hs.t,h5,fun H3 e3 M3=>?_⟩
    walk_at "r"
    exact ⟨m',by omega,_,_,_,_,t,rfl,M3,h2,e02.trans' (L':=L.with t) e3 rfl rfl rfl ht,ht⟩
   | @further _ w2 x2 wd d hw hc hsub hf har =>
    rw [hwx] at hw
    obtain ⟨rfl,e2⟩:=Rw hw rfl
    cases e2
    rw [hc]
    refine iteT ?_
    walk_at "r"
    obtain ⟨hpl,vv,ts,hval,htr⟩:=FA2 _ _ _ hsub
    refine ⟨_,rfl,L.m,C,L.dx,_,_,rfl,M2.ins,(Dm (L.with t) S1.steps).2.2.2.2.1,MG,?_⟩
    walk_at "r"
    refine ⟨p,e,xw.pl,ev,xw.ar,HB,kvs,L.with t,_,_,vv,wd,d,ts,rfl,M2,hp,he,ale,nA,hval,htr,sub,FA2,hf,hs.r,hs.t,hwl,hpl,har,fun H3 t3 e3 M3 ht3=>?_⟩
    walk_at "r"
    refine ⟨m',by omega,_,_,_,_,t3,rfl,M3,h2,e02.trans' (L':=L.with t) e3 rfl rfl rfl ht,?_⟩
    by_cases z:t3=L.td
    ·exact .inl z
    ·refine .inr ?_
     cases hH:H t3 with
     | none=>rfl
     | some o =>
      exfalso
      obtain ⟨rv2,er2,_⟩:=M2.rows
      have n1:t3≠L.m:=fun y=>by rw [y,show H2 L.m=_ from M2.ins] at ht3;cases ht3
      have n2:¬ L.A t3:=by
       rintro (y | y | y)
       ·rw [y,show H2 L.rd=_ from er2] at ht3;cases ht3
       ·obtain ⟨wv2,ew2,_⟩:=M2.wait
        rw [y,show H2 L.wd=_ from ew2] at ht3;cases ht3
       ·exact z y
      rw [e02 _ _ n1 n2 hH] at ht3
      cases ht3
noncomputable def Ze3 (K:O6)(C TL:Addr):Sp:=fun vs H Q E=>∃(p e:Addr)(pl:List Nat)(ev:List V)(ar:List (Str×Str×V))(HB:Hp)(kvs:List (List Aq×V))(L:Ml)(S:MS)(sub:List Nat->Option (Str×Dt))(n:Nat)(oo:Option MS),vs=[.ref L.m,.ref p,.ref e]/\MAt K HB C kvs L H S/\H p=some (.tup (Bp pl))/\H e=some (.lst ev)/\Al (PrAt K H) ev ar/\¬ L.A e/\FormsAt K H kvs sub/\S.wait.length < 9000/\Dw sub n { S with wait:=S.wait++[⟨pl,ar,false⟩] } oo/\(∀ S',oo=some S'->∃(th:List (Str×V))(x:Str×V),S'.things=th++[x]/\∀ v H' t,SameM L H H'->MAt K HB C kvs (L.with t) H' { S' with things:=th }->ThAt K H' v x->Q v H')/\(oo=none->∀ H',Same HB H'->E (.ref TL) none H')
theorem Zmp:Bl ["self", "place", "around"] ["self", "place", "around"] (A9 Ke):=by walk_at "sc"
theorem Zrp {C TL:Addr}{f:Addr}{fd:FuncData}(F:Fun K "thing_of_form" "Machine.thing_of_form" Ke f fd)(T:Txt K mg)(O:Mc K C)(ME:Da (Ci P w) P w K mg base 5 C "thing_at_the_end" ["self"] (Zcc K C TL)):Az P w K mg base (Ci P w) 6 f fd ["self", "place", "around"] (Ze3 K C TL):=by
 refine F.okx Zmp (fun vs H Q E h=>?_) (fun cdv A outer s H vs Q E hr h=>?_)
 ·obtain ⟨p,e,pl,ev,ar,HB,kvs,L,S,sub,n,oo,rfl,_⟩:=h
  rfl
 ·obtain ⟨p,e,pl,ev,ar,HB,kvs,L,S,sub,n,oo,rfl,M,hp,he,ale,nA,FA,hwl,R,qS,qN⟩:=h
  refine ⟨_,Ae (Cc (Db K Py Qc Qd Dg (Cb K (qv 0)) (Aa (Ag (Aa (qv 1) (Aa (qv 2) (Aa Cp Ab)))) Ab)))
   (Af (Ap (Zpk (k:=5) K (Ci P w) ["self"] (qv 0) hr.m (Lb (fun _ _ _ h=>h))))),?_⟩
  have bg:=big
  obtain ⟨wv,ew,aw⟩:=M.wait
  have hwv:=aw.1
  walk_at "r"
  refine ⟨_,rfl,L.m,C,L.dx,_,_,rfl,M.ins,O.cl,O.nw,Hf L S.steps,?_⟩
  refine Cj (SqL.of ew) ?_
  walk_at "r"
  refine ⟨Bf,fun r hr'=>?_⟩
  obtain ⟨H1,s1,e1,z9⟩:=D4 hr' (.tup [.ref p,.ref e,.bl false])
  rw [z9]
  walk_at "r"
  refine Dh (s1 _ _ ew) (by omega) ?_
  have M1:=M.new s1
  have M2:=M1.setWait (wv:=wv++[.ref r]) (ws:=S.wait++[⟨pl,ar,false⟩]) ((aw.mono (WtAt.same s1.a)).snoc ⟨r,p,e,ev,rfl,SqT.of e1,s1 _ _ hp,s1 _ _ he,ale.mono (PrAt.same s1.t),nA⟩)
  have m12:SameM L H1 (upd H1 L.wd (.lst (wv++[.ref r]))):=SameM.upd (.inr (.inr (.inl rfl)))
  have m02:SameM L H (upd H1 L.wd (.lst (wv++[.ref r]))):=(s1.m L).trans m12
  have FA2:=FA.same (M.t m02)
  walk_at "r"
  refine ⟨_,rfl,L.m,C,L.dx,_,_,rfl,M2.ins,(Dm L S.steps).2.2.2.2.2.2.1,ME,?_⟩
  walk_at "r"
  exact ⟨HB,kvs,L,_,sub,n,oo,rfl,M2,FA2,R,fun S' z=>let ⟨th,x,hx,q⟩:=qS S' z;⟨th,x,hx,fun v H' t e' M' t'=>q v H' t (m02.trans e') M' t'⟩,qN⟩
noncomputable def Be (t:Tr)(pl:List Nat):Option (Str×Dt):=(Cn (walk [] t) pl).map fun u=>(u.wd,Jn u)
theorem K8 {H:Hp}{a C dx:Addr}{fs:List (Str×V)}(ha:H a=some (.ins C dx fs))(o:HO):SameT H (upd H a o):=fun b=>⟨fun xs h=>by
 have:b≠a:=fun z=>by rw [z,ha] at h;cases h
 rw [Ai this];exact h,fun o u h=>by
 have:b≠a:=fun z=>by rw [z,ha] at h;cases h
 rw [Ai this];exact h⟩
noncomputable def Oy (K:O6)(C:Addr):Sp:=fun vs H Q _=>∃(m dx:Addr)(HB:Hp)(tv:V)(t:Tr),vs=[.ref m,tv,.int 0]/\HB m=none/\HB dx=none/\dx≠m/\H=upd (upd HB dx (.own m)) m (.ins C dx [])/\TrAt K HB tv t/\t.size<=2000 /\
 ∀ H' L kvs,L.m=m->MAt K HB C kvs L H' ⟨[],[],[],0⟩->FormsAt K H' kvs (Be t)->Q .non H'
theorem Zg9:Bl ["self", "tree", "steps"] ["self", "tree", "steps"] (A9 Ju):=by walk_at "sc"
theorem Jw {K:O6}{ta tv:TE}{f:Str}{D:D7}{σ:St}{H:Hp}(h:tv σ H fun y H1=>ta σ H1 fun x H2=>∃ a C dx fs,x=.ref a/\H2 a=some (.ins C dx fs)/\Cls K C/\NoAttr K C f/\fs.length < 1000/\D.nx σ (upd H2 a (.ins C dx (Ak f y fs)))):Ly K ta tv f D σ H:=h
theorem Zgr {C:Addr}{f:Addr}{fd:FuncData}(F:Fun K "__init__" "Machine.__init__" Ju f fd)(T:Txt K mg)(O:Mc K C)(C_placed_forms:Bo P w K mg base 1 "placed_forms" ["tree"] (Zdx K))(MS_:Da Aw P w K mg base 1 C "make_steps" ["self", "many"] (Nu K C)):Az P w K mg base Aw 2 f fd ["self", "tree", "steps"] (Oy K C):=by
 refine F.okq Zg9 (fun vs H Q E h=>?_) (fun cdv A outer s H vs Q E hr h=>?_)
 ·obtain ⟨m,dx,HB,tv,t,rfl,_⟩:=h
  rfl
 ·obtain ⟨m,dx,HB,tv,t,rfl,bm,bd,ndm,hH,ht,hz,q⟩:=h
  refine ⟨_,Ae (Iz K (qv 0) (Fl (Zfe K hr.u200 rfl) (by rfl) T.dict (by decide +kernel) (Aa (Ba C_placed_forms hr.m (Aa (qv 1) Ab)) Ab)))
   (Ae (Iz K (qv 0) (Bg Ab))
   (Ae (Iz K (qv 0) (Bg Ab))
   (Ae (Iz K (qv 0) (Bg Ab))
   (Ae (Iz K (qv 0) Ac)
   (Af (Cc (Dj (k:=1) K Aw ["self", "many"] (qv 0) hr.m Dp (Aa (qv 2) Ab)))))))),?_⟩
  have bg:=big
  have sB:Same HB H:=by
   rw [hH]
   exact (Same.upd bd).trans (Same.upd (by rw [Ai (Pk ndm)];exact bm))
  have im:H m=some (.ins C dx []):=by rw [hH];exact Ad
  clear hH
  walk_at "r"
  refine Jw ?_
  walk_at "r"
  refine ⟨tv,t,rfl,ht.same sB,hz,fun p rows H1 s1 hp1 e1 al1=>?_⟩
  walk_at "r"
  obtain ⟨kvs,alk,look⟩:=Zlv (K:=K) (H:=H1) rows _ al1
  refine ⟨p,rows,rfl,SqL.of e1,.inr ⟨kvs,alk,fun fd hfd=>?_⟩⟩
  have s2:Same H1 (upd H1 fd (.dT (B1 [] kvs))):=Same.upd hfd
  have e2:upd H1 fd (.dT (B1 [] kvs)) fd=some (.dT (B1 [] kvs)):=Ad
  have s02:=s1.trans s2
  have FA:FormsAt K (upd H1 fd (.dT (B1 [] kvs))) (B1 [] kvs) (Be t):=by
   intro pl wd d hs
   unfold Be at hs
   obtain ⟨u,hu,e⟩:=Q7.mp hs
   cases e
   rcases look pl with ⟨_,l2⟩ | ⟨v,u',l1,l2,tr⟩
   ·rw [hu] at l2;cases l2
   ·rw [hu] at l2
    cases l2
    have hm:=Nb [] t _ (Zku hu)
    simp only [Uv,Nat.zero_add] at hm
    refine ⟨by omega,v,u.ps,by rw [M9];exact l1,?_⟩
    rw [<- Zqv]
    exact tr.same s2
  have nfm:fd≠m:=fun z=>by rw [z,s1 _ _ im] at hfd;cases hfd
  revert s02 e2 FA
  generalize upd H1 fd (.dT (B1 [] kvs))=H2
  intro e2 s02 FA
  generalize hkv:B1 [] kvs=kv at *
  have sB2:=sB.trans s02
  have im2:=s02 _ _ im
  refine ⟨_,rfl,m,C,dx,_,rfl,im2,O.cl,O.nf,by show 0 < 1000;decide,?_⟩
  have FA3:=FA.same (K8 im2 (.ins C dx (Ak "forms" (.ref fd) [])))
  have sB3:Same HB (upd H2 m (.ins C dx (Ak "forms" (.ref fd) []))):=sB2.over bm
  have im3:upd H2 m (.ins C dx (Ak "forms" (.ref fd) [])) m=some (.ins C dx (Ak "forms" (.ref fd) [])):=Ad
  have ef3:upd H2 m (.ins C dx (Ak "forms" (.ref fd) [])) fd=some (.dT kv):=(Ai nfm).trans e2
  revert FA3 sB3 im3 ef3
  generalize upd H2 m (.ins C dx (Ak "forms" (.ref fd) []))=H3
  intro FA3 sB3 im3 ef3
  walk_at "r"
  refine Jw ?_
  walk_at "r"
  refine ⟨Bk,fun rd hrd=>?_⟩
  have s4:Same H3 (upd H3 rd (.lst [])):=Same.upd hrd
  have er4:upd H3 rd (.lst []) rd=some (.lst []):=Ad
  have nrm:rd≠m:=fun z=>by rw [z,im3] at hrd;cases hrd
  have nrf:fd≠rd:=fun z=>by rw [<- z,ef3] at hrd;cases hrd
  have br:HB rd=none:=sB3.free hrd
  revert s4 er4
  generalize upd H3 rd (.lst [])=H4
  intro s4 er4
  have FA4:=FA3.same s4.t
  have sB4:=sB3.trans s4
  have im4:=s4 _ _ im3
  have ef4:=s4 _ _ ef3
  refine ⟨_,rfl,m,C,dx,_,rfl,im4,O.cl,O.nr,by show 1 < 1000;decide,?_⟩
  have FA5:=FA4.same (K8 im4 (.ins C dx (Ak "rows" (.ref rd) (Ak "forms" (.ref fd) []))))
  have sB5:Same HB (upd H4 m (.ins C dx (Ak "rows" (.ref rd) (Ak "forms" (.ref fd) [])))):=sB4.over bm
  have im5:upd H4 m (.ins C dx (Ak "rows" (.ref rd) (Ak "forms" (.ref fd) []))) m=some (.ins C dx (Ak "rows" (.ref rd) (Ak "forms" (.ref fd) []))):=Ad
  have ef5:upd H4 m (.ins C dx (Ak "rows" (.ref rd) (Ak "forms" (.ref fd) []))) fd=some (.dT kv):=(Ai nfm).trans ef4
  have er5:upd H4 m (.ins C dx (Ak "rows" (.ref rd) (Ak "forms" (.ref fd) []))) rd=some (.lst []):=(Ai nrm).trans er4
  revert FA5 sB5 im5 ef5 er5
  generalize upd H4 m (.ins C dx (Ak "rows" (.ref rd) (Ak "forms" (.ref fd) [])))=H5
  intro FA5 sB5 im5 ef5 er5
  walk_at "r"
  refine Jw ?_
  walk_at "r"
  refine ⟨Bk,fun wd hwd=>?_⟩
  have s6:Same H5 (upd H5 wd (.lst [])):=Same.upd hwd
  have ew6:upd H5 wd (.lst []) wd=some (.lst []):=Ad
  have nwm:wd≠m:=fun z=>by rw [z,im5] at hwd;cases hwd
  have nwr:rd≠wd:=fun z=>by rw [<- z,er5] at hwd;cases hwd
  have bw:HB wd=none:=sB5.free hwd
  revert s6 ew6
  generalize upd H5 wd (.lst [])=H6
  intro s6 ew6
  have FA6:=FA5.same s6.t
  have sB6:=sB5.trans s6
  have im6:=s6 _ _ im5
  have ef6:=s6 _ _ ef5
  have er6:=s6 _ _ er5
  refine ⟨_,rfl,m,C,dx,_,rfl,im6,O.cl,O.nw,by show 2 < 1000;decide,?_⟩
  have FA7:=FA6.same (K8 im6 (.ins C dx (Ak "waiting" (.ref wd) (Ak "rows" (.ref rd) (Ak "forms" (.ref fd) [])))))
  have sB7:Same HB (upd H6 m (.ins C dx (Ak "waiting" (.ref wd) (Ak "rows" (.ref rd) (Ak "forms" (.ref fd) []))))):=sB6.over bm
  have im7:upd H6 m (.ins C dx (Ak "waiting" (.ref wd) (Ak "rows" (.ref rd) (Ak "forms" (.ref fd) [])))) m=some (.ins C dx (Ak "waiting" (.ref wd) (Ak "rows" (.ref rd) (Ak "forms" (.ref fd) [])))):=Ad
  have ef7:upd H6 m (.ins C dx (Ak "waiting" (.ref wd) (Ak "rows" (.ref rd) (Ak "forms" (.ref fd) [])))) fd=some (.dT kv):=(Ai nfm).trans ef6
  have er7:upd H6 m (.ins C dx (Ak "waiting" (.ref wd) (Ak "rows" (.ref rd) (Ak "forms" (.ref fd) [])))) rd=some (.lst []):=(Ai nrm).trans er6
  have ew7:upd H6 m (.ins C dx (Ak "waiting" (.ref wd) (Ak "rows" (.ref rd) (Ak "forms" (.ref fd) [])))) wd=some (.lst []):=(Ai nwm).trans ew6
  revert FA7 sB7 im7 ef7 er7 ew7
  generalize upd H6 m (.ins C dx (Ak "waiting" (.ref wd) (Ak "rows" (.ref rd) (Ak "forms" (.ref fd) []))))=H7
  intro FA7 sB7 im7 ef7 er7 ew7
  walk_at "r"
  refine Jw ?_
  walk_at "r"
  refine ⟨Bk,fun td htd=>?_⟩
  have s8:Same H7 (upd H7 td (.lst [])):=Same.upd htd
  have et8:upd H7 td (.lst []) td=some (.lst []):=Ad
  have ntm:td≠m:=fun z=>by rw [z,im7] at htd;cases htd
  have ntr:rd≠td:=fun z=>by rw [<- z,er7] at htd;cases htd
  have ntw:wd≠td:=fun z=>by rw [<- z,ew7] at htd;cases htd
  have bt:HB td=none:=sB7.free htd
  revert s8 et8
  generalize upd H7 td (.lst [])=H8
  intro s8 et8
  have FA8:=FA7.same s8.t
  have sB8:=sB7.trans s8
  have im8:=s8 _ _ im7
  have ef8:=s8 _ _ ef7
  have er8:=s8 _ _ er7
  have ew8:=s8 _ _ ew7
  refine ⟨_,rfl,m,C,dx,_,rfl,im8,O.cl,O.nt,by show 3 < 1000;decide,?_⟩
  have FA9:=FA8.same (K8 im8 (.ins C dx (Ak "things" (.ref td) (Ak "waiting" (.ref wd) (Ak "rows" (.ref rd) (Ak "forms" (.ref fd) []))))))
  have sB9:Same HB (upd H8 m (.ins C dx (Ak "things" (.ref td) (Ak "waiting" (.ref wd) (Ak "rows" (.ref rd) (Ak "forms" (.ref fd) [])))))):=sB8.over bm
  have im9:upd H8 m (.ins C dx (Ak "things" (.ref td) (Ak "waiting" (.ref wd) (Ak "rows" (.ref rd) (Ak "forms" (.ref fd) []))))) m=some (.ins C dx (Ak "things" (.ref td) (Ak "waiting" (.ref wd) (Ak "rows" (.ref rd) (Ak "forms" (.ref fd) []))))):=Ad
  have ef9:upd H8 m (.ins C dx (Ak "things" (.ref td) (Ak "waiting" (.ref wd) (Ak "rows" (.ref rd) (Ak "forms" (.ref fd) []))))) fd=some (.dT kv):=(Ai nfm).trans ef8
  have er9:upd H8 m (.ins C dx (Ak "things" (.ref td) (Ak "waiting" (.ref wd) (Ak "rows" (.ref rd) (Ak "forms" (.ref fd) []))))) rd=some (.lst []):=(Ai nrm).trans er8
  have ew9:upd H8 m (.ins C dx (Ak "things" (.ref td) (Ak "waiting" (.ref wd) (Ak "rows" (.ref rd) (Ak "forms" (.ref fd) []))))) wd=some (.lst []):=(Ai nwm).trans ew8
  have et9:upd H8 m (.ins C dx (Ak "things" (.ref td) (Ak "waiting" (.ref wd) (Ak "rows" (.ref rd) (Ak "forms" (.ref fd) []))))) td=some (.lst []):=(Ai ntm).trans et8
  revert FA9 sB9 im9 ef9 er9 ew9 et9
  generalize upd H8 m (.ins C dx (Ak "things" (.ref td) (Ak "waiting" (.ref wd) (Ak "rows" (.ref rd) (Ak "forms" (.ref fd) [])))))=H9
  intro FA9 sB9 im9 ef9 er9 ew9 et9
  walk_at "r"
  refine Jw ?_
  walk_at "r"
  refine ⟨m,C,dx,_,rfl,im9,O.cl,O.ns,by show 4 < 1000;decide,?_⟩
  obtain ⟨L,hL⟩:∃ L:Ml,L=⟨m,dx,fd,rd,wd,td⟩:=⟨_,rfl⟩
  have M:MAt K HB C kv L (upd H9 m (.ins C dx (L.fs 0))) ⟨[],[],[],0⟩:=by
   subst hL
   exact ⟨sB9.over bm,bm,br,bw,bt,Ad,(Ai nfm).trans ef9,nwr,ntr,ntw,⟨[],(Ai nrm).trans er9,.nil,SepR.nil⟩,⟨[],(Ai nwm).trans ew9,.nil⟩,⟨[],(Ai ntm).trans et9,.nil⟩⟩
  have FA10:=FA9.same (K8 im9 (.ins C dx (L.fs 0)))
  rw [show Ak "steps" (.int 0) (Ak "things" (.ref td) (Ak "waiting" (.ref wd) (Ak "rows" (.ref rd) (Ak "forms" (.ref fd) []))))=L.fs 0 by subst hL;rfl]
  revert M FA10
  generalize upd H9 m (.ins C dx (L.fs 0))=H10
  intro M FA10
  have hm:L.m=m:=by rw [hL]
  walk_at "r"
  refine ⟨_,rfl,m,C,L.dx,_,_,rfl,(by rw [<- hm];exact M.ins),(Dm L 0).1,MS_,?_⟩
  walk_at "r"
  refine ⟨0,HB,kv,L,_,by rw [hm],M,by show (0:Int)+0<=500;decide,fun H' e' M'=>?_⟩
  walk_at "r"
  exact q H' L kv hm M' (FA10.same (M.t e'))
noncomputable def Zfg (K:O6)(TL:Addr):Sp:=fun vs H Q E=>∃(tv:V)(t:Tr)(n:Nat)(oo:Option MS),vs=[tv]/\TrAt K H tv t/\t.size<=2000/\Dw (Be t) n ⟨[],[⟨[],[],false⟩],[],0⟩ oo /\
 (∀ S',oo=some S'->∃ x,S'.things=[x]/\∀(r rd:Addr)(av:V)(rv:List V)(H':Hp),Same H H'->SqT K H' r [av,.ref rd,.int S'.steps]->ThAt K H' av x->H' rd=some (.lst rv)->Al (RwAt K (fun b=>b=rd\/H b≠none) H') rv S'.rows->SepR K (fun b=>b=rd\/H b≠none) H' rv S'.rows->H rd=none->Q (.ref r) H') /\
 (oo=none->∀ H',Same H H'->E (.ref TL) none H')
theorem N2:Bl ["tree", "machine", "answer"] ["tree"] (A9 Kv):=by walk_at "sc"
theorem Zoc {C TL:Addr}{f:Addr}{fd:FuncData}(F:Fun K "run" "run" Kv f fd)(T:Txt K mg)(O:Mc K C)(MK_Machine:Nc Aw P w K mg base 2 "Machine" C ["self", "tree", "steps"] (Oy K C))(MF:Da (Ci P w) P w K mg base 6 C "thing_of_form" ["self", "place", "around"] (Ze3 K C TL)):Az P w K mg base (Ci P w) 7 f fd ["tree"] (Zfg K TL):=by
 refine F.okx N2 (fun vs H Q E h=>?_) (fun cdv A outer s H vs Q E hr h=>?_)
 ·obtain ⟨tv,t,n,oo,rfl,_⟩:=h
  rfl
 ·obtain ⟨tv,t,n,oo,rfl,ht,hz,R,hx,q⟩:=h
  refine ⟨_,Ae (Au 1 N2 (Zgz MK_Machine hr.m Dp (Aa (qv 0) (Aa Ac Ab))))
   (Ae (Au 2 N2 (Dj (k:=6) K (Ci P w) ["self", "place", "around"] (qv 1) hr.m (Lb (fun _ _ _ h=>h)) (Aa (Ag Ab) (Aa (Bg Ab) Ab))))
   (Af (Ap (Ag (Aa (qv 2) (Aa (Cb K (qv 1)) (Aa (Cb K (qv 1)) Ab))))))),?_⟩
  walk_at "r"
  refine ⟨tv,rfl,?_⟩
  intro m dx h1 h2 h3
  refine ⟨m,dx,H,tv,t,rfl,h1,h2,h3,rfl,ht,hz,fun H1 L kvs hm M FA=>⟨rfl,?_⟩⟩
  subst hm
  walk_at "r"
  refine ⟨_,rfl,L.m,C,L.dx,_,_,rfl,M.ins,(Dm L 0).2.2.2.2.2.2.2,MF,?_⟩
  walk_at "r"
  refine ⟨Bk,fun p hp=>?_⟩
  obtain ⟨H2,s2,e2,z9⟩:=D4 hp (.tup [])
  rw [z9]
  walk_at "r"
  refine ⟨Bk,fun e he=>?_⟩
  obtain ⟨H3,s3,e3,z9⟩:=D4 he (.lst [])
  rw [z9]
  have s13:=s2.trans s3
  have M3:=M.new s13
  have M2:=M.new s2
  have nA:¬ L.A e:=by
   obtain ⟨rv,er,_⟩:=M2.rows
   obtain ⟨wv,ew,_⟩:=M2.wait
   obtain ⟨tv2,et,_⟩:=M2.things
   rintro (z | z | z)
   ·rw [z,er] at he;cases he
   ·rw [z,ew] at he;cases he
   ·rw [z,et] at he;cases he
  walk_at "r"
  refine ⟨p,e,[],[],[],H,kvs,L,_,Be t,n,oo,rfl,M3,s3 _ _ e2,e3,.nil,nA,FA.same s13.t,by show 0 < 9000;decide,R,fun S' hS=>?_,fun hn H' s'=>q hn H' s'⟩
  obtain ⟨x,hx1,hx⟩:=hx S' hS
  refine ⟨[],x,hx1,fun av H4 t4 e4 M4 hav=>?_⟩
  have sH:Same H H4:=M4.base
  obtain ⟨rv,er,ar,spr⟩:=M4.rows
  walk_at "r"
  refine ⟨_,rfl,L.m,C,L.dx,_,_,rfl,M4.ins,O.cl,O.nr,J9 (L.with t4) S'.steps,?_⟩
  walk_at "r"
  refine ⟨_,rfl,L.m,C,L.dx,_,_,rfl,M4.ins,O.cl,O.ns,Jm (L.with t4) S'.steps,?_⟩
  walk_at "r"
  refine ⟨Bf,fun r hr'=>?_⟩
  have s5:Same H4 (upd H4 r (.tup [av,.ref L.rd,.int S'.steps])):=Same.upd hr'
  refine hx r L.rd av rv _ (sH.trans s5) (SqT.of Ad) (ThAt.same s5.t _ _ hav) (s5 _ _ er) (((ar.mono fun v x h=>h.1).mono (RwAt.mono fun b hb _=>?_)).mono (RwAt.same s5.a)) ((spr.mono fun b hb _=>?_).same s5.a) M4.nr
  all_goals rcases hb with z | z
  all_goals first | exact .inl (.inl z) | exact .inr z
end
noncomputable abbrev Ar:=List (Str×Str×V)
noncomputable def Bc (wd:Str):Int:=if wd = "gap" then 0 else 1
noncomputable def C6 (l:List Int):List Nat:=l.map Int.toNat
theorem M8 (pl:List Nat):C6 (An pl)=pl:=by
 unfold C6 An
 rw [List.map_map]
 exact (List.map_congr_left fun _ _=>by simp).trans (List.map_id _)
noncomputable def Cg:List Str:=["plus", "minus", "less", "call"]
noncomputable def C2 (wd:Str)(pl:List Nat)(rs:List Rx)(x y:Str×V):(Str×V)×List Rx :=
 if wd∈Gc/\x.1 = "num" /\ y.1 = "num" then (Es wd (Fy x.2) (Fy y.2),rs) else ((("row" : Str),.int (rs.length:Nat)),rs++[⟨wd,An pl,[x,y],[]⟩])
noncomputable def E3 (sub:List Nat->Option (Str×Dt))(rs:List Rx)(x y:Str×V):Option (List Nat×Ar):=match x.2 with
 | .int k=>(rs[k.toNat]?).bind fun r=>(sub (C6 r.pl)).map fun f=>(C6 r.pl++[0],r.ar++B6 (Ct f.1 f.2 0) (if r.wd = "rec" then [x,y] else [y]))
 | _=>none
noncomputable def Bz (wd:Str)(d:Dt)(pl:List Nat)(ar:Ar)(rs:List Rx):(Str×V)×List Rx:=((Cd ⟨rs,[],[],0⟩ wd (C1 d) pl ar).1,(Cd ⟨rs,[],[],0⟩ wd (C1 d) pl ar).2.rows)
noncomputable abbrev Er:=(Str×V)×List Rx×Int
noncomputable def ev (sub:List Nat->Option (Str×Dt))(B:Int):Nat->List Nat->Ar->List Rx->Int->Option Er
 | 0,_,_,_,_=>none
 | n+1,pl,ar,rs,st=>(sub pl).bind fun f =>
  if B < st+Bc f.1 then none
  else if f.1∈Cg then (ev sub B n (pl++[0]) ar rs (st+1)).bind fun a=>(ev sub B n (pl++[1]) ar a.2.1 a.2.2).bind fun b =>
   if f.1 = "call" /\ Bq b.2.1 a.1=true then (E3 sub b.2.1 a.1 b.1).bind fun c=>ev sub B n c.1 c.2 b.2.1 b.2.2
   else some ((C2 f.1 pl b.2.1 a.1 b.1).1,(C2 f.1 pl b.2.1 a.1 b.1).2,b.2.2)
  else if f.1 = "let" then (ev sub B n (pl++[0]) ar rs (st+1)).bind fun a=>ev sub B n (pl++[1]) (ar++B6 (Ct f.1 f.2 1) [a.1]) a.2.1 a.2.2
  else if f.1 = "if" then (ev sub B n (pl++[0]) ar rs (st+1)).bind fun a =>
   if a.1.1 = "truth" then ev sub B n (pl++[if a.1.2=.bl true then 1 else 2]) ar a.2.1 a.2.2
   else some ((("row" : Str),.int (a.2.1.length:Nat)),a.2.1++[⟨f.1,An pl,[a.1],ar⟩],a.2.2)
  else some ((Bz f.1 f.2 pl ar rs).1,(Bz f.1 f.2 pl ar rs).2,st+Bc f.1)
theorem Na {sub:List Nat->Option (Str×Dt)}{B B':Int}(hB:B<=B'):∀(n m:Nat)(pl:List Nat)(ar:Ar)(rs:List Rx)(st:Int)(o:Er),n<=m->ev sub B n pl ar rs st=some o->ev sub B' m pl ar rs st=some o
 | 0,_,_,_,_,_,_,_,h=>by rw [ev] at h;cases h
 | n+1,0,_,_,_,_,_,hm,_=>by omega
 | n+1,m+1,pl,ar,rs,st,o,hm,h=>by
  have ih:=Na (sub:=sub) hB n m
  rw [ev] at h ⊢
  cases hs:sub pl with
  | none=>rw [hs] at h;cases h
  | some f =>
  rw [hs] at h
  simp only [Pb] at h ⊢
  by_cases h1:B < st+Bc f.1
  ·rw [if_pos h1] at h;cases h
  rw [if_neg h1] at h
  rw [if_neg (show ¬ B' < st+Bc f.1 by omega)]
  by_cases h2:f.1∈Cg
  ·rw [if_pos h2] at h ⊢
   obtain ⟨a,ha,h⟩:=Px.mp h
   obtain ⟨b,hb,h⟩:=Px.mp h
   rw [ih _ _ _ _ _ (by omega) ha,Pb,ih _ _ _ _ _ (by omega) hb,Pb]
   by_cases h3:f.1 = "call" /\ Bq b.2.1 a.1=true
   ·rw [if_pos h3] at h ⊢
    obtain ⟨c,hc,h⟩:=Px.mp h
    rw [hc,Pb]
    exact ih _ _ _ _ _ (by omega) h
   ·rw [if_neg h3] at h ⊢
    exact h
  rw [if_neg h2] at h ⊢
  by_cases h3:f.1 = "let"
  ·rw [if_pos h3] at h ⊢
   obtain ⟨a,ha,h⟩:=Px.mp h
   rw [ih _ _ _ _ _ (by omega) ha,Pb]
   exact ih _ _ _ _ _ (by omega) h
  rw [if_neg h3] at h ⊢
  by_cases h4:f.1 = "if"
  ·rw [if_pos h4] at h ⊢
   obtain ⟨a,ha,h⟩:=Px.mp h
   rw [ih _ _ _ _ _ (by omega) ha,Pb]
   by_cases h5:a.1.1 = "truth"
   ·rw [if_pos h5] at h ⊢
    exact ih _ _ _ _ _ (by omega) h
   ·rw [if_neg h5] at h ⊢
    exact h
  rw [if_neg h4] at h ⊢
  exact h
noncomputable def TOk (n:Nat)(x:Str×V):Prop:=(x.1 = "num" /\ ∃ i,x.2=.int i)\/(x.1 = "truth" /\ ∃ b,x.2=.bl b)\/(x.1 = "row" /\ ∃ k:Nat,x.2=.int (k:Nat)/\k < n)
noncomputable def AOk (n:Nat)(ar:Ar):Prop:=∀ y∈ar,TOk n y.2
theorem TOk.up {n m:Nat}{x:Str×V}(h:TOk n x)(e:n<=m):TOk m x:=by
 rcases h with h | h | ⟨h,k,h1,h2⟩
 ·exact .inl h
 ·exact .inr (.inl h)
 ·exact .inr (.inr ⟨h,k,h1,by omega⟩)
theorem AOk.up {n m:Nat}{ar:Ar}(h:AOk n ar)(e:n<=m):AOk m ar:=fun y hy=>(h y hy).up e
noncomputable def RsOk (sub:List Nat->Option (Str×Dt))(rs:List Rx)(st:Int):Prop:=∀(k:Nat)(r:Rx),rs[k]?=some r->AOk rs.length r.ar/\(r.pl.length<=5000/\r.ops.length<=2/\(r.ar.length:Int)<=2 * st)/\(r.wd∈(["fn", "rec"]:List Str)->(r.ar.length:Int)+2<=2 * st/\r.pl=An (C6 r.pl)/\∃ d,sub (C6 r.pl)=some (r.wd,d))
structure SubOk (sub:List Nat->Option (Str×Dt)):Prop where
 ln:∀{pl:List Nat}{x:Str×Dt},sub pl=some x->pl.length<=5000
 nt:∀{pl:List Nat}{wd:Str}{d:Dt},sub pl=some (wd,d)->(wd = "num" -> ∃ i,d=.flat (.int i))/\(wd = "truth" -> ∃ b,d=.flat (.bl b))/\(wd = "name" -> ∃ z,d=.flat (.str z))/\E5 wd d
 p0:∀{pl:List Nat}{wd:Str}{d:Dt},sub pl=some (wd,d)->wd∈(["plus", "minus", "less", "call", "let", "if", "fn", "rec"]:List Str)->∃ x,sub (pl++[0])=some x
 p1:∀{pl:List Nat}{wd:Str}{d:Dt},sub pl=some (wd,d)->wd∈(["plus", "minus", "less", "call", "let", "if"]:List Str)->∃ x,sub (pl++[1])=some x
 p2:∀{pl:List Nat}{wd:Str}{d:Dt},sub pl=some (wd,d)->wd = "if" -> ∃ x,sub (pl++[2])=some x
structure EOk (sub:List Nat->Option (Str×Dt))(ar:Ar)(rs:List Rx)(st:Int):Prop where
 a:AOk rs.length ar
 l:(ar.length:Int)<=2 * st
 r:RsOk sub rs st
 z:0<=st
theorem RsOk.up {sub:List Nat->Option (Str×Dt)}{rs:List Rx}{st st':Int}(h:RsOk sub rs st)(e:st<=st'):RsOk sub rs st':=fun k r hr=>by
 obtain ⟨h1,h0,h2⟩:=h k r hr
 refine ⟨h1,⟨h0.1,h0.2.1,by have:=h0.2.2;omega⟩,fun hf=>?_⟩
 obtain ⟨h3,h4⟩:=h2 hf
 exact ⟨by omega,h4⟩
theorem RsOk.snoc {sub:List Nat->Option (Str×Dt)}{rs:List Rx}{st:Int}(h:RsOk sub rs st){r:Rx}(h1:AOk rs.length r.ar)(h0:r.pl.length<=5000/\r.ops.length<=2/\(r.ar.length:Int)<=2 * st)(h2:r.wd∈(["fn", "rec"]:List Str)->(r.ar.length:Int)+2<=2 * st/\r.pl=An (C6 r.pl)/\∃ d,sub (C6 r.pl)=some (r.wd,d)):RsOk sub (rs++[r]) st:=fun k x hx=>by
 have hl:(rs++[r]).length=rs.length+1:=by simp
 rw [hl]
 by_cases e:k < rs.length
 ·rw [Qa e] at hx
  obtain ⟨h3,h4⟩:=h k x hx
  exact ⟨h3.up (by omega),h4⟩
 ·rw [P6 (by omega)] at hx
  have:k - rs.length=0:=by
   by_cases z:k - rs.length=0
   ·exact z
   ·rw [List.getElem?_eq_none (by simp;omega)] at hx;cases hx
  rw [this] at hx
  cases hx
  exact ⟨h1.up (by omega),h0,h2⟩
structure Told (sub:List Nat->Option (Str×Dt))(B:Int)(rs:List Rx)(st:Int)(o:Er):Prop where
 s:st<=o.2.2
 b:o.2.2<=B
 t:TOk o.2.1.length o.1
 r:RsOk sub o.2.1 o.2.2
 l:rs.length<=o.2.1.length
 m:(o.2.1.length:Int)<=rs.length+4 * (o.2.2 - st)+1
 p:∃ more,o.2.1=rs++more
theorem Zrl {ar:Ar}{z:Str}{y:Str×V}(h:Ce ar z=some y):∃ s,(s,y)∈ar:=by
 unfold Ce at h
 obtain ⟨x,hx,rfl⟩:=Q7.mp h
 exact ⟨x.1,Up.mp (List.mem_of_find?_eq_some hx)⟩
theorem Zie {ns:List Str}{xs:List (Str×V)}{y:Str×Str×V}(h:y∈B6 ns xs):y.2∈xs:=(Us (show (y.1,y.2)∈List.zip ns xs from h)).2
theorem AOk.zip {n:Nat}{ar:Ar}{ns:List Str}{xs:List (Str×V)}(h:AOk n ar)(hx:∀ x∈xs,TOk n x):AOk n (ar++B6 ns xs):=fun y hy=>by
 rcases Ra.mp hy with hy | hy
 ·exact h y hy
 ·exact hx _ (Zie hy)
theorem Zc4 (ns:List Str)(xs:List (Str×V)):(B6 ns xs).length<=xs.length:=by unfold B6;rw [List.length_zip];omega
theorem Zbj (n:Nat):TOk (n+1) (("row" : Str),.int (n:Nat)):=.inr (.inr ⟨rfl,n,rfl,by omega⟩)
theorem EOk.up {sub:List Nat->Option (Str×Dt)}{ar:Ar}{rs:List Rx}{st:Int}(h:EOk sub ar rs st):EOk sub ar rs (st+1):=⟨h.a,by have:=h.l;omega,h.r.up (by omega),by have:=h.z;omega⟩
theorem EOk.on {sub:List Nat->Option (Str×Dt)}{B:Int}{ar:Ar}{rs:List Rx}{st:Int}{o:Er}(h:EOk sub ar rs st)(t:Told sub B rs st o):EOk sub ar o.2.1 o.2.2:=⟨h.a.up t.l,by have:=h.l;have:=t.s;omega,t.r,by have:=h.z;have:=t.s;omega⟩
theorem EOk.put {sub:List Nat->Option (Str×Dt)}{ar:Ar}{rs:List Rx}{st:Int}(h:EOk sub ar rs st){x:Str×V}(hx:TOk rs.length x)(hl:(ar.length:Int)+1<=2 * st)(ns:List Str):EOk sub (ar++B6 ns [x]) rs st :=
 ⟨h.a.zip (fun y hy=>by rw [P4.mp hy];exact hx),by have:=Zc4 ns [x];rw [Pg];rw [Pl] at this;omega,h.r,h.z⟩
theorem Hy {rs:List Rx}{x:Str×V}(h:Bq rs x=true)(hx:TOk rs.length x):∃(k:Nat)(r:Rx),x=(("row" : Str),V.int (k:Nat))/\rs[k]?=some r/\r.wd∈(["fn", "rec"]:List Str):=by
 obtain ⟨w,v⟩:=x
 unfold Bq at h
 split at h
 ·rename_i w' k e
  injection e with e1 e2
  subst e1 e2
  rw [Rk] at h
  obtain ⟨h1,h2⟩:=h
  have h1:=of_decide_eq_true h1
  subst h1
  rcases hx with ⟨z,_⟩ | ⟨z,_⟩ | ⟨_,k',e,hk⟩
  ·exact absurd (show ("row" : Str) = "num" from z) (by decide +kernel)
  ·exact absurd (show ("row" : Str) = "truth" from z) (by decide +kernel)
  ·have e:V.int k=.int (k':Nat):=e
   injection e with e
   subst e
   rw [Qm] at h2
   have hr:rs[k']?=some rs[k']:=Pa hk
   rw [hr] at h2
   exact ⟨k',_,rfl,hr,of_decide_eq_true h2⟩
 ·cases h
theorem Ix {sub:List Nat->Option (Str×Dt)}{rs:List Rx}{st:Int}{k:Nat}{r:Rx}{y:Str×V}(hr:rs[k]?=some r)(hf:r.wd∈(["fn", "rec"]:List Str))(R:RsOk sub rs st):∃ d,sub (C6 r.pl)=some (r.wd,d)/\r.pl=An (C6 r.pl)/\E3 sub rs (("row" : Str),V.int (k:Nat)) y=some (C6 r.pl++[0],r.ar++B6 (Ct r.wd d 0) (if r.wd = "rec" then [(("row" : Str),V.int (k:Nat)),y] else [y])):=by
 obtain ⟨_,_,h2⟩:=R k r hr
 obtain ⟨_,h4,d,h5⟩:=h2 hf
 refine ⟨d,h5,h4,?_⟩
 show (rs[((k:Nat):Int).toNat]?).bind _=_
 rw [Qm,hr,Pb,h5]
 rfl
theorem Ig {sub:List Nat->Option (Str×Dt)}{ar:Ar}{rs:List Rx}{st:Int}{k:Nat}{r:Rx}{y:Str×V}{d:Dt}(E:EOk sub ar rs st)(hr:rs[k]?=some r)(hf:r.wd∈(["fn", "rec"]:List Str))(hy:TOk rs.length y):EOk sub (r.ar++B6 (Ct r.wd d 0) (if r.wd = "rec" then [(("row" : Str),V.int (k:Nat)),y] else [y])) rs st:=by
 obtain ⟨h1,_,h2⟩:=E.r k r hr
 obtain ⟨h3,_⟩:=h2 hf
 have hk:TOk rs.length (("row" : Str),V.int (k:Nat)):=.inr (.inr ⟨rfl,k,rfl,(Pq.mp hr).1⟩)
 refine ⟨h1.zip fun x hx=>?_,?_,E.r,E.z⟩
 ·split at hx
  ·simp only [Pd,Pj,or_false] at hx
   rcases hx with rfl | rfl
   ·exact hk
   ·exact hy
  ·rw [P4.mp hx];exact hy
 ·rw [Pg]
  have:(B6 (Ct r.wd d 0) (if r.wd = "rec" then [(("row" : Str),V.int (k:Nat)),y] else [y])).length<=2:=by
   refine P8 (Zc4 _ _) ?_
   split <;> simp
  omega
theorem Zmw {sub:List Nat->Option (Str×Dt)}{B:Int}{wd:Str}{pl:List Nat}{rs:List Rx}{st:Int}{x y:Str×V}(hb:st<=B)(hw:wd∈Cg)(hp:pl.length<=5000)(h0:0<=st)(R:RsOk sub rs st)(hx:TOk rs.length x)(hy:TOk rs.length y):Told sub B rs st ((C2 wd pl rs x y).1,(C2 wd pl rs x y).2,st):=by
 unfold C2
 by_cases h:wd∈Gc/\x.1 = "num" /\ y.1 = "num"
 ·rw [if_pos h]
  refine ⟨Tj _,hb,?_,R,O9 _,by show ((rs.length:Nat):Int)<=rs.length+4 * (st - st)+1;omega,[],by simp⟩
  show TOk rs.length (Es wd _ _)
  unfold Es
  split
  ·exact .inl ⟨rfl,_,rfl⟩
  split
  ·exact .inl ⟨rfl,_,rfl⟩
  ·exact .inr (.inl ⟨rfl,_,rfl⟩)
 ·rw [if_neg h]
  have hl:(rs++[(⟨wd,An pl,[x,y],[]⟩:Rx)]).length=rs.length+1:=by simp
  refine ⟨Tj _,hb,by show TOk (rs++_).length _;rw [hl];exact Zbj _,R.snoc (fun y hy=>nomatch hy) ⟨by show (An pl).length<=5000;unfold An;rw [Ph];exact hp,by show 2<=2;omega,by show (0:Int)<=2 * st;omega⟩ (fun hf=>?_),by show rs.length<=(rs++_).length;rw [hl];omega,by show (((rs++_).length:Nat):Int)<=rs.length+4 * (st - st)+1;rw [hl];omega,_,rfl⟩
  exfalso
  have hf:wd∈(["fn", "rec"]:List Str):=hf
  simp only [Pd,Pj,or_false] at hf
  rcases hf with rfl | rfl <;> revert hw <;> decide +kernel
theorem Zmv {sub:List Nat->Option (Str×Dt)}{B:Int}(S:SubOk sub){wd:Str}{d:Dt}{pl:List Nat}{ar:Ar}{rs:List Rx}{st:Int}(hs:sub pl=some (wd,d))(E:EOk sub ar rs st)(hb:st+Bc wd<=B):Told sub B rs st ((Bz wd d pl ar rs).1,(Bz wd d pl ar rs).2,st+Bc wd):=by
 have hst:0<=Bc wd/\Bc wd<=1:=by unfold Bc;split <;> decide
 obtain ⟨n1,n2,n3,_⟩:=S.nt hs
 have fin:∀ t:Str×V,Bz wd d pl ar rs=(t,rs)->TOk rs.length t->Told sub B rs st ((Bz wd d pl ar rs).1,(Bz wd d pl ar rs).2,st+Bc wd):=fun t e ht=>by
  rw [e]
  exact ⟨by show st<=st+Bc wd;omega,hb,ht,E.r.up (by show st<=st+Bc wd;omega),O9 _,by show ((rs.length:Nat):Int)<=rs.length+4 * (st+Bc wd - st)+1;omega,[],by simp⟩
 by_cases h1:wd∈(["num", "truth"]:List Str)
 ·refine fin (wd,C1 d) (by unfold Bz Cd;rw [if_pos h1]) ?_
  simp only [Pd,Pj,or_false] at h1
  rcases h1 with h | h
  ·obtain ⟨i,rfl⟩:=n1 h;exact .inl ⟨h,i,rfl⟩
  ·obtain ⟨i,rfl⟩:=n2 h;exact .inr (.inl ⟨h,i,rfl⟩)
 by_cases h2:∃ z y,wd = "name" /\ d=.flat (.str z)/\Ce ar z=some y
 ·obtain ⟨z,y,e1,e2,e3⟩:=h2
  obtain ⟨s,hm⟩:=Zrl e3
  refine fin y ?_ (E.a _ hm)
  subst e2
  unfold Bz Cd
  rw [if_neg h1]
  simp only [C1,if_pos e1,e3]
 ·have e:Bz wd d pl ar rs=((("row" : Str),V.int (rs.length:Nat)),rs++[⟨wd,An pl,[],if wd∈WA then ar else []⟩]):=by
   unfold Bz Cd
   rw [if_neg h1]
   split
   ·rename_i th hth
    exfalso
    revert hth
    cases hd:C1 d with
    | str z =>
     by_cases hn:wd = "name"
     ·obtain ⟨z',rfl⟩:=n3 hn
      have hd:V.str z'=.str z:=hd
      injection hd with hd
      subst hd
      simp only [if_pos hn]
      intro hl
      exact h2 ⟨z',th,hn,rfl,hl⟩
     ·simp [hn]
    | _=>simp
   ·rfl
  have hl:(rs++[(⟨wd,An pl,[],if wd∈WA then ar else []⟩:Rx)]).length=rs.length+1:=by simp
  rw [e]
  refine ⟨by show st<=st+Bc wd;omega,hb,by show TOk (rs++_).length _;rw [hl];exact Zbj _,(E.r.up (by show st<=st+Bc wd;omega)).snoc ?_ ⟨by show (An pl).length<=5000;unfold An;rw [Ph];exact S.ln hs,by show 0<=2;omega,?_⟩ (fun hf=>?_),by show rs.length<=(rs++_).length;rw [hl];omega,by show (((rs++_).length:Nat):Int)<=rs.length+4 * (st+Bc wd - st)+1;rw [hl];omega,_,rfl⟩
  ·show AOk rs.length (if wd∈WA then ar else [])
   split
   ·exact E.a
   ·exact fun y hy=>nomatch hy
  ·show (((if wd∈WA then ar else []).length:Nat):Int)<=2 * (st+Bc wd)
   have:=E.l
   have:=E.z
   split
   ·omega
   ·simp;omega
  ·have hf:wd∈(["fn", "rec"]:List Str):=hf
   have hs1:Bc wd=1:=by
    simp only [Pd,Pj,or_false] at hf
    unfold Bc
    rw [if_neg]
    rcases hf with rfl | rfl <;> decide +kernel
   refine ⟨?_,by show An pl=An (C6 (An pl));rw [M8],d,by show sub (C6 (An pl))=_;rw [M8];exact hs⟩
   show (((if wd∈WA then ar else []).length:Nat):Int)+2<=2 * (st+Bc wd)
   have:=E.l
   split
   ·omega
   ·have:=E.z;simp;omega
theorem Fq {wd:Str}(h:wd∈Cg\/wd = "let" \/ wd = "if"):Bc wd=1:=by
 unfold Bc
 rw [if_neg]
 intro e
 subst e
 revert h
 decide +kernel
theorem Told.trans {sub:List Nat->Option (Str×Dt)}{B:Int}{rs:List Rx}{st:Int}{a o:Er}(h:Told sub B rs st a)(h':Told sub B a.2.1 a.2.2 o):st<=o.2.2/\rs.length<=o.2.1.length/\(o.2.1.length:Int)<=rs.length+4 * (o.2.2 - st)+2:=by
 have:=h.s;have:=h'.s;have:=h.l;have:=h'.l;have:=h.m;have:=h'.m
 exact ⟨by omega,by omega,by omega⟩
theorem Told.more {sub:List Nat->Option (Str×Dt)}{B:Int}{rs:List Rx}{st:Int}{a:Er}(h:Told sub B rs st a){l:List Rx}(h':∃ more,l=a.2.1++more):∃ more,l=rs++more:=by
 obtain ⟨m1,e1⟩:=h.p
 obtain ⟨m2,e2⟩:=h'
 exact ⟨m1++m2,by rw [e2,e1,P0]⟩
theorem B8 {sub:List Nat->Option (Str×Dt)}{B:Int}(S:SubOk sub):∀(n:Nat)(pl:List Nat)(ar:Ar)(rs:List Rx)(st:Int)(o:Er),EOk sub ar rs st->ev sub B n pl ar rs st=some o->Told sub B rs st o
 | 0,_,_,_,_,_,_,h=>by rw [ev] at h;cases h
 | n+1,pl,ar,rs,st,o,E,h=>by
  have ih:=B8 (B:=B) S n
  rw [ev] at h
  cases hs:sub pl with
  | none=>rw [hs] at h;cases h
  | some f =>
  obtain ⟨wd,d⟩:=f
  rw [hs] at h
  simp only [Pb] at h
  by_cases h1:B < st+Bc wd
  ·rw [if_pos h1] at h;cases h
  rw [if_neg h1] at h
  by_cases h2:wd∈Cg
  ·rw [if_pos h2] at h
   have h3:=Fq (.inl h2)
   obtain ⟨a,ha,h⟩:=Px.mp h
   obtain ⟨b,hb,h⟩:=Px.mp h
   have ta:=ih _ _ _ _ _ E.up ha
   have tb:=ih _ _ _ _ _ (E.up.on ta) hb
   have Eb:=(E.up.on ta).on tb
   obtain ⟨q1,q2,q3⟩:=ta.trans tb
   by_cases h4:wd = "call" /\ Bq b.2.1 a.1=true
   ·rw [if_pos h4] at h
    obtain ⟨k,r,ex,hr,hf⟩:=Hy h4.2 (ta.t.up tb.l)
    obtain ⟨d',_,_,hc⟩:=Ix (y:=b.1) hr hf tb.r
    rw [ex,hc,Pb] at h
    have tc:=ih _ _ _ _ _ (Ig Eb hr hf tb.t) h
    have:=tc.s;have:=tc.l;have:=tc.m
    exact ⟨by omega,tc.b,tc.t,tc.r,by omega,by omega,ta.more (tb.more tc.p)⟩
   ·rw [if_neg h4] at h
    cases h
    have tj:=Zmw (B:=B) (pl:=pl) tb.b h2 (S.ln hs) Eb.z tb.r (ta.t.up tb.l) tb.t
    have m1:b.2.1.length<=(C2 wd pl b.2.1 a.1 b.1).2.length:=tj.l
    have m2:(((C2 wd pl b.2.1 a.1 b.1).2.length:Nat):Int)<=b.2.1.length+4 * (b.2.2 - b.2.2)+1:=tj.m
    exact ⟨by show st<=b.2.2;omega,tj.b,tj.t,tj.r,by show rs.length<=(C2 wd pl b.2.1 a.1 b.1).2.length;omega,by show (((C2 wd pl b.2.1 a.1 b.1).2.length:Nat):Int)<=rs.length+4 * (b.2.2 - st)+1;omega,ta.more (tb.more tj.p)⟩
  rw [if_neg h2] at h
  by_cases h3:wd = "let"
  ·rw [if_pos h3] at h
   have h4:=Fq (.inr (.inl h3))
   obtain ⟨a,ha,h⟩:=Px.mp h
   have ta:=ih _ _ _ _ _ E.up ha
   have Ea:=E.up.on ta
   have tb:=ih _ _ _ _ _ (Ea.put ta.t (by have:=E.l;have:=ta.s;omega) _) h
   obtain ⟨q1,q2,q3⟩:=ta.trans tb
   exact ⟨by omega,tb.b,tb.t,tb.r,q2,by omega,ta.more tb.p⟩
  rw [if_neg h3] at h
  by_cases h4:wd = "if"
  ·rw [if_pos h4] at h
   have h5:=Fq (.inr (.inr h4))
   obtain ⟨a,ha,h⟩:=Px.mp h
   have ta:=ih _ _ _ _ _ E.up ha
   have Ea:=E.up.on ta
   by_cases h6:a.1.1 = "truth"
   ·rw [if_pos h6] at h
    have tb:=ih _ _ _ _ _ Ea h
    obtain ⟨q1,q2,q3⟩:=ta.trans tb
    exact ⟨by omega,tb.b,tb.t,tb.r,q2,by omega,ta.more tb.p⟩
   ·rw [if_neg h6] at h
    cases h
    have hl:(a.2.1++[(⟨wd,An pl,[a.1],ar⟩:Rx)]).length=a.2.1.length+1:=by simp
    have:=ta.s;have:=ta.l;have:=ta.m
    refine ⟨by show st<=a.2.2;omega,ta.b,by show TOk (a.2.1++_).length _;rw [hl];exact Zbj _,ta.r.snoc Ea.a ⟨by show (An pl).length<=5000;unfold An;rw [Ph];exact S.ln hs,by show 1<=2;omega,Ea.l⟩ (fun hf=>?_),by show rs.length<=(a.2.1++_).length;rw [hl];omega,by show (((a.2.1++_).length:Nat):Int)<=rs.length+4 * (a.2.2 - st)+1;rw [hl];omega,ta.more ⟨_,rfl⟩⟩
    exfalso
    have hf:wd∈(["fn", "rec"]:List Str):=hf
    subst h4
    revert hf
    decide +kernel
  rw [if_neg h4] at h
  cases h
  exact Zmv S hs E (by omega)
theorem Zm2 {sub:List Nat->Option (Str×Dt)}{B:Int}(S:SubOk sub){n:Nat}{pl:List Nat}{ar:Ar}{rs:List Rx}{st:Int}{o:Er}{wd:Str}{d:Dt}(E:EOk sub ar rs st)(hs:sub pl=some (wd,d))(h:ev sub B n pl ar rs st=some o):st+Bc wd<=o.2.2:=by
 cases n with
 | zero=>rw [ev] at h;cases h
 | succ n =>
  rw [ev,hs] at h
  simp only [Pb] at h
  by_cases h1:B < st+Bc wd
  ·rw [if_pos h1] at h;cases h
  rw [if_neg h1] at h
  have hst:Bc wd<=1:=by unfold Bc;split <;> decide
  by_cases h2:wd∈Cg
  ·rw [if_pos h2] at h
   obtain ⟨a,ha,h⟩:=Px.mp h
   obtain ⟨b,hb,h⟩:=Px.mp h
   have ta:=B8 S n _ _ _ _ _ E.up ha
   have tb:=B8 S n _ _ _ _ _ (E.up.on ta) hb
   have:=ta.s;have:=tb.s
   by_cases h4:wd = "call" /\ Bq b.2.1 a.1=true
   ·rw [if_pos h4] at h
    obtain ⟨k,r,ex,hr,hf⟩:=Hy h4.2 (ta.t.up tb.l)
    obtain ⟨d',_,_,hc⟩:=Ix (y:=b.1) hr hf tb.r
    rw [ex,hc,Pb] at h
    have tc:=B8 S n _ _ _ _ _ (Ig ((E.up.on ta).on tb) hr hf tb.t) h
    have:=tc.s
    omega
   ·rw [if_neg h4] at h
    cases h
    show st+Bc wd<=b.2.2
    omega
  rw [if_neg h2] at h
  by_cases h3:wd = "let"
  ·rw [if_pos h3] at h
   obtain ⟨a,ha,h⟩:=Px.mp h
   have ta:=B8 S n _ _ _ _ _ E.up ha
   have tb:=B8 S n _ _ _ _ _ ((E.up.on ta).put ta.t (by have:=E.l;have:=ta.s;omega) _) h
   have:=ta.s;have:=tb.s
   omega
  rw [if_neg h3] at h
  by_cases h4:wd = "if"
  ·rw [if_pos h4] at h
   obtain ⟨a,ha,h⟩:=Px.mp h
   have ta:=B8 S n _ _ _ _ _ E.up ha
   have:=ta.s
   by_cases h6:a.1.1 = "truth"
   ·rw [if_pos h6] at h
    have tb:=B8 S n _ _ _ _ _ (E.up.on ta) h
    have:=tb.s
    omega
   ·rw [if_neg h6] at h
    cases h
    show st+Bc wd<=a.2.2
    omega
  rw [if_neg h4] at h
  cases h
  exact Tj _
theorem Zjy {wd:Str}(h:wd∈Cg):B9 wd=some [1,0]/\wd ≠ "gap" := ⟨by unfold B9;exact if_pos h,fun e=>by subst e;revert h;decide +kernel⟩
theorem Zog {wd:Str}(h:wd = "let" \/ wd = "if"):B9 wd=some [0]/\wd ≠ "gap" := by rcases h with rfl | rfl <;> exact ⟨by decide +kernel,by decide +kernel⟩
theorem Zqj {wd:Str}(h1:¬ wd∈Cg)(h2:¬ wd = "let")(h3:¬ wd = "if"):B9 wd=none:=by
 unfold B9
 unfold Cg at h1
 rw [if_neg h1,if_neg]
 simp only [Pd,Pj,or_false,not_or]
 exact ⟨h3,h2⟩
theorem Zkg {wd:Str}{d:Dt}{pl:List Nat}{ar:Ar}{rs:List Rx}{w:List Wt}{th:List (Str×V)}{st:Int}(h:wd∈Cg):Fa ⟨rs,w,th,st⟩ wd d pl ar=⟨rs,(w++[⟨pl,ar,true⟩]++[⟨pl++[1],ar,false⟩])++[⟨pl++[0],ar,false⟩],th,st+1⟩:=by
 obtain ⟨h1,h2⟩:=Zjy h
 unfold Fa
 simp only [h1,if_neg h2]
 simp
theorem Zqh {wd:Str}{d:Dt}{pl:List Nat}{ar:Ar}{rs:List Rx}{w:List Wt}{th:List (Str×V)}{st:Int}(h:wd = "let" \/ wd = "if"):Fa ⟨rs,w,th,st⟩ wd d pl ar=⟨rs,(w++[⟨pl,ar,true⟩])++[⟨pl++[0],ar,false⟩],th,st+1⟩:=by
 obtain ⟨h1,h2⟩:=Zog h
 unfold Fa
 simp only [h1,if_neg h2]
 simp
theorem Zid (S:MS)(wd:Str)(d:Dt)(pl:List Nat)(ar:Ar):Cd S wd (C1 d) pl ar=((Bz wd d pl ar S.rows).1,{ S with rows:=(Bz wd d pl ar S.rows).2 }):=by
 unfold Bz Cd
 by_cases h1:wd∈(["num", "truth"]:List Str)
 ·simp only [if_pos h1]
 ·simp only [if_neg h1]
  split <;> rfl
theorem Znk {wd:Str}{d:Dt}{pl:List Nat}{ar:Ar}{rs:List Rx}{w:List Wt}{th:List (Str×V)}{st:Int}(h:B9 wd=none):Fa ⟨rs,w,th,st⟩ wd d pl ar=⟨(Bz wd d pl ar rs).2,w,th++[(Bz wd d pl ar rs).1],st+Bc wd⟩:=by
 unfold Fa
 simp only [h,Zid]
 by_cases g:wd = "gap"
 ·simp only [if_pos g,Bc,Th]
 ·simp only [if_neg g,Bc]
theorem TOk.row {rs:List Rx}{x:Str×V}(h:TOk rs.length x):Kp rs x:=fun e=>by
 rcases h with ⟨h,_⟩ | ⟨h,_⟩ | ⟨_,k,h1,h2⟩
 ·rw [e] at h;exact absurd h (by decide +kernel)
 ·rw [e] at h;exact absurd h (by decide +kernel)
 ·exact ⟨k,h1,h2⟩
theorem TOk.num {n:Nat}{x:Str×V}(h:TOk n x):Zbc x:=fun e=>by
 rcases h with ⟨_,h⟩ | ⟨h,_⟩ | ⟨h,_⟩
 ·exact h
 ·rw [e] at h;exact absurd h (by decide +kernel)
 ·rw [e] at h;exact absurd h (by decide +kernel)
structure Sm (rs:List Rx)(w:List Wt)(th:List (Str×V))(st:Int):Prop where
 r:(rs.length:Int)+4 * (500 - st)<=5000
 w:(w.length:Int)+3 * (500 - st)<=5000
 t:(th.length:Int)+2 * (500 - st)<=5000
 s:st<=500
theorem Sm.small {rs:List Rx}{w:List Wt}{th:List (Str×V)}{st:Int}(h:Sm rs w th st)(x:Wt):Hb ⟨rs,w++[x],th,st⟩:=by
 have:=h.r;have:=h.w;have:=h.t;have:=h.s
 exact ⟨by show rs.length < 9000;omega,by show (w++[x]).length < 9000;rw [Pg,Pl];omega,by show th.length < 9000;omega⟩
noncomputable def Goes (sub:List Nat->Option (Str×Dt))(S S':MS):Prop:=∀ m r,Dw sub m S' r->∃ m',Dw sub m' S r
theorem Goes.step {sub:List Nat->Option (Str×Dt)}{S S':MS}(hs:Hb S)(h:E9 sub S S'):Goes sub S S':=fun m r R=>⟨m+1,.cons hs h R⟩
theorem Goes.trans {sub:List Nat->Option (Str×Dt)}{S S' S2:MS}(h:Goes sub S S')(h':Goes sub S' S2):Goes sub S S2:=fun m r R=>by
 obtain ⟨m1,R1⟩:=h' m r R
 exact h m1 r R1
theorem SubOk.note {sub:List Nat->Option (Str×Dt)}(S:SubOk sub){pl:List Nat}{wd:Str}{d:Dt}(h:sub pl=some (wd,d)):Lr wd d:=by
 obtain ⟨n1,n2,n3,_⟩:=S.nt h
 refine ⟨fun hm=>?_,n3⟩
 simp only [Pd,Pj,or_false] at hm
 rcases hm with e | e
 ·obtain ⟨i,rfl⟩:=n1 e;exact ⟨_,rfl⟩
 ·obtain ⟨i,rfl⟩:=n2 e;exact ⟨_,rfl⟩
theorem Zj0 {wd:Str}{pl:List Nat}{rs:List Rx}{w:List Wt}{th:List (Str×V)}{st:Int}{x y:Str×V}:Fi ⟨rs,w,th++[x]++[y],st⟩ wd pl th x y=⟨(C2 wd pl rs x y).2,w,th++[(C2 wd pl rs x y).1],st⟩:=by
 unfold Fi C2
 split <;> rfl
theorem Zb5 {sub:List Nat->Option (Str×Dt)}(S:SubOk sub):∀(n:Nat)(pl:List Nat)(ar:Ar)(rs:List Rx)(st:Int),EOk sub ar rs st->501<=st+n->(sub pl).isSome=true->∀(w:List Wt)(th:List (Str×V)),Sm rs w th st ->
  (∀ o,ev sub 500 n pl ar rs st=some o->Goes sub ⟨rs,w++[⟨pl,ar,false⟩],th,st⟩ ⟨o.2.1,w,th++[o.1],o.2.2⟩)/\(ev sub 500 n pl ar rs st=none->∃ m,Dw sub m ⟨rs,w++[⟨pl,ar,false⟩],th,st⟩ none)
 | 0,_,_,_,st,E,hn,_,w,th,Z=>by have:=Z.s;omega
 | n+1,pl,ar,rs,st,E,hn,hp,w,th,Z=>by
  have ih:=Zb5 S n
  obtain ⟨⟨wd,d⟩,hs⟩:=R5.mp hp
  have hst:0<=Bc wd/\Bc wd<=1/\(Bc wd=1->wd ≠ "gap")/\(wd ≠ "gap" -> Bc wd=1):=by
   unfold Bc
   by_cases g:wd = "gap"
   ·rw [if_pos g];exact ⟨by omega,by omega,fun h=>by omega,fun h=>absurd g h⟩
   ·rw [if_neg g];exact ⟨by omega,by omega,fun _=>g,fun _=>rfl⟩
  have z1:=Z.r;have z2:=Z.w;have z3:=Z.t;have z4:=Z.s
  rw [ev,hs,Pb]
  by_cases h1:(500:Int) < st+Bc wd
  ·simp only [if_pos h1]
   refine ⟨(fun o h=>by cases h),fun _=>⟨0,.last (Z.small _) rfl rfl hs (hst.2.2.1 (by omega)) (by show (500:Int) < st+1;omega)⟩⟩
  simp only [if_neg h1]
  have cm:E9 sub ⟨rs,w++[⟨pl,ar,false⟩],th,st⟩ (Fa ⟨rs,w,th,st⟩ wd d pl ar):=.come (S:=⟨rs,w++[⟨pl,ar,false⟩],th,st⟩) rfl rfl hs (S.note hs) (fun g=>by show st+1<=500;have:=hst.2.2.2 g;omega)
  have cg:=Goes.step (Z.small _) cm
  by_cases h2:wd∈Cg
  ·simp only [if_pos h2]
   have e1:=Fq (.inl h2)
   rw [Zkg h2] at cg
   have m0:wd∈(["plus", "minus", "less", "call", "let", "if", "fn", "rec"]:List Str)/\wd∈(["plus", "minus", "less", "call", "let", "if"]:List Str):=by
    unfold Cg at h2
    simp only [Pd,Pj,or_false] at h2
    rcases h2 with rfl | rfl | rfl | rfl <;> exact ⟨by decide +kernel,by decide +kernel⟩
   obtain ⟨p0,hp0⟩:=S.p0 hs m0.1
   obtain ⟨p1,hp1⟩:=S.p1 hs m0.2
   have Za:Sm rs (w++[⟨pl,ar,true⟩]++[⟨pl++[1],ar,false⟩]) th (st+1):=⟨by omega,by rw [Pg,Pg,Pl,Pl];omega,by omega,by omega⟩
   obtain ⟨ga,na⟩:=ih (pl++[0]) ar rs (st+1) E.up (by omega) (by rw [hp0];rfl) _ _ Za
   cases ha:ev sub 500 n (pl++[0]) ar rs (st+1) with
   | none =>
    refine ⟨(fun o h=>by cases h),fun _=>?_⟩
    obtain ⟨m,R⟩:=na ha
    exact cg m _ R
   | some a =>
   have ta:=B8 S n _ _ _ _ _ E.up ha
   have Ea:=E.up.on ta
   have q1:=ta.s;have q2:=ta.m;have q3:=ta.b
   have g1:=cg.trans (ga a ha)
   have Zb:Sm a.2.1 (w++[⟨pl,ar,true⟩]) (th++[a.1]) a.2.2:=⟨by omega,by rw [Pg,Pl];omega,by rw [Pg,Pl];omega,q3⟩
   obtain ⟨gb,nb⟩:=ih (pl++[1]) ar a.2.1 a.2.2 Ea (by omega) (by rw [hp1];rfl) _ _ Zb
   rw [Pb]
   cases hb:ev sub 500 n (pl++[1]) ar a.2.1 a.2.2 with
   | none =>
    refine ⟨(fun o h=>by cases h),fun _=>?_⟩
    obtain ⟨m,R⟩:=nb hb
    exact g1 m _ R
   | some b =>
   have tb:=B8 S n _ _ _ _ _ Ea hb
   have Eb:=Ea.on tb
   have r1:=tb.s;have r2:=tb.m;have r3:=tb.b
   have g2:=g1.trans (gb b hb)
   have hsm:Hb ⟨b.2.1,w++[⟨pl,ar,true⟩],th++[a.1]++[b.1],b.2.2⟩:=⟨by show b.2.1.length < 9000;omega,by show (w++[_]).length < 9000;rw [Pg,Pl];omega,by show (th++[a.1]++[b.1]).length < 9000;rw [Pg,Pg,Pl,Pl];omega⟩
   have har:ar.length<=9000:=by have:=E.l;omega
   rw [Pb]
   have tx:=ta.t.up tb.l
   by_cases h4:wd = "call" /\ Bq b.2.1 a.1=true
   ·rw [if_pos h4]
    obtain ⟨k,r,ex,hr,hf⟩:=Hy h4.2 tx
    obtain ⟨d',hs',hpl,hc⟩:=Ix (y:=b.1) hr hf tb.r
    have hra:=((tb.r k r hr).2.2 hf).1
    have fur:E9 sub ⟨b.2.1,w++[⟨pl,ar,true⟩],th++[a.1]++[b.1],b.2.2⟩ _:=.further (S:=⟨b.2.1,w++[⟨pl,ar,true⟩],th++[a.1]++[b.1],b.2.2⟩) rfl rfl hs (.calls (k:=k) (y:=b.1) (th:=th) h4.1 (by show th++[a.1]++[b.1]=_;rw [ex,P0];rfl) hr hf hpl hs' (S.nt hs').2.2.2 (by omega)) har
    have g3:=g2.trans (Goes.step hsm fur)
    rw [ex,hc,Pb]
    have Ec:=Ig (d:=d') Eb hr hf tb.t
    have hw':r.wd∈(["plus", "minus", "less", "call", "let", "if", "fn", "rec"]:List Str):=by
     simp only [Pd,Pj,or_false] at hf ⊢
     rcases hf with h | h
     ·exact .inr (.inr (.inr (.inr (.inr (.inr (.inl h))))))
     ·exact .inr (.inr (.inr (.inr (.inr (.inr (.inr h))))))
    obtain ⟨pc,hpc⟩:=S.p0 hs' hw'
    obtain ⟨gc,nc⟩:=ih _ _ b.2.1 b.2.2 Ec (by omega) (by rw [hpc];rfl) w th ⟨by omega,by omega,by omega,r3⟩
    refine ⟨fun o h=>g3.trans (gc o h),fun h=>?_⟩
    obtain ⟨m,R⟩:=nc h
    exact g3 m _ R
   ·rw [if_neg h4]
    refine ⟨fun o h=>?_,(fun h=>by cases h)⟩
    cases h
    have hor:wd∈Gc\/wd = "call" /\ Bq b.2.1 a.1=false:=by
     by_cases hc:wd = "call"
     ·exact .inr ⟨hc,by cases hq:Bq b.2.1 a.1 with | false=>rfl | true=>exact absurd ⟨hc,hq⟩ h4⟩
     ·refine .inl ?_
      unfold Cg at h2
      unfold Gc
      simp only [Pd,Pj,or_false] at h2 ⊢
      rcases h2 with h | h | h | h
      ·exact .inl h
      ·exact .inr (.inl h)
      ·exact .inr (.inr h)
      ·exact absurd h hc
    have fur:E9 sub ⟨b.2.1,w++[⟨pl,ar,true⟩],th++[a.1]++[b.1],b.2.2⟩ _:=.further (S:=⟨b.2.1,w++[⟨pl,ar,true⟩],th++[a.1]++[b.1],b.2.2⟩) rfl rfl hs (.two (x:=a.1) (y:=b.1) (th:=th) hor (by show th++[a.1]++[b.1]=_;rw [P0];rfl) tx.row tx.num tb.t.num) har
    rw [Zj0] at fur
    exact g2.trans (Goes.step hsm fur)
  simp only [if_neg h2]
  by_cases h3:wd = "let" \/ wd = "if"
  ·have e1:=Fq (.inr h3)
   rw [Zqh h3] at cg
   have m0:wd∈(["plus", "minus", "less", "call", "let", "if", "fn", "rec"]:List Str)/\wd∈(["plus", "minus", "less", "call", "let", "if"]:List Str):=by rcases h3 with rfl | rfl <;> exact ⟨by decide +kernel,by decide +kernel⟩
   obtain ⟨p0,hp0⟩:=S.p0 hs m0.1
   obtain ⟨p1,hp1⟩:=S.p1 hs m0.2
   have Za:Sm rs (w++[⟨pl,ar,true⟩]) th (st+1):=⟨by omega,by rw [Pg,Pl];omega,by omega,by omega⟩
   obtain ⟨ga,na⟩:=ih (pl++[0]) ar rs (st+1) E.up (by omega) (by rw [hp0];rfl) _ _ Za
   have har:ar.length<=9000:=by have:=E.l;omega
   by_cases h5:wd = "let"
   ·simp only [if_pos h5]
    cases ha:ev sub 500 n (pl++[0]) ar rs (st+1) with
    | none =>
     refine ⟨(fun o h=>by cases h),fun _=>?_⟩
     obtain ⟨m,R⟩:=na ha
     exact cg m _ R
    | some a =>
    have ta:=B8 S n _ _ _ _ _ E.up ha
    have Ea:=E.up.on ta
    have q1:=ta.s;have q2:=ta.m;have q3:=ta.b
    have g1:=cg.trans (ga a ha)
    have hsm:Hb ⟨a.2.1,w++[⟨pl,ar,true⟩],th++[a.1],a.2.2⟩:=⟨by show a.2.1.length < 9000;omega,by show (w++[_]).length < 9000;rw [Pg,Pl];omega,by show (th++[a.1]).length < 9000;rw [Pg,Pl];omega⟩
    have fur:E9 sub ⟨a.2.1,w++[⟨pl,ar,true⟩],th++[a.1],a.2.2⟩ _:=.further (S:=⟨a.2.1,w++[⟨pl,ar,true⟩],th++[a.1],a.2.2⟩) rfl rfl hs (.lets (x:=a.1) (th:=th) h5 rfl (S.nt hs).2.2.2) har
    have g3:=g1.trans (Goes.step hsm fur)
    rw [Pb]
    have Ec:=Ea.put ta.t (by have:=E.l;omega) (Ct wd d 1)
    obtain ⟨gc,nc⟩:=ih (pl++[1]) _ a.2.1 a.2.2 Ec (by omega) (by rw [hp1];rfl) w th ⟨by omega,by omega,by omega,q3⟩
    refine ⟨fun o h=>g3.trans (gc o h),fun h=>?_⟩
    obtain ⟨m,R⟩:=nc h
    exact g3 m _ R
   ·have h6:wd = "if" := by rcases h3 with h | h;exact absurd h h5;exact h
    simp only [if_neg h5,if_pos h6]
    obtain ⟨p2,hp2⟩:=S.p2 hs h6
    cases ha:ev sub 500 n (pl++[0]) ar rs (st+1) with
    | none =>
     refine ⟨(fun o h=>by cases h),fun _=>?_⟩
     obtain ⟨m,R⟩:=na ha
     exact cg m _ R
    | some a =>
    have ta:=B8 S n _ _ _ _ _ E.up ha
    have Ea:=E.up.on ta
    have q1:=ta.s;have q2:=ta.m;have q3:=ta.b
    have g1:=cg.trans (ga a ha)
    have hsm:Hb ⟨a.2.1,w++[⟨pl,ar,true⟩],th++[a.1],a.2.2⟩:=⟨by show a.2.1.length < 9000;omega,by show (w++[_]).length < 9000;rw [Pg,Pl];omega,by show (th++[a.1]).length < 9000;rw [Pg,Pl];omega⟩
    rw [Pb]
    by_cases h7:a.1.1 = "truth"
    ·rw [if_pos h7]
     obtain ⟨bb,hbb⟩:∃ bb,a.1=(("truth" : Str),V.bl bb):=by
      rcases ta.t with ⟨h,_⟩ | ⟨_,bb,h⟩ | ⟨h,_⟩
      ·rw [h7] at h;exact absurd h (by decide +kernel)
      ·exact ⟨bb,by rw [<- h7,<- h]⟩
      ·rw [h7] at h;exact absurd h (by decide +kernel)
     have eb:(if a.1.2=V.bl true then 1 else 2)=(if bb=true then 1 else 2):=by rw [hbb];cases bb <;> rfl
     have fur:E9 sub ⟨a.2.1,w++[⟨pl,ar,true⟩],th++[a.1],a.2.2⟩ _:=.further (S:=⟨a.2.1,w++[⟨pl,ar,true⟩],th++[a.1],a.2.2⟩) rfl rfl hs (.ifs (b:=bb) (th:=th) h6 (by rw [hbb]) (S.nt hs).2.2.2) har
     have g3:=g1.trans (Goes.step hsm fur)
     have ez:B6 (Ct wd d (if bb then 1 else 2:Nat)) []=[]:=by unfold B6;exact List.zip_nil_right
     unfold Jg at g3
     rw [ez,Qe] at g3
     rw [eb]
     have hpb:(sub (pl++[if bb=true then 1 else 2])).isSome=true:=by
      cases bb with
      | false=>show (sub (pl++[2])).isSome=true;rw [hp2];rfl
      | true=>show (sub (pl++[1])).isSome=true;rw [hp1];rfl
     obtain ⟨gc,nc⟩:=ih (pl++[if bb=true then 1 else 2]) ar a.2.1 a.2.2 Ea (by omega) hpb w th ⟨by omega,by omega,by omega,q3⟩
     refine ⟨fun o h=>g3.trans (gc o h),fun h=>?_⟩
     obtain ⟨m,R⟩:=nc h
     exact g3 m _ R
    ·rw [if_neg h7]
     refine ⟨fun o h=>?_,(fun h=>by cases h)⟩
     cases h
     have fur:E9 sub ⟨a.2.1,w++[⟨pl,ar,true⟩],th++[a.1],a.2.2⟩ _:=.further (S:=⟨a.2.1,w++[⟨pl,ar,true⟩],th++[a.1],a.2.2⟩) rfl rfl hs (.ifr (x:=a.1) (th:=th) h6 rfl h7) har
     exact g1.trans (Goes.step hsm fur)
  ·have h5:¬ wd = "let" := fun h=>h3 (.inl h)
   have h6:¬ wd = "if" := fun h=>h3 (.inr h)
   simp only [if_neg h5,if_neg h6]
   rw [Znk (Zqj h2 h5 h6)] at cg
   refine ⟨fun o h=>?_,(fun h=>by cases h)⟩
   cases h
   exact cg
theorem De {t:TS}{X:St->Hp->Prop}{rt:VK}{bk ct:St->Hp->Prop}{σ:St}{H:Hp}(R:St->Hp->Prop)(h2:∀ σ' H',R σ' H'->X σ' H')(h1:∀ Y:St->Hp->Prop,(∀ σ' H',R σ' H'->Y σ' H')->t ⟨Y,rt,bk,ct⟩ σ H):t ⟨X,rt,bk,ct⟩ σ H:=h1 X h2
noncomputable def PrW (K:O6)(H:Hp)(v:V)(x:Str×Str):Prop:=∃ a,v=.ref a/\SqT K H a [.str x.1,.str x.2]
theorem PrW.same {K:O6}{H H':Hp}(s:SameT H H')(v:V)(x:Str×Str)(h:PrW K H v x):PrW K H' v x:=let ⟨a,e,q⟩:=h;⟨a,e,s.tup q⟩
noncomputable def BdAt (ts:List Str)(K:O6)(H:Hp)(b:Addr)(n:Nat):Prop:=∃ bs zs,H b=some (.lst bs)/\Al (PrW K H) bs zs/\bs.length<=n/\∀ z∈zs,z.1∈ts.take 5
noncomputable def F7 (w:Str):Option Nat:=if w∈(["gap", "odd", "num", "truth", "name"]:List Str) then some 0 else if w∈(["plus", "minus", "less", "call", "let"]:List Str) then some 2 else if w∈(["fn", "rec"]:List Str) then some 1 else if w = "if" then some 3 else none
structure WOk (w:Str)(n:Dt)(k:Nat):Prop where
 p:F7 w=some k
 i:w = "num" -> ∃ i,n=.flat (.int i)
 t:w = "truth" -> ∃ b,n=.flat (.bl b)
 z:w = "name" -> ∃ z,n=.flat (.str z)
 b:E5 w n
inductive Tf:Tr->Prop
 | mk {w:Str} {n:Dt} {ps:List Tr} (h:WOk w n ps.length) (hs:∀ t,t∈ps->Tf t):Tf (.mk w n ps)
theorem bk {wd:Str}{d:Dt}(h:wd ≠ "fn" /\ wd ≠ "let" /\ wd ≠ "rec"):E5 wd d:=⟨fun z=>z.elim (fun z=>absurd z h.1) (fun z=>absurd z h.2.1),fun z=>absurd z h.2.2⟩
theorem Gg {wd:Str}{d:Dt}{k:Nat}(hp:F7 wd=some k)(h:wd ≠ "num" /\ wd ≠ "truth" /\ wd ≠ "name")(hb:E5 wd d):WOk wd d k:=⟨hp,fun z=>absurd z h.1,fun z=>absurd z h.2.1,fun z=>absurd z h.2.2,hb⟩
theorem Zn2:WOk "gap" (.flat .non) 0:=Gg (by decide +kernel) (by decide +kernel) (bk (by decide +kernel))
theorem Zhf {v:V}:WOk "odd" (.flat v) 0:=Gg (by decide +kernel) (by decide +kernel) (bk (by decide +kernel))
theorem Zcs {i:Int}:WOk "num" (.flat (.int i)) 0:=⟨by decide +kernel,fun _=>⟨i,rfl⟩,fun z=>absurd z (by decide +kernel),fun z=>absurd z (by decide +kernel),bk (by decide +kernel)⟩
theorem Zji {b:Bool}:WOk "truth" (.flat (.bl b)) 0:=⟨by decide +kernel,fun z=>absurd z (by decide +kernel),fun _=>⟨b,rfl⟩,fun z=>absurd z (by decide +kernel),bk (by decide +kernel)⟩
theorem Ze5 {x:Str}:WOk "name" (.flat (.str x)) 0:=⟨by decide +kernel,fun z=>absurd z (by decide +kernel),fun z=>absurd z (by decide +kernel),fun _=>⟨x,rfl⟩,bk (by decide +kernel)⟩
theorem Iw {x:Str}:WOk "fn" (.flat (.str x)) 1:=Gg (by decide +kernel) (by decide +kernel) ⟨fun _=>⟨x,rfl⟩,fun z=>absurd z (by decide +kernel)⟩
theorem Za5 {x:Str}:WOk "let" (.flat (.str x)) 2:=Gg (by decide +kernel) (by decide +kernel) ⟨fun _=>⟨x,rfl⟩,fun z=>absurd z (by decide +kernel)⟩
theorem Zbr {y x:Str}:WOk "rec" (.tup [.flat (.str y),.flat (.str x)]) 1:=Gg (by decide +kernel) (by decide +kernel) ⟨fun z=>absurd z (by decide +kernel),fun _=>⟨y,x,rfl⟩⟩
theorem w_if:WOk "if" (.flat .non) 3:=Gg (by decide +kernel) (by decide +kernel) (bk (by decide +kernel))
theorem Gz {wd:Str}(h:wd∈Cg):WOk wd (.flat .non) 2:=by
 unfold Cg at h
 simp only [Pd,Pj,or_false] at h
 rcases h with rfl | rfl | rfl | rfl <;> exact Gg (by decide +kernel) (by decide +kernel) (bk (by decide +kernel))
theorem Zes {wd:Str}{nv:V}(h:WOk wd (.flat nv) 0):Tf (.mk wd (.flat nv) []):=.mk h (fun t ht=>nomatch ht)
noncomputable def SameR (r:Addr)(H H':Hp):Prop:=∀ b o,b≠r->H b=some o->H' b=some o
structure FR (a:Addr)(H H':Hp):Prop where
 r:SameR a H H'
 e:∃ cs:List Int,H' a=some (.lst (cs.map V.int))/\cs.length<=63
theorem FR.trans {a:Addr}{H H1 H2:Hp}(x:FR a H H1)(y:FR a H1 H2):FR a H H2:=⟨fun b o n h=>y.r b o n (x.r b o n h),y.e⟩
theorem FR.put {a:Addr}{H H1 H2:Hp}(x:FR a H H1)(s:Same H1 H2):FR a H H2:=⟨fun b o n h=>s b o (x.r b o n h),let ⟨cs,e,l⟩:=x.e;⟨cs,s _ _ e,l⟩⟩
structure WN (ts:List Str)(w:Str)(n:Dt)(k:Nat):Prop extends WOk w n k where
 nm:w = "name" -> ∀ z,n=.flat (.str z)->z∈ts.take 5
inductive TfN (ts:List Str):Tr->Prop
 | mk {w:Str} {n:Dt} {ps:List Tr} (h:WN ts w n ps.length) (hs:∀ t,t∈ps->TfN ts t):TfN ts (.mk w n ps)
theorem WN.of {ts:List Str}{w:Str}{n:Dt}{k:Nat}(h:WOk w n k)(hn:w ≠ "name"):WN ts w n k:=⟨h,fun e=>absurd e hn⟩
theorem WN.up {ts:List Str}{w:Str}{n:Dt}{k:Nat}(h:WOk w n (k+1)):WN ts w n (k+1):=.of h fun e=>by
 have:=h.p
 rw [e,show F7 "name" = some 0 by decide +kernel] at this
 cases this
theorem TfN.tf {ts:List Str}:∀{t:Tr},TfN ts t->Tf t
 | _,.mk h hs=>.mk h.toWOk fun t ht=>(hs t ht).tf
theorem Zho {ts:List Str}:WN ts "gap" (.flat .non) 0:=.of Zn2 (by decide +kernel)
theorem Zgc {ts:List Str}{v:V}:WN ts "odd" (.flat v) 0:=.of Zhf (by decide +kernel)
theorem Zdq {ts:List Str}{i:Int}:WN ts "num" (.flat (.int i)) 0:=.of Zcs (by decide +kernel)
theorem Zfa {ts:List Str}{b:Bool}:WN ts "truth" (.flat (.bl b)) 0:=.of Zji (by decide +kernel)
theorem Mj {ts:List Str}{x:Str}(h:x∈ts.take 5):WN ts "name" (.flat (.str x)) 0:=⟨Ze5,fun _ z e=>by injection e with e;injection e with e;rw [<- e];exact h⟩
theorem Zah {ts:List Str}{wd:Str}{nv:V}(h:WN ts wd (.flat nv) 0):TfN ts (.mk wd (.flat nv) []):=.mk h (fun t ht=>nomatch ht)
theorem Zaj {ts:List Str}(lt:5<=ts.length){i:Int}(h0:0<=i)(h1:i < 5):∃ x:Str,Ck (ts.map V.str) i=some (.str x)/\x∈ts.take 5:=by
 obtain ⟨j,rfl⟩:∃ j:Nat,i=(j:Nat):=⟨i.toNat,by omega⟩
 have hj:j < ts.length:=by omega
 refine ⟨ts[j],Dc (by rw [Ql,Pa hj];rfl),?_⟩
 refine Qs (i:=j) ?_
 rw [List.getElem?_take,if_pos (by omega)]
 exact Pa hj
structure FS (K:O6)(H:Hp)(a ar pn:Addr)(ts:List Str)(m:Nat):Prop where
 e:∃ cs:List Int,H a=some (.lst (cs.map V.int))/\cs.length<=63
 bd:BdAt ts K H ar m
 na:ar≠a
 hp:H pn=some (.lst (ts.map V.str))
 np:pn≠a
 lt:5<=ts.length
theorem FR.refl {K:O6}{H:Hp}{a ar pn:Addr}{ts:List Str}{m:Nat}(S:FS K H a ar pn ts m):FR a H H:=⟨fun _ _ _ h=>h,S.e⟩
theorem FR.t {a:Addr}{H H':Hp}(x:FR a H H')(h:∃ cs:List Int,H a=some (.lst (cs.map V.int))/\cs.length<=63):SameT H H':=fun b=>by
 obtain ⟨cs,e,_⟩:=h
 exact ⟨fun xs hb=>x.r b _ (fun z=>by rw [z,e] at hb;cases hb) hb,fun o u hb=>x.r b _ (fun z=>by rw [z,e] at hb;cases hb) hb⟩
theorem FS.step {K:O6}{H H':Hp}{a ar pn:Addr}{ts:List Str}{m:Nat}(S:FS K H a ar pn ts m)(x:FR a H H'):FS K H' a ar pn ts m:=by
 obtain ⟨bs,zs,b1,b2,b3⟩:=S.bd
 exact ⟨x.e,⟨bs,zs,x.r _ _ S.na b1,b2.mono (PrW.same (x.t S.e)),b3⟩,S.na,x.r _ _ S.np S.hp,S.np,S.lt⟩
theorem FS.nm {K:O6}{H:Hp}{a ar pn:Addr}{ts:List Str}{m:Nat}(S:FS K H a ar pn ts m){i:Int}(h0:0<=i)(h1:i < 5):∃ x:Str,Ck (ts.map V.str) i=some (.str x)/\x∈ts.take 5:=Zaj S.lt h0 h1
theorem FS.more {K:O6}{H:Hp}{a ar pn:Addr}{ts:List Str}{m k:Nat}{bs ms:List V}{zs ws:List (Str×Str)}(S:FS K H a ar pn ts m)(b1:H ar=some (.lst bs))(b2:Al (PrW K H) bs zs)(b3:bs.length<=m)(b4:∀ z∈zs,z.1∈ts.take 5)(al:Al (PrW K H) ms ws)(lm:ms.length=k)(hw:∀ z∈ws,z.1∈ts.take 5){p:Addr}(hp:H p=none):FS K (upd H p (.lst (bs++ms))) a p pn ts (m+k):=by
 have s:Same H (upd H p (.lst (bs++ms))):=Same.upd hp
 obtain ⟨cs,e,l⟩:=S.e
 exact ⟨⟨cs,s _ _ e,l⟩,⟨bs++ms,zs++ws,Ad,(b2.append al).mono (PrW.same s.t),by rw [Pg];omega,fun z hz=>(Ra.mp hz).elim (b4 z) (hw z)⟩,(fun z=>by rw [z,e] at hp;cases hp),s _ _ S.hp,S.np,S.lt⟩
noncomputable def G8 (K:O6)(n:Nat):Sp:=fun vs H Q _=>∃(a ar pn:Addr)(ts:List Str)(m room:Nat)(so:Str),vs=[.ref a,.ref ar,.ref pn,.int (room:Nat),.str so]/\FS K H a ar pn ts m/\m+2 * room<=500/\1<=room/\room<=n/\∀ v t H',FR a H H'->TrAt K H' v t->TfN ts t->t.size+1<=3 * room->Q v H'
theorem Oo {K:O6}{H:Hp}{b p:Addr}{wd:Str}{nv:V}{n:Dt}{us:List V}{ts:List Tr}(h1:H b=some (.tup [.str wd,nv,.ref p]))(hn:IsN K H nv n)(h2:H p=some (.tup us))(al:Al (TrAt K H) us ts):TrAt K H (.ref b) (.mk wd n ts):=.mk (SqT.of h1) hn (SqT.of h2) al.1 fun j v t e1 e2=>al.2 j v t e1 e2
theorem laid {K:O6}{H:Hp}{a:Addr}{H0:Hp}{wd:Str}{nv:V}{n:Dt}{us:List V}{ts:List Tr}{p b:Addr}(r:FR a H0 H)(hn:IsN K H nv n)(al:Al (TrAt K H) us ts)(h1:H p=none)(h2:upd H p (.tup us) b=none):FR a H0 (upd (upd H p (.tup us)) b (.tup [.str wd,nv,.ref p]))/\TrAt K (upd (upd H p (.tup us)) b (.tup [.str wd,nv,.ref p])) (.ref b) (.mk wd n ts):=by
 have s1:=Same.upd (o:=.tup us) h1
 have s2:=Same.upd (o:=.tup [.str wd,nv,.ref p]) h2
 have s:=s1.trans s2
 exact ⟨r.put s,Oo Ad (hn.same s.t) (s2 _ _ Ad) (al.mono fun v t h=>h.same s)⟩
theorem K6 {wd:Str}{n:Dt}{t1:Tr}(hb:WOk wd n 1)(h1:Tf t1):Tf (.mk wd n [t1]):=.mk hb fun t h=>by rw [P4.mp h];exact h1
theorem Zcw {ts:List Str}{wd:Str}{n:Dt}{t1:Tr}(hb:WOk wd n 1)(h1:TfN ts t1):TfN ts (.mk wd n [t1]):=.mk (.up hb) fun t h=>by rw [P4.mp h];exact h1
theorem Gh {wd:Str}{n:Dt}{t1 t2:Tr}(hb:WOk wd n 2)(h1:Tf t1)(h2:Tf t2):Tf (.mk wd n [t1,t2]):=.mk hb fun t h=>by
 rcases Pd.mp h with rfl | h
 ·exact h1
 ·rw [P4.mp h];exact h2
theorem Zaz {ts:List Str}{wd:Str}{n:Dt}{t1 t2:Tr}(hb:WOk wd n 2)(h1:TfN ts t1)(h2:TfN ts t2):TfN ts (.mk wd n [t1,t2]):=.mk (.up hb) fun t h=>by
 rcases Pd.mp h with rfl | h
 ·exact h1
 ·rw [P4.mp h];exact h2
theorem Zj1 {ts:List Str}{wd:Str}{n:Dt}{t1 t2 t3:Tr}(hb:WOk wd n 3)(h1:TfN ts t1)(h2:TfN ts t2)(h3:TfN ts t3):TfN ts (.mk wd n [t1,t2,t3]):=.mk (.up hb) fun t h=>by
 rcases Pd.mp h with rfl | h
 ·exact h1
 ·rcases Pd.mp h with rfl | h
  ·exact h2
  ·rw [P4.mp h];exact h3
theorem sz_1 {wd:Str}{n:Dt}{t1:Tr}:(Tr.mk wd n [t1]).size=1+t1.size:=by simp [Tr.size,Bx]
theorem Zaf {wd:Str}{n:Dt}{t1 t2:Tr}:(Tr.mk wd n [t1,t2]).size=1+(t1.size+t2.size):=by simp [Tr.size,Bx]
theorem sz_3 {wd:Str}{n:Dt}{t1 t2 t3:Tr}:(Tr.mk wd n [t1,t2,t3]).size=1+(t1.size+(t2.size+t3.size)):=by simp [Tr.size,Bx]
section
variable {P:Program}{w:World}{K:O6}{mg:Str->Option Value}{base:Heap}
theorem Ze4 {n:Int}(h0:0<=n)(h1:n < 10 ^ 18):(Qj (toString n)).length<=19:=by
 have e:=PySem.int_text_length_le10 (a:=n) (k:=18) (by decide) (by omega)
 rw [Str.ofString_eq_toList]
 show ((toString n).toList.map Char.toNat).toArray.size<=19
 rw [Pe,Ph,String.length_toList]
 exact e
theorem Zb7 {n:Int}(h0:0<=n)(h1:n < 10 ^ 18):n.natAbs.log2 < 1920:=by
 by_cases z:n.natAbs=0
 ·rw [z];decide
 ·rw [Nat.log2_lt z]
  have:n.natAbs < 10 ^ 18:=by omega
  exact Pt this (by decide +kernel)
theorem Za8 {K:O6}{H:Hp}{a p:Addr}{wd:Str}{nv:V}(h1:H a=some (.tup [.str wd,nv,.ref p]))(h2:H p=some (.tup []))(hf:Cy nv=true):TrAt K H (.ref a) (.mk wd (.flat nv) []):=.mk (SqT.of h1) (.inl ⟨hf,rfl⟩) (SqT.of h2) rfl fun j v t e _=>by simp at e
noncomputable def Lq (K:O6):Sp:=fun vs H Q _=>∃(c:Int)(ar pn:Addr)(so:Str)(ts:List Str)(m:Nat),vs=[.int c,.ref ar,.ref pn,.str so]/\BdAt ts K H ar m/\m<=1000/\H pn=some (.lst (ts.map V.str))/\5<=ts.length/\∀ v t H',Same H H'->TrAt K H' v t->TfN ts t->t.size<=2->Q v H'
theorem Zgh:(["_law_name", "_law_kind", "_law_sort"]:List Str).Nodup:=by decide +kernel
theorem sc_law_end:Bl ["_law_cell_here", "_law_around", "_law_names_here", "_law_sort", "_law_pick", "_law_known"] ["_law_cell_here", "_law_around", "_law_names_here", "_law_sort"] (A9 Ks):=by walk_at "sc"
theorem Zhh {f:Addr}{fd:FuncData}(F:Fun K "_law_end" "_law_end" Ks f fd)(T:Txt K mg)(C__law_number:Bo P w K mg base 1 "_law_number" ["_law_cell_here"] Zdf):Az P w K mg base Aw 2 f fd ["_law_cell_here", "_law_around", "_law_names_here", "_law_sort"] (Lq K):=by
 refine F.okq sc_law_end (fun vs H Q E h=>?_) (fun cdv A outer s H vs Q E hr h=>?_)
 ·obtain ⟨c,ar,pn,so,ts,m,rfl,_⟩:=h
  rfl
 ·obtain ⟨c,ar,pn,so,ts,m,rfl,⟨bs,zs,eb,alb,lb,inb⟩,hm,hpn,hts,q⟩:=h
  refine ⟨_,Ae (Au 4 sc_law_end (Ah Bm (qv 0) Ac))
   (Ae (Au 0 sc_law_end (Ah C4 (qv 0) Ac))
   (Ae (Zb8 (i:=5) (N:=["_law_name", "_law_kind", "_law_sort"]) (σ0:=Fb 2 [3]) rfl (Iq rfl (by decide +kernel) (by decide +kernel) (by decide +kernel)) (Fh K (qv 1)) (Ja rfl (by rfl)) (fun _ _ _ _=>Gf K (n:=2) rfl (Cs (Bu (i:=0) Zgh rfl (Or.inl rfl)) (Cs (Bu (i:=1) Zgh rfl (Or.inl rfl)) (Ge)))) (fun _ _ _ _=>Zgp (Ax (A7 K hr.u200) (qv 1) (qv 2) (As _))) (fun _ _ _ _=>qv 0) sc_law_end.nd rfl (Or.inl rfl))
   (Ae (Av (Ax E4 (qv 4) Ac (As _)) (Af (Ap (Ag (Aa Aj (Aa Ek (Aa (Ag Ab) Ab)))))) Ay)
   (Ae (Av (QW.qt (D9 (Ax E4 (qv 4) Ac (As _)) (Ej (Ax G6 (A6 (Ca K) (by rfl) T.len (by decide +kernel) (Aa (qv 5) Ab)) Ac (As _))))) (Af (Ap (Ag (Aa Aj (Aa (Am K (qv 5) (Ah Bm (qv 0) (A6 (Ca K) (by rfl) T.len (by decide +kernel) (Aa (qv 5) Ab)))) (Aa (Ag Ab) Ab)))))) Ay)
   (Ae (Av (QW.qt (D9 (Ax (A7 K hr.u200) (qv 4) Ac (As _)) (Ej (Ax (A7 K hr.u200) (Ah Bm (qv 0) Ac) Ac (As _))))) (Af (Ap (Ag (Aa Aj (Aa (Am K (qv 2) Ac) (Aa (Ag Ab) Ab)))))) Ay)
   (Ae (Av (QW.qt (D9 (Ax (A7 K hr.u200) (qv 4) Ac (As _)) (Ej (Ax (A7 K hr.u200) (Ah Bm (qv 0) Ac) Ac (As _))))) (Af (Ap (Ag (Aa Aj (Aa (Ah (B5 K) Aj (Fl Zd4 (by rfl) T.str (by decide +kernel) (Aa (Ah Bm (Ah C4 (qv 0) Ac) Ac) Ab))) (Aa (Ag Ab) Ab)))))) Ay)
   (Ae (Av (Ax (A7 K hr.u200) (qv 3) Aj (As _)) (Af (Ap (Ag (Aa Aj (Aa (Dz (A7 K hr.u200) (Ah Bm (qv 0) Ac) Ac (As _)) (Aa (Ag Ab) Ab)))))) Ay)
   (Ae (Av (Ax (A7 K hr.u200) (qv 3) Aj (As _)) (Af (Ap (Ag (Aa Aj (Aa (Am K (qv 2) (Ah Bm (qv 0) Ac)) (Aa (Ag (Aa (Ag (Aa Aj (Aa (Am K (qv 2) (Ah Bm (Ah C4 (qv 0) Ac) Ac)) (Aa (Ag Ab) Ab)))) Ab)) Ab)))))) Ay)
   (Af (Ap (Ag (Aa Aj (Aa (Ba C__law_number hr.m (Aa (qv 0) Ab)) (Aa (Ag Ab) Ab)))))))))))))),?_⟩
  have bg:=big
  walk_at "r"
  refine .inl ⟨ar,rfl,⟨_,SqL.of eb⟩,fun D hD=>?_⟩
  refine Lv (K:=K) (a:=ar) (xs:=bs) (Pv:=fun i ys σ' H'=>∃ k0 k1 ks,σ'=[k0,k1,some (.str so)]/\ys=List.map V.str ks/\ks.length<=i/\(∀ x∈ks,x∈ts.take 5)/\Same H H') ⟨none,none,[],rfl,rfl,Qh _,(fun x hx=>nomatch hx),Same.upd hD⟩ (fun i ys σ' H' _ ⟨_,_,_,_,_,_,_,s'⟩=>SqL.of (s' _ _ eb)) ?_ ?_
  ·rintro i y ys σ' H2 hy hys ⟨k0,k1,ks,rfl,rfl,lk,ik,s2⟩
   obtain ⟨z,hz,a,rfl,qa⟩:=alb.get hy
   refine Fe (s2.tup qa) rfl ?_
   walk_at "r"
   refine Bb (fun _=>?_) (fun _=>?_)
   ·walk_at "r"
    have hkl:(ks.map V.str).length < sizeLine:=by
     have:=(Pq.mp hy).1
     rw [Ph]
     omega
    refine ⟨_,hys,hkl,_,Ad,_,_,ks++[z.1],rfl,by rw [Pz];rfl,by rw [Pg,Pl];omega,(fun x hx=>(Ra.mp hx).elim (ik x) fun h=>by rw [P4.mp h];exact inb z (Qs hz)),s2.over hD⟩
   ·exact ⟨_,hys,_,_,ks,rfl,rfl,by omega,ik,s2⟩
  ·rintro ys σ' H2 hys ⟨k0,k1,ks,rfl,rfl,lk,ik,s2⟩
   have fin:∀(wd:Str)(nv:V)(H1:Hp),Same H H1->Cy nv=true->WN ts wd (.flat nv) 0->∀ a0,H1 a0=none->∀ a1,upd H1 a0 (.tup []) a1=none->Q (.ref a1) (upd (upd H1 a0 (.tup [])) a1 (.tup [.str wd,nv,.ref a0])):=fun wd nv H1 s1 hf hw a0 h0 a1 h1=>by
    have x0:=Same.upd (o:=.tup []) h0
    have x1:=Same.upd (o:=.tup [.str wd,nv,.ref a0]) h1
    exact q _ _ _ (s1.trans (x0.trans x1)) (Za8 Ad (x1 _ _ Ad) hf) (Zah hw) (by simp [Tr.size,Bx])
   have hp2:=s2 _ _ hpn
   have nm:∀ i:Int,0<=i->i < 5->∃ x:Str,Ck (ts.map V.str) i=some (.str x)/\x∈ts.take 5:=fun i h0 h1=>Zaj hts h0 h1
   walk_at "r"
   refine Bb (fun _=>?_) (fun _=>?_)
   ·walk_at "r"
    refine ⟨Bk,fun a0 h0=>?_⟩
    walk_at "r"
    refine ⟨Bf,fun a1 h1=>?_⟩
    exact fin "gap" .non H2 s2 rfl Zho a0 h0 a1 h1
   ·refine s_next ?_
    with_reducible refine s_seq ?_
    refine De (t:=Cw _ _ _) (R:=fun σ' H'=>σ'=[some (.int (c / 8)),some (.ref ar),some (.ref pn),some (.str so),some (.int (c % 8)),some (.ref D)]/\H2=H') ?_ ?_
    rotate_left
    ·intro Y hY
     have go:=hY _ _ ⟨rfl,rfl⟩
     walk_at "r"
     refine Bb (fun _=>?_) (fun _=>?_)
     ·walk_at "r"
      refine Cm (SqL.of hys) ?_
      walk_at "r"
      refine Bb (fun h=>?_) (fun _=>go)
      have h:(0:Int) < ((ks.map V.str).length:Nat):=of_decide_eq_true h
      walk_at "r"
      refine Cm (SqL.of hys) ?_
      refine s_rI h ?_
      obtain ⟨v,hv,hm⟩:=Np (xs:=ks.map V.str) (i:=c / 8 % (((ks.map V.str).length:Nat):Int)) (P3 _ (by omega)) (Qk _ h)
      obtain ⟨x,hxm,rfl⟩:=Vc.mp hm
      refine A8 (SqL.of hys) hv ?_
      walk_at "r"
      refine ⟨Bk,fun a0 h0=>?_⟩
      walk_at "r"
      refine ⟨Bf,fun a1 h1=>?_⟩
      exact fin "name" (.str x) H2 s2 rfl (Mj (ik x hxm)) a0 h0 a1 h1
     ·exact go
    ·rintro _ _ ⟨rfl,rfl⟩
     with_reducible refine s_seq ?_
     refine De (t:=Cw _ _ _) (R:=fun σ' H'=>σ'=[some (.int (c / 8)),some (.ref ar),some (.ref pn),some (.str so),some (.int (c % 8)),some (.ref D)]/\H2=H') ?_ ?_
     rotate_left
     ·intro Y hY
      have go:=hY _ _ ⟨rfl,rfl⟩
      walk_at "r"
      refine Bb (fun _=>?_) (fun _=>?_)
      ·walk_at "r"
       refine Bb (fun h=>?_) (fun _=>go)
       obtain ⟨x,hx,ix⟩:=nm 4 (by decide) (by decide)
       walk_at "r"
       refine A8 (SqL.of hp2) hx ?_
       walk_at "r"
       refine ⟨Bk,fun a0 h0=>?_⟩
       walk_at "r"
       refine ⟨Bf,fun a1 h1=>?_⟩
       exact fin "name" (.str x) H2 s2 rfl (Mj ix) a0 h0 a1 h1
      ·exact go
     ·rintro _ _ ⟨rfl,rfl⟩
      with_reducible refine s_seq ?_
      refine De (t:=Cw _ _ _) (R:=fun σ' H'=>σ'=[some (.int (c / 8)),some (.ref ar),some (.ref pn),some (.str so),some (.int (c % 8)),some (.ref D)]/\H2=H') ?_ ?_
      rotate_left
      ·intro Y hY
       have go:=hY _ _ ⟨rfl,rfl⟩
       walk_at "r"
       refine Bb (fun _=>?_) (fun _=>?_)
       ·walk_at "r"
        refine Bb (fun h=>?_) (fun _=>go)
        walk_at "r"
        have o0:0<=c / 8 / 3 % 1000:=P3 _ (by decide)
        have o1:c / 8 / 3 % 1000 < 10 ^ 18:=Int.lt_of_lt_of_le (Qk _ (by decide)) (by decide)
        refine Zcl (Zb7 o0 o1) ?_
        have h3:(Qj "=").length=1:=by decide +kernel
        refine Ms (by rw [h3];have:=Ze4 o0 o1;omega) ?_
        walk_at "r"
        refine ⟨Bk,fun a0 h0=>?_⟩
        walk_at "r"
        refine ⟨Bf,fun a1 h1=>?_⟩
        exact fin "odd" _ H2 s2 rfl Zgc a0 h0 a1 h1
       ·exact go
      ·rintro _ _ ⟨rfl,rfl⟩
       walk_at "r"
       refine Bb (fun _=>?_) (fun _=>?_)
       ·walk_at "r"
        refine ⟨Bk,fun a0 h0=>?_⟩
        walk_at "r"
        refine ⟨Bf,fun a1 h1=>?_⟩
        exact fin "truth" _ H2 s2 rfl Zfa a0 h0 a1 h1
       ·walk_at "r"
        refine Bb (fun _=>?_) (fun _=>?_)
        ·obtain ⟨x,hx,_⟩:=nm (c / 8 % 4) (P3 _ (by decide)) (by omega)
         obtain ⟨y,hy,iy⟩:=nm (c / 8 / 4 % 5) (P3 _ (by decide)) (by omega)
         walk_at "r"
         refine A8 (SqL.of hp2) hx ?_
         walk_at "r"
         refine A8 (SqL.of hp2) hy ?_
         walk_at "r"
         refine ⟨Bk,fun a0 h0=>?_⟩
         have x0:=Same.upd (o:=.tup []) h0
         walk_at "r"
         refine ⟨Bf,fun a1 h1=>?_⟩
         have x1:=Same.upd (o:=.tup [.str "name",.str y,.ref a0]) h1
         walk_at "r"
         refine ⟨B7,fun a2 h2=>?_⟩
         have x2:=Same.upd (o:=.tup [.ref a1]) h2
         walk_at "r"
         refine ⟨Bf,fun a3 h3=>?_⟩
         have x3:=Same.upd (o:=.tup [.str "fn",.str x,.ref a2]) h3
         have x13:=x2.trans x3
         refine q _ _ _ (s2.trans (x0.trans (x1.trans x13))) (.mk (SqT.of Ad) (.inl ⟨rfl,rfl⟩) (SqT.of (x3 _ _ Ad)) (ts:=[.mk "name" (.flat (.str y)) []]) rfl fun j v t e1 e2=>?_) (.mk (.up Iw) fun t ht=>?_) (by simp [Tr.size,Bx])
         ·match j,e1,e2 with
          | 0,e1,e2 =>
           cases e1
           cases e2
           exact Za8 (x13 _ _ Ad) ((x1.trans x13) _ _ Ad) rfl
         ·rw [P4.mp ht]
          exact Zah (Mj iy)
        ·walk_at "r"
         refine ⟨_,rfl,fun z=>?_⟩
         walk_at "r"
         refine ⟨Bk,fun a0 h0=>?_⟩
         walk_at "r"
         refine ⟨Bf,fun a1 h1=>?_⟩
         exact fin "num" _ H2 s2 rfl Zdq a0 h0 a1 h1
theorem Zfk (c:Int):∃ so:Str,Ck [V.str "num",.str "truth",.str "fun"] (c % 3)=some (.str so):=by
 rcases (show c % 3=0\/c % 3=1\/c % 3=2 by omega) with h | h | h <;> rw [h] <;> exact ⟨_,rfl⟩
theorem C8:Bl ["_law_cells", "_law_around", "_law_names_here", "_law_room", "_law_sort", "_law_cell_here", "_law_pick", "_law_one", "_law_rest", "_law_name", "_law_kind", "_law_first", "_law_other", "_law_more", "_law_word"] ["_law_cells", "_law_around", "_law_names_here", "_law_room", "_law_sort"] (A9 Hq):=by walk_at "sc"
theorem Zn7 {n:Nat}{f:Addr}{fd:FuncData}(F:Fun K "_law_form" "_law_form" Hq f fd)(T:Txt K mg)(C__law_mixed:Bo P w K mg base 1 "_law_mixed" ["_law_cell_here", "_law_k"] Ku)(C__law_end:Bo P w K mg base 2 "_law_end" ["_law_cell_here", "_law_around", "_law_names_here", "_law_sort"] (Lq K))(C__law_form:Bo P w K mg base (n+3) "_law_form" ["_law_cells", "_law_around", "_law_names_here", "_law_room", "_law_sort"] (G8 K n)):Az P w K mg base Aw (n+4) f fd ["_law_cells", "_law_around", "_law_names_here", "_law_room", "_law_sort"] (G8 K (n+1)):=by
 refine F.okq C8 (fun vs H Q E h=>?_) (fun cdv A outer s H vs Q E hr h=>?_)
 ·obtain ⟨a,ar,pn,ts,m,room,so,rfl,_⟩:=h
  rfl
 ·obtain ⟨a,ar,pn,ts,m,room,so,rfl,S0,hm,h1,hn,q⟩:=h
  refine ⟨_,Ae (Au 5 C8 Ac)
   (Ae (Av (Ax G6 (A6 (Ca K) (by rfl) T.len (by decide +kernel) (Aa (qv 0) Ab)) Ac (As _)) (Af (Au 5 C8 (Jx K Py Sr Ss Jt (qv 0)))) Ay)
   (Ae (Au 6 C8 (Ah Bm (qv 5) Ac))
   (Ae (Au 5 C8 (Ba C__law_mixed (hr.mono (by omega)) (Aa (qv 5) (Aa (A6 (Ca K) (by rfl) T.len (by decide +kernel) (Aa (qv 0) Ab)) Ab))))
   (Ae (Av (Ax (A7 K hr.u200) (qv 6) Ac (As _)) (Af (Au 4 C8 (Am K (Bg (Aa Aj (Aa Aj (Aa Aj Ab)))) (Ah Bm (qv 5) Ac)))) Ay)
   (Ae (Av (QW.qt (C7 (Ax E4 (qv 3) Ac (As _)) (Dn (Ax E4 (qv 6) Ac (As _))))) (Af (Ap (Ba C__law_end (hr.mono (by omega)) (Aa (qv 5) (Aa (qv 1) (Aa (qv 2) (Aa (qv 4) Ab))))))) Ay)
   (Ae (Au 7 C8 (Ah (B5 K) Ac (Ah Bm (qv 5) (Ah Ds (qv 3) Ac))))
   (Ae (Au 8 C8 (Ah Ds (Ah Ds (qv 3) Ac) (qv 7)))
   (Ae (Au 9 C8 (Am K (qv 2) (Ah Bm (Ah C4 (qv 5) Ac) Ac)))
   (Ae (Av (Ax E4 (qv 6) Ac (As _)) (Ae (Au 10 C8 (Am K (Bg (Aa Aj (Aa Aj (Aa Aj Ab)))) (Ah Bm (Ah C4 (qv 5) Ac) Ac)))
   (Ae (Au 11 C8 (Ba C__law_form (hr.mono (by omega)) (Aa (qv 0) (Aa (qv 1) (Aa (qv 2) (Aa (qv 7) (Aa (qv 10) Ab)))))))
   (Af (Ap (Ag (Aa Aj (Aa (qv 9) (Aa (Ag (Aa (qv 11) (Aa (Ba C__law_form (hr.mono (by omega)) (Aa (qv 0) (Aa (Ah (B5 K) (qv 1) (Bg (Aa (Ag (Aa (qv 9) (Aa (qv 10) Ab))) Ab))) (Aa (qv 2) (Aa (qv 8) (Aa (qv 4) Ab)))))) Ab))) Ab)))))))) Ay)
   (Ae (Av (Ax E4 (qv 6) Ac (As _)) (Ae (Au 11 C8 (Ba C__law_form (hr.mono (by omega)) (Aa (qv 0) (Aa (qv 1) (Aa (qv 2) (Aa (qv 7) (Aa Aj Ab)))))))
   (Ae (Au 12 C8 (Ba C__law_form (hr.mono (by omega)) (Aa (qv 0) (Aa (qv 1) (Aa (qv 2) (Aa (Ah C4 (Ah (B5 K) (qv 8) Ac) Ac) (Aa (qv 4) Ab)))))))
   (Af (Ap (Ag (Aa Aj (Aa Ek (Aa (Ag (Aa (qv 11) (Aa (qv 12) (Aa (Ba C__law_form (hr.mono (by omega)) (Aa (qv 0) (Aa (qv 1) (Aa (qv 2) (Aa (Ah C4 (Ah (B5 K) (qv 8) Ac) Ac) (Aa (qv 4) Ab)))))) Ab)))) Ab)))))))) Ay)
   (Ae (Av (QW.qt (D9 (Ax (A7 K hr.u200) (qv 4) Aj (As _)) (Ej (Ax E4 (qv 6) Ac (As _))))) (Af (Ap (Ag (Aa Aj (Aa (qv 9) (Aa (Ag (Aa (Ba C__law_form (hr.mono (by omega)) (Aa (qv 0) (Aa (Ah (B5 K) (qv 1) (Bg (Aa (Ag (Aa (qv 9) (Aa Aj Ab))) Ab))) (Aa (qv 2) (Aa (Ah Ds (qv 3) Ac) (Aa Aj Ab)))))) Ab)) Ab)))))) Ay)
   (Ae (Av (Ax (A7 K hr.u200) (qv 4) Aj (As _)) (Ae (Au 13 C8 (Ah (B5 K) (qv 1) (Bg (Aa (Ag (Aa (Am K (qv 2) (Ah Bm (Ah C4 (qv 5) Ac) Ac)) (Aa Aj Ab))) (Aa (Ag (Aa (qv 9) (Aa Aj Ab))) Ab)))))
   (Af (Ap (Ag (Aa Aj (Aa (Ag (Aa (Am K (qv 2) (Ah Bm (Ah C4 (qv 5) Ac) Ac)) (Aa (qv 9) Ab))) (Aa (Ag (Aa (Ba C__law_form (hr.mono (by omega)) (Aa (qv 0) (Aa (qv 13) (Aa (qv 2) (Aa (Ah Ds (qv 3) Ac) (Aa Aj Ab)))))) Ab)) Ab))))))) Ay)
   (Ae (Av (QW.qt (D9 (Ax (A7 K hr.u200) (qv 4) Aj (As _)) (Ej (Ax G6 (qv 6) Ac (As _))))) (Ae (Au 11 C8 (Ba C__law_form (hr.mono (by omega)) (Aa (qv 0) (Aa (qv 1) (Aa (qv 2) (Aa (qv 7) (Aa Aj Ab)))))))
   (Af (Ap (Ag (Aa Aj (Aa Ek (Aa (Ag (Aa (qv 11) (Aa (Ba C__law_form (hr.mono (by omega)) (Aa (qv 0) (Aa (qv 1) (Aa (qv 2) (Aa (qv 8) (Aa Aj Ab)))))) Ab))) Ab))))))) Ay)
   (Ae (Au 14 C8 Aj)
   (Ae (Av (Ax (A7 K hr.u200) (qv 4) Aj (As _)) (Af (Au 14 C8 (Am K (Bg (Aa Aj (Aa Aj (Aa Aj Ab)))) (Ah Ds (qv 6) Ac)))) Ay)
   (Ae (Au 11 C8 (Ba C__law_form (hr.mono (by omega)) (Aa (qv 0) (Aa (qv 1) (Aa (qv 2) (Aa (qv 7) (Aa Aj Ab)))))))
   (Af (Ap (Ag (Aa (qv 14) (Aa Ek (Aa (Ag (Aa (qv 11) (Aa (Ba C__law_form (hr.mono (by omega)) (Aa (qv 0) (Aa (qv 1) (Aa (qv 2) (Aa (qv 8) (Aa Aj Ab)))))) Ab))) Ab)))))))))))))))))))))),?_⟩
  have bg:=big
  with_reducible refine s_seq ?_
  with_reducible refine s_asg ?_
  with_reducible refine s_c ?_
  refine s_gname ?_
  with_reducible refine s_seq ?_
  refine De (t:=Cw _ _ _) (R:=fun σ' H'=>∃ z:Int,σ'=[some (.ref a),some (.ref ar),some (.ref pn),some (.int (room:Nat)),some (.str so),some (.int z),none,none,none,none,none,none,none,none,none]/\FR a H H') ?_ ?_
  rotate_left
  ·intro Y hY
   obtain ⟨cs,ea,lc⟩:=S0.e
   walk_at "r"
   refine Cm (SqL.of ea) ?_
   walk_at "r"
   refine Bb (fun h=>?_) (fun _=>?_)
   ·have h:(0:Int) < ((cs.map V.int).length:Nat):=of_decide_eq_true h
    rcases List.eq_nil_or_concat cs with e | ⟨cs',z,e⟩
    ·rw [e] at h;exact absurd h (by decide)
    ·rw [List.concat_eq_append] at e
     subst e
     rw [Pz] at ea
     rw [Pg] at lc
     walk_at "r"
     refine Cj (SqL.of ea) ?_
     refine Ik ea ?_
     exact hY _ _ ⟨z,rfl,fun b o nb hb=>by rw [Ai nb];exact hb,cs',Ad,by omega⟩
   ·exact hY _ _ ⟨0,rfl,FR.refl S0⟩
  ·rintro _ H1 ⟨z,rfl,r1⟩
   have S1:=S0.step r1
   obtain ⟨cs1,ea1,lc1⟩:=r1.e
   walk_at "r"
   refine Cm (SqL.of ea1) ?_
   walk_at "r"
   refine ⟨z,_,rfl,by omega,by rw [Ph];omega,fun c _ _=>?_⟩
   refine s_gname ?_
   with_reducible refine s_seq ?_
   refine De (t:=Cw _ _ _) (R:=fun σ' H'=>∃ so':Str,σ'=[some (.ref a),some (.ref ar),some (.ref pn),some (.int (room:Nat)),some (.str so'),some (.int c),some (.int (z % 13)),none,none,none,none,none,none,none,none]/\FR a H H') ?_ ?_
   rotate_left
   ·intro Y hY
    walk_at "r"
    refine Bb (fun _=>?_) (fun _=>?_)
    ·walk_at "r"
     refine ⟨Bf,fun a2 h2=>?_⟩
     obtain ⟨so',hso⟩:=Zfk c
     walk_at "r"
     refine A8 (SqL.of Ad) hso ?_
     exact hY _ _ ⟨so',rfl,r1.put (Same.upd h2)⟩
    ·exact hY _ _ ⟨so,rfl,r1⟩
   ·rintro _ H2 ⟨so',rfl,r2⟩
    have S2:=S0.step r2
    have fin:∀ H3 v t,FR a H2 H3->TrAt K H3 v t->TfN ts t->t.size<=2->Q v H3:=fun H3 v t r3 ht tf hz=>q v t H3 (r2.trans r3) ht tf (by omega)
    have ret0:Lq K [.int c,.ref ar,.ref pn,.str so'] H2 Q E0:=⟨c,ar,pn,so',ts,m,rfl,S2.bd,by omega,S2.hp,S2.lt,fun v t H3 s3 ht tf hz=>fin H3 v t ((FR.refl S2).put s3) ht tf hz⟩
    walk_at "r"
    refine Bb (fun _=>?_) (fun h3=>?_)
    ·walk_at "r"
     exact ret0
    have h3:3<=room:=by
     by_cases y:(room:Int) < 3
     ·exact absurd (decide_eq_true y) h3
     ·omega
    walk_at "r"
    refine Bb (fun _=>?_) (fun _=>?_)
    ·walk_at "r"
     exact ret0
    walk_at "r"
    refine s_rI (by show (0:Int) < (room:Int) - 2;omega) ?_
    walk_at "r"
    obtain ⟨k1,ek1,k11,k12⟩:∃ k:Nat,1+c % ((room:Int) - 2)=(k:Int)/\1<=k/\k+2<=room:=by
     have y0:=P3 c (show (room:Int) - 2≠0 by omega)
     have y1:=Qk c (show (0:Int) < (room:Int) - 2 by omega)
     exact ⟨(1+c % ((room:Int) - 2)).toNat,by omega,by omega,by omega⟩
    rw [ek1]
    obtain ⟨k2,ek2,k22⟩:∃ k:Nat,(room:Int) - 1 - (k1:Int)=(k:Int)/\k1+k+1=room:=⟨room - 1 - k1,by omega,by omega⟩
    rw [ek2]
    obtain ⟨x,hx,ix⟩:=S2.nm (i:=c / 7 % 4) (P3 _ (by decide)) (by omega)
    refine A8 (SqL.of S2.hp) hx ?_
    walk_at "r"
    refine Bb (fun _=>?_) (fun _=>?_)
    ·walk_at "r"
     refine ⟨Bf,fun a3 h3=>?_⟩
     obtain ⟨ki,hki⟩:=Zfk (c / 3)
     have r3:=(FR.refl S2).put (Same.upd (o:=.lst [.str "num",.str "truth",.str "fun"]) h3)
     walk_at "r"
     refine A8 (SqL.of Ad) hki ?_
     revert r3
     generalize upd H2 a3 (.lst [.str "num",.str "truth",.str "fun"])=H3
     intro r3
     walk_at "r"
     refine ⟨a,ar,pn,ts,m,k1,ki,rfl,S2.step r3,by omega,by omega,by omega,fun v1 t1 H4 r4 tr1 tf1 z1=>?_⟩
     have r04:=r3.trans r4
     have S4:=S2.step r04
     obtain ⟨bs,zs,b1,b2,b3,b4⟩:=S4.bd
     walk_at "r"
     refine ⟨Bh,fun a5 h5=>?_⟩
     walk_at "r"
     refine ⟨B7,fun a6 h6=>?_⟩
     have s5:=Same.upd (o:=.tup [.str x,.str ki]) h5
     have s6:=Same.upd (o:=.lst [.ref a5]) h6
     have s56:=s5.trans s6
     have e5:=s6 _ _ (show upd H4 a5 (.tup [.str x,.str ki]) a5=some (.tup [.str x,.str ki]) from Ad)
     have e6:upd (upd H4 a5 (.tup [.str x,.str ki])) a6 (.lst [.ref a5]) a6=some (.lst [.ref a5]):=Ad
     revert s56 e5 e6
     generalize upd (upd H4 a5 (.tup [.str x,.str ki])) a6 (.lst [.ref a5])=H6
     intro s56 e5 e6
     refine Gv (s56 _ _ b1) e6 (by show bs.length+1<=sizeLine;omega) fun a7 h7=>?_
     have S7:=(S4.step ((FR.refl S4).put s56)).more (s56 _ _ b1) (b2.mono (PrW.same s56.t)) b3 b4 (ms:=[.ref a5]) (ws:=[(x,ki)]) (Al.nil.snoc ⟨a5,rfl,SqT.of e5⟩) rfl (fun z hz=>by rw [P4.mp hz];exact ix) h7
     have r47:=((FR.refl S4).put s56).put (Same.upd (o:=.lst (bs++[.ref a5])) h7)
     revert S7 r47
     generalize upd H6 a7 (.lst (bs++[.ref a5]))=H7
     intro S7 r47
     walk_at "r"
     refine ⟨a,a7,pn,ts,m+1,k2,so',rfl,S7,by omega,by omega,by omega,fun v2 t2 H8 r8 tr2 tf2 z2=>?_⟩
     have r48:=r47.trans r8
     walk_at "r"
     refine ⟨Bh,fun p9 h9=>?_⟩
     walk_at "r"
     refine ⟨Bf,fun b9 h10=>?_⟩
     obtain ⟨R,TR⟩:=laid (us:=[v1,v2]) (ts:=[t1,t2]) (wd := "let") (nv:=.str x) (n:=.flat (.str x)) (r2.trans (r04.trans r48)) (.inl ⟨rfl,rfl⟩) ((Al.nil.snoc (tr1.sameT (r48.t S4.e))).snoc tr2) h9 h10
     exact q _ _ _ R TR (Zaz Za5 tf1 tf2) (by rw [Zaf];omega)
    obtain ⟨kr,ekr,kr1⟩:∃ k:Nat,(room:Int) - 1=(k:Int)/\k+1=room:=⟨room - 1,by omega,by omega⟩
    walk_at "r"
    refine Bb (fun _=>?_) (fun p7=>?_)
    ·walk_at "r"
     refine ⟨a,ar,pn,ts,m,k1, "truth",rfl,S2,by omega,by omega,by omega,fun v1 t1 H4 r4 tr1 tf1 z1=>?_⟩
     have S4:=S2.step r4
     obtain ⟨kh,ekh,kh1,kh2⟩:∃ k:Nat,((k2:Int)+1) / 2=(k:Int)/\1<=k/\2 * k<=k2+1:=⟨(k2+1) / 2,by omega,by omega,by omega⟩
     walk_at "r"
     rw [ekh]
     refine ⟨a,ar,pn,ts,m,kh,so',rfl,S4,by omega,by omega,by omega,fun v2 t2 H5 r5 tr2 tf2 z2=>?_⟩
     have S5:=S4.step r5
     walk_at "r"
     rw [ekh]
     refine ⟨a,ar,pn,ts,m,kh,so',rfl,S5,by omega,by omega,by omega,fun v3 t3 H6 r6 tr3 tf3 z3=>?_⟩
     walk_at "r"
     refine ⟨Bf,fun p9 h9=>?_⟩
     walk_at "r"
     refine ⟨Bf,fun b9 h10=>?_⟩
     obtain ⟨R,TR⟩:=laid (us:=[v1,v2,v3]) (ts:=[t1,t2,t3]) (wd := "if") (nv:=.non) (n:=.flat .non) (r2.trans (r4.trans (r5.trans r6))) (.inl ⟨rfl,rfl⟩) (((Al.nil.snoc (tr1.sameT ((r5.trans r6).t S4.e))).snoc (tr2.sameT (r6.t S5.e))).snoc tr3) h9 h10
     exact q _ _ _ R TR (Zj1 w_if tf1 tf2 tf3) (by rw [sz_3];omega)
    have p7:7<=z % 13:=by
     by_cases y:z % 13 < 7
     ·exact absurd (decide_eq_true y) p7
     ·omega
    refine s_next ?_
    with_reducible refine s_seq ?_
    refine De (t:=Cw _ _ _) (R:=fun σ' H'=>σ'=[some (.ref a),some (.ref ar),some (.ref pn),some (.int (room:Nat)),some (.str so'),some (.int c),some (.int (z % 13)),some (.int (k1:Nat)),some (.int (k2:Nat)),some (.str x),none,none,none,none,none]/\H2=H') ?_ ?_
    rotate_left
    ·intro Y hY
     have go:=hY _ _ ⟨rfl,rfl⟩
     walk_at "r"
     refine Bb (fun _=>?_) (fun _=>?_)
     ·walk_at "r"
      refine Bb (fun _=>?_) (fun _=>go)
      walk_at "r"
      obtain ⟨bs,zs,b1,b2,b3,b4⟩:=S2.bd
      refine ⟨Bh,fun a5 h5=>?_⟩
      walk_at "r"
      refine ⟨B7,fun a6 h6=>?_⟩
      have s5:=Same.upd (o:=.tup [.str x,.str "num"]) h5
      have s6:=Same.upd (o:=.lst [.ref a5]) h6
      have s56:=s5.trans s6
      have e5:=s6 _ _ (show upd H2 a5 (.tup [.str x,.str "num"]) a5=some (.tup [.str x,.str "num"]) from Ad)
      have e6:upd (upd H2 a5 (.tup [.str x,.str "num"])) a6 (.lst [.ref a5]) a6=some (.lst [.ref a5]):=Ad
      revert s56 e5 e6
      generalize upd (upd H2 a5 (.tup [.str x,.str "num"])) a6 (.lst [.ref a5])=H6
      intro s56 e5 e6
      refine Gv (s56 _ _ b1) e6 (by show bs.length+1<=sizeLine;omega) fun a7 h7=>?_
      have S7:=(S2.step ((FR.refl S2).put s56)).more (s56 _ _ b1) (b2.mono (PrW.same s56.t)) b3 b4 (ms:=[.ref a5]) (ws:=[(x, "num")]) (Al.nil.snoc ⟨a5,rfl,SqT.of e5⟩) rfl (fun z hz=>by rw [P4.mp hz];exact ix) h7
      have r27:=((FR.refl S2).put s56).put (Same.upd (o:=.lst (bs++[.ref a5])) h7)
      revert S7 r27
      generalize upd H6 a7 (.lst (bs++[.ref a5]))=H7
      intro S7 r27
      walk_at "r"
      rw [ekr]
      refine ⟨a,a7,pn,ts,m+1,kr, "num",rfl,S7,by omega,by omega,by omega,fun v1 t1 H8 r8 tr1 tf1 z1=>?_⟩
      walk_at "r"
      refine ⟨B7,fun p9 h9=>?_⟩
      walk_at "r"
      refine ⟨Bf,fun b9 h10=>?_⟩
      obtain ⟨R,TR⟩:=laid (us:=[v1]) (ts:=[t1]) (wd := "fn") (nv:=.str x) (n:=.flat (.str x)) (r2.trans (r27.trans r8)) (.inl ⟨rfl,rfl⟩) (Al.nil.snoc tr1) h9 h10
      exact q _ _ _ R TR (Zcw Iw tf1) (by rw [sz_1];omega)
     ·exact go
    rintro _ _ ⟨rfl,rfl⟩
    walk_at "r"
    refine Bb (fun _=>?_) (fun _=>?_)
    ·obtain ⟨bs,zs,b1,b2,b3,b4⟩:=S2.bd
     obtain ⟨y,hy,iy⟩:=S2.nm (i:=c / 28 % 4) (P3 _ (by decide)) (by omega)
     walk_at "r"
     refine A8 (SqL.of S2.hp) hy ?_
     walk_at "r"
     refine ⟨Bh,fun a5 h5=>?_⟩
     walk_at "r"
     refine ⟨Bh,fun a6 h6=>?_⟩
     walk_at "r"
     refine ⟨Bh,fun a7 h7=>?_⟩
     have s5:=Same.upd (o:=.tup [.str y,.str "fun"]) h5
     have s6:=Same.upd (o:=.tup [.str x,.str "num"]) h6
     have s7:=Same.upd (o:=.lst [.ref a5,.ref a6]) h7
     have s57:=s5.trans (s6.trans s7)
     have e5:=(s6.trans s7) _ _ (show upd H2 a5 (.tup [.str y,.str "fun"]) a5=some (.tup [.str y,.str "fun"]) from Ad)
     have e6:=s7 _ _ (show upd (upd H2 a5 (.tup [.str y,.str "fun"])) a6 (.tup [.str x,.str "num"]) a6=some (.tup [.str x,.str "num"]) from Ad)
     have e7:upd (upd (upd H2 a5 (.tup [.str y,.str "fun"])) a6 (.tup [.str x,.str "num"])) a7 (.lst [.ref a5,.ref a6]) a7=some (.lst [.ref a5,.ref a6]):=Ad
     revert s57 e5 e6 e7
     generalize upd (upd (upd H2 a5 (.tup [.str y,.str "fun"])) a6 (.tup [.str x,.str "num"])) a7 (.lst [.ref a5,.ref a6])=H6
     intro s56 e5 e6 e7
     refine Gv (s56 _ _ b1) e7 (by show bs.length+2<=sizeLine;omega) fun a8 h8=>?_
     have S7:=(S2.step ((FR.refl S2).put s56)).more (s56 _ _ b1) (b2.mono (PrW.same s56.t)) b3 b4 (ms:=[.ref a5,.ref a6]) (ws:=[(y, "fun"),(x, "num")]) ((Al.nil.snoc ⟨a5,rfl,SqT.of e5⟩).snoc ⟨a6,rfl,SqT.of e6⟩) rfl (fun z hz=>by simp only [Pd,Pj,or_false] at hz;rcases hz with rfl | rfl <;> assumption) h8
     have r27:=((FR.refl S2).put s56).put (Same.upd (o:=.lst (bs++[.ref a5,.ref a6])) h8)
     revert S7 r27
     generalize upd H6 a8 (.lst (bs++[.ref a5,.ref a6]))=H7
     intro S7 r27
     walk_at "r"
     refine A8 (SqL.of S7.hp) hy ?_
     walk_at "r"
     refine ⟨Bh,fun a9 h9=>?_⟩
     have s9:=Same.upd (o:=.tup [.str y,.str x]) h9
     have e9:upd H7 a9 (.tup [.str y,.str x]) a9=some (.tup [.str y,.str x]):=Ad
     have r79:=(FR.refl S7).put s9
     revert r79 e9
     generalize upd H7 a9 (.tup [.str y,.str x])=H9
     intro e9 r79
     have S9:=S7.step r79
     walk_at "r"
     rw [ekr]
     refine ⟨a,a8,pn,ts,m+2,kr, "num",rfl,S9,by omega,by omega,by omega,fun v1 t1 H8 r8 tr1 tf1 z1=>?_⟩
     walk_at "r"
     refine ⟨B7,fun p9 h9=>?_⟩
     walk_at "r"
     refine ⟨Bf,fun b9 h10=>?_⟩
     obtain ⟨R,TR⟩:=laid (us:=[v1]) (ts:=[t1]) (wd := "rec") (nv:=.ref a9) (n:=.tup [.flat (.str y),.flat (.str x)]) (r2.trans (r27.trans (r79.trans r8))) (.inr ⟨a9,[.str y,.str x],rfl,SqT.of (((r8.t S9.e) a9).1 _ e9),rfl,rfl⟩) (Al.nil.snoc tr1) h9 h10
     exact q _ _ _ R TR (Zcw Zbr tf1) (by rw [sz_1];omega)
    refine s_next ?_
    with_reducible refine s_seq ?_
    refine De (t:=Cw _ _ _) (R:=fun σ' H'=>σ'=[some (.ref a),some (.ref ar),some (.ref pn),some (.int (room:Nat)),some (.str so'),some (.int c),some (.int (z % 13)),some (.int (k1:Nat)),some (.int (k2:Nat)),some (.str x),none,none,none,none,none]/\H2=H'/\(so' = "num" -> z % 13<=9)) ?_ ?_
    rotate_left
    ·intro Y hY
     walk_at "r"
     rw [Bv]
     by_cases hs:so' = "num"
     ·rw [decide_eq_true hs]
      walk_at "r"
      refine Bb (fun _=>?_) (fun y=>?_)
      ·walk_at "r"
       refine ⟨a,ar,pn,ts,m,k1, "fun",rfl,S2,by omega,by omega,by omega,fun v1 t1 H4 r4 tr1 tf1 z1=>?_⟩
       have S4:=S2.step r4
       walk_at "r"
       refine ⟨a,ar,pn,ts,m,k2, "num",rfl,S4,by omega,by omega,by omega,fun v2 t2 H5 r5 tr2 tf2 z2=>?_⟩
       walk_at "r"
       refine ⟨Bh,fun p9 h9=>?_⟩
       walk_at "r"
       refine ⟨Bf,fun b9 h10=>?_⟩
       obtain ⟨R,TR⟩:=laid (us:=[v1,v2]) (ts:=[t1,t2]) (wd := "call") (nv:=.non) (n:=.flat .non) (r2.trans (r4.trans r5)) (.inl ⟨rfl,rfl⟩) ((Al.nil.snoc (tr1.sameT (r5.t S4.e))).snoc tr2) h9 h10
       exact q _ _ _ R TR (Zaz (Gz (by decide +kernel)) tf1 tf2) (by rw [Zaf];omega)
      ·refine hY _ _ ⟨rfl,rfl,fun _=>?_⟩
       by_cases y':9 < z % 13
       ·exact absurd (decide_eq_true y') y
       ·omega
     ·rw [decide_eq_false hs]
      walk_at "r"
      exact hY _ _ ⟨rfl,rfl,fun h=>absurd h hs⟩
    rintro _ _ ⟨rfl,rfl,p9⟩
    with_reducible refine s_seq ?_
    with_reducible refine s_asg ?_
    with_reducible refine s_c ?_
    refine s_gname ?_
    with_reducible refine s_seq ?_
    refine De (t:=Cw _ _ _) (R:=fun σ' H'=>∃ wd:Str,σ'=[some (.ref a),some (.ref ar),some (.ref pn),some (.int (room:Nat)),some (.str so'),some (.int c),some (.int (z % 13)),some (.int (k1:Nat)),some (.int (k2:Nat)),some (.str x),none,none,none,none,some (.str wd)]/\wd∈Cg/\FR a H2 H') ?_ ?_
    rotate_left
    ·intro Y hY
     walk_at "r"
     rw [Bv]
     by_cases hs:so' = "num"
     ·have p9:=p9 hs
      rw [decide_eq_true hs]
      walk_at "r"
      refine ⟨Bf,fun a5 h5=>?_⟩
      obtain ⟨wd,hwd,hb⟩:∃ wd:Str,Ck [V.str "plus",.str "plus",.str "minus"] (z % 13 - 7)=some (.str wd)/\wd∈Cg:=by
       rcases (show z % 13 - 7=0\/z % 13 - 7=1\/z % 13 - 7=2 by omega) with h | h | h <;> rw [h] <;> exact ⟨_,rfl,by decide +kernel⟩
      walk_at "r"
      refine A8 (SqL.of Ad) hwd ?_
      exact hY _ _ ⟨wd,rfl,hb,(FR.refl S2).put (Same.upd h5)⟩
     ·rw [decide_eq_false hs]
      walk_at "r"
      exact hY _ _ ⟨"less",rfl,by decide +kernel,FR.refl S2⟩
    rintro _ H3 ⟨wd,rfl,hb,r3⟩
    have r2:=r2.trans r3
    have S2:=S2.step r3
    walk_at "r"
    refine ⟨a,ar,pn,ts,m,k1, "num",rfl,S2,by omega,by omega,by omega,fun v1 t1 H4 r4 tr1 tf1 z1=>?_⟩
    have S4:=S2.step r4
    walk_at "r"
    refine ⟨a,ar,pn,ts,m,k2, "num",rfl,S4,by omega,by omega,by omega,fun v2 t2 H5 r5 tr2 tf2 z2=>?_⟩
    walk_at "r"
    refine ⟨Bh,fun p9 h9=>?_⟩
    walk_at "r"
    refine ⟨Bf,fun b9 h10=>?_⟩
    obtain ⟨R,TR⟩:=laid (us:=[v1,v2]) (ts:=[t1,t2]) (wd:=wd) (nv:=.non) (n:=.flat .non) (r2.trans (r4.trans r5)) (.inl ⟨rfl,rfl⟩) ((Al.nil.snoc (tr1.sameT (r5.t S4.e))).snoc tr2) h9 h10
    exact q _ _ _ R TR (Zaz (Gz hb) tf1 tf2) (by rw [Zaf];omega)
end
mutual
theorem N5:∀(pl:List Nat)(t:Tr)(x:List Nat×Tr),x∈walk pl t->∃ q,x.1=pl++q
 | pl,.mk w n ps,x,h=>by
  rw [walk] at h
  rcases Pd.mp h with rfl | h
  ·exact ⟨[],by simp⟩
  ·exact Zex pl 0 ps x h
theorem Zex:∀(pl:List Nat)(i:Nat)(ts:List Tr)(x:List Nat×Tr),x∈Cz pl i ts->∃ q,x.1=pl++q
 | _,_,[],x,h=>by rw [Cz] at h;exact nomatch h
 | pl,i,t::r,x,h=>by
  rw [Cz] at h
  rcases Ra.mp h with h | h
  ·obtain ⟨q,e⟩:=N5 (pl++[i]) t x h
   exact ⟨[i]++q,by rw [e,P0]⟩
  ·exact Zex pl (i+1) r x h
end
theorem Zeu (x:List Nat×Tr)(l:List (List Nat×Tr))(pl:List Nat):Cn (x::l) pl=(Cn l pl).or (if x.1=pl then some x.2 else none):=by
 unfold Cn
 rw [Sz,Vw]
 cases h:l.reverse.find? fun x=>decide (x.1=pl) with
 | some y=>simp
 | none =>
  by_cases e:x.1=pl
  ·simp [e]
  ·simp [e]
theorem Zb9 {ws:List (List Nat×Tr)}{pl:List Nat}(h:∀ x∈ws,x.1≠pl):Cn ws pl=none:=by
 unfold Cn
 rw [List.find?_eq_none.mpr]
 ·rfl
 ·intro x hx
  rw [decide_eq_true_iff]
  exact h x (Up.mp hx)
noncomputable def Di:Tr->List Nat->Option Tr
 | t,[]=>some t
 | .mk _ _ ts,i::r=>match ts[i]? with
  | some t=>Di t r
  | none=>none
termination_by _ pl=>pl.length
theorem Hc (t:Tr):Di t []=some t:=by rw [Di]
theorem Gy (w:Str)(n:Dt)(ts:List Tr)(i:Nat)(r:List Nat):Di (.mk w n ts) (i::r)=(ts[i]?).bind fun t=>Di t r:=by
 rw [Di]
 cases ts[i]? <;> rfl
theorem Zpr (a b:List (List Nat×Tr))(pl:List Nat):Cn (a++b) pl=(Cn b pl).or (Cn a pl):=by
 unfold Cn
 rw [Rs,Vw]
 cases b.reverse.find? fun x=>decide (x.1=pl) <;> simp
theorem Zdm:∀(pl:List Nat)(i:Nat)(ts:List Tr)(x:List Nat×Tr),x∈Cz pl i ts->∃ k q,i<=k/\x.1=pl++k::q
 | _,_,[],x,h=>by rw [Cz] at h;exact nomatch h
 | pl,i,t::r,x,h=>by
  rw [Cz] at h
  rcases Ra.mp h with h | h
  ·obtain ⟨q,e⟩:=N5 (pl++[i]) t x h
   exact ⟨i,q,O9 _,by rw [e,P0];rfl⟩
  ·obtain ⟨k,q,hk,e⟩:=Zdm pl (i+1) r x h
   exact ⟨k,q,by omega,e⟩
mutual
theorem Zc9:∀(p:List Nat)(t:Tr)(q:List Nat),Cn (walk p t) (p++q)=Di t q
 | p,.mk w n ps,[]=>by
  rw [walk,Zeu,Zb9,Hc,if_pos (by simp)]
  ·rfl
  ·intro x hx
   obtain ⟨k,q,_,e⟩:=Zdm p 0 ps x hx
   rw [e]
   intro z
   have:=congrArg Ti z
   simp at this
 | p,.mk w n ps,k::r=>by
  rw [walk,Zeu,Zb3 p 0 ps k r,if_pos (Qh _),Gy,if_neg (fun z=>by have:=congrArg Ti z;simp at this),Option.or_none,Vb]
theorem Zb3:∀(p:List Nat)(i:Nat)(ts:List Tr)(k:Nat)(r:List Nat),Cn (Cz p i ts) (p++k::r)=if i<=k then (ts[k - i]?).bind (fun t=>Di t r) else none
 | p,i,[],k,r=>by
  rw [Cz]
  split <;> simp [Cn]
 | p,i,t::ts,k,r=>by
  rw [Cz,Zpr,Zb3 p (i+1) ts k r]
  by_cases hk:k=i
  ·subst hk
   rw [if_neg (by omega),if_pos (O9 _),Rb,Option.none_or]
   have:=Zc9 (p++[k]) t r
   rw [P0] at this
   rw [show p++k::r=p++([k]++r) from rfl,this]
   rfl
  ·have e:Cn (walk (p++[i]) t) (p++k::r)=none:=Zb9 fun x hx z=>by
    obtain ⟨q,e⟩:=N5 _ _ _ hx
    rw [e,P0] at z
    have:=List.append_cancel_left z
    simp at this
    exact hk this.1.symm
   rw [e,Option.or_none]
   by_cases hlt:i<=k
   ·rw [if_pos (by omega),if_pos hlt,show k - i=(k - (i+1))+1 by omega]
    rfl
   ·rw [if_neg (by omega),if_neg hlt]
end
theorem Io (t:Tr)(pl:List Nat):Be t pl=(Di t pl).map fun u=>(u.wd,Jn u):=by
 unfold Be
 rw [<- Zc9 [] t pl]
 rfl
theorem Zi5 (t:Tr)(p q:List Nat):Di t (p++q)=(Di t p).bind fun u=>Di u q:=by
 induction p generalizing t with
 | nil=>rw [List.nil_append,Hc];rfl
 | cons i r ih =>
  cases t with
  | mk w n ts =>
   rw [V0,Gy,Gy]
   cases ts[i]? with
   | none=>rfl
   | some u=>exact ih u
theorem Jl {t u:Tr}:∀{pl:List Nat},Tf t->Di t pl=some u->Tf u/\pl.length+u.size<=t.size:=by
 intro pl
 induction pl generalizing t with
 | nil=>intro h e;rw [Hc] at e;cases e;exact ⟨h,by simp⟩
 | cons i r ih =>
  intro h e
  cases t with
  | mk w n ts =>
   rw [Gy] at e
   obtain ⟨x,hx,e⟩:=Px.mp e
   cases h with
   | mk hw hs =>
    obtain ⟨h1,h2⟩:=ih (hs x (Qs hx)) e
    have:=Ziz hx
    rw [Tr.size,Qn]
    exact ⟨h1,by omega⟩
theorem Jd {t:Tr}{pl:List Nat}{x:Str×Dt}(h:Be t pl=some x):∃ u,Di t pl=some u/\x=(u.wd,Jn u):=by
 rw [Io] at h
 obtain ⟨u,h1,h2⟩:=Q7.mp h
 exact ⟨u,h1,h2.symm⟩
theorem Ny {t u:Tr}{pl:List Nat}{j:Nat}(h:Di t pl=some u)(hj:j < u.ps.length):∃ x,Be t (pl++[j])=some x:=by
 rw [Io,Zi5,h,Pb]
 cases u with
 | mk w n ts =>
  have hj:j < ts.length:=hj
  rw [Gy,Pa hj,Pb,Hc]
  exact ⟨_,rfl⟩
theorem Mt {u:Tr}(h:Tf u):WOk u.wd (Jn u) u.ps.length:=by cases h with | mk hw _=>exact hw
theorem Ow {w:Str}{n:Dt}{k:Nat}(h:WOk w n k):(w∈(["plus", "minus", "less", "call", "let"]:List Str)->k=2)/\(w = "if" -> k=3)/\(w∈(["fn", "rec"]:List Str)->k=1):=by
 have hp:=h.p
 refine ⟨fun hm=>?_,fun hm=>?_,fun hm=>?_⟩
 ·simp only [Pd,Pj,or_false] at hm
  rcases hm with rfl | rfl | rfl | rfl | rfl <;> (rw [show F7 _=some 2 by decide +kernel] at hp;exact (P5 hp).symm)
 ·subst hm
  rw [show F7 "if" = some 3 by decide +kernel] at hp;exact (P5 hp).symm
 ·simp only [Pd,Pj,or_false] at hm
  rcases hm with rfl | rfl <;> (rw [show F7 _=some 1 by decide +kernel] at hp;exact (P5 hp).symm)
theorem Mg {t:Tr}(h:Tf t)(hz:t.size<=5000):SubOk (Be t):=by
 refine ⟨fun hs=>?_,fun hs=>?_,fun {pl wd d} hs hm=>?_,fun {pl wd d} hs hm=>?_,fun {pl wd d} hs hm=>?_⟩
 ·obtain ⟨u,h1,_⟩:=Jd hs
  have:=(Jl h h1).2
  omega
 ·obtain ⟨u,h1,e⟩:=Jd hs
  have hw:=Mt (Jl h h1).1
  cases e
  exact ⟨hw.i,hw.t,hw.z,hw.b⟩
 ·obtain ⟨u,h1,e⟩:=Jd hs
  obtain ⟨p1,p2,p3⟩:=Ow (Mt (Jl h h1).1)
  cases e
  refine Ny h1 ?_
  simp only [Pd,Pj,or_false] at hm p1 p3
  rcases hm with e | e | e | e | e | e | e | e
  all_goals first | (have:=p2 e;omega) | (have:=p3 (.inl e);omega) | (have:=p3 (.inr e);omega) | (have:=p1 (.inl e);omega) | (have:=p1 (.inr (.inl e));omega) | (have:=p1 (.inr (.inr (.inl e)));omega) | (have:=p1 (.inr (.inr (.inr (.inl e))));omega) | (have:=p1 (.inr (.inr (.inr (.inr e))));omega)
 ·obtain ⟨u,h1,e⟩:=Jd hs
  obtain ⟨p1,p2,p3⟩:=Ow (Mt (Jl h h1).1)
  cases e
  refine Ny h1 ?_
  simp only [Pd,Pj,or_false] at hm p1 p3
  rcases hm with e | e | e | e | e | e
  all_goals first | (have:=p2 e;omega) | (have:=p3 (.inl e);omega) | (have:=p3 (.inr e);omega) | (have:=p1 (.inl e);omega) | (have:=p1 (.inr (.inl e));omega) | (have:=p1 (.inr (.inr (.inl e)));omega) | (have:=p1 (.inr (.inr (.inr (.inl e))));omega) | (have:=p1 (.inr (.inr (.inr (.inr e))));omega)
 ·obtain ⟨u,h1,e⟩:=Jd hs
  obtain ⟨p1,p2,p3⟩:=Ow (Mt (Jl h h1).1)
  cases e
  refine Ny h1 ?_
  have:=p2 hm
  omega
theorem Zrk {t:Tr}(h:Tf t)(hz:t.size<=2000):∃ m,Dw (Be t) m ⟨[],[⟨[],[],false⟩],[],0⟩ ((ev (Be t) 500 501 [] [] [] 0).map fun o=>⟨o.2.1,[],[o.1],o.2.2⟩):=by
 have S:=Mg h (by omega)
 have E:EOk (Be t) [] [] 0:=⟨(fun y hy=>nomatch hy),by show ((0:Nat):Int)<=2 * 0;decide,(fun k r hr=>by simp at hr),Tj _⟩
 have hp:(Be t []).isSome=true:=by rw [Io,Hc];rfl
 obtain ⟨g,n⟩:=Zb5 S 501 [] [] [] 0 E (by omega) hp [] [] ⟨by show ((0:Nat):Int)+4 * (500 - 0)<=5000;decide,by show ((0:Nat):Int)+3 * (500 - 0)<=5000;decide,by show ((0:Nat):Int)+2 * (500 - 0)<=5000;decide,by decide⟩
 cases e:ev (Be t) 500 501 [] [] [] 0 with
 | none=>exact n e
 | some o=>exact g o e 0 _ (.nil rfl)
section
variable {P:Program}{w:World}{K:O6}{mg:Str->Option Value}{base:Heap}
noncomputable def Zdg (K:O6):Sp:=fun vs H Q _=>∃(a:Addr),vs=[.ref a]/\Script K H a/\∀ b,Q (.bl b) H
theorem Zpo:Bl ["_law_script"] ["_law_script"] (A9 Kb):=by walk_at "sc"
theorem Zgv {f:Addr}{fd:FuncData}(F:Fun K "_law_is_free" "_law_is_free" Kb f fd)(T:Txt K mg)(C__law_cell:Bo P w K mg base 1 "_law_cell" ["_law_script", "_law_k"] (Nl K)):Az P w K mg base Aw 2 f fd ["_law_script"] (Zdg K):=by
 refine F.okq Zpo (fun vs H Q E h=>?_) (fun cdv A outer s H vs Q E hr h=>?_)
 ·obtain ⟨a,rfl,_⟩:=h
  rfl
 ·obtain ⟨a,rfl,S,q⟩:=h
  refine ⟨_,Af (Ap (Dz (A7 K hr.u200) (Ah Bm (Ba C__law_cell hr.m (Aa (qv 0) (Aa Ac Ab))) Ac) Ac (As _))),?_⟩
  walk_at "r"
  refine ⟨a,0,rfl,S,by decide,by decide,fun z=>?_⟩
  walk_at "r"
  exact q _
noncomputable def W13:List Str:=["gap", "num", "name", "truth", "odd", "plus", "minus", "less", "call", "if", "fn", "rec", "let"]
noncomputable def WV:List V:=[.str "gap",.str "num",.str "name",.str "truth",.str "odd",.str "plus",.str "minus",.str "less",.str "call",.str "if",.str "fn",.str "rec",.str "let"]
noncomputable def N9:List V:=[.int 0,.int 2,.int 2,.int 2,.int 2,.int 3,.int 1,.int 1,.int 2]
theorem Zk1 {z:Int}:∃(j:Nat)(wd:Str),j < 13/\W13[j]?=some wd/\Ck (W13.map V.str) (z % 13)=some (.str wd)/\(z=0->j=0):=by
 have h0:=P3 z (show (13:Int)≠0 by decide)
 have h1:=Qk z (show (0:Int) < 13 by decide)
 obtain ⟨j,hj⟩:∃ j:Nat,z % 13=(j:Nat):=⟨(z % 13).toNat,by omega⟩
 have hl:j < W13.length:=by show j < 13;omega
 refine ⟨j,W13[j],by omega,Pa hl,?_,fun e=>by rw [e] at hj;omega⟩
 rw [hj]
 exact Dc (by rw [Ql,Pa hl];rfl)
theorem Zoj {z:Int}:∃(j:Nat)(wd:Str),j < 5/\W13[j]?=some wd/\Ck (W13.map V.str) (z % 5)=some (.str wd)/\(z=0->j=0):=by
 have h0:=P3 z (show (5:Int)≠0 by decide)
 have h1:=Qk z (show (0:Int) < 5 by decide)
 obtain ⟨j,hj⟩:∃ j:Nat,z % 5=(j:Nat):=⟨(z % 5).toNat,by omega⟩
 have hl:j < W13.length:=by show j < 13;omega
 refine ⟨j,W13[j],by omega,Pa hl,?_,fun e=>by rw [e] at hj;omega⟩
 rw [hj]
 exact Dc (by rw [Ql,Pa hl];rfl)
theorem Znp:∀(j:Nat)(wd:Str),j < 13->W13[j]?=some wd->∀ m < j,W13[m]?≠some wd:=by
 intro j wd hj h m hm
 have all:(Pw 13).all (fun j=>(Pw j).all fun m=>decide (W13[m]?≠W13[j]?))=true:=by decide +kernel
 have h1:=Ru.mp all j (List.mem_range.mpr hj)
 have h2:=of_decide_eq_true (Ru.mp h1 m (List.mem_range.mpr hm))
 rw [<- h]
 exact h2
theorem Zin {j:Nat}{wd:Str}(hj:j < 13)(h:W13[j]?=some wd)(h4:wd ≠ "num" /\ wd ≠ "truth" /\ wd ≠ "name" /\ wd ≠ "odd"):∃ k:Nat,Ck N9 (if (0:Int) < ((j:Nat):Int) - 4 then ((j:Nat):Int) - 4 else 0)=some (.int (k:Nat))/\F7 wd=some k/\k<=3/\(j < 5->k=0):=by
 have:j=0\/j=1\/j=2\/j=3\/j=4\/j=5\/j=6\/j=7\/j=8\/j=9\/j=10\/j=11\/j=12:=by omega
 have no:∀ w:Str,W13[j]?=some w->(w = "num" \/ w = "truth" \/ w = "name" \/ w = "odd")->False:=fun w e hw=>by
  rw [h] at e
  injection e with e
  subst e
  rcases hw with e | e | e | e
  ·exact h4.1 e
  ·exact h4.2.1 e
  ·exact h4.2.2.1 e
  ·exact h4.2.2.2 e
 rcases this with rfl | rfl | rfl | rfl | rfl | rfl | rfl | rfl | rfl | rfl | rfl | rfl | rfl
 ·cases h;exact ⟨0,rfl,by decide +kernel,by decide,fun _=>rfl⟩
 ·exact (no _ rfl (.inl rfl)).elim
 ·exact (no _ rfl (.inr (.inr (.inl rfl)))).elim
 ·exact (no _ rfl (.inr (.inl rfl))).elim
 ·exact (no _ rfl (.inr (.inr (.inr rfl)))).elim
 ·cases h;exact ⟨2,rfl,by decide +kernel,by decide,fun h=>absurd h (by decide)⟩
 ·cases h;exact ⟨2,rfl,by decide +kernel,by decide,fun h=>absurd h (by decide)⟩
 ·cases h;exact ⟨2,rfl,by decide +kernel,by decide,fun h=>absurd h (by decide)⟩
 ·cases h;exact ⟨2,rfl,by decide +kernel,by decide,fun h=>absurd h (by decide)⟩
 ·cases h;exact ⟨3,rfl,by decide +kernel,by decide,fun h=>absurd h (by decide)⟩
 ·cases h;exact ⟨1,rfl,by decide +kernel,by decide,fun h=>absurd h (by decide)⟩
 ·cases h;exact ⟨1,rfl,by decide +kernel,by decide,fun h=>absurd h (by decide)⟩
 ·cases h;exact ⟨2,rfl,by decide +kernel,by decide,fun h=>absurd h (by decide)⟩
theorem _root_.L2.Same.r {H H':Hp}(e:Same H H')(a:Addr):SameR a H H':=fun b o _ h=>e b o h
theorem SameR.trans {a:Addr}{H H1 H2:Hp}(x:SameR a H H1)(y:SameR a H1 H2):SameR a H H2:=fun b o n h=>y b o n (x b o n h)
theorem SameR.over {a p:Addr}{H H1:Hp}{o:HO}(x:SameR a H H1)(h:H p=none):SameR a H (upd H1 p o):=fun b o' n hb=>by
 have:b≠p:=fun z=>by rw [z,h] at hb;cases hb
 rw [Ai this];exact x b o' n hb
theorem SameR.t {a:Addr}{H H':Hp}(x:SameR a H H'){xs:List V}(h:H a=some (.lst xs)):SameT H H':=fun b=>by
 exact ⟨fun xs hb=>x b _ (fun z=>by rw [z,h] at hb;cases hb) hb,fun o u hb=>x b _ (fun z=>by rw [z,h] at hb;cases hb) hb⟩
theorem SameR.free {a x:Addr}{H H':Hp}(e:SameR a H H')(n:x≠a)(h:H' x=none):H x=none:=by
 cases q:H x with
 | none=>rfl
 | some o=>rw [e x o n q] at h;cases h
noncomputable def G0 (K:O6)(n:Nat):Sp:=fun vs H Q _=>∃(a pn:Addr)(ts:List Str)(cs:List Int)(dp:Nat),vs=[.ref a,.ref pn,.int (dp:Nat)]/\dp < n/\H a=some (.lst (cs.map V.int))/\cs.length<=63/\H pn=some (.lst (ts.map V.str))/\pn≠a/\ts.length=5 /\
 ∀(v:V)(t:Tr)(H':Hp)(cs':List Int),SameR a H H'->H' a=some (.lst (cs'.map V.int))->cs'.length<=cs.length->TrAt K H' v t->TfN ts t->t.size+3 * cs'.length<=1+3 * cs.length->Q v H'
theorem sc_law_any:Bl ["_law_cells", "_law_names_here", "_law_deep", "_law_cell_here", "_law_rest", "_law_some", "_law_word", "_law_note", "_law_many", "_law_parts", "_law_k"] ["_law_cells", "_law_names_here", "_law_deep"] (A9 Ho):=by walk_at "sc"
theorem Zh0 {n:Nat}{f:Addr}{fd:FuncData}(F:Fun K "_law_any" "_law_any" Ho f fd)(T:Txt K mg)(C__law_any:Bo P w K mg base (n+1) "_law_any" ["_law_cells", "_law_names_here", "_law_deep"] (G0 K n)):Az P w K mg base Aw (n+2) f fd ["_law_cells", "_law_names_here", "_law_deep"] (G0 K (n+1)):=by
 refine F.okq sc_law_any (fun vs H Q E h=>?_) (fun cdv A outer s H vs Q E hr h=>?_)
 ·obtain ⟨a,pn,ts,cs,dp,rfl,_⟩:=h
  rfl
 ·obtain ⟨a,pn,ts,cs,dp,rfl,hdp,ea,lc,hpn,npa,lt,q⟩:=h
  refine ⟨_,Ae (Au 3 sc_law_any Ac)
   (Ae (Av (Ax G6 (A6 (Ca K) (by rfl) T.len (by decide +kernel) (Aa (qv 0) Ab)) Ac (As _)) (Af (Au 3 sc_law_any (Jx K Py Sr Ss Jt (qv 0)))) Ay)
   (Ae (Au 4 sc_law_any (Ah C4 (qv 3) Ac))
   (Ae (Au 5 sc_law_any (Bg (Kl (xs:=[.str "gap",.str "num",.str "name",.str "truth",.str "odd",.str "plus",.str "minus",.str "less",.str "call",.str "if",.str "fn",.str "rec",.str "let"]) rfl)))
   (Ae (Au 6 sc_law_any (Am K (qv 5) (Ah Bm (qv 3) Ac)))
   (Ae (Av (Ax (A7 K hr.u200) (qv 2) Ac (As _)) (Af (Au 6 sc_law_any (Am K (qv 5) (Ah Bm (qv 3) Ac)))) Ay)
   (Ae (Av (Ax (A7 K hr.u200) (qv 6) Aj (As _)) (Af (Ap (Ag (Aa (qv 6) (Aa (Ah Bm (qv 4) (Ah Ii Ac Ac)) (Aa (Ag Ab) Ab)))))) Ay)
   (Ae (Av (Ax (A7 K hr.u200) (qv 6) Aj (As _)) (Af (Ap (Ag (Aa (qv 6) (Aa (Dz (A7 K hr.u200) (Ah Bm (qv 4) Ac) Ac (As _)) (Aa (Ag Ab) Ab)))))) Ay)
   (Ae (Av (Ax (A7 K hr.u200) (qv 6) Aj (As _)) (Af (Ap (Ag (Aa (qv 6) (Aa (Am K (qv 1) (Ah Bm (qv 4) (A6 (Ca K) (by rfl) T.len (by decide +kernel) (Aa (qv 1) Ab)))) (Aa (Ag Ab) Ab)))))) Ay)
   (Ae (Av (Ax (A7 K hr.u200) (qv 6) Aj (As _)) (Af (Ap (Ag (Aa (qv 6) (Aa (Ah (B5 K) Aj (Fl Zd4 (by rfl) T.str (by decide +kernel) (Aa (Ah Bm (qv 4) (Ah Ii Ac Ac)) Ab))) (Aa (Ag Ab) Ab)))))) Ay)
   (Ae (Au 7 sc_law_any Ek)
   (Ae (Av (QW.qt (C7 (Ax (A7 K hr.u200) (qv 6) Aj (As _)) (Dn (Ax (A7 K hr.u200) (qv 6) Aj (As _))))) (Af (Au 7 sc_law_any (Am K (qv 1) (Ah Bm (qv 4) (A6 (Ca K) (by rfl) T.len (by decide +kernel) (Aa (qv 1) Ab)))))) Ay)
   (Ae (Av (Ax (A7 K hr.u200) (qv 6) Aj (As _)) (Af (Au 7 sc_law_any (Ag (Aa (Am K (qv 1) (Ah Bm (qv 4) (A6 (Ca K) (by rfl) T.len (by decide +kernel) (Aa (qv 1) Ab)))) (Aa (Am K (qv 1) (Ah Bm (Ah C4 (qv 4) (A6 (Ca K) (by rfl) T.len (by decide +kernel) (Aa (qv 1) Ab))) (A6 (Ca K) (by rfl) T.len (by decide +kernel) (Aa (qv 1) Ab)))) Ab))))) Ay)
   (Ae (Au 8 sc_law_any (Am K (Bg (Kl (xs:=[.int 0,.int 2,.int 2,.int 2,.int 2,.int 3,.int 1,.int 1,.int 2]) rfl)) (A6 (Zqz rfl) (by rfl) T.max (by decide +kernel) (Aa Ac (Aa (Ah Ds (Db K Py PySem.F.slot_list_index PySem.F.type_list_index (Zm3 K) (qv 5) (Aa (qv 6) Ab)) Ac) Ab)))))
   (Ae (Au 9 sc_law_any (Bg Ab))
   (Ae (Fp Q2 rfl (Kk rfl T.range (Aa (qv 8) Ab)) (Bu (i:=10) sc_law_any.nd rfl (Or.inl rfl)) (Af (Cc (Db K Py Qc Qd Dg (qv 9) (Aa (Ba C__law_any (hr.mono (by omega)) (Aa (qv 0) (Aa (qv 1) (Aa (Ah Ds (qv 2) Ac) Ab)))) Ab)))))
   (Af (Ap (Ag (Aa (qv 6) (Aa (qv 7) (Aa (Fl (Zli K) (by rfl) T.tuple (by decide +kernel) (Aa (qv 9) Ab)) Ab))))))))))))))))))))),?_⟩
  have bg:=big
  have nm:∀ i:Int,0<=i->i < 5->∃ x:Str,Ck (ts.map V.str) i=some (.str x)/\x∈ts.take 5:=fun i h0 h1=>Zaj (by omega) h0 h1
  have ln5:((ts.map V.str).length:Int)=5:=by rw [Ph,lt];rfl
  walk_at "r1"
  walk_at "r1"
  walk_at "r1"
  refine s_gname ?_
  with_reducible refine s_seq ?_
  refine De (t:=Cw _ _ _) (R:=fun σ' H'=>∃(z:Int)(cs1:List Int),σ'=[some (.ref a),some (.ref pn),some (.int (dp:Nat)),some (.int z),none,none,none,none,none,none,none]/\SameR a H H'/\H' a=some (.lst (cs1.map V.int))/\((cs1.length+1=cs.length)\/(cs1.length=cs.length/\z=0))) ?_ ?_
  rotate_left
  ·intro Y hY
   walk_at "r"
   refine Cm (SqL.of ea) ?_
   walk_at "r"
   refine Bb (fun h=>?_) (fun _=>?_)
   ·have h:(0:Int) < ((cs.map V.int).length:Nat):=of_decide_eq_true h
    rcases List.eq_nil_or_concat cs with e | ⟨cs',z,e⟩
    ·rw [e] at h;exact absurd h (by decide)
    ·rw [List.concat_eq_append] at e
     subst e
     rw [Pz] at ea
     walk_at "r"
     refine Cj (SqL.of ea) ?_
     refine Ik ea ?_
     exact hY _ _ ⟨z,cs',rfl,fun b o nb hb=>by rw [Ai nb];exact hb,Ad,.inl (by simp)⟩
   ·exact hY _ _ ⟨0,cs,rfl,fun b o _ hb=>hb,ea,.inr ⟨rfl,rfl⟩⟩
  rintro _ H1 ⟨z,cs1,rfl,r1,e1,hcs⟩
  have hpn1:=r1 _ _ npa hpn
  walk_at "r"
  refine ⟨sz13,fun ps hps=>?_⟩
  have s2:=Same.upd (o:=.lst WV) hps
  have e2:upd H1 ps (.lst WV) ps=some (.lst WV):=Ad
  have npsa:ps≠a:=fun x=>by rw [x,e1] at hps;cases hps
  have hps0:H ps=none:=r1.free npsa hps
  have r2:=r1.trans (s2.r a)
  have ea2:=s2 _ _ e1
  have hpn2:=s2 _ _ hpn1
  revert s2 e2 r2 ea2 hpn2
  unfold WV
  generalize upd H1 ps _=H2
  intro s2 e2 r2 ea2 hpn2
  have e2:H2 ps=some (.lst (W13.map V.str)):=e2
  obtain ⟨j0,wd0,hj0,hw0,ha0,hz0⟩:=Zk1 (z:=z)
  walk_at "r"
  refine A8 (SqL.of e2) ha0 ?_
  refine s_gname ?_
  with_reducible refine s_seq ?_
  refine De (t:=Cw _ _ _) (R:=fun σ' H'=>∃(j:Nat)(wd:Str),σ'=[some (.ref a),some (.ref pn),some (.int (dp:Nat)),some (.int z),some (.int (z / 13)),some (.ref ps),some (.str wd),none,none,none,none]/\H2=H'/\j < 13/\W13[j]?=some wd/\(z=0->j=0)/\(dp=0->j < 5)) ?_ ?_
  rotate_left
  ·intro Y hY
   walk_at "r"
   refine Bb (fun h=>?_) (fun h=>?_)
   ·obtain ⟨j,wd,h1,h2,h3,h4⟩:=Zoj (z:=z)
    walk_at "r"
    refine A8 (SqL.of e2) h3 ?_
    exact hY _ _ ⟨j,wd,rfl,rfl,by omega,h2,h4,fun _=>h1⟩
   ·exact hY _ _ ⟨j0,wd0,rfl,rfl,hj0,hw0,hz0,fun e=>absurd (decide_eq_true (show V.int ((dp:Nat):Int)=.int 0 by rw [e];rfl)) h⟩
  rintro _ _ ⟨j,wd,rfl,rfl,hj,hw,hzj,hdj⟩
  clear hw0 ha0 hz0 hj0
  have leaf:∀(nv:V)(H3:Hp),Same H2 H3->Cy nv=true->WN ts wd (.flat nv) 0->∀ a0,H3 a0=none->∀ a1,upd H3 a0 (.tup []) a1=none->Q (.ref a1) (upd (upd H3 a0 (.tup [])) a1 (.tup [.str wd,nv,.ref a0])):=fun nv H3 s3 hf hwo a0 h0 a1 h1=>by
   have x0:=Same.upd (o:=.tup []) h0
   have x1:=Same.upd (o:=.tup [.str wd,nv,.ref a0]) h1
   have x:=s3.trans (x0.trans x1)
   exact q _ _ _ cs1 (r2.trans (x.r a)) (x _ _ ea2) (by omega) (Za8 Ad (x1 _ _ Ad) hf) (Zah hwo) (by rw [show (Tr.mk wd (.flat nv) []).size=1 by simp [Tr.size,Bx]];omega)
  have ten:(10:Int) ^ Int.toNat 18=1000000000000000000:=by decide
  walk_at "r"
  rw [Bv]
  refine Bb (fun h=>?_) (fun hn1=>?_)
  ·have h:=of_decide_eq_true h
   walk_at "r"
   rw [ten]
   generalize z / 13 % 1000000000000000000=i
   refine ⟨Bk,fun a0 h0=>?_⟩
   walk_at "r"
   refine ⟨Bf,fun a1 h1=>?_⟩
   exact leaf (.int i) H2 (Same.refl _) rfl (by rw [h];exact Zdq) a0 h0 a1 h1
  walk_at "r"
  rw [Bv]
  refine Bb (fun h=>?_) (fun hn2=>?_)
  ·have h:=of_decide_eq_true h
   walk_at "r"
   refine ⟨Bk,fun a0 h0=>?_⟩
   walk_at "r"
   refine ⟨Bf,fun a1 h1=>?_⟩
   exact leaf (.bl _) H2 (Same.refl _) rfl (by rw [h];exact Zfa) a0 h0 a1 h1
  walk_at "r"
  rw [Bv]
  refine Bb (fun h=>?_) (fun hn3=>?_)
  ·have h:=of_decide_eq_true h
   walk_at "r"
   refine Cm (SqL.of hpn2) ?_
   rw [ln5]
   refine s_rI (by decide) ?_
   obtain ⟨x,hx,ix⟩:=nm (z / 13 % 5) (P3 _ (by decide)) (Qk _ (by decide))
   refine A8 (SqL.of hpn2) hx ?_
   walk_at "r"
   refine ⟨Bk,fun a0 h0=>?_⟩
   walk_at "r"
   refine ⟨Bf,fun a1 h1=>?_⟩
   exact leaf (.str x) H2 (Same.refl _) rfl (by rw [h];exact Mj ix) a0 h0 a1 h1
  walk_at "r"
  rw [Bv]
  refine Bb (fun h=>?_) (fun hn4=>?_)
  ·have h:=of_decide_eq_true h
   walk_at "r"
   rw [ten]
   have o0:0<=z / 13 % 1000000000000000000:=P3 _ (by decide)
   have o1:z / 13 % 1000000000000000000 < 10 ^ 18:=Int.lt_of_lt_of_le (Qk _ (by decide)) (by decide)
   revert o0 o1
   generalize z / 13 % 1000000000000000000=i
   intro o0 o1
   refine Zcl (Zb7 o0 o1) ?_
   have h3:(Qj "=").length=1:=by decide +kernel
   refine Ms (by rw [h3];have:=Ze4 o0 o1;omega) ?_
   walk_at "r"
   refine ⟨Bk,fun a0 h0=>?_⟩
   walk_at "r"
   refine ⟨Bf,fun a1 h1=>?_⟩
   exact leaf (.str _) H2 (Same.refl _) rfl (by rw [h];exact Zgc) a0 h0 a1 h1
  have h4:wd ≠ "num" /\ wd ≠ "truth" /\ wd ≠ "name" /\ wd ≠ "odd" := ⟨fun x=>hn1 (decide_eq_true x),fun x=>hn2 (decide_eq_true x),fun x=>hn3 (decide_eq_true x),fun x=>hn4 (decide_eq_true x)⟩
  clear hn1 hn2 hn3 hn4 leaf
  obtain ⟨k,hk,hpk,k3,hk5⟩:=Zin hj hw h4
  walk_at "r1"
  walk_at "r1"
  walk_at "r1"
  walk_at "r1"
  refine s_gname ?_
  obtain ⟨x0,hx0,_⟩:=nm (z / 13 % 5) (P3 _ (by decide)) (Qk _ (by decide))
  obtain ⟨x1,hx1,_⟩:=nm (z / 13 / 5 % 5) (P3 _ (by decide)) (Qk _ (by decide))
  with_reducible refine s_seq ?_
  refine De (t:=Cw _ _ _) (R:=fun σ' H'=>∃ nv:V,σ'=[some (.ref a),some (.ref pn),some (.int (dp:Nat)),some (.int z),some (.int (z / 13)),some (.ref ps),some (.str wd),some nv,none,none,none]/\H2=H'/\((wd = "fn" \/ wd = "let")->nv=.str x0)/\(¬ (wd = "fn" \/ wd = "let")->nv=.non)) ?_ ?_
  rotate_left
  ·intro Y hY
   walk_at "r"
   rw [Bv]
   refine Bb (fun h=>?_) (fun h1=>?_)
   ·walk_at "r"
    refine Cm (SqL.of hpn2) ?_
    rw [ln5]
    refine s_rI (by decide) ?_
    refine A8 (SqL.of hpn2) hx0 ?_
    exact hY _ _ ⟨_,rfl,rfl,fun _=>rfl,fun x=>absurd (.inl (of_decide_eq_true h)) x⟩
   walk_at "r"
   rw [Bv]
   refine Bb (fun h=>?_) (fun h2=>?_)
   ·walk_at "r"
    refine Cm (SqL.of hpn2) ?_
    rw [ln5]
    refine s_rI (by decide) ?_
    refine A8 (SqL.of hpn2) hx0 ?_
    exact hY _ _ ⟨_,rfl,rfl,fun _=>rfl,fun x=>absurd (.inr (of_decide_eq_true h)) x⟩
   ·exact hY _ _ ⟨_,rfl,rfl,fun x=>x.elim (fun x=>absurd (decide_eq_true x) h1) (fun x=>absurd (decide_eq_true x) h2),fun _=>rfl⟩
  rintro _ _ ⟨nv,rfl,rfl,hn1,hn2⟩
  with_reducible refine s_seq ?_
  refine De (t:=Cw _ _ _) (R:=fun σ' H'=>∃(nv:V)(d:Dt),σ'=[some (.ref a),some (.ref pn),some (.int (dp:Nat)),some (.int z),some (.int (z / 13)),some (.ref ps),some (.str wd),some nv,none,none,none]/\Same H2 H'/\IsN K H' nv d/\WOk wd d k) ?_ ?_
  rotate_left
  ·intro Y hY
   walk_at "r"
   rw [Bv]
   refine Bb (fun h=>?_) (fun h1=>?_)
   ·have h:=of_decide_eq_true h
    walk_at "r"
    refine Cm (SqL.of hpn2) ?_
    rw [ln5]
    refine s_rI (by decide) ?_
    refine A8 (SqL.of hpn2) hx0 ?_
    walk_at "r"
    refine Cm (SqL.of hpn2) ?_
    rw [ln5]
    refine s_rI ⟨by decide,by decide⟩ ?_
    walk_at "r"
    refine Cm (SqL.of hpn2) ?_
    rw [ln5]
    refine s_rI (by decide) ?_
    refine A8 (SqL.of hpn2) hx1 ?_
    walk_at "r"
    refine ⟨Bh,fun a3 h3=>?_⟩
    have s3:=Same.upd (o:=.tup [.str x0,.str x1]) h3
    refine hY _ _ ⟨_,.tup [.flat (.str x0),.flat (.str x1)],rfl,s3,.inr ⟨a3,[.str x0,.str x1],rfl,SqT.of Ad,rfl,rfl⟩,?_⟩
    have hk1:k=1:=by rw [h,show F7 "rec" = some 1 by decide +kernel] at hpk;exact (P5 hpk).symm
    rw [h,hk1]
    exact Zbr
   ·refine hY _ _ ⟨nv,.flat nv,rfl,Same.refl _,?_,Gg hpk ⟨h4.1,h4.2.1,h4.2.2.1⟩ ?_⟩
    ·by_cases e:wd = "fn" \/ wd = "let"
     ·rw [hn1 e];exact .inl ⟨rfl,rfl⟩
     ·rw [hn2 e];exact .inl ⟨rfl,rfl⟩
    ·exact ⟨fun e=>⟨x0,by rw [hn1 e]⟩,fun e=>absurd (decide_eq_true e) h1⟩
  clear hn1 hn2 nv
  rintro _ H3 ⟨nv,d,rfl,s3,hnv,hwo⟩
  have e3:=s3 _ _ e2
  have ea3:=s3 _ _ ea2
  have hpn3:=s3 _ _ hpn2
  walk_at "r"
  refine ⟨sz9,fun a4 h4'=>?_⟩
  have s4:=Same.upd (o:=.lst N9) h4'
  have e4:upd H3 a4 (.lst N9) a4=some (.lst N9):=Ad
  have e34:=s4 _ _ e3
  revert s4 e4 e34
  unfold N9
  generalize upd H3 a4 _=H4
  intro s4 e4 e34
  walk_at "r"
  refine Cj (SqL.of e34) ?_
  walk_at "r"
  refine ⟨ps,wd,W13,j,rfl,rfl,SqL.of e34,hw,Znp j wd hj hw,by decide,?_⟩
  walk_at "r"
  refine ⟨_,_,rfl,?_⟩
  refine A8 (SqL.of e4) hk ?_
  have s24:=s3.trans s4
  have ea4:=s4 _ _ ea3
  have hpn4:=s4 _ _ hpn3
  have hnv4:=hnv.same s4.t
  walk_at "r"
  refine ⟨Bk,fun pp hpp=>?_⟩
  have s5:=Same.upd (o:=.lst []) hpp
  have e5:upd H4 pp (.lst []) pp=some (.lst []):=Ad
  have nppa:pp≠a:=fun x=>by rw [x,ea4] at hpp;cases hpp
  have r4:=r2.trans (s24.r a)
  have hpp0:H pp=none:=r4.free nppa hpp
  have r5:=r4.trans (s5.r a)
  have ea5:=s5 _ _ ea4
  have hpn5:=s5 _ _ hpn4
  have hnv5:=hnv4.same s5.t
  have npn:pn≠pp:=fun x=>by rw [<- x,hpn4] at hpp;cases hpp
  revert s5 e5 r5 ea5 hpn5 hnv5
  generalize upd H4 pp (.lst [])=H5
  intro s5 e5 r5 ea5 hpn5 hnv5
  walk_at "r"
  refine ⟨by omega,by omega,?_⟩
  refine Jc (n:=((k:Nat):Int).toNat) (fun i σ' H'=>∃(vk:Option V)(pv:List V)(pt:List Tr)(cs2:List Int),σ'=[some (.ref a),some (.ref pn),some (.int (dp:Nat)),some (.int z),some (.int (z / 13)),some (.ref ps),some (.str wd),some nv,some (.int (k:Nat)),some (.ref pp),vk]/\H' pp=some (.lst pv)/\Al (TrAt K H') pv pt/\(∀ t∈pt,TfN ts t)/\pt.length=i/\H' a=some (.lst (cs2.map V.int))/\cs2.length<=cs1.length/\Bx pt+3 * cs2.length<=i+3 * cs1.length/\SameR a H H'/\SameT H5 H'/\H' pn=some (.lst (ts.map V.str)))
   ⟨_,[],[],cs1,rfl,e5,.nil,(fun t h=>nomatch h),rfl,ea5,O9 _,by rw [Bx];omega,r5,(Same.refl H5).t,hpn5⟩ ?_ ?_
  ·rintro i σ' H6 hi ⟨vk,pv,pt,cs2,rfl,e6,al6,ok6,l6,ea6,lc6,z6,r6,t6,hpn6⟩
   have hk0:0 < k:=by omega
   have hdp1:1<=dp:=by
    by_cases e:dp=0
    ·have:=hk5 (hdj e);omega
    ·omega
   obtain ⟨dq,rfl⟩:∃ dq,dp=dq+1:=⟨dp - 1,by omega⟩
   walk_at "r"
   refine Cj (SqL.of e6) ?_
   walk_at "r"
   refine ⟨a,pn,ts,cs2,dq,by rw [show (((dq+1:Nat):Int) - 1)=((dq:Nat):Int) by omega];rfl,by omega,ea6,by omega,hpn6,npa,lt,fun v t H7 cs3 r7 ea7 lc7 ht tft sz=>?_⟩
   have e7:=r7 _ _ nppa e6
   walk_at "r"
   refine Dh e7 (by have:=al6.1;omega) ?_
   have t7:=r7.t ea6
   have tp:=SameT.set (o:=.lst (pv++[v])) e7
   have t8:=t7.trans tp
   refine ⟨_,pv++[v],pt++[t],cs3,rfl,Ad,(al6.mono fun _ _ h=>h.sameT t8).snoc (ht.sameT tp),fun x hx=>?_,by rw [Pg,Pl];omega,by rw [Ai nppa.symm];exact ea7,by omega,by rw [Zgx,Bx,Bx];omega,(r6.trans r7).over hpp0,t6.trans t8,by rw [Ai npn];exact r7 _ _ npa hpn6⟩
   rcases Ra.mp hx with hx | hx
   ·exact ok6 x hx
   ·rw [P4.mp hx];exact tft
  ·rintro σ' H6 ⟨vk,pv,pt,cs2,rfl,e6,al6,ok6,l6,ea6,lc6,z6,r6,t6,hpn6⟩
   walk_at "r"
   refine Zkq (SqL.of e6) fun p7 h7=>?_
   have s7:=Same.upd (o:=.tup pv) h7
   walk_at "r"
   refine ⟨Bf,fun p8 h8=>?_⟩
   have s8:=Same.upd (o:=.tup [.str wd,nv,.ref p7]) h8
   have s78:=s7.trans s8
   have l6':pt.length=k:=by omega
   refine q (.ref p8) (.mk wd d pt) _ cs2 (r6.trans (s78.r a)) (s78 _ _ ea6) (by omega) (Oo Ad ((hnv5.same t6).same s78.t) (s8 _ _ Ad) (al6.mono fun _ _ h=>h.same s78)) (.mk (by rw [l6'];exact .of hwo h4.2.2.1) ok6) ?_
   rw [Tr.size]
   rcases hcs with hc | ⟨hc,hz⟩
   ·omega
   ·have:=hk5 (by rw [hzj hz];decide)
    omega
noncomputable def Zar (K:O6):Sp:=fun vs H Q _=>∃(tv:V)(t:Tr),vs=[tv]/\TrAt K H tv t/\Tf t/\t.size<=2000 /\
 (∀ o,ev (Be t) 500 501 [] [] [] 0=some o->∀(r rd:Addr)(av:V)(rv:List V)(H':Hp),Same H H'->SqT K H' r [av,.ref rd,.int o.2.2]->ThAt K H' av o.1->H' rd=some (.lst rv)->Al (RwAt K (fun b=>b=rd\/H b≠none) H') rv o.2.1->H rd=none->Q (.ref r) H')/\(ev (Be t) 500 501 [] [] [] 0=none->∀ H',Same H H'->Q .non H')
theorem sc_law_run:Bl ["_law_tree_here", "_law_found"] ["_law_tree_here"] (A9 Kg):=by walk_at "sc"
theorem Zjw {TL:Addr}{f:Addr}{fd:FuncData}(F:Fun K "_law_run" "_law_run" Kg f fd)(T:Txt K mg)(C_run:Ma P w K mg base 7 "run" ["tree"] (Zfg K TL))(X_TooLong:Lu K TL)(G_TooLong:mg "TooLong" = some (.ref TL))(O:Sg K (.ref TL) (.ref TL)=some true):Az P w K mg base Aw 8 f fd ["_law_tree_here"] (Zar K):=by
 refine F.okq sc_law_run (fun vs H Q E h=>?_) (fun cdv A outer s H vs Q E hr h=>?_)
 ·obtain ⟨tv,t,rfl,_⟩:=h
  rfl
 ·obtain ⟨tv,t,rfl,ht,tft,hz,q,q2⟩:=h
  obtain ⟨m,R⟩:=Zrk tft hz
  refine ⟨_,Ae (Au 1 sc_law_run Ek)
   (Ae (Zm8 X_TooLong G_TooLong rfl rfl (Zjk (i:=1) sc_law_run.nd rfl (Or.inl rfl) (Zif C_run hr.m (fun _=>Aa (qv 0) Ab))) (fun _ _=>Af (Au 1 sc_law_run Ek)))
   (Af (Ap (qv 1)))),?_⟩
  walk_at "r"
  refine ⟨tv,rfl,?_⟩
  dsimp only [Jv]
  refine ⟨tv,t,m,_,rfl,ht,hz,R,fun S' hS=>?_,fun hn H' s'=>?_⟩
  ·obtain ⟨o,ho,rfl⟩:=Q7.mp hS
   refine ⟨o.1,rfl,fun r rd av rv H' s1 qr ha er al _ hn=>?_⟩
   walk_at "r"
   exact q o ho r rd av rv H' s1 qr ha er al hn
  ·refine ⟨⟨TL,rfl,O⟩,fun a1 ha1=>?_⟩
   walk_at "r"
   exact q2 (Option.map_eq_none_iff.mp hn) _ (s'.trans (Same.upd ha1))
end
noncomputable def Bd (k:Nat)(x:Str×V):Str×V:=if x.1 = "row" then (match x.2 with
 | .int i=>(("row" : Str),.int (i+(k:Nat)))
 | _=>x) else x
noncomputable def Ed (k:Nat)(y:Str×Str×V):Str×Str×V:=(y.1,Bd k y.2)
noncomputable def Bj (q:List Nat)(k:Nat)(P:Ar)(r:Rx):Rx:=⟨r.wd,An q++r.pl,r.ops.map (Bd k),(if r.wd∈WA then P else [])++r.ar.map (Ed k)⟩
theorem Fw {k:Nat}{x:Str×V}(h:x.1 ≠ "row"):Bd k x=x:=by unfold Bd;rw [if_neg h]
theorem Gk (k i:Nat):Bd k (("row" : Str),V.int (i:Nat))=(("row" : Str),V.int ((i+k:Nat):Int)):=by
 unfold Bd
 rw [if_pos rfl]
 simp
theorem Zbl {k:Nat}(x:Str×V):(Bd k x).1=x.1:=by
 unfold Bd
 split
 ·rename_i h
  split
  ·exact h.symm
  ·rfl
 ·rfl
theorem Zn1 {wd:Str}{i j:Int}:(Es wd i j).1 ≠ "row" := by
 unfold Es
 split
 ·show ("num" : Str) ≠ "row";decide +kernel
 split
 ·show ("num" : Str) ≠ "row";decide +kernel
 ·show ("truth" : Str) ≠ "row";decide +kernel
theorem Zhm {k:Nat}{ar:Ar}{z:Str}:Ce (ar.map (Ed k)) z=(Ce ar z).map (Bd k):=by
 unfold Ce
 rw [<- S8,List.find?_map,Option.map_map,Option.map_map]
 rfl
theorem Zhv {l m:Ar}{z:Str}:Ce (l++m) z=(Ce m z).or (Ce l z):=by
 unfold Ce
 rw [Rs,Vw]
 cases m.reverse.find? (fun x=>decide (x.1=z)) <;> simp
theorem Zna {P:Ar}{z:Str}(h:∀ y∈P,y.1≠z):Ce P z=none:=by
 unfold Ce
 rw [List.find?_eq_none.mpr]
 ·rfl
 ·intro x hx
  rw [decide_eq_true_iff]
  exact h x (Up.mp hx)
theorem Nh {k:Nat}:∀(ns:List Str)(xs:List (Str×V)),B6 ns (xs.map (Bd k))=(B6 ns xs).map (Ed k)
 | [],xs=>by unfold B6;simp
 | _::_,[]=>by unfold B6;simp
 | a::ns,x::xs=>by
  have:=Nh (k:=k) ns xs
  unfold B6 at this ⊢
  rw [Qb,List.zip_cons_cons,List.zip_cons_cons,Qb,this]
  rfl
theorem Zhz {R rs:List Rx}{q:List Nat}{P:Ar}{x:Str×V}(h:TOk rs.length x):Bq (R++rs.map (Bj q R.length P)) (Bd R.length x)=Bq rs x:=by
 by_cases hr:x.1 = "row"
 ·rcases h with ⟨h,_⟩ | ⟨h,_⟩ | ⟨_,i,e,hi⟩
  ·rw [hr] at h;exact absurd h (by decide +kernel)
  ·rw [hr] at h;exact absurd h (by decide +kernel)
  ·have ex:x=(("row" : Str),V.int (i:Nat)):=by rw [<- hr,<- e]
   rw [ex,Gk]
   unfold Bq
   simp only [Qm]
   rw [P6 (by omega),Nat.add_sub_cancel,Ql,Pa hi]
   rfl
 ·rw [Fw hr]
  have no:∀ l,Bq l x=false:=fun l=>by
   obtain ⟨w,v⟩:=x
   unfold Bq
   cases v with
   | int k=>simp only;rw [decide_eq_false hr];rfl
   | _=>rfl
  rw [no,no]
theorem Zmh {wd:Str}{pl q:List Nat}{R rs:List Rx}{P:Ar}{x y:Str×V}(hw:wd∈Cg)(hx:TOk rs.length x)(hy:TOk rs.length y):C2 wd (q++pl) (R++rs.map (Bj q R.length P)) (Bd R.length x) (Bd R.length y)=(Bd R.length (C2 wd pl rs x y).1,R++(C2 wd pl rs x y).2.map (Bj q R.length P)):=by
 unfold C2
 rw [Zbl,Zbl]
 by_cases h:wd∈Gc/\x.1 = "num" /\ y.1 = "num"
 ·rw [if_pos h,if_pos h]
  have e1:Bd R.length x=x:=Fw (by rw [h.2.1];decide +kernel)
  have e2:Bd R.length y=y:=Fw (by rw [h.2.2];decide +kernel)
  rw [e1,e2]
  have:Bd R.length (Es wd (Fy x.2) (Fy y.2))=Es wd (Fy x.2) (Fy y.2):=Fw Zn1
  rw [this]
 ·rw [if_neg h,if_neg h]
  have hwa:¬ wd∈WA:=by
   unfold Cg at hw
   simp only [Pd,Pj,or_false] at hw
   rcases hw with rfl | rfl | rfl | rfl <;> decide +kernel
  rw [Pz,<- P0]
  refine Prod.ext ?_ ?_
  ·show (("row" : Str),V.int (((R++rs.map (Bj q R.length P)).length:Nat):Int))=Bd R.length (("row" : Str),V.int (rs.length:Nat))
   rw [Gk,Pg,Ph,U8]
  ·show R++rs.map (Bj q R.length P)++[_]=R++rs.map (Bj q R.length P)++[_]
   congr 1
   show [Rx.mk wd (An (q++pl)) [Bd R.length x,Bd R.length y] []]=[Bj q R.length P (Rx.mk wd (An pl) [x,y] [])]
   unfold Bj
   simp only [if_neg hwa,Ro,Qe,Qb]
   unfold An
   rw [Pz]
theorem Zfq (a b:List Nat):An (a++b)=An a++An b:=by unfold An;rw [Pz]
theorem Zd9 (a:List Nat)(b:List Int):C6 (An a++b)=a++C6 b:=by
 have:=M8 a
 unfold C6 at this ⊢
 rw [Pz,this]
theorem Zip {sub:List Nat->Option (Str×Dt)}(S:SubOk sub){wd:Str}{d:Dt}{pl q:List Nat}{ar P:Ar}{R rs:List Rx}(hs:sub pl=some (wd,d))(hP:wd = "name" -> ∀ z,d=.flat (.str z)->∀ y∈P,y.1≠z):Bz wd d (q++pl) (P++ar.map (Ed R.length)) (R++rs.map (Bj q R.length P))=(Bd R.length (Bz wd d pl ar rs).1,R++(Bz wd d pl ar rs).2.map (Bj q R.length P)):=by
 obtain ⟨n1,n2,n3,_⟩:=S.nt hs
 unfold Bz Cd
 by_cases h1:wd∈(["num", "truth"]:List Str)
 ·rw [if_pos h1,if_pos h1]
  have:(wd,C1 d).1 ≠ "row" := fun e=>by
   have e:wd = "row" := e
   rw [e] at h1
   revert h1
   decide +kernel
  rw [Fw this]
 rw [if_neg h1,if_neg h1]
 have row:(((("row" : Str),V.int (((R++rs.map (Bj q R.length P)).length:Nat):Int)):Str×V),R++rs.map (Bj q R.length P)++[(⟨wd,An (q++pl),[],if wd∈WA then P++ar.map (Ed R.length) else []⟩:Rx)])=(Bd R.length (("row" : Str),V.int (rs.length:Nat)),R++(rs++[(⟨wd,An pl,[],if wd∈WA then ar else []⟩:Rx)]).map (Bj q R.length P)):=by
  rw [Pz,<- P0]
  refine Prod.ext ?_ ?_
  ·show (("row" : Str),V.int (((R++rs.map (Bj q R.length P)).length:Nat):Int))=_
   rw [Gk,Pg,Ph,U8]
  ·show R++rs.map (Bj q R.length P)++[_]=R++rs.map (Bj q R.length P)++[_]
   congr 1
   show [_]=[Bj q R.length P (Rx.mk wd (An pl) [] (if wd∈WA then ar else []))]
   unfold Bj
   rw [Zfq]
   by_cases hw:wd∈WA
   ·simp only [if_pos hw,Ro]
   ·simp only [if_neg hw,Ro,Qe]
 by_cases hn:wd = "name"
 ·obtain ⟨z,rfl⟩:=n3 hn
  simp only [C1,if_pos hn]
  rw [Zhv,Zhm,Zna (hP hn z rfl),Option.or_none]
  cases Ce ar z with
  | some y=>rfl
  | none=>exact row
 ·cases hd:C1 d with
  | str z=>simp only [if_neg hn];exact row
  | _=>exact row
theorem Zck {sub sub':List Nat->Option (Str×Dt)}{q:List Nat}{P:Ar}{R:List Rx}{c B:Int}(S:SubOk sub)(hsub:∀ pl,sub' (q++pl)=sub pl)(hP:∀(pl:List Nat)(z:Str),sub pl=some (("name" : Str),Dt.flat (.str z))->∀ y∈P,y.1≠z):∀(n:Nat)(pl:List Nat)(ar:Ar)(rs:List Rx)(st:Int),EOk sub ar rs st ->
  ev sub' (c+B) n (q++pl) (P++ar.map (Ed R.length)) (R++rs.map (Bj q R.length P)) (c+st)=(ev sub B n pl ar rs st).map fun o=>(Bd R.length o.1,R++o.2.1.map (Bj q R.length P),c+o.2.2)
 | 0,_,_,_,_,_=>by rw [ev,ev];rfl
 | n+1,pl,ar,rs,st,E=>by
  have ih:=Zck (R:=R) (c:=c) (B:=B) S hsub hP n
  rw [ev,ev,hsub]
  cases hs:sub pl with
  | none=>rfl
  | some f =>
  obtain ⟨wd,d⟩:=f
  simp only [Pb]
  by_cases h1:B < st+Bc wd
  ·rw [if_pos h1,if_pos (by omega)];rfl
  rw [if_neg h1,if_neg (by omega)]
  by_cases h2:wd∈Cg
  ·rw [if_pos h2,if_pos h2,P0,U1,ih _ _ _ _ E.up]
   cases ha:ev sub B n (pl++[0]) ar rs (st+1) with
   | none=>rfl
   | some a =>
   have ta:=B8 S n _ _ _ _ _ E.up ha
   simp only [Qw,Pb]
   rw [P0,ih _ _ _ _ (E.up.on ta)]
   cases hb:ev sub B n (pl++[1]) ar a.2.1 a.2.2 with
   | none=>rfl
   | some b =>
   have tb:=B8 S n _ _ _ _ _ (E.up.on ta) hb
   have Eb:=(E.up.on ta).on tb
   simp only [Qw,Pb]
   rw [Zhz (ta.t.up tb.l)]
   by_cases h4:wd = "call" /\ Bq b.2.1 a.1=true
   ·rw [if_pos h4,if_pos h4]
    obtain ⟨k,r,ex,hr,hf⟩:=Hy h4.2 (ta.t.up tb.l)
    obtain ⟨d',hs',_,hc⟩:=Ix (y:=b.1) hr hf tb.r
    rw [ex,hc,Pb,<- ih _ _ _ _ (Ig Eb hr hf tb.t),Gk]
    have hwa:r.wd∈WA:=by
     simp only [Pd,Pj,or_false] at hf
     rcases hf with h | h <;> rw [h] <;> decide +kernel
    have hc':E3 sub' (R++b.2.1.map (Bj q R.length P)) (("row" : Str),V.int ((k+R.length:Nat):Int)) (Bd R.length b.1)=some (q++(C6 r.pl++[0]),P++(r.ar++B6 (Ct r.wd d' 0) (if r.wd = "rec" then [(("row" : Str),V.int (k:Nat)),b.1] else [b.1])).map (Ed R.length)):=by
     show ((R++b.2.1.map (Bj q R.length P))[((k+R.length:Nat):Int).toNat]?).bind _=_
     rw [Qm,P6 (by omega),Nat.add_sub_cancel,Ql,hr,Qw,Pb]
     show (sub' (C6 (An q++r.pl))).map _=_
     rw [Zd9,hsub,hs',Qw]
     show some (C6 (An q++r.pl)++[0],((if r.wd∈WA then P else [])++r.ar.map (Ed R.length))++B6 (Ct r.wd d' 0) (if r.wd = "rec" then [(("row" : Str),V.int ((k+R.length:Nat):Int)),Bd R.length b.1] else [Bd R.length b.1]))=_
     rw [Zd9,if_pos hwa,Pz,<- Nh,P0,P0]
     have:(if r.wd = "rec" then [(("row" : Str),V.int ((k+R.length:Nat):Int)),Bd R.length b.1] else [Bd R.length b.1])=(if r.wd = "rec" then [(("row" : Str),V.int (k:Nat)),b.1] else [b.1]).map (Bd R.length):=by
      split
      ·rw [Qb,Gk];rfl
      ·rfl
     rw [this]
    rw [hc',Pb]
   ·rw [if_neg h4,if_neg h4,Zmh h2 (ta.t.up tb.l) tb.t]
    rfl
  rw [if_neg h2,if_neg h2]
  by_cases h3:wd = "let"
  ·rw [if_pos h3,if_pos h3,P0,U1,ih _ _ _ _ E.up]
   cases ha:ev sub B n (pl++[0]) ar rs (st+1) with
   | none=>rfl
   | some a =>
   have ta:=B8 S n _ _ _ _ _ E.up ha
   simp only [Qw,Pb]
   rw [P0,P0,show B6 (Ct wd d 1) [Bd R.length a.1]=(B6 (Ct wd d 1) [a.1]).map (Ed R.length) from Nh _ [a.1],<- Pz]
   exact ih _ _ _ _ ((E.up.on ta).put ta.t (by have:=E.l;have:=ta.s;omega) _)
  rw [if_neg h3,if_neg h3]
  by_cases h4:wd = "if"
  ·rw [if_pos h4,if_pos h4,P0,U1,ih _ _ _ _ E.up]
   cases ha:ev sub B n (pl++[0]) ar rs (st+1) with
   | none=>rfl
   | some a =>
   have ta:=B8 S n _ _ _ _ _ E.up ha
   simp only [Qw,Pb]
   rw [Zbl]
   by_cases h6:a.1.1 = "truth"
   ·rw [if_pos h6,if_pos h6,P0,Fw (by rw [h6];decide +kernel)]
    exact ih _ _ _ _ (E.up.on ta)
   ·rw [if_neg h6,if_neg h6]
    have hwa:wd∈WA:=by rw [h4];decide +kernel
    show some _=some _
    congr 1
    refine Prod.ext ?_ (Prod.ext ?_ rfl)
    ·show (("row" : Str),V.int (((R++a.2.1.map (Bj q R.length P)).length:Nat):Int))=Bd R.length (("row" : Str),V.int (a.2.1.length:Nat))
     rw [Gk,Pg,Ph,U8]
    ·show R++a.2.1.map (Bj q R.length P)++[Rx.mk wd (An (q++pl)) [Bd R.length a.1] (P++ar.map (Ed R.length))]=R++(a.2.1++[Rx.mk wd (An pl) [a.1] ar]).map (Bj q R.length P)
     rw [Pz,<- P0]
     congr 1
     show _=[Bj q R.length P (Rx.mk wd (An pl) [a.1] ar)]
     unfold Bj
     rw [Zfq]
     simp only [if_pos hwa,Qb,Ro]
  rw [if_neg h4,if_neg h4,Zip S hs (fun e z hz y hy=>hP pl z (by rw [hs,e,hz]) y hy),U1]
  rfl
theorem Zja {sub:List Nat->Option (Str×Dt)}{B B':Int}(S:SubOk sub):∀(m n:Nat)(pl:List Nat)(ar:Ar)(rs:List Rx)(st:Int)(o:Er),EOk sub ar rs st->B+1<=st+n->st<=B->ev sub B' m pl ar rs st=some o->o.2.2<=B->ev sub B n pl ar rs st=some o:=by
 intro m
 induction m with
 | zero=>intro n pl ar rs st o _ _ _ h;rw [ev] at h;cases h
 | succ m ih =>
  intro n pl ar rs st o E hn hst h hle
  obtain ⟨n,rfl⟩:∃ k,n=k+1:=⟨n - 1,by omega⟩
  cases hsb:sub pl with
  | none=>rw [ev,hsb] at h;cases h
  | some f =>
  obtain ⟨wd,d⟩:=f
  have hstp:=Zm2 S E hsb h
  rw [ev,hsb] at h ⊢
  simp only [Pb] at h ⊢
  by_cases h1:B' < st+Bc wd
  ·rw [if_pos h1] at h;cases h
  rw [if_neg h1] at h
  rw [if_neg (show ¬ B < st+Bc wd by omega)]
  have h01:0<=Bc wd:=by unfold Bc;split <;> decide
  by_cases h2:wd∈Cg
  ·rw [if_pos h2] at h ⊢
   have e1:=Fq (.inl h2)
   obtain ⟨a,ha,h⟩:=Px.mp h
   obtain ⟨b,hb,h⟩:=Px.mp h
   have ta:=B8 S m _ _ _ _ _ E.up ha
   have tb:=B8 S m _ _ _ _ _ (E.up.on ta) hb
   have u1:=ta.s;have u2:=tb.s
   by_cases h4:wd = "call" /\ Bq b.2.1 a.1=true
   ·rw [if_pos h4] at h
    obtain ⟨c,hc,h⟩:=Px.mp h
    obtain ⟨k,r,ex,hr,hf⟩:=Hy h4.2 (ta.t.up tb.l)
    obtain ⟨d',_,_,hc'⟩:=Ix (y:=b.1) hr hf tb.r
    have Ec:=Ig (d:=d') ((E.up.on ta).on tb) hr hf tb.t
    rw [ex,hc'] at hc
    cases hc
    have tc:=B8 S m _ _ _ _ _ Ec h
    have u3:=tc.s
    rw [ih n _ _ _ _ _ E.up (by omega) (by omega) ha (by omega),Pb,ih n _ _ _ _ _ (E.up.on ta) (by omega) (by omega) hb (by omega),Pb,if_pos h4,ex,hc',Pb]
    exact ih n _ _ _ _ _ Ec (by omega) (by omega) h hle
   ·rw [if_neg h4] at h
    cases h
    have hle:b.2.2<=B:=hle
    rw [ih n _ _ _ _ _ E.up (by omega) (by omega) ha (by omega),Pb,ih n _ _ _ _ _ (E.up.on ta) (by omega) (by omega) hb (by omega),Pb,if_neg h4]
  rw [if_neg h2] at h ⊢
  by_cases h3:wd = "let"
  ·rw [if_pos h3] at h ⊢
   have e1:=Fq (.inr (.inl h3))
   obtain ⟨a,ha,h⟩:=Px.mp h
   have ta:=B8 S m _ _ _ _ _ E.up ha
   have Ec:=(E.up.on ta).put ta.t (by have:=E.l;have:=ta.s;omega) (Ct wd d 1)
   have tb:=B8 S m _ _ _ _ _ Ec h
   have u1:=ta.s;have u2:=tb.s
   rw [ih n _ _ _ _ _ E.up (by omega) (by omega) ha (by omega),Pb]
   exact ih n _ _ _ _ _ Ec (by omega) (by omega) h hle
  rw [if_neg h3] at h ⊢
  by_cases h4:wd = "if"
  ·rw [if_pos h4] at h ⊢
   have e1:=Fq (.inr (.inr h4))
   obtain ⟨a,ha,h⟩:=Px.mp h
   have ta:=B8 S m _ _ _ _ _ E.up ha
   have u1:=ta.s
   by_cases h6:a.1.1 = "truth"
   ·rw [if_pos h6] at h
    have tb:=B8 S m _ _ _ _ _ (E.up.on ta) h
    have u2:=tb.s
    rw [ih n _ _ _ _ _ E.up (by omega) (by omega) ha (by omega),Pb,if_pos h6]
    exact ih n _ _ _ _ _ (E.up.on ta) (by omega) (by omega) h hle
   ·rw [if_neg h6] at h
    cases h
    have hle:a.2.2<=B:=hle
    rw [ih n _ _ _ _ _ E.up (by omega) (by omega) ha (by omega),Pb,if_neg h6]
  rw [if_neg h4] at h ⊢
  exact h
theorem Zg3 {sub:List Nat->Option (Str×Dt)}{B B':Int}(S:SubOk sub){n m:Nat}{pl:List Nat}{ar:Ar}{rs:List Rx}{st:Int}{o:Er}(E:EOk sub ar rs st)(hB:B'<=B)(hn:n<=m)(h:ev sub B m pl ar rs st=some o)(hs:B' < o.2.2):ev sub B' n pl ar rs st=none:=by
 cases e:ev sub B' n pl ar rs st with
 | none=>rfl
 | some o' =>
  have:=Na hB n m _ _ _ _ _ hn e
  rw [h] at this
  cases this
  have:=(B8 S n _ _ _ _ _ E e).b
  omega
theorem Zia {sub:List Nat->Option (Str×Dt)}{B B':Int}{n m:Nat}{pl:List Nat}{ar:Ar}{rs:List Rx}{st:Int}(hB:B'<=B)(hn:n<=m)(h:ev sub B m pl ar rs st=none):ev sub B' n pl ar rs st=none:=by
 cases e:ev sub B' n pl ar rs st with
 | none=>rfl
 | some o' =>
  have:=Na hB n m _ _ _ _ _ hn e
  rw [h] at this
  cases this
section
variable {sub:List Nat->Option (Str×Dt)}{B:Int}{n:Nat}{pl:List Nat}{ar:Ar}{rs:List Rx}{st:Int}{wd:Str}{d:Dt}(hs:sub pl=some (wd,d))
include hs
theorem Zb6 (h:B < st+Bc wd):ev sub B (n+1) pl ar rs st=none:=by
 rw [ev,hs]
 simp only [Pb,if_pos h]
theorem Lh (h:¬ B < st+Bc wd)(h2:wd∈Cg):ev sub B (n+1) pl ar rs st=(ev sub B n (pl++[0]) ar rs (st+1)).bind fun a=>(ev sub B n (pl++[1]) ar a.2.1 a.2.2).bind fun b=>if wd = "call" /\ Bq b.2.1 a.1=true then (E3 sub b.2.1 a.1 b.1).bind fun c=>ev sub B n c.1 c.2 b.2.1 b.2.2 else some ((C2 wd pl b.2.1 a.1 b.1).1,(C2 wd pl b.2.1 a.1 b.1).2,b.2.2):=by
 rw [ev,hs]
 simp only [Pb,if_neg h,if_pos h2]
theorem Zed (h:¬ B < st+Bc wd)(h2:wd = "let"):ev sub B (n+1) pl ar rs st=(ev sub B n (pl++[0]) ar rs (st+1)).bind fun a=>ev sub B n (pl++[1]) (ar++B6 (Ct wd d 1) [a.1]) a.2.1 a.2.2:=by
 rw [ev,hs]
 simp only [Pb,if_neg h,if_neg (show ¬ wd∈Cg by rw [h2];decide +kernel),if_pos h2]
theorem Oc (h:¬ B < st+Bc wd)(h2:¬ wd∈Cg)(h3:¬ wd = "let")(h4:¬ wd = "if"):ev sub B (n+1) pl ar rs st=some ((Bz wd d pl ar rs).1,(Bz wd d pl ar rs).2,st+Bc wd):=by
 rw [ev,hs]
 simp only [Pb,if_neg h,if_neg h2,if_neg h3,if_neg h4]
end
theorem Hz (sub:List Nat->Option (Str×Dt)):EOk sub [] [] 0:=⟨(fun y hy=>nomatch hy),by show ((0:Nat):Int)<=2 * 0;decide,(fun k r hr=>by simp at hr),Tj _⟩
noncomputable def RLt (rs:List Rx):Prop:=∀(k:Nat)(r:Rx),rs[k]?=some r->AOk k r.ar/\∀ x∈r.ops,TOk k x
theorem RLt.snoc {rs:List Rx}(h:RLt rs){r:Rx}(h1:AOk rs.length r.ar)(h2:∀ x∈r.ops,TOk rs.length x):RLt (rs++[r]):=fun k x hx=>by
 by_cases e:k < rs.length
 ·rw [Qa e] at hx
  exact h k x hx
 ·rw [P6 (by omega)] at hx
  have:k - rs.length=0:=by
   by_cases z:k - rs.length=0
   ·exact z
   ·rw [List.getElem?_eq_none (by simp;omega)] at hx;cases hx
  rw [this] at hx
  cases hx
  have:k=rs.length:=by omega
  subst this
  exact ⟨h1,h2⟩
theorem Zpp {wd:Str}{d:Dt}{pl:List Nat}{ar:Ar}{rs:List Rx}(h:RLt rs)(ha:AOk rs.length ar):RLt (Bz wd d pl ar rs).2:=by
 unfold Bz Cd
 have row:RLt (rs++[(⟨wd,An pl,[],if wd∈WA then ar else []⟩:Rx)]):=h.snoc (by
  show AOk rs.length (if wd∈WA then ar else [])
  split
  ·exact ha
  ·exact fun y hy=>nomatch hy) (fun x hx=>nomatch hx)
 split
 ·exact h
 ·split
  ·exact h
  ·exact row
theorem Zf0 {sub:List Nat->Option (Str×Dt)}{B:Int}(S:SubOk sub):∀(n:Nat)(pl:List Nat)(ar:Ar)(rs:List Rx)(st:Int)(o:Er),EOk sub ar rs st->RLt rs->ev sub B n pl ar rs st=some o->RLt o.2.1
 | 0,_,_,_,_,_,_,_,h=>by rw [ev] at h;cases h
 | n+1,pl,ar,rs,st,o,E,L,h=>by
  have ih:=Zf0 (B:=B) S n
  have it:=B8 (B:=B) S n
  rw [ev] at h
  cases hs:sub pl with
  | none=>rw [hs] at h;cases h
  | some f =>
  obtain ⟨wd,d⟩:=f
  rw [hs] at h
  simp only [Pb] at h
  by_cases h1:B < st+Bc wd
  ·rw [if_pos h1] at h;cases h
  rw [if_neg h1] at h
  by_cases h2:wd∈Cg
  ·rw [if_pos h2] at h
   obtain ⟨a,ha,h⟩:=Px.mp h
   obtain ⟨b,hb,h⟩:=Px.mp h
   have ta:=it _ _ _ _ _ E.up ha
   have la:=ih _ _ _ _ _ E.up L ha
   have tb:=it _ _ _ _ _ (E.up.on ta) hb
   have lb:=ih _ _ _ _ _ (E.up.on ta) la hb
   have Eb:=(E.up.on ta).on tb
   by_cases h4:wd = "call" /\ Bq b.2.1 a.1=true
   ·rw [if_pos h4] at h
    obtain ⟨k,r,ex,hr,hf⟩:=Hy h4.2 (ta.t.up tb.l)
    obtain ⟨d',_,_,hc⟩:=Ix (y:=b.1) hr hf tb.r
    rw [ex,hc,Pb] at h
    exact ih _ _ _ _ _ (Ig Eb hr hf tb.t) lb h
   ·rw [if_neg h4] at h
    cases h
    show RLt (C2 wd pl b.2.1 a.1 b.1).2
    unfold C2
    split
    ·exact lb
    ·refine lb.snoc (fun y hy=>nomatch hy) fun x hx=>?_
     simp only [Pd,Pj,or_false] at hx
     rcases hx with rfl | rfl
     ·exact ta.t.up tb.l
     ·exact tb.t
  rw [if_neg h2] at h
  by_cases h3:wd = "let"
  ·rw [if_pos h3] at h
   have h4:=Fq (.inr (.inl h3))
   obtain ⟨a,ha,h⟩:=Px.mp h
   have ta:=it _ _ _ _ _ E.up ha
   have la:=ih _ _ _ _ _ E.up L ha
   exact ih _ _ _ _ _ ((E.up.on ta).put ta.t (by have:=E.l;have:=ta.s;omega) _) la h
  rw [if_neg h3] at h
  by_cases h4:wd = "if"
  ·rw [if_pos h4] at h
   obtain ⟨a,ha,h⟩:=Px.mp h
   have ta:=it _ _ _ _ _ E.up ha
   have la:=ih _ _ _ _ _ E.up L ha
   by_cases h6:a.1.1 = "truth"
   ·rw [if_pos h6] at h
    exact ih _ _ _ _ _ (E.up.on ta) la h
   ·rw [if_neg h6] at h
    cases h
    exact la.snoc (E.up.on ta).a fun x hx=>by
     simp only [Pd,Pj,or_false] at hx
     rw [hx]
     exact ta.t
  rw [if_neg h4] at h
  cases h
  exact Zpp L E.a
section
variable {P:Program}{w:World}{K:O6}{mg:Str->Option Value}{base:Heap}
noncomputable def Ng (K:O6):Sp:=fun vs H Q _=>∃(v:V)(x:Str×V)(n:Nat),vs=[v,.int (n:Nat)]/\ThAt K H v x/\TOk n x/\Q (.bl true) H
theorem Zkb:Bl ["_law_thing_here", "_law_many"] ["_law_thing_here", "_law_many"] (A9 Kf):=by walk_at "sc"
theorem Mz {n m:Int}(h:n=m):(!decide (V.int n=V.int m))=false:=by subst h;rw [decide_eq_true rfl];rfl
theorem Em {b:Bool}{X Y:Prop}(h:b=false)(y:Y):if b=true then X else Y:=by rw [if_neg (by rw [h];exact Pi)];exact y
theorem Ga {b:Bool}{X Y:Prop}(h:b=true)(x:X):if b=true then X else Y:=by rw [if_pos h];exact x
theorem Zjm {f:Addr}{fd:FuncData}(F:Fun K "_law_is_thing" "_law_is_thing" Kf f fd)(T:Txt K mg):Az P w K mg base Aw 1 f fd ["_law_thing_here", "_law_many"] (Ng K):=by
 refine F.okq Zkb (fun vs H Q E h=>?_) (fun cdv A outer s H vs Q E hr h=>?_)
 ·obtain ⟨v,x,n,rfl,_⟩:=h
  rfl
 ·obtain ⟨v,x,n,rfl,hx,ht,q⟩:=h
  refine ⟨_,Ae (Av (QW.qt (C7 (C0 (Bt (A6 (B2 K "tuple") (by rfl) T.isinstance (by decide +kernel) (Aa (qv 0) (Aa (B3 (v:=.ty "tuple") (by rfl) T.tuple (by decide +kernel) rfl) Ab))))) (C7 (Ax (Fg K hr.u200) (A6 (Ca K) (by rfl) T.len (by decide +kernel) (Aa (qv 0) Ab)) Ac (As _)) (Dn (C0 (Bt (A6 (B2 K "str") (by rfl) T.isinstance (by decide +kernel) (Aa (Am K (qv 0) Ac) (Aa (B3 (v:=.ty "str") (by rfl) T.str (by decide +kernel) rfl) Ab))))))))) (Af (Ap Cp)) Ay)
   (Ae (Av (Ax (A7 K hr.u200) (Am K (qv 0) Ac) Aj (As _)) (Af (Ap (A6 (B2 K "bool") (by rfl) T.isinstance (by decide +kernel) (Aa (Am K (qv 0) Ac) (Aa (B3 (v:=.ty "bool") (by rfl) T.bool (by decide +kernel) rfl) Ab))))) Ay)
   (Ae (Av (QW.qt (C7 (C0 (Bt (A6 (B2 K "int") (by rfl) T.isinstance (by decide +kernel) (Aa (Am K (qv 0) Ac) (Aa (B3 (v:=.ty "int") (by rfl) T.int (by decide +kernel) rfl) Ab))))) (Dn (Bt (A6 (B2 K "bool") (by rfl) T.isinstance (by decide +kernel) (Aa (Am K (qv 0) Ac) (Aa (B3 (v:=.ty "bool") (by rfl) T.bool (by decide +kernel) rfl) Ab))))))) (Af (Ap Cp)) Ay)
   (Ae (Av (Ax (A7 K hr.u200) (Am K (qv 0) Ac) Aj (As _)) (Af (Ap (Zkr Zhl E4 Ac (Am K (qv 0) Ac) (qv 1)))) Ay)
   (Af (Ap (Dz (A7 K hr.u200) (Am K (qv 0) Ac) Aj (As _))))))),?_⟩
  obtain ⟨fx,a,rfl,qx⟩:=hx
  obtain ⟨wd,u⟩:=x
  have qx:SqT K H a [.str wd,u]:=qx
  walk_at "r"
  refine D0 (b:=true) qx rfl ?_
  walk_at "r"
  refine En qx ?_
  walk_at "r"
  refine Em (Mz rfl) ?_
  walk_at "r"
  refine A5 qx rfl ?_
  walk_at "r"
  refine Bw (b:=true) (.str _) rfl ?_
  walk_at "r"
  refine A5 qx rfl ?_
  rcases ht with ⟨h,i,e⟩ | ⟨h,i,e⟩ | ⟨h,i,e,hi⟩
  all_goals replace h:wd=_:=h
  all_goals replace e:u=_:=e
  all_goals subst h e
  ·walk_at "r"
   refine Em (by decide +kernel) ?_
   walk_at "r"
   refine A5 qx rfl ?_
   walk_at "r"
   refine Bw (b:=true) (.int _) rfl ?_
   walk_at "r"
   refine A5 qx rfl ?_
   walk_at "r"
   refine Bw (b:=false) (.int _) rfl ?_
   walk_at "r"
   refine A5 qx rfl ?_
   walk_at "r"
   refine Em (by decide +kernel) ?_
   walk_at "r"
   refine A5 qx rfl ?_
   walk_at "r"
   exact q
  ·walk_at "r"
   refine Ga (by decide +kernel) ?_
   walk_at "r"
   refine A5 qx rfl ?_
   walk_at "r"
   refine Bw (b:=true) (.bl _) rfl ?_
   walk_at "r"
   exact q
  ·walk_at "r"
   refine Em (by decide +kernel) ?_
   walk_at "r"
   refine A5 qx rfl ?_
   walk_at "r"
   refine Bw (b:=true) (.int _) rfl ?_
   walk_at "r"
   refine A5 qx rfl ?_
   walk_at "r"
   refine Bw (b:=false) (.int _) rfl ?_
   walk_at "r"
   refine A5 qx rfl ?_
   walk_at "r"
   refine Ga (by decide +kernel) ?_
   walk_at "r"
   refine A5 qx rfl ?_
   walk_at "r"
   refine Ga (decide_eq_true (by omega)) ?_
   walk_at "r"
   rw [decide_eq_true (show (i:Int) < (n:Int) by omega)]
   exact q
noncomputable def Og (K:O6):Sp:=fun vs H Q _=>∃(v:V)(x:Str×V)(n k:Nat),vs=[v,.int (k:Nat)]/\ThAt K H v x/\TOk n x/\∀ v' H',Same H H'->ThAt K H' v' (Bd k x)->Q v' H'
theorem Zo0:Bl ["_law_thing_here", "_law_many"] ["_law_thing_here", "_law_many"] (A9 J2):=by walk_at "sc"
theorem Zfz {wd wd':Str}{u:V}(h:wd≠wd'):(wd,u).1≠wd':=h
theorem Zlh {f:Addr}{fd:FuncData}(F:Fun K "_law_thing" "_law_thing" J2 f fd)(T:Txt K mg):Az P w K mg base Aw 1 f fd ["_law_thing_here", "_law_many"] (Og K):=by
 refine F.okq Zo0 (fun vs H Q E h=>?_) (fun cdv A outer s H vs Q E hr h=>?_)
 ·obtain ⟨v,x,n,k,rfl,_⟩:=h
  rfl
 ·obtain ⟨v,x,n,k,rfl,hx,ht,q⟩:=h
  refine ⟨_,Ae (Av (Ax (A7 K hr.u200) (Am K (qv 0) Ac) Aj (As _)) (Af (Ap (Ag (Aa Aj (Aa (Ah (B5 K) (Am K (qv 0) Ac) (qv 1)) Ab))))) Ay)
   (Af (Ap (qv 0))),?_⟩
  obtain ⟨a,rfl,qx⟩:=hx.2
  obtain ⟨wd,u⟩:=x
  have qx:SqT K H a [.str wd,u]:=qx
  walk_at "r"
  refine A5 qx rfl ?_
  rcases ht with ⟨h,i,e⟩ | ⟨h,i,e⟩ | ⟨h,i,e,hi⟩
  all_goals replace h:wd=_:=h
  all_goals replace e:u=_:=e
  all_goals subst h e
  ·walk_at "r"
   refine Em (by decide +kernel) ?_
   walk_at "r"
   exact q _ _ (Same.refl _) (by rw [Fw (Zfz (by decide +kernel))];exact hx)
  ·walk_at "r"
   refine Em (by decide +kernel) ?_
   walk_at "r"
   exact q _ _ (Same.refl _) (by rw [Fw (Zfz (by decide +kernel))];exact hx)
  ·walk_at "r"
   refine Ga (by decide +kernel) ?_
   walk_at "r"
   refine A5 qx rfl ?_
   walk_at "r"
   refine ⟨Bh,fun t ht=>?_⟩
   exact q _ _ (Same.upd ht) (by rw [Gk];exact ⟨rfl,t,rfl,SqT.of (by rw [Int.natCast_add];exact Ad)⟩)
noncomputable def Zcb (K:O6):Sp:=fun vs H Q _=>∃(v:V)(x:Rx)(n:Nat)(A:Addr->Prop),vs=[v,.int (n:Nat)]/\RwAt K A H v x/\AOk n x.ar/\(∀ y∈x.ops,TOk n y)/\Q (.bl true) H
theorem sc_law_is_row:Bl ["_law_row", "_law_k", "_law_thing_here", "_law_pair"] ["_law_row", "_law_k"] (A9 K9):=by walk_at "sc"
theorem Zic {f:Addr}{fd:FuncData}(F:Fun K "_law_is_row" "_law_is_row" K9 f fd)(T:Txt K mg)(C__law_is_thing:Bo P w K mg base 1 "_law_is_thing" ["_law_thing_here", "_law_many"] (Ng K)):Az P w K mg base Aw 2 f fd ["_law_row", "_law_k"] (Zcb K):=by
 refine F.okq sc_law_is_row (fun vs H Q E h=>?_) (fun cdv A outer s H vs Q E hr h=>?_)
 ·obtain ⟨v,x,n,A,rfl,_⟩:=h
  rfl
 ·obtain ⟨v,x,n,A',rfl,hx,ha,ho,q⟩:=h
  refine ⟨_,Ae (Av (QW.qt (C7 (C0 (Bt (A6 (B2 K "tuple") (by rfl) T.isinstance (by decide +kernel) (Aa (qv 0) (Aa (B3 (v:=.ty "tuple") (by rfl) T.tuple (by decide +kernel) rfl) Ab))))) (Dn (Ax (Fg K hr.u200) (A6 (Ca K) (by rfl) T.len (by decide +kernel) (Aa (qv 0) Ab)) Ac (As _))))) (Af (Ap Cp)) Ay)
   (Ae (Av (QW.qt (C7 (C0 (Bt (A6 (B2 K "str") (by rfl) T.isinstance (by decide +kernel) (Aa (Am K (qv 0) Ac) (Aa (B3 (v:=.ty "str") (by rfl) T.str (by decide +kernel) rfl) Ab))))) (Dn (C0 (Bt (A6 (B2 K "tuple") (by rfl) T.isinstance (by decide +kernel) (Aa (Am K (qv 0) Ac) (Aa (B3 (v:=.ty "tuple") (by rfl) T.tuple (by decide +kernel) rfl) Ab)))))))) (Af (Ap Cp)) Ay)
   (Ae (Av (QW.qt (C7 (C0 (Bt (A6 (B2 K "list") (by rfl) T.isinstance (by decide +kernel) (Aa (Am K (qv 0) Ac) (Aa (B3 (v:=.ty "list") (by rfl) T.list (by decide +kernel) rfl) Ab))))) (Dn (C0 (Bt (A6 (B2 K "list") (by rfl) T.isinstance (by decide +kernel) (Aa (Am K (qv 0) Ac) (Aa (B3 (v:=.ty "list") (by rfl) T.list (by decide +kernel) rfl) Ab)))))))) (Af (Ap Cp)) Ay)
   (Ae (Fp Q2 rfl (Fh K (Am K (qv 0) Ac)) (Bu (i:=2) sc_law_is_row.nd rfl (Or.inl rfl)) (Af (Av (C0 (Bt (Ba C__law_is_thing hr.m (Aa (qv 2) (Aa (qv 1) Ab))))) (Af (Ap Cp)) Ay)))
   (Ae (Fp Q2 rfl (Fh K (Am K (qv 0) Ac)) (Bu (i:=3) sc_law_is_row.nd rfl (Or.inl rfl)) (Ae (Av (QW.qt (C7 (C0 (Bt (A6 (B2 K "tuple") (by rfl) T.isinstance (by decide +kernel) (Aa (qv 3) (Aa (B3 (v:=.ty "tuple") (by rfl) T.tuple (by decide +kernel) rfl) Ab))))) (C7 (Ax (Fg K hr.u200) (A6 (Ca K) (by rfl) T.len (by decide +kernel) (Aa (qv 3) Ab)) Ac (As _)) (Dn (C0 (Bt (A6 (B2 K "str") (by rfl) T.isinstance (by decide +kernel) (Aa (Am K (qv 3) Ac) (Aa (B3 (v:=.ty "str") (by rfl) T.str (by decide +kernel) rfl) Ab))))))))) (Af (Ap Cp)) Ay)
   (Af (Av (C0 (Bt (Ba C__law_is_thing hr.m (Aa (Am K (qv 3) Ac) (Aa (qv 1) Ab))))) (Af (Ap Cp)) Ay))))
   (Af (Ap Cp)))))),?_⟩
  obtain ⟨a,p,o,e,ov,ev,rfl,h2,h3,h4,h5,h6,h7,_,_⟩:=hx
  walk_at "r"
  refine D0 (b:=true) h2 rfl ?_
  walk_at "r"
  refine En h2 ?_
  walk_at "r"
  refine Em (Mz rfl) ?_
  walk_at "r"
  refine A5 h2 rfl ?_
  walk_at "r"
  refine Bw (b:=true) (.str _) rfl ?_
  walk_at "r"
  refine A5 h2 rfl ?_
  walk_at "r"
  refine D0 (b:=true) h3 rfl ?_
  walk_at "r"
  refine A5 h2 rfl ?_
  walk_at "r"
  refine Ff (b:=true) (SqL.of h4) rfl ?_
  walk_at "r"
  refine A5 h2 rfl ?_
  walk_at "r"
  refine Ff (b:=true) (SqL.of h6) rfl ?_
  walk_at "r"
  refine A5 h2 rfl ?_
  refine .inl ⟨o,rfl,⟨_,SqL.of h4⟩,?_⟩
  refine Ox (K:=K) (a:=o) (xs:=ov) (fun i σ' H'=>∃ v0,σ'=[some (.ref a),some (.int (n:Nat)),v0,none]/\H'=H) ⟨_,rfl,rfl⟩ ?_ ?_ ?_
  ·rintro i σ' H' _ ⟨_,_,rfl⟩
   exact SqL.of h4
  ·rintro i y σ' H' hy ⟨v0,rfl,rfl⟩
   obtain ⟨z,hz,hyz⟩:=h5.get hy
   walk_at "r"
   refine ⟨y,z,n,rfl,hyz,ho z (Qs hz),?_⟩
   walk_at "r"
   exact ⟨_,rfl,rfl⟩
  rintro σ' H' ⟨v0,rfl,rfl⟩
  walk_at "r"
  refine A5 h2 rfl ?_
  refine .inl ⟨e,rfl,⟨_,SqL.of h6⟩,?_⟩
  refine Ox (K:=K) (a:=e) (xs:=ev) (fun i σ' H1=>∃ v1,σ'=[some (.ref a),some (.int (n:Nat)),v0,v1]/\H1=H') ⟨_,rfl,rfl⟩ ?_ ?_ ?_
  ·rintro i σ' H1 _ ⟨_,_,rfl⟩
   exact SqL.of h6
  ·rintro i y σ' H1 hy ⟨v1,rfl,rfl⟩
   obtain ⟨z,hz,ay,uy,rfl,qy,ty⟩:=h7.get hy
   walk_at "r"
   refine D0 (b:=true) qy rfl ?_
   walk_at "r"
   refine En qy ?_
   walk_at "r"
   refine Em (Mz rfl) ?_
   walk_at "r"
   refine A5 qy rfl ?_
   walk_at "r"
   refine Bw (b:=true) (.str _) rfl ?_
   walk_at "r"
   refine A5 qy rfl ?_
   walk_at "r"
   refine ⟨uy,z.2,n,rfl,ty,ha z (Qs hz),?_⟩
   walk_at "r"
   exact ⟨_,rfl,rfl⟩
  rintro σ' H1 ⟨v1,rfl,rfl⟩
  walk_at "r"
  exact q
noncomputable def RcAt (K:O6)(H:Hp)(v:V)(o:Er):Prop:=∃(r rd:Addr)(av:V)(rv:List V)(A:Addr->Prop),v=.ref r/\SqT K H r [av,.ref rd,.int o.2.2]/\ThAt K H av o.1/\H rd=some (.lst rv)/\Al (RwAt K A H) rv o.2.1
theorem RcAt.same {K:O6}{H H':Hp}{v:V}{o:Er}(h:RcAt K H v o)(s:Same H H'):RcAt K H' v o:=by
 obtain ⟨r,rd,av,rv,A,h1,h2,h3,h4,h5⟩:=h
 exact ⟨r,rd,av,rv,A,h1,s.tup h2,ThAt.same s.t _ _ h3,s _ _ h4,h5.mono (RwAt.same s.a)⟩
noncomputable def Zfw (K:O6):Sp:=fun vs H Q _=>∃(v:V)(o:Er),vs=[v]/\RcAt K H v o/\TOk o.2.1.length o.1/\RLt o.2.1/\o.2.1.length<=3000/\Q (.bl true) H
theorem sc_law_is_record:Bl ["_law_found", "_law_k"] ["_law_found"] (A9 K1):=by walk_at "sc"
theorem Zpl {f:Addr}{fd:FuncData}(F:Fun K "_law_is_record" "_law_is_record" K1 f fd)(T:Txt K mg)(C__law_is_thing:Bo P w K mg base 1 "_law_is_thing" ["_law_thing_here", "_law_many"] (Ng K))(C__law_is_row:Bo P w K mg base 2 "_law_is_row" ["_law_row", "_law_k"] (Zcb K)):Az P w K mg base Aw 3 f fd ["_law_found"] (Zfw K):=by
 refine F.okq sc_law_is_record (fun vs H Q E h=>?_) (fun cdv A outer s H vs Q E hr h=>?_)
 ·obtain ⟨v,o,rfl,_⟩:=h
  rfl
 ·obtain ⟨v,o,rfl,⟨r,rd,av,rv,A',rfl,h2,h3,h4,h5⟩,ht,hl,h3k,q⟩:=h
  refine ⟨_,Ae (Av (QW.qt (C7 (C0 (Bt (A6 (B2 K "tuple") (by rfl) T.isinstance (by decide +kernel) (Aa (qv 0) (Aa (B3 (v:=.ty "tuple") (by rfl) T.tuple (by decide +kernel) rfl) Ab))))) (C7 (Ax (Fg K hr.u200) (A6 (Ca K) (by rfl) T.len (by decide +kernel) (Aa (qv 0) Ab)) Ac (As _)) (Dn (C0 (Bt (A6 (B2 K "list") (by rfl) T.isinstance (by decide +kernel) (Aa (Am K (qv 0) Ac) (Aa (B3 (v:=.ty "list") (by rfl) T.list (by decide +kernel) rfl) Ab))))))))) (Af (Ap Cp)) Ay)
   (Ae (Fp Q2 rfl (Kk rfl T.range (Aa (A6 (Ca K) (by rfl) T.len (by decide +kernel) (Aa (Am K (qv 0) Ac) Ab)) Ab)) (Bu (i:=1) sc_law_is_record.nd rfl (Or.inl rfl)) (Af (Av (C0 (Bt (Ba C__law_is_row hr.m (Aa (Am K (Am K (qv 0) Ac) (qv 1)) (Aa (qv 1) Ab))))) (Af (Ap Cp)) Ay)))
   (Ae (Av (QW.qt (C7 (C0 (Bt (A6 (B2 K "int") (by rfl) T.isinstance (by decide +kernel) (Aa (Am K (qv 0) Ac) (Aa (B3 (v:=.ty "int") (by rfl) T.int (by decide +kernel) rfl) Ab))))) (Dn (Bt (A6 (B2 K "bool") (by rfl) T.isinstance (by decide +kernel) (Aa (Am K (qv 0) Ac) (Aa (B3 (v:=.ty "bool") (by rfl) T.bool (by decide +kernel) rfl) Ab))))))) (Af (Ap Cp)) Ay)
   (Af (Ap (Ba C__law_is_thing hr.m (Aa (Am K (qv 0) Ac) (Aa (A6 (Ca K) (by rfl) T.len (by decide +kernel) (Aa (Am K (qv 0) Ac) Ab)) Ab))))))),?_⟩
  have el:=h5.1
  walk_at "r"
  refine D0 (b:=true) h2 rfl ?_
  walk_at "r"
  refine En h2 ?_
  walk_at "r"
  refine Em (Mz rfl) ?_
  walk_at "r"
  refine A5 h2 rfl ?_
  walk_at "r"
  refine Ff (b:=true) (SqL.of h4) rfl ?_
  walk_at "r"
  refine A5 h2 rfl ?_
  walk_at "r"
  refine Cm (SqL.of h4) ?_
  walk_at "r"
  refine ⟨by omega,by omega,?_⟩
  refine Jc (n:=(rv.length:Int).toNat) (fun i σ' H'=>∃ v0,σ'=[some (.ref r),v0]/\H'=H) ⟨_,rfl,rfl⟩ ?_ ?_
  ·rintro i σ' H' hi ⟨v0,rfl,rfl⟩
   have hi:i < rv.length:=by omega
   have e0:(0:Int)+(i:Int)=((i:Nat):Int):=by omega
   rw [e0]
   obtain ⟨z,hz,rz⟩:=h5.get (Pa hi)
   obtain ⟨l1,l2⟩:=hl i z hz
   walk_at "r"
   refine A5 h2 rfl ?_
   walk_at "r"
   refine A8 (SqL.of h4) (Dc (Pa hi)) ?_
   walk_at "r"
   refine ⟨rv[i],z,i,A',rfl,rz,l1,l2,?_⟩
   walk_at "r"
   exact ⟨_,rfl,rfl⟩
  rintro σ' H' ⟨v0,rfl,rfl⟩
  walk_at "r"
  refine A5 h2 rfl ?_
  walk_at "r"
  refine Bw (b:=true) (.int _) rfl ?_
  walk_at "r"
  refine A5 h2 rfl ?_
  walk_at "r"
  refine Bw (b:=false) (.int _) rfl ?_
  walk_at "r"
  refine A5 h2 rfl ?_
  walk_at "r"
  refine A5 h2 rfl ?_
  walk_at "r"
  refine Cm (SqL.of h4) ?_
  walk_at "r"
  refine ⟨av,o.1,rv.length,rfl,h3,by rw [el];exact ht,?_⟩
  exact q
noncomputable def AD (H:Hp)(D:Addr):Addr->Prop:=fun b=>b=D\/H b≠none
noncomputable def SzOk (rs:List Rx):Prop:=∀ r∈rs,r.pl.length<=5000/\r.ops.length<=2/\r.ar.length<=1000
noncomputable def Zda (K:O6):Sp:=fun vs H Q _=>∃(v:V)(o:Er)(ah pp:Addr)(k:Nat)(p:List Nat)(pv:List V)(P:Ar),vs=[v,.ref ah,.int (k:Nat),.ref pp]/\RcAt K H v o/\RLt o.2.1/\o.2.1.length<=3000/\SzOk o.2.1/\SqT K H ah (Bp p)/\p.length<=10/\H pp=some (.lst pv)/\Al (PrAt K H) pv P/\P.length<=10 /\
 ∀(rd:Addr)(ws:List V)(H':Hp),Same H H'->H rd=none->H' rd=some (.lst ws)->Al (RwAt K (AD H rd) H') ws (o.2.1.map (Bj p k P))->Q (.ref rd) H'
theorem Zer:(["_law_name", "_law_thing_here", "_law_many"]:List Str).Nodup:=by decide +kernel
theorem Znd:(["_law_thing_here", "_law_many"]:List Str).Nodup:=by decide +kernel
theorem sc_law_moved:Bl ["_law_record", "_law_ahead", "_law_many", "_law_pairs", "_law_rows", "_law_word", "_law_place", "_law_operands", "_law_around", "_law_kept"] ["_law_record", "_law_ahead", "_law_many", "_law_pairs"] (A9 Kt):=by walk_at "sc"
theorem Zas {α:Type}{l:List α}{i:Nat}{c:α}(h:l[i]?=some c):l.take (i+1)=l.take i++[c]:=by rw [Uk,h];rfl
theorem Zq4 {f:Addr}{fd:FuncData}(F:Fun K "_law_moved" "_law_moved" Kt f fd)(T:Txt K mg)(C__law_thing:Bo P w K mg base 1 "_law_thing" ["_law_thing_here", "_law_many"] (Og K)):Az P w K mg base Aw 2 f fd ["_law_record", "_law_ahead", "_law_many", "_law_pairs"] (Zda K):=by
 refine F.okq sc_law_moved (fun vs H Q E h=>?_) (fun cdv A outer s H vs Q E hr h=>?_)
 ·obtain ⟨v,o,ah,pp,k,p,pv,P,rfl,_⟩:=h
  rfl
 ·obtain ⟨v,o,ah,pp,k,p,pv,Pr,rfl,⟨r,rl,av,rv,A',rfl,h2,h3,h4,h5⟩,hl,h3k,hsz,hah,hpl,hpp,alp,hP,q⟩:=h
  refine ⟨_,Ae (Au 4 sc_law_moved (Bg Ab))
   (Ae (Fp Q2 rfl (Fh K (Am K (qv 0) Ac)) (Gf K (n:=4) rfl (Cs (Bu (i:=5) sc_law_moved.nd rfl (Or.inl rfl)) (Cs (Bu (i:=6) sc_law_moved.nd rfl (Or.inl rfl)) (Cs (Bu (i:=7) sc_law_moved.nd rfl (Or.inl rfl)) (Cs (Bu (i:=8) sc_law_moved.nd rfl (Or.inl rfl)) (Ge)))))) (Ae (Zb8 (i:=9) (N:=["_law_name", "_law_thing_here", "_law_many"]) (σ0:=Fb 2 [2]) rfl (Iq rfl (by decide +kernel) (by decide +kernel) (by decide +kernel)) (Fh K (qv 8)) (Ja rfl (by rfl)) (fun _ _ _ _=>Gf K (n:=2) rfl (Cs (Bu (i:=0) Zer rfl (Or.inl rfl)) (Cs (Bu (i:=1) Zer rfl (Or.inl rfl)) (Ge)))) (fun _ _ _ _=>Jq) (fun _ _ _ _=>Ag (Aa (qv 0) (Aa (Ba C__law_thing hr.m (Aa (qv 1) (Aa (qv 2) Ab))) Ab))) sc_law_moved.nd rfl (Or.inl rfl))
   (Ae (Av (Ax (Hw K) (qv 5) (Ag (Kl (xs:=[.str "gap",.str "fn",.str "rec",.str "if"]) rfl)) (by rfl)) (Af (Au 9 sc_law_moved (Ah (B5 K) (qv 3) (qv 9)))) Ay)
   (Af (Cc (Db K Py Qc Qd Dg (qv 4) (Aa (Ag (Aa (qv 5) (Aa (Ah (B5 K) (qv 1) (qv 6)) (Aa (Lj (N:=["_law_thing_here", "_law_many"]) (σ0:=Fb 1 [2]) rfl (Iq rfl (by decide +kernel) (by decide +kernel) (by decide +kernel)) (Fh K (qv 7)) (Ja rfl (by rfl)) (fun _ _ _ _=>Bu (i:=0) Znd rfl (Or.inl rfl)) (fun _ _ _ _=>Jq) (fun _ _ _ _=>Ba C__law_thing hr.m (Aa (qv 0) (Aa (qv 1) Ab)))) (Aa (qv 9) Ab))))) Ab)))))))
   (Af (Ap (qv 4)))),?_⟩
  have bg:=big
  have el:=h5.1
  walk_at "r"
  refine ⟨Bk,fun D hD=>?_⟩
  have s1:=Same.upd (o:=.lst []) hD
  have e1:upd H D (.lst []) D=some (.lst []):=Ad
  revert s1 e1
  generalize upd H D (.lst [])=H1
  intro s1 e1
  walk_at "r"
  refine A5 (s1.tup h2) rfl ?_
  refine .inl ⟨rl,rfl,⟨_,SqL.of (s1 _ _ h4)⟩,?_⟩
  refine Ox (K:=K) (a:=rl) (xs:=rv) (fun i σ' H'=>∃ w1 w2 w3 w4 w5 ys,σ'=[some (.ref r),some (.ref ah),some (.int (k:Nat)),some (.ref pp),some (.ref D),w1,w2,w3,w4,w5]/\Same H H'/\H' D=some (.lst ys)/\Al (RwAt K (AD H D) H') ys ((o.2.1.take i).map (Bj p k Pr))) ⟨_,_,_,_,_,[],rfl,s1,e1,.nil⟩ ?_ ?_ ?_
  ·rintro i σ' H' _ ⟨_,_,_,_,_,_,_,sm,_⟩
   exact SqL.of (sm _ _ h4)
  ·rintro i y σ' H2 hy ⟨w1,w2,w3,w4,w5,ys,rfl,sm,eD,aly⟩
   obtain ⟨x,hx,a,pa,oa,ea,ov,ev,rfl,g2,g3,g4,g5,g6,g7,_,_⟩:=h5.get hy
   obtain ⟨l1,l2⟩:=hl i x hx
   obtain ⟨z1,z2,z3⟩:=hsz x (Qs hx)
   have hi:i < rv.length:=(Pq.mp hy).1
   refine Fe (sm.tup g2) rfl ?_
   walk_at "r"
   refine .inl ⟨ea,rfl,⟨_,SqL.of (sm _ _ g6)⟩,fun B hB=>?_⟩
   have nB:ea≠B:=Cr (sm _ _ g6) hB
   have sB:=Same.upd (o:=.lst []) hB
   refine Lv (K:=K) (a:=ea) (xs:=ev) (Pv:=fun j zs σ' H'=>∃ k0 k1,σ'=[k0,k1,some (.int (k:Nat))]/\Same H2 H'/\zs.length=j/\Al (PrAt K H') zs ((x.ar.take j).map (Ed k))) ⟨none,none,rfl,sB,rfl,.nil⟩ (fun j zs σ' H' _ ⟨_,_,_,s',_⟩=>SqL.of (s' _ _ (sm _ _ g6))) ?_ ?_
   ·rintro j y zs σ' H3 hyj hzs ⟨k0,k1,rfl,s3,lz,alz⟩
    obtain ⟨u,hu,ay,uy,rfl,qy,ty⟩:=g7.get hyj
    have hj:j < ev.length:=(Pq.mp hyj).1
    have ly:=g7.1
    have s03:=sm.trans s3
    refine Fe (s03.tup qy) rfl ?_
    walk_at "r"
    refine ⟨uy,u.2,i,k,rfl,ThAt.same s03.t _ _ ty,l1 u (Qs hu),fun v' H4 s4 t4=>?_⟩
    walk_at "r"
    refine ⟨Bh,fun t ht=>?_⟩
    have s5:=Same.upd (o:=.tup [.str u.1,v']) ht
    have hz5:=s5 _ _ (s4 _ _ hzs)
    walk_at "r"
    refine ⟨_,hz5,by omega,_,Ad,?_⟩
    have s45:=s4.trans s5
    have tS:=SameT.set (o:=.lst (zs++[.ref t])) hz5
    refine ⟨_,_,rfl,(s3.trans s45).over hB,by rw [Pg,Pl,lz],?_⟩
    rw [Zas hu,Pz]
    exact (alz.mono (PrAt.same (s45.t.trans tS))).snoc ⟨t,v',rfl,tS.tup (SqT.of Ad),ThAt.same (s5.t.trans tS) _ _ t4⟩
   rintro zs σ' H3 hzs ⟨k0,k1,rfl,s3,lz,alz⟩
   have ly:=g7.1
   rw [ly,Rv] at alz
   have nBH:H2 B=none:=hB
   refine s_gname ?_
   with_reducible refine s_seq ?_
   refine De (t:=Cw _ _ _) (R:=fun σ' H'=>∃ kp kv,σ'=[some (.ref r),some (.ref ah),some (.int (k:Nat)),some (.ref pp),some (.ref D),some (.str x.wd),some (.ref pa),some (.ref oa),some (.ref ea),some (.ref kp)]/\Same H2 H'/\H2 kp=none/\H' kp=some (.lst kv)/\Al (PrAt K H') kv ((if x.wd∈WA then Pr else [])++x.ar.map (Ed k))) ?_ ?_
   rotate_left
   ·intro Y hY
    walk_at "r"
    refine ⟨F5,fun c hc=>?_⟩
    refine F8 (.inr (SqT.of Ad)) rfl rfl ?_
    have sc:=Same.upd (o:=.tup [.str "gap",.str "fn",.str "rec",.str "if"]) hc
    rw [if_neg Pi,show Ef (.str x.wd) [.str "gap",.str "fn",.str "rec",.str "if"]=decide (x.wd∈WA) from G7 (ws:=WA)]
    revert sc
    generalize upd H3 c (.tup [.str "gap",.str "fn",.str "rec",.str "if"])=H4
    intro sc
    have s24:=s3.trans sc
    walk_at "r"
    refine Bb (fun h=>?_) (fun h=>?_)
    ·have h:x.wd∈WA:=of_decide_eq_true h
     rw [if_pos h] at hY
     have hpp4:=s24 _ _ (sm _ _ hpp)
     have lp:=alp.1
     walk_at "r"
     refine Gv hpp4 (sc _ _ hzs) (by omega) fun kp hkp=>?_
     have s5:=Same.upd (o:=.lst (pv++zs)) hkp
     exact hY _ _ ⟨kp,_,rfl,s24.trans s5,s24.free hkp,Ad,((alp.mono (PrAt.same (sm.trans (s24.trans s5)).t)).append (alz.mono (PrAt.same (sc.trans s5).t)))⟩
    ·have h:¬ x.wd∈WA:=fun z=>h (decide_eq_true z)
     rw [if_neg h] at hY
     exact hY _ _ ⟨B,zs,rfl,s24,nBH,sc _ _ hzs,alz.mono (PrAt.same sc.t)⟩
   rintro _ H4 ⟨kp,kv,rfl,s24,nkp,ekp,alk⟩
   clear alz hzs s3 nBH
   have sm4:=sm.trans s24
   have eD4:=s24 _ _ eD
   have zp:(Bp p).length=p.length:=by unfold Bp;rw [Ph]
   walk_at "r"
   refine Cj (SqL.of eD4) ?_
   walk_at "r"
   refine Znf (sm4.tup hah) (sm4.tup g3) (by rw [Ph];omega) fun pt H5 s5 q5=>?_
   have s25:=s24.trans s5
   walk_at "r"
   refine .inl ⟨oa,rfl,⟨_,SqL.of ((sm.trans s25) _ _ g4)⟩,fun C hC=>?_⟩
   refine Lv (K:=K) (a:=oa) (xs:=ov) (Pv:=fun j zs σ' H'=>∃ k0,σ'=[k0,some (.int (k:Nat))]/\Same H5 H'/\zs.length=j/\Al (ThAt K H') zs ((x.ops.take j).map (Bd k))) ⟨none,rfl,Same.upd hC,rfl,.nil⟩ (fun j zs σ' H' _ ⟨_,_,s',_⟩=>SqL.of (s' _ _ ((sm.trans s25) _ _ g4))) ?_ ?_
   ·rintro j y zs σ' H6 hyj hzs ⟨k0,rfl,s6,lz6,alz⟩
    obtain ⟨u,hu,ty⟩:=g5.get hyj
    have hj:j < ov.length:=(Pq.mp hyj).1
    have lo:=g5.1
    have s06:=sm.trans (s25.trans s6)
    walk_at "r"
    refine ⟨y,u,i,k,rfl,ThAt.same s06.t _ _ ty,l2 u (Qs hu),fun v' H7 s7 t7=>?_⟩
    have hz7:=s7 _ _ hzs
    walk_at "r"
    refine ⟨_,hz7,by omega,_,Ad,?_⟩
    have tS:=SameT.set (o:=.lst (zs++[v'])) hz7
    refine ⟨_,rfl,(s6.trans s7).over hC,by rw [Pg,Pl,lz6],?_⟩
    rw [Zas hu,Pz]
    exact (alz.mono (ThAt.same (s7.t.trans tS))).snoc (ThAt.same tS _ _ t7)
   rintro os σ' H6 hos ⟨k0,rfl,s6,lz6,alo⟩
   have lo:=g5.1
   rw [lo,Rv] at alo
   have nC:H5 C=none:=hC
   walk_at "r"
   refine ⟨F5,fun t ht=>?_⟩
   have s7:=Same.upd (o:=.tup [.str x.wd,.ref pt,.ref C,.ref kp]) ht
   have q7:SqT K (upd H6 t (.tup [.str x.wd,.ref pt,.ref C,.ref kp])) t [.str x.wd,.ref pt,.ref C,.ref kp]:=SqT.of Ad
   revert s7 q7
   generalize upd H6 t (.tup [.str x.wd,.ref pt,.ref C,.ref kp])=H7
   intro s7 q7
   have s57:=s6.trans s7
   have s27:=s25.trans s57
   have eD7:=s27 _ _ eD
   have ly2:=aly.1
   have lym:ys.length<=3000:=by rw [ly2,Ph,Qo];omega
   walk_at "r"
   refine Dh eD7 (by omega) ?_
   have tS:=SameT.set (o:=.lst (ys++[.ref t])) eD7
   have sA:=SameA.set (A:=AD H D) (o:=.lst (ys++[.ref t])) eD7 (.inl rfl)
   have nCD:C≠D:=fun z=>by rw [z,s25 _ _ eD] at nC;cases nC
   have nKD:kp≠D:=fun z=>by rw [z,eD] at nkp;cases nkp
   have free:∀ b,b≠D->H b=none->¬ AD H D b:=fun b h1 h2 h3=>by
    rcases h3 with h3 | h3
    ·exact h1 h3
    ·exact h3 h2
   refine ⟨_,_,_,_,_,_,rfl,(sm.trans s27).over hD,Ad,?_⟩
   rw [Zas hx,Pz]
   refine (aly.mono (RwAt.same (s27.a.trans sA))).snoc ⟨t,pt,C,kp,os,kv,rfl,tS.tup q7,?_,?_,?_,?_,?_,free C nCD ((sm.trans s25).free nC),free kp nKD (sm.free nkp)⟩
   ·have:(Bj p k Pr x).pl.map V.int=Bp p++x.pl.map V.int:=by
     show (An p++x.pl).map V.int=_
     rw [Pz,Ib]
    rw [this]
    exact tS.tup (s57.tup q5)
   ·rw [Ai nCD];exact s7 _ _ hos
   ·exact alo.mono (ThAt.same (s7.t.trans tS))
   ·rw [Ai nKD];exact (s5.trans s57) _ _ ekp
   ·exact alk.mono (PrAt.same ((s5.trans s57).t.trans tS))
  rintro σ' H2 ⟨w1,w2,w3,w4,w5,ys,rfl,sm,eD,aly⟩
  rw [el,Rv] at aly
  walk_at "r"
  exact q D ys H2 sm hD eD aly
end
theorem Zq9 {sub:List Nat->Option (Str×Dt)}{B:Int}{n:Nat}(S:SubOk sub)(hB:B+1<=n)(h0:0<=B)(hn:n<=501)(h5:B<=500):ev sub B n [] [] [] 0=(ev sub 500 501 [] [] [] 0).bind fun o=>if o.2.2<=B then some o else none:=by
 have E:=Hz sub
 cases h:ev sub 500 501 [] [] [] 0 with
 | none=>exact Zia h5 hn h
 | some o =>
  rw [Pb]
  by_cases hb:o.2.2<=B
  ·rw [if_pos hb]
   exact Zja S 501 n _ _ _ _ _ E (by omega) h0 h hb
  ·rw [if_neg hb]
   exact Zg3 S E h5 hn h (by omega)
noncomputable def D3 (sub:List Nat->Option (Str×Dt))(P:Ar):Prop:=∀(pl:List Nat)(z:Str),sub pl=some (("name" : Str),Dt.flat (.str z))->∀ y∈P,y.1≠z
noncomputable def Mq (q:List Nat)(P:Ar)(R:List Rx)(c:Int)(o:Er):Option Er:=if c+o.2.2<=500 then some (Bd R.length o.1,R++o.2.1.map (Bj q R.length P),c+o.2.2) else none
theorem Zfu {sub sub':List Nat->Option (Str×Dt)}{q:List Nat}{P:Ar}{R:List Rx}{c:Int}{n:Nat}(S:SubOk sub)(hsub:∀ pl,sub' (q++pl)=sub pl)(hP:D3 sub P)(hc:0<=c)(hc':c<=500)(hn:501<=c+n)(hn':n<=501):ev sub' 500 n q P R c=(ev sub 500 501 [] [] [] 0).bind (Mq q P R c):=by
 have:=Zck (q:=q) (P:=P) (R:=R) (c:=c) (B:=500 - c) S hsub hP n [] [] [] 0 (Hz sub)
 rw [Zq9 S (by omega) (by omega) hn' (by omega)] at this
 simp only [Ro,Qe,Th] at this
 rw [show c+(500 - c)=500 by omega] at this
 rw [this]
 cases h:ev sub 500 501 [] [] [] 0 with
 | none=>rfl
 | some o =>
  rw [Pb,Pb]
  unfold Mq
  by_cases hb:c+o.2.2<=500
  ·rw [if_pos hb,if_pos (by omega)];rfl
  ·rw [if_neg hb,if_neg (by omega)];rfl
noncomputable def Ex (R:List Rx)(q1:List Nat)(P1:Ar)(q2:List Nat)(R2:(Str×V)->List Rx)(P2:(Str×V)->Ar)(m:Int)(o1 o2:Er):Er :=
 (Bd (R++o1.2.1.map (Bj q1 R.length P1)++R2 (Bd R.length o1.1)).length o2.1,(R++o1.2.1.map (Bj q1 R.length P1)++R2 (Bd R.length o1.1))++o2.2.1.map (Bj q2 (R++o1.2.1.map (Bj q1 R.length P1)++R2 (Bd R.length o1.1)).length (P2 (Bd R.length o1.1))),o1.2.2+o2.2.2+m)
noncomputable def D6 (o:Er):Option Er:=if o.2.2<=500 then some o else none
theorem Mh {s1 s2 sub:List Nat->Option (Str×Dt)}{q1 q2:List Nat}{P1:Ar}{R:List Rx}{P2:(Str×V)->Ar}{R2:(Str×V)->List Rx}{c1 d:Int}{n1 n2:Nat}{g:Er->Option Er}(S1:SubOk s1)(S2:SubOk s2)(h1:∀ pl,sub (q1++pl)=s1 pl)(h2:∀ pl,sub (q2++pl)=s2 pl)(hP1:D3 s1 P1)(hP2:∀ x,D3 s2 (P2 x))(hc:1<=c1)(hc':c1<=500)(hd:0<=d)(hn1:501<=c1+n1)(hn1':n1<=501)(hn2:501<=c1+d+n2)(hn2':n2<=501)
  (hg:∀ o,ev s1 500 501 [] [] [] 0=some o->∀ a,a=(Bd R.length o.1,R++o.2.1.map (Bj q1 R.length P1),c1+o.2.2)->a.2.2<=500->g a=if 500 < a.2.2+d then none else ev sub 500 n2 q2 (P2 a.1) (a.2.1++R2 a.1) (a.2.2+d)) :
  (ev sub 500 n1 q1 P1 R c1).bind g=(ev s1 500 501 [] [] [] 0).bind fun o1=>(ev s2 500 501 [] [] [] 0).bind fun o2=>D6 (Ex R q1 P1 q2 R2 P2 (c1+d) o1 o2):=by
 rw [Zfu S1 h1 hP1 (by omega) hc' hn1 hn1']
 cases e1:ev s1 500 501 [] [] [] 0 with
 | none=>rfl
 | some o =>
 have z1:=(B8 S1 501 _ _ _ _ _ (Hz s1) e1).s
 have hg:=hg o e1
 rw [Pb,Pb]
 have far:500 < c1+o.2.2+d->((ev s2 500 501 [] [] [] 0).bind fun o2=>D6 (Ex R q1 P1 q2 R2 P2 (c1+d) o o2))=none:=fun hf=>by
  cases e2:ev s2 500 501 [] [] [] 0 with
  | none=>rfl
  | some b =>
   have z2:=(B8 S2 501 _ _ _ _ _ (Hz s2) e2).s
   rw [Pb]
   unfold D6 Ex
   rw [if_neg]
   show ¬ o.2.2+b.2.2+(c1+d)<=500
   omega
 unfold Mq
 by_cases hb:c1+o.2.2<=500
 ·rw [if_pos hb,Pb,hg _ rfl hb]
  show (if 500 < c1+o.2.2+d then none else _)=_
  by_cases hf:500 < c1+o.2.2+d
  ·rw [if_pos hf,far hf]
  ·rw [if_neg hf]
   show ev sub 500 n2 q2 (P2 (Bd R.length o.1)) (R++o.2.1.map (Bj q1 R.length P1)++R2 (Bd R.length o.1)) (c1+o.2.2+d)=_
   rw [Zfu S2 h2 (hP2 _) (by omega) (by omega) (by omega) hn2']
   cases e2:ev s2 500 501 [] [] [] 0 with
   | none=>rfl
   | some b =>
    rw [Pb,Pb]
    unfold Mq D6 Ex
    have ec:c1+o.2.2+d+b.2.2=o.2.2+b.2.2+(c1+d):=by omega
    rw [ec]
 ·rw [if_neg hb]
  symm
  exact far (by omega)
theorem Zhn {wd:Str}{d:Dt}{pl:List Nat}{ar:Ar}{rs:List Rx}(h:wd∈(["num", "truth"]:List Str)):Bz wd d pl ar rs=((wd,C1 d),rs):=by
 unfold Bz Cd
 rw [if_pos h]
theorem Zo9 {d:Dt}{pl:List Nat}{ar:Ar}{rs:List Rx}{z:Str}{y:Str×V}(hd:d=.flat (.str z))(h:Ce ar z=some y):Bz "name" d pl ar rs=(y,rs):=by
 subst hd
 unfold Bz Cd
 rw [if_neg (by decide +kernel)]
 simp only [C1,if_true,h]
theorem Zlf {wd:Str}{d:Dt}{pl:List Nat}{ar:Ar}{rs:List Rx}(h:¬ wd∈(["num", "truth"]:List Str))(h2:wd = "name" -> ∀ z,d=.flat (.str z)->Ce ar z=none)(h3:wd = "name" -> ∃ z,d=.flat (.str z)):Bz wd d pl ar rs=((("row" : Str),V.int (rs.length:Nat)),rs++[⟨wd,An pl,[],if wd∈WA then ar else []⟩]):=by
 unfold Bz Cd
 rw [if_neg h]
 by_cases hn:wd = "name"
 ·obtain ⟨z,rfl⟩:=h3 hn
  simp only [C1,if_pos hn,h2 hn z rfl]
 ·cases C1 d with
  | str z=>simp only [if_neg hn]
  | _=>rfl
theorem way0 {s1 s2 sub:List Nat->Option (Str×Dt)}{x:Str}(S1:SubOk s1)(S2:SubOk s2)(h0:sub []=some (("let" : Str),.flat (.str x)))(h1:∀ pl,sub ([0]++pl)=s1 pl)(h2:∀ pl,sub ([1]++pl)=s2 pl)(hP:∀ v,D3 s2 [(x,v)]):ev sub 500 501 [] [] [] 0=(ev s1 500 501 [] [] [] 0).bind fun o1=>(ev s2 500 501 [] [] [] 0).bind fun o2=>D6 (Ex [] [0] [] [1] (fun _=>[]) (fun v=>[(x,v)]) (1+0) o1 o2):=by
 rw [Zed h0 (by show ¬ (500:Int) < 0+1;decide) rfl]
 show (ev sub 500 500 [0] [] [] 1).bind _=_
 refine Mh (n2:=500) S1 S2 h1 h2 (fun _ _ _ y hy=>nomatch hy) hP (by decide) (by decide) (by decide) (by decide) (by decide) (by decide) (by decide) fun o _ a ha hb=>?_
 rw [if_neg (by omega),Th,Qe]
 rfl
theorem Zlz {wd:Str}{d:Dt}{pl:List Nat}{ar:Ar}{rs:List Rx}(h:wd∈(["fn", "rec"]:List Str)):Bz wd d pl ar rs=((("row" : Str),V.int (rs.length:Nat)),rs++[⟨wd,An pl,[],ar⟩]):=by
 have hw:wd∈WA:=by
  simp only [Pd,Pj,or_false] at h
  rcases h with rfl | rfl <;> decide +kernel
 have hn:¬ wd = "name" := fun e=>by rw [e] at h;revert h;decide +kernel
 rw [Zlf (fun z=>by simp only [Pd,Pj,or_false] at h;rcases h with rfl | rfl <;> (revert z;decide +kernel)) (fun e=>absurd e hn) (fun e=>absurd e hn),if_pos hw]
theorem Lw {sub:List Nat->Option (Str×Dt)}{n:Nat}{pl:List Nat}{ar:Ar}{rs:List Rx}{st:Int}{wd:Str}{d:Dt}(hs:sub pl=some (wd,d))(h:wd∈(["fn", "rec"]:List Str))(hb:st+1<=500):ev sub 500 (n+1) pl ar rs st=some ((("row" : Str),V.int (rs.length:Nat)),rs++[⟨wd,An pl,[],ar⟩],st+1):=by
 have h1:Bc wd=1:=by
  simp only [Pd,Pj,or_false] at h
  unfold Bc
  rw [if_neg]
  rcases h with rfl | rfl <;> decide +kernel
 rw [Oc hs (by rw [h1];omega) (fun z=>by simp only [Pd,Pj,or_false] at h;rcases h with rfl | rfl <;> (revert z;decide +kernel)) (fun z=>by rw [z] at h;revert h;decide +kernel) (fun z=>by rw [z] at h;revert h;decide +kernel),Zlz h,h1]
theorem L8 {rs more:List Rx}{r:Rx}{k:Nat}(hk:rs.length=k)(h:r.wd∈(["fn", "rec"]:List Str)):Bq (rs++r::more) (("row" : Str),V.int (k:Nat))=true:=by
 unfold Bq
 simp only [Qm]
 rw [P6 (by omega),hk,Rb]
 simp only [List.getElem?_cons_zero]
 rw [decide_eq_true h]
 rfl
theorem Mo {sub:List Nat->Option (Str×Dt)}{rs more:List Rx}{r:Rx}{k:Nat}{pl:List Nat}{d:Dt}{y:Str×V}(hk:rs.length=k)(hp:r.pl=An pl)(hs:sub pl=some (r.wd,d)):E3 sub (rs++r::more) (("row" : Str),V.int (k:Nat)) y=some (pl++[0],r.ar++B6 (Ct r.wd d 0) (if r.wd = "rec" then [(("row" : Str),V.int (k:Nat)),y] else [y])):=by
 unfold E3
 simp only [Qm]
 rw [P6 (by omega),hk,Rb]
 simp only [List.getElem?_cons_zero,Pb]
 rw [hp,M8,hs]
 rfl
theorem Zdh {s1 s2 sub:List Nat->Option (Str×Dt)}{wd:Str}{d:Dt}{P2:(Str×V)->Ar}(S1:SubOk s1)(S2:SubOk s2)(hwd:wd∈(["fn", "rec"]:List Str))(h0:sub []=some (("call" : Str),.flat .non))(hf:sub [0]=some (wd,d))(h1:∀ pl,sub ([1]++pl)=s1 pl)(h2:∀ pl,sub ([0,0]++pl)=s2 pl)(hz:∀ y,B6 (Ct wd d 0) (if wd = "rec" then [(("row" : Str),V.int ((0:Nat):Int)),y] else [y])=P2 y)(hP:∀ v,D3 s2 (P2 v)):ev sub 500 501 [] [] [] 0=(ev s1 500 501 [] [] [] 0).bind fun o1=>(ev s2 500 501 [] [] [] 0).bind fun o2=>D6 (Ex [⟨wd,An [0],[],[]⟩] [1] [] [0,0] (fun _=>[]) P2 (2+0) o1 o2):=by
 rw [Lh h0 (by show ¬ (500:Int) < 0+1;decide) (by decide +kernel)]
 show (ev sub 500 (499+1) [0] [] [] (0+1)).bind _=_
 rw [Lw hf hwd (by decide),Pb]
 show (ev sub 500 500 [1] [] [⟨wd,An [0],[],[]⟩] 2).bind _=_
 refine Mh (n2:=500) S1 S2 h1 h2 (fun _ _ _ y hy=>nomatch hy) hP (by decide) (by decide) (by decide) (by decide) (by decide) (by decide) (by decide) fun o _ a ha hb=>?_
 subst ha
 dsimp only at hb ⊢
 generalize evs:ev sub 500 500=ee
 have f1:Bq ([(⟨wd,An [0],[],[]⟩:Rx)]++o.2.1.map (Bj [1] [(⟨wd,An [0],[],[]⟩:Rx)].length [])) (("row" : Str),V.int ((([]:List Rx).length:Nat):Int))=true:=L8 (rs:=[]) rfl hwd
 have f2:E3 sub ([(⟨wd,An [0],[],[]⟩:Rx)]++o.2.1.map (Bj [1] [(⟨wd,An [0],[],[]⟩:Rx)].length [])) (("row" : Str),V.int ((([]:List Rx).length:Nat):Int)) (Bd [(⟨wd,An [0],[],[]⟩:Rx)].length o.1)=some ([0,0],P2 (Bd [(⟨wd,An [0],[],[]⟩:Rx)].length o.1)):=(Mo (rs:=[]) (r:=⟨wd,An [0],[],[]⟩) (k:=0) (pl:=[0]) (d:=d) rfl rfl hf).trans (by rw [<- hz];rfl)
 rw [if_pos ⟨rfl,f1⟩,f2,Pb,if_neg (by omega),Th,Qe]
theorem way3 {s1 s2 sub:List Nat->Option (Str×Dt)}{f x:Str}(S1:SubOk s1)(S2:SubOk s2)(h0:sub []=some (("let" : Str),.flat (.str f)))(hf:sub [0]=some (("fn" : Str),.flat (.str x)))(hc:sub [1]=some (("call" : Str),.flat .non))(hn:sub [1,0]=some (("name" : Str),.flat (.str f)))(h1:∀ pl,sub ([1,1]++pl)=s1 pl)(h2:∀ pl,sub ([0,0]++pl)=s2 pl)(hP1:∀ v,D3 s1 [(f,v)])(hP:∀ v,D3 s2 [(x,v)]):ev sub 500 501 [] [] [] 0=(ev s1 500 501 [] [] [] 0).bind fun o1=>(ev s2 500 501 [] [] [] 0).bind fun o2=>D6 (Ex [⟨"fn",An [0],[],[]⟩] [1,1] [(f,(("row" : Str),V.int ((0:Nat):Int)))] [0,0] (fun _=>[]) (fun v=>[(x,v)]) (4+0) o1 o2):=by
 have hfn:("fn" : Str)∈(["fn", "rec"]:List Str):=by decide +kernel
 rw [Zed h0 (by show ¬ (500:Int) < 0+1;decide) rfl]
 show (ev sub 500 (499+1) [0] [] [] (0+1)).bind _=_
 rw [Lw hf hfn (by decide),Pb]
 show ev sub 500 (499+1) [1] [(f,(("row" : Str),V.int ((0:Nat):Int)))] [⟨"fn",An [0],[],[]⟩] 2=_
 rw [Lh hc (by show ¬ (500:Int) < 2+1;decide) (by decide +kernel)]
 show (ev sub 500 (498+1) [1,0] [(f,(("row" : Str),V.int ((0:Nat):Int)))] [⟨"fn",An [0],[],[]⟩] 3).bind _=_
 rw [Oc hn (by show ¬ (500:Int) < 3+1;decide) (by decide +kernel) (by decide +kernel) (by decide +kernel),Zo9 rfl (y:=(("row" : Str),V.int ((0:Nat):Int))) (by unfold Ce;simp),Pb]
 show (ev sub 500 499 [1,1] [(f,(("row" : Str),V.int ((0:Nat):Int)))] [⟨"fn",An [0],[],[]⟩] 4).bind _=_
 refine Mh (n2:=499) S1 S2 h1 h2 (hP1 _) hP (by decide) (by decide) (by decide) (by decide) (by decide) (by decide) (by decide) fun o _ a ha hb=>?_
 subst ha
 dsimp only at hb ⊢
 generalize evs:ev sub 500 499=ee
 have f1:Bq ([(⟨"fn",An [0],[],[]⟩:Rx)]++o.2.1.map (Bj [1,1] [(⟨"fn",An [0],[],[]⟩:Rx)].length [(f,(("row" : Str),V.int ((0:Nat):Int)))])) (("row" : Str),V.int ((0:Nat):Int))=true:=L8 (rs:=[]) rfl hfn
 have f2:E3 sub ([(⟨"fn",An [0],[],[]⟩:Rx)]++o.2.1.map (Bj [1,1] [(⟨"fn",An [0],[],[]⟩:Rx)].length [(f,(("row" : Str),V.int ((0:Nat):Int)))])) (("row" : Str),V.int ((0:Nat):Int)) (Bd [(⟨"fn",An [0],[],[]⟩:Rx)].length o.1)=some ([0,0],[(x,Bd [(⟨"fn",An [0],[],[]⟩:Rx)].length o.1)]):=(Mo (rs:=[]) (r:=⟨"fn",An [0],[],[]⟩) (k:=0) (pl:=[0]) rfl rfl hf).trans rfl
 rw [if_pos ⟨rfl,f1⟩,f2,Pb,if_neg (by omega),Th,Qe]
theorem way4 {s1 s2 sub:List Nat->Option (Str×Dt)}{x z:Str}{N:Int}(S1:SubOk s1)(S2:SubOk s2)(h0:sub []=some (("call" : Str),.flat .non))(hc:sub [0]=some (("call" : Str),.flat .non))(hf:sub [0,0]=some (("fn" : Str),.flat (.str x)))(hk:sub [0,0,0]=some (("fn" : Str),.flat (.str z)))(hm:sub [1]=some (("num" : Str),.flat (.int N)))(h1:∀ pl,sub ([0,1]++pl)=s1 pl)(h2:∀ pl,sub ([0,0,0,0]++pl)=s2 pl)(hP:∀ v,D3 s2 [(x,v),(z,(("num" : Str),V.int N))]):ev sub 500 501 [] [] [] 0=(ev s1 500 501 [] [] [] 0).bind fun o1=>(ev s2 500 501 [] [] [] 0).bind fun o2=>D6 (Ex [⟨"fn",An [0,0],[],[]⟩] [0,1] [] [0,0,0,0] (fun v=>[⟨"fn",An [0,0,0],[],[(x,v)]⟩]) (fun v=>[(x,v),(z,(("num" : Str),V.int N))]) (3+2) o1 o2):=by
 have hfn:("fn" : Str)∈(["fn", "rec"]:List Str):=by decide +kernel
 rw [Lh h0 (by show ¬ (500:Int) < 0+1;decide) (by decide +kernel)]
 show (ev sub 500 (499+1) [0] [] [] 1).bind _=_
 rw [Lh hc (by show ¬ (500:Int) < 1+1;decide) (by decide +kernel)]
 show ((ev sub 500 (498+1) [0,0] [] [] 2).bind _).bind _=_
 rw [Lw hf hfn (by decide),Pb]
 show ((ev sub 500 499 [0,1] [] [⟨"fn",An [0,0],[],[]⟩] 3).bind _).bind _=_
 rw [Option.bind_assoc]
 refine Mh (n2:=500) S1 S2 h1 h2 (fun _ _ _ y hy=>nomatch hy) hP (by decide) (by decide) (by decide) (by decide) (by decide) (by decide) (by decide) fun o _ a ha hb=>?_
 subst ha
 dsimp only at hb ⊢
 have f1:Bq ([(⟨"fn",An [0,0],[],[]⟩:Rx)]++o.2.1.map (Bj [0,1] [(⟨"fn",An [0,0],[],[]⟩:Rx)].length [])) (("row" : Str),V.int ((([]:List Rx).length:Nat):Int))=true:=L8 (rs:=[]) rfl hfn
 have f2:E3 sub ([(⟨"fn",An [0,0],[],[]⟩:Rx)]++o.2.1.map (Bj [0,1] [(⟨"fn",An [0,0],[],[]⟩:Rx)].length [])) (("row" : Str),V.int ((([]:List Rx).length:Nat):Int)) (Bd [(⟨"fn",An [0,0],[],[]⟩:Rx)].length o.1)=some ([0,0,0],[(x,Bd [(⟨"fn",An [0,0],[],[]⟩:Rx)].length o.1)]):=(Mo (rs:=[]) (r:=⟨"fn",An [0,0],[],[]⟩) (k:=0) (pl:=[0,0]) rfl rfl hf).trans rfl
 rw [if_pos ⟨rfl,f1⟩,f2,Pb]
 dsimp only
 generalize [(⟨"fn",An [0,0],[],[]⟩:Rx)]++o.2.1.map (Bj [0,1] [(⟨"fn",An [0,0],[],[]⟩:Rx)].length [])=rs
 generalize Bd [(⟨"fn",An [0,0],[],[]⟩:Rx)].length o.1=v
 generalize 3+o.2.2=s at hb ⊢
 by_cases b1:s+1<=500
 ·rw [show (499:Nat)=498+1 from rfl,Lw hk hfn b1,Pb]
  dsimp only
  by_cases b2:s+1+1<=500
  ·have g1:Bq (rs++[(⟨"fn",An [0,0,0],[],[(x,v)]⟩:Rx)]) (("row" : Str),V.int (rs.length:Nat))=true:=L8 rfl hfn
   have g2:E3 sub (rs++[(⟨"fn",An [0,0,0],[],[(x,v)]⟩:Rx)]) (("row" : Str),V.int (rs.length:Nat)) (("num" : Str),V.int N)=some ([0,0,0,0],[(x,v),(z,(("num" : Str),V.int N))]):=(Mo (r:=⟨"fn",An [0,0,0],[],[(x,v)]⟩) (pl:=[0,0,0]) rfl rfl hk).trans rfl
   have g3:ev sub 500 500 ([]++[1]) [] (rs++[(⟨"fn",An [0,0,0],[],[(x,v)]⟩:Rx)]) (s+1)=some ((("num" : Str),V.int N),rs++[(⟨"fn",An [0,0,0],[],[(x,v)]⟩:Rx)],s+1+1):=by
    rw [show (500:Nat)=499+1 from rfl]
    refine (Oc hm (by show ¬ (500:Int) < s+1+1;omega) (by decide +kernel) (by decide +kernel) (by decide +kernel)).trans ?_
    rw [Zhn (by decide +kernel)]
    rfl
   rw [g3,Pb]
   dsimp only
   rw [if_pos ⟨rfl,g1⟩,g2,Pb,if_neg (by omega),show s+2=s+1+1 by omega]
  ·have g3:ev sub 500 500 ([]++[1]) [] (rs++[(⟨"fn",An [0,0,0],[],[(x,v)]⟩:Rx)]) (s+1)=none:=by
    rw [show (500:Nat)=499+1 from rfl]
    exact Zb6 hm (by show (500:Int) < s+1+1;omega)
   rw [g3,if_pos (by omega)]
   rfl
 ·rw [show (499:Nat)=498+1 from rfl,Zb6 hk (by show (500:Int) < s+1;omega),if_pos (by omega)]
  rfl
noncomputable def r0:Str×V:=(("row" : Str),V.int ((0:Nat):Int))
noncomputable def Ha:Int:=999999999999999999
noncomputable def wR:Nat->List Rx
 | 0=>[]
 | 2=>[⟨"rec",An [0],[],[]⟩]
 | 4=>[⟨"fn",An [0,0],[],[]⟩]
 | _=>[⟨"fn",An [0],[],[]⟩]
noncomputable def Fu:Nat->List Nat
 | 0=>[0]
 | 3=>[1,1]
 | 4=>[0,1]
 | _=>[1]
noncomputable def Hk (w:Nat)(n1:Str):Ar:=if w=3 then [(n1,r0)] else []
noncomputable def Fx:Nat->List Nat
 | 0=>[1]
 | 4=>[0,0,0,0]
 | _=>[0,0]
noncomputable def wR2 (w:Nat)(n0:Str)(x:Str×V):List Rx:=if w=4 then [⟨"fn",An [0,0,0],[],[(n0,x)]⟩] else []
noncomputable def Hm (w:Nat)(n0 n1 n2:Str)(x:Str×V):Ar:=if w=4 then [(n0,x),(n2,(("num" : Str),V.int Ha))] else if w=2 then [(n1,r0),(n0,x)] else [(n0,x)]
noncomputable def wm:Nat->Int
 | 0=>1
 | 3=>4
 | 4=>5
 | _=>2
noncomputable def wE (w:Nat)(n0 n1 n2:Str)(o1 o2:Er):Er:=Ex (wR w) (Fu w) (Hk w n1) (Fx w) (wR2 w n0) (Hm w n0 n1 n2) (wm w) o1 o2
noncomputable def nmT (x:Str):Tr:=.mk "name" (.flat (.str x)) []
noncomputable def Hl (x:Str)(t:Tr):Tr:=.mk "fn" (.flat (.str x)) [t]
noncomputable def Fk (a b:Tr):Tr:=.mk "call" (.flat .non) [a,b]
noncomputable def wT:Nat->Str->Str->Str->Tr->Tr->Tr
 | 0,n0,_,_,t1,t2=>.mk "let" (.flat (.str n0)) [t1,t2]
 | 1,n0,_,_,t1,t2=>Fk (Hl n0 t2) t1
 | 2,n0,n1,_,t1,t2=>Fk (.mk "rec" (.tup [.flat (.str n1),.flat (.str n0)]) [t2]) t1
 | 3,n0,n1,_,t1,t2=>.mk "let" (.flat (.str n1)) [Hl n0 t2,Fk (nmT n1) t1]
 | _,n0,_,n2,t1,t2=>Fk (Fk (Hl n0 (Hl n2 t2)) t1) (.mk "num" (.flat (.int Ha)) [])
theorem Zkh {n0 n1 n2:Str}{t1 t2:Tr}(h1:Tf t1)(h2:Tf t2):∀ w,Tf (wT w n0 n1 n2 t1 t2)
 | 0=>Gh Za5 h1 h2
 | 1=>Gh (Gz (by decide +kernel)) (K6 Iw h2) h1
 | 2=>Gh (Gz (by decide +kernel)) (K6 Zbr h2) h1
 | 3=>Gh Za5 (K6 Iw h2) (Gh (Gz (by decide +kernel)) (Zes Ze5) h1)
 | _+4=>Gh (Gz (by decide +kernel)) (Gh (Gz (by decide +kernel)) (K6 Iw (K6 Iw h2)) h1) (Zes Zcs)
theorem Zpb {n0 n1 n2:Str}{t1 t2:Tr}:∀ w,(wT w n0 n1 n2 t1 t2).size<=t1.size+t2.size+5
 | 0=>by simp [wT,Tr.size,Bx];omega
 | 1=>by simp [wT,Fk,Hl,Tr.size,Bx];omega
 | 2=>by simp [wT,Fk,Tr.size,Bx];omega
 | 3=>by simp [wT,Fk,Hl,nmT,Tr.size,Bx];omega
 | _+4=>by simp [wT,Fk,Hl,Tr.size,Bx];omega
theorem B0 {wd:Str}{d:Dt}{ts:List Tr}{t:Tr}{i:Nat}(h:ts[i]?=some t)(pl:List Nat):Be (.mk wd d ts) (i::pl)=Be t pl:=by
 rw [Io,Io,Gy,h]
 rfl
theorem Du {wd:Str}{d:Dt}{ts:List Tr}:Be (.mk wd d ts) []=some (wd,d):=by rw [Io,Hc];rfl
theorem Zlo {t1 t2:Tr}{n0 n1 n2:Str}(S1:SubOk (Be t1))(S2:SubOk (Be t2))(h1:∀ v,D3 (Be t1) [(n1,v)])(h20:∀ v,D3 (Be t2) [(n0,v)])(h21:∀ v,D3 (Be t2) [(n1,v)])(h22:∀ v,D3 (Be t2) [(n2,v)]):∀ w,w < 5->ev (Be (wT w n0 n1 n2 t1 t2)) 500 501 [] [] [] 0=(ev (Be t1) 500 501 [] [] [] 0).bind fun o1=>(ev (Be t2) 500 501 [] [] [] 0).bind fun o2=>D6 (wE w n0 n1 n2 o1 o2)
 | 0,_=>by
  refine (way0 S1 S2 (sub:=Be (wT 0 n0 n1 n2 t1 t2)) Du (fun pl=>B0 rfl pl) (fun pl=>B0 rfl pl) h20).trans ?_
  generalize ev (Be t1) 500 501 [] [] [] 0=E1
  generalize ev (Be t2) 500 501 [] [] [] 0=E2
  rfl
 | 1,_=>by
  refine (Zdh S1 S2 (sub:=Be (wT 1 n0 n1 n2 t1 t2)) (wd := "fn") (P2:=fun v=>[(n0,v)]) (by decide +kernel) Du ((B0 rfl _).trans Du) (fun pl=>B0 rfl pl) (fun pl=>(B0 rfl _).trans (B0 rfl pl)) (fun _=>rfl) h20).trans ?_
  generalize ev (Be t1) 500 501 [] [] [] 0=E1
  generalize ev (Be t2) 500 501 [] [] [] 0=E2
  rfl
 | 2,_=>by
  refine (Zdh S1 S2 (sub:=Be (wT 2 n0 n1 n2 t1 t2)) (wd := "rec") (P2:=fun v=>[(n1,r0),(n0,v)]) (by decide +kernel) Du ((B0 rfl _).trans Du) (fun pl=>B0 rfl pl) (fun pl=>(B0 rfl _).trans (B0 rfl pl)) (fun _=>rfl) (fun v pl z hs y hy=>?_)).trans ?_
  ·rcases Pd.mp hy with rfl | hy
   ·exact h21 r0 pl z hs _ (P4.mpr rfl)
   ·exact h20 v pl z hs _ hy
  generalize ev (Be t1) 500 501 [] [] [] 0=E1
  generalize ev (Be t2) 500 501 [] [] [] 0=E2
  rfl
 | 3,_=>by
  refine (way3 S1 S2 (sub:=Be (wT 3 n0 n1 n2 t1 t2)) Du ((B0 rfl _).trans Du) ((B0 rfl _).trans Du) ((B0 rfl _).trans ((B0 rfl _).trans Du)) (fun pl=>(B0 rfl _).trans (B0 rfl pl)) (fun pl=>(B0 rfl _).trans (B0 rfl pl)) h1 h20).trans ?_
  generalize ev (Be t1) 500 501 [] [] [] 0=E1
  generalize ev (Be t2) 500 501 [] [] [] 0=E2
  rfl
 | 4,_=>by
  refine (way4 S1 S2 (sub:=Be (wT 4 n0 n1 n2 t1 t2)) (N:=Ha) Du ((B0 rfl _).trans Du) ((B0 rfl _).trans ((B0 rfl _).trans Du)) ((B0 rfl _).trans ((B0 rfl _).trans ((B0 rfl _).trans Du))) ((B0 rfl _).trans Du) (fun pl=>(B0 rfl _).trans (B0 rfl pl)) (fun pl=>(B0 rfl _).trans ((B0 rfl _).trans ((B0 rfl _).trans (B0 rfl pl)))) (fun v pl z hs y hy=>?_)).trans ?_
  ·rcases Pd.mp hy with rfl | hy
   ·exact h20 v pl z hs _ (P4.mpr rfl)
   ·exact h22 _ pl z hs _ hy
  generalize ev (Be t1) 500 501 [] [] [] 0=E1
  generalize ev (Be t2) 500 501 [] [] [] 0=E2
  rfl
 | _+5,h=>absurd h (by omega)
theorem Zop {ts:List Str}{t u:Tr}:∀{pl:List Nat},TfN ts t->Di t pl=some u->TfN ts u:=by
 intro pl
 induction pl generalizing t with
 | nil=>intro h e;rw [Hc] at e;cases e;exact h
 | cons i r ih =>
  intro h e
  cases t with
  | mk w n ps =>
   rw [Gy] at e
   obtain ⟨x,hx,e⟩:=Px.mp e
   cases h with
   | mk hw hs=>exact ih (hs x (Qs hx)) e
theorem L7 {ts:List Str}{t:Tr}(h:TfN ts t){x:Str}(hx:¬ x∈ts.take 5)(v:Str×V):D3 (Be t) [(x,v)]:=fun pl z hs y hy=>by
 rw [P4.mp hy]
 show x≠z
 intro e
 obtain ⟨u,hu,e2⟩:=Jd hs
 have:=Zop h hu
 cases this with
 | mk hw _ =>
  injection e2 with e3 e4
  exact hx (by rw [e];exact hw.nm e3.symm z e4.symm)
section
variable {P:Program}{w:World}{K:O6}{mg:Str->Option Value}{base:Heap}
theorem Za2 {K:O6}{H:Hp}{wd:Str}{pl:List Nat}{pv:List V}(epv:pv=Bp pl){p o e a hd:Addr}(hp:H p=none)(ho:upd H p (.tup pv) o=none)(he:upd (upd H p (.tup pv)) o (.lst []) e=none)(ha:upd (upd (upd H p (.tup pv)) o (.lst [])) e (.lst []) a=none)(hh:upd (upd (upd (upd H p (.tup pv)) o (.lst [])) e (.lst [])) a (.tup [.str wd,.ref p,.ref o,.ref e]) hd=none):Same H (upd (upd (upd (upd (upd H p (.tup pv)) o (.lst [])) e (.lst [])) a (.tup [.str wd,.ref p,.ref o,.ref e])) hd (.lst [.ref a]))/\upd (upd (upd (upd (upd H p (.tup pv)) o (.lst [])) e (.lst [])) a (.tup [.str wd,.ref p,.ref o,.ref e])) hd (.lst [.ref a]) hd=some (.lst [.ref a])/\Al (RwAt K (fun _=>False) (upd (upd (upd (upd (upd H p (.tup pv)) o (.lst [])) e (.lst [])) a (.tup [.str wd,.ref p,.ref o,.ref e])) hd (.lst [.ref a]))) [.ref a] [⟨wd,An pl,[],[]⟩]:=by
 have s1:=Same.upd (o:=.tup pv) hp
 have s2:=Same.upd (o:=.lst []) ho
 have s3:=Same.upd (o:=.lst []) he
 have s4:=Same.upd (o:=.tup [.str wd,.ref p,.ref o,.ref e]) ha
 have s5:=Same.upd (o:=.lst [.ref a]) hh
 refine ⟨s1.trans (s2.trans (s3.trans (s4.trans s5))),Ad,Al.nil.snoc ⟨a,p,o,e,[],[],rfl,s5.tup (SqT.of Ad),?_,(s3.trans (s4.trans s5)) _ _ Ad,.nil,(s4.trans s5) _ _ Ad,.nil,id,id⟩⟩
 have e0:(An pl).map V.int=pv:=by rw [epv];exact Ib _
 show SqT K _ p ((An pl).map V.int)
 rw [e0]
 exact (s2.trans (s3.trans (s4.trans s5))).tup (SqT.of Ad)
noncomputable def Zga (K:O6):Sp:=fun vs H Q _=>∃(w:Nat)(pn:Addr)(n0 n1 n2:Str)(v1:V),vs=[.int (w:Nat),.ref pn,v1]/\w < 5/\H pn=some (.lst [.str n0,.str n1,.str n2])/\∀(r hd a1 pd a2:Addr)(hv pv:List V)(H':Hp),Same H H'->SqT K H' r [.ref hd,.ref a1,.ref pd,.ref a2,.int (wm w)]->H' hd=some (.lst hv)->Al (RwAt K (fun _=>False) H') hv (wR w)->SqT K H' a1 (Bp (Fu w))->H' pd=some (.lst pv)->Al (PrAt K H') pv (Hk w n1)->SqT K H' a2 (Bp (Fx w))->Q (.ref r) H'
theorem N8:Bl ["_law_way_of", "_law_names_here", "_law_first", "_law_heads_here"] ["_law_way_of", "_law_names_here", "_law_first"] (A9 Kz):=by walk_at "sc"
theorem Zpn {f:Addr}{fd:FuncData}(F:Fun K "_law_heads" "_law_heads" Kz f fd)(T:Txt K mg):Az P w K mg base Aw 1 f fd ["_law_way_of", "_law_names_here", "_law_first"] (Zga K):=by
 refine F.okq N8 (fun vs H Q E h=>?_) (fun cdv A outer s H vs Q E hr h=>?_)
 ·obtain ⟨w,pn,n0,n1,n2,v1,rfl,_⟩:=h
  rfl
 ·obtain ⟨w,pn,n0,n1,n2,v1,rfl,hw,hpn,q⟩:=h
  refine ⟨_,Ae (Au 3 N8 (Bg (Aa (Ag (Aa Aj (Aa (Ag (Aa Ac Ab)) (Aa (Bg Ab) (Aa (Bg Ab) Ab))))) Ab)))
   (Ae (Av (Ax (A7 K hr.u200) (qv 0) Ac (As _)) (Af (Ap (Ag (Aa (Bg Ab) (Aa (Ag (Aa Ac Ab)) (Aa (Bg Ab) (Aa (Ag (Aa Ac Ab)) (Aa Ac Ab)))))))) Ay)
   (Ae (Av (Ax (A7 K hr.u200) (qv 0) Ac (As _)) (Af (Ap (Ag (Aa (qv 3) (Aa (Ag (Aa Ac Ab)) (Aa (Bg Ab) (Aa (Ag (Aa Ac (Aa Ac Ab))) (Aa Ac Ab)))))))) Ay)
   (Ae (Av (Ax (A7 K hr.u200) (qv 0) Ac (As _)) (Af (Ap (Ag (Aa (Bg (Aa (Ag (Aa Aj (Aa (Ag (Aa Ac (Aa Ac Ab))) (Aa (Bg Ab) (Aa (Bg Ab) Ab))))) Ab)) (Aa (Ag (Aa Ac (Aa Ac Ab))) (Aa (Bg Ab) (Aa (Ag (Kl (xs:=[.int 0,.int 0,.int 0,.int 0]) rfl)) (Aa Ac Ab)))))))) Ay)
   (Ae (Au 3 N8 (Bg (Aa (Ag (Aa Aj (Aa (Ag (Aa Ac Ab)) (Aa (Bg Ab) (Aa (Bg Ab) Ab))))) Ab)))
   (Ae (Av (Ax (A7 K hr.u200) (qv 0) Ac (As _)) (Af (Ap (Ag (Aa (qv 3) (Aa (Ag (Aa Ac Ab)) (Aa (Bg Ab) (Aa (Ag (Aa Ac (Aa Ac Ab))) (Aa Ac Ab)))))))) Ay)
   (Af (Ap (Ag (Aa (qv 3) (Aa (Ag (Aa Ac (Aa Ac Ab))) (Aa (Bg (Aa (Ag (Aa (Am K (qv 1) Ac) (Aa (Ag (Aa Aj (Aa Ac Ab))) Ab))) Ab)) (Aa (Ag (Aa Ac (Aa Ac Ab))) (Aa Ac Ab))))))))))))),?_⟩
  have bg:=big
  have dw:∀ k:Nat,decide (V.int ((w:Nat):Int)=V.int ((k:Nat):Int))=true->w=k:=fun k h=>by
   have h:=of_decide_eq_true h
   injection h with h
   exact Int.ofNat.inj h
  have nw:∀ k:Nat,¬ decide (V.int ((w:Nat):Int)=V.int ((k:Nat):Int))=true->w≠k:=fun k h e=>h (decide_eq_true (by rw [e]))
  have fin:∀(H1:Hp)(hd a1:Addr)(hv pv:List V),Same H H1->H1 hd=some (.lst hv)->Al (RwAt K (fun _=>False) H1) hv (wR w)->SqT K H1 a1 (Bp (Fu w))->Al (PrAt K H1) pv (Hk w n1)->∀ pd,H1 pd=none->∀ a2,upd H1 pd (.lst pv) a2=none->∀ r,upd (upd H1 pd (.lst pv)) a2 (.tup (Bp (Fx w))) r=none->Q (.ref r) (upd (upd (upd H1 pd (.lst pv)) a2 (.tup (Bp (Fx w)))) r (.tup [.ref hd,.ref a1,.ref pd,.ref a2,.int (wm w)])):=fun H1 hd a1 hv pv s0 h1 h2 h3 h4 pd hpd a2 ha2 r hr'=>by
   have s1:=Same.upd (o:=.lst pv) hpd
   have s2:=Same.upd (o:=.tup (Bp (Fx w))) ha2
   have s3:=Same.upd (o:=.tup [.ref hd,.ref a1,.ref pd,.ref a2,.int (wm w)]) hr'
   have s:=s1.trans (s2.trans s3)
   exact q r hd a1 pd a2 hv pv _ (s0.trans s) (SqT.of Ad) (s _ _ h1) (h2.mono (RwAt.same s.a)) (s.tup h3) ((s2.trans s3) _ _ Ad) (h4.mono (PrAt.same s.t)) (s3.tup (SqT.of Ad))
  walk_at "r"
  refine ⟨B7,fun p hp=>?_⟩
  walk_at "r"
  refine ⟨Bk,fun o ho=>?_⟩
  walk_at "r"
  refine ⟨Bk,fun e he=>?_⟩
  walk_at "r"
  refine ⟨F5,fun a ha=>?_⟩
  walk_at "r"
  refine ⟨B7,fun hd hhd=>?_⟩
  obtain ⟨s1,e1,al1⟩:=Za2 (K:=K) (wd := "rec") (pl:=[0]) (pv:=[.int 0]) rfl hp ho he ha hhd
  revert s1 e1 al1
  generalize upd (upd (upd (upd (upd H p _) o _) e _) a _) hd _=H1
  intro s1 e1 al1
  clear hp ho he ha hhd
  walk_at "r"
  refine Bb (fun h=>?_) (fun h0=>?_)
  ·obtain rfl:=dw 0 h
   walk_at "r"
   refine ⟨Bk,fun hd' hh=>?_⟩
   have y1:=Same.upd (o:=.lst []) hh
   walk_at "r"
   refine ⟨B7,fun a1 h1=>?_⟩
   have y2:=Same.upd (o:=.tup [.int 0]) h1
   walk_at "r"
   refine ⟨Bk,fun pd h2=>?_⟩
   walk_at "r"
   refine ⟨B7,fun a2 h3=>?_⟩
   walk_at "r"
   refine ⟨sz5,fun r h4=>?_⟩
   exact fin _ hd' a1 [] [] (s1.trans (y1.trans y2)) (y2 _ _ Ad) .nil (SqT.of Ad) .nil pd h2 a2 h3 r h4
  have h0:=nw 0 h0
  walk_at "r"
  refine Bb (fun h=>?_) (fun h2=>?_)
  ·obtain rfl:=dw 2 h
   walk_at "r"
   refine ⟨B7,fun a1 h1=>?_⟩
   have y2:=Same.upd (o:=.tup [.int 1]) h1
   walk_at "r"
   refine ⟨Bk,fun pd h2=>?_⟩
   walk_at "r"
   refine ⟨Bh,fun a2 h3=>?_⟩
   walk_at "r"
   refine ⟨sz5,fun r h4=>?_⟩
   exact fin _ hd a1 _ [] (s1.trans y2) (y2 _ _ e1) (al1.mono (RwAt.same y2.a)) (SqT.of Ad) .nil pd h2 a2 h3 r h4
  have h2:=nw 2 h2
  walk_at "r"
  refine Bb (fun h=>?_) (fun h4=>?_)
  ·obtain rfl:=dw 4 h
   walk_at "r"
   refine ⟨Bh,fun p hp=>?_⟩
   walk_at "r"
   refine ⟨Bk,fun o ho=>?_⟩
   walk_at "r"
   refine ⟨Bk,fun e he=>?_⟩
   walk_at "r"
   refine ⟨F5,fun a ha=>?_⟩
   walk_at "r"
   refine ⟨B7,fun hd hhd=>?_⟩
   obtain ⟨s2,e2,al2⟩:=Za2 (K:=K) (wd := "fn") (pl:=[0,0]) (pv:=[.int 0,.int 0]) rfl hp ho he ha hhd
   revert s2 e2 al2
   generalize upd (upd (upd (upd (upd H1 p _) o _) e _) a _) hd _=H2
   intro s2 e2 al2
   walk_at "r"
   refine ⟨Bh,fun a1 h1=>?_⟩
   have y2:=Same.upd (o:=.tup [.int 0,.int 1]) h1
   walk_at "r"
   refine ⟨Bk,fun pd h2=>?_⟩
   walk_at "r"
   refine ⟨F5,fun a2 h3=>?_⟩
   walk_at "r"
   refine ⟨sz5,fun r h4=>?_⟩
   exact fin _ hd a1 _ [] (s1.trans (s2.trans y2)) (y2 _ _ e2) (al2.mono (RwAt.same y2.a)) (SqT.of Ad) .nil pd h2 a2 h3 r h4
  have h4:=nw 4 h4
  walk_at "r"
  refine ⟨B7,fun p hp=>?_⟩
  walk_at "r"
  refine ⟨Bk,fun o ho=>?_⟩
  walk_at "r"
  refine ⟨Bk,fun e he=>?_⟩
  walk_at "r"
  refine ⟨F5,fun a ha=>?_⟩
  walk_at "r"
  refine ⟨B7,fun hd hhd=>?_⟩
  obtain ⟨s2,e2,al2⟩:=Za2 (K:=K) (wd := "fn") (pl:=[0]) (pv:=[.int 0]) rfl hp ho he ha hhd
  revert s2 e2 al2
  generalize upd (upd (upd (upd (upd H1 p _) o _) e _) a _) hd _=H2
  intro s2 e2 al2
  clear hp ho he ha hhd
  walk_at "r"
  refine Bb (fun h=>?_) (fun h1=>?_)
  ·obtain rfl:=dw 1 h
   walk_at "r"
   refine ⟨B7,fun a1 h1=>?_⟩
   have y2:=Same.upd (o:=.tup [.int 1]) h1
   walk_at "r"
   refine ⟨Bk,fun pd h2=>?_⟩
   walk_at "r"
   refine ⟨Bh,fun a2 h3=>?_⟩
   walk_at "r"
   refine ⟨sz5,fun r h4=>?_⟩
   exact fin _ hd a1 _ [] (s1.trans (s2.trans y2)) (y2 _ _ e2) (al2.mono (RwAt.same y2.a)) (SqT.of Ad) .nil pd h2 a2 h3 r h4
  have h1:=nw 1 h1
  obtain rfl:w=3:=by omega
  walk_at "r"
  refine ⟨Bh,fun a1 h1=>?_⟩
  have y2:=Same.upd (o:=.tup [.int 1,.int 1]) h1
  have k2:SqT K (upd H2 a1 (.tup [.int 1,.int 1])) a1 (Bp [1,1]):=SqT.of Ad
  revert y2 k2
  generalize upd H2 a1 _=H3
  intro y2 k2
  walk_at "r"
  refine A8 (SqL.of ((s1.trans (s2.trans y2)) _ _ hpn)) (v:=.str n1) rfl ?_
  walk_at "r"
  refine ⟨Bh,fun b1 g1=>?_⟩
  have y3:=Same.upd (o:=.tup [.str "row",.int 0]) g1
  walk_at "r"
  refine ⟨Bh,fun b2 g2=>?_⟩
  have y4:=Same.upd (o:=.tup [.str n1,.ref b1]) g2
  walk_at "r"
  refine ⟨B7,fun pd h2=>?_⟩
  walk_at "r"
  refine ⟨Bh,fun a2 h3=>?_⟩
  walk_at "r"
  refine ⟨sz5,fun r h4=>?_⟩
  have y34:=y3.trans y4
  exact fin _ hd a1 _ [.ref b2] (s1.trans (s2.trans (y2.trans y34))) ((y2.trans y34) _ _ e2) (al2.mono (RwAt.same (y2.trans y34).a)) (y34.tup k2) (Al.nil.snoc ⟨b2,.ref b1,rfl,SqT.of Ad,rfl,b1,rfl,y4.tup (SqT.of Ad)⟩) pd h2 a2 h3 r h4
theorem Dx {K:O6}{H:Hp}{wd:Str}{nv:V}{n:Dt}{us:List V}{ts:List Tr}{p b:Addr}(hn:IsN K H nv n)(al:Al (TrAt K H) us ts)(h1:H p=none)(h2:upd H p (.tup us) b=none):Same H (upd (upd H p (.tup us)) b (.tup [.str wd,nv,.ref p]))/\TrAt K (upd (upd H p (.tup us)) b (.tup [.str wd,nv,.ref p])) (.ref b) (.mk wd n ts):=by
 have s1:=Same.upd (o:=.tup us) h1
 have s2:=Same.upd (o:=.tup [.str wd,nv,.ref p]) h2
 have s:=s1.trans s2
 exact ⟨s,Oo Ad (hn.same s.t) (s2 _ _ Ad) (al.mono fun v t h=>h.same s)⟩
noncomputable def Zfl (K:O6):Sp:=fun vs H Q _=>∃(w:Nat)(v1 v2:V)(pn:Addr)(n0 n1 n2:Str)(t1 t2:Tr),vs=[.int (w:Nat),v1,v2,.ref pn]/\w < 5/\TrAt K H v1 t1/\TrAt K H v2 t2/\H pn=some (.lst [.str n0,.str n1,.str n2])/\∀ v H',Same H H'->TrAt K H' v (wT w n0 n1 n2 t1 t2)->Q v H'
theorem Os:Bl ["_law_way_of", "_law_one", "_law_other", "_law_names_here", "_law_body"] ["_law_way_of", "_law_one", "_law_other", "_law_names_here"] (A9 J6):=by walk_at "sc"
theorem Zib {f:Addr}{fd:FuncData}(F:Fun K "_law_tree" "_law_tree" J6 f fd)(T:Txt K mg):Az P w K mg base Aw 1 f fd ["_law_way_of", "_law_one", "_law_other", "_law_names_here"] (Zfl K):=by
 refine F.okq Os (fun vs H Q E h=>?_) (fun cdv A outer s H vs Q E hr h=>?_)
 ·obtain ⟨w,v1,v2,pn,n0,n1,n2,t1,t2,rfl,_⟩:=h
  rfl
 ·obtain ⟨w,v1,v2,pn,n0,n1,n2,t1,t2,rfl,hw,T1,T2,hpn,q⟩:=h
  refine ⟨_,Ae (Av (Ax (A7 K hr.u200) (qv 0) Ac (As _)) (Af (Ap (Ag (Aa Aj (Aa (Am K (qv 3) Ac) (Aa (Ag (Aa (qv 1) (Aa (qv 2) Ab))) Ab)))))) Ay)
   (Ae (Av (Ax (A7 K hr.u200) (qv 0) Ac (As _)) (Af (Ap (Ag (Aa Aj (Aa Ek (Aa (Ag (Aa (Ag (Aa Aj (Aa (Am K (qv 3) Ac) (Aa (Ag (Aa (qv 2) Ab)) Ab)))) (Aa (qv 1) Ab))) Ab)))))) Ay)
   (Ae (Av (Ax (A7 K hr.u200) (qv 0) Ac (As _)) (Af (Ap (Ag (Aa Aj (Aa Ek (Aa (Ag (Aa (Ag (Aa Aj (Aa (Ag (Aa (Am K (qv 3) Ac) (Aa (Am K (qv 3) Ac) Ab))) (Aa (Ag (Aa (qv 2) Ab)) Ab)))) (Aa (qv 1) Ab))) Ab)))))) Ay)
   (Ae (Av (Ax (A7 K hr.u200) (qv 0) Ac (As _)) (Ae (Au 4 Os (Ag (Aa Aj (Aa Ek (Aa (Ag (Aa (Ag (Aa Aj (Aa (Am K (qv 3) Ac) (Aa (Ag Ab) Ab)))) (Aa (qv 1) Ab))) Ab)))))
   (Af (Ap (Ag (Aa Aj (Aa (Am K (qv 3) Ac) (Aa (Ag (Aa (Ag (Aa Aj (Aa (Am K (qv 3) Ac) (Aa (Ag (Aa (qv 2) Ab)) Ab)))) (Aa (qv 4) Ab))) Ab))))))) Ay)
   (Ae (Au 4 Os (Ag (Aa Aj (Aa (Am K (qv 3) Ac) (Aa (Ag (Aa (Ag (Aa Aj (Aa (Am K (qv 3) Ac) (Aa (Ag (Aa (qv 2) Ab)) Ab)))) Ab)) Ab)))))
   (Af (Ap (Ag (Aa Aj (Aa Ek (Aa (Ag (Aa (Ag (Aa Aj (Aa Ek (Aa (Ag (Aa (qv 4) (Aa (qv 1) Ab))) Ab)))) (Aa (Ag (Aa Aj (Aa (Ah Ds (Ah Ii Ac Ac) Ac) (Aa (Ag Ab) Ab)))) Ab))) Ab)))))))))),?_⟩
  have bg:=big
  have dw:∀ k:Nat,decide (V.int ((w:Nat):Int)=V.int ((k:Nat):Int))=true->w=k:=fun k h=>by
   have h:=of_decide_eq_true h
   injection h with h
   exact Int.ofNat.inj h
  have nw:∀ k:Nat,¬ decide (V.int ((w:Nat):Int)=V.int ((k:Nat):Int))=true->w≠k:=fun k h e=>h (decide_eq_true (by rw [e]))
  have ix0:∀{H'},Same H H'->SqL K H' pn [.str n0,.str n1,.str n2]:=fun s=>SqL.of (s _ _ hpn)
  have fl:∀{H':Hp}{x:Str},IsN K H' (.str x) (.flat (.str x)):=.inl ⟨rfl,rfl⟩
  have fn0:∀{H':Hp},IsN K H' .non (.flat .non):=.inl ⟨rfl,rfl⟩
  walk_at "r"
  refine Bb (fun h=>?_) (fun h0=>?_)
  ·obtain rfl:=dw 0 h
   walk_at "r"
   refine A8 (ix0 (Same.refl _)) (v:=.str n0) rfl ?_
   walk_at "r"
   refine ⟨Bh,fun p1 h1=>?_⟩
   walk_at "r"
   refine ⟨Bf,fun b1 k1=>?_⟩
   obtain ⟨s1,T3⟩:=Dx (us:=[v1,v2]) (ts:=[t1,t2]) (wd := "let") fl ((Al.nil.snoc T1).snoc T2) h1 k1
   exact q _ _ s1 T3
  have h0:=nw 0 h0
  walk_at "r"
  refine Bb (fun h=>?_) (fun h1=>?_)
  ·obtain rfl:=dw 1 h
   walk_at "r"
   refine A8 (ix0 (Same.refl _)) (v:=.str n0) rfl ?_
   walk_at "r"
   refine ⟨B7,fun p1 h1=>?_⟩
   walk_at "r"
   refine ⟨Bf,fun b1 k1=>?_⟩
   obtain ⟨s1,T3⟩:=Dx (us:=[v2]) (ts:=[t2]) (wd := "fn") fl (Al.nil.snoc T2) h1 k1
   revert s1 T3
   generalize upd (upd H p1 _) b1 _=H1
   intro s1 T3
   walk_at "r"
   refine ⟨Bh,fun p2 h2=>?_⟩
   walk_at "r"
   refine ⟨Bf,fun b2 k2=>?_⟩
   obtain ⟨s2,T4⟩:=Dx (us:=[.ref b1,v1]) (wd := "call") fn0 ((Al.nil.snoc T3).snoc (T1.same s1)) h2 k2
   exact q _ _ (s1.trans s2) T4
  have h1:=nw 1 h1
  walk_at "r"
  refine Bb (fun h=>?_) (fun h2=>?_)
  ·obtain rfl:=dw 2 h
   walk_at "r"
   refine A8 (ix0 (Same.refl _)) (v:=.str n1) rfl ?_
   walk_at "r"
   refine A8 (ix0 (Same.refl _)) (v:=.str n0) rfl ?_
   walk_at "r"
   refine ⟨Bh,fun p0 h0=>?_⟩
   have s0:=Same.upd (o:=.tup [.str n1,.str n0]) h0
   have q0:SqT K (upd H p0 (.tup [.str n1,.str n0])) p0 [.str n1,.str n0]:=SqT.of Ad
   revert s0 q0
   generalize upd H p0 _=H0
   intro s0 q0
   walk_at "r"
   refine ⟨B7,fun p1 h1=>?_⟩
   walk_at "r"
   refine ⟨Bf,fun b1 k1=>?_⟩
   obtain ⟨s1,T3⟩:=Dx (us:=[v2]) (ts:=[t2]) (wd := "rec") (nv:=.ref p0) (n:=.tup [.flat (.str n1),.flat (.str n0)]) (.inr ⟨p0,[.str n1,.str n0],rfl,q0,rfl,rfl⟩) (Al.nil.snoc (T2.same s0)) h1 k1
   revert s1 T3
   generalize upd (upd H0 p1 _) b1 _=H1
   intro s1 T3
   walk_at "r"
   refine ⟨Bh,fun p2 h2=>?_⟩
   walk_at "r"
   refine ⟨Bf,fun b2 k2=>?_⟩
   obtain ⟨s2,T4⟩:=Dx (us:=[.ref b1,v1]) (wd := "call") fn0 ((Al.nil.snoc T3).snoc (T1.same (s0.trans s1))) h2 k2
   exact q _ _ (s0.trans (s1.trans s2)) T4
  have h2:=nw 2 h2
  walk_at "r"
  refine Bb (fun h=>?_) (fun h3=>?_)
  ·obtain rfl:=dw 3 h
   walk_at "r"
   refine A8 (ix0 (Same.refl _)) (v:=.str n1) rfl ?_
   walk_at "r"
   refine ⟨Bk,fun p1 h1=>?_⟩
   walk_at "r"
   refine ⟨Bf,fun b1 k1=>?_⟩
   obtain ⟨s1,T3⟩:=Dx (us:=[]) (ts:=[]) (wd := "name") fl .nil h1 k1
   revert s1 T3
   generalize upd (upd H p1 _) b1 _=H1
   intro s1 T3
   walk_at "r"
   refine ⟨Bh,fun p2 h2=>?_⟩
   walk_at "r"
   refine ⟨Bf,fun b2 k2=>?_⟩
   obtain ⟨s2,T4⟩:=Dx (us:=[.ref b1,v1]) (wd := "call") fn0 ((Al.nil.snoc T3).snoc (T1.same s1)) h2 k2
   revert s2 T4
   generalize upd (upd H1 p2 _) b2 _=H2
   intro s2 T4
   have s12:=s1.trans s2
   walk_at "r"
   refine A8 (ix0 s12) (v:=.str n1) rfl ?_
   walk_at "r"
   refine A8 (ix0 s12) (v:=.str n0) rfl ?_
   walk_at "r"
   refine ⟨B7,fun p3 h3=>?_⟩
   walk_at "r"
   refine ⟨Bf,fun b3 k3=>?_⟩
   obtain ⟨s3,T5⟩:=Dx (us:=[v2]) (ts:=[t2]) (wd := "fn") fl (Al.nil.snoc (T2.same s12)) h3 k3
   revert s3 T5
   generalize upd (upd H2 p3 _) b3 _=H3
   intro s3 T5
   walk_at "r"
   refine ⟨Bh,fun p4 h4=>?_⟩
   walk_at "r"
   refine ⟨Bf,fun b4 k4=>?_⟩
   obtain ⟨s4,T6⟩:=Dx (us:=[.ref b3,.ref b2]) (wd := "let") fl ((Al.nil.snoc T5).snoc (T4.same s3)) h4 k4
   exact q _ _ (s12.trans (s3.trans s4)) T6
  have h3:=nw 3 h3
  obtain rfl:w=4:=by omega
  walk_at "r"
  refine A8 (ix0 (Same.refl _)) (v:=.str n0) rfl ?_
  walk_at "r"
  refine A8 (ix0 (Same.refl _)) (v:=.str n2) rfl ?_
  walk_at "r"
  refine ⟨B7,fun p1 h1=>?_⟩
  walk_at "r"
  refine ⟨Bf,fun b1 k1=>?_⟩
  obtain ⟨s1,T3⟩:=Dx (us:=[v2]) (ts:=[t2]) (wd := "fn") fl (Al.nil.snoc T2) h1 k1
  revert s1 T3
  generalize upd (upd H p1 _) b1 _=H1
  intro s1 T3
  walk_at "r"
  refine ⟨B7,fun p2 h2=>?_⟩
  walk_at "r"
  refine ⟨Bf,fun b2 k2=>?_⟩
  obtain ⟨s2,T4⟩:=Dx (us:=[.ref b1]) (wd := "fn") fl (Al.nil.snoc T3) h2 k2
  revert s2 T4
  generalize upd (upd H1 p2 _) b2 _=H2
  intro s2 T4
  have s12:=s1.trans s2
  walk_at "r"
  refine ⟨Bh,fun p3 h3=>?_⟩
  walk_at "r"
  refine ⟨Bf,fun b3 k3=>?_⟩
  obtain ⟨s3,T5⟩:=Dx (us:=[.ref b2,v1]) (wd := "call") fn0 ((Al.nil.snoc T4).snoc (T1.same s12)) h3 k3
  revert s3 T5
  generalize upd (upd H2 p3 _) b3 _=H3
  intro s3 T5
  walk_at "r"
  rw [show (10:Int) ^ Int.toNat 18 - 1=Ha by decide]
  refine ⟨Bk,fun p4 h4=>?_⟩
  walk_at "r"
  refine ⟨Bf,fun b4 k4=>?_⟩
  obtain ⟨s4,T6⟩:=Dx (us:=[]) (ts:=[]) (wd := "num") (nv:=.int Ha) (.inl ⟨rfl,rfl⟩) .nil h4 k4
  revert s4 T6
  generalize upd (upd H3 p4 _) b4 _=H4
  intro s4 T6
  walk_at "r"
  refine ⟨Bh,fun p5 h5=>?_⟩
  walk_at "r"
  refine ⟨Bf,fun b5 k5=>?_⟩
  obtain ⟨s5,T7⟩:=Dx (us:=[.ref b3,.ref b4]) (wd := "call") fn0 ((Al.nil.snoc (T5.same s4)).snoc T6) h5 k5
  exact q _ _ (s12.trans (s3.trans (s4.trans s5))) T7
structure RGd (o:Er):Prop where
 t:TOk o.2.1.length o.1
 l:RLt o.2.1
 n:o.2.1.length<=3000
 z:SzOk o.2.1
noncomputable def Ze6 (K:O6):Sp:=fun vs H Q _=>∃(w:Nat)(pn:Addr)(n0 n1 n2:Str)(v1 v2:V)(o1 o2:Er),vs=[.int (w:Nat),.ref pn,v1,v2]/\w < 5/\H pn=some (.lst [.str n0,.str n1,.str n2])/\RcAt K H v1 o1/\RGd o1/\RcAt K H v2 o2/\RGd o2/\∀ v H',Same H H'->RcAt K H' v (wE w n0 n1 n2 o1 o2)->Q v H'
theorem sc_law_due:Bl ["_law_way_of", "_law_names_here", "_law_first", "_law_second", "_law_heads_here", "_law_here", "_law_pairs", "_law_there", "_law_more", "_law_rows", "_law_thing_here", "_law_answer"] ["_law_way_of", "_law_names_here", "_law_first", "_law_second"] (A9 Jj):=by walk_at "sc"
theorem RwAt.any {K:O6}{A:Addr->Prop}{H:Hp}(v:V)(x:Rx)(h:RwAt K A H v x):RwAt K (fun _=>False) H v x:=RwAt.mono (fun b hb _=>hb.elim) v x h
theorem Znu:∀ w,(Fu w).length<=10
 | 0 | 1 | 2 | 3 | 4 | _+5=>by simp [Fu]
theorem Zrc:∀ w,(Fx w).length<=10
 | 0 | 1 | 2 | 3 | 4 | _+5=>by simp [Fx]
theorem Zir:∀ w,(wR w).length<=1
 | 0 | 1 | 2 | 3 | 4 | _+5=>by simp [wR]
theorem Zjx {w:Nat}{n0 n1 n2:Str}{x:Str×V}:(Hm w n0 n1 n2 x).length<=10:=by
 unfold Hm
 split
 ·simp
 split <;> simp
theorem Zp9 {f:Addr}{fd:FuncData}(F:Fun K "_law_due" "_law_due" Jj f fd)(T:Txt K mg)(C__law_heads:Bo P w K mg base 1 "_law_heads" ["_law_way_of", "_law_names_here", "_law_first"] (Zga K))(C__law_thing:Bo P w K mg base 1 "_law_thing" ["_law_thing_here", "_law_many"] (Og K))(C__law_moved:Bo P w K mg base 2 "_law_moved" ["_law_record", "_law_ahead", "_law_many", "_law_pairs"] (Zda K)):Az P w K mg base Aw 3 f fd ["_law_way_of", "_law_names_here", "_law_first", "_law_second"] (Ze6 K):=by
 refine F.okq sc_law_due (fun vs H Q E h=>?_) (fun cdv A outer s H vs Q E hr h=>?_)
 ·obtain ⟨w,pn,n0,n1,n2,v1,v2,o1,o2,rfl,_⟩:=h
  rfl
 ·obtain ⟨w,pn,n0,n1,n2,v1,v2,o1,o2,rfl,hw,hpn,R1,G1,R2,G2,q⟩:=h
  refine ⟨_,Ae (Kc (Ba C__law_heads hr.m (Aa (qv 0) (Aa (qv 1) (Aa (qv 2) Ab)))) (Gf K (n:=5) rfl (Cs (Bu (i:=4) sc_law_due.nd rfl (Or.inl rfl)) (Cs (Bu (i:=5) sc_law_due.nd rfl (Or.inl rfl)) (Cs (Bu (i:=6) sc_law_due.nd rfl (Or.inl rfl)) (Cs (Bu (i:=7) sc_law_due.nd rfl (Or.inl rfl)) (Cs (Bu (i:=8) sc_law_due.nd rfl (Or.inl rfl)) (Ge))))))))
   (Ae (Au 9 sc_law_due (Ah (B5 K) (qv 4) (Ba C__law_moved hr.m (Aa (qv 2) (Aa (qv 5) (Aa (A6 (Ca K) (by rfl) T.len (by decide +kernel) (Aa (qv 4) Ab)) (Aa (qv 6) Ab)))))))
   (Ae (Au 10 sc_law_due (Ba C__law_thing hr.m (Aa (Am K (qv 2) Ac) (Aa (A6 (Ca K) (by rfl) T.len (by decide +kernel) (Aa (qv 4) Ab)) Ab))))
   (Ae (Au 6 sc_law_due (Bg (Aa (Ag (Aa (Am K (qv 1) Ac) (Aa (qv 10) Ab))) Ab)))
   (Ae (Av (Ax (A7 K hr.u200) (qv 0) Ac (As _)) (Af (Au 6 sc_law_due (Bg (Aa (Ag (Aa (Am K (qv 1) Ac) (Aa (Ag (Aa Aj (Aa Ac Ab))) Ab))) (Aa (Ag (Aa (Am K (qv 1) Ac) (Aa (qv 10) Ab))) Ab))))) Ay)
   (Ae (Av (Ax (A7 K hr.u200) (qv 0) Ac (As _)) (Ae (Cc (Db K Py Qc Qd Dg (qv 9) (Aa (Ag (Aa Aj (Aa (Ag (Aa Ac (Aa Ac (Aa Ac Ab)))) (Aa (Bg Ab) (Aa (Bg (Aa (Ag (Aa (Am K (qv 1) Ac) (Aa (qv 10) Ab))) Ab)) Ab))))) Ab)))
   (Af (Au 6 sc_law_due (Bg (Aa (Ag (Aa (Am K (qv 1) Ac) (Aa (qv 10) Ab))) (Aa (Ag (Aa (Am K (qv 1) Ac) (Aa (Ag (Aa Aj (Aa (Ah Ds (Ah Ii Ac Ac) Ac) Ab))) Ab))) Ab)))))) Ay)
   (Ae (Au 11 sc_law_due (Ba C__law_thing hr.m (Aa (Am K (qv 3) Ac) (Aa (A6 (Ca K) (by rfl) T.len (by decide +kernel) (Aa (qv 9) Ab)) Ab))))
   (Ae (Au 9 sc_law_due (Ah (B5 K) (qv 9) (Ba C__law_moved hr.m (Aa (qv 3) (Aa (qv 7) (Aa (A6 (Ca K) (by rfl) T.len (by decide +kernel) (Aa (qv 9) Ab)) (Aa (qv 6) Ab)))))))
   (Af (Ap (Ag (Aa (qv 11) (Aa (qv 9) (Aa (Ah (B5 K) (Ah (B5 K) (Am K (qv 2) Ac) (Am K (qv 3) Ac)) (qv 8)) Ab))))))))))))),?_⟩
  have bg:=big
  have g1n:=G1.n
  have g2n:=G2.n
  have dw:∀ k:Nat,decide (V.int ((w:Nat):Int)=V.int ((k:Nat):Int))=true->w=k:=fun k h=>by
   have h:=of_decide_eq_true h
   injection h with h
   exact Int.ofNat.inj h
  have nw:∀ k:Nat,¬ decide (V.int ((w:Nat):Int)=V.int ((k:Nat):Int))=true->w≠k:=fun k h e=>h (decide_eq_true (by rw [e]))
  walk_at "r"
  refine ⟨w,pn,n0,n1,n2,v1,rfl,hw,hpn,fun r hd a1 pd a2 hv pv H1 s1 qr ehd alh qa1 epd alp qa2=>?_⟩
  refine Fe qr rfl ?_
  have lh:hv.length=(wR w).length:=alh.1
  have lR:=Zir w
  walk_at "r"
  refine Cm (SqL.of ehd) ?_
  walk_at "r"
  refine ⟨v1,o1,a1,pd,hv.length,Fu w,pv,Hk w n1,rfl,R1.same s1,G1.l,G1.n,G1.z,qa1,Znu w,epd,alp,by unfold Hk;split <;> simp,fun rd us H2 s2 nrd eu alu=>?_⟩
  have s12:=s1.trans s2
  have lu:us.length=o1.2.1.length:=by rw [alu.1,Ph]
  refine Gv (s2 _ _ ehd) eu (by omega) fun r3 hr3=>?_
  have n3:=s12.free hr3
  have alJ:Al (RwAt K (fun b=>b=r3) H2) (hv++us) (wR w++o1.2.1.map (Bj (Fu w) hv.length (Hk w n1))):=((alh.mono (RwAt.same s2.a)).append (alu.mono RwAt.any)).mono (RwAt.mono fun b hb hne=>absurd (by rw [hb];exact hr3) hne)
  have s3:=Same.upd (o:=.lst (hv++us)) hr3
  have e3:upd H2 r3 (.lst (hv++us)) r3=some (.lst (hv++us)):=Ad
  revert s3 e3
  generalize upd H2 r3 (.lst (hv++us))=H3
  intro s3 e3
  have s13:=s12.trans s3
  replace alJ:=alJ.mono (RwAt.same s3.a)
  obtain ⟨b1,d1,av1,rv1,A1,rfl,q1,t1,_,_⟩:=R1.same s13
  walk_at "r"
  refine A5 q1 rfl ?_
  walk_at "r"
  refine Cm (SqL.of ((s2.trans s3) _ _ ehd)) ?_
  walk_at "r"
  refine ⟨av1,o1.1,_,hv.length,rfl,t1,G1.t,fun vt H4 s4 tt=>?_⟩
  have s34:=s3.trans s4
  have s24:=s2.trans s34
  have s14:=s1.trans s24
  have e4:=s4 _ _ e3
  have al4:=alJ.mono (RwAt.same s4.a)
  rw [lh] at al4 tt
  obtain ⟨x,hx⟩:∃ x,x=Bd (wR w).length o1.1:=⟨_,rfl⟩
  rw [<- hx] at tt
  walk_at "r"
  refine A8 (SqL.of (s14 _ _ hpn)) (v:=.str n0) rfl ?_
  walk_at "r"
  refine ⟨Bh,fun b2 h2=>?_⟩
  walk_at "r"
  refine ⟨B7,fun pp hpp=>?_⟩
  have y1:=Same.upd (o:=.tup [.str n0,vt]) h2
  have y2:=Same.upd (o:=.lst [.ref b2]) hpp
  have y12:=y1.trans y2
  have ep:upd (upd H4 b2 (.tup [.str n0,vt])) pp (.lst [.ref b2]) pp=some (.lst [.ref b2]):=Ad
  have alp2:Al (PrAt K (upd (upd H4 b2 (.tup [.str n0,vt])) pp (.lst [.ref b2]))) [.ref b2] [(n0,x)]:=Al.nil.snoc ⟨b2,vt,rfl,y2.tup (SqT.of Ad),ThAt.same y12.t _ _ tt⟩
  clear y1 y2
  revert y12 ep alp2
  generalize upd (upd H4 b2 (.tup [.str n0,vt])) pp (.lst [.ref b2])=H5
  intro y12 ep alp2
  have s15:=s14.trans y12
  have e5:=y12 _ _ e4
  have al5:=al4.mono (RwAt.same y12.a)
  have tt5:=ThAt.same y12.t _ _ tt
  have qa5:=(s24.trans y12).tup qa2
  clear tt al4 e4 h2 hpp alJ e3 t1 q1 qr alh alu alp ehd epd eu qa1
  refine s_gname ?_
  with_reducible refine s_seq ?_
  refine De (t:=Cw _ _ _) (R:=fun σ' H'=>∃ pp pv,σ'=[some (.int (w:Nat)),some (.ref pn),some (.ref b1),some v2,some (.ref hd),some (.ref a1),some (.ref pp),some (.ref a2),some (.int (wm w)),some (.ref r3),some vt,none]/\Same H5 H'/\H' pp=some (.lst pv)/\Al (PrAt K H') pv (if w=2 then [(n1,r0),(n0,x)] else [(n0,x)])) ?_ ?_
  rotate_left
  ·intro Y hY
   walk_at "r"
   refine Bb (fun h=>?_) (fun h=>?_)
   ·have h:=dw 2 h
    walk_at "r"
    refine A8 (SqL.of (s15 _ _ hpn)) (v:=.str n1) rfl ?_
    walk_at "r"
    refine ⟨Bh,fun g1 k1=>?_⟩
    have y1:=Same.upd (o:=.tup [.str "row",.int 0]) k1
    walk_at "r"
    refine ⟨Bh,fun g2 k2=>?_⟩
    have y2:=Same.upd (o:=.tup [.str n1,.ref g1]) k2
    walk_at "r"
    refine A8 (SqL.of ((s15.trans (y1.trans y2)) _ _ hpn)) (v:=.str n0) rfl ?_
    walk_at "r"
    refine ⟨Bh,fun g3 k3=>?_⟩
    have y3:=Same.upd (o:=.tup [.str n0,vt]) k3
    walk_at "r"
    refine ⟨Bh,fun g4 k4=>?_⟩
    have y4:=Same.upd (o:=.lst [.ref g2,.ref g3]) k4
    have y34:=y3.trans y4
    have y24:=y2.trans y34
    refine hY _ _ ⟨g4,_,rfl,y1.trans y24,Ad,?_⟩
    rw [if_pos h]
    exact (Al.nil.snoc ⟨g2,.ref g1,rfl,y34.tup (SqT.of Ad),rfl,g1,rfl,y24.tup (SqT.of Ad)⟩).snoc ⟨g3,vt,rfl,y4.tup (SqT.of Ad),ThAt.same (y1.trans y24).t _ _ tt5⟩
   ·refine hY _ _ ⟨pp,_,rfl,Same.refl _,ep,?_⟩
    rw [if_neg (nw 2 h)]
    exact alp2
  clear ep alp2
  rintro _ H6 ⟨pp,pv2,rfl,s6,ep,alp⟩
  have s16:=s15.trans s6
  have e6:=s6 _ _ e5
  have al6:=al5.mono (RwAt.same s6.a)
  have tt6:=ThAt.same s6.t _ _ tt5
  have qa6:=s6.tup qa5
  clear tt5 al5 e5 qa5
  have l6:(hv++us).length<=4000:=by rw [Pg];omega
  with_reducible refine s_seq ?_
  refine De (t:=Cw _ _ _) (R:=fun σ' H'=>∃ pp pv ws,σ'=[some (.int (w:Nat)),some (.ref pn),some (.ref b1),some v2,some (.ref hd),some (.ref a1),some (.ref pp),some (.ref a2),some (.int (wm w)),some (.ref r3),some vt,none]/\Same H H'/\SameT H6 H'/\H' r3=some (.lst ws)/\ws.length<=5000/\Al (RwAt K (fun _=>False) H') ws (wR w++o1.2.1.map (Bj (Fu w) (wR w).length (Hk w n1))++wR2 w n0 x)/\H' pp=some (.lst pv)/\Al (PrAt K H') pv (Hm w n0 n1 n2 x)) ?_ ?_
  rotate_left
  ·intro Y hY
   walk_at "r"
   refine Bb (fun h=>?_) (fun h=>?_)
   ·have h:=dw 4 h
    walk_at "r"
    refine Cj (SqL.of e6) ?_
    walk_at "r"
    refine ⟨Bf,fun g1 k1=>?_⟩
    have y1:=Same.upd (o:=.tup [.int 0,.int 0,.int 0]) k1
    walk_at "r"
    refine ⟨Bk,fun g2 k2=>?_⟩
    have y2:=Same.upd (o:=.lst []) k2
    walk_at "r"
    refine A8 (SqL.of ((s16.trans (y1.trans y2)) _ _ hpn)) (v:=.str n0) rfl ?_
    walk_at "r"
    refine ⟨Bh,fun g3 k3=>?_⟩
    have y3:=Same.upd (o:=.tup [.str n0,vt]) k3
    walk_at "r"
    refine ⟨B7,fun g4 k4=>?_⟩
    have y4:=Same.upd (o:=.lst [.ref g3]) k4
    walk_at "r"
    refine ⟨F5,fun g5 k5=>?_⟩
    have y5:=Same.upd (o:=.tup [.str "fn",.ref g1,.ref g2,.ref g4]) k5
    have y45:=y4.trans y5
    have y35:=y3.trans y45
    have y25:=y2.trans y35
    have y15:=y1.trans y25
    have m2:g2≠r3:=fun z=>by rw [z,y1 _ _ e6] at k2;cases k2
    have m4:g4≠r3:=fun z=>by rw [z,(y1.trans (y2.trans y3)) _ _ e6] at k4;cases k4
    have RW:RwAt K (fun b=>b=r3) (upd (upd (upd (upd (upd H6 g1 (.tup [.int 0,.int 0,.int 0])) g2 (.lst [])) g3 (.tup [.str n0,vt])) g4 (.lst [.ref g3])) g5 (.tup [.str "fn",.ref g1,.ref g2,.ref g4])) (.ref g5) ⟨"fn",An [0,0,0],[],[(n0,x)]⟩:=⟨g5,g1,g2,g4,[],[.ref g3],rfl,SqT.of Ad,y25.tup (SqT.of Ad),y35 _ _ Ad,.nil,y5 _ _ Ad,Al.nil.snoc ⟨g3,vt,rfl,y45.tup (SqT.of Ad),ThAt.same y15.t _ _ tt6⟩,m2,m4⟩
    have e7:=y15 _ _ e6
    revert y15 RW e7
    generalize upd (upd (upd (upd (upd H6 g1 (.tup [.int 0,.int 0,.int 0])) g2 (.lst [])) g3 (.tup [.str n0,vt])) g4 (.lst [.ref g3])) g5 (.tup [.str "fn",.ref g1,.ref g2,.ref g4])=H7
    intro y15 RW e7
    clear y1 y2 y3 y4 y5 y45 y35 y25 k1 k2 k3 k4 k5
    walk_at "r"
    refine Dh e7 (by omega) ?_
    have sA:=SameA.set (A:=fun b=>b=r3) (o:=.lst (hv++us++[.ref g5])) e7 rfl
    have s8:=(s16.trans y15).over (o:=.lst (hv++us++[.ref g5])) n3
    have t8:=(SameT.trans y15.t sA.1)
    have al8:=((al6.mono (RwAt.same y15.a)).snoc RW).mono (RwAt.same sA)
    have e8:upd H7 r3 (.lst (hv++us++[.ref g5])) r3=some (.lst (hv++us++[.ref g5])):=Ad
    revert s8 t8 al8 e8
    generalize upd H7 r3 (.lst (hv++us++[.ref g5]))=H8
    intro s8 t8 al8 e8
    walk_at "r"
    refine A8 (SqL.of (s8 _ _ hpn)) (v:=.str n0) rfl ?_
    walk_at "r"
    refine ⟨Bh,fun g6 k6=>?_⟩
    have y6:=Same.upd (o:=.tup [.str n0,vt]) k6
    walk_at "r"
    refine A8 (SqL.of ((s8.trans y6) _ _ hpn)) (v:=.str n2) rfl ?_
    walk_at "r"
    rw [show (10:Int) ^ Int.toNat 18 - 1=Ha by decide]
    refine ⟨Bh,fun g7 k7=>?_⟩
    have y7:=Same.upd (o:=.tup [.str "num",.int Ha]) k7
    walk_at "r"
    refine ⟨Bh,fun g8 k8=>?_⟩
    have y8:=Same.upd (o:=.tup [.str n2,.ref g7]) k8
    walk_at "r"
    refine ⟨Bh,fun g9 k9=>?_⟩
    have y9:=Same.upd (o:=.lst [.ref g6,.ref g8]) k9
    have y89:=y8.trans y9
    have y79:=y7.trans y89
    have y69:=y6.trans y79
    refine hY _ _ ⟨g9,_,_,rfl,s8.trans y69,t8.trans y69.t,y69 _ _ e8,by rw [Pg,Pl];omega,?_,Ad,?_⟩
    ·unfold wR2
     rw [if_pos h]
     exact (al8.mono RwAt.any).mono (RwAt.same y69.a)
    ·unfold Hm
     rw [if_pos h]
     exact (Al.nil.snoc ⟨g6,vt,rfl,y79.tup (SqT.of Ad),ThAt.same (t8.trans y69.t) _ _ tt6⟩).snoc ⟨g8,.ref g7,rfl,y9.tup (SqT.of Ad),rfl,g7,rfl,y89.tup (SqT.of Ad)⟩
   ·have h:=nw 4 h
    refine hY _ _ ⟨pp,_,_,rfl,s16,SameT.refl _,e6,by omega,?_,ep,?_⟩
    ·unfold wR2
     rw [if_neg h,Qe]
     exact al6.mono RwAt.any
    ·unfold Hm
     rw [if_neg h]
     exact alp
  clear e6 al6 ep alp
  rintro _ H8 ⟨pp,pv3,ws,rfl,s8,t8,e8,lw8,al8,ep,alp⟩
  have qa8:=t8.tup qa6
  obtain ⟨b1',d1',av1',rv1',A1',e1',q1,_,_,_⟩:=R1.same s8
  cases e1'
  have lw:=al8.1
  obtain ⟨c2,d2,av2,rv2,A2,rfl,q2,t2,_,_⟩:=R2.same s8
  walk_at "r"
  refine A5 q2 rfl ?_
  walk_at "r"
  refine Cm (SqL.of e8) ?_
  walk_at "r"
  refine ⟨av2,o2.1,_,ws.length,rfl,t2,G2.t,fun y H9 s9 ty=>?_⟩
  walk_at "r"
  refine Cm (SqL.of (s9 _ _ e8)) ?_
  walk_at "r"
  refine ⟨.ref c2,o2,a2,pp,ws.length,Fx w,pv3,Hm w n0 n1 n2 x,rfl,R2.same (s8.trans s9),G2.l,G2.n,G2.z,s9.tup qa8,Zrc w,s9 _ _ ep,alp.mono (PrAt.same s9.t),Zjx,fun rd2 us2 H10 s10 _ eu2 alu2=>?_⟩
  have s810:=s9.trans s10
  have lu2:us2.length=o2.2.1.length:=by rw [alu2.1,Ph]
  refine Gv (s810 _ _ e8) eu2 (by omega) fun r5 hr5=>?_
  have s11:=Same.upd (o:=.lst (ws++us2)) hr5
  walk_at "r"
  refine A5 ((s810.trans s11).tup q1) rfl ?_
  walk_at "r"
  refine A5 ((s810.trans s11).tup q2) rfl ?_
  walk_at "r"
  refine ⟨Bf,fun r6 hr6=>?_⟩
  have s12':=Same.upd (o:=.tup [y,.ref r5,.int (o1.2.2+o2.2.2+wm w)]) hr6
  have sx:=s11.trans s12'
  rw [lw] at alu2 ty
  refine q _ _ (s8.trans (s810.trans sx)) ⟨r6,r5,y,ws++us2,fun _=>False,rfl,SqT.of Ad,?_,s12' _ _ Ad,?_⟩
  ·unfold wE Ex
   rw [<- hx]
   exact ThAt.same (s10.trans sx).t _ _ ty
  ·unfold wE Ex
   rw [<- hx]
   exact ((al8.mono (RwAt.same s810.a)).append (alu2.mono RwAt.any)).mono (RwAt.same sx.a)
noncomputable def recD (x:Str×V)(rs:List Rx)(n:Int):Dt:=.tup [Je x,.lst (rs.map rzD),.flat (.int n)]
theorem Zcv {K:O6}{H:Hp}{A:Addr->Prop}{r rd:Addr}{av:V}{rv:List V}{x:Str×V}{rs:List Rx}{n:Int}(q:SqT K H r [av,.ref rd,.int n])(hx:ThAt K H av x)(hr:H rd=some (.lst rv))(al:Al (RwAt K A H) rv rs):IsD K H 6 (.ref r) (recD x rs n):=by
 refine .tup q rfl fun j v d h1 h2=>?_
 match j,h1,h2 with
 | 0,h1,h2=>cases h1;cases h2;exact (ThAt.d hx).up (by decide)
 | 1,h1,h2=>cases h1;cases h2;exact Al.lstD al (SqL.of hr) fun v x h=>RwAt.d h
 | 2,h1,h2=>cases h1;cases h2;exact .flat rfl
theorem Zo5 {x:Str×V}{rs:List Rx}{n:Int}(hl:rs.length<=5000)(h:∀ q∈rs,q.Ok):Eg (recD x rs n):=.tup (by show 3<=5000;decide) fun d hd=>by
 simp only [Pd,Pj,or_false] at hd
 rcases hd with rfl | rfl | rfl
 ·exact Zbg _
 ·exact Nr (by omega) fun x hx=>Zmz (h x hx)
 ·exact .flat _
theorem Ji (ms:List Int)(lo hi:Option Int):∃ ds:List Int,C3 (ms.map V.int) lo hi=ds.map V.int/\ds.length<=ms.length:=by
 refine ⟨(ms.drop (HT.sIx (ms.map V.int).length 0 lo)).take (HT.sIx (ms.map V.int).length (ms.map V.int).length hi - HT.sIx (ms.map V.int).length 0 lo),?_,?_⟩
 ·unfold C3
  rw [List.map_take,List.map_drop]
 ·rw [Qo,R8]
  omega
noncomputable def RunAt (K:O6)(H:Hp)(v:V)(r:Option Er):Prop:=(∀ o,r=some o->RcAt K H v o/\RGd o)/\(r=none->v=.non)
theorem RunAt.same {K:O6}{H H':Hp}{v:V}{r:Option Er}(h:RunAt K H v r)(s:Same H H'):RunAt K H' v r:=⟨fun o e=>⟨(h.1 o e).1.same s,(h.1 o e).2⟩,h.2⟩
theorem Zc1 {t:Tr}{o:Er}(tf:Tf t)(hz:t.size<=2000)(h:ev (Be t) 500 501 [] [] [] 0=some o):RGd o:=by
 have S:=Mg tf (show t.size<=5000 by omega)
 have T0:=B8 S 501 _ _ _ _ _ (Hz _) h
 have hb:=T0.b
 have hm:=T0.m
 have h0:(([]:List Rx).length:Int)=0:=rfl
 refine ⟨T0.t,Zf0 S 501 _ _ _ _ _ (Hz _) (fun k r hr=>by simp at hr) h,by omega,fun r hr=>?_⟩
 obtain ⟨i,hi⟩:=List.getElem?_of_mem hr
 obtain ⟨_,⟨k1,k2,k3⟩,_⟩:=T0.r i r hi
 exact ⟨k1,k2,by omega⟩
theorem lr {K:O6}{H:Hp}{Q:VK}{E:XK}{tv:V}{t:Tr}(hT:TrAt K H tv t)(tf:Tf t)(hz:t.size<=2000)(h:∀ v H',Same H H'->RunAt K H' v (ev (Be t) 500 501 [] [] [] 0)->Q v H'):Zar K [tv] H Q E:=⟨tv,t,rfl,hT,tf,hz,fun o ho r rd av rv H' s' q' ta er al _=>h _ _ s' ⟨fun o' ho'=>by rw [ho] at ho';cases ho';exact ⟨⟨r,rd,av,rv,_,rfl,q',ta,er,al⟩,Zc1 tf hz ho⟩,fun hn=>by rw [ho] at hn;cases hn⟩,fun hn H' s'=>h _ _ s' ⟨fun o ho=>(by rw [hn] at ho;cases ho),fun _=>rfl⟩⟩
theorem cut5 (ts:List Str):C3 (ts.map V.str) none (some 5)=(ts.take 5).map V.str:=by
 rw [List.map_take]
 exact Zpw _ 5
theorem TfN.five {ts:List Str}:∀{t:Tr},TfN (ts.take 5) t->TfN ts t
 | _,.mk h hs=>.mk ⟨h.toWOk,fun e z hz=>by have:=h.nm e z hz;rwa [List.take_take] at this⟩ fun t ht=>(hs t ht).five
theorem Za1 {ts:List Str}(h:Oj ts){j:Nat}(h5:5<=j)(h8:j < 8){y:Str}(e:ts[j]?=some y):¬ y∈ts.take 5:=fun hm=>by
 obtain ⟨i,hi⟩:=List.getElem?_of_mem hm
 have hi5:i < 5:=by
  have:=(Pq.mp hi).1
  rw [Qo] at this
  omega
 rw [List.getElem?_take,if_pos hi5] at hi
 exact h i j y y hi5 h5 h8 hi e rfl
noncomputable def Zf8 (K:O6):Sp:=fun vs H Q _=>∃(a:Addr)(ns:List Int),vs=[.ref a]/\SqL K H a (ns.map V.int)/\ns.length<=63/\∀ H',Q (.bl true) H'
theorem Dk:Bl ["_law_script", "_law_names_here", "_law_cells", "_law_half", "_law_cell_here", "_law_sort", "_law_one", "_law_other", "_law_way_of", "_law_new", "_law_first", "_law_second", "_law_whole", "_law_due_here"] ["_law_script"] (A9 Ki):=by walk_at "sc"
theorem Zih {f:Addr}{fd:FuncData}(F:Fun K "law" "law" Ki f fd)(T:Txt K mg)(C__law_cell:Bo P w K mg base 1 "_law_cell" ["_law_script", "_law_k"] (Nl K))(C__law_mixed:Bo P w K mg base 1 "_law_mixed" ["_law_cell_here", "_law_k"] Ku)(C__law_names:Bo P w K mg base 2 "_law_names" ["_law_cell_here", "_law_many"] Zcq)(C__law_form:Bo P w K mg base 23 "_law_form" ["_law_cells", "_law_around", "_law_names_here", "_law_room", "_law_sort"] (G8 K 20))(C__law_is_free:Bo P w K mg base 2 "_law_is_free" ["_law_script"] (Zdg K))(C__law_any:Bo P w K mg base 32 "_law_any" ["_law_cells", "_law_names_here", "_law_deep"] (G0 K 31))(C__law_tree:Bo P w K mg base 1 "_law_tree" ["_law_way_of", "_law_one", "_law_other", "_law_names_here"] (Zfl K))(C__law_run:Bo P w K mg base 8 "_law_run" ["_law_tree_here"] (Zar K))(C__law_same:Bo P w K mg base 8 "_law_same" ["_law_found", "_law_due_here"] (Gp K 7))(C__law_is_record:Bo P w K mg base 3 "_law_is_record" ["_law_found"] (Zfw K))(C__law_due:Bo P w K mg base 3 "_law_due" ["_law_way_of", "_law_names_here", "_law_first", "_law_second"] (Ze6 K)):Az P w K mg base Aw 33 f fd ["_law_script"] (Zf8 K):=by
 refine F.okq Dk (fun vs H Q E h=>?_) (fun cdv A outer s H vs Q E hr h=>?_)
 ·obtain ⟨a,ns,rfl,_⟩:=h
  rfl
 ·obtain ⟨a,ns,rfl,hS,hn,q⟩:=h
  have SC:Script K H a:=⟨ns,hS,hn⟩
  refine ⟨_,Ae (Au 1 Dk (Ba C__law_names hr.m (Aa (Ba C__law_cell hr.m (Aa (qv 0) (Aa Ac Ab))) (Aa Ac Ab))))
   (Ae (Au 2 Dk (El (Eh K) (qv 0) (Dd Ac) (Dd Ac)))
   (Ae (Au 3 Dk (Ah Bm (Ba C__law_cell hr.m (Aa (qv 0) (Aa Ac Ab))) (Ah (B5 K) (A6 (Ca K) (by rfl) T.len (by decide +kernel) (Aa (qv 2) Ab)) Ac)))
   (Ae (Au 4 Dk (Ba C__law_mixed hr.m (Aa (Ba C__law_cell hr.m (Aa (qv 0) (Aa Ac Ab))) (Aa Ac Ab))))
   (Ae (Au 5 Dk (Am K (Bg (Aa Aj (Aa Aj (Aa Aj Ab)))) (Ah Bm (qv 4) Ac)))
   (Ae (Au 6 Dk (Ba C__law_form hr.m (Aa (Lf K (El (Eh K) (qv 2) (Eo) (Dd (qv 3))) (Dd (Hx Iu Ac))) (Aa (Bg Ab) (Aa (qv 1) (Aa (Ah (B5 K) Ac (Ah Bm (Ah C4 (qv 4) Ac) Ac)) (Aa (qv 5) Ab)))))))
   (Ae (Au 7 Dk (Ba C__law_form hr.m (Aa (Lf K (El (Eh K) (qv 2) (Dd (qv 3)) (Eo)) (Dd (Hx Iu Ac))) (Aa (Bg Ab) (Aa (qv 1) (Aa (Ah (B5 K) Ac (Ah Bm (Ah C4 (qv 4) Ac) Ac)) (Aa Aj Ab)))))))
   (Ae (Av (Bt (Ba C__law_is_free hr.m (Aa (qv 0) Ab))) (Ae (Au 6 Dk (Ba C__law_any hr.m (Aa (Lf K (El (Eh K) (qv 2) (Eo) (Dd (qv 3))) (Dd (Hx Iu Ac))) (Aa (El (Eh K) (qv 1) (Eo) (Dd Ac)) (Aa Ac Ab)))))
   (Af (Au 7 Dk (Ba C__law_any hr.m (Aa (Lf K (El (Eh K) (qv 2) (Dd (qv 3)) (Eo)) (Dd (Hx Iu Ac))) (Aa (El (Eh K) (qv 1) (Eo) (Dd Ac)) (Aa Ac Ab))))))) Ay)
   (Ae (Au 8 Dk (Ah Bm (Ah C4 (Ba C__law_cell hr.m (Aa (qv 0) (Aa Ac Ab))) Ac) Ac))
   (Ae (Au 9 Dk (Bg (Aa (Am K (qv 1) Ac) (Aa (Am K (qv 1) Ac) (Aa (Am K (qv 1) Ac) Ab)))))
   (Ae (Av (QW.qt (D9 (Ax (A7 K hr.u200) (Ah Bm (Ah C4 (qv 4) Ac) Ac) Ac (As _)) (Ej (Ax (A7 K hr.u200) (qv 8) Ac (As _))))) (Af (Kc (Am K (qv 1) Ac) (Zjs (qv 9) Ac Zi7))) Ay)
   (Ae (Au 10 Dk (Ba C__law_run hr.m (Aa (qv 6) Ab)))
   (Ae (Au 11 Dk (Ba C__law_run hr.m (Aa (qv 7) Ab)))
   (Ae (Au 12 Dk (Ba C__law_run hr.m (Aa (Ba C__law_tree hr.m (Aa (qv 8) (Aa (qv 6) (Aa (qv 7) (Aa (qv 9) Ab))))) Ab)))
   (Ae (Av (QW.qt (C7 (Oh (Ht (qv 10))) (Dn (Oh (Ht (qv 11)))))) (Af (Ap (Ka (Ht (qv 12))))) Ay)
   (Ae (Av (QW.qt (C7 (C0 (Bt (Ba C__law_is_record hr.m (Aa (qv 10) Ab)))) (Dn (C0 (Bt (Ba C__law_is_record hr.m (Aa (qv 11) Ab))))))) (Af (Ap Cp)) Ay)
   (Ae (Au 13 Dk (Ba C__law_due hr.m (Aa (qv 8) (Aa (qv 9) (Aa (qv 10) (Aa (qv 11) Ab))))))
   (Ae (Av (Ax G6 (Am K (qv 13) Ac) Ac (As _)) (Af (Ap (Ka (Ht (qv 12))))) Ay)
   (Af (Ap (G5 (Ka (Zlw (qv 12))) (Gx (Ba C__law_same hr.m (Aa (qv 12) (Aa (qv 13) Ab)))))))))))))))))))))))),?_⟩
  have bg:=big
  walk_at "r"
  refine ⟨a,1,rfl,SC,by decide,by decide,fun z1=>?_⟩
  walk_at "r"
  refine ⟨z1,rfl,fun pn ts Hn sn hpn lts dis epn=>?_⟩
  obtain ⟨ms,hms,hml⟩:=SC
  have SCn:Script K Hn a:=Script.same ⟨ms,hms,hml⟩ sn
  have hmsn:=sn.seq hms
  walk_at "r"
  refine Ez hmsn fun pc hpc=>?_
  obtain ⟨cs,ecs,lcs⟩:=Ji ms (some 3) (some 60)
  rw [ecs]
  have s0:=Same.upd (o:=.lst (cs.map V.int)) hpc
  have ec:upd Hn pc (.lst (cs.map V.int)) pc=some (.lst (cs.map V.int)):=Ad
  revert s0 ec
  generalize upd Hn pc (.lst (cs.map V.int))=H0
  intro s0 ec
  have epn0:=s0 _ _ epn
  have SC0:=SCn.same s0
  walk_at "r"
  refine ⟨a,2,rfl,SC0,by decide,by decide,fun z2=>?_⟩
  walk_at "r"
  refine Cm (SqL.of ec) ?_
  walk_at "r"
  refine ⟨z2,((cs.map V.int).length:Int)+1,rfl,rfl,by show (0:Int) < ((cs.map V.int).length:Int)+1;omega,?_⟩
  walk_at "r"
  refine ⟨a,0,rfl,SC0,by decide,by decide,fun z3=>?_⟩
  walk_at "r"
  refine ⟨z3,0,rfl,by decide,by decide,fun c _ _=>?_⟩
  walk_at "r"
  refine ⟨Bf,fun pq hpq=>?_⟩
  have s1:=Same.upd (o:=.lst [.str "num",.str "fun",.str "truth"]) hpq
  have e1:upd H0 pq (.lst [.str "num",.str "fun",.str "truth"]) pq=some (.lst [.str "num",.str "fun",.str "truth"]):=Ad
  revert s1 e1
  generalize upd H0 pq _=H1
  intro s1 e1
  obtain ⟨so,hso⟩:∃ so:Str,Ck [V.str "num",.str "fun",.str "truth"] (c % 3)=some (.str so):=by
   rcases (show c % 3=0\/c % 3=1\/c % 3=2 by omega) with h | h | h <;> rw [h] <;> exact ⟨_,rfl⟩
  walk_at "r"
  refine A8 (SqL.of e1) hso ?_
  have ec1:=s1 _ _ ec
  have epn1:=s1 _ _ epn0
  have SC1:=SC0.same s1
  clear s0 ec epn0 SC0 e1 hpq SCn hpn hmsn s1
  walk_at "r"
  dsimp only [Iy]
  walk_at "r"
  refine Ez (SqL.of ec1) fun p2 hp2=>?_
  walk_at "r"
  refine ⟨p2,_,rfl,rfl,SqL.of Ad,fun r2 hr2=>?_⟩
  obtain ⟨d2,ed2,ld2⟩:=Ji cs none (some (z2 % (((cs.map V.int).length:Int)+1)))
  rw [ed2] at hr2 ⊢
  rw [<- S8]
  have l2:d2.reverse.length<=63:=by rw [Rt];omega
  generalize d2.reverse=g2 at l2 ⊢
  generalize d2.map V.int=c2 at hr2 ⊢
  have x2:=Same.upd (o:=.lst c2) hp2
  have y2:=Same.upd (o:=.lst (g2.map V.int)) hr2
  have nr2:H1 r2=none:=x2.free hr2
  have s2:=x2.trans y2
  have e2:upd (upd H1 p2 (.lst c2)) r2 (.lst (g2.map V.int)) r2=some (.lst (g2.map V.int)):=Ad
  revert s2 e2
  generalize upd (upd H1 p2 (.lst c2)) r2 (.lst (g2.map V.int))=H2
  intro s2 e2
  walk_at "r"
  refine ⟨Bk,fun ar2 har2=>?_⟩
  have s3:=Same.upd (o:=.lst []) har2
  have e3:upd H2 ar2 (.lst []) ar2=some (.lst []):=Ad
  have nra2:ar2≠r2:=fun z=>by rw [z,e2] at har2;cases har2
  revert s3 e3
  generalize upd H2 ar2 (.lst [])=H3
  intro s3 e3
  have sx2:=s2.trans s3
  obtain ⟨room2,er2,rl2,ru2⟩:∃ k:Nat,1+c / 3 % 13=(k:Int)/\1<=k/\k<=13:=⟨(1+c / 3 % 13).toNat,by omega,by omega,by omega⟩
  walk_at "r"
  rw [er2]
  have npn2:pn≠r2:=fun z=>by rw [z,nr2] at epn1;cases epn1
  refine ⟨r2,ar2,pn,ts,0,room2,so,rfl,⟨⟨g2,s3 _ _ e2,by omega⟩,⟨[],[],e3,.nil,O9 _,(fun z hz=>nomatch hz)⟩,nra2,sx2 _ _ epn1,npn2,by omega⟩,by omega,rl2,by omega,fun tv2 t2 H4 fr2 TT2 tf2 hz2=>?_⟩
  have s14:Same H1 H4:=fun c o hc=>fr2.r c o (fun z=>by rw [z,nr2] at hc;cases hc) (sx2 _ _ hc)
  have ec4:=s14 _ _ ec1
  have epn4:=s14 _ _ epn1
  have SC4:=SC1.same s14
  clear fr2 sx2 nra2 e3 s3 e2 s2 x2 y2 har2
  walk_at "r"
  dsimp only [Iy]
  walk_at "r"
  refine Ez (SqL.of ec4) fun p5 hp5=>?_
  walk_at "r"
  refine ⟨p5,_,rfl,rfl,SqL.of Ad,fun r5 hr5=>?_⟩
  obtain ⟨d5,ed5,ld5⟩:=Ji cs (some (z2 % (((cs.map V.int).length:Int)+1))) none
  rw [ed5] at hr5 ⊢
  rw [<- S8]
  have l5:d5.reverse.length<=63:=by rw [Rt];omega
  generalize d5.reverse=g5 at l5 ⊢
  generalize d5.map V.int=c5 at hr5 ⊢
  have x5:=Same.upd (o:=.lst c5) hp5
  have y5:=Same.upd (o:=.lst (g5.map V.int)) hr5
  have nr5:H4 r5=none:=x5.free hr5
  have s5:=x5.trans y5
  have e5:upd (upd H4 p5 (.lst c5)) r5 (.lst (g5.map V.int)) r5=some (.lst (g5.map V.int)):=Ad
  revert s5 e5
  generalize upd (upd H4 p5 (.lst c5)) r5 (.lst (g5.map V.int))=H5
  intro s5 e5
  walk_at "r"
  refine ⟨Bk,fun ar5 har5=>?_⟩
  have s6:=Same.upd (o:=.lst []) har5
  have e6:upd H5 ar5 (.lst []) ar5=some (.lst []):=Ad
  have nra5:ar5≠r5:=fun z=>by rw [z,e5] at har5;cases har5
  revert s6 e6
  generalize upd H5 ar5 (.lst [])=H6
  intro s6 e6
  have sx5:=s5.trans s6
  obtain ⟨room5,er5,rl5,ru5⟩:∃ k:Nat,1+c / 39 % 13=(k:Int)/\1<=k/\k<=13:=⟨(1+c / 39 % 13).toNat,by omega,by omega,by omega⟩
  walk_at "r"
  rw [er5]
  have npn5:pn≠r5:=fun z=>by rw [z,nr5] at epn4;cases epn4
  refine ⟨r5,ar5,pn,ts,0,room5, "num",rfl,⟨⟨g5,s6 _ _ e5,by omega⟩,⟨[],[],e6,.nil,O9 _,(fun z hz=>nomatch hz)⟩,nra5,sx5 _ _ epn4,npn5,by omega⟩,by omega,rl5,by omega,fun tv5 t5 H7 fr5 TT5 tf5 hz5=>?_⟩
  have s47:Same H4 H7:=fun c o hc=>fr5.r c o (fun z=>by rw [z,nr5] at hc;cases hc) (sx5 _ _ hc)
  have ec7:=s47 _ _ ec4
  have epn7:=s47 _ _ epn4
  have SC7:=SC4.same s47
  clear fr5 sx5 nra5 e6 s6 e5 s5 x5 y5 har5
  have TT2b:=TT2.same s47
  refine s_gname ?_
  with_reducible refine s_seq ?_
  refine De (t:=Cw _ _ _) (R:=fun σ' H'=>∃ u1 u2 k1 k2,σ'=[some (.ref a),some (.ref pn),some (.ref pc),some (.int (z2 % (((cs.map V.int).length:Int)+1))),some (.int c),some (.str so),some u1,some u2,none,none,none,none,none,none]/\Script K H' a/\H' pn=some (.lst (ts.map V.str))/\TrAt K H' u1 k1/\TfN ts k1/\k1.size<=500/\TrAt K H' u2 k2/\TfN ts k2/\k2.size<=500) ?_ ?_
  rotate_left
  ·intro Y hY
   walk_at "r"
   refine ⟨a,rfl,SC7,fun bb=>?_⟩
   walk_at "r"
   refine Bb (fun _=>?_) (fun _=>?_)
   ·clear hz2 hz5 TT2 TT5 TT2b tf2 tf5
    walk_at "r"
    dsimp only [Iy]
    walk_at "r"
    refine Ez (SqL.of ec7) fun p8 hp8=>?_
    walk_at "r"
    refine ⟨p8,_,rfl,rfl,SqL.of Ad,fun r8 hr8=>?_⟩
    obtain ⟨d8,ed8,ld8⟩:=Ji cs none (some (z2 % (((cs.map V.int).length:Int)+1)))
    rw [ed8] at hr8 ⊢
    rw [<- S8]
    have l8:d8.reverse.length<=63:=by rw [Rt];omega
    generalize d8.reverse=g8 at l8 ⊢
    generalize d8.map V.int=c8 at hr8 ⊢
    have x8:=Same.upd (o:=.lst c8) hp8
    have y8:=Same.upd (o:=.lst (g8.map V.int)) hr8
    have nr8:H7 r8=none:=x8.free hr8
    have s8:=x8.trans y8
    have e8:upd (upd H7 p8 (.lst c8)) r8 (.lst (g8.map V.int)) r8=some (.lst (g8.map V.int)):=Ad
    revert s8 e8
    generalize upd (upd H7 p8 (.lst c8)) r8 (.lst (g8.map V.int))=H8
    intro s8 e8
    have npn8:pn≠r8:=fun z=>by rw [z,nr8] at epn7;cases epn7
    walk_at "r"
    refine Ez (SqL.of (s8 _ _ epn7)) fun pm8 hpm8=>?_
    rw [cut5]
    have z8m:=Same.upd (o:=.lst ((ts.take 5).map V.str)) hpm8
    have npm8:pm8≠r8:=fun z=>by rw [z,e8] at hpm8;cases hpm8
    walk_at "r"
    refine ⟨r8,pm8,ts.take 5,g8,30,rfl,by decide,z8m _ _ e8,by omega,Ad,npm8,by rw [Qo];omega,fun tv8 t8 H9 cs8 fr8 _ _ TT8 tf8 hz8=>?_⟩
    have s79:Same H7 H9:=fun c o hc=>fr8 c o (fun z=>by rw [z,nr8] at hc;cases hc) (z8m _ _ (s8 _ _ hc))
    have ec9:=s79 _ _ ec7
    have epn9:=s79 _ _ epn7
    have SC9:=SC7.same s79
    walk_at "r"
    dsimp only [Iy]
    walk_at "r"
    refine Ez (SqL.of ec9) fun p10 hp10=>?_
    walk_at "r"
    refine ⟨p10,_,rfl,rfl,SqL.of Ad,fun r10 hr10=>?_⟩
    obtain ⟨d10,ed10,ld10⟩:=Ji cs (some (z2 % (((cs.map V.int).length:Int)+1))) none
    rw [ed10] at hr10 ⊢
    rw [<- S8]
    have l10:d10.reverse.length<=63:=by rw [Rt];omega
    generalize d10.reverse=g10 at l10 ⊢
    generalize d10.map V.int=c10 at hr10 ⊢
    have x10:=Same.upd (o:=.lst c10) hp10
    have y10:=Same.upd (o:=.lst (g10.map V.int)) hr10
    have nr10:H9 r10=none:=x10.free hr10
    have s10:=x10.trans y10
    have e10:upd (upd H9 p10 (.lst c10)) r10 (.lst (g10.map V.int)) r10=some (.lst (g10.map V.int)):=Ad
    revert s10 e10
    generalize upd (upd H9 p10 (.lst c10)) r10 (.lst (g10.map V.int))=H10
    intro s10 e10
    have npn10:pn≠r10:=fun z=>by rw [z,nr10] at epn9;cases epn9
    walk_at "r"
    refine Ez (SqL.of (s10 _ _ epn9)) fun pm10 hpm10=>?_
    rw [cut5]
    have z10m:=Same.upd (o:=.lst ((ts.take 5).map V.str)) hpm10
    have npm10:pm10≠r10:=fun z=>by rw [z,e10] at hpm10;cases hpm10
    walk_at "r"
    refine ⟨r10,pm10,ts.take 5,g10,30,rfl,by decide,z10m _ _ e10,by omega,Ad,npm10,by rw [Qo];omega,fun tv10 t10 H11 cs10 fr10 _ _ TT10 tf10 hz10=>?_⟩
    have s911:Same H9 H11:=fun c o hc=>fr10 c o (fun z=>by rw [z,nr10] at hc;cases hc) (z10m _ _ (s10 _ _ hc))
    have ec11:=s911 _ _ ec9
    have epn11:=s911 _ _ epn9
    have SC11:=SC9.same s911
    exact hY _ _ ⟨tv8,tv10,t8,t10,rfl,SC11,epn11,TT8.same s911,tf8.five,by omega,TT10,tf10.five,by omega⟩
   ·exact hY _ _ ⟨tv2,tv5,t2,t5,rfl,SC7,epn7,TT2b,tf2,by omega,TT5,tf5,by omega⟩
  clear TT2 TT2b TT5 tf2 tf5 hz2 hz5 SC7 SC4 SC1 ec1 ec4 ec7 epn1 epn4 epn7 s47 s14
  rintro _ H12 ⟨v1,v2,t1,t2,rfl,SC,epn,T1,f1,z1',T2,f2,z2'⟩
  walk_at "r"
  refine ⟨a,0,rfl,SC,by decide,by decide,fun z0=>?_⟩
  obtain ⟨w,ew,hw⟩:∃ w:Nat,z0 / 2 % 5=(w:Nat)/\w < 5:=⟨(z0 / 2 % 5).toNat,by omega,by omega⟩
  walk_at "r"
  rw [ew]
  have nm:∀ j:Nat,j < 8->∃ y:Str,ts[j]?=some y/\Ck (ts.map V.str) (j:Nat)=some (.str y):=fun j hj=>by
   have hl:j < ts.length:=by omega
   exact ⟨ts[j],Pa hl,Dc (by rw [Ql,Pa hl];rfl)⟩
  obtain ⟨n5,g5,x5⟩:=nm 5 (by decide)
  obtain ⟨n6,g6,x6⟩:=nm 6 (by decide)
  obtain ⟨n7,g7,x7⟩:=nm 7 (by decide)
  have d5:=Za1 dis (by decide) (by decide) g5
  have d6:=Za1 dis (by decide) (by decide) g6
  have d7:=Za1 dis (by decide) (by decide) g7
  refine A8 (SqL.of epn) x5 ?_
  walk_at "r"
  refine A8 (SqL.of epn) x6 ?_
  walk_at "r"
  refine A8 (SqL.of epn) x7 ?_
  walk_at "r"
  refine ⟨Bf,fun pw hpw=>?_⟩
  have sw:=Same.upd (o:=.lst [.str n5,.str n6,.str n7]) hpw
  have T1w:=T1.same sw
  have T2w:=T2.same sw
  have epw:=sw _ _ epn
  have ew':upd H12 pw (.lst [.str n5,.str n6,.str n7]) pw=some (.lst [.str n5,.str n6,.str n7]):=Ad
  revert T1w T2w epw ew'
  generalize upd H12 pw (.lst [.str n5,.str n6,.str n7])=H13
  intro T1w T2w epw ew'
  clear T1 T2 SC sw hpw epn
  refine s_gname ?_
  with_reducible refine s_seq ?_
  refine De (t:=Cw _ _ _) (R:=fun σ' H'=>∃ n1,σ'=[some (.ref a),some (.ref pn),some (.ref pc),some (.int (z2 % (((cs.map V.int).length:Int)+1))),some (.int c),some (.str so),some v1,some v2,some (.int (w:Nat)),some (.ref pw),none,none,none,none]/\TrAt K H' v1 t1/\TrAt K H' v2 t2/\H' pw=some (.lst [.str n5,.str n1,.str n7])/\¬ n1∈ts.take 5) ?_ ?_
  rotate_left
  ·intro Y hY
   have go:=hY _ _ ⟨n6,rfl,T1w,T2w,ew',d6⟩
   walk_at "r"
   refine Bb (fun _=>?_) (fun _=>go)
   walk_at "r"
   refine Bb (fun _=>?_) (fun _=>go)
   walk_at "r"
   refine A8 (SqL.of epw) x5 ?_
   walk_at "r"
   refine Zri ew' (k:=1) (j:=1) rfl ?_
   have tS:=SameT.set (o:=.lst [.str n5,.str n5,.str n7]) ew'
   exact hY _ _ ⟨n5,rfl,T1w.sameT tS,T2w.sameT tS,Ad,d5⟩
  clear T1w T2w epw ew' d6
  rintro _ H14 ⟨n1,rfl,T1,T2,epw,d6⟩
  walk_at "r"
  refine lr T1 f1.tf (by omega) fun w1 HA sA R1=>?_
  walk_at "r"
  refine lr (T2.same sA) f2.tf (by omega) fun w2 HB sB R2=>?_
  have T1b:=T1.same (sA.trans sB)
  have T2b:=T2.same (sA.trans sB)
  have epb:=(sA.trans sB) _ _ epw
  replace R1:=R1.same sB
  clear T1 T2 sA sB epw
  have S1:=Mg f1.tf (show t1.size<=5000 by omega)
  have S2:=Mg f2.tf (show t2.size<=5000 by omega)
  have W:=Zlo (n0:=n5) (n1:=n1) (n2:=n7) S1 S2 (L7 f1 d6) (L7 f2 d5) (L7 f2 d6) (L7 f2 d7) w hw
  walk_at "r"
  refine ⟨w,v1,v2,pw,n5,n1,n7,t1,t2,rfl,hw,T1b,T2b,epb,fun tv HC sC TW=>?_⟩
  replace R1:=R1.same sC
  replace R2:=R2.same sC
  have epc:=sC _ _ epb
  clear T1b T2b epb sC
  have twf:=Zkh (n0:=n5) (n1:=n1) (n2:=n7) f1.tf f2.tf w
  have twz:(wT w n5 n1 n7 t1 t2).size<=2000:=by have:=Zpb (n0:=n5) (n1:=n1) (n2:=n7) (t1:=t1) (t2:=t2) w;omega
  walk_at "r"
  refine lr TW twf twz fun w3 HJ sJ R3=>?_
  have G3:∀ o,ev (Be (wT w n5 n1 n7 t1 t2)) 500 501 [] [] [] 0=some o->RGd o:=fun o ho=>Zc1 twf twz ho
  rw [W] at R3 G3
  clear W TW S1 S2
  replace R1:=R1.same sJ
  replace R2:=R2.same sJ
  have epj:=sJ _ _ epc
  revert R1 R2 R3 G3
  generalize ev (Be t1) 500 501 [] [] [] 0=E1
  generalize ev (Be t2) 500 501 [] [] [] 0=E2
  intro R3 G3 R1 R2
  cases hE:E1 with
  | none =>
   rw [hE] at R3
   obtain rfl:=R3.2 rfl
   obtain rfl:=R1.2 hE
   walk_at "r"
   refine Ga (by simp) ?_
   walk_at "r"
   exact q _
  | some o1 =>
  obtain ⟨rc1,gd1⟩:=R1.1 o1 hE
  rw [hE,Pb] at R3 G3
  obtain ⟨a1,_,_,_,_,rfl,_⟩:=id rc1
  walk_at "r"
  refine Em (by simp) ?_
  cases hE2:E2 with
  | none =>
   rw [hE2] at R3
   obtain rfl:=R3.2 rfl
   obtain rfl:=R2.2 hE2
   walk_at "r"
   refine Ga (by simp) ?_
   walk_at "r"
   exact q _
  | some o2 =>
  obtain ⟨rc2,gd2⟩:=R2.1 o2 hE2
  rw [hE2,Pb] at R3 G3
  obtain ⟨a2,_,_,_,_,rfl,_⟩:=id rc2
  walk_at "r"
  refine Em (by simp) ?_
  walk_at "r"
  refine ⟨_,o1,rfl,rc1,gd1.t,gd1.l,gd1.n,?_⟩
  walk_at "r"
  refine ⟨_,o2,rfl,rc2,gd2.t,gd2.l,gd2.n,?_⟩
  walk_at "r"
  refine ⟨w,pw,n5,n1,n7,.ref a1,.ref a2,o1,o2,rfl,hw,epj,rc1,gd1,rc2,gd2,fun v HL sL rc=>?_⟩
  generalize wE w n5 n1 n7 o1 o2=o at R3 G3 rc
  obtain ⟨a3,d3,av3,rv3,A3,rfl,q3,t3,e3,al3⟩:=id rc
  walk_at "r"
  refine A5 q3 rfl ?_
  walk_at "r"
  by_cases h5:o.2.2<=500
  ·have ecap:D6 o=some o:=by unfold D6;rw [if_pos h5]
   rw [ecap] at R3 G3
   obtain ⟨⟨a4,d4,av4,rv4,A4,rfl,q4,t4,e4,al4⟩,_⟩:=R3.1 o rfl
   have g:=G3 o rfl
   refine Em (decide_eq_false (by omega)) ?_
   walk_at "r"
   refine Ga (by simp) ?_
   walk_at "r"
   exact ⟨_,_,_,6,rfl,by decide,Zcv (sL.tup q4) (ThAt.same sL.t _ _ t4) (sL _ _ e4) (al4.mono (RwAt.same sL.a)),Zcv q3 t3 e3 al3,Zo5 (by have:=g.n;omega) (fun r hr=>⟨(g.z r hr).1,by have:=(g.z r hr).2.1;omega,by have:=(g.z r hr).2.2;omega⟩),fun _ _=>q _⟩
  ·have ecap:D6 o=none:=by unfold D6;rw [if_neg h5]
   rw [ecap] at R3
   obtain rfl:=R3.2 rfl
   refine Ga (decide_eq_true (by omega)) ?_
   walk_at "r"
   exact q _
end
local macro_rules | `(tactic| walk_at "zF")=>`(tactic| exact (let +zeta a:=_; let +zeta b:=_; let +zeta c:=_; let +zeta d:=_; let +zeta e:=_; let +zeta f:=_; let +zeta g:=_; let +zeta h:=_; let +zeta i:=_; let +zeta j:=_; have +usedOnly q:(‹Stmt›:Stmt)=.FunctionDef a b c d e f g h i j:=rfl; .FunctionDef a b c d e f g h i j))
local macro_rules | `(tactic| walk_at "zA")=>`(tactic| exact (let +zeta a:=_; let +zeta b:=_; let +zeta c:=_; have +usedOnly q:(‹Stmt›:Stmt)=.Assign a b c:=rfl; .Assign a b c))
local macro_rules | `(tactic| walk_at "zC")=>`(tactic| exact (let +zeta a:=_; let +zeta b:=_; let +zeta c:=_; let +zeta d:=_; let +zeta e:=_; let +zeta f:=_; let +zeta g:=_; let +zeta h:=_; let +zeta i:=_; let +zeta j:=_; let +zeta k:=_; have +usedOnly q:(‹Stmt›:Stmt)=.ClassDef a b c d e f g h i j k:=rfl; .ClassDef a b c d e f g h i j k))
noncomputable def w0:Stmt:=by let +zeta s:=A0 0;walk_at "zF"
noncomputable def w1:Stmt:=by let +zeta s:=A0 1;walk_at "zA"
noncomputable def w2:Stmt:=by let +zeta s:=A0 2;walk_at "zC"
noncomputable def w3:Stmt:=by let +zeta s:=A0 3;walk_at "zC"
noncomputable def w4:Stmt:=by let +zeta s:=A0 4;walk_at "zA"
noncomputable def w5:Stmt:=by let +zeta s:=A0 5;walk_at "zF"
noncomputable def w6:Stmt:=by let +zeta s:=A0 6;walk_at "zA"
noncomputable def w7:Stmt:=by let +zeta s:=A0 7;walk_at "zF"
noncomputable def w8:Stmt:=by let +zeta s:=A0 8;walk_at "zA"
noncomputable def w9:Stmt:=by let +zeta s:=A0 9;walk_at "zF"
noncomputable def w10:Stmt:=by let +zeta s:=A0 10;walk_at "zA"
noncomputable def w11:Stmt:=by let +zeta s:=A0 11;walk_at "zA"
noncomputable def w12:Stmt:=by let +zeta s:=A0 12;walk_at "zA"
noncomputable def w13:Stmt:=by let +zeta s:=A0 13;walk_at "zA"
noncomputable def w14:Stmt:=by let +zeta s:=A0 14;walk_at "zF"
noncomputable def w15:Stmt:=by let +zeta s:=A0 15;walk_at "zF"
noncomputable def Zoh:Stmt:=by let +zeta s:=(Cf 16 0);walk_at "zF"
noncomputable def Zkt:Stmt:=by let +zeta s:=(Cf 16 1);walk_at "zF"
noncomputable def Zh6:Stmt:=by let +zeta s:=(Cf 16 2);walk_at "zF"
noncomputable def Zq3:Stmt:=by let +zeta s:=(Cf 16 3);walk_at "zF"
noncomputable def Nq:Stmt:=by let +zeta s:=(Cf 16 4);walk_at "zF"
noncomputable def Zlt:Stmt:=by let +zeta s:=(Cf 16 5);walk_at "zF"
noncomputable def Zk2:Stmt:=by let +zeta s:=(Cf 16 6);walk_at "zF"
noncomputable def Zis:Stmt:=by let +zeta s:=(Cf 16 7);walk_at "zF"
noncomputable def Zq0:Stmt:=by let +zeta s:=(Cf 16 8);walk_at "zF"
noncomputable def Zi8:Stmt:=by let +zeta s:=(Cf 16 9);walk_at "zF"
noncomputable def Zjz:Stmt:=by let +zeta s:=(Cf 16 10);walk_at "zF"
noncomputable def Zrd:Stmt:=by let +zeta s:=(Cf 16 11);walk_at "zF"
noncomputable def Zqd:Stmt:=by let +zeta s:=(Cf 16 12);walk_at "zF"
noncomputable def w16:Stmt:=let +zeta a:=_;let +zeta b:=_;let +zeta c:=_;let +zeta d:=_;let +zeta e:=_;let +zeta f:=_;let +zeta g:=_;let +zeta h:=_;let +zeta i:=_;let +zeta j:=_;let +zeta k:=_;have +usedOnly q:A0 16=.ClassDef a b c d e f g h i j k:=rfl;.ClassDef a b c [Zoh,Zkt,Zh6,Zq3,Nq,Zlt,Zk2,Zis,Zq0,Zi8,Zjz,Zrd,Zqd] e f g h i j k
noncomputable def w17:Stmt:=by let +zeta s:=A0 17;walk_at "zA"
noncomputable def w18:Stmt:=by let +zeta s:=A0 18;walk_at "zF"
noncomputable def w19:Stmt:=by let +zeta s:=A0 19;walk_at "zA"
noncomputable def w20:Stmt:=by let +zeta s:=A0 20;walk_at "zF"
noncomputable def w21:Stmt:=by let +zeta s:=A0 21;walk_at "zF"
noncomputable def w22:Stmt:=by let +zeta s:=A0 22;walk_at "zF"
noncomputable def w23:Stmt:=by let +zeta s:=A0 23;walk_at "zF"
noncomputable def w24:Stmt:=by let +zeta s:=A0 24;walk_at "zF"
noncomputable def w25:Stmt:=by let +zeta s:=A0 25;walk_at "zF"
noncomputable def w26:Stmt:=by let +zeta s:=A0 26;walk_at "zF"
noncomputable def w27:Stmt:=by let +zeta s:=A0 27;walk_at "zF"
noncomputable def w28:Stmt:=by let +zeta s:=A0 28;walk_at "zF"
noncomputable def w29:Stmt:=by let +zeta s:=A0 29;walk_at "zF"
noncomputable def w30:Stmt:=by let +zeta s:=A0 30;walk_at "zF"
noncomputable def w31:Stmt:=by let +zeta s:=A0 31;walk_at "zF"
noncomputable def w32:Stmt:=by let +zeta s:=A0 32;walk_at "zF"
noncomputable def w33:Stmt:=by let +zeta s:=A0 33;walk_at "zF"
noncomputable def w34:Stmt:=by let +zeta s:=A0 34;walk_at "zF"
noncomputable def w35:Stmt:=by let +zeta s:=A0 35;walk_at "zF"
noncomputable def w36:Stmt:=by let +zeta s:=A0 36;walk_at "zF"
noncomputable def w37:Stmt:=by let +zeta s:=A0 37;walk_at "zF"
noncomputable def w38:Stmt:=by let +zeta s:=A0 38;walk_at "zF"
noncomputable def PWc:Program:=let +zeta a:=_;let +zeta b:=_;let +zeta c:=_;let +zeta d:=_;let +zeta e:=_;let +zeta f:=_;let +zeta g:=_;let +zeta h:=_;let +zeta i:=_;let +zeta j:=_;have +usedOnly q:R4=⟨⟨a,b,c,d,e⟩,f,g,h,i,j⟩:=rfl;⟨⟨[w0,w1,w2,w3,w4,w5,w6,w7,w8,w9,w10,w11,w12,w13,w14,w15,w16,w17,w18,w19,w20,w21,w22,w23,w24,w25,w26,w27,w28,w29,w30,w31,w32,w33,w34,w35,w36,w37,w38],b,c,d,e⟩,f,g,h,i,j⟩
theorem e_PW:PWc=PWc:=rfl
name_quick x_PW for K49.PWc by K49.e_PW
end K49
noncomputable def PySem.W.Fast.tw12719387262892548092:PySem.Program:=PySem.W.Fast.tw10565973826640881184
theorem PySem.W.Fast.te12719387262892548092:R4=PySem.W.Fast.tw12719387262892548092:=(rfl:R4=K49.PWc).trans PySem.W.Fast.te10565973826640881184
namespace K49
open PySem L2
noncomputable def VWc:Program:={ R4 with main:={ R4.main with body:=[w0,w2,w3,w5,w7,w9,w11,w12,w13,w14,w15,w16,w18,w20,w21,w22,w23,w24,w25,w26,w27,w28,w29,w30,w31,w32,w33,w34,w35,w36,w37,w38] } }
noncomputable def S0:List Stmt:=[w16]
noncomputable def S1:List Stmt:=[w3,w4,w5,w6,w7,w8,w9,w10,w11]
noncomputable def S2:List Stmt:=[w17,w18,w19,w20,w21,w22,w23,w24,w25,w26,w27,w28,w29]
noncomputable def S3:List Stmt:=[w12,w13,w14,w15]
noncomputable def S4:List Stmt:=[w30,w31,w32,w33,w34,w35,w36,w37,w38]
noncomputable def S5:List Stmt:=[w0,w1,w2]
noncomputable def SB:Program×List (List Stmt):=(VWc,[S0,S1,S2,S3,S4,S5])
theorem e_SB:SB=SB:=rfl
name_quick x_SB for K49.SB by K49.e_SB
end K49
noncomputable def PySem.W.Fast.tw4027253627110761399:PySem.Program:=PySem.W.Fast.tw7097818760385872254
theorem PySem.W.Fast.te4027253627110761399:K49.VWc=PySem.W.Fast.tw4027253627110761399:=PySem.W.Fast.te7097818760385872254
noncomputable def PySem.W.Fast.tw14722824106646164674:List Sj:=PySem.W.Fast.tw10227535999336507594
theorem PySem.W.Fast.te14722824106646164674:K49.S0=PySem.W.Fast.tw14722824106646164674:=PySem.W.Fast.te10227535999336507594
noncomputable def PySem.W.Fast.tw3077418063133643011:List Sj:=PySem.W.Fast.tw4404909898667544175
theorem PySem.W.Fast.te3077418063133643011:K49.S1=PySem.W.Fast.tw3077418063133643011:=PySem.W.Fast.te4404909898667544175
noncomputable def PySem.W.Fast.tw8639294299374108579:List Sj:=PySem.W.Fast.tw6243538163234231744
theorem PySem.W.Fast.te8639294299374108579:K49.S2=PySem.W.Fast.tw8639294299374108579:=PySem.W.Fast.te6243538163234231744
noncomputable def PySem.W.Fast.tw18357897207451149351:List Sj:=PySem.W.Fast.tw2792693566565060270
theorem PySem.W.Fast.te18357897207451149351:K49.S3=PySem.W.Fast.tw18357897207451149351:=PySem.W.Fast.te2792693566565060270
noncomputable def PySem.W.Fast.tw13044608479837607497:List Sj:=PySem.W.Fast.tw1648203001369575875
theorem PySem.W.Fast.te13044608479837607497:K49.S4=PySem.W.Fast.tw13044608479837607497:=PySem.W.Fast.te1648203001369575875
noncomputable def PySem.W.Fast.tw6791550852768531803:List Sj:=PySem.W.Fast.tw7592800669810938027
theorem PySem.W.Fast.te6791550852768531803:K49.S5=PySem.W.Fast.tw6791550852768531803:=PySem.W.Fast.te7592800669810938027
namespace K49
open PySem L2 PySem.W
noncomputable def zs (i j:Nat):Stmt:=match A0 i with | .ClassDef _ _ _ b _ _ _ _ _ _ _=>b.getD j (.Pass ⟨0,0,0,0⟩) | s=>s
noncomputable def ze (P:Params)(s:Str)(t:Tok)(v:Value):DictEntry:=⟨PyData.keyHash P s,.str s t,v⟩
noncomputable abbrev B:=Re
noncomputable def evb (l:List Obj):Bool->List Obj:=@List.rec Obj (fun _=>Bool->List Obj) (fun _=>[]) (fun a _ ih b=>@Bool.rec (fun _=>List Obj) (ih true) (a::ih false) b) l
noncomputable def tO (l:List Obj):B:=@Nat.rec (fun _=>List Obj->B) (fun _=>.nil) (fun _ ih l=>@List.rec Obj (fun _=>B) .nil (fun x r _=>.node x (ih (evb r true)) (ih (evb r false))) l) 12 l
noncomputable def zv:List (Str×Tok)->List Value
 | []=>[]
 | (a,b)::t=>.str a b::zv t
noncomputable def zu (l:List (Str×Tok)):Obj:=⟨.type "tuple",none,.seq ⟨zv l⟩,#[]⟩
noncomputable def zt (c:String)(d:Data):Obj:=⟨.type c,none,d,#[]⟩
noncomputable def zf (n q:Str)(s:Stmt)(m:Str)(t:Tok)(c:Addr):Obj:=⟨.type "function",none,.func (Rn n q (Gu s) (E8 s) (A9 s) .none .none .none (.str m t) none (.ref c) .none),#[]⟩
noncomputable def zh (n q:Str)(s:Stmt):Obj:=⟨.none,none,.func ⟨n,q,Gu s,.stmts (E8 s),A9 s,0,[],.none,.none,.none,.none,none,.none,.none,0⟩,#[]⟩
noncomputable def zk (n q:Str)(t:Tok)(l a g:Int)(r:Addr)(b:Bool)(x:Value)(u:Int)(v:Tok):Obj:=⟨.type "code",none,.fields #[.str n t,.str q (t+1),.str "/claim/cut.py" (t+2),.int l 0,.int a 0,.int 0 0,.int 0 0,.int g 0,.ref r,.bool b,.int 181 0,.ref (r+1),.none,.none,.none,x,.int u 0,.int l 0,.str "/claim/cut.py" v],#[]⟩
noncomputable def zw:List (Int×Int×Addr)->List Value
 | []=>[]
 | (a,b,c)::t=>.int a 0::.int b 0::.ref c::zw t
noncomputable def zy (l:List (Int×Int×Addr)):Obj:=⟨.none,none,.fields ⟨zw l⟩,#[]⟩
noncomputable def zc (n q:Str)(t:Tok)(l a g:Int)(r:Addr)(u:Int)(v:Tok):Obj:=⟨.type "code",none,.fields #[.str n t,.str q (t+1),.str "/claim/cut.py" (t+2),.int l 0,.int a 0,.int 0 0,.int 0 0,.int g 0,.ref r,.bool true,.int 181 0,.ref (r+1),.none,.ref (r+2),.ref (r+3),.ref (r+4),.int u 0,.int l 0,.str "/claim/cut.py" v],#[]⟩
noncomputable def zb (n:Str):=zc n n
noncomputable def zi (n:Str):=zf n n
noncomputable def zj (n:Str):=zh n n
noncomputable section
def d0 (P:Params):=[ze P "__name__" 165 (.str "gapscribe.errors" 194),ze P "__doc__" 166 .none,ze P "__package__" 167 .none,ze P "__loader__" 168 (.builtin "__main__.__loader__#opaque"),ze P "__spec__" 169 .none,ze P "__annotations__" 170 (.ref 6),ze P "__builtins__" 171 (.ref 4),ze P "__file__" 173 (.str "/claim/cut.py" 172),ze P "__cached__" 174 .none,ze P "_wall" 193 (.ref 21),ze P "GapError" 213 (.ref 31)]
def z0 (P:Params):=zt "dict" (.dict ⟨d0 P⟩ 11)
def z1:=zt "tuple" (.seq #[])
noncomputable def y0:List (Int×Int×Addr):=[(1,0,20),(5,0,27)]
def z2:=zy y0
def z3:=zk "<module>" "<module>" 182 1 0 0 11 false .none 185 186
noncomputable def zq0 (x0:Nat)(x1:Nat)(x2:Str)(x3:Nat):Obj:=Obj.mk (.type "frame") none Data.plain #[some (.ref x0),some (.ref 3),some (.ref x1),none,some (.str x2 x3),none,some (.ref 0)]
def z4:=zq0 13 3 "__main__" 164
def h0_0 (P:Params)(t:List Obj):=(boot_o_0 P)::(boot_o_1 P)::(boot_o_2 P)::(z0 P)::(boot_o_4 P)::(boot_o_5 P)::(boot_o_6 P)::(boot_o_7 P)::(boot_o_8 P)::(boot_o_9 P)::(boot_o_10 P)::z1::z2::z3::z4::z1::t
noncomputable def z5:=Obj.mk .none none (.fields #[]) #[]
def z6:=zu [("k",190)]
def z7:=zj "_wall" w0
def z8:=zb "_wall" 187 1 1 3 15 191 192
def z9:=zi "_wall" w0 "__main__" 164 20
def z10:=zt "tuple" (.seq #[.type "ValueError"])
def z11:=zt "builtin_function_or_method" (.fields #[.builtin "type.__prepare__",.type "type"])
def z12 (P:Params):=zt "dict" (.dict #[ze P "__module__" 203 (.str "gapscribe.errors" 194),ze P "__qualname__" 205 (.str "GapError" 204),ze P "__firstlineno__" 207 (.int 5 206),ze P "__static_attributes__" 208 (.ref 29)] 4)
def z13:=zk "GapError" "GapError" 198 5 0 0 25 false .none 201 202
def z14:=zq0 27 24 "gapscribe.errors" 194
def z15 (P:Params):=zt "dict" (.dict #[ze P "__module__" 203 (.str "gapscribe.errors" 194),ze P "__firstlineno__" 207 (.int 5 206),ze P "__static_attributes__" 208 (.ref 29),ze P "__weakref__" 210 (.ref 32),ze P "__doc__" 211 .none] 3)
noncomputable def z16:=Obj.mk (.type "type") none (.cls (ClassData.mk "GapError" [.type "ValueError"] [.ref 31,.type "ValueError",.type "Exception",.type "BaseException",.type "object"] 30 "GapError" true [] [] false none false)) #[some (.ref 22),none,some (.str "GapError" 196),some (.str "GapError" 204),some (.builtin "ValueError.__new__"),some (.bool true)]
def h1_0 (P:Params)(t:List Obj):=z5::z6::z1::z7::z8::z9::z10::z11::(z12 P)::z1::z5::z13::z14::z1::(z15 P)::z16::t
def z17:=zt "getset_descriptor" (.fields #[.str "__weakref__" 209,.ref 31,.builtin "ExceptionGroup.__weakref__",.none])
def z18:=zt "super" (.fields #[.ref 31,.ref 31,.ref 31])
def z19:=zt "builtin_function_or_method" (.fields #[.builtin "object.__init_subclass__",.ref 31])
def h2_0 (P:Params)(t:List Obj):=z17::z18::z19::t
def Rtree_70:Params->B:=fun P=>tO (h0_0 P (h1_0 P (h2_0 P [])))
def d1 (P:Params):=[ze P "__name__" 165 (.str "gapscribe.machine" 264),ze P "__doc__" 166 .none,ze P "__package__" 167 .none,ze P "__loader__" 168 (.builtin "__main__.__loader__#opaque"),ze P "__spec__" 169 .none,ze P "__annotations__" 170 (.ref 6),ze P "__builtins__" 171 (.ref 4),ze P "__file__" 173 (.str "/claim/cut.py" 172),ze P "__cached__" 174 .none,ze P "_wall" 193 (.ref 21),ze P "GapError" 213 (.ref 31),ze P "TooLong" 229 (.ref 44),ze P "placed_forms" 243 (.ref 53),ze P "is_finished" 253 (.ref 60),ze P "names_bound" 263 (.ref 67),ze P "MOST_STEPS" 267 (.int 500 266)]
def z20 (P:Params):=zt "dict" (.dict ⟨d1 P⟩ 16)
def y1:List (Int×Int×Addr):=y0++[(7,0,40),(10,0,52),(20,0,59),(23,0,66)]
def z21:=zy y1
def Il (P:Params)(x0 x1:Obj)(t:List Obj):List Obj:=(boot_o_0 P)::(boot_o_1 P)::(boot_o_2 P)::x0::(boot_o_4 P)::(boot_o_5 P)::(boot_o_6 P)::(boot_o_7 P)::(boot_o_8 P)::(boot_o_9 P)::(boot_o_10 P)::z1::x1::z3::z4::z1::t
def h3_0 (P:Params)(t:List Obj):=Il P (z20 P) z21 t
noncomputable def z22:=Obj.mk (.type "type") none (.cls (ClassData.mk "GapError" [.type "ValueError"] [.ref 31,.type "ValueError",.type "Exception",.type "BaseException",.type "object"] 30 "GapError" true [] [.ref 44] false none false)) #[some (.ref 22),none,some (.str "GapError" 196),some (.str "GapError" 204),some (.builtin "ValueError.__new__"),some (.bool true)]
def Gs (P:Params)(t:List Obj):List Obj:=z5::z6::z1::z7::z8::z9::z10::z11::(z12 P)::z1::z5::z13::z14::z1::(z15 P)::z22::t
def z23:=zt "tuple" (.seq #[.ref 31])
def z24 (P:Params):=zt "dict" (.dict #[ze P "__module__" 221 (.str "gapscribe.errors" 194),ze P "__qualname__" 223 (.str "TooLong" 222),ze P "__firstlineno__" 225 (.int 7 224),ze P "__static_attributes__" 226 (.ref 42)] 4)
def z25:=zk "TooLong" "TooLong" 216 7 0 0 38 false .none 219 220
def z26:=zq0 40 37 "gapscribe.errors" 194
def z27 (P:Params):=zt "dict" (.dict #[ze P "__module__" 221 (.str "gapscribe.errors" 194),ze P "__firstlineno__" 225 (.int 7 224),ze P "__static_attributes__" 226 (.ref 42),ze P "__doc__" 227 .none] 2)
noncomputable def z28:=Obj.mk (.type "type") none (.cls (ClassData.mk "TooLong" [.ref 31] [.ref 44,.ref 31,.type "ValueError",.type "Exception",.type "BaseException",.type "object"] 43 "TooLong" true [] [] false none false)) #[some (.ref 35),none,some (.str "TooLong" 214),some (.str "TooLong" 222),some (.builtin "ValueError.__new__"),some (.bool true)]
def z29:=zt "super" (.fields #[.ref 44,.ref 44,.ref 44])
def z30:=zt "builtin_function_or_method" (.fields #[.builtin "object.__init_subclass__",.ref 44])
def Hd (P:Params)(t:List Obj):List Obj:=z17::z18::z19::z23::z11::(z24 P)::z1::z5::z25::z26::z1::(z27 P)::z28::z29::z30::z1::t
def z31:=zu [("tree",235),("told",236),("waiting",237),("pair",238),("number",239),("part",240)]
def z32:=zj "placed_forms" J8
def z33:=zb "placed_forms" 232 10 1 3 47 241 242
def z34:=zi "placed_forms" J8 "gapscribe.places" 230 52
def z35:=zu [("thing",249),("rows",250)]
def z36:=zj "is_finished" Jp
def z37:=zb "is_finished" 246 20 2 3 54 251 252
def z38:=zi "is_finished" Jp "gapscribe.rows" 244 59
def z39:=zu [("form",259),("number",260)]
def G4 (P:Params)(t:List Obj):List Obj:=z5::z31::z1::z32::z33::z34::z1::z5::z35::z1::z36::z37::z38::z1::z5::z39::t
def z40:=zj "names_bound" Kj
def z41:=zb "names_bound" 256 23 2 3 61 261 262
def z42:=zi "names_bound" Kj "gapscribe.scopes" 254 66
def h7_0 (P:Params)(t:List Obj):=z1::z40::z41::z42::t
def Rtree_106:Params->B:=fun P=>tO (h3_0 P (Gs P (Hd P (G4 P (h7_0 P [])))))
def d2 (P:Params):=d1 P++[ze P "PARTS_AWAITED" 290 (.ref 68),ze P "WORDS_WITH_AROUND" 295 (.ref 75),ze P "are_numbers" 301 (.ref 80),ze P "reckoned" 310 (.ref 87)]
def z43 (P:Params):=zt "dict" (.dict ⟨d2 P⟩ 20)
def y2:List (Int×Int×Addr):=y1++[(35,0,79),(37,0,86)]
def z44:=zy y2
def h8_0 (P:Params)(t:List Obj):=Il P (z43 P) z44 t
def z45 (P:Params):=zt "dict" (.dict #[ze P "plus" 268 (.ref 69),ze P "minus" 271 (.ref 70),ze P "less" 274 (.ref 71),ze P "call" 277 (.ref 72),ze P "if" 280 (.ref 73),ze P "let" 282 (.ref 74)] 6)
def z46:=zt "tuple" (.seq #[.int 1 269,.int 0 270])
def z47:=zt "tuple" (.seq #[.int 1 272,.int 0 273])
def z48:=zt "tuple" (.seq #[.int 1 275,.int 0 276])
def z49:=zt "tuple" (.seq #[.int 1 278,.int 0 279])
def z50:=zt "tuple" (.seq #[.int 0 281])
def z51:=zt "tuple" (.seq #[.int 0 283])
def z52:=zu [("gap",291),("fn",292),("rec",293),("if",294)]
def z53:=zj "are_numbers" Kn
def z54:=zk "are_numbers" "are_numbers" 296 35 1 3 76 true (.ref 78) 299 300
def Ip (P:Params)(t:List Obj):List Obj:=z1::z40::z41::z42::(z45 P)::z46::z47::z48::z49::z50::z51::z52::z1::z5::z53::z54::t
def z55:=zi "are_numbers" Kn "gapscribe.machine" 264 79
def z56:=zu [("word",305),("left",306),("right",307)]
def z57:=zj "reckoned" Jz
def z58:=zb "reckoned" 302 37 3 3 81 308 309
def z59:=zi "reckoned" Jz "gapscribe.machine" 264 86
def Zjt (P:Params)(t:List Obj):List Obj:=z55::z1::z5::z56::z1::z57::z58::z59::t
def Rtree_128:Params->B:=fun P=>tO (h8_0 P (Gs P (Hd P (G4 P (Ip P (Zjt P []))))))
def d3 (P:Params):=d2 P++[ze P "Machine" 460 (.ref 186)]
def z60 (P:Params):=zt "dict" (.dict ⟨d3 P⟩ 21)
def y3:List (Int×Int×Addr):=y2++[(43,0,93)]
def z61:=zy y3
def Zpu (P:Params)(t:List Obj):List Obj:=Il P (z60 P) z61 t
def d4 (P:Params):=[ze P "__module__" 318 (.str "gapscribe.machine" 264),ze P "__qualname__" 320 (.str "Machine" 319),ze P "__firstlineno__" 322 (.int 43 321),ze P "__init__" 331 (.ref 101),ze P "make_steps" 339 (.ref 108),ze P "new_row" 351 (.ref 115),ze P "thing_of_form" 360 (.ref 122),ze P "thing_of_parts" 370 (.ref 129),ze P "thing_at_the_end" 380 (.ref 136),ze P "come_to" 386 (.ref 141),ze P "thing_of_leaf" 398 (.ref 148),ze P "go_further" 409 (.ref 155),ze P "taken_things" 418 (.ref 162),ze P "is_function" 426 (.ref 169),ze P "call" 435 (.ref 176),ze P "go_within" 447 (.ref 183),ze P "__static_attributes__" 453 (.ref 184)]
def z62 (P:Params):=zt "dict" (.dict ⟨d4 P⟩ 17)
noncomputable def y4:List (Int×Int×Addr):=[(45,4,100),(53,4,107),(58,4,114),(63,4,121),(67,4,128),(70,4,135),(79,4,140),(89,4,147),(97,4,154),(111,4,161),(116,4,168),(119,4,175),(123,4,182)]
def z63:=zy y4
def z64:=zk "Machine" "Machine" 313 43 0 0 91 false .none 316 317
def z65:=zq0 93 90 "gapscribe.machine" 264
def Mu (P:Params)(t:List Obj):List Obj:=z55::z1::z5::z56::z1::z57::z58::z59::z1::z11::(z62 P)::z1::z63::z64::z65::z1::t
def z66:=zu [("self",326),("tree",327),("steps",328)]
def z67:=zh "__init__" "Machine.__init__" Ju
def z68:=zc "__init__" "Machine.__init__" 323 45 3 3 95 329 330
def z69:=zf "__init__" "Machine.__init__" Ju "gapscribe.machine" 264 100
def z70:=zu [("self",335),("many",336)]
def z71:=zh "make_steps" "Machine.make_steps" Iv
def z72:=zc "make_steps" "Machine.make_steps" 332 53 2 3 102 337 338
def z73:=zf "make_steps" "Machine.make_steps" Iv "gapscribe.machine" 264 107
def z74:=zu [("self",343),("word",344),("place",345),("operands",346),("around",347),("kept",348)]
def Jr (P:Params)(t:List Obj):List Obj:=z5::z66::z1::z67::z68::z69::z1::z5::z70::z1::z71::z72::z73::z1::z5::z74::t
def z75:=zh "new_row" "Machine.new_row" La
def z76:=zc "new_row" "Machine.new_row" 340 58 5 3 109 349 350
def z77:=zf "new_row" "Machine.new_row" La "gapscribe.machine" 264 114
def z78:=zu [("self",355),("place",356),("around",357)]
def z79:=zh "thing_of_form" "Machine.thing_of_form" Ke
def z80:=zc "thing_of_form" "Machine.thing_of_form" 352 63 3 3 116 358 359
def z81:=zf "thing_of_form" "Machine.thing_of_form" Ke "gapscribe.machine" 264 121
def z82:=zu [("self",364),("place",365),("operands",366),("around",367)]
def z83:=zh "thing_of_parts" "Machine.thing_of_parts" Nq
def K3 (P:Params)(t:List Obj):List Obj:=z1::z75::z76::z77::z1::z5::z78::z1::z79::z80::z81::z1::z5::z82::z1::z83::t
def z84:=zc "thing_of_parts" "Machine.thing_of_parts" 361 67 4 3 123 368 369
def z85:=zf "thing_of_parts" "Machine.thing_of_parts" Nq "gapscribe.machine" 264 128
def z86:=zu [("self",374),("place",375),("around",376),("parts_came",377)]
def z87:=zh "thing_at_the_end" "Machine.thing_at_the_end" J7
def z88:=zc "thing_at_the_end" "Machine.thing_at_the_end" 371 70 1 3 130 378 379
def z89:=zf "thing_at_the_end" "Machine.thing_at_the_end" J7 "gapscribe.machine" 264 135
def z90:=zh "come_to" "Machine.come_to" Ie
def z91:=zk "come_to" "Machine.come_to" 381 79 3 3 137 true (.ref 139) 384 385
def z92:=zf "come_to" "Machine.come_to" Ie "gapscribe.machine" 264 140
def Kd (P:Params)(t:List Obj):List Obj:=z84::z85::z1::z5::z86::z1::z87::z88::z89::z1::z5::z90::z91::z92::z1::z5::t
def z93:=zu [("self",390),("word",391),("note",392),("place",393),("around",394),("bound",395)]
def z94:=zh "thing_of_leaf" "Machine.thing_of_leaf" K5
def z95:=zc "thing_of_leaf" "Machine.thing_of_leaf" 387 89 5 3 142 396 397
def z96:=zf "thing_of_leaf" "Machine.thing_of_leaf" K5 "gapscribe.machine" 264 147
def z97:=zu [("self",402),("place",403),("around",404),("word",405),("operands",406)]
def z98:=zh "go_further" "Machine.go_further" K2
def z99:=zc "go_further" "Machine.go_further" 399 97 3 3 149 407 408
def z100:=zf "go_further" "Machine.go_further" K2 "gapscribe.machine" 264 154
def z101:=zu [("self",413),("many",414),("taken",415)]
def J1 (P:Params)(t:List Obj):List Obj:=z93::z1::z94::z95::z96::z1::z5::z97::z1::z98::z99::z100::z1::z5::z101::z1::t
def z102:=zh "taken_things" "Machine.taken_things" Kq
def Nj:Obj:=zc "taken_things" "Machine.taken_things" 410 111 2 3 156 416 417
def Of:Obj:=zf "taken_things" "Machine.taken_things" Kq "gapscribe.machine" 264 161
def z105:=zu [("self",422),("thing",423)]
def z106:=zh "is_function" "Machine.is_function" J0
def Op:Obj:=zc "is_function" "Machine.is_function" 419 116 2 3 163 424 425
def z108:=zf "is_function" "Machine.is_function" J0 "gapscribe.machine" 264 168
def z109:=zu [("self",430),("operands",431),("row",432)]
def z110:=zh "call" "Machine.call" Kr
def z111:=zc "call" "Machine.call" 427 119 2 3 170 433 434
def L9 (P:Params)(t:List Obj):List Obj:=z102::Nj::Of::z1::z5::z105::z1::z106::Op::z108::z1::z5::z109::z1::z110::z111::t
def Zax:Obj:=zf "call" "Machine.call" Kr "gapscribe.machine" 264 175
def z113:=zu [("self",439),("place",440),("number",441),("around",442),("things",443),("names",444)]
def z114:=zh "go_within" "Machine.go_within" Jo
def Zbd:Obj:=zc "go_within" "Machine.go_within" 436 123 5 3 177 445 446
def Zan:Obj:=zf "go_within" "Machine.go_within" Jo "gapscribe.machine" 264 182
def z117:=zu [("forms",448),("rows",449),("steps",450),("things",451),("waiting",452)]
def d5 (P:Params):=[ze P "__module__" 318 (.str "gapscribe.machine" 264),ze P "__firstlineno__" 322 (.int 43 321),ze P "__init__" 331 (.ref 101),ze P "make_steps" 339 (.ref 108),ze P "new_row" 351 (.ref 115),ze P "thing_of_form" 360 (.ref 122),ze P "thing_of_parts" 370 (.ref 129),ze P "thing_at_the_end" 380 (.ref 136),ze P "come_to" 386 (.ref 141),ze P "thing_of_leaf" 398 (.ref 148),ze P "go_further" 409 (.ref 155),ze P "taken_things" 418 (.ref 162),ze P "is_function" 426 (.ref 169),ze P "call" 435 (.ref 176),ze P "go_within" 447 (.ref 183),ze P "__static_attributes__" 453 (.ref 184),ze P "__dict__" 455 (.ref 187),ze P "__weakref__" 457 (.ref 188),ze P "__doc__" 458 .none]
def Za0 (P:Params):Obj:=zt "dict" (.dict ⟨d5 P⟩ 4)
noncomputable def N6:Obj:=Obj.mk (.type "type") none (.cls (ClassData.mk "Machine" [.type "object"] [.ref 186,.type "object"] 185 "Machine" true [] [] false none false)) #[none,none,some (.str "Machine" 311),some (.str "Machine" 319),some (.builtin "object.__new__"),some (.bool true)]
def z120:=zt "getset_descriptor" (.fields #[.str "__dict__" 454,.ref 186,.builtin "function.__dict__",.builtin "function.__dict__#set"])
def z121:=zt "getset_descriptor" (.fields #[.str "__weakref__" 456,.ref 186,.builtin "ExceptionGroup.__weakref__",.none])
def z122:=zt "super" (.fields #[.ref 186,.ref 186,.ref 186])
def z123:=zt "builtin_function_or_method" (.fields #[.builtin "object.__init_subclass__",.ref 186])
def Zn0 (P:Params)(t:List Obj):List Obj:=Zax::z1::z5::z113::z1::z114::Zbd::Zan::z117::(Za0 P)::N6::z120::z121::z122::z123::t
def Rtree_235:Params->B:=fun P=>tO (Zpu P (Gs P (Hd P (G4 P (Ip P (Mu P (Jr P (K3 P (Kd P (J1 P (L9 P (Zn0 P []))))))))))))
def Zqf (P:Params)(t:List Obj):List Obj:=Il P (z43 P) z61 t
def d6 (P:Params):=[ze P "__module__" 318 (.str "gapscribe.machine" 264),ze P "__qualname__" 320 (.str "Machine" 319),ze P "__firstlineno__" 322 (.int 43 321),ze P "__init__" 331 (.ref 101),ze P "make_steps" 339 (.ref 108),ze P "new_row" 351 (.ref 115),ze P "thing_of_form" 360 (.ref 122),ze P "thing_of_parts" 370 (.ref 129),ze P "thing_at_the_end" 380 (.ref 136),ze P "come_to" 386 (.ref 141),ze P "thing_of_leaf" 398 (.ref 148),ze P "go_further" 409 (.ref 155),ze P "taken_things" 418 (.ref 162)]
def z124 (P:Params):=zt "dict" (.dict ⟨d6 P⟩ 13)
noncomputable def y5:List (Int×Int×Addr):=[(45,4,100),(53,4,107),(58,4,114),(63,4,121),(67,4,128),(70,4,135),(79,4,140),(89,4,147),(97,4,154),(111,4,161)]
def z125:=zy y5
def Zn6 (P:Params)(t:List Obj):List Obj:=z55::z1::z5::z56::z1::z57::z58::z59::z1::z11::(z124 P)::z1::z125::z64::z65::z1::t
def Zpz (P:Params)(t:List Obj):List Obj:=z102::Nj::Of::z1::z5::z105::z1::z106::Op::t
def Rtree_317:Params->B:=fun P=>tO (Zqf P (Gs P (Hd P (G4 P (Ip P (Zn6 P (Jr P (K3 P (Kd P (J1 P (Zpz P [])))))))))))
def d7 (P:Params):=[ze P "__name__" 165 (.str "law_gapscribe_k49_whole_put_round" 472),ze P "__doc__" 166 .none,ze P "__package__" 167 .none,ze P "__loader__" 168 (.builtin "__main__.__loader__#opaque"),ze P "__spec__" 169 .none,ze P "__annotations__" 170 (.ref 6),ze P "__builtins__" 171 (.ref 4),ze P "__file__" 173 (.str "/claim/cut.py" 172),ze P "__cached__" 174 .none,ze P "_wall" 193 (.ref 21),ze P "GapError" 213 (.ref 31),ze P "TooLong" 229 (.ref 44),ze P "placed_forms" 243 (.ref 53),ze P "is_finished" 253 (.ref 60),ze P "names_bound" 263 (.ref 67),ze P "MOST_STEPS" 267 (.int 500 266),ze P "PARTS_AWAITED" 290 (.ref 68),ze P "WORDS_WITH_AROUND" 295 (.ref 75),ze P "are_numbers" 301 (.ref 80),ze P "reckoned" 310 (.ref 87),ze P "Machine" 460 (.ref 186),ze P "run" 471 (.ref 197),ze P "_law_cell" 481 (.ref 204),ze P "_law_mixed" 489 (.ref 211),ze P "_law_same" 498 (.ref 218),ze P "_law_names" 515 (.ref 225),ze P "_law_number" 522 (.ref 232),ze P "_law_is_free" 529 (.ref 239),ze P "_law_any" 546 (.ref 246),ze P "_law_end" 552 (.ref 251),ze P "_law_form" 573 (.ref 258),ze P "_law_is_thing" 581 (.ref 265)]
def z126 (P:Params):=zt "dict" (.dict ⟨d7 P⟩ 32)
def y6:List (Int×Int×Addr):=y3++[(127,0,196),(132,0,203),(136,0,210),(138,0,217),(155,0,224),(171,0,231),(177,0,238),(179,0,245),(206,0,250),(223,0,257),(257,0,264)]
def z127:=zy y6
def Zn4 (P:Params)(t:List Obj):List Obj:=Il P (z126 P) z127 t
def Zaw (P:Params)(t:List Obj):List Obj:=Zax::z1::z5::z113::z1::z114::Zbd::Zan::z117::(Za0 P)::N6::z120::z121::z122::z123::z1::t
def z128:=zu [("tree",466),("machine",467),("answer",468)]
def z129:=zj "run" Kv
def z130:=zb "run" 463 127 1 3 191 469 470
def z131:=zi "run" Kv "gapscribe.runs" 461 196
def z132:=zu [("_law_script",477),("_law_k",478)]
def z133:=zj "_law_cell" Jy
def z134:=zb "_law_cell" 474 132 2 3 198 479 480
def z135:=zi "_law_cell" Jy "law_gapscribe_k49_whole_put_round" 472 203
def z136:=zu [("_law_cell_here",485),("_law_k",486)]
def Om (P:Params)(t:List Obj):List Obj:=z5::z128::z1::z129::z130::z131::z1::z5::z132::z1::z133::z134::z135::z1::z5::z136::t
def z137:=zj "_law_mixed" J5
def z138:=zb "_law_mixed" 482 136 2 3 205 487 488
def z139:=zi "_law_mixed" J5 "law_gapscribe_k49_whole_put_round" 472 210
def z140:=zu [("_law_found",493),("_law_due_here",494),("_law_k",495)]
def z141:=zj "_law_same" Jf
def z142:=zb "_law_same" 490 138 2 3 212 496 497
def z143:=zi "_law_same" Jf "law_gapscribe_k49_whole_put_round" 472 217
def z144:=zu [("_law_cell_here",502),("_law_many",503),("_law_signs",504),("_law_kept",505),("_law_size",506),("_law_at",507),("_law_names_here",508),("_law_k",509),("_law_word",510),("_law_j",511),("_law_step",512)]
def z145:=zj "_law_names" Ky
def Zbv (P:Params)(t:List Obj):List Obj:=z1::z137::z138::z139::z1::z5::z140::z1::z141::z142::z143::z1::z5::z144::z1::z145::t
def z146:=zb "_law_names" 499 155 2 3 219 513 514
def z147:=zi "_law_names" Ky "law_gapscribe_k49_whole_put_round" 472 224
def z148:=zu [("_law_cell_here",519)]
def z149:=zj "_law_number" K0
def z150:=zb "_law_number" 516 171 1 3 226 520 521
def z151:=zi "_law_number" K0 "law_gapscribe_k49_whole_put_round" 472 231
def z152:=zu [("_law_script",526)]
def z153:=zj "_law_is_free" Kb
def z154:=zb "_law_is_free" 523 177 1 3 233 527 528
def z155:=zi "_law_is_free" Kb "law_gapscribe_k49_whole_put_round" 472 238
def Zbu (P:Params)(t:List Obj):List Obj:=z146::z147::z1::z5::z148::z1::z149::z150::z151::z1::z5::z152::z1::z153::z154::z155::t
def z156:=zu [("_law_cells",533),("_law_names_here",534),("_law_deep",535),("_law_cell_here",536),("_law_rest",537),("_law_some",538),("_law_word",539),("_law_note",540),("_law_many",541),("_law_parts",542),("_law_k",543)]
def z157:=zj "_law_any" Ho
def z158:=zb "_law_any" 530 179 3 3 240 544 545
def z159:=zi "_law_any" Ho "law_gapscribe_k49_whole_put_round" 472 245
def z160:=zj "_law_end" Ks
def z161:=zk "_law_end" "_law_end" 547 206 4 3 247 true (.ref 249) 550 551
def z162:=zi "_law_end" Ks "law_gapscribe_k49_whole_put_round" 472 250
def z163:=zu [("_law_cells",556),("_law_around",557),("_law_names_here",558),("_law_room",559),("_law_sort",560),("_law_cell_here",561),("_law_pick",562),("_law_one",563),("_law_rest",564),("_law_name",565),("_law_kind",566),("_law_first",567),("_law_other",568),("_law_more",569),("_law_word",570)]
def Od (P:Params)(t:List Obj):List Obj:=z1::z5::z156::z1::z157::z158::z159::z1::z5::z160::z161::z162::z1::z5::z163::z1::t
def z164:=zj "_law_form" Hq
def Nf:Obj:=zb "_law_form" 553 223 5 3 252 571 572
def O4:Obj:=zi "_law_form" Hq "law_gapscribe_k49_whole_put_round" 472 257
def z167:=zu [("_law_thing_here",577),("_law_many",578)]
def z168:=zj "_law_is_thing" Kf
def Nd:Obj:=zb "_law_is_thing" 574 257 2 3 259 579 580
def Oi:Obj:=zi "_law_is_thing" Kf "law_gapscribe_k49_whole_put_round" 472 264
def Zh8 (P:Params)(t:List Obj):List Obj:=z164::Nf::O4::z1::z5::z167::z1::z168::Nd::Oi::t
def Rtree_397:Params->B:=fun P=>tO (Zn4 P (Gs P (Hd P (G4 P (Ip P (Mu P (Jr P (K3 P (Kd P (J1 P (L9 P (Zaw P (Om P (Zbv P (Zbu P (Od P (Zh8 P [])))))))))))))))))
def d8 (P:Params):=d7 P++[ze P "_law_is_row" 591 (.ref 272),ze P "_law_is_record" 599 (.ref 279),ze P "_law_run" 607 (.ref 286),ze P "_law_thing" 615 (.ref 293),ze P "_law_moved" 621 (.ref 298),ze P "_law_tree" 632 (.ref 305),ze P "_law_heads" 642 (.ref 312),ze P "_law_due" 660 (.ref 319),ze P "law" 680 (.ref 326)]
def z171 (P:Params):=zt "dict" (.dict ⟨d8 P⟩ 41)
def y7:List (Int×Int×Addr):=y6++[(267,0,271),(283,0,278),(292,0,285),(299,0,292),(303,0,297),(311,0,304),(323,0,311),(335,0,318),(348,0,325)]
def z172:=zy y7
def Zd2 (P:Params)(t:List Obj):List Obj:=Il P (z171 P) z172 t
def z173:=zu [("_law_row",585),("_law_k",586),("_law_thing_here",587),("_law_pair",588)]
def z174:=zj "_law_is_row" K9
def z175:=zb "_law_is_row" 582 267 2 3 266 589 590
def Zev (P:Params)(t:List Obj):List Obj:=z164::Nf::O4::z1::z5::z167::z1::z168::Nd::Oi::z1::z5::z173::z1::z174::z175::t
def z176:=zi "_law_is_row" K9 "law_gapscribe_k49_whole_put_round" 472 271
def z177:=zu [("_law_found",595),("_law_k",596)]
def z178:=zj "_law_is_record" K1
def z179:=zb "_law_is_record" 592 283 1 3 273 597 598
def z180:=zi "_law_is_record" K1 "law_gapscribe_k49_whole_put_round" 472 278
def z181:=zu [("_law_tree_here",603),("_law_found",604)]
def z182:=zj "_law_run" Kg
def z183:=zb "_law_run" 600 292 1 3 280 605 606
def z184:=zi "_law_run" Kg "law_gapscribe_k49_whole_put_round" 472 285
def Zb4 (P:Params)(t:List Obj):List Obj:=z176::z1::z5::z177::z1::z178::z179::z180::z1::z5::z181::z1::z182::z183::z184::z1::t
def z185:=zu [("_law_thing_here",611),("_law_many",612)]
def z186:=zj "_law_thing" J2
def z187:=zb "_law_thing" 608 299 2 3 287 613 614
def z188:=zi "_law_thing" J2 "law_gapscribe_k49_whole_put_round" 472 292
def z189:=zj "_law_moved" Kt
def z190:=zk "_law_moved" "_law_moved" 616 303 4 3 294 true (.ref 296) 619 620
def z191:=zi "_law_moved" Kt "law_gapscribe_k49_whole_put_round" 472 297
def z192:=zu [("_law_way_of",625),("_law_one",626),("_law_other",627),("_law_names_here",628),("_law_body",629)]
def z193:=zj "_law_tree" J6
def Zdy (P:Params)(t:List Obj):List Obj:=z5::z185::z1::z186::z187::z188::z1::z5::z189::z190::z191::z1::z5::z192::z1::z193::t
def z194:=zb "_law_tree" 622 311 4 3 299 630 631
def z195:=zi "_law_tree" J6 "law_gapscribe_k49_whole_put_round" 472 304
def z196:=zu [("_law_way_of",636),("_law_names_here",637),("_law_first",638),("_law_heads_here",639)]
def z197:=zj "_law_heads" Kz
def z198:=zb "_law_heads" 633 323 3 3 306 640 641
def z199:=zi "_law_heads" Kz "law_gapscribe_k49_whole_put_round" 472 311
def z200:=zu [("_law_way_of",646),("_law_names_here",647),("_law_first",648),("_law_second",649),("_law_heads_here",650),("_law_here",651),("_law_pairs",652),("_law_there",653),("_law_more",654),("_law_rows",655),("_law_thing_here",656),("_law_answer",657)]
def z201:=zj "_law_due" Jj
def z202:=zb "_law_due" 643 335 4 3 313 658 659
def z203:=zi "_law_due" Jj "law_gapscribe_k49_whole_put_round" 472 318
def Zge (P:Params)(t:List Obj):List Obj:=z194::z195::z1::z5::z196::z1::z197::z198::z199::z1::z5::z200::z1::z201::z202::z203::t
def z204:=zu [("_law_script",664),("_law_names_here",665),("_law_cells",666),("_law_half",667),("_law_cell_here",668),("_law_sort",669),("_law_one",670),("_law_other",671),("_law_way_of",672),("_law_new",673),("_law_first",674),("_law_second",675),("_law_whole",676),("_law_due_here",677)]
def z205:=zj "law" Ki
def z206:=zb "law" 661 348 1 3 320 678 679
def z207:=zi "law" Ki "law_gapscribe_k49_whole_put_round" 472 325
def Zc7 (P:Params)(t:List Obj):List Obj:=z1::z5::z204::z1::z205::z206::z207::t
def Rtree_460:Params->B:=fun P=>tO (Zd2 P (Gs P (Hd P (G4 P (Ip P (Mu P (Jr P (K3 P (Kd P (J1 P (L9 P (Zaw P (Om P (Zbv P (Zbu P (Od P (Zev P (Zb4 P (Zdy P (Zge P (Zc7 P [])))))))))))))))))))))
def Rheap_461:Params->Heap:=fun P=>⟨⟨Zd2 P (Gs P (Hd P (G4 P (Ip P (Mu P (Jr P (K3 P (Kd P (J1 P (L9 P (Zaw P (Om P (Zbv P (Zbu P (Od P (Zev P (Zb4 P (Zdy P (Zge P (Zc7 P []))))))))))))))))))))⟩,Life.mk [] [] [] 0 [] [] false #[] [] 0 false false false 0 [2000,10,10] false 0 true [] [] 0 false⟩
end
noncomputable def KK:Params->O6:=fun P=>(nat_lit 2,boot_o_2 P)::(nat_lit 3,z171 P)::(nat_lit 30,z15 P)::(nat_lit 31,z22)::(nat_lit 43,z27 P)::(nat_lit 44,z28)::(nat_lit 52,z33)::(nat_lit 53,z34)::(nat_lit 59,z37)::(nat_lit 60,z38)::(nat_lit 66,z41)::(nat_lit 67,z42)::(nat_lit 68,z45 P)::(nat_lit 69,z46)::(nat_lit 70,z47)::(nat_lit 71,z48)::(nat_lit 72,z49)::(nat_lit 73,z50)::(nat_lit 74,z51)::(nat_lit 75,z52)::(nat_lit 79,z54)::(nat_lit 80,z55)::(nat_lit 86,z58)::(nat_lit 87,z59)::(nat_lit 100,z68)::(nat_lit 101,z69)::(nat_lit 107,z72)::(nat_lit 108,z73)::(nat_lit 114,z76)::(nat_lit 115,z77)::(nat_lit 121,z80)::(nat_lit 122,z81)::(nat_lit 135,z88)::(nat_lit 136,z89)::(nat_lit 140,z91)::(nat_lit 141,z92)::(nat_lit 147,z95)::(nat_lit 148,z96)::(nat_lit 154,z99)::(nat_lit 155,z100)::(nat_lit 161,Nj)::(nat_lit 162,Of)::(nat_lit 168,Op)::(nat_lit 169,z108)::(nat_lit 175,z111)::(nat_lit 176,Zax)::(nat_lit 182,Zbd)::(nat_lit 183,Zan)::(nat_lit 185,Za0 P)::(nat_lit 186,N6)::(nat_lit 196,z130)::(nat_lit 197,z131)::(nat_lit 203,z134)::(nat_lit 204,z135)::(nat_lit 210,z138)::(nat_lit 211,z139)::(nat_lit 217,z142)::(nat_lit 218,z143)::(nat_lit 224,z146)::(nat_lit 225,z147)::(nat_lit 231,z150)::(nat_lit 232,z151)::(nat_lit 238,z154)::(nat_lit 239,z155)::(nat_lit 245,z158)::(nat_lit 246,z159)::(nat_lit 250,z161)::(nat_lit 251,z162)::(nat_lit 257,Nf)::(nat_lit 258,O4)::(nat_lit 264,Nd)::(nat_lit 265,Oi)::(nat_lit 271,z175)::(nat_lit 272,z176)::(nat_lit 278,z179)::(nat_lit 279,z180)::(nat_lit 285,z183)::(nat_lit 286,z184)::(nat_lit 292,z187)::(nat_lit 293,z188)::(nat_lit 297,z190)::(nat_lit 298,z191)::(nat_lit 304,z194)::(nat_lit 305,z195)::(nat_lit 311,z198)::(nat_lit 312,z199)::(nat_lit 318,z202)::(nat_lit 319,z203)::(nat_lit 325,z206)::(nat_lit 326,z207)::[]
noncomputable def KA:List Addr:=[2,3,30,31,43,44,52,53,59,60,66,67,68,69,70,71,72,73,74,75,79,80,86,87,100,101,107,108,114,115,121,122,135,136,140,141,147,148,154,155,161,162,168,169,175,176,182,183,185,186,196,197,203,204,210,211,217,218,224,225,231,232,238,239,245,246,250,251,257,258,264,265,271,272,278,279,285,286,292,293,297,298,304,305,311,312,318,319,325,326]
noncomputable def RB (P:Params):List Re×List Heap:=([Rtree_70 P,Rtree_106 P,Rtree_128 P,Rtree_235 P,Rtree_317 P,Rtree_397 P,Rtree_460 P],[Rheap_461 P])
theorem e_RB:RB=RB:=rfl
name_quick x_RB for K49.RB by K49.e_RB
end K49
namespace PySem.W.Fast
noncomputable def tw9419605897101367590:Rp->Re:=tw8330420964520900155
theorem te9419605897101367590:K49.Rtree_70=tw9419605897101367590:=te8330420964520900155
noncomputable def tw884283376204487376:Rp->Re:=tw14223040064400888379
theorem te884283376204487376:K49.Rtree_106=tw884283376204487376:=te14223040064400888379
noncomputable def tw17605085791913991288:Rp->Re:=tw17990000031223397891
theorem te17605085791913991288:K49.Rtree_128=tw17605085791913991288:=te17990000031223397891
noncomputable def tw5553067781239454667:Rp->Re:=tw8092446859302807588
theorem te5553067781239454667:K49.Rtree_235=tw5553067781239454667:=te8092446859302807588
noncomputable def tw4041372135347325042:Rp->Re:=tw16633233453515934879
theorem te4041372135347325042:K49.Rtree_317=tw4041372135347325042:=te16633233453515934879
noncomputable def tw16871543264841558278:Rp->Re:=tw7261263899654737725
theorem te16871543264841558278:K49.Rtree_397=tw16871543264841558278:=te7261263899654737725
noncomputable def tw2132931315447959772:Rp->Re:=tw10055746863007514618
theorem te2132931315447959772:K49.Rtree_460=tw2132931315447959772:=te10055746863007514618
noncomputable def tw12413616832592685063:Rp->PySem.Heap:=tw6715158056244255581
theorem te12413616832592685063:K49.Rheap_461=tw12413616832592685063:=te6715158056244255581
end PySem.W.Fast
local macro_rules | `(tactic| walk_at "gd")=>`(tactic| (refine' ⟨?ka,_,L2.fun_mk ?kl ?kc ?kk⟩; (case ka=>k_is); (case kl=>k_is); (case kc=>k_is); (case kk=>k_is)))
local macro_rules | `(tactic| walk_at "gm")=>`(tactic| (refine' ⟨?ka,?ki,_,L2.fun_mk ?kl ?kc ?kk⟩; (case ka=>k_is); (case ki=>k_is); (case kl=>k_is); (case kc=>k_is); (case kk=>k_is)))
namespace K49
open PySem L2
noncomputable abbrev Nn:=Zf8
theorem all1 {α:Type}{P:List α->Prop}(h:∀ a,P [a]):∀ us:List α,us.length=1->P us
 | [a],_=>h a
theorem all2 {α:Type}{P:List α->Prop}(h:∀ a b,P [a,b]):∀ us:List α,us.length=2->P us
 | [a,b],_=>h a b
theorem all3 {α:Type}{P:List α->Prop}(h:∀ a b c,P [a,b,c]):∀ us:List α,us.length=3->P us
 | [a,b,c],_=>h a b c
theorem all4 {α:Type}{P:List α->Prop}(h:∀ a b c d,P [a,b,c,d]):∀ us:List α,us.length=4->P us
 | [a,b,c,d],_=>h a b c d
theorem all5 {α:Type}{P:List α->Prop}(h:∀ a b c d e,P [a,b,c,d,e]):∀ us:List α,us.length=5->P us
 | [a,b,c,d,e],_=>h a b c d e
local macro_rules | `(tactic| walk_at "bi")=>`(tactic| first | exact fun _ _ _ _ _ _=>K49.all1 fun _=>rfl | exact fun _ _ _ _ _ _=>K49.all2 fun _ _=>rfl | exact fun _ _ _ _ _ _=>K49.all3 fun _ _ _=>rfl | exact fun _ _ _ _ _ _=>K49.all4 fun _ _ _ _=>rfl | exact fun _ _ _ _ _ _=>K49.all5 fun _ _ _ _ _=>rfl)
theorem Ze8 {P:Program}{w:World}{K:O6}{mg:Str->Option Value}{base:Heap}{f:Addr}{fd:FuncData}(F:Fun K "_law_same" "_law_same" Jf f fd)(T:Txt K mg)
  (mk:∀ n,Az P w K mg base Aw (n+1) f fd ["_law_found", "_law_due_here"] (Gp K n)->Bo P w K mg base (n+1) "_law_same" ["_law_found", "_law_due_here"] (Gp K n)):∀ n,Az P w K mg base Aw (n+1) f fd ["_law_found", "_law_due_here"] (Gp K n)
 | 0=>by
  have no:∀ vs H Q E,¬ Gp K 0 vs H Q E:=by
   rintro vs H Q E ⟨x,y,d,m,_,h,_⟩
   exact absurd h (Nat.not_lt_zero _)
  exact ⟨fun vs H Q E h=>absurd h (no _ _ _ _),fun A outer s H args us vs Q E _ _ _ _ h=>absurd h (no _ _ _ _)⟩
 | n+1=>Zoa F T (mk n (Ze8 F T mk n))
theorem Zcr {P:Program}{w:World}{K:O6}{mg:Str->Option Value}{base:Heap}{f:Addr}{fd:FuncData}(F:Fun K "_law_any" "_law_any" Ho f fd)(T:Txt K mg)
  (mk:∀ n,Az P w K mg base Aw (n+1) f fd ["_law_cells", "_law_names_here", "_law_deep"] (G0 K n)->Bo P w K mg base (n+1) "_law_any" ["_law_cells", "_law_names_here", "_law_deep"] (G0 K n)):∀ n,Az P w K mg base Aw (n+1) f fd ["_law_cells", "_law_names_here", "_law_deep"] (G0 K n)
 | 0=>by
  have no:∀ vs H Q E,¬ G0 K 0 vs H Q E:=by
   rintro vs H Q E ⟨_,_,_,_,_,_,h,_⟩
   exact absurd h (Nat.not_lt_zero _)
  exact ⟨fun vs H Q E h=>absurd h (no _ _ _ _),fun A outer s H args us vs Q E _ _ _ _ h=>absurd h (no _ _ _ _)⟩
 | n+1=>Zh0 F T (mk n (Zcr F T mk n))
theorem Zef {P:Program}{w:World}{K:O6}{mg:Str->Option Value}{base:Heap}{f:Addr}{fd:FuncData}(F:Fun K "_law_form" "_law_form" Hq f fd)(T:Txt K mg)(C__law_mixed:Bo P w K mg base 1 "_law_mixed" ["_law_cell_here", "_law_k"] Ku)(C__law_end:Bo P w K mg base 2 "_law_end" ["_law_cell_here", "_law_around", "_law_names_here", "_law_sort"] (Lq K))
  (mk:∀ n,Az P w K mg base Aw (n+3) f fd ["_law_cells", "_law_around", "_law_names_here", "_law_room", "_law_sort"] (G8 K n)->Bo P w K mg base (n+3) "_law_form" ["_law_cells", "_law_around", "_law_names_here", "_law_room", "_law_sort"] (G8 K n)):∀ n,Az P w K mg base Aw (n+3) f fd ["_law_cells", "_law_around", "_law_names_here", "_law_room", "_law_sort"] (G8 K n)
 | 0=>by
  have no:∀ vs H Q E,¬ G8 K 0 vs H Q E:=by
   rintro vs H Q E ⟨_,_,_,_,_,_,_,_,_,_,h1,h2,_⟩
   omega
  exact ⟨fun vs H Q E h=>absurd h (no _ _ _ _),fun A outer s H args us vs Q E _ _ _ _ h=>absurd h (no _ _ _ _)⟩
 | n+1=>Zn7 F T C__law_mixed C__law_end (mk n (Zef F T C__law_mixed C__law_end mk n))
theorem Zlj {K:O6}{GE:Addr}{ddG:Option Addr}{cdG:ClassData}{slG:Array (Option Value)}{cG:Value}(ho:K.lookup GE=some ⟨cG,ddG,.cls cdG,slG⟩)(hok:Sc K cdG.ns=true)(hni:Pu K cdG.ns "__init__" = some none):Sb K VE (.ref GE::VE)=true/\(Sf K GE).isSome=true:=by
 have e:Sb K VE VE=true:=by unfold Sb;rfl
 refine ⟨?_,by unfold Sf;rw [ho];rfl⟩
 unfold Sb
 dsimp only
 rw [ho]
 dsimp only
 rw [hok,hni,e]
 simp
theorem Zph {K:O6}{C GE:Addr}{ddC:Option Addr}{cdC:ClassData}{slC:Array (Option Value)}{k0 k1 k2 k3 k5:Option Value}(hC:K.lookup C=some ⟨.type "type",ddC,.cls cdC,slC⟩)(hm:cdC.mro=.ref C::.ref GE::VE)(hs:slC.toList=[k0,k1,k2,k3,some (.builtin "ValueError.__new__"),k5])(hd:cdC.hasDel=false)(h:Sb K VE (.ref GE::VE)=true)(hok:Sc K cdC.ns=true)(hni:Pu K cdC.ns "__init__" = some none):Mf K C:=by
 obtain ⟨nm,bs,mro,ns,qn,hd',sn,sub,ab,col,del⟩:=cdC
 obtain ⟨l⟩:=slC
 dsimp only at hm hd hok hni hs
 subst hm hd hs
 exact ⟨_,_,_,_,_,_,_,_,_,_,_,_,_,_,_,_,hC,h,hok,hni⟩
noncomputable def Hj (t1 t2 t3 t4 t5 t6:Addr):List (Str×V):=[("plus",.ref t1),("minus",.ref t2),("less",.ref t3),("call",.ref t4),("if",.ref t5),("let",.ref t6)]
theorem Zpy {t1 t2 t3 t4 t5 t6:Addr}:((Hj t1 t2 t3 t4 t5 t6).map (·.1)).Nodup:=by
 show (["plus", "minus", "less", "call", "if", "let"]:List Str).Nodup
 decide +kernel
theorem Zml {K:O6}{t1 t2 t3 t4 t5 t6:Addr}(h1:∀ H,SqT K H t1 ([1,0].map V.int))(h2:∀ H,SqT K H t2 ([1,0].map V.int))(h3:∀ H,SqT K H t3 ([1,0].map V.int))(h4:∀ H,SqT K H t4 ([1,0].map V.int))(h5:∀ H,SqT K H t5 ([0].map V.int))(h6:∀ H,SqT K H t6 ([0].map V.int))(wd:Str) :
  (Dl (Hj t1 t2 t3 t4 t5 t6) wd).isSome=(B9 wd).isSome/\∀ ns,B9 wd=some ns->∃ b,Dl (Hj t1 t2 t3 t4 t5 t6) wd=some (.ref b)/\∀ H,SqT K H b (ns.map V.int):=by
 by_cases e1:wd = "plus"
 ·subst e1
  have p:B9 "plus" = some [1,0]:=by decide +kernel
  exact ⟨by rw [p];rfl,fun ns h=>by rw [p] at h;cases h;exact ⟨t1,rfl,h1⟩⟩
 by_cases e2:wd = "minus"
 ·subst e2
  have p:B9 "minus" = some [1,0]:=by decide +kernel
  exact ⟨by rw [p];rfl,fun ns h=>by rw [p] at h;cases h;exact ⟨t2,rfl,h2⟩⟩
 by_cases e3:wd = "less"
 ·subst e3
  have p:B9 "less" = some [1,0]:=by decide +kernel
  exact ⟨by rw [p];rfl,fun ns h=>by rw [p] at h;cases h;exact ⟨t3,rfl,h3⟩⟩
 by_cases e4:wd = "call"
 ·subst e4
  have p:B9 "call" = some [1,0]:=by decide +kernel
  exact ⟨by rw [p];rfl,fun ns h=>by rw [p] at h;cases h;exact ⟨t4,rfl,h4⟩⟩
 by_cases e5:wd = "if"
 ·subst e5
  have p:B9 "if" = some [0]:=by decide +kernel
  exact ⟨by rw [p];rfl,fun ns h=>by rw [p] at h;cases h;exact ⟨t5,rfl,h5⟩⟩
 by_cases e6:wd = "let"
 ·subst e6
  have p:B9 "let" = some [0]:=by decide +kernel
  exact ⟨by rw [p];rfl,fun ns h=>by rw [p] at h;cases h;exact ⟨t6,rfl,h6⟩⟩
 have p:B9 wd=none:=by
  unfold B9
  rw [if_neg (by simp [e1,e2,e3,e4]),if_neg (by simp [e5,e6])]
 have q:Dl (Hj t1 t2 t3 t4 t5 t6) wd=none:=by
  unfold Dl Hj
  simp [Pk e1,Pk e2,Pk e3,Pk e4,Pk e5,Pk e6]
 rw [p,q]
 exact ⟨rfl,fun ns h=>nomatch h⟩
noncomputable abbrev Gd (K:O6)(n:Str)(st:Stmt)(f:Addr):Prop:=Pu K mainGlobals n=some (some (.ref f))/\∃ fd,Fun K n n st f fd
noncomputable abbrev Gm (K:O6)(C:Addr)(n q:Str)(st:Stmt)(f:Addr):Prop:=P7 K (.ref C) n=some (some (.ref f))/\U5 K (.ref f)=true/\∃ fd,Fun K n q st f fd
noncomputable abbrev Bi (n q:Str)(st:Stmt)(ps:List Str):Prop:=∀(kV doc pm:Value)(an:Option Addr)(cdv ct:Value)(us:List Value),us.length=ps.length->bindArgs (Rn n q (Gu st) (E8 st) (A9 st) .none kV doc pm an cdv ct) ⟨us,[]⟩=pure (ps.zip us)
section
variable {P:Program}{w:World}{K:O6}{mg:Str->Option Value}{base h:Heap}(X:K.In h)(G:h.Ns mainGlobals mg){n q:Str}{st:Stmt}{f C:Addr}{k:Nat}{ps:List Str}{sp:Sp}
include X G
theorem cal (g:Gd K n st f)(ok:∀ fd,Fun K n n st f fd->Az P w K mg base Aw k f fd ps sp)(b:Bi n n st ps:=by walk_at "bi"):Bo P w K mg base k n ps sp:=by
 obtain ⟨a,fd,F⟩:=g
 exact Li (ok fd F) (U2 X G a) F.kp (F.binds b)
theorem calx (g:Gd K n st f)(ok:∀ fd,Fun K n n st f fd->Az P w K mg base (Ci P w) k f fd ps sp)(b:Bi n n st ps:=by walk_at "bi"):Ma P w K mg base k n ps sp:=by
 obtain ⟨a,fd,F⟩:=g
 exact Zl6 (ok fd F) (U2 X G a) F.kp (F.binds b)
omit X G
theorem met {CX:Co}(cl:Cls K C)(g:Gm K C n q st f)(ok:∀ fd,Fun K n q st f fd->Az P w K mg base CX k f fd ps sp)(b:Bi n q st ps:=by walk_at "bi"):Da CX P w K mg base k C n ps sp:=by
 obtain ⟨a,i,fd,F⟩:=g
 exact ⟨f,fd,ok fd F,cl,⟨a,i,F.kp⟩,F.binds b⟩
end
theorem all_mk {l:V4}{w:World}{K:O6}{h:Heap}{mg:Str->Option Value}{fa f1 f2 f3 f4 f5 f6 f7 f8 f9 f10 f11 f12 f13 f14 f15 f16 f17 f18 f19 f20 f21 f22 f23 f24 f25:Addr}(X:K.In h)(G:h.Ns mainGlobals mg)(hfa:mg "law" = some (.ref fa))
  (a1:Gd K "placed_forms" J8 f1) (a2:Gd K "is_finished" Jp f2) (a3:Gd K "names_bound" Kj f3) (a4:Gd K "are_numbers" Kn f4) (a5:Gd K "reckoned" Jz f5) (a6:Gd K "run" Kv f6) (a7:Gd K "_law_cell" Jy f7) (a8:Gd K "_law_mixed" J5 f8) (a9:Gd K "_law_same" Jf f9) (a10:Gd K "_law_names" Ky f10) (a11:Gd K "_law_number" K0 f11) (a12:Gd K "_law_is_free" Kb f12) (a13:Gd K "_law_any" Ho f13) (a14:Gd K "_law_end" Ks f14) (a15:Gd K "_law_form" Hq f15)
  (a16:Gd K "_law_is_thing" Kf f16) (a17:Gd K "_law_is_row" K9 f17) (a18:Gd K "_law_is_record" K1 f18) (a19:Gd K "_law_run" Kg f19) (a20:Gd K "_law_thing" J2 f20) (a21:Gd K "_law_moved" Kt f21) (a22:Gd K "_law_tree" J6 f22) (a23:Gd K "_law_heads" Kz f23) (a24:Gd K "_law_due" Jj f24) (a25:Gd K "law" Ki f25) (z1:Pu K mainGlobals "reversed" = some none) (z2:Pu K mainGlobals "list" = some none) (z3:Pu K mainGlobals "enumerate" = some none) (z4:Pu K mainGlobals "all" = some none)
  (z5:Pu K mainGlobals "len" = some none) (z6:Pu K mainGlobals "isinstance" = some none) (z7:Pu K mainGlobals "bool" = some none) (z8:Pu K mainGlobals "tuple" = some none) (z9:Pu K mainGlobals "range" = some none) (z10:Pu K mainGlobals "str" = some none) (z11:Pu K mainGlobals "int" = some none) (z12:Pu K mainGlobals "max" = some none) (z13:Pu K mainGlobals "dict" = some none) (z14:Pu K mainGlobals "zip" = some none) {u1:Tok} (b1:Pu K mainGlobals "MOST_STEPS" = some (some (.int 500 u1)))
  {wa pa t1 t2 t3 t4 t5 t6:Addr} {wo o1 o2 o3 o4 o5 o6:Option Addr} {wi i1 i2 i3 i4 i5 i6:Array Value} {wn pn n1 n2 n3 n4 n5 n6:Nat} {ws s1 s2 s3 s4 s5 s6:Array (Option Value)} {pi:Array DictEntry} (b2:Pu K mainGlobals "WORDS_WITH_AROUND" = some (some (.ref wa))) (b3:K.lookup wa=some ⟨.type "tuple",wo,.seq wi wn,ws⟩) (b4:Et wi.toList=some (WA.map V.str)) (b5:Pu K mainGlobals "PARTS_AWAITED" = some (some (.ref pa))) (b6:K.lookup pa=some ⟨.type "dict",none,.dict pi pn,#[]⟩) (b7:(pa == sysModules)=false) (b8:Ents w.params pi.toList (Hj t1 t2 t3 t4 t5 t6))
  (gt1:K.lookup t1=some ⟨.type "tuple",o1,.seq i1 n1,s1⟩) (gu1:Et i1.toList=some ([1,0].map V.int)) (gt2:K.lookup t2=some ⟨.type "tuple",o2,.seq i2 n2,s2⟩) (gu2:Et i2.toList=some ([1,0].map V.int)) (gt3:K.lookup t3=some ⟨.type "tuple",o3,.seq i3 n3,s3⟩) (gu3:Et i3.toList=some ([1,0].map V.int)) (gt4:K.lookup t4=some ⟨.type "tuple",o4,.seq i4 n4,s4⟩) (gu4:Et i4.toList=some ([1,0].map V.int)) (gt5:K.lookup t5=some ⟨.type "tuple",o5,.seq i5 n5,s5⟩) (gu5:Et i5.toList=some ([0].map V.int)) (gt6:K.lookup t6=some ⟨.type "tuple",o6,.seq i6 n6,s6⟩)
  (gu6:Et i6.toList=some ([0].map V.int)) {GE TL AM g1 g2 g3 g4 g5 g6 g7 g8 g9 g10 g11 g12:Addr} {cG cN cM:Value} {dG dN dT dM:Option Addr} {kG kT:ClassData} {lG lN lT lM:Array (Option Value)} {eN eM:Array DictEntry} {nN nM:Nat} {j0 j1 j2 j3 j5:Option Value} (x1:Pu K mainGlobals "GapError" = some (some (.ref GE))) (x2:K.lookup GE=some ⟨cG,dG,.cls kG,lG⟩) (x3:K.lookup kG.ns=some ⟨cN,dN,.dict eN nN,lN⟩) (x4:(eN.toList.all fun e=>match e.key with | .str _ _=>true | _=>false)=true) (x5:Pu K kG.ns "__init__" = some none) (y1:Pu K mainGlobals "TooLong" = some (some (.ref TL)))
  (y2:K.lookup TL=some ⟨.type "type",dT,.cls kT,lT⟩) (y3:kT.mro=.ref TL::.ref GE::VE) (y4:lT.toList=[j0,j1,j2,j3,some (.builtin "ValueError.__new__"),j5]) (y5:kT.hasDel=false) (y6:K.lookup kT.ns=some ⟨cM,dM,.dict eM nM,lM⟩) (y7:(eM.toList.all fun e=>match e.key with | .str _ _=>true | _=>false)=true) (y8:Pu K kT.ns "__init__" = some none) (y9:PySem.W.typeIn K (.ref TL)=some (.type "type")) (yf:Sg K (.ref TL) (.ref TL)=some true) (yg:Sg K (.ref TL) (.type "BaseException")=some true) (m0:Pu K mainGlobals "Machine" = some (some (.ref AM)))
  (m1:S6 K AM Str.empty=true) (m2:Uh K AM=true) (m3:Vs K AM=true) (m4:P7 K (.ref AM) "__setattr__" = some (some (.builtin "object.__setattr__"))) (m5:V2 K AM=true) (m6:Q3 K (.ref AM)=true) (m7:P7 K (.ref AM) "forms" = some none) (m8:P7 K (.ref AM) "rows" = some none) (m9:P7 K (.ref AM) "waiting" = some none) (ma:P7 K (.ref AM) "things" = some none) (mb:P7 K (.ref AM) "steps" = some none) (h1:Gm K AM "__init__" "Machine.__init__" Ju g1)
  (h2:Gm K AM "make_steps" "Machine.make_steps" Iv g2) (h3:Gm K AM "new_row" "Machine.new_row" La g3) (h4:Gm K AM "thing_of_leaf" "Machine.thing_of_leaf" K5 g4) (h5:Gm K AM "come_to" "Machine.come_to" Ie g5) (h6:Gm K AM "taken_things" "Machine.taken_things" Kq g6) (h7:Gm K AM "go_further" "Machine.go_further" K2 g7) (h8:Gm K AM "thing_at_the_end" "Machine.thing_at_the_end" J7 g8) (h9:Gm K AM "thing_of_form" "Machine.thing_of_form" Ke g9)
  (h10:Gm K AM "go_within" "Machine.go_within" Jo g10) (h11:Gm K AM "is_function" "Machine.is_function" J0 g11) (h12:Gm K AM "call" "Machine.call" Kr g12) :
  ∃ fd:FuncData,(∀(s:Shared)(v:Value),BindsTo s fd ⟨[v],[]⟩ [("_law_script",v)])/\∀ base:Heap,K.In base->base.Ns mainGlobals mg->Az l.prog w K mg base Aw 33 fa fd ["_law_script"] (Nn K):=by
 obtain ⟨aL,fd,FL⟩:=a25
 have e:=hfa.symm.trans (U2 X G aL)
 cases e
 have FX:=FL
 obtain ⟨_,_,kV,doc,pm,an,cdv,ct,_,ef,_,_⟩:=FL.ex
 refine ⟨fd,fun s v=>by rw [ef];exact .of_eq rfl,fun base _ _=>?_⟩
 have gl:=fun {n v}=>@U2 K h mg n v X G
 have no:=fun {n}=>@PySem.W.mg_none_of K h mg n X G
 have T:Txt K mg:=⟨no z1,no z2,no z3,no z4,no z5,no z6,no z7,no z8,no z9,no z10,no z11,no z12,no z13,no z14⟩
 have GMS:Fc mg "MOST_STEPS" (.int 500):=⟨_,gl b1,⟨_,rfl⟩⟩
 have GWA:Fc mg "WORDS_WITH_AROUND" (.ref wa):=⟨_,gl b2,rfl⟩
 have HWA:=Go b3 b4 (by decide)
 have GPA:Fc mg "PARTS_AWAITED" (.ref pa):=⟨_,gl b5,rfl⟩
 have HPA:Gq l.prog w K pa (Hj t1 t2 t3 t4 t5 t6):=Zj5 b6 b7 b8 Zpy
 have HPK:=Zml (K:=K) (Go gt1 gu1 (by decide)) (Go gt2 gu2 (by decide)) (Go gt3 gu3 (by decide)) (Go gt4 gu4 (by decide)) (Go gt5 gu5 (by decide)) (Go gt6 gu6 (by decide))
 obtain ⟨tG,iG⟩:=Zlj x2 (by unfold Sc;rw [x3];show (eN.all fun e=>match e.key with | .str _ _=>true | _=>false)=true;rw [<- Array.all_toList];exact x4) x5
 have rTL:=Zph y2 y3 y4 y5 tG (by unfold Sc;rw [y6];show (eM.all fun e=>match e.key with | .str _ _=>true | _=>false)=true;rw [<- Array.all_toList];exact y7) y8
 have gTL:=gl y1
 have XTL:Lu K TL:=⟨y9,by unfold Sf;rw [y2];rfl,yg⟩
 have clM:Cls K AM:=⟨m1,m2,m3,m4⟩
 have MCx:Mc K AM:=⟨clM,m7,m8,m9,ma,mb⟩
 have me:=fun {CX k n q st f ps sp}=>@met l.prog w K mg base n q st f AM k ps sp CX clM
 have ca:=fun {k n st f ps sp}=>@cal l.prog w K mg base h X G n st f k ps sp
 have cx:=fun {k n st f ps sp}=>@calx l.prog w K mg base h X G n st f k ps sp
 have C_placed_forms:=ca a1 fun _ F=>Zg7 F T
 have C_is_finished:=ca a2 fun _ F=>Zp6 F T
 have C_names_bound:=ca a3 fun _ F=>Zi4 F T
 have C_are_numbers:=ca a4 fun _ F=>Zhg F T
 have C_reckoned:=ca a5 fun _ F=>Zlm F T
 have M1:=me h2 fun _ F=>Zl0 F T MCx GMS
 have M2:=me h3 fun _ F=>Zls F T MCx GWA HWA
 have M3:=me h4 fun _ F=>Zkm F T MCx M2
 have M5:=me h6 fun _ F=>Znj F T MCx
 have MW:=me h10 fun _ F=>Zpe F T MCx C_names_bound
 have MI:=me h11 fun _ F=>Zgl F T MCx C_is_finished
 have MCa:=me h12 fun _ F=>Zio F T MCx MW
 have M6:=me h7 fun _ F=>Zjj F T MCx GPA HPA HPK M5 M2 MW MCa MI C_are_numbers C_reckoned
 have M1L:=me h2 fun _ F=>Zhb F T MCx GMS rTL gTL
 have M4X:=me h5 fun _ F=>Zl4 (Zi0 (Zkd F T MCx GPA HPA HPK M1 M3)) (Znq F T MCx GPA HPA HPK M1L M3)
 have M7X:=me h8 fun _ F=>Zk3 F T MCx M4X M6
 have MFX:=me h9 fun _ F=>Zrp F T MCx M7X
 have MkM:Nc Aw l.prog w K mg base 2 "Machine" AM ["self", "tree", "steps"] (Oy K AM):=by
  obtain ⟨a,i,fd,F⟩:=h1
  exact ⟨g1,fd,Zgr F T MCx C_placed_forms M1,⟨m5,a,i,m6⟩,gl m0,F.binds (by walk_at "bi")⟩
 have C_runX:=cx a6 fun _ F=>Zoc F T MCx MkM MFX
 have C__law_cell:=ca a7 fun _ F=>Zi6 F T
 have C__law_mixed:=ca a8 fun _ F=>Zns F T
 have C__law_same:=ca a9 fun _ F=>Ze8 F T (fun n h=>Li h (gl a9.1) F.kp (F.binds (by walk_at "bi"))) 7
 have C__law_names:=ca a10 fun _ F=>Zgi F T C__law_mixed
 have C__law_number:=ca a11 fun _ F=>Zmb F T
 have C__law_is_free:=ca a12 fun _ F=>Zgv F T C__law_cell
 have C__law_any:=ca a13 fun _ F=>Zcr F T (fun n h=>Li h (gl a13.1) F.kp (F.binds (by walk_at "bi"))) 31
 have C__law_end:=ca a14 fun _ F=>Zhh F T C__law_number
 have C__law_form:=ca a15 fun _ F=>Zef F T C__law_mixed C__law_end (fun n h=>Li h (gl a15.1) F.kp (F.binds (by walk_at "bi"))) 20
 have C__law_is_thing:=ca a16 fun _ F=>Zjm F T
 have C__law_is_row:=ca a17 fun _ F=>Zic F T C__law_is_thing
 have C__law_is_record:=ca a18 fun _ F=>Zpl F T C__law_is_thing C__law_is_row
 have C__law_run:=ca a19 fun _ F=>Zjw F T C_runX XTL gTL yf
 have C__law_thing:=ca a20 fun _ F=>Zlh F T
 have C__law_moved:=ca a21 fun _ F=>Zq4 F T C__law_thing
 have C__law_tree:=ca a22 fun _ F=>Zib F T
 have C__law_heads:=ca a23 fun _ F=>Zpn F T
 have C__law_due:=ca a24 fun _ F=>Zp9 F T C__law_heads C__law_thing C__law_moved
 exact Zih FX T C__law_cell C__law_mixed C__law_names C__law_form C__law_is_free C__law_any C__law_tree C__law_run C__law_same C__law_is_record C__law_due
theorem walk {l:V4}{q:Program}{loose:List Str}{XP:(Str->Option Value)->Heap->Prop}{YP:World->Heap->Prop}{d:DefRec}{K:Params->O6}(hn:l.most=some 63)(hdf:d.params.defaults=[])
  (hY:∀(w:World)(h:Heap),YP w h->(K w.params).In h)
  (F:∀(w:World)(mg:Str->Option Value)(fa:Addr)(h:Heap),(K w.params).In h->h.Ns mainGlobals mg->mg d.name=some (.ref fa) ->
   ∃ fd:FuncData,(∀(s:Shared)(u:Value),BindsTo s fd ⟨[u],[]⟩ [("_law_script",u)])/\∀ base:Heap,(K w.params).In base->base.Ns mainGlobals mg->Az l.prog w (K w.params) mg base Aw 33 fa fd ["_law_script"] (Nn (K w.params))) :
  PySem.W.WalkO q loose XP YP l.row.toRowW d [] (fun f vs=>PySem.call f vs) :=
 L2.walk_of (n:=63) (k:=33) (x := "_law_script") (CX:=fun _=>Aw) (sp:=fun w=>Nn (K w.params)) hn (by decide) hdf ⟨rfl,by decide,by decide⟩ hY F (fun _ _ a ns hl _ hS=>⟨a,ns,rfl,hS,hl,fun _=>rfl⟩) fun _ _ _ _ _ z=>z
end K49
open PySem PySem.W PyProof.Rows
set_option maxRecDepth 100000 in
set_option maxHeartbeats 0 in
theorem PySem.Challenge.cw_gapscribe_k49_whole_put_round_holds : PySem.Challenge.rw_gapscribe_k49_whole_put_round.Holds := by
 w_on; o_law; o_head (PySem.W.kHook K49.KK K49.KA (fun _=>by kernel_rfl)); (case hw=>w_witness2)
 k_fill
 refine K49.walk (l:=PySem.Challenge.rw_gapscribe_k49_whole_put_round) rfl rfl (fun w h Y=>PySem.W.kIn_of Y) ?F
 case F =>
  intro w mg fa h KX G hmg
  refine' K49.all_mk KX G hmg ?a1 ?a2 ?a3 ?a4 ?a5 ?a6 ?a7 ?a8 ?a9 ?a10 ?a11 ?a12 ?a13 ?a14 ?a15 ?a16 ?a17 ?a18 ?a19 ?a20 ?a21 ?a22 ?a23 ?a24 ?a25 ?z1 ?z2 ?z3 ?z4 ?z5 ?z6 ?z7 ?z8 ?z9 ?z10 ?z11 ?z12 ?z13 ?z14 ?b1 ?b2 ?b3 ?b4 ?b5 ?b6 ?b7 ?b8 ?gt1 ?gu1 ?gt2 ?gu2 ?gt3 ?gu3 ?gt4 ?gu4 ?gt5 ?gu5 ?gt6 ?gu6 ?x1 ?x2 ?x3 ?x4 ?x5 ?y1 ?y2 ?y3 ?y4 ?y5 ?y6 ?y7 ?y8 ?y9 ?yf ?yg ?m0 ?m1 ?m2 ?m3 ?m4 ?m5 ?m6 ?m7 ?m8 ?m9 ?ma ?mb ?h1 ?h2 ?h3 ?h4 ?h5 ?h6 ?h7 ?h8 ?h9 ?h10 ?h11 ?h12
  (case a1=>walk_at "gd")
  (case a2=>walk_at "gd")
  (case a3=>walk_at "gd")
  (case a4=>walk_at "gd")
  (case a5=>walk_at "gd")
  (case a6=>walk_at "gd")
  (case a7=>walk_at "gd")
  (case a8=>walk_at "gd")
  (case a9=>walk_at "gd")
  (case a10=>walk_at "gd")
  (case a11=>walk_at "gd")
  (case a12=>walk_at "gd")
  (case a13=>walk_at "gd")
  (case a14=>walk_at "gd")
  (case a15=>walk_at "gd")
  (case a16=>walk_at "gd")
  (case a17=>walk_at "gd")
  (case a18=>walk_at "gd")
  (case a19=>walk_at "gd")
  (case a20=>walk_at "gd")
  (case a21=>walk_at "gd")
  (case a22=>walk_at "gd")
  (case a23=>walk_at "gd")
  (case a24=>walk_at "gd")
  (case a25=>walk_at "gd")
  (case z1=>k_is)
  (case z2=>k_is)
  (case z3=>k_is)
  (case z4=>k_is)
  (case z5=>k_is)
  (case z6=>k_is)
  (case z7=>k_is)
  (case z8=>k_is)
  (case z9=>k_is)
  (case z10=>k_is)
  (case z11=>k_is)
  (case z12=>k_is)
  (case z13=>k_is)
  (case z14=>k_is)
  (case b1=>k_is)
  (case b2=>k_is)
  (case b3=>k_is)
  (case b4=>rfl)
  (case b5=>k_is)
  (case b6=>k_is)
  (case b7=>rfl)
  (case b8=>(repeat (first | exact .nil | refine .cons rfl ?_)))
  (case gt1=>k_is)
  (case gu1=>rfl)
  (case gt2=>k_is)
  (case gu2=>rfl)
  (case gt3=>k_is)
  (case gu3=>rfl)
  (case gt4=>k_is)
  (case gu4=>rfl)
  (case gt5=>k_is)
  (case gu5=>rfl)
  (case gt6=>k_is)
  (case gu6=>rfl)
  (case x1=>k_is)
  (case x2=>k_is)
  (case x3=>k_is)
  (case x4=>rfl)
  (case x5=>k_is)
  (case y1=>k_is)
  (case y2=>k_is)
  (case y3=>rfl)
  (case y4=>rfl)
  (case y5=>rfl)
  (case y6=>k_is)
  (case y7=>rfl)
  (case y8=>k_is)
  (case y9=>k_is)
  (case yf=>k_is)
  (case yg=>k_is)
  (case m0=>k_is)
  (case m1=>k_is)
  (case m2=>k_is)
  (case m3=>k_is)
  (case m4=>k_is)
  (case m5=>k_is)
  (case m6=>k_is)
  (case m7=>k_is)
  (case m8=>k_is)
  (case m9=>k_is)
  (case ma=>k_is)
  (case mb=>k_is)
  (case h1=>walk_at "gm")
  (case h2=>walk_at "gm")
  (case h3=>walk_at "gm")
  (case h4=>walk_at "gm")
  (case h5=>walk_at "gm")
  (case h6=>walk_at "gm")
  (case h7=>walk_at "gm")
  (case h8=>walk_at "gm")
  (case h9=>walk_at "gm")
  (case h10=>walk_at "gm")
  (case h11=>walk_at "gm")
  (case h12=>walk_at "gm")
#print axioms PySem.Challenge.cw_gapscribe_k49_whole_put_round_holds
