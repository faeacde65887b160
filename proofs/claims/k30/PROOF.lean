import PyProof.Rows.All
import Wide.All
import OpenK.AllK
import Wide.FinOn
import Lean
import PyProof.EqAt
import PyProof.EqKinds
import PyProof.TupleCall
import PyProof.StrBlock2
import KE.KDictOf
import PyProof.AttrMissHeap
import KE.KRevSl
import PySem.Challenge.RW_gapscribe_k30_kinds_of_small_trees
set_option compiler.extract_closed false
set_option bootstrap.genMatcherCode false
set_option genSizeOfSpec false
set_option Elab.async false
set_option linter.all false
set_option maxRecDepth 100000
open Array renaming length_toList->R3
open Bool renaming false_ne_true->O6,and_eq_true->P9,false_eq_true->R7,eq_iff_iff->Rp,or_false->Tx
open False renaming elim->Qm
open Int renaming emod_lt_of_pos->Qq,emod_nonneg->Qu,toNat_natCast->R8
open List renaming getElem?_eq_getElem->Ou,getElem?_eq_some_iff->O2,size_toArray->Ox,length_map->O0,length_append->O4,length_cons->O3,mem_cons->O1,length_take->Pg,getElem?_append_left->Px,getElem?_map->Pk,length_singleton->Pt,getElem?_append_right->Qf,mem_singleton->Pr,not_mem_nil->Po,mem_of_getElem?->P4,mem_append_right->Qh,replicate->Pp,drop_eq_getElem_cons->Qo,range->Pe,take_length->Py,getD_eq_getElem?_getD->Qw,eq_nil_of_length_eq_zero->Rg,take_of_length_le->Qx,append_nil->Qa,map_append->Qb,append_assoc->Qn,set->Pf,take_succ->Qd,mem_cons_of_mem->Qz,lookup_cons->Qs,map_cons->Ql,take_add_one->Q3,mem_append->Qt,all_eq_true->Q4,find?_cons->Q7,replicate_succ->R4,getElem?_set_self->Sz,mem_cons_self->R5,forIn_cons->Rq,length_filter_le->Th,flatten_cons->R9,getLast?_eq_none_iff->Ud,getElem_mem->Sa,drop_of_length_le->Uf,forIn_nil->Se,cons_append->Tk,getElem?_set_ne->Uh,any_cons->Si,dropLast_concat_getLast->Vd,mem_filter->Tl,filterMap_cons->Ul,nodup_cons->Tp,length_set->Tq,reverse_append->Um,flatMap_append->Uo,length_reverse->Up,length_nil->Tv,mem_map->Sl,length_mapIdx->Us,foldl_append->Uz,all_cons->Tz,length_drop->U0,drop_length->U2,of_mem_zip->U4,map_map->T7,length->T9
open Nat renaming le_refl->Ow,lt_of_lt_of_le->Pd,ne_of_lt->O5,zero_le->Ph,le_trans->Pm,lt_irrefl->P5,ne_of_gt->P0,le_add_right->Ro,min_eq_left->Tt,le_of_lt->Sj,sub_self->Sk,lt_succ_of_lt->Uv,le_succ->Sm,succ_pos->T4,not_lt_zero->U7,zero_add->T8
open Ne renaming symm->Pj
open Option renaming isSome_iff_exists->R1,map_eq_some_iff->Ug,map_some->Tu,isSome_map->Uy
open Option.some renaming inj->Pb
open PyProof.Rows renaming callWith_type1->P6,slot_tuple_getitem->Rf,boot_enumerate->Ve,assignInOrder_cons->Uq
open PySem renaming wpAny_bind->Ot,wpAny_pure->Ov,wpAny_field->O9,wpAny_callSpecial?_slot->Qg,wpAny_setField_rec->Qi,wpAny_holding->Pw,wpAny_call_entry->Qj,builtinLookup_eq_fast->Qy,wpAny_seqItems->Qc,wpAny_newObj_type->Qr,mem_of_lookup->Q0,wpAny_truthy_bool->Q2,tupleKind_room_in1->Rm,wpAny_passesOwn->Q5,typeLookup_type->Q6,wpAny_getItem_str_slice->Sx,wpAny_pyIter_tuple->R6,codeAny_builtin->Rr,plainId_quiet->Q8,wpAny_attempt->Rs,wpAny_specialOf->Sb,wpAny_updateSeq->Sc,wpAny_typeOf->Rt,Params->Ru,noFill_tuple_add->Ti,wpAny_isInstance->Tj,wpAny_pyIter_revIter->Uj,wpAny_updateSeq_pair->Uk,wpAny_standAt->Sg,wpAny_rule->Q9,call_meets->Ra,wpAny_execs_nil->To,post_val_or_str->Ts,wpAny_Call_Name_kw->Ur,wpAny_mono->Rx,wpAny_pyIter_list->Uw,wpAny_pyIter_enum->Ux,Stmt->Ry,seq_tuple_add->Tw,wpAny_onRaise->T0,wpAny_pyIter_zip->U1,concat_meets->T1,revObj->T3,call_meetsIn->T6,wpAny_letGo->Ua
open PySem.Around renaming under_plainId->Rl
open PySem.AutoSeq1 renaming wpAny_loadPart'->Sq
open PySem.Builtin.List renaming listTooLong->Rh,listLengthHint->Rz,listExtendWith->Ub
open PySem.Builtin.Slice renaming slicePlaces->Ss,sliceAdjust->Uc
open PySem.Builtin.SmallTypes renaming ownedTupleIsFree->Qe,nextOf->P3,ownedTupleHandOut->U8
open PySem.Builtin.Tuple renaming tupleExact->Sv
open PySem.Calls renaming spliced_cons->Q1,spliced_nil->Rn,callWith_builtin->Tb,evalArgs_plain->Ui
open PySem.Challenge renaming pw_gapscribe_k30_kinds_of_small_trees->Re
open PySem.Draws renaming list->Rb
open PySem.F renaming plainAttrs_list->Pl,slot_list_append->P7,type_list_append->P8,slot_zip_next->Qp,slot_tuple_iterator_next->So,plain_extend_loop->R0,slot_dict_get->Rk,slot_enumerate_next->Sr,args_tuple_add_2->Su,entry_tuple_add->Sw,args_zip_next_1->Sy,slot_tuple_add->Ta,entry_zip_next->Tc,entry_dict_get->Te,slot_list_pop->Tf,type_list_pop->Tg,slot_list_getattribute->Ue,args_tuple_iterator_next_1->U9,entry_tuple_iterator_next->Va,args_enumerate_next_1->Vb,entry_enumerate_next->Vc
open PySem.Heap renaming get?_push_of_some->Oz,lt_size->Oy,get?_push_size->Pc,SameBut->O7,size_push->Pu,get?_update_other->Ri,get?_update_self->Rj,ExtBut->Rv
open PySem.Obj renaming mapSeq->Pq
open PySem.Paired renaming length->Sf
open PySem.PassesOwn renaming never->Pi
open PySem.SeqAt renaming EqAt->Pa
open PySem.SeqAt.EqAt renaming same->U5
open PySem.Str renaming ofString->O8
open PySem.Txt renaming slice_le->T2,slice->Sn
open PySem.W renaming Frag->Os,kia_one->Pz,nsIn->Pn,kitOne->Qk,fnOf->Qv,keepIn->Sd,BT->Rc,methodObj->Ut,kitx_list->Uu,instObj->U3,OpenLaw->U6
namespace L2
open PySem PySem.Spec PyProof.Rows
noncomputable abbrev Aq:=Sum Int Str
noncomputable def G4:Aq->Value->Bool
 | .inl k,v=>Value.isInt k v
 | .inr x,v=>Value.isStrOf x v
noncomputable def keyH (w:World):Aq->Int
 | .inl k=>hashInt k
 | .inr x=>hashStr w x
theorem Ex:∀{k:Aq}{v:Value},G4 k v=true->(∃ i t,k=Sum.inl i/\v=Value.int i t)\/(∃ x t,k=Sum.inr x/\v=Value.str x t)
 | .inl i,v,h=>by
  obtain ⟨t,e⟩:=Value.isInt_shape (k:=i) (v:=v) h
  exact .inl ⟨i,t,rfl,e⟩
 | .inr x,v,h=>by
  obtain ⟨t,e⟩:=Value.isStrOf_shape (x:=x) (v:=v) h
  exact .inr ⟨x,t,rfl,e⟩
theorem Zjk (i:Int)(t:Tok):G4 (.inl i) (.int i t)=true:=by simp [G4,Value.isInt]
theorem Zf6 (x:Str)(t:Tok):G4 (.inr x) (.str x t)=true:=by simp [G4,Value.isStrOf]
theorem Zgk (a b:Int):decide ((Sum.inl a:Aq)=Sum.inl b)=(a == b):=by
 by_cases e:a=b
 ·subst e;simp
 ·have h:¬ (Sum.inl a:Aq)=Sum.inl b:=fun q=>e (Sum.inl.inj q)
  rw [decide_eq_false h]
  exact (beq_eq_false_iff_ne.mpr e).symm
theorem Zgf (a b:Str):decide ((Sum.inr a:Aq)=Sum.inr b)=decide (a=b):=by
 by_cases e:a=b
 ·subst e;simp
 ·have h:¬ (Sum.inr a:Aq)=Sum.inr b:=fun q=>e (Sum.inr.inj q)
  rw [decide_eq_false h,decide_eq_false e]
theorem Zhw (a:Int)(b:Str):decide ((Sum.inl a:Aq)=Sum.inr b)=false:=decide_eq_false (fun q=>nomatch q)
theorem Zol (a:Str)(b:Int):decide ((Sum.inr a:Aq)=Sum.inl b)=false:=decide_eq_false (fun q=>nomatch q)
noncomputable def Cm (prog:Program)(w:World):PySem.KeyKind prog w Aq where
 is:=G4
 hash:=keyH w
 inj:=fun v a b ha hb=>by
  rcases Ex ha with ⟨i,t,rfl,rfl⟩ | ⟨x,t,rfl,rfl⟩
  ·rcases Ex hb with ⟨j,u,rfl,e⟩ | ⟨y,u,rfl,e⟩
   ·injection e with e1 _;rw [e1]
   ·exact nomatch e
  ·rcases Ex hb with ⟨j,u,rfl,e⟩ | ⟨y,u,rfl,e⟩
   ·exact nomatch e
   ·injection e with e1 _;rw [e1]
 byValue:=fun k v h=>by
  rcases Ex h with ⟨i,t,rfl,rfl⟩ | ⟨x,t,rfl,rfl⟩ <;> rfl
 pyHash:=fun hv h=>by
  rcases Ex hv with ⟨i,t,rfl,rfl⟩ | ⟨x,t,rfl,rfl⟩
  ·exact wpAny_pyHash_int h
  ·exact wpAny_pyHash_str h
 eqBool:=fun hu hv h=>by
  rcases Ex hu with ⟨i,t,rfl,rfl⟩ | ⟨x,t,rfl,rfl⟩
  ·rcases Ex hv with ⟨j,u,rfl,rfl⟩ | ⟨y,u,rfl,rfl⟩
   ·rw [Zgk] at h;exact wpAny_eqBool_int h
   ·rw [Zhw] at h;exact Pa.int_str i t y u _ _ _ _ h
  ·rcases Ex hv with ⟨j,u,rfl,rfl⟩ | ⟨y,u,rfl,rfl⟩
   ·rw [Zol] at h;exact Pa.str_int x t j u _ _ _ _ h
   ·rw [Zgf] at h;exact wpAny_eqBool_str h
 «strs»:=fun k x t v h=>by
  rcases Ex h with ⟨i,u,rfl,e⟩ | ⟨y,u,rfl,e⟩
  ·exact nomatch e
  ·injection e with e1 _
   subst e1
   cases v <;> rfl
theorem Zgz (prog:Program)(w:World)(i:Int)(t:Tok):(Cm prog w).is (.inl i) (.int i t)=true:=Zjk i t
theorem Zm7 (prog:Program)(w:World)(x:Str)(t:Tok):(Cm prog w).is (.inr x) (.str x t)=true:=Zf6 x t
inductive V where
 | non | bl (b:Bool) | int (i:Int) | str (x:Str) | byt (b:Array UInt8) | flt (b:UInt64) | ref (a:Addr) | ty (n:String)
 deriving DecidableEq
noncomputable def RelV:V->Value->Prop
 | .non,u=>u=Value.none
 | .bl b,u=>u=Value.bool b
 | .int i,u=>∃ t,u=Value.int i t
 | .str x,u=>∃ t,u=Value.str x t
 | .byt b,u=>∃ t,u=Value.bytes b t
 | .flt b,u=>∃ t,u=Value.float b t
 | .ref a,u=>u=Value.ref a
 | .ty n,u=>u=Value.type n
noncomputable abbrev Vals:List V->List Value->Prop:=Paired RelV
theorem Vals.length {xs:List V}{us:List Value}(r:Vals xs us):xs.length=us.length:=Sf r
theorem Vals.get:∀{xs:List V}{us:List Value}{i:Nat}{x:V},Vals xs us->xs[i]?=some x->∃ u,us[i]?=some u/\RelV x u
 | _,_,_,_,.nil,e=>by simp at e
 | _,_,0,_,.cons r _,e=>by simp at e;subst e;exact ⟨_,rfl,r⟩
 | _,_,i+1,x,.cons _ t,e=>by
  obtain ⟨u,h1,h2⟩:=Vals.get (i:=i) (x:=x) t (by simpa using e)
  exact ⟨u,by simpa using h1,h2⟩
theorem Vals.set {x:V}{u:Value}(r:RelV x u):∀{xs:List V}{us:List Value}(i:Nat),Vals xs us->Vals (xs.set i x) (us.set i u)
 | _,_,_,.nil=>.nil
 | _,_,0,.cons _ t=>.cons r t
 | _,_,i+1,.cons q t=>.cons q (Vals.set r i t)
theorem Vals.append:∀{xs ys:List V}{us ws:List Value},Vals xs us->Vals ys ws->Vals (xs++ys) (us++ws)
 | _,_,_,_,.nil,s=>s
 | _,_,_,_,.cons r t,s=>.cons r (Vals.append t s)
theorem Vals.take:∀{xs:List V}{us:List Value}(n:Nat),Vals xs us->Vals (xs.take n) (us.take n)
 | _,_,0,_=>.nil
 | _,_,_+1,.nil=>.nil
 | _,_,n+1,.cons r t=>.cons r (Vals.take n t)
theorem Vals.drop:∀{xs:List V}{us:List Value}(n:Nat),Vals xs us->Vals (xs.drop n) (us.drop n)
 | _,_,0,r=>r
 | _,_,_+1,.nil=>.nil
 | _,_,n+1,.cons _ t=>Vals.drop n t
noncomputable def RelO:Option V->Option Value->Prop
 | some v,some u=>RelV v u
 | none,none=>True
 | _,_=>False
noncomputable def KV {κ:Type}:List (κ×V)->List (κ×Value)->Prop:=Paired fun (p:κ×V) (q:κ×Value)=>p.1=q.1/\RelV p.2 q.2
noncomputable def kV:Aq->V
 | .inl i=>.int i
 | .inr x=>.str x
inductive HO where
  | lst (xs:List V)
  | tup (xs:List V)
  | dK (kvs:List (Aq×V)) | dT (kvs:List (List Aq×V))
  | set (S:Int->Bool) (n:Nat)
  | ins (C dx:Addr) (fs:List (Str×V))
  | own (x:Addr)
  | xd (fs:List (Str×V))
  | met (f x:Addr)
  | rng (lo hi:Int)
  | frz (o:Obj) (u:HO)
  | tbl (ps:Array Value)
  | ext (φ:Heap->Prop)
noncomputable abbrev Hp:=Addr->Option HO
noncomputable def upd (H:Hp)(a:Addr)(o:HO):Hp:=fun b=>if b=a then some o else H b
theorem Ac {H:Hp}{a:Addr}{o:HO}:upd H a o a=some o:=by unfold upd;rw [if_pos rfl]
theorem Ai {H:Hp}{a b:Addr}{o:HO}(h:b≠a):upd H a o b=H b:=by unfold upd;rw [if_neg h]
theorem Jd {H:Hp}{a:Addr}{o u:HO}:upd (upd H a o) a u=upd H a u:=by
 funext b;unfold upd;split <;> rfl
theorem Eb {H:Hp}{a b:Addr}{o u:HO}(h:H a=some o)(h':H b=some u)(d:o≠u):a≠b:=by
 intro e;subst e;rw [h] at h';exact d (Pb h')
theorem A3 {H:Hp}{a b:Addr}{o:HO}(h:H a=some o)(h':H b=none):a≠b:=by
 intro e;subst e;rw [h] at h';cases h'
section
variable (P:Program)(w:World)
noncomputable def ObjOk (H:Hp)(h:Heap)(a:Addr):HO->Prop
 | .lst xs=>xs.length<=sizeLine/\∃(its:List Value)(n:Nat),Vals xs its/\h.get? a=some { cls:=.type "list",data:=.seq its.toArray n }
 | .tup xs=>xs.length<=sizeLine/\∃ its:List Value,Vals xs its/\IsTup h a its.toArray
 | .dK kvs=>kvs.length<=sizeLine/\(a == sysModules)=false/\∃ vs,KV kvs vs/\h.DictOf (Cm P w) a vs
 | .dT kvs=>kvs.length<=sizeLine/\(a == sysModules)=false/\∃ xs:List (List Aq×Addr×Value),
   Paired (fun (p:List Aq×V) (q:List Aq×Addr×Value)=>p.1=q.1/\H q.2.1=some (.tup (p.1.map kV))/\RelV p.2 q.2.2) kvs xs /\
   ∃ o es ep,h.get? a=some o/\o.ExactDict/\o.data=.dict es ep/\es.toList=xs.map (entryOfKey (tupleKind (Cm P w)))/\(xs.map (·.1)).Nodup
 | .set S n=>h.SetOf (intKind P w) a S n
 | .ins C dx fs=>H dx=some (.own a)/\fs.length<=1000/\dx≠a/\h.get? a=some (U3 C dx) /\
   ∃ mA,h.Ns1 dx mA/\(∀ f,RelO (fs.lookup f) (mA f))/\PySem.Within mA (fs.map (·.1))
 | .own _=>∃ o,h.get? a=some o
 | .xd fs=>∃ mA,h.Ns1 a mA/\∀ f,RelO (fs.lookup f) (mA f)
 | .rng lo hi=>∃ t u v,h.get? a=some { cls:=.type "range",data:=.fields #[.int lo t,.int hi u,.int 1 v] }
 | .frz o u=>h.get? a=some o/\ObjOk H h a u
 | .tbl ps=>h.get? a=some { cls:=.none,data:=.fields ps }
 | .met f x=>h.get? a=some (Ut (.ref f) (.ref x))
 | .ext φ=>φ h/\(∃ o,h.get? a=some o)/\∀ h1 h2:Heap,φ h1->(∀ o,h1.get? a=some o->h2.get? a=some o)->φ h2
noncomputable def HOk (H:Hp)(h:Heap):Prop:=∀ a o,H a=some o->ObjOk P w H h a o
end
section
variable {P:Program}{w:World}{H H':Hp}{h h':Heap}{a:Addr}{o:HO}
theorem ObjOk.lt (x:ObjOk P w H h a o):a < h.objs.size:=by
 cases o with
 | lst xs=>obtain ⟨_,_,_,_,e⟩:=x;exact Oy e
 | tup xs=>obtain ⟨_,_,_,p⟩:=x;exact p.lt
 | dK kvs=>obtain ⟨_,_,_,_,o,_,_,e,_⟩:=x;exact Oy e
 | dT kvs=>obtain ⟨_,_,_,_,o,_,_,e,_⟩:=x;exact Oy e
 | set S n=>obtain ⟨o,_,_,_,e,_⟩:=x;exact Oy e
 | ins C dx fs=>obtain ⟨_,_,_,e,_⟩:=x;exact Oy e
 | own y=>obtain ⟨_,e⟩:=x;exact Oy e
 | xd fs=>obtain ⟨_,⟨_,_,_,e,_⟩,_⟩:=x;exact Oy e
 | rng lo hi=>obtain ⟨_,_,_,e⟩:=x;exact Oy e
 | frz ob u=>obtain ⟨e,_⟩:=x;exact Oy e
 | tbl ps=>exact Oy (show h.get? a=some _ from x)
 | met f y=>exact Oy (show h.get? a=some _ from x)
 | ext φ=>obtain ⟨_,⟨_,e⟩,_⟩:=x;exact Oy e
theorem Paired.mapP {α β:Type}{F G:α->β->Prop}:∀{l₁:List α}{l₂:List β},Paired F l₁ l₂->(∀ a b,F a b->G a b)->Paired G l₁ l₂
 | _,_,.nil,_=>.nil
 | _,_,.cons r t,f=>.cons (f _ _ r) (Paired.mapP t f)
theorem ObjOk.stay (x:ObjOk P w H h a o)(k:∀ b u,(b=a\/H b=some (.own a))->h.get? b=some u->h'.get? b=some u)
  (ho:∀ b,H b=some (.own a)->H' b=some (.own a)) (ht:∀ b xs,H b=some (.tup xs)->H' b=some (.tup xs)):ObjOk P w H' h' a o:=by
 induction o with
 | lst xs=>obtain ⟨z,its,n,r,e⟩:=x;exact ⟨z,its,n,r,k _ _ (.inl rfl) e⟩
 | tup xs=>obtain ⟨z,its,r,ob,e,c⟩:=x;exact ⟨z,its,r,ob,k _ _ (.inl rfl) e,c⟩
 | dK kvs=>obtain ⟨z,y,vs,r,ob,es,ep,e,c⟩:=x;exact ⟨z,y,vs,r,ob,es,ep,k _ _ (.inl rfl) e,c⟩
 | dT kvs =>
  obtain ⟨z,y,xs,r,ob,es,ep,e,c⟩:=x
  exact ⟨z,y,xs,Paired.mapP r fun p q z=>⟨z.1,ht _ _ z.2.1,z.2.2⟩,ob,es,ep,k _ _ (.inl rfl) e,c⟩
 | set S n=>obtain ⟨ob,es,ep,t,e,c⟩:=x;exact ⟨ob,es,ep,t,k _ _ (.inl rfl) e,c⟩
 | ins C dx fs =>
  obtain ⟨d,z,ne,e,mA,⟨od,es,ep,e2,c⟩,r⟩:=x
  exact ⟨ho _ d,z,ne,k _ _ (.inl rfl) e,mA,⟨od,es,ep,k _ _ (.inr d) e2,c⟩,r⟩
 | own y=>obtain ⟨ob,e⟩:=x;exact ⟨ob,k _ _ (.inl rfl) e⟩
 | xd fs=>obtain ⟨mA,⟨od,es,ep,e,c⟩,r⟩:=x;exact ⟨mA,⟨od,es,ep,k _ _ (.inl rfl) e,c⟩,r⟩
 | rng lo hi=>obtain ⟨t,u,v,e⟩:=x;exact ⟨t,u,v,k _ _ (.inl rfl) e⟩
 | frz ob u ih=>obtain ⟨e,q⟩:=x;exact ⟨k _ _ (.inl rfl) e,ih q⟩
 | tbl ps =>
  have e:h.get? a=some { cls:=.none,data:=.fields ps }:=x
  show h'.get? a=some { cls:=.none,data:=.fields ps }
  exact k a _ (.inl rfl) e
 | met f y =>
  have e:h.get? a=some (Ut (.ref f) (.ref y)):=x
  show h'.get? a=some (Ut (.ref f) (.ref y))
  exact k a _ (.inl rfl) e
 | ext φ=>obtain ⟨p,⟨o,e⟩,st⟩:=x;exact ⟨st _ _ p fun o q=>k _ _ (.inl rfl) q,⟨o,k _ _ (.inl rfl) e⟩,st⟩
theorem HOk.lt (x:HOk P w H h)(e:H a=some o):a < h.objs.size:=(x a o e).lt
theorem HOk.fresh (x:HOk P w H h)(e:h.objs.size<=a):H a=none:=by
 cases q:H a with
 | none=>rfl
 | some u=>exact absurd (Pd (x.lt q) e) (P5 _)
theorem HOk.kept (x:HOk P w H h)(k:∀ b u,h.get? b=some u->h'.get? b=some u):HOk P w H h':=fun a o e =>
 (x a o e).stay (fun b u _ q=>k b u q) (fun _ q=>q) fun _ _ q=>q
theorem HOk.laid (x:HOk P w H h)(k:∀ b u,h.get? b=some u->h'.get? b=some u)(hp:h.objs.size<=a)(new:ObjOk P w (upd H a o) h' a o):HOk P w (upd H a o) h':=fun b u e=>by
 have hn:=x.fresh hp
 by_cases hb:b=a
 ·subst hb;rw [Ac] at e;cases e;exact new
 ·rw [Ai hb] at e
  exact (x b u e).stay (fun c v _ q=>k c v q) (fun c q=>by rw [Ai (A3 q hn)];exact q) fun c xs q=>by rw [Ai (A3 q hn)];exact q
end
noncomputable def Rd (H:Hp)(a:Addr)(u:HO):Prop:=H a=some u\/∃ o,H a=some (.frz o u)
theorem Rd.ok {P:Program}{w:World}{H:Hp}{h:Heap}{a:Addr}{u:HO}(r:Rd H a u)(x:HOk P w H h):ObjOk P w H h a u:=by
 rcases r with r | ⟨o,r⟩
 ·exact x a u r
 ·obtain ⟨_,q⟩:=x a _ r
  exact q
noncomputable def Mut:Option HO->Prop
 | some (.lst _)=>True
 | some (.dK _)=>True
 | some (.dT _)=>True
 | some (.set _ _)=>True
 | some (.ins _ _ _)=>True
 | some (.ext _)=>True
 | _=>False
section
variable {P:Program}{w:World}{H:Hp}{h h':Heap}{x e:Addr}{o':HO}
theorem HOk.write (ok:HOk P w H h)(mu:Mut (H x))(he:e=x\/H e=some (.own x))(k:∀ b u,b≠e->h.get? b=some u->h'.get? b=some u)(heo:∃ u,h'.get? e=some u)
  (new:ObjOk P w (upd H x o') h' x o'):HOk P w (upd H x o') h':=fun b u q=>by
 have nown:∀ c y,H c=some (.own y)->c≠x:=fun c y r z=>by subst z;rw [r] at mu;exact mu
 have ntup:∀ c xs,H c=some (.tup xs)->c≠x:=fun c xs r z=>by subst z;rw [r] at mu;exact mu
 by_cases hb:b=x
 ·subst hb;rw [Ac] at q;cases q;exact new
 ·rw [Ai hb] at q
  by_cases hbe:b=e
  ·have q':H b=some (.own x):=by
    rcases he with z | z
    ·exact absurd (hbe.trans z) hb
    ·rw [hbe];exact z
   rw [q] at q';cases q'
   obtain ⟨v,hv⟩:=heo
   exact ⟨v,by rw [hbe];exact hv⟩
  ·refine (ok b u q).stay (fun c v hc r=>k c v ?_ r) (fun c r=>by rw [Ai (nown c b r)];exact r) fun c xs r=>by rw [Ai (ntup c xs r)];exact r
   rcases hc with rfl | hc
   ·exact hbe
   ·rintro rfl
    rcases he with z | z
    ·exact nown c b hc z
    ·rw [hc] at z;cases z;exact hb rfl
end
structure Un (fs ex:List Addr)(H H':Hp)(h h':Heap):Prop where
 keep:∀ b o,h.get? b=some o->H b=none->b ∉ fs->b ∉ ex->h'.get? b=some o
 slot:∀ b o,h.get? b=some o->H b=none->b∈fs->b ∉ ex->∃ sl,h'.get? b=some { o with slots:=sl }
 free:∀ b o,h.get? b=some o->H b=none->b ∉ ex->H' b=none
 there:∀ b o,h.get? b=some o->b ∉ ex->∃ o',h'.get? b=some o'
 tups:∀ b xs,H b=some (.tup xs)->H' b=some (.tup xs)
 frzs:∀ b o u,H b=some (.frz o u)->H' b=some (.frz o u)
 tbls:∀ b ps,H b=some (.tbl ps)->∃ more,H' b=some (.tbl (ps++more))
section
variable {fs fs' ex ex':List Addr}{H H1 H2:Hp}{h h1 h2 h':Heap}{a x e:Addr}{o:HO}
theorem Un.any (u:Un fs ex H H1 h h1){b:Addr}{ob:Obj}(q:h.get? b=some ob)(n:H b=none)(hx:b ∉ ex):∃ sl,h1.get? b=some { ob with slots:=sl }:=by
 by_cases hb:b∈fs
 ·exact u.slot b ob q n hb hx
 ·exact ⟨ob.slots,u.keep b ob q n hb hx⟩
theorem Un.kept (k:∀ b u,h.get? b=some u->h'.get? b=some u):Un fs ex H H h h' :=
 ⟨fun b ob q _ _ _=>k b ob q,fun b ob q _ _ _=>⟨ob.slots,k b ob q⟩,fun _ _ _ n _=>n,fun b ob q _=>⟨ob,k b ob q⟩,fun _ _ q=>q,fun _ _ _ q=>q,fun _ ps q=>⟨#[],by rw [q];simp⟩⟩
theorem Un.refl:Un fs ex H H h h:=Un.kept fun _ _ q=>q
theorem Un.laid (k:∀ b u,h.get? b=some u->h'.get? b=some u)(hp:h.objs.size<=a)(hn:H a=none):Un fs ex H (upd H a o) h h' where
 keep:=fun b u q _ _ _=>k b u q
 slot:=fun b u q _ _ _=>⟨u.slots,k b u q⟩
 free:=fun b u q n _=>by rw [Ai (O5 (Pd (Oy q) hp))];exact n
 there:=fun b u q _=>⟨u,k b u q⟩
 tups:=fun b xs q=>by rw [Ai (A3 q hn)];exact q
 frzs:=fun b u xs q=>by rw [Ai (A3 q hn)];exact q
 tbls:=fun b ps q=>⟨#[],by rw [Ai (A3 q hn),q];simp⟩
theorem Un.write (mu:Mut (H x))(he:e=x\/H e=some (.own x))(k:∀ b u,b≠e->h.get? b=some u->h'.get? b=some u)(heo:∃ u,h'.get? e=some u):Un fs ex H (upd H x o) h h':=by
 have hx:∀ b,H b=none->b≠x:=fun b n z=>by subst z;rw [n] at mu;exact mu
 have hb:∀ b,H b=none->b≠e:=fun b n z=>by
  subst z
  rcases he with r | r
  ·exact hx b n r
  ·rw [n] at r;cases r
 have hm:∀ b u,H b=some u->¬ Mut (some u)->b≠x:=fun b u q nm z=>by subst z;rw [q] at mu;exact nm mu
 refine ⟨fun b u q n _ _=>k b u (hb b n) q,fun b u q n _ _=>⟨u.slots,k b u (hb b n) q⟩,fun b u q n _=>by rw [Ai (hx b n)];exact n,fun b u q _=>?_,
  fun b xs q=>by rw [Ai (hm b _ q fun z=>z)];exact q,fun b u xs q=>by rw [Ai (hm b _ q fun z=>z)];exact q,fun b ps q=>⟨#[],by rw [Ai (hm b _ q fun z=>z),q];simp⟩⟩
 by_cases hbe:b=e
 ·subst hbe;exact heo
 ·exact ⟨u,k b u hbe q⟩
end
noncomputable def trk (h:Heap)(H:Hp):List Addr:=(Pe h.objs.size).filter fun a=>(H a).isSome
noncomputable def Es (h:Heap)(H:Hp):Heap:=PySem.W.hideAll h (trk h H)
theorem Zkb (h:Heap)(H:Hp):(Es h H).objs.size=h.objs.size:=PySem.W.hideAll_size _ _
theorem Zm4 {h:Heap}{H:Hp}{b:Addr}{o:Obj}(e:h.get? b=some o)(n:H b=none):(Es h H).get? b=some o :=
 PySem.W.hideAll_get _ e fun hm=>by
  have q:(H b).isSome=true:=(Tl.mp hm).2
  rw [n] at q;simp at q
theorem Znn {h:Heap}{H:Hp}{b:Addr}{o:Obj}(e:(Es h H).get? b=some o):h.get? b=some o/\H b=none:=by
 have e':h.get? b=some o:=PySem.W.of_hideAll (trk h H) e
 refine ⟨e',?_⟩
 cases q:H b with
 | none=>rfl
 | some x =>
  have hm:b∈trk h H:=Tl.mpr ⟨List.mem_range.mpr (Oy e'),by simp [q]⟩
  have z:(Es h H).get? b=none:=PySem.W.hideAll_none (trk h H) hm
  rw [z] at e;cases e
structure Mod (K:Os)(mg:Str->Option Value)(base:Heap):Prop where
 kin:K.In base
 glob:base.Ns mainGlobals mg
 blt:∃ mb,base.Ns builtinsNs mb/\∀ x:Str,x ≠ "__name__" -> mb x=bootBuiltins x
 nolimit:base.NoLimit
structure Cx where
 prog:Program
 w:World
 K:Os
 mg:Str->Option Value
 base:Heap
 A:Around
 N:List Str
 s₀:Shared
 H₀:Hp
 env:Env
 outer:List Env
 stack:List Env
 ex:List Addr
 fn:Str->Bool
 calm:Bool
 pn:List (Addr×Obj)
 xe:Value->Shared->Prop
noncomputable def Cv (l:List Env):List Addr:=l.filterMap (·.frame)
noncomputable abbrev Cx.fs (X:Cx):List Addr:=Cv X.outer
noncomputable def Vis (sc:Scope)(x:Str):Prop:=sc.names.lookup x=some .local\/sc.names.lookup x=some .cell\/sc.names.lookup x=some .free
noncomputable def Dw (sc:Scope)(x:Str):Prop:=sc.names.lookup x=some .local\/sc.names.lookup x=some .cell
noncomputable def Look (env:Env)(h:Heap)(m:Str->Option Value)(x:Str)(u:Value):Prop :=
 (env.kindOf x=some .local/\m x=some u)\/((env.kindOf x=some .cell\/env.kindOf x=some .free)/\∃ c,env.cells.lookup x=some c/\h.IsCell c (some u))
structure Cx.Ok (X:Cx):Prop where
 mod:Mod X.K X.mg X.base
 kind:X.env.scope.kind=.function
 glob:X.env.globals=mainGlobals
 blt:X.env.builtins=builtinsNs
 above:X.s₀.heap.objs.size<=X.env.locals
 inj:∀ x y c,X.env.cells.lookup x=some c->X.env.cells.lookup y=some c->x=y
 has:∀ x,(X.env.kindOf x=some .cell\/X.env.kindOf x=some .free)->∃ c,X.env.cells.lookup x=some c
 cab:∀ x c,X.fn x=true->X.env.cells.lookup x=some c->X.s₀.heap.objs.size<=c
 hd:X.calm=true->X.A.handled=none
 frames:X.A.frames=some X.stack
 stk:X.stack=X.outer\/(X.stack=X.env::X.outer/\X.env.frame=some X.env.locals)
 exf:∀ b∈X.ex,b≠X.env.locals/\∀ x c,X.env.cells.lookup x=some c->c≠b
 bs:∀ b o,X.base.get? b=some o->X.s₀.heap.get? b=some o/\X.H₀ b=none
 bsz:X.base.objs.size<=X.s₀.heap.objs.size
 noex:∀ b o,X.base.get? b=some o->b ∉ X.ex
 exfs:∀ b∈X.ex,b ∉ X.fs
 funs:X.s₀.heap.FunFrames X.base X.outer
 frf:∀ b∈X.fs,X.H₀ b=none
structure Inv (X:Cx)(pins:List (Addr×Obj))(σ:List (Option V))(H:Hp)(s:Shared):Prop where
 ok:X.Ok
 os:s.os=X.s₀.os
 bare:AllBare s.gens
 base:Un X.fs X.ex X.H₀ H X.s₀.heap s.heap
 loc:∃ m,s.heap.Ns X.env.locals m/\∀(i:Nat)(x:Str)(v:V),X.N[i]?=some x->σ[i]?=some (some v)->Vis X.env.scope x->∃ u,RelV v u/\Look X.env s.heap m x u
 cell:∀ x c,X.env.cells.lookup x=some c->∃ v,s.heap.IsCell c v
 free:H X.env.locals=none
 freeC:∀ x c,X.env.cells.lookup x=some c->H c=none
 pin:∀ p∈X.pn++pins,s.heap.get? p.1=some p.2/\H p.1=none/\p.1≠X.env.locals/\p.1 ∉ X.fs/\∀ v,p.2.data≠.cell v
 hok:HOk X.prog X.w H s.heap
 len:σ.length=X.N.length
section
variable {X:Cx}{pins:List (Addr×Obj)}{σ:List (Option V)}{H H':Hp}{s:Shared}{h':Heap}
theorem Cx.Ok.nofr (ok:X.Ok){b:Addr}{o:Obj}(e:X.base.get? b=some o):b ∉ X.fs:=fun hb=>by
 have:=(ok.funs.mem hb).1
 rw [e] at this;cases this
theorem Inv.bs (I:Inv X pins σ H s):∀ b o,X.base.get? b=some o->s.heap.get? b=some o/\H b=none:=fun b o e =>
 ⟨I.base.keep b o (I.ok.bs b o e).1 (I.ok.bs b o e).2 (I.ok.nofr e) (I.ok.noex b o e),I.base.free b o (I.ok.bs b o e).1 (I.ok.bs b o e).2 (I.ok.noex b o e)⟩
theorem Inv.bk (I:Inv X pins σ H s):∀ b o,X.base.get? b=some o->s.heap.get? b=some o:=fun b o e=>(I.bs b o e).1
theorem Inv.mod (I:Inv X pins σ H s):Mod X.K X.mg X.base:=I.ok.mod
theorem Inv.kIn (I:Inv X pins σ H s):X.K.In s.heap:=I.ok.mod.kin.keeps I.bk
theorem Inv.lt (I:Inv X pins σ H s):X.env.locals < s.heap.objs.size:=let ⟨_,hn,_⟩:=I.loc;hn.lt
theorem Inv.sz (I:Inv X pins σ H s):X.s₀.heap.objs.size<=s.heap.objs.size:=Pm I.ok.above (Sj I.lt)
theorem Inv.nofs (I:Inv X pins σ H s){a:Addr}(h:s.heap.objs.size<=a):a ∉ X.fs:=fun hb=>by
 obtain ⟨_,o,ho,_⟩:=I.ok.funs.mem hb
 exact absurd (Pd (Oy ho) (Pm I.sz h)) (P5 _)
theorem Inv.cne (I:Inv X pins σ H s):∀ x c,X.env.cells.lookup x=some c->c≠X.env.locals:=fun x c e z=>by
 obtain ⟨v,o,ho,hd⟩:=I.cell x c e
 obtain ⟨m,⟨o',es,ep,ho',hd',_⟩,_⟩:=I.loc
 rw [z,ho'] at ho;cases ho;rw [hd'] at hd;cases hd
theorem Inv.funs (I:Inv X pins σ H s):s.heap.FunFrames X.base X.outer:=by
 have all:∀(l:List Env),(∀ b∈Cv l,b∈X.fs)->X.s₀.heap.FunFrames X.base l->s.heap.FunFrames X.base l:=by
  intro l
  induction l with
  | nil=>intro _ _;trivial
  | cons env r ih =>
   intro hs hl
   obtain ⟨hk,⟨L,o,hf,hn,ho,hd⟩,hr⟩:=hl
   have hL:L∈X.fs:=hs L (by unfold Cv;rw [Ul,hf];exact R5)
   obtain ⟨sl,e⟩:=I.base.slot L o ho (I.ok.frf L hL) hL fun z=>I.ok.exfs L z hL
   exact ⟨hk,⟨L,_,hf,hn,e,hd⟩,ih (fun b hb=>hs b (by unfold Cv;rw [Ul,hf];exact Qz _ hb)) hr⟩
 exact all X.outer (fun _ hb=>hb) I.ok.funs
theorem Inv.stack (I:Inv X pins σ H s):s.heap.FunFrames X.base X.stack:=by
 rcases I.ok.stk with e | ⟨e,hf⟩
 ·rw [e];exact I.funs
 ·rw [e]
  obtain ⟨m,hn,_⟩:=I.loc
  refine .cons (by rw [I.ok.kind];decide) hf hn ?_ I.funs
  exact Heap.get?_none_of_le (Pm I.ok.bsz I.ok.above)
theorem Inv.stkSub (I:Inv X pins σ H s):∀ b∈Cv X.stack,b∈X.env.locals::X.fs:=fun b hb=>by
 rcases I.ok.stk with e | ⟨e,hf⟩
 ·rw [e] at hb;exact Qz _ hb
 ·rw [e] at hb
  unfold Cv at hb
  rw [Ul,hf] at hb
  exact hb
theorem Inv.stkFree (I:Inv X pins σ H s):∀ b∈Cv X.stack,H b=none:=fun b hb=>by
 rcases O1.mp (I.stkSub b hb) with e | hb
 ·rw [e];exact I.free
 ·obtain ⟨_,o,ho,_⟩:=I.ok.funs.mem hb
  exact I.base.free b o ho (I.ok.frf b hb) fun z=>I.ok.exfs b z hb
theorem Inv.step {g':Array GenState}{t':Nat}{d':Drawn}{ch:List Addr}(I:Inv X pins σ H s)
  (hch:∀ b∈ch,(b∈X.ex\/X.s₀.heap.objs.size<=b)/\b≠X.env.locals/\(∀ x c,X.env.cells.lookup x=some c->c≠b)/\∀ p∈X.pn++pins,p.1≠b)
  (keep:∀ b o,b≠X.env.locals->b ∉ X.fs->b ∉ ch->s.heap.get? b=some o->H b=none->h'.get? b=some o)
  (slot:∀ b o,b≠X.env.locals->b∈X.fs->b ∉ ch->s.heap.get? b=some o->H b=none->∃ sl,h'.get? b=some { o with slots:=sl }) (free:∀ b o,b ∉ ch->s.heap.get? b=some o->H b=none->H' b=none)
  (there:∀ b o,b ∉ ch->s.heap.get? b=some o->∃ o',h'.get? b=some o')
  (tups:∀ b xs,H b=some (.tup xs)->H' b=some (.tup xs)) (frzs:∀ b o u,H b=some (.frz o u)->H' b=some (.frz o u)) (tbls:∀ b ps,H b=some (.tbl ps)->∃ more,H' b=some (.tbl (ps++more)))
  (ns:∀ m,s.heap.Ns X.env.locals m->h'.Ns X.env.locals m) (hok:HOk X.prog X.w H' h') (hg:AllBare g') :
  Inv X pins σ H' { s with heap:=h',gens:=g',drawn:=d',toks:=t' }:=by
 have neL:∀ b o,X.s₀.heap.get? b=some o->b≠X.env.locals:=fun b o e=>O5 (Pd (Oy e) I.ok.above)
 have neC:∀ b o,X.s₀.heap.get? b=some o->b ∉ X.ex->b ∉ ch:=fun b o e hx hb=>by
  rcases (hch b hb).1 with z | z
  ·exact hx z
  ·exact absurd (Pd (Oy e) z) (P5 _)
 have cellK:∀ x c,X.env.cells.lookup x=some c->∀ v,s.heap.IsCell c v->h'.IsCell c v:=fun x c e v ⟨o,ho,hd⟩=>by
  have nch:c ∉ ch:=fun z=>(hch c z).2.2.1 x c e rfl
  by_cases hc:c∈X.fs
  ·obtain ⟨sl,q⟩:=slot c o (I.cne x c e) hc nch ho (I.freeC x c e)
   exact ⟨_,q,hd⟩
  ·exact ⟨o,keep c o (I.cne x c e) hc nch ho (I.freeC x c e),hd⟩
 refine ⟨I.ok,I.os,hg,⟨fun b o e n hb hx=>?_,fun b o e n hb hx=>?_,fun b o e n hx=>?_,fun b o e hx=>?_,fun b xs e=>tups b xs (I.base.tups b xs e),fun b o xs e=>frzs b o xs (I.base.frzs b o xs e),fun b ps e=>?_⟩,?_,fun x c e=>?_,?_,fun x c e=>?_,fun p hp=>?_,hok,I.len⟩
 ·exact keep b o (neL b o e) hb (neC b o e hx) (I.base.keep b o e n hb hx) (I.base.free b o e n hx)
 ·obtain ⟨sl,e1⟩:=I.base.slot b o e n hb hx
  obtain ⟨sl',e2⟩:=slot b _ (neL b o e) hb (neC b o e hx) e1 (I.base.free b o e n hx)
  exact ⟨sl',e2⟩
 ·obtain ⟨o',e1⟩:=I.base.there b o e hx
  exact free b o' (neC b o e hx) e1 (I.base.free b o e n hx)
 ·obtain ⟨o',e1⟩:=I.base.there b o e hx
  exact there b o' (neC b o e hx) e1
 ·obtain ⟨m1,e1⟩:=I.base.tbls b ps e
  obtain ⟨m2,e2⟩:=tbls b _ e1
  exact ⟨m1++m2,by rw [e2,Array.append_assoc]⟩
 ·obtain ⟨m,hn,hl⟩:=I.loc
  refine ⟨m,ns m hn,fun i x v e1 e2 e3=>?_⟩
  obtain ⟨u,r,l⟩:=hl i x v e1 e2 e3
  refine ⟨u,r,?_⟩
  rcases l with l | ⟨k,c,e,z⟩
  ·exact .inl l
  ·exact .inr ⟨k,c,e,cellK x c e _ z⟩
 ·obtain ⟨v,z⟩:=I.cell x c e
  exact ⟨v,cellK x c e v z⟩
 ·obtain ⟨m,⟨o,_,_,ho,_⟩,_⟩:=I.loc
  exact free _ o (fun z=>(hch _ z).2.1 rfl) ho I.free
 ·obtain ⟨v,o,ho,hd⟩:=I.cell x c e
  exact free c o (fun z=>(hch c z).2.2.1 x c e rfl) ho (I.freeC x c e)
 ·obtain ⟨e,n,ne,nf,d⟩:=I.pin p hp
  have nch:p.1 ∉ ch:=fun z=>(hch p.1 z).2.2.2 p hp rfl
  exact ⟨keep p.1 p.2 ne nf nch e n,free p.1 p.2 nch e n,ne,nf,d⟩
theorem Inv.un {t':Nat}(I:Inv X pins σ H s)(u:Un X.fs [] H H' s.heap h')(hok:HOk X.prog X.w H' h'):Inv X pins σ H' { s with heap:=h',toks:=t' }:=by
 obtain ⟨m,⟨o,es,ep,ho,r⟩,_⟩:=id I.loc
 obtain ⟨sl,hL⟩:=u.any ho I.free (by simp)
 exact I.step (g':=s.gens) (d':=s.drawn) (ch:=[]) (fun _ z=>nomatch z) (fun b o _ hb _ e n=>u.keep b o e n hb (by simp)) (fun b o _ hb _ e n=>u.slot b o e n hb (by simp)) (fun b o _ e n=>u.free b o e n (by simp)) (fun b o _ e=>u.there b o e (by simp)) u.tups u.frzs u.tbls (fun m' hm=>by
  obtain ⟨o',es',ep',ho',r'⟩:=hm
  rw [ho] at ho';cases ho'
  exact ⟨_,es',ep',hL,r'⟩) hok I.bare
theorem Inv.call {g':Array GenState}{t':Nat}{d':Drawn}{ch:List Addr}(I:Inv X pins σ H s)(u:Un (Cv X.stack) ch H H' s.heap h')(hok:HOk X.prog X.w H' h')(hg:AllBare g')
  (hch:∀ b∈ch,(b∈X.ex\/X.s₀.heap.objs.size<=b)/\b≠X.env.locals/\(∀ x c,X.env.cells.lookup x=some c->c≠b)/\∀ p∈X.pn++pins,p.1≠b) :
  Inv X pins σ H' { s with heap:=h',gens:=g',drawn:=d',toks:=t' }:=by
 obtain ⟨m,⟨o,es,ep,ho,r⟩,_⟩:=id I.loc
 obtain ⟨sl,hL⟩:=u.any ho I.free fun z=>(hch _ z).2.1 rfl
 exact I.step (ch:=ch) hch (fun b o hL hb hc e n=>u.keep b o e n (fun z=>(O1.mp (I.stkSub b z)).elim hL hb) hc) (fun b o _ _ hc e n=>u.any e n hc) (fun b o hc e n=>u.free b o e n hc) (fun b o hc e=>u.there b o e hc) u.tups u.frzs u.tbls (fun m' hm=>by
  obtain ⟨o',es',ep',ho',r'⟩:=hm
  rw [ho] at ho';cases ho'
  exact ⟨_,es',ep',hL,r'⟩) hok hg
theorem Inv.turned {t':Nat}{it:Addr}(I:Inv X pins σ H s)(k:∀ b o,b≠it->s.heap.get? b=some o->h'.get? b=some o)(hn:H it=none)(hL:it≠X.env.locals)
  (h1:it∈X.ex\/X.s₀.heap.objs.size<=it) (h2:∀ x c,X.env.cells.lookup x=some c->c≠it) (h3:∀ p∈X.pn++pins,p.1≠it):Inv X pins σ H { s with heap:=h',toks:=t' }:=by
 have nit:∀ b u,H b=some u->b≠it:=fun b u e z=>by rw [z,hn] at e;cases e
 refine I.step (g':=s.gens) (d':=s.drawn) (ch:=[it]) (fun b hb=>?_) (fun b o _ _ hc e _=>k b o (fun z=>hc (by simp [z])) e) (fun b o _ _ hc e _=>⟨o.slots,k b o (fun z=>hc (by simp [z])) e⟩) (fun _ _ _ _ n=>n)
  (fun b o hc e=>⟨o,k b o (fun z=>hc (by simp [z])) e⟩) (fun _ _ e=>e) (fun _ _ _ e=>e) (fun b ps e=>⟨#[],by rw [e];simp⟩) (fun m hm=>?_) (fun b u e=>?_) I.bare
 ·have e:b=it:=by simpa using hb
  subst e
  exact ⟨h1,hL,h2,h3⟩
 ·obtain ⟨o,es,ep,ho,r⟩:=hm
  exact ⟨o,es,ep,k _ o (Pj hL) ho,r⟩
 ·refine (I.hok b u e).stay (fun c v hc q=>k c v ?_ q) (fun _ q=>q) fun _ _ q=>q
  rcases hc with z | z
  ·rw [z];exact nit b u e
  ·exact nit c _ z
theorem Inv.tok (I:Inv X pins σ H s)(t:Nat):Inv X pins σ H { s with toks:=t }:=I.un (h':=s.heap) (t':=t) Un.refl I.hok
theorem Inv.kept {t':Nat}(I:Inv X pins σ H s)(k:∀ b u,s.heap.get? b=some u->h'.get? b=some u):Inv X pins σ H { s with heap:=h',toks:=t' }:=I.un (Un.kept k) (I.hok.kept k)
theorem Inv.laid {a:Addr}{o:HO}{t':Nat}(I:Inv X pins σ H s)(k:∀ b u,s.heap.get? b=some u->h'.get? b=some u)(hp:s.heap.objs.size<=a)(new:ObjOk X.prog X.w (upd H a o) h' a o) :
  Inv X pins σ (upd H a o) { s with heap:=h',toks:=t' }:=I.un (Un.laid k hp (I.hok.fresh hp)) (I.hok.laid k hp new)
theorem Inv.write {x e:Addr}{o:HO}{t':Nat}(I:Inv X pins σ H s)(mu:Mut (H x))(he:e=x\/H e=some (.own x))(k:∀ b u,b≠e->s.heap.get? b=some u->h'.get? b=some u)(heo:∃ u,h'.get? e=some u)
  (new:ObjOk X.prog X.w (upd H x o) h' x o):Inv X pins σ (upd H x o) { s with heap:=h',toks:=t' }:=I.un (Un.write mu he k heo) (I.hok.write mu he k heo new)
theorem Inv.pins_of {pins':List (Addr×Obj)}(I:Inv X pins σ H s)(h:∀ p∈pins',s.heap.get? p.1=some p.2/\H p.1=none/\p.1≠X.env.locals/\p.1 ∉ X.fs/\∀ v,p.2.data≠.cell v):Inv X pins' σ H s :=
 ⟨I.ok,I.os,I.bare,I.base,I.loc,I.cell,I.free,I.freeC,fun p hp=>(Qt.mp hp).elim (fun z=>I.pin p (List.mem_append_left _ z)) (h p),I.hok,I.len⟩
theorem Zd8 {N:List Str}(hN:N.Nodup){i j:Nat}{x:Str}(a:N[i]?=some x)(b:N[j]?=some x):i=j:=by
 obtain ⟨h1,e1⟩:=O2.mp a
 obtain ⟨h2,e2⟩:=O2.mp b
 exact (List.getElem_inj hN).mp (e1.trans e2.symm)
theorem Zc4 {M:Model}{A:Around}{E:Value->Shared->Prop}{i:Nat}{x:Str}{v:V}{u:Value}{Q:Unit->Shared->Prop}(I:Inv X pins σ H s)(hN:X.N.Nodup)(hi:X.N[i]?=some x)(hx:Dw X.env.scope x)(r:RelV v u)
  (h:∀ s',Inv X pins (σ.set i (some v)) H s'->(∃ a,O7 a s.heap s'.heap/\(a=X.env.locals\/X.env.cells.lookup x=some a))->Q () s') (hf:X.fn x=true\/X.env.scope.names.lookup x=some .local:=by first | exact .inl rfl | exact .inr rfl | assumption):wpAny M A (storeName X.env x u) Q E s:=by
 obtain ⟨m,hn,hl⟩:=id I.loc
 have hcls:(X.env.scope.kind == .class || (X.env.scope.kind == .module && X.env.locals != X.env.globals))=false:=by rw [I.ok.kind];rfl
 have hiσ:i < σ.length:=by rw [I.len];exact (O2.mp hi).1
 have cne:=I.cne
 have tracked:∀{a:Addr}{h':Heap},(∃ o,s.heap.get? a=some o/\H a=none)->O7 a s.heap h'->HOk X.prog X.w H h':=fun {a h'} ha hs b ob e=>by
  obtain ⟨_,_,hfree⟩:=ha
  refine (I.hok b ob e).stay (fun c w' hc q=>(hs.2 c ?_).trans q) (fun _ q=>q) fun _ _ q=>q
  rintro rfl
  rcases hc with rfl | hc
  ·rw [hfree] at e;cases e
  ·rw [hfree] at hc;cases hc
 rcases hx with hk | hk
 ·refine wpAny_storeName_local hk hn (fun h' hn' hs=>?_) hcls
  obtain ⟨oL,_,_,hoL,_⟩:=id hn
  refine h _ ⟨I.ok,I.os,I.bare,⟨fun b o e n hb hx=>?_,fun b o e n hb hx=>?_,I.base.free,fun b o e hx=>?_,I.base.tups,I.base.frzs,I.base.tbls⟩,⟨_,hn',fun j y v' e1 e2 e3=>?_⟩,fun y c e=>?_,I.free,I.freeC,fun p hp=>?_,tracked ⟨oL,hoL,I.free⟩ hs,by simpa using I.len⟩ ⟨_,hs,.inl rfl⟩
  ·exact (hs.2 b (O5 (Pd (Oy e) I.ok.above))).trans (I.base.keep b o e n hb hx)
  ·obtain ⟨sl,e1⟩:=I.base.slot b o e n hb hx
   exact ⟨sl,(hs.2 b (O5 (Pd (Oy e) I.ok.above))).trans e1⟩
  ·obtain ⟨o',e1⟩:=I.base.there b o e hx
   exact ⟨o',(hs.2 b (O5 (Pd (Oy e) I.ok.above))).trans e1⟩
  ·by_cases hj:j=i
   ·subst hj
    rw [hi] at e1;cases e1
    rw [Sz hiσ] at e2
    cases e2
    exact ⟨u,r,.inl ⟨hk,by simp⟩⟩
   ·rw [Uh (Pj hj)] at e2
    obtain ⟨u',r',q⟩:=hl j y v' e1 e2 e3
    refine ⟨u',r',?_⟩
    rcases q with ⟨k,e⟩ | ⟨k,c,e,z⟩
    ·refine .inl ⟨k,?_⟩
     have:y≠x:=fun e=>hj (Zd8 hN e1 (e ▸ hi))
     simp [this,e]
    ·exact .inr ⟨k,c,e,z.sameBut hs (cne y c e)⟩
  ·obtain ⟨w',z⟩:=I.cell y c e
   exact ⟨w',z.sameBut hs (cne y c e)⟩
  ·obtain ⟨e,n,ne,nf,d⟩:=I.pin p hp
   exact ⟨(hs.2 p.1 ne).trans e,n,ne,nf,d⟩
 ·have hfn:X.fn x=true:=by
   rcases hf with z | z
   ·exact z
   ·rw [z] at hk;cases hk
  obtain ⟨c,hc⟩:=I.ok.has x (.inl hk)
  obtain ⟨w',z⟩:=I.cell x c hc
  refine wpAny_storeName_cell I.ok.kind hk hc z (fun h' hc' hs=>?_)
  obtain ⟨oc,hoc,hocd⟩:=id z
  refine h { s with heap:=h' } ⟨I.ok,I.os,I.bare,⟨fun b o e n hb hx=>?_,fun b o e n hb hx=>?_,I.base.free,fun b o e hx=>?_,I.base.tups,I.base.frzs,I.base.tbls⟩,⟨m,hn.sameBut hs (Pj (cne x c hc)),fun j y v' e1 e2 e3=>?_⟩,fun y c' e=>?_,I.free,I.freeC,fun p hp=>?_,tracked ⟨oc,hoc,I.freeC x c hc⟩ hs,by simpa using I.len⟩ ⟨c,hs,.inr hc⟩
  ·exact (hs.2 b (O5 (Pd (Oy e) (I.ok.cab x c hfn hc)))).trans (I.base.keep b o e n hb hx)
  ·obtain ⟨sl,e1⟩:=I.base.slot b o e n hb hx
   exact ⟨sl,(hs.2 b (O5 (Pd (Oy e) (I.ok.cab x c hfn hc)))).trans e1⟩
  ·obtain ⟨o',e1⟩:=I.base.there b o e hx
   exact ⟨o',(hs.2 b (O5 (Pd (Oy e) (I.ok.cab x c hfn hc)))).trans e1⟩
  ·by_cases hj:j=i
   ·subst hj
    rw [hi] at e1;cases e1
    rw [Sz hiσ] at e2
    cases e2
    exact ⟨u,r,.inr ⟨.inl hk,c,hc,hc'⟩⟩
   ·rw [Uh (Pj hj)] at e2
    obtain ⟨u',r',q⟩:=hl j y v' e1 e2 e3
    refine ⟨u',r',?_⟩
    rcases q with q | ⟨k,c',e,z'⟩
    ·exact .inl q
    ·refine .inr ⟨k,c',e,z'.sameBut hs ?_⟩
     rintro rfl
     exact hj (Zd8 hN e1 (I.ok.inj _ _ _ e hc ▸ hi))
  ·by_cases hcc:c'=c
   ·subst hcc;exact ⟨_,hc'⟩
   ·obtain ⟨w2,z2⟩:=I.cell y c' e
    exact ⟨w2,z2.sameBut hs hcc⟩
  ·obtain ⟨e,n,ne,nf,d⟩:=I.pin p hp
   refine ⟨(hs.2 p.1 ?_).trans e,n,ne,nf,d⟩
   intro q
   rw [q,hoc] at e
   have q':oc=p.2:=Pb e
   exact d w' (by rw [<- q'];exact hocd)
theorem Iu {M:Model}{A:Around}{E:Value->Shared->Prop}{i:Nat}{x:Str}{v:V}{u:Value}{Q:Unit->Shared->Prop}(I:Inv X pins σ H s)(hN:X.N.Nodup)(hi:X.N[i]?=some x)(hx:Dw X.env.scope x)(r:RelV v u)
  (h:∀ s',Inv X pins (σ.set i (some v)) H s'->Q () s') (hf:X.fn x=true\/X.env.scope.names.lookup x=some .local:=by first | exact .inl rfl | exact .inr rfl | assumption):wpAny M A (storeName X.env x u) Q E s :=
 Zc4 I hN hi hx r (fun s' I' _=>h s' I') hf
theorem Inv.call' {s':Shared}{ch:List Addr}(I:Inv X pins σ H s)(ho:s'.os=s.os)(u:Un (Cv X.stack) ch H H' s.heap s'.heap)(hok:HOk X.prog X.w H' s'.heap)(hg:AllBare s'.gens)
  (hch:∀ b∈ch,(b∈X.ex\/X.s₀.heap.objs.size<=b)/\b≠X.env.locals/\(∀ x c,X.env.cells.lookup x=some c->c≠b)/\∀ p∈X.pn++pins,p.1≠b):Inv X pins σ H' s':=by
 obtain ⟨h',g',d',t',o'⟩:=s'
 have e:o'=s.os:=ho
 subst e
 exact I.call (g':=g') (t':=t') (d':=d') u hok hg hch
end
noncomputable abbrev XK:=Value->Option Addr->Hp->Prop
noncomputable abbrev St:=List (Option V)
noncomputable abbrev VK:=V->Hp->Prop
noncomputable abbrev TE:=St->Hp->VK->Prop
noncomputable abbrev TT:=St->Hp->(Bool->Hp->Prop)->Prop
noncomputable abbrev TA:=St->Hp->(List V->Hp->Prop)->Prop
structure Ct where
 nx:St->Hp->Prop
 rt:VK
 bk:St->Hp->Prop:=fun _ _=>False
 ct:St->Hp->Prop:=fun _ _=>False
noncomputable abbrev TS:=Ct->St->Hp->Prop
noncomputable def EP (X:Cx)(pins:List (Addr×Obj))(σ:St)(Q:VK)(u:Value)(s':Shared):Prop:=∃ v H',Inv X pins σ H' s'/\RelV v u/\Q v H'
noncomputable def TP (X:Cx)(pins:List (Addr×Obj))(σ:St)(Q:Bool->Hp->Prop)(b:Bool)(s':Shared):Prop:=∃ H',Inv X pins σ H' s'/\Q b H'
noncomputable def AP (X:Cx)(pins:List (Addr×Obj))(σ:St)(Q:List V->Hp->Prop)(us:List Value)(s':Shared):Prop:=∃ vs H',Inv X pins σ H' s'/\Vals vs us/\Q vs H'
noncomputable def SP (X:Cx)(pins:List (Addr×Obj))(D:Ct)(f:Flow)(s':Shared):Prop :=
 match f with
 | .next=>∃ σ' H',Inv X pins σ' H' s'/\D.nx σ' H'
 | .brk=>∃ σ' H',Inv X pins σ' H' s'/\D.bk σ' H'
 | .cont=>∃ σ' H',Inv X pins σ' H' s'/\D.ct σ' H'
 | .ret u=>∃ v σ' H',Inv X pins σ' H' s'/\RelV v u/\D.rt v H'
noncomputable def PE (X:Cx)(e:Expr)(t:TE):Prop :=
 ∀(pins:List (Addr×Obj))(s:Shared)(σ:St)(H:Hp)(Q:VK),Inv X pins σ H s->t σ H Q->wpAny (model X.prog X.w) X.A (eval e X.env) (EP X pins σ Q) X.xe s
noncomputable def PT (X:Cx)(e:Expr)(t:TT):Prop :=
 ∀(pins:List (Addr×Obj))(s:Shared)(σ:St)(H:Hp)(Q:Bool->Hp->Prop),Inv X pins σ H s->t σ H Q->wpAny (model X.prog X.w) X.A (isTrue e X.env (eval e X.env)) (TP X pins σ Q) X.xe s
noncomputable def PW (X:Cx)(e:Expr)(t:TT):Prop :=
 ∀(whole:Sem Value)(pins:List (Addr×Obj))(s:Shared)(σ:St)(H:Hp)(Q:Bool->Hp->Prop),Inv X pins σ H s->t σ H Q->wpAny (model X.prog X.w) X.A (isTrue e X.env whole) (TP X pins σ Q) X.xe s
theorem PW.pt {X:Cx}{e:Expr}{t:TT}(h:PW X e t):PT X e t:=h _
noncomputable def PA (X:Cx)(es:List Expr)(t:TA):Prop :=
 ∀(pos:Pos)(pins:List (Addr×Obj))(s:Shared)(σ:St)(H:Hp)(Q:List V->Hp->Prop),Inv X pins σ H s->t σ H Q->wpAny (model X.prog X.w) X.A (spliced (backTo pos (starEach es X.env))) (AP X pins σ Q) X.xe s
noncomputable def PS (X:Cx)(st:Stmt)(t:TS):Prop :=
 ∀(pins:List (Addr×Obj))(s:Shared)(σ:St)(H:Hp)(D:Ct),Inv X pins σ H s->t D σ H->wpAny (model X.prog X.w) X.A (exec st X.env) (SP X pins D) X.xe s
noncomputable def PSs (X:Cx)(st:List Stmt)(t:TS):Prop :=
 ∀(pins:List (Addr×Obj))(s:Shared)(σ:St)(H:Hp)(D:Ct),Inv X pins σ H s->t D σ H->wpAny (model X.prog X.w) X.A (execs st X.env) (SP X pins D) X.xe s
theorem Aj {α:Type}{t:Sem α}{Q Q':α->Shared->Prop}{M:Model}{A:Around}{E:Value->Shared->Prop}{s:Shared}(h:wpAny M A t Q E s)(hQ:∀ a s,Q a s->Q' a s):wpAny M A t Q' E s:=Rx h hQ fun _ _ x=>x
section
variable {X:Cx}
noncomputable def N4 (i:Nat):TE:=fun σ H Q=>∃ v,σ[i]?=some (some v)/\Q v H
noncomputable def tC (v:V):TE:=fun _ H Q=>Q v H
theorem Zo9 {i:Nat}{x:Str}{pos:Pos}(hN:X.N[i]?=some x)(hv:Vis X.env.scope x)(hd:(x == ("__debug__" : Str))=false:=by decide)(hcd:(x == ("__classdict__" : Str))=false:=by decide):PE X (.Name x pos) (N4 i):=by
 intro pins s σ H Q I h
 obtain ⟨v,e,h⟩:=h
 obtain ⟨m,hn,hl⟩:=I.loc
 obtain ⟨u,r,l⟩:=hl i x v hN e hv
 have fin:EP X pins σ Q u s:=⟨v,H,I,r,h⟩
 rcases l with ⟨hk,hm⟩ | ⟨hk,c,hc,hcell⟩
 ·exact wpAny_Name (wpAny_loadName_local I.ok.kind hk hn hm fin) hd
 ·rcases hk with hk | hk
  ·exact wpAny_Name (wpAny_loadName_cell I.ok.kind hk hc hcell fin) hd
  ·exact wpAny_Name (wpAny_loadName_free I.ok.kind hk hc hcell fin hcd) hd
theorem Zdb {i j pos}:PE X (.Constant (.int i) j pos) (tC (.int i)):=fun _ _ _ H _ I h=>wpAny_Constant_int ⟨.int i,H,I.tok _,⟨_,rfl⟩,h⟩
theorem Zfp {b j pos}:PE X (.Constant (.bool b) j pos) (tC (.bl b)):=fun _ _ _ H _ I h=>Constant_bool ⟨.bl b,H,I,rfl,h⟩
theorem Zc3 {j pos}:PE X (.Constant .none j pos) (tC .non):=fun _ _ _ H _ I h=>Constant_none ⟨.non,H,I,rfl,h⟩
theorem Zbx {x j pos}:PE X (.Constant (.str x) j pos) (tC (.str x)):=fun _ _ _ H _ I h=>Calls.Constant_str ⟨.str x,H,I.tok _,⟨_,rfl⟩,h⟩
noncomputable def Gl (X:Cx)(x:Str):Prop:=X.env.kindOf x=some .globalImplicit
theorem Zb5 {E:Value->Shared->Prop}{pins:List (Addr×Obj)}{s:Shared}{σ:St}{H:Hp}{x:Str}{u:Value}{pos:Pos}{Q:Value->Shared->Prop}(I:Inv X pins σ H s)(hg:Gl X x)(hm:X.mg x=some u)(h:Q u s)
  (hd:(x == ("__debug__" : Str))=false:=by decide):wpAny (model X.prog X.w) X.A (eval (.Name x pos) X.env) Q E s :=
 Calls.Name_function_global I.ok.kind hg (Calls.loadGlobal_global (by rw [I.ok.glob];exact I.mod.glob.keeps I.bk) hm h) hd
theorem Dj {E:Value->Shared->Prop}{pins:List (Addr×Obj)}{s:Shared}{σ:St}{H:Hp}{x:Str}{u:Value}{pos:Pos}{Q:Value->Shared->Prop}(I:Inv X pins σ H s)(hg:Gl X x)(hm:X.mg x=none)(hv:bootBuiltins x=some u)(h:Q u s)
  (hn:x ≠ "__name__" := by decide) (hd:(x == ("__debug__" : Str))=false:=by decide):wpAny (model X.prog X.w) X.A (eval (.Name x pos) X.env) Q E s:=by
 obtain ⟨mb,h1,h2⟩:=I.mod.blt
 exact Calls.Name_function_global I.ok.kind hg (Calls.loadGlobal_builtin (by rw [I.ok.glob];exact I.mod.glob.keeps I.bk) hm (by rw [I.ok.blt];exact h1.keeps I.bk) ((h2 x hn).trans hv) h) hd
theorem Zj5 {x:Str}{v:V}{u:Value}{pos:Pos}(hg:Gl X x)(hm:X.mg x=some u)(r:RelV v u)(hd:(x == ("__debug__" : Str))=false:=by decide):PE X (.Name x pos) (tC v) :=
 fun _ _ _ H _ I h=>Zb5 I hg hm ⟨v,H,I,r,h⟩ hd
theorem Zhp {x:Str}{v:V}{u:Value}{pos:Pos}(hg:Gl X x)(hm:X.mg x=none)(hv:bootBuiltins x=some u)(r:RelV v u)(hn:x ≠ "__name__" := by decide)(hd:(x == ("__debug__" : Str))=false:=by decide):PE X (.Name x pos) (tC v) :=
 fun _ _ _ H _ I h=>Dj I hg hm hv ⟨v,H,I,r,h⟩ hn hd
variable {a b:Expr}{ta tb:TE}{pos:Pos}
noncomputable def PC (X:Cx)(op:CmpOp)(a b:Expr)(t:TE):Prop :=
 ∀(pins:List (Addr×Obj))(s:Shared)(σ:St)(H:Hp)(Q:VK),Inv X pins σ H s->t σ H Q ->
  wpAny (model X.prog X.w) X.A (eval a X.env) (fun v s₁=>wpAny (model X.prog X.w) X.A (eval b X.env) (fun u s₂=>wpAny (model X.prog X.w) X.A (compareOp op v u) (EP X pins σ Q) X.xe s₂) X.xe s₁) X.xe s
theorem Kz (b:Expr){op:CmpOp}(h:op≠.In)(h2:op≠.NotIn):behindInMarks op b=false:=by
 have e1:(op == CmpOp.In)=false:=by cases op <;> first | rfl | exact absurd rfl h
 have e2:(op == CmpOp.NotIn)=false:=by cases op <;> first | rfl | exact absurd rfl h2
 cases b <;> simp [behindInMarks,e1,e2]
noncomputable def Nk (ta:TE):TE:=fun σ H Q=>ta σ H fun x H1=>Q (.bl (decide (x=.non))) H1
noncomputable def N9 (ta:TE):TE:=fun σ H Q=>ta σ H fun x H1=>Q (.bl (!decide (x=.non))) H1
theorem RelV.none_iff {x:V}{v:Value}(r:RelV x v):(v == Value.none)=decide (x=.non):=by
 cases x with
 | non=>cases r;rfl
 | bl _=>cases r;rfl
 | int _=>obtain ⟨t,rfl⟩:=r;rfl
 | str _=>obtain ⟨t,rfl⟩:=r;rfl
 | byt _=>obtain ⟨t,rfl⟩:=r;rfl
 | flt _=>obtain ⟨t,rfl⟩:=r;rfl
 | ref _=>cases r;rfl
 | ty _=>cases r;rfl
theorem Zi2 {j pos'}(ha:PE X a ta):PC X .Is a (.Constant .none j pos') (Nk ta):=by
 intro pins s σ H Q I h
 refine Aj (ha pins s σ H _ I h) fun v s1 zq=>?_
 obtain ⟨x,H1,I1,r1,q1⟩:=zq
 exact Constant_none (is_none_gen ⟨.bl _,H1,I1,by rw [r1.none_iff];rfl,q1⟩)
theorem Zna {j pos'}(ha:PE X a ta):PC X .IsNot a (.Constant .none j pos') (N9 ta):=by
 intro pins s σ H Q I h
 refine Aj (ha pins s σ H _ I h) fun v s1 zq=>?_
 obtain ⟨x,H1,I1,r1,q1⟩:=zq
 exact Constant_none (isnot_none_gen ⟨.bl _,H1,I1,by rw [r1.none_iff];rfl,q1⟩)
noncomputable def tB (t:TE):TT:=fun σ H Q=>t σ H fun x H1=>∃ c,x=.bl c/\Q c H1
theorem Zoo {op:CmpOp}{t:TE}(h:PC X op a b t)(h1:behindInMarks op b=false:=by first | exact Kz _ (by decide) (by decide) | rfl):PE X (.Compare a [op] [b] pos) t:=fun pins s σ H Q I hw=>wpAny_Compare1 (h pins s σ H Q I hw) h1
theorem Zmu {op:CmpOp}{t:TE}(h:PC X op a b t)(h1:behindInMarks op b=false:=by first | exact Kz _ (by decide) (by decide) | rfl):PT X (.Compare a [op] [b] pos) (tB t):=by
 intro pins s σ H Q I hw
 refine wpAny_isTrue_Compare1 (Aj (h pins s σ H _ I hw) fun v s1 h1=>Aj h1 fun u s2 h2=>Aj h2 fun c s3 zq=>?_) h1
 obtain ⟨x,H1,I1,r1,q1⟩:=zq
 obtain ⟨d,rfl,q⟩:=q1
 cases r1
 exact Q2 ⟨H1,I1,q⟩
theorem Zmp {e:Expr}{t:TE}(h:PE X e t)(he:∀ whole,isTrue e X.env whole=(do let v <- whole;standAt e.pos;holding [v] (truthy v)):=by intro _;rfl):PT X e (tB t):=by
 intro pins s σ H Q I hw
 refine isTrue_plain (Aj (h pins s σ H _ I hw) fun v s1 zq=>?_) (he _)
 obtain ⟨x,H1,I1,r1,q1⟩:=zq
 obtain ⟨d,rfl,q⟩:=q1
 cases r1
 exact Q2 ⟨H1,I1,q⟩
variable {tA tB':TT}{rest:List Expr}
noncomputable def Za7 (t u:TT):TT:=fun σ H Q=>t σ H fun c H1=>if c=true then u σ H1 Q else Q false H1
noncomputable def Mv (t:TT):TT:=fun σ H Q=>t σ H fun c H1=>Q (!c) H1
theorem pw_and1 (ha:PT X a tA):PW X (.BoolOp .And [a] pos) tA:=by
 intro wh pins s σ H Q I h
 refine isTrue_and (Aj (ha pins s σ H Q I h) fun c s1 e=>?_)
 cases c with
 | true=>exact isTrue_and_nil e
 | false=>exact e
theorem pw_and (ha:PT X a tA)(hb:PW X (.BoolOp .And (b::rest) pos) tB'):PW X (.BoolOp .And (a::b::rest) pos) (Za7 tA tB'):=by
 intro wh pins s σ H Q I h
 refine isTrue_and (Aj (ha pins s σ H _ I h) fun c s1 zq=>?_)
 obtain ⟨H1,I1,q1⟩:=zq
 cases c with
 | true=>exact hb wh pins s1 σ H1 Q I1 q1
 | false=>exact ⟨H1,I1,q1⟩
theorem Zp8 (ha:PT X a tA):PT X (.UnaryOp .Not a pos) (Mv tA):=by
 intro pins s σ H Q I h
 exact isTrue_not (ha pins s σ H (fun c H1=>Q (!c) H1) I h)
noncomputable def Za5 (ta tb:TE):TE:=fun σ H Q=>ta σ H fun x H1=>∃ c,x=.bl c/\if c=true then tb σ H1 Q else Q (.bl false) H1
noncomputable def Oh (ta:TE):TE:=fun σ H Q=>ta σ H fun x H1=>∃ c,x=.bl c/\Q (.bl (!c)) H1
theorem Zgc {op}{t:TE}(h:PE X a t):PE X (.BoolOp op [a] pos) t:=fun pins s σ H Q I hw=>BoolOp_one (h pins s σ H Q I hw)
theorem Zmo (ha:PE X a ta)(hb:PE X (.BoolOp .And (b::rest) pos) tb):PE X (.BoolOp .And (a::b::rest) pos) (Za5 ta tb):=by
 intro pins s σ H Q I h
 refine BoolOp_and (Aj (ha pins s σ H _ I h) fun v s1 zq=>?_)
 obtain ⟨x,H1,I1,r1,q1⟩:=zq
 obtain ⟨c,rfl,q1⟩:=q1
 cases r1
 refine Q2 ?_
 cases c with
 | true=>exact hb pins s1 σ H1 Q I1 q1
 | false=>exact ⟨.bl false,H1,I1,rfl,q1⟩
theorem Znp (ha:PE X a ta):PE X (.UnaryOp .Not a pos) (Oh ta):=by
 intro pins s σ H Q I h
 refine UnaryOp_ (Aj (ha pins s σ H _ I h) fun v s1 zq=>?_)
 obtain ⟨x,H1,I1,r1,q1⟩:=zq
 obtain ⟨c,rfl,q1⟩:=q1
 cases r1
 exact not_of (Q2 ⟨.bl (!c),H1,I1,rfl,q1⟩)
noncomputable def tIf (t:TT)(ta tb:TE):TE:=fun σ H Q=>t σ H fun c H1=>if c=true then ta σ H1 Q else tb σ H1 Q
theorem Zm2 {c:Expr}(hc:PT X c tA)(ha:PE X a ta)(hb:PE X b tb):PE X (.IfExp c a b pos) (tIf tA ta tb):=by
 intro pins s σ H Q I h
 refine wpAny_IfExp (Aj (hc pins s σ H _ I h) fun d s1 zq=>?_)
 obtain ⟨H1,I1,q1⟩:=zq
 cases d with
 | true=>exact ha pins s1 σ H1 Q I1 q1
 | false=>exact hb pins s1 σ H1 Q I1 q1
end
noncomputable def SqL (K:Os)(H:Hp)(a:Addr)(xs:List V):Prop :=
 Rd H a (.lst xs) \/
  ∃(o:Obj)(its:Array Value)(n:Nat),K.lookup a=some o/\o.cls=.type "list" /\ o.dict=none/\o.data=.seq its n/\its.size<=sizeLine/\Vals xs its.toList
noncomputable def SqT (K:Os)(H:Hp)(a:Addr)(xs:List V):Prop :=
 Rd H a (.tup xs) \/
  ∃(o:Obj)(its:Array Value)(n:Nat),K.lookup a=some o/\o.cls=.type "tuple" /\ o.data=.seq its n/\its.size<=sizeLine/\Vals xs its.toList
noncomputable def Li:Value->Option V
 | .none=>some .non
 | .bool b=>some (.bl b)
 | .int i _=>some (.int i)
 | .str x _=>some (.str x)
 | .bytes b _=>some (.byt b)
 | .float b _=>some (.flt b)
 | .ref a=>some (.ref a)
 | .type n=>some (.ty n)
 | _=>none
theorem RelV.abs {x:V}{u:Value}(r:RelV x u):Li u=some x:=by
 cases x with
 | non=>cases r;rfl
 | bl _=>cases r;rfl
 | int _=>obtain ⟨t,rfl⟩:=r;rfl
 | str _=>obtain ⟨t,rfl⟩:=r;rfl
 | byt _=>obtain ⟨t,rfl⟩:=r;rfl
 | flt _=>obtain ⟨t,rfl⟩:=r;rfl
 | ref _=>cases r;rfl
 | ty _=>cases r;rfl
theorem RelV.inj {x y:V}{u:Value}(r:RelV x u)(q:RelV y u):x=y:=Pb (r.abs.symm.trans q.abs)
theorem Vals.inj:∀{xs ys:List V}{us:List Value},Vals xs us->Vals ys us->xs=ys
 | _,_,_,.nil,.nil=>rfl
 | _,_,_,.cons r t,.cons r' t'=>by rw [r.inj r',Vals.inj t t']
section
variable {X:Cx}{pins:List (Addr×Obj)}{σ:St}{H:Hp}{s:Shared}{a:Addr}{xs ys:List V}
theorem SqL.of {K:Os}(h:H a=some (.lst xs)):SqL K H a xs:=.inl (.inl h)
theorem SqT.of {K:Os}(h:H a=some (.tup xs)):SqT K H a xs:=.inl (.inl h)
theorem Inv.list (I:Inv X pins σ H s)(h:SqL X.K H a xs):∃ its:List Value,Vals xs its/\PlainL s.heap a its.toArray/\xs.length<=sizeLine:=by
 rcases h with h | ⟨o,its,n,hk,hc,hd,hs,hz,r⟩
 ·obtain ⟨z,its,n,r,e⟩:=h.ok I.hok
  exact ⟨its,r,⟨_,n,e,rfl,rfl,rfl⟩,z⟩
 ·refine ⟨its.toList,r,⟨o,n,I.kIn a o hk,hc,hd,by simpa using hs⟩,?_⟩
  have e:=r.length
  simp only [R3] at e
  omega
theorem Inv.tuple (I:Inv X pins σ H s)(h:SqT X.K H a xs):∃ its:List Value,Vals xs its/\IsTup s.heap a its.toArray/\xs.length<=sizeLine:=by
 rcases h with h | ⟨o,its,n,hk,hc,hs,hz,r⟩
 ·obtain ⟨z,its,r,p⟩:=h.ok I.hok
  exact ⟨its,r,p,z⟩
 ·refine ⟨its.toList,r,⟨o,I.kIn a o hk,hc,n,by simpa using hs⟩,?_⟩
  have e:=r.length
  simp only [R3] at e
  omega
theorem Inv.list_inj (I:Inv X pins σ H s)(h:SqL X.K H a xs)(h':SqL X.K H a ys):xs=ys:=by
 obtain ⟨its,r,⟨o,n,e,_,_,d⟩,_⟩:=I.list h
 obtain ⟨its',r',⟨o',n',e',_,_,d'⟩,_⟩:=I.list h'
 rw [e] at e';cases e'
 rw [d] at d'
 injection d' with d1 _
 have:its=its':=by simpa using congrArg Array.toList d1
 subst this
 exact r.inj r'
theorem Inv.tuple_inj (I:Inv X pins σ H s)(h:SqT X.K H a xs)(h':SqT X.K H a ys):xs=ys:=by
 obtain ⟨its,r,⟨o,e,_,n,d⟩,_⟩:=I.tuple h
 obtain ⟨its',r',⟨o',e',_,n',d'⟩,_⟩:=I.tuple h'
 rw [e] at e';cases e'
 rw [d] at d'
 injection d' with d1 _
 have:its=its':=by simpa using congrArg Array.toList d1
 subst this
 exact r.inj r'
end
noncomputable abbrev Cx.wish (X:Cx)(E:Value->Shared->Prop):Cx:={ X with xe:=E }
noncomputable abbrev Cx.nox (X:Cx):Cx:=X.wish fun _ _=>False
theorem Cx.Ok.wish {X:Cx}(ok:X.Ok)(E:Value->Shared->Prop):(X.wish E).Ok :=
 ⟨ok.mod,ok.kind,ok.glob,ok.blt,ok.above,ok.inj,ok.has,ok.cab,ok.hd,ok.frames,ok.stk,ok.exf,ok.bs,ok.bsz,ok.noex,ok.exfs,ok.funs,ok.frf⟩
theorem Cx.Ok.unwish {X:Cx}{E:Value->Shared->Prop}(ok:(X.wish E).Ok):X.Ok :=
 ⟨ok.mod,ok.kind,ok.glob,ok.blt,ok.above,ok.inj,ok.has,ok.cab,ok.hd,ok.frames,ok.stk,ok.exf,ok.bs,ok.bsz,ok.noex,ok.exfs,ok.funs,ok.frf⟩
section
variable {X:Cx}{pins:List (Addr×Obj)}{σ:St}{H:Hp}{s:Shared}{E:Value->Shared->Prop}
theorem Inv.wish (I:Inv X pins σ H s)(E:Value->Shared->Prop):Inv (X.wish E) pins σ H s:=⟨I.ok.wish E,I.os,I.bare,I.base,I.loc,I.cell,I.free,I.freeC,I.pin,I.hok,I.len⟩
theorem Inv.unwish (I:Inv (X.wish E) pins σ H s):Inv X pins σ H s:=⟨I.ok.unwish,I.os,I.bare,I.base,I.loc,I.cell,I.free,I.freeC,I.pin,I.hok,I.len⟩
theorem SP.unwish {D:Ct}{f:Flow}{s':Shared}(h:SP (X.wish E) pins D f s'):SP X pins D f s':=by
 cases f with
 | next=>obtain ⟨σ',H',I,q⟩:=h;exact ⟨σ',H',I.unwish,q⟩
 | brk=>obtain ⟨σ',H',I,q⟩:=h;exact ⟨σ',H',I.unwish,q⟩
 | cont=>obtain ⟨σ',H',I,q⟩:=h;exact ⟨σ',H',I.unwish,q⟩
 | ret u=>obtain ⟨v,σ',H',I,r,q⟩:=h;exact ⟨v,σ',H',I.unwish,r,q⟩
theorem PSs.nox {st:List Stmt}{t:TS}(h:PSs X.nox st t):PSs X st t:=fun pins s σ H D I hw =>
 Rx (h pins s σ H D (I.wish _) hw) (fun _ _ q=>q.unwish) fun _ _ z=>Qm z
end
section
variable {X:Cx}{st:Stmt}{rest:List Stmt}{t u:TS}{e:Expr}{te:TE}{pos:Pos}
noncomputable def Za1:TS:=fun D σ H=>D.nx σ H
noncomputable def Zay (t u:TS):TS:=fun D σ H=>t { D with nx:=u D } σ H
theorem Zf4:PSs X [] Za1:=fun _ _ σ H _ I h=>To ⟨σ,H,I,h⟩
theorem Zn8 (h1:PS X st t)(h2:PSs X rest u):PSs X (st::rest) (Zay t u):=by
 intro pins s σ H D I h
 refine wpAny_execs_cons (Aj (h1 pins s σ H { D with nx:=u D } I h) fun f s1 q=>?_)
 cases f with
 | next =>
  obtain ⟨σ',H',I',q⟩:=q
  exact h2 pins s1 σ' H' D I' q
 | ret v=>exact q
 | brk=>exact q
 | cont=>exact q
theorem Zkp (h1:PS X st t):PSs X [st] t:=by
 intro pins s σ H D I h
 refine wpAny_execs_cons (Aj (h1 pins s σ H D I h) fun f s1 q=>?_)
 cases f with
 | next=>exact To q
 | ret v=>exact q
 | brk=>exact q
 | cont=>exact q
noncomputable def Zeh:TS:=fun D σ H=>D.ct σ H
theorem Znh:PS X (.Continue pos) Zeh:=fun _ _ σ H _ I h=>wpAny_Continue ⟨σ,H,I,h⟩
theorem Inv.quiet {pins:List (Addr×Obj)}{σ:St}{H:Hp}{s:Shared}(I:Inv X pins σ H s):interactive X.env=false:=by simp [interactive,I.ok.kind]
noncomputable def Zbc (te:TE):TS:=fun D σ H=>te σ H fun _ H1=>D.nx σ H1
theorem Zjg (he:PE X e te)(hs:swapsWith e none pos.line X.env=pure false:=by rfl):PS X (.Expr e pos) (Zbc te):=by
 intro pins s σ H D I h
 exact wpAny_Expr_any (Aj (he pins s σ H _ I h) fun v s1 ⟨x,H1,I1,r1,q1⟩=>⟨σ,H1,I1,q1⟩) I.quiet hs
noncomputable def Nh (te:TE):TS:=fun D σ H=>te σ H D.rt
theorem Zns (he:PE X e te):PS X (.Return (some e) pos) (Nh te):=by
 intro pins s σ H D I h
 exact wpAny_Return_some (Aj (he pins s σ H _ I h) fun v s1 ⟨x,H1,I1,r1,q1⟩=>⟨x,σ,H1,I1,r1,q1⟩)
noncomputable def Nj (c:TT)(t u:TS):TS:=fun D σ H=>c σ H fun b H1=>if b=true then t D σ H1 else u D σ H1
theorem Zkl {c:Expr}{a b:List Stmt}{tc:TT}(hc:PT X c tc)(ha:PSs X a t)(hb:PSs X b u):PS X (.If c a b pos) (Nj tc t u):=by
 intro pins s σ H D I h
 refine wpAny_If (Aj (hc pins s σ H _ I h) fun d s1 zq=>?_)
 obtain ⟨H1,I1,q1⟩:=zq
 cases d with
 | true=>exact ha pins s1 σ H1 D I1 q1
 | false=>exact hb pins s1 σ H1 D I1 q1
end
noncomputable abbrev TG:=V->St->Hp->(St->Hp->Prop)->Prop
noncomputable abbrev Dp:=List V->St->Hp->(St->Hp->Prop)->Prop
noncomputable def PG (X:Cx)(target:Expr)(t:TG):Prop :=
 ∀(pins:List (Addr×Obj))(s:Shared)(σ:St)(H:Hp)(v:V)(u:Value)(Q:St->Hp->Prop),Inv X pins σ H s->RelV v u->t v σ H Q ->
  wpAny (model X.prog X.w) X.A (assign target X.env u) (fun _ s'=>∃ σ' H',Inv X pins σ' H' s'/\Q σ' H') X.xe s
noncomputable def PGs (X:Cx)(ts:List Expr)(t:Dp):Prop :=
 ∀(pins:List (Addr×Obj))(s:Shared)(σ:St)(H:Hp)(vs:List V)(us:List Value)(Q:St->Hp->Prop),Inv X pins σ H s->Vals vs us->t vs σ H Q ->
  wpAny (model X.prog X.w) X.A (assignInOrder ((assignEach ts X.env).map (·.2)) us) (fun _ s'=>∃ σ' H',Inv X pins σ' H' s'/\Q σ' H') X.xe s
noncomputable abbrev Iy:=V->V->V->Hp->(Hp->Prop)->Prop
noncomputable def Zar (X:Cx)(t:Iy):Prop :=
 ∀(pins:List (Addr×Obj))(s:Shared)(σ:St)(H:Hp)(o i v:V)(ov iv u:Value)(Q:Hp->Prop),Inv X pins σ H s->RelV o ov->RelV i iv->RelV v u->t o i v H Q ->
  wpAny (model X.prog X.w) X.A (setItem ov iv u) (fun _ s'=>∃ H',Inv X pins σ H' s'/\Q H') X.xe s
noncomputable abbrev G7:=V->V->Hp->VK->Prop
noncomputable def PIp (X:Cx)(op:Operator)(t:G7):Prop :=
 ∀(pins:List (Addr×Obj))(s:Shared)(σ:St)(H:Hp)(x y:V)(v u:Value)(Q:VK),Inv X pins σ H s->RelV x v->RelV y u->t x y H Q ->
  wpAny (model X.prog X.w) X.A (inplaceOp op v u) (EP X pins σ Q) X.xe s
section
variable {X:Cx}{pos:Pos}
noncomputable def E5 (i:Nat):TG:=fun v σ H Q=>Q (σ.set i (some v)) H
theorem Zjh {i:Nat}{x:Str}(hN:X.N.Nodup)(hi:X.N[i]?=some x)(hx:Dw X.env.scope x)(hf:X.fn x=true\/X.env.scope.names.lookup x=some .local:=by first | exact .inl rfl | exact .inr rfl | assumption):PG X (.Name x pos) (E5 i):=by
 intro pins s σ H v u Q I r h
 exact wpAny_assign_Name (Iu I hN hi hx r (fun s' I'=>⟨_,H,I',h⟩) hf)
noncomputable def Mr:Dp:=fun vs σ H Q=>vs=[]/\Q σ H
noncomputable def Oe (t:TG)(u:Dp):Dp:=fun vs σ H Q=>∃ v r,vs=v::r/\t v σ H fun σ' H'=>u r σ' H' Q
theorem Zj9:PGs X [] Mr:=by
 intro pins s σ H vs us Q I r h
 obtain ⟨e,h⟩:=h
 subst e
 cases r
 exact assignInOrder_nil ⟨σ,H,I,h⟩
theorem Zk4 {e:Expr}{es:List Expr}{t:TG}{u:Dp}(h1:PG X e t)(h2:PGs X es u)
  (hs:(assignEach (e::es) X.env).map (·.2)=assign e X.env::(assignEach es X.env).map (·.2):=by rfl):PGs X (e::es) (Oe t u):=by
 intro pins s σ H vs us Q I r h
 obtain ⟨v,vr,e1,h⟩:=h
 subst e1
 cases r with
 | cons r rr =>
  rw [hs]
  refine Uq (Aj (h1 pins s σ H _ _ _ I r h) fun _ s1 zq=>?_)
  obtain ⟨σ1,H1,I1,q1⟩:=zq
  exact h2 pins s1 σ1 H1 _ _ Q I1 rr q1
noncomputable def Ls (K:Os)(n:Nat)(t:Dp):TG:=fun v σ H Q=>∃ a xs,v=.ref a/\SqT K H a xs/\xs.length=n/\t xs σ H Q
theorem Zme {es:List Expr}{k:Nat}{t:Dp}{n:Nat}(hc:X.calm=true)(h:PGs X es t)
  (hn:(assignEach es X.env).length=n:=by rfl) (hst:(assignEach es X.env).findIdx? (·.1)=none:=by rfl):PG X (.Tuple es k pos) (Ls X.K n t):=by
 intro pins s σ H v u Q I r hw
 obtain ⟨a,xs,e1,hq,hl,hw⟩:=hw
 subst e1
 cases r
 obtain ⟨its,rv,ht,hz⟩:=I.tuple hq
 refine assign_Tuple_tuple (I.ok.hd hc) ht (by simp [hn,<- hl,rv.length]) hst fun h' hx=>?_
 have I1:Inv X pins σ H { s with heap:=h' }:=I.kept (t':=s.toks) fun b o e=>hx b o (O5 (Oy e)) e
 exact h pins _ σ H xs _ Q I1 (by simpa using rv) hw
noncomputable def Oj (to ti:TE)(t:Iy):TG:=fun v σ H Q=>to σ H fun o H1=>ti σ H1 fun i H2=>t o i v H2 fun H3=>Q σ H3
theorem Zpx {o i:Expr}{to ti:TE}{t:Iy}(ho:PE X o to)(hi:PE X i ti)(hs:Zar X t)
  (ha:∀ v,assign (.Subscript o i pos) X.env v=(do
   let ov <- holding [v] (eval o X.env)
   let iv <- holding [v,ov] (eval i X.env)
   standAt pos
   holding [v,ov,iv] (setItem ov iv v)
   release [v,ov,iv] []):=by intro _;rfl):PG X (.Subscript o i pos) (Oj to ti t):=by
 intro pins s σ H v u Q I r h
 rw [ha]
 refine Ot (Pw (Aj (ho pins s σ H _ I h) fun ov s1 zq=>?_))
 obtain ⟨x,H1,I1,r1,q1⟩:=zq
 refine Ot (Pw (Aj (hi pins s1 σ H1 _ I1 q1) fun iv s2 zq=>?_))
 obtain ⟨y,H2,I2,r2,q2⟩:=zq
 refine Ot (Sg (Ot (Pw (Aj (hs pins s2 σ H2 x y v ov iv u _ I2 r1 r2 r q2) fun _ s3 zq=>?_))))
 obtain ⟨H3,I3,q3⟩:=zq
 exact wpAny_release ⟨σ,H3,I3,q3⟩
noncomputable def Ff (te:TE)(g:TG):TS:=fun D σ H=>te σ H fun x H1=>g x σ H1 D.nx
theorem Zou {tg e:Expr}{te:TE}{g:TG}(he:PE X e te)(hg:PG X tg g)(hs:swapsWithSole [tg] e pos.line X.env=pure false:=by rfl)(hw:swappedStores [tg] e X.env=pure none:=by rfl)
  (h1:(assignEach [tg] X.env).map (·.2)=[assign tg X.env]:=by rfl):PS X (.Assign [tg] e pos) (Ff te g):=by
 intro pins s σ H D I h
 refine wpAny_Assign_stores (Aj (he pins s σ H _ I h) fun v s1 zq=>?_) hs hw
 obtain ⟨x,H1,I1,r1,q1⟩:=zq
 rw [h1]
 exact Aj (hg pins s1 σ H1 x v _ I1 r1 q1) fun _ s2 q=>q
theorem Zkd {i:Nat}{x:Str}{e:Expr}{te:TE}{pos':Pos}(hN:X.N.Nodup)(hi:X.N[i]?=some x)(hx:Dw X.env.scope x)(he:PE X e te)(hs:swapsWith e (some (.Name x pos')) pos.line X.env=pure false:=by rfl)(hf:X.fn x=true\/X.env.scope.names.lookup x=some .local:=by first | exact .inl rfl | exact .inr rfl | assumption) :
  PS X (.Assign [.Name x pos'] e pos) (Ff te (E5 i)):=by
 intro pins s σ H D I h
 refine wpAny_Assign_Name (Aj (he pins s σ H _ I h) fun v s1 zq=>?_) hs
 obtain ⟨y,H1,I1,r1,q1⟩:=zq
 exact Iu I1 hN hi hx r1 (fun s2 I2=>⟨_,H1,I2,q1⟩) hf
noncomputable def Za3 (i j:Nat)(ta:TA):TS:=fun D σ H=>ta σ H fun vs H1=>∃ v w,vs=[v,w]/\D.nx ((σ.set i (some v)).set j (some w)) H1
theorem Zo0 {i j:Nat}{x y:Str}{a b:Expr}{ta:TA}{px py pt:Pos}{kt k2 pt2}(hc:X.calm=true)(hN:X.N.Nodup)(hi:X.N[i]?=some x)(hj:X.N[j]?=some y)(hij:i≠j)
  (hx:X.env.scope.names.lookup x=some .local) (hy:X.env.scope.names.lookup y=some .local) (ha:PA X [a,b] ta)
  (hw:swappedStores [.Tuple [.Name x px,.Name y py] kt pt] (.Tuple [a,b] k2 pt2) X.env=pure (some [x,y]))
  (hs:swapsWithSole [.Tuple [.Name x px,.Name y py] kt pt] (.Tuple [a,b] k2 pt2) pos.line X.env=pure false:=by rfl) :
  PS X (.Assign [.Tuple [.Name x px,.Name y py] kt pt] (.Tuple [a,b] k2 pt2) pos) (Za3 i j ta):=by
 intro pins s σ H D I h
 rw [exec_Assign_arm]
 refine Ot (Sg ?_)
 rw [hs]
 refine Ot (Ov ?_)
 rw [if_neg (by decide)]
 refine Ot (Tuple_ (Aj (ha _ pins s σ H _ I h) fun us s1 zq=>?_))
 obtain ⟨vs,H1,I1,r1,q1⟩:=zq
 obtain ⟨v,w,e1,q1⟩:=q1
 subst e1
 obtain ⟨u1,u2,rfl,rv,rw'⟩:∃ u1 u2,us=[u1,u2]/\RelV v u1/\RelV w u2:=by
  cases r1 with
  | cons p q =>
   cases q with
   | cons p' q' =>
    cases q'
    exact ⟨_,_,rfl,p,p'⟩
 refine Qr ?_ (by show 2<=sizeLine;decide)
 have I2:Inv X pins σ H1 { s1 with heap:=s1.heap.push { cls:=.type "tuple",data:=.seq [u1,u2].toArray } }:=I1.kept (t':=s1.toks) fun b o e=>Oz _ e
 rw [hw]
 refine Ot (Ov ?_)
 show wpAny (model X.prog X.w) X.A (do rule "assign.swapped-stores";let items <- unpackItems (.ref s1.heap.objs.size) 2 none;assignInOrder [fun v=>bindName X.env y v,fun v=>bindName X.env x v] items.reverse;pure Flow.next) _ _ _
 refine Ot (Q9 (Ot (unpackItems_tuple (items:=#[u1,u2]) (I.ok.hd hc) (IsTup.new s1.heap _) fun h' hx'=>?_)))
 have I3:=I2.kept (h':=h') (t':=s1.toks) fun b o e=>hx' b o (O5 (Oy e)) e
 show wpAny _ _ (assignInOrder [fun v=>bindName X.env y v,fun v=>bindName X.env x v] [u2,u1] >>= fun _=>pure Flow.next) _ _ _
 refine Ot (Uq (wpAny_bindName (Iu I3 hN hj (.inl hy) rw' (fun s2 I4=>?_) (.inr hy))))
 refine Uq (wpAny_bindName (Iu I4 hN hi (.inl hx) rv (fun s3 I5=>assignInOrder_nil (Ov ?_)) (.inr hx)))
 rw [List.set_comm _ _ (Pj hij)] at I5
 exact ⟨_,H1,I5,q1⟩
noncomputable def Oa (i:Nat)(te:TE)(ti:G7):TS:=fun D σ H=>∃ x,σ[i]?=some (some x)/\te σ H fun y H1=>ti x y H1 fun z H2=>D.nx (σ.set i (some z)) H2
theorem Zp1 {i:Nat}{x:Str}{e:Expr}{te:TE}{op:Operator}{ti:G7}{pos':Pos}(hN:X.N.Nodup)(hi:X.N[i]?=some x)(hx:Dw X.env.scope x)(he:PE X e te)(ho:PIp X op ti)(hf:X.fn x=true\/X.env.scope.names.lookup x=some .local:=by first | exact .inl rfl | exact .inr rfl | assumption) :
  PS X (.AugAssign (.Name x pos') op e pos) (Oa i te ti):=by
 intro pins s σ H D I h
 obtain ⟨v,e1,h⟩:=h
 obtain ⟨m,hn,hl⟩:=I.loc
 have vis:Vis X.env.scope x:=by rcases hx with k | k;exact .inl k;exact .inr (.inl k)
 obtain ⟨u,r,l⟩:=hl i x v hi e1 vis
 refine wpAny_AugAssign_Name ?_
 have go:wpAny (model X.prog X.w) X.A (eval e X.env) (fun w s₂=>wpAny (model X.prog X.w) X.A (inplaceOp op u w) (fun r s₃=>wpAny (model X.prog X.w) X.A (storeName X.env x r) (fun _=>SP X pins D .next) X.xe s₃) X.xe s₂) X.xe s:=by
  refine Aj (he pins s σ H _ I h) fun w s1 zq=>?_
  obtain ⟨y,H1,I1,r1,q1⟩:=zq
  refine Aj (ho pins s1 σ H1 v y u w _ I1 r r1 q1) fun z s2 zq=>?_
  obtain ⟨zv,H2,I2,r2,q2⟩:=zq
  exact Iu I2 hN hi hx r2 (fun s3 I3=>⟨_,H2,I3,q2⟩) hf
 rcases l with ⟨hk,hm⟩ | ⟨hk,c,hc,hcell⟩
 ·exact wpAny_loadName_local I.ok.kind hk hn hm go
 ·rcases hk with hk | hk
  ·exact wpAny_loadName_cell I.ok.kind hk hc hcell go
  ·rcases hx with k | k
   ·have:X.env.scope.names.lookup x=some .free:=hk
    rw [k] at this;cases this
   ·have:X.env.scope.names.lookup x=some .free:=hk
    rw [k] at this;cases this
noncomputable def ipI (f:Int->Int->Int):G7:=fun x y H Q=>∃ i j,x=.int i/\y=.int j/\Q (.int (f i j)) H
theorem Zj3:PIp X .Add (ipI fun i j=>i+j):=by
 intro pins s σ H x y v u Q I r1 r2 h
 obtain ⟨i,j,e1,e2,q⟩:=h
 subst e1;subst e2
 obtain ⟨t,rfl⟩:=r1
 obtain ⟨t',rfl⟩:=r2
 exact iadd_int ⟨.int _,H,I.tok _,⟨_,rfl⟩,q⟩
end
section
variable {X:Cx}{pos:Pos}
noncomputable def Zdg (c:TT)(tb:TS):TS:=fun D σ H=>∃ W:Nat->St->Hp->Prop,(∃ m,W m σ H)/\∀ m σ H,W m σ H ->
 c σ H fun b H1=>if b=true then ∃ N:St->Hp->Prop,(∀ σ' H',N σ' H'->∃ m',m' < m/\W m' σ' H')/\tb { D with nx:=N,ct:=N,bk:=D.nx } σ H1 else D.nx σ H1
theorem Zls {c:Expr}{body:List Stmt}{tc:TT}{tb:TS}(hp:PassesOwn (model X.prog X.w) X.A X.env X.xe)(hc:PT X c tc)(hb:PSs X body tb):PS X (.While c body [] pos) (Zdg tc tb):=by
 intro pins s σ H D I h
 obtain ⟨W,⟨m0,w0⟩,turn⟩:=h
 refine wpAny_While (codeAny_whileLoop (fun n s'=>∃ σ' H',Inv X pins σ' H' s'/\W n σ' H') ?_ m0 ⟨σ,H,I,w0⟩)
 rintro n s1 ⟨σ1,H1,I1,w1⟩
 refine Q5 hp (Aj (hc pins s1 σ1 H1 _ I1 (turn n σ1 H1 w1)) fun b s2 zq=>?_)
 obtain ⟨H2,I2,q2⟩:=zq
 cases b with
 | true =>
  obtain ⟨N,hN,q2⟩:=q2
  rw [if_pos rfl]
  refine Q5 hp (Aj (hb pins s2 σ1 H2 _ I2 q2) fun f s3 q3=>?_)
  cases f with
  | next =>
   obtain ⟨σ3,H3,I3,n3⟩:=q3
   obtain ⟨m',hm,w3⟩:=hN σ3 H3 n3
   exact ⟨m',hm,σ3,H3,I3,w3⟩
  | cont =>
   obtain ⟨σ3,H3,I3,n3⟩:=q3
   obtain ⟨m',hm,w3⟩:=hN σ3 H3 n3
   exact ⟨m',hm,σ3,H3,I3,w3⟩
  | brk=>exact q3
  | ret v=>exact q3
 | false =>
  rw [if_neg O6]
  exact To ⟨σ1,H2,I2,q2⟩
end
structure It where
 go:Nat->Hp->Prop
 yld:Nat->Hp->V->Hp->Prop
 stop:Nat->Hp->Prop
noncomputable def FpOk (X:Cx)(pins:List (Addr×Obj))(H:Hp)(b:Addr):Prop :=
 H b=none/\b≠X.env.locals/\b ∉ X.fs/\(b∈X.ex\/X.s₀.heap.objs.size<=b)/\(∀ x c,X.env.cells.lookup x=some c->c≠b)/\∀ p∈X.pn++pins,p.1≠b
theorem Inv.fpOk {X:Cx}{pins:List (Addr×Obj)}{σ:St}{H H':Hp}{s:Shared}{b:Addr}(I:Inv X pins σ H s)(hb:s.heap.objs.size<=b)(hn:H' b=none):FpOk X pins H' b:=by
 refine ⟨hn,P0 (Pd I.lt hb),I.nofs hb,.inr (Pm I.sz hb),fun x c e z=>?_,fun p hp z=>?_⟩
 ·obtain ⟨v,q⟩:=I.cell x c e
  exact absurd (Pd q.lt (by rw [z];exact hb)) (P5 _)
 ·exact absurd (Pd (Oy (I.pin p hp).1) (by rw [z];exact hb)) (P5 _)
structure En (P:Program)(w:World)(K:Os)(tg:Expr)(J:It)(fp:List Addr)(it:Addr)(tn:Nat->Heap->Prop):Prop where
 mem:it∈fp
 obj:∀ i h,tn i h->∀ b∈fp,∃ o,h.get? b=some o/\∀ v,o.data≠.cell v
 keep:∀ i h h',tn i h->(∀ b∈fp,∀ o,h.get? b=some o->h'.get? b=some o)->tn i h'
 item:∀(X:Cx),X.prog=P->X.w=w->X.K=K->X.calm=true->∀(i:Nat)(pins:List (Addr×Obj))(s:Shared)(σ:St)(H:Hp)(E:Value->Shared->Prop),Inv X pins σ H s->(∀ b∈fp,FpOk X pins H b)->tn i s.heap->J.go i H ->
  wpAny (model P w) X.A (pyNext (.ref it)) (fun r s1=>∃ u,r=some u /\
   wpAny (model P w) X.A (letOwnedTupleGo tg (.ref it) u) (fun _ s2=>∃ x H',Inv X pins σ H' s2/\RelV x u/\J.yld i H x H'/\tn (i+1) s2.heap/\∀ b∈fp,H' b=none) E s1) E s
 done:∀(X:Cx),X.prog=P->X.w=w->X.K=K->X.calm=true->∀(i:Nat)(pins:List (Addr×Obj))(s:Shared)(σ:St)(H:Hp)(E:Value->Shared->Prop),Inv X pins σ H s->(∀ b∈fp,FpOk X pins H b)->tn i s.heap->J.stop i H ->
  wpAny (model P w) X.A (pyNext (.ref it)) (fun r s1=>r=none/\Inv X pins σ H s1) E s
 self:∀(A:Around)(i:Nat)(s:Shared)(Q:Value->Shared->Prop)(E:Value->Shared->Prop),tn i s.heap->Q (.ref it) s->wpAny (model P w) A (pyIter (.ref it)) Q E s
noncomputable abbrev TI:=St->Hp->(It->Hp->Prop)->Prop
noncomputable def PIE (X:Cx)(pins:List (Addr×Obj))(σ:St)(tg:Expr)(R:It->Hp->Prop)(itv:Value)(s2:Shared):Prop :=
 ∃(it:Addr)(fp:List Addr)(tn:Nat->Heap->Prop)(J:It)(H':Hp),itv=.ref it/\Inv X pins σ H' s2/\En X.prog X.w X.K tg J fp it tn/\tn 0 s2.heap/\(∀ b∈fp,FpOk X pins H' b)/\R J H'
noncomputable def PI (X:Cx)(tg iter:Expr)(wi:TI):Prop :=
 ∀(pins:List (Addr×Obj))(s:Shared)(σ:St)(H:Hp)(R:It->Hp->Prop),Inv X pins σ H s->wi σ H R ->
  wpAny (model X.prog X.w) X.A (eval iter X.env) (fun v s1=>wpAny (model X.prog X.w) X.A (pyIter v) (PIE X pins σ tg R) X.xe s1) X.xe s
theorem Jh {M:Model}{A:Around}{E:Value->Shared->Prop}{s:Shared}{tg:Expr}{it:Addr}{u:Value}{o:Obj}{n:String}{vs:Array Value}{Q:Unit->Shared->Prop}(ho:s.heap.get? it=some o)(hc:o.cls=.type n)(hd:o.data=.fields vs)
  (hn:["enumerate", "zip", "dict_itemiterator", "dict_reverseitemiterator", "odict_iterator", "itertools.zip_longest", "itertools.pairwise"].contains n=false) (hQ:Q () s):wpAny M A (letOwnedTupleGo tg (.ref it) u) Q E s:=by
 unfold letOwnedTupleGo
 cases tg <;> first
  | exact Ov hQ
  | (cases u <;> first
    | exact Ov hQ
    | (refine Ot (wpAny_load ho ?_)
       rw [hc,hd]
       show wpAny M A (if (["enumerate", "zip", "dict_itemiterator", "dict_reverseitemiterator", "odict_iterator", "itertools.zip_longest", "itertools.pairwise"].contains n && vs[0]? == some (rawInt _))=true then _ else _) Q E s
       rw [if_neg (by intro h;rw [hn,Bool.false_and] at h;cases h)]
       exact Ov hQ))
noncomputable def Fx (K:Os)(a:Addr):It :=
 ⟨fun i H=>∃ xs x,SqL K H a xs/\xs[i]?=some x,fun i H x H'=>H'=H/\∀ xs,SqL K H a xs->xs[i]?=some x,fun i H=>∃ xs,SqL K H a xs/\xs.length<=i⟩
noncomputable def F9 (K:Os)(a:Addr):It :=
 ⟨fun i H=>∃ xs x,SqT K H a xs/\xs[i]?=some x,fun i H x H'=>H'=H/\∀ xs,SqT K H a xs->xs[i]?=some x,fun i H=>∃ xs,SqT K H a xs/\xs.length<=i⟩
noncomputable def Fc (lo:Int)(n:Nat):It:=⟨fun i _=>i < n,fun i H x H'=>H'=H/\x=.int (lo+i),fun i _=>n<=i⟩
theorem Zjp {P:Program}{w:World}{K:Os}{tg:Expr}(a it:Addr):En P w K tg (Fx K a) [it] it (fun i h=>h.IsListIter it a i) where
 mem:=by simp
 obj:=fun i h st b hb=>by
  have e:b=it:=by simpa using hb
  subst e
  obtain ⟨o,e,c,d⟩:=st
  exact ⟨o,e,fun v z=>by rw [d] at z;cases z⟩
 keep:=fun i h h' st k=>st.at fun o e=>k it (by simp) o e
 item:=by
  intro X hP hw hK hc i pins s σ H E I hf st hg
  subst hP hw hK
  obtain ⟨xs,x,hq,hx⟩:=hg
  obtain ⟨its,rv,p,hz⟩:=I.list hq
  obtain ⟨u,hu,ru⟩:=rv.get hx
  obtain ⟨f0,f1,f2,f3,f4,f5⟩:=hf it (by simp)
  refine wpAny_pyNext_list_item st p.isList (x:=u) (by simpa using hu) fun h' st' sb=>?_
  have I1:Inv X pins σ H { s with heap:=h' }:=I.turned (t':=s.toks) (fun b o hb e=>(sb.2 b hb).trans e) f0 f1 f3 f4 f5
  obtain ⟨o,e,c,d⟩:=id st'
  exact ⟨u,rfl,Jh (s:={ s with heap:=h' }) e c d (by decide) ⟨x,H,I1,ru,⟨rfl,fun ys hy=>by rw [I.list_inj hy hq];exact hx⟩,st',fun b hb=>(hf b hb).1⟩⟩
 done:=by
  intro X hP hw hK hc i pins s σ H E I hf st hg
  subst hP hw hK
  obtain ⟨xs,hq,hx⟩:=hg
  obtain ⟨its,rv,p,hz⟩:=I.list hq
  obtain ⟨f0,f1,f2,f3,f4,f5⟩:=hf it (by simp)
  have hl:=rv.length
  exact wpAny_pyNext_list_end (I.ok.hd hc) st p.isList (by simp;omega) fun h' eb=>⟨rfl,I.turned (t':=s.toks) (fun b o hb e=>eb b o hb e) f0 f1 f3 f4 f5⟩
 self:=fun _ _ _ _ _ st h=>wpAny_pyIter_listiter st h
theorem Zo5 {P:Program}{w:World}{K:Os}{tg:Expr}(a it:Addr):En P w K tg (F9 K a) [it] it (fun i h=>h.IsTupleIter it a i) where
 mem:=by simp
 obj:=fun i h st b hb=>by
  have e:b=it:=by simpa using hb
  subst e
  obtain ⟨o,e,c,d⟩:=st
  exact ⟨o,e,fun v z=>by rw [d] at z;cases z⟩
 keep:=fun i h h' st k=>st.at fun o e=>k it (by simp) o e
 item:=by
  intro X hP hw hK hc i pins s σ H E I hf st hg
  subst hP hw hK
  obtain ⟨xs,x,hq,hx⟩:=hg
  obtain ⟨its,rv,p,hz⟩:=I.tuple hq
  obtain ⟨u,hu,ru⟩:=rv.get hx
  obtain ⟨f0,f1,f2,f3,f4,f5⟩:=hf it (by simp)
  refine wpAny_pyNext_tuple_item st (show s.heap.IsTuple a its.toArray from p) (x:=u) (by simpa using hu) fun h' st' sb=>?_
  have I1:Inv X pins σ H { s with heap:=h' }:=I.turned (t':=s.toks) (fun b o hb e=>(sb.2 b hb).trans e) f0 f1 f3 f4 f5
  obtain ⟨o,e,c,d⟩:=id st'
  exact ⟨u,rfl,Jh (s:={ s with heap:=h' }) e c d (by decide) ⟨x,H,I1,ru,⟨rfl,fun ys hy=>by rw [I.tuple_inj hy hq];exact hx⟩,st',fun b hb=>(hf b hb).1⟩⟩
 done:=by
  intro X hP hw hK hc i pins s σ H E I hf st hg
  subst hP hw hK
  obtain ⟨xs,hq,hx⟩:=hg
  obtain ⟨its,rv,p,hz⟩:=I.tuple hq
  obtain ⟨f0,f1,f2,f3,f4,f5⟩:=hf it (by simp)
  have hl:=rv.length
  exact wpAny_pyNext_tuple_end (I.ok.hd hc) st (show s.heap.IsTuple a its.toArray from p) (by simp;omega) fun h' eb=>⟨rfl,I.turned (t':=s.toks) (fun b o hb e=>eb b o hb e) f0 f1 f3 f4 f5⟩
 self:=fun _ _ _ _ _ st h=>wpAny_pyIter_tupleiter st h
theorem Zkv {P:Program}{w:World}{K:Os}{tg:Expr}(it:Addr)(lo:Int)(n:Nat):En P w K tg (Fc lo n) [it] it (fun i h=>IsRangeIter h it (lo+(i:Nat) * 1) ((n:Int) - (i:Nat)) 1) where
 mem:=by simp
 obj:=fun i h st b hb=>by
  have e:b=it:=by simpa using hb
  subst e
  exact ⟨_,st,fun v z=>by
   have z':Data.fields _=Data.cell v:=z
   cases z'⟩
 keep:=fun i h h' st k=>k it (by simp) _ st
 item:=by
  intro X hP hw hK hc i pins s σ H E I hf st hg
  subst hP hw hK
  obtain ⟨f0,f1,f2,f3,f4,f5⟩:=hf it (by simp)
  have W:=Walks.range (prog:=X.prog) (w:=X.w) (I.ok.hd hc) it lo 1 n
  refine W.item i s _ _ hg st fun v h' tk hv st' kk=>?_
  obtain ⟨t,rfl⟩:=hv
  have I1:Inv X pins σ H { s with heap:=h',toks:=tk }:=I.turned (fun b o hb e=>kk b o (by simpa using hb) e) f0 f1 f3 f4 f5
  refine ⟨_,rfl,Jh (s:={ s with heap:=h',toks:=tk }) (n := "range_iterator") st' rfl rfl (by decide) ⟨.int (lo+i),H,I1,⟨t,?_⟩,⟨rfl,rfl⟩,st',fun b hb=>(hf b hb).1⟩⟩
  rw [Int.mul_one]
 done:=by
  intro X hP hw hK hc i pins s σ H E I hf st hg
  subst hP hw hK
  obtain ⟨f0,f1,f2,f3,f4,f5⟩:=hf it (by simp)
  exact wpAny_pyNext_range_end (I.ok.hd hc) st (by have:n<=i:=hg;omega) fun h' eb=>⟨rfl,I.turned (t':=s.toks) (fun b o hb e=>eb b o hb e) f0 f1 f3 f4 f5⟩
 self:=fun _ _ _ _ _ st h=>wpAny_pyIter_rangeiter st h
section
variable {X:Cx}{tg:Expr}
theorem Zkn {pins:List (Addr×Obj)}{σ:St}{H:Hp}{s:Shared}{R:It->Hp->Prop}{E:Value->Shared->Prop}{lo hi:Int}{t u v:Tok}{tk:Nat}(I:Inv X pins σ H s)(h1:-(2 ^ 62)<=lo)(h2:lo < 2 ^ 62)(h3:-(2 ^ 62)<=hi)(h4:hi < 2 ^ 62)
  (q:R (Fc lo (hi - lo).toNat) H):wpAny (model X.prog X.w) X.A (pyIter (.ref s.heap.objs.size)) (PIE X pins σ tg R) E { s with heap:=s.heap.push { cls:=.type "range",data:=.fields #[.int lo t,.int hi u,.int 1 v] },toks:=tk }:=by
 refine wpAny_pyIter_range (IsRange.new ..) (small_one h1 h2 h3 h4) ?_
 have I1:Inv X pins σ H { s with heap:=s.heap.push { cls:=.type "range",data:=.fields #[.int lo t,.int hi u,.int 1 v] },toks:=tk }:=I.kept fun b o e=>Oz _ e
 refine ⟨(s.heap.push { cls:=.type "range",data:=.fields #[.int lo t,.int hi u,.int 1 v] }).objs.size,[(s.heap.push { cls:=.type "range",data:=.fields #[.int lo t,.int hi u,.int 1 v] }).objs.size],_,_,H,rfl,
  I1.kept (t':=tk) fun b o e=>Oz _ e,Zkv _ lo (hi - lo).toNat,?_,fun b hb=>?_,q⟩
 ·have e1:lo+((0:Nat):Int) * 1=lo:=by simp
  have e2:(((hi - lo).toNat:Nat):Int) - ((0:Nat):Int)=Builtin.Range.rangeSize lo hi 1:=by rw [rangeSize_one];split <;> omega
  show IsRangeIter _ _ (lo+((0:Nat):Int) * 1) ((((hi - lo).toNat:Nat):Int) - ((0:Nat):Int)) 1
  rw [e1,e2]
  exact Pc _ rfl
 ·have e:b=(s.heap.push { cls:=.type "range",data:=.fields #[.int lo t,.int hi u,.int 1 v] }).objs.size:=by simpa using hb
  subst e
  exact I1.fpOk (Ow _) (I1.hok.fresh (Ow _))
noncomputable def Zax (ta:TA):TI:=fun σ H R=>ta σ H fun vs H1=>∃ j:Int,vs=[.int j]/\-(2 ^ 62)<=j/\j < 2 ^ 62/\R (Fc 0 j.toNat) H1
theorem Zlo {a:Expr}{ta:TA}{p pos:Pos}(hg:Gl X "range")(hm:X.mg "range" = none)(ha:PA X [a] ta)(hs:starEach [a] X.env=[(false,eval a X.env)]:=by rfl):PI X tg (.Call (.Name "range" p) [a] [] pos) (Zax ta):=by
 intro pins s σ H R I h
 refine Call_ (Dj I hg hm boot_range (P6 (Aj (ha pos pins s σ H _ I h) fun us s1 zq=>?_) hs rfl))
 obtain ⟨vs,H1,I1,r1,q1⟩:=zq
 obtain ⟨j,e,q1,q2,q⟩:=q1
 subst e
 cases r1 with
 | cons r rr =>
  cases rr
  obtain ⟨t,rfl⟩:=r
  exact call_range_1 (Zkn I1 (by omega) (by omega) q1 q2 (by simpa using q))
noncomputable def Zal (wi:TI)(g:TG)(tb:TS):TS:=fun D σ H=>wi σ H fun J H1=>∃ W:Nat->Nat->St->Hp->Prop,(∃ m,W 0 m σ H1)/\∀ i m σ H,W i m σ H ->
 (J.stop i H/\D.nx σ H)\/(J.go i H/\∃ N:St->Hp->Prop,(∀ σ' H',N σ' H'->∃ m',m' < m/\W (i+1) m' σ' H')/\∀ x H',J.yld i H x H'->g x σ H' fun σ2 H2=>tb { D with nx:=N,ct:=N,bk:=D.nx } σ2 H2)
noncomputable def Jw (fp:List Addr)(h:Heap):List (Addr×Obj):=fp.filterMap fun b=>(h.get? b).map fun o=>(b,o)
theorem K0 {fp:List Addr}{h:Heap}{b:Addr}{o:Obj}(hb:b∈fp)(e:h.get? b=some o):(b,o)∈Jw fp h:=List.mem_filterMap.mpr ⟨b,hb,by rw [e];rfl⟩
theorem Zku {fp:List Addr}{h:Heap}{p:Addr×Obj}(hp:p∈Jw fp h):p.1∈fp/\h.get? p.1=some p.2:=by
 obtain ⟨b,hb,e⟩:=List.mem_filterMap.mp hp
 cases q:h.get? b with
 | none=>rw [q] at e;cases e
 | some o =>
  rw [q] at e
  have e':(b,o)=p:=Pb e
  subst e'
  exact ⟨hb,q⟩
theorem Inv.pinned {pins:List (Addr×Obj)}{σ:St}{H:Hp}{s:Shared}{fp:List Addr}(I:Inv X pins σ H s)(hf:∀ b∈fp,FpOk X pins H b)(ho:∀ b∈fp,∃ o,s.heap.get? b=some o/\∀ v,o.data≠.cell v):Inv X (pins++Jw fp s.heap) σ H s :=
 I.pins_of fun p hp=>(Qt.mp hp).elim (fun z=>I.pin p (Qh _ z)) fun z=>by
  obtain ⟨hb,e⟩:=Zku z
  obtain ⟨f0,f1,f2,_⟩:=hf p.1 hb
  obtain ⟨o,e',d⟩:=ho p.1 hb
  rw [e] at e';cases e'
  exact ⟨e,f0,f1,f2,d⟩
theorem Inv.unpinned {pins pl:List (Addr×Obj)}{σ:St}{H:Hp}{s:Shared}(I:Inv X (pins++pl) σ H s):Inv X pins σ H s:=I.pins_of fun p hp=>I.pin p (Qh _ (List.mem_append_left _ hp))
theorem Zlq {iter:Expr}{body:List Stmt}{wi:TI}{g:TG}{tb:TS}{pos:Pos}(hp:PassesOwn (model X.prog X.w) X.A X.env X.xe)(hc:X.calm=true)(hi:PI X tg iter wi)(hg:PG X tg g)(hb:PSs X body tb)
  (hs:∀ x,foldedSetIterable iter X.env x=pure x:=by intro _;rfl):PS X (.For tg iter body [] pos) (Zal wi g tb):=by
 intro pins s σ H D I h
 refine wpAny_For (Aj (hi pins s σ H _ I h) fun v s1 h1=>Aj h1 fun itv s2 h2=>?_) hs
 obtain ⟨it,fp,tn,J,H2,e,I2,T,st2,f2,W,⟨m0,w0⟩,turn⟩:=h2
 subst e
 have stat:∀{H':Hp},(∀ b∈fp,H' b=none)->∀ b∈fp,FpOk X pins H' b:=fun hn b hb=>⟨hn b hb,(f2 b hb).2⟩
 refine codeAny_forLoop_any (fun n s'=>∃ i σ' H',Inv X pins σ' H' s'/\tn i s'.heap/\(∀ b∈fp,H' b=none)/\W i n σ' H') ?_ m0 ⟨0,σ,H2,I2,st2,fun b hb=>(f2 b hb).1,w0⟩
 rintro n s3 ⟨i,σ3,H3,I3,st3,fr3,w3⟩
 rcases turn i n σ3 H3 w3 with ⟨stop,qn⟩ | ⟨go,N,hN,step⟩
 ·refine Q5 hp (Aj (T.done X rfl rfl rfl hc i pins s3 σ3 H3 X.xe I3 (stat fr3) st3 stop) fun r s4 zq=>?_)
  obtain ⟨hr,I4⟩:=zq
  subst hr
  exact To ⟨σ3,H3,I4,qn⟩
 ·refine Q5 hp (Aj (T.item X rfl rfl rfl hc i pins s3 σ3 H3 X.xe I3 (stat fr3) st3 go) fun r s4 zq=>?_)
  obtain ⟨u,hr,h4⟩:=zq
  subst hr
  refine Q5 hp (Aj h4 fun _ s5 zq=>?_)
  obtain ⟨x,H5,I5,r5,y5,st5,fr5⟩:=zq
  have I5':=I5.pinned (stat fr5) (T.obj _ _ st5)
  refine Q5 hp (Aj (hg _ s5 σ3 H5 x u _ I5' r5 (step x H5 y5)) fun _ s6 zq=>?_)
  obtain ⟨σ6,H6,I6,q6⟩:=zq
  refine Q5 hp (Aj (hb _ s6 σ6 H6 _ I6 q6) fun f s7 q7=>?_)
  have again:∀{σ7:St}{H7:Hp},Inv X (pins++Jw fp s5.heap) σ7 H7 s7->N σ7 H7->∃ m,m < n/\∃ i σ' H',Inv X pins σ' H' s7/\tn i s7.heap/\(∀ b∈fp,H' b=none)/\W i m σ' H':=fun {σ7 H7} I7 n7=>by
   obtain ⟨m',hm,w7⟩:=hN σ7 H7 n7
   refine ⟨m',hm,i+1,σ7,H7,I7.unpinned,T.keep _ _ _ st5 fun b hb o e=>(I7.pin (b,o) (Qh _ (Qh _ (K0 hb e)))).1,fun b hb=>?_,w7⟩
   obtain ⟨o,e,d⟩:=T.obj _ _ st5 b hb
   exact (I7.pin (b,o) (Qh _ (Qh _ (K0 hb e)))).2.1
  cases f with
  | next=>obtain ⟨σ7,H7,I7,n7⟩:=q7;exact again I7 n7
  | cont=>obtain ⟨σ7,H7,I7,n7⟩:=q7;exact again I7 n7
  | brk=>obtain ⟨σ7,H7,I7,q7⟩:=q7;exact ⟨σ7,H7,I7.unpinned,q7⟩
  | ret v=>obtain ⟨x7,σ7,H7,I7,r7,q7⟩:=q7;exact ⟨x7,σ7,H7,I7.unpinned,r7,q7⟩
end
theorem Ld {K:Os}{a:Addr}{xs:List V}{g:TG}{tb:TS}{D:Ct}{σ:St}{H:Hp}(Pv:Nat->St->Hp->Prop)(h0:Pv 0 σ H)(hl:∀ i σ H,i<=xs.length->Pv i σ H->SqL K H a xs)
  (hs:∀ i x σ H,xs[i]?=some x->Pv i σ H->g x σ H fun σ2 H2=>tb { D with nx:=Pv (i+1),ct:=Pv (i+1),bk:=D.nx } σ2 H2) (hd:∀ σ H,Pv xs.length σ H->D.nx σ H) :
  ∃ W:Nat->Nat->St->Hp->Prop,(∃ m,W 0 m σ H)/\∀ i m σ H,W i m σ H ->
   ((Fx K a).stop i H/\D.nx σ H)\/((Fx K a).go i H/\∃ N:St->Hp->Prop,(∀ σ' H',N σ' H'->∃ m',m' < m/\W (i+1) m' σ' H')/\∀ x H',(Fx K a).yld i H x H'->g x σ H' fun σ2 H2=>tb { D with nx:=N,ct:=N,bk:=D.nx } σ2 H2):=by
 refine ⟨fun i m σ H=>m=xs.length - i/\i<=xs.length/\Pv i σ H,⟨xs.length,by simp,Ph _,h0⟩,?_⟩
 rintro i m σ H ⟨rfl,hi,p⟩
 have q:=hl i σ H hi p
 by_cases hlt:i < xs.length
 ·refine .inr ⟨⟨xs,xs[i],q,by simp [hlt]⟩,Pv (i+1),fun σ' H' p'=>⟨xs.length - (i+1),by omega,rfl,hlt,p'⟩,fun x H' y=>?_⟩
  obtain ⟨e,y⟩:=y
  subst e
  exact hs i x σ _ (y xs q) p
 ·have e:i=xs.length:=by omega
  subst e
  exact .inl ⟨⟨xs,q,Ow _⟩,hd σ H p⟩
theorem Zbo {K:Os}{a:Addr}{xs:List V}{g:TG}{tb:TS}{D:Ct}{σ:St}{H:Hp}(Pv:Nat->St->Hp->Prop)(h0:Pv 0 σ H)(hl:∀ i σ H,i<=xs.length->Pv i σ H->SqT K H a xs)
  (hs:∀ i x σ H,xs[i]?=some x->Pv i σ H->g x σ H fun σ2 H2=>tb { D with nx:=Pv (i+1),ct:=Pv (i+1),bk:=D.nx } σ2 H2) (hd:∀ σ H,Pv xs.length σ H->D.nx σ H) :
  ∃ W:Nat->Nat->St->Hp->Prop,(∃ m,W 0 m σ H)/\∀ i m σ H,W i m σ H ->
   ((F9 K a).stop i H/\D.nx σ H)\/((F9 K a).go i H/\∃ N:St->Hp->Prop,(∀ σ' H',N σ' H'->∃ m',m' < m/\W (i+1) m' σ' H')/\∀ x H',(F9 K a).yld i H x H'->g x σ H' fun σ2 H2=>tb { D with nx:=N,ct:=N,bk:=D.nx } σ2 H2):=by
 refine ⟨fun i m σ H=>m=xs.length - i/\i<=xs.length/\Pv i σ H,⟨xs.length,by simp,Ph _,h0⟩,?_⟩
 rintro i m σ H ⟨rfl,hi,p⟩
 have q:=hl i σ H hi p
 by_cases hlt:i < xs.length
 ·refine .inr ⟨⟨xs,xs[i],q,by simp [hlt]⟩,Pv (i+1),fun σ' H' p'=>⟨xs.length - (i+1),by omega,rfl,hlt,p'⟩,fun x H' y=>?_⟩
  obtain ⟨e,y⟩:=y
  subst e
  exact hs i x σ _ (y xs q) p
 ·have e:i=xs.length:=by omega
  subst e
  exact .inl ⟨⟨xs,q,Ow _⟩,hd σ H p⟩
theorem Ja {lo:Int}{n:Nat}{g:TG}{tb:TS}{D:Ct}{σ:St}{H:Hp}(Pv:Nat->St->Hp->Prop)(h0:Pv 0 σ H)
  (hs:∀ i σ H,i < n->Pv i σ H->g (.int (lo+i)) σ H fun σ2 H2=>tb { D with nx:=Pv (i+1),ct:=Pv (i+1),bk:=D.nx } σ2 H2) (hd:∀ σ H,Pv n σ H->D.nx σ H) :
  ∃ W:Nat->Nat->St->Hp->Prop,(∃ m,W 0 m σ H)/\∀ i m σ H,W i m σ H ->
   ((Fc lo n).stop i H/\D.nx σ H)\/((Fc lo n).go i H/\∃ N:St->Hp->Prop,(∀ σ' H',N σ' H'->∃ m',m' < m/\W (i+1) m' σ' H')/\∀ x H',(Fc lo n).yld i H x H'->g x σ H' fun σ2 H2=>tb { D with nx:=N,ct:=N,bk:=D.nx } σ2 H2):=by
 refine ⟨fun i m σ H=>m=n - i/\i<=n/\Pv i σ H,⟨n,by simp,Ph _,h0⟩,?_⟩
 rintro i m σ H ⟨rfl,hi,p⟩
 by_cases hlt:i < n
 ·refine .inr ⟨hlt,Pv (i+1),fun σ' H' p'=>⟨n - (i+1),by omega,rfl,hlt,p'⟩,fun x H' y=>?_⟩
  obtain ⟨e,y⟩:=y
  subst e y
  exact hs i σ _ hlt p
 ·have e:i=n:=by omega
  subst e
  exact .inl ⟨Ow _,hd σ H p⟩
noncomputable abbrev R2:=V->V->Hp->VK->Prop
noncomputable def OpR (X:Cx)(f:Value->Value->Sem Value)(r:R2):Prop :=
 ∀(pins:List (Addr×Obj))(s:Shared)(σ:St)(H:Hp)(x y:V)(v u:Value)(Q:VK),Inv X pins σ H s->RelV x v->RelV y u->r x y H Q ->
  wpAny (model X.prog X.w) X.A (f v u) (EP X pins σ Q) X.xe s
noncomputable def UnR (X:Cx)(f:Value->Sem Value)(r:V->Hp->VK->Prop):Prop :=
 ∀(pins:List (Addr×Obj))(s:Shared)(σ:St)(H:Hp)(x:V)(v:Value)(Q:VK),Inv X pins σ H s->RelV x v->r x H Q ->
  wpAny (model X.prog X.w) X.A (f v) (EP X pins σ Q) X.xe s
noncomputable def Cj (X:Cx)(f:Value)(r:List V->Hp->VK->Prop):Prop :=
 ∀(pins:List (Addr×Obj))(s:Shared)(σ:St)(H:Hp)(xs:List V)(us:List Value)(Q:VK),Inv X pins σ H s->Vals xs us->r xs H Q ->
  wpAny (model X.prog X.w) X.A (call f us) (EP X pins σ Q) X.xe s
noncomputable def TruR (X:Cx)(r:V->Hp->(Bool->Hp->Prop)->Prop):Prop :=
 ∀(pins:List (Addr×Obj))(s:Shared)(σ:St)(H:Hp)(x:V)(v:Value)(Q:Bool->Hp->Prop),Inv X pins σ H s->RelV x v->r x H Q ->
  wpAny (model X.prog X.w) X.A (truthy v) (TP X pins σ Q) X.xe s
noncomputable def Eh (r:R2)(ta tb:TE):TE:=fun σ H Q=>ta σ H fun x H1=>tb σ H1 fun y H2=>r x y H2 Q
noncomputable def tUn (r:V->Hp->VK->Prop)(ta:TE):TE:=fun σ H Q=>ta σ H fun x H1=>r x H1 Q
noncomputable def rI (C:Int->Int->Prop)(g:Int->Int->V):R2:=fun x y H Q=>∃ i j,x=.int i/\y=.int j/\C i j/\Q (g i j) H
noncomputable def D5 (g:Int->Int->V):R2:=fun x y H Q=>∃ i j,x=.int i/\y=.int j/\Q (g i j) H
noncomputable def rU (g:Int->V):V->Hp->VK->Prop:=fun x H Q=>∃ i,x=.int i/\Q (g i) H
section
variable {X:Cx}{a b c:Expr}{ta tb tc:TE}{pos:Pos}
theorem Nf (ha:PE X a ta)(hb:PE X b tb){pins:List (Addr×Obj)}{s:Shared}{σ:St}{H:Hp}{R:V->V->Hp->Prop}(I:Inv X pins σ H s)
  (h:ta σ H fun x H1=>tb σ H1 fun y H2=>R x y H2) {Q:Value->Shared->Prop} {f:Value->Value->Sem Value}
  (hf:∀ v u s2 x y H2,Inv X pins σ H2 s2->RelV x v->RelV y u->R x y H2->wpAny (model X.prog X.w) X.A (f v u) Q X.xe s2) :
  wpAny (model X.prog X.w) X.A (eval a X.env) (fun v s₁=>wpAny (model X.prog X.w) X.A (eval b X.env) (fun u s₂=>wpAny (model X.prog X.w) X.A (f v u) Q X.xe s₂) X.xe s₁) X.xe s:=by
 refine Aj (ha pins s σ H _ I h) fun v s1 zq=>?_
 obtain ⟨x,H1,I1,r1,q1⟩:=zq
 refine Aj (hb pins s1 σ H1 _ I1 q1) fun u s2 zq=>?_
 obtain ⟨y,H2,I2,r2,q2⟩:=zq
 exact hf v u s2 x y H2 I2 r1 r2 q2
theorem Znt {op:Operator}{r:R2}(ho:OpR X (binaryOp op) r)(ha:PE X a ta)(hb:PE X b tb):PE X (.BinOp a op b pos) (Eh r ta tb):=by
 intro pins s σ H Q I h
 exact wpAny_BinOp (Nf ha hb I h fun v u s2 x y H2 I2 rx ry q=>ho pins s2 σ H2 x y v u Q I2 rx ry q)
theorem Zoe {op:UnaryOp}{r:V->Hp->VK->Prop}(ho:UnR X (unaryOp op) r)(ha:PE X a ta):PE X (.UnaryOp op a pos) (tUn r ta):=by
 intro pins s σ H Q I h
 exact UnaryOp_ (Aj (ha pins s σ H _ I h) fun v s1 ⟨x,H1,I1,r1,q1⟩=>ho pins s1 σ H1 x v Q I1 r1 q1)
theorem opI {f:Value->Value->Sem Value}{C:Int->Int->Prop}{g:Int->Int->Int}
  (rule:∀(i j:Int)(t u:Tok)(s:Shared)(Q:Value->Shared->Prop)(E:Value->Shared->Prop),C i j->Q (.int (g i j) s.toks) { s with toks:=s.toks+1 }->wpAny (model X.prog X.w) X.A (f (.int i t) (.int j u)) Q E s) :
  OpR X f (rI C fun i j=>.int (g i j)):=by
 intro pins s σ H x y v u Q I rx ry h
 obtain ⟨i,j,rfl,rfl,hc,q⟩:=h
 obtain ⟨t,rfl⟩:=rx
 obtain ⟨t',rfl⟩:=ry
 exact rule i j t t' s _ _ hc ⟨.int (g i j),H,I.tok _,⟨_,rfl⟩,q⟩
theorem opI0 {f:Value->Value->Sem Value}{g:Int->Int->Int}
  (rule:∀(i j:Int)(t u:Tok)(s:Shared)(Q:Value->Shared->Prop)(E:Value->Shared->Prop),Q (.int (g i j) s.toks) { s with toks:=s.toks+1 }->wpAny (model X.prog X.w) X.A (f (.int i t) (.int j u)) Q E s) :
  OpR X f (D5 fun i j=>.int (g i j)):=by
 intro pins s σ H x y v u Q I rx ry h
 obtain ⟨i,j,rfl,rfl,q⟩:=h
 obtain ⟨t,rfl⟩:=rx
 obtain ⟨t',rfl⟩:=ry
 exact rule i j t t' s _ _ ⟨.int (g i j),H,I.tok _,⟨_,rfl⟩,q⟩
theorem Ob {f:Value->Value->Sem Value}{g:Int->Int->Bool}
  (rule:∀(i j:Int)(t u:Tok)(s:Shared)(Q:Value->Shared->Prop)(E:Value->Shared->Prop),Q (.bool (g i j)) s->wpAny (model X.prog X.w) X.A (f (.int i t) (.int j u)) Q E s) :
  OpR X f (D5 fun i j=>.bl (g i j)):=by
 intro pins s σ H x y v u Q I rx ry h
 obtain ⟨i,j,rfl,rfl,q⟩:=h
 obtain ⟨t,rfl⟩:=rx
 obtain ⟨t',rfl⟩:=ry
 exact rule i j t t' s _ _ ⟨.bl (g i j),H,I,rfl,q⟩
noncomputable def CDiv (i j:Int):Prop:=0 < j/\j < 1073741824
noncomputable def CPow (i j:Int):Prop:=0<=j/\j<=1000000/\i.natAbs < 2 ^ 64
noncomputable def CMul (i j:Int):Prop:=(-(2 ^ 64) < i/\i < 2 ^ 64)\/(-(2 ^ 64) < j/\j < 2 ^ 64)
theorem CMul.ok {i j:Int}(h:CMul i j):IntMulOk i j:=by
 rcases h with ⟨h1,h2⟩ | ⟨h1,h2⟩
 ·exact .of_left (intBits_le_64 h1 h2)
 ·exact .of_right (intBits_le_64 h1 h2)
theorem op_add:OpR X (binaryOp .Add) (D5 fun i j=>.int (i+j)):=opI0 fun _ _ _ _ _ _ _ q=>add_int q
theorem Zph:OpR X (binaryOp .Sub) (D5 fun i j=>.int (i - j)):=opI0 fun _ _ _ _ _ _ _ q=>sub_int q
theorem op_mul:OpR X (binaryOp .Mult) (rI CMul fun i j=>.int (i * j)):=opI fun _ _ _ _ _ _ _ hc q=>mul_int q hc.ok
theorem Zn7:OpR X (binaryOp .FloorDiv) (rI CDiv fun i j=>.int (i / j)):=opI fun i j _ _ _ _ _ hc q=>by
 have h1:(0:Int) < j:=hc.1
 have h2:j < 1073741824:=hc.2
 exact floordiv_int (by omega) (by rw [Int.fdiv_eq_ediv_of_nonneg i (by omega)];exact q) (.inl (PyProof.noPylong_small (by omega)))
theorem Ed:OpR X (binaryOp .Mod) (rI (fun _ j=>0 < j) fun i j=>.int (i % j)):=opI fun i j _ _ _ _ _ hc q=>by
 have h1:(0:Int) < j:=hc
 exact mod_int' (by omega) (by rw [Int.fmod_eq_emod_of_nonneg i (by omega)];exact q)
theorem Zbu:OpR X (binaryOp .Pow) (rI CPow fun i j=>.int (i ^ j.toNat)):=opI fun _ _ _ _ _ _ _ hc q=>pow_int_small hc.1 hc.2.1 hc.2.2 q
theorem unI {f:Value->Sem Value}{g:Int->Int}
  (rule:∀(i:Int)(t:Tok)(s:Shared)(Q:Value->Shared->Prop)(E:Value->Shared->Prop),Q (.int (g i) s.toks) { s with toks:=s.toks+1 }->wpAny (model X.prog X.w) X.A (f (.int i t)) Q E s) :
  UnR X f (rU fun i=>.int (g i)):=by
 intro pins s σ H x v Q I rx h
 obtain ⟨i,rfl,q⟩:=h
 obtain ⟨t,rfl⟩:=rx
 exact rule i t s _ _ ⟨.int (g i),H,I.tok _,⟨_,rfl⟩,q⟩
theorem G8:UnR X (unaryOp .USub) (rU fun i=>.int (-i)):=unI fun _ _ _ _ _ q=>neg_int q
end
noncomputable def Lh:V->V->Bool
 | .non,.non=>true | .non,.int _=>true | .int _,.non=>true | .non,.bl _=>true | .bl _,.non=>true | .non,.str _=>true | .str _,.non=>true
 | .int _,.int _=>true | .bl _,.bl _=>true | .str _,.str _=>true | .byt _,.byt _=>true
 | .int _,.str _=>true | .str _,.int _=>true | .bl _,.str _=>true | .str _,.bl _=>true
 | _,_=>false
noncomputable def rEq:R2:=fun x y H Q=>Lh x y=true/\Q (.bl (decide (x=y))) H
noncomputable def rNe:R2:=fun x y H Q=>Lh x y=true/\Q (.bl (!decide (x=y))) H
theorem Zb0 {i j:Int}:decide (V.int i=V.int j)=(i == j):=by
 rw [Rp]
 simp
theorem Zb3 {i j:Bool}:decide (V.bl i=V.bl j)=(i == j):=by
 rw [Rp]
 simp
theorem Fk {i j:Str}:decide (V.str i=V.str j)=(i == j):=by
 rw [Rp]
 simp
theorem Zbp {i j:Array UInt8}:decide (V.byt i=V.byt j)=(i.toList == j.toList):=by
 rw [Rp]
 cases i
 cases j
 simp
section
variable {X:Cx}{a b c:Expr}{ta tb tc:TE}{pos:Pos}
theorem Bq {pins:List (Addr×Obj)}{σ:St}{H:Hp}{s:Shared}{Q:VK}{k k':Bool}(I:Inv X pins σ H s)(q:Q (.bl k) H)(e:k=k'):EP X pins σ Q (.bool k') s:=by
 subst e
 exact ⟨.bl k,H,I,rfl,q⟩
theorem op_eq:OpR X (compareOp .Eq) rEq:=by
 intro pins s σ H x y v u Q I rx ry h
 obtain ⟨hs,q⟩:=h
 cases x with
 | non =>
  cases rx
  cases y with
  | non=>cases ry;exact PySem.EqNone.eq_none_none (Bq I q (by simp))
  | bl j=>cases ry;exact PySem.EqNone.eq_none_bool (Bq I q (by simp))
  | int j=>obtain ⟨t',rfl⟩:=ry;exact PySem.EqNone.eq_none_int (Bq I q (by simp))
  | str j=>obtain ⟨t',rfl⟩:=ry;exact PySem.EqNone.eq_none_str (Bq I q (by simp))
  | _=>exact absurd (show false=true from hs) O6
 | bl i =>
  cases rx
  cases y with
  | non=>cases ry;exact PySem.EqNone.eq_bool_none (Bq I q (by simp))
  | bl j=>cases ry;exact eq_bool (Bq I q Zb3)
  | str j=>obtain ⟨t',rfl⟩:=ry;exact PySem.EqMixed.eq_bool_str (Bq I q (by simp))
  | _=>exact absurd (show false=true from hs) O6
 | int i =>
  obtain ⟨t,rfl⟩:=rx
  cases y with
  | non=>cases ry;exact PySem.EqNone.eq_int_none (Bq I q (by simp))
  | int j=>obtain ⟨t',rfl⟩:=ry;exact eq_int (Bq I q Zb0)
  | str j=>obtain ⟨t',rfl⟩:=ry;exact PySem.EqMixed.eq_int_str (Bq I q (by simp))
  | _=>exact absurd (show false=true from hs) O6
 | str i =>
  obtain ⟨t,rfl⟩:=rx
  cases y with
  | non=>cases ry;exact PySem.EqNone.eq_str_none (Bq I q (by simp))
  | bl j=>cases ry;exact PySem.EqMixed.eq_str_bool (Bq I q (by simp))
  | int j=>obtain ⟨t',rfl⟩:=ry;exact PySem.EqMixed.eq_str_int (Bq I q (by simp))
  | str j=>obtain ⟨t',rfl⟩:=ry;exact eq_str (Bq I q Fk)
  | _=>exact absurd (show false=true from hs) O6
 | byt i =>
  obtain ⟨t,rfl⟩:=rx
  cases y with
  | byt j=>obtain ⟨t',rfl⟩:=ry;exact PySem.W.eq_bytes (Bq I q Zbp)
  | _=>exact absurd (show false=true from hs) O6
 | _=>cases y <;> exact absurd (show false=true from hs) O6
theorem op_ne:OpR X (compareOp .NotEq) rNe:=by
 intro pins s σ H x y v u Q I rx ry h
 obtain ⟨hs,q⟩:=h
 cases x with
 | non =>
  cases rx
  cases y with
  | non=>cases ry;exact PySem.EqNone.ne_none_none (Bq I q (by simp))
  | bl j=>cases ry;exact PySem.EqNone.ne_none_bool (Bq I q (by simp))
  | int j=>obtain ⟨t',rfl⟩:=ry;exact PySem.EqNone.ne_none_int (Bq I q (by simp))
  | str j=>obtain ⟨t',rfl⟩:=ry;exact PySem.EqNone.ne_none_str (Bq I q (by simp))
  | _=>exact absurd (show false=true from hs) O6
 | bl i =>
  cases rx
  cases y with
  | non=>cases ry;exact PySem.EqNone.ne_bool_none (Bq I q (by simp))
  | bl j=>cases ry;exact ne_bool (Bq I q (congrArg not Zb3))
  | str j=>obtain ⟨t',rfl⟩:=ry;exact PySem.EqMixed.ne_bool_str (Bq I q (by simp))
  | _=>exact absurd (show false=true from hs) O6
 | int i =>
  obtain ⟨t,rfl⟩:=rx
  cases y with
  | non=>cases ry;exact PySem.EqNone.ne_int_none (Bq I q (by simp))
  | int j=>obtain ⟨t',rfl⟩:=ry;exact ne_int (Bq I q (congrArg not Zb0))
  | str j=>obtain ⟨t',rfl⟩:=ry;exact PySem.EqMixed.ne_int_str (Bq I q (by simp))
  | _=>exact absurd (show false=true from hs) O6
 | str i =>
  obtain ⟨t,rfl⟩:=rx
  cases y with
  | non=>cases ry;exact PySem.EqNone.ne_str_none (Bq I q (by simp))
  | bl j=>cases ry;exact PySem.EqMixed.ne_str_bool (Bq I q (by simp))
  | int j=>obtain ⟨t',rfl⟩:=ry;exact PySem.EqMixed.ne_str_int (Bq I q (by simp))
  | str j=>obtain ⟨t',rfl⟩:=ry;exact ne_str (Bq I q (congrArg not Fk))
  | _=>exact absurd (show false=true from hs) O6
 | byt i =>
  obtain ⟨t,rfl⟩:=rx
  cases y with
  | byt j=>obtain ⟨t',rfl⟩:=ry;exact PySem.W.ne_bytes (Bq I q (congrArg not Zbp))
  | _=>exact absurd (show false=true from hs) O6
 | _=>cases y <;> exact absurd (show false=true from hs) O6
theorem op_lt:OpR X (compareOp .Lt) (D5 fun i j=>.bl (decide (i < j))):=Ob fun _ _ _ _ _ _ _ q=>lt_int q
theorem op_le:OpR X (compareOp .LtE) (D5 fun i j=>.bl (decide (i<=j))):=Ob fun _ _ _ _ _ _ _ q=>le_int q
theorem Zpc:OpR X (compareOp .Gt) (D5 fun i j=>.bl (decide (j < i))):=Ob fun _ _ _ _ _ _ _ q=>gt_int q
theorem Zpw:OpR X (compareOp .Lt) (fun x y H Q=>∃ i j,x=.str i/\y=.str j/\Q (.bl (decide (i.cps.toList < j.cps.toList))) H):=by
 intro pins s σ H x y v u Q I rx ry h
 obtain ⟨i,j,rfl,rfl,q⟩:=h
 obtain ⟨t,rfl⟩:=rx
 obtain ⟨t',rfl⟩:=ry
 exact lt_str (Bq I q rfl)
theorem Zo2:OpR X (compareOp .In) (fun x y H Q=>∃ i j,x=.str i/\y=.str j/\Q (.bl (!(Builtin.Str.occurrences j i 0 j.length 1).isEmpty)) H):=by
 intro pins s σ H x y v u Q I rx ry h
 obtain ⟨i,j,rfl,rfl,q⟩:=h
 obtain ⟨t,rfl⟩:=rx
 obtain ⟨t',rfl⟩:=ry
 exact in_str (Bq I q rfl)
theorem OpR.or {f:Value->Value->Sem Value}{r r':R2}(h:OpR X f r)(h':OpR X f r'):OpR X f (fun x y H Q=>r x y H Q\/r' x y H Q):=by
 intro pins s σ H x y v u Q I rx ry q
 rcases q with q | q
 ·exact h pins s σ H x y v u Q I rx ry q
 ·exact h' pins s σ H x y v u Q I rx ry q
theorem Br (b:Expr){op:CmpOp}(h:op≠.In:=by decide)(h2:op≠.NotIn:=by decide):behindInMarks op b=false:=by
 have e1:(op == CmpOp.In)=false:=by cases op <;> first | rfl | exact absurd rfl h
 have e2:(op == CmpOp.NotIn)=false:=by cases op <;> first | rfl | exact absurd rfl h2
 cases b <;> simp [behindInMarks,e1,e2]
theorem Zpb {op:CmpOp}{r:R2}(ho:OpR X (compareOp op) r)(ha:PE X a ta)(hb:PE X b tb)(hm:behindInMarks op b=false):PE X (.Compare a [op] [b] pos) (Eh r ta tb):=by
 intro pins s σ H Q I h
 exact wpAny_Compare1 (Nf ha hb I h fun v u s2 x y H2 I2 rx ry q=>ho pins s2 σ H2 x y v u Q I2 rx ry q) hm
noncomputable def Zak (t:TE):TT:=fun σ H Q=>t σ H fun x H'=>∃ k,x=.bl k/\Q k H'
theorem Zla {op:CmpOp}{r:R2}(ho:OpR X (compareOp op) r)(ha:PE X a ta)(hb:PE X b tb)(hm:behindInMarks op b=false):PT X (.Compare a [op] [b] pos) (Zak (Eh r ta tb)):=by
 intro pins s σ H Q I h
 refine wpAny_isTrue_Compare1 (Aj (ha pins s σ H _ I h) fun v s1 ⟨x,H1,I1,r1,q1⟩=>Aj (hb pins s1 σ H1 _ I1 q1) fun u s2 ⟨y,H2,I2,r2,q2⟩ =>
  Aj (ho pins s2 σ H2 x y v u _ I2 r1 r2 q2) fun c s3 ⟨z,H3,I3,r3,k,e,q3⟩=>?_) hm
 subst e
 cases r3
 exact Q2 ⟨H3,I3,q3⟩
noncomputable def Nc (r r':R2)(ta tb tc:TE):TE:=fun σ H Q=>ta σ H fun x H1=>tb σ H1 fun y H2=>r x y H2 fun z H3=>∃ k,z=.bl k /\
 (if k=true then tc σ H3 fun w' H4=>r' y w' H4 Q else Q (.bl false) H3)
theorem Zk6 {op op':CmpOp}{r r':R2}(ho:OpR X (compareOp op) r)(ho':OpR X (compareOp op') r')(ha:PE X a ta)(hb:PE X b tb)(hc:PE X c tc)
  (hm:lastMarks [op,op'] [b,c]=false:=by with_unfolding_all rfl):PE X (.Compare a [op,op'] [b,c] pos) (Nc r r' ta tb tc):=by
 intro pins s σ H Q I h
 refine Compare_chain (Aj (ha pins s σ H _ I h) fun v s1 ⟨x,H1,I1,r1,q1⟩=>chain_link (Aj (hb pins s1 σ H1 _ I1 q1) fun u s2 ⟨y,H2,I2,r2,q2⟩ =>
  Aj (ho pins s2 σ H2 x y v u _ I2 r1 r2 q2) fun d s3 ⟨z,H3,I3,r3,k,e,q3⟩=>?_)) hm
 subst e
 cases r3
 refine Q2 ?_
 cases k with
 | false=>exact ite_ff ⟨.bl false,H3,I3,rfl,q3⟩
 | true=>exact ite_tt (chain_last (Aj (hc pins s3 σ H3 _ I3 q3) fun w' s4 ⟨z',H4,I4,r4,q4⟩=>ho' pins s4 σ H4 y z' u w' Q I4 r2 r4 q4))
noncomputable def Ir (K:Os)(x:V)(H:Hp)(k:Bool):Prop :=
 match x with
 | .non=>k=false
 | .bl b=>k=b
 | .int i=>k=(i != 0)
 | .str y=>y.length<=sizeLine/\k=((y.length:Int) != 0)
 | .byt y=>y.size<=sizeLine/\k=((y.size:Int) != 0)
 | .ref p=>(∃ xs,SqL K H p xs/\k=!xs.isEmpty)\/(∃ xs,SqT K H p xs/\k=!xs.isEmpty)\/∃ kvs,H p=some (.dK kvs)/\k=!kvs.isEmpty
 | _=>False
theorem Zmh {κ:Type}{kvs:List (κ×V)}{vs:List (κ×Value)}(r:KV kvs vs):(!vs.isEmpty)=!kvs.isEmpty:=by
 cases r <;> rfl
theorem Zbw {xs:List V}{its:List Value}(r:Vals xs its):(!its.toArray.isEmpty)=!xs.isEmpty:=by
 cases r <;> simp
theorem G0:(sizeLine:Nat) < 2 ^ 63:=by rw [sizeLine_eq];decide
theorem Zio:TruR X (fun x H Q=>∃ k,Ir X.K x H k/\Q k H):=by
 intro pins s σ H x v Q I rx h
 obtain ⟨k,e,q⟩:=h
 have hl:=G0
 have hs:sizeLine=16777216:=sizeLine_eq
 cases x with
 | non =>
  cases rx
  have e':k=false:=e
  subst e'
  exact truthy_none ⟨H,I,q⟩
 | bl b =>
  cases rx
  have e':k=b:=e
  subst e'
  exact Q2 ⟨H,I,q⟩
 | int i =>
  obtain ⟨t,rfl⟩:=rx
  have e':k=(i != 0):=e
  subst e'
  exact PySem.P.truthy_int ⟨H,I,q⟩
 | str y =>
  obtain ⟨t,rfl⟩:=rx
  obtain ⟨hy,e'⟩:y.length<=sizeLine/\k=((y.length:Int) != 0):=e
  subst e'
  exact PySem.P.truthy_str (by omega) ⟨H,I.tok _,q⟩
 | byt y =>
  obtain ⟨t,rfl⟩:=rx
  obtain ⟨hy,e'⟩:y.size<=sizeLine/\k=((y.size:Int) != 0):=e
  subst e'
  exact PySem.W.truthy_bytes (by omega) ⟨H,I.tok _,q⟩
 | ref p =>
  cases rx
  have e':(∃ xs,SqL X.K H p xs/\k=!xs.isEmpty)\/(∃ xs,SqT X.K H p xs/\k=!xs.isEmpty)\/∃ kvs,H p=some (.dK kvs)/\k=!kvs.isEmpty:=e
  rcases e' with ⟨xs,hx,e'⟩ | ⟨xs,hx,e'⟩ | ⟨kvs,hx,e'⟩
  ·subst e'
   obtain ⟨its,r,pl,hz⟩:=I.list hx
   have hlen:=r.length
   exact wpAny_truthy_list pl.isList (by simp only [Ox];omega) ⟨H,I.tok _,by rw [Zbw r];exact q⟩
  ·subst e'
   obtain ⟨its,r,pl,hz⟩:=I.tuple hx
   have hlen:=r.length
   exact truthy_tuple pl (by simp only [Ox];omega) ⟨H,I.tok _,by rw [Zbw r];exact q⟩
  ·subst e'
   obtain ⟨hz,hS,vs,r,m⟩:kvs.length<=sizeLine/\(p == sysModules)=false/\∃ vs,KV kvs vs/\s.heap.DictOf (Cm X.prog X.w) p vs:=I.hok p _ hx
   have hlen:kvs.length=vs.length:=Sf r
   exact wpAny_truthy_dict hS m (by omega) ⟨H,I.tok _,by rw [Zmh r];exact q⟩
 | _=>exact (show False from e).elim
theorem Zid (ha:PE X a ta)(he:∀ whole,isTrue a X.env whole=(do let v <- whole;standAt a.pos;holding [v] (truthy v))) :
  PT X a (fun σ H Q=>ta σ H fun x H'=>∃ k,Ir X.K x H' k/\Q k H'):=by
 intro pins s σ H Q I h
 exact isTrue_plain (Aj (ha pins s σ H _ I h) fun v s1 ⟨x,H1,I1,r1,q1⟩=>Zio pins s1 σ H1 x v Q I1 r1 q1) (he _)
theorem op_add_str:OpR X (binaryOp .Add) (fun x y H Q=>∃ i j,x=.str i/\y=.str j/\i.length+j.length<=sizeLine/\Q (.str (i++j)) H):=by
 intro pins s σ H x y v u Q I rx ry h
 obtain ⟨i,j,rfl,rfl,hz,q⟩:=h
 obtain ⟨t,rfl⟩:=rx
 obtain ⟨t',rfl⟩:=ry
 exact add_str (fun t' tk=>⟨.str (i++j),H,I.tok _,⟨_,rfl⟩,q⟩) hz
theorem Hn {x:V}{us:List Value}(r:Vals [x] us):∃ u,us=[u]/\RelV x u:=by
 cases r with
 | cons r1 r2=>cases r2;exact ⟨_,rfl,r1⟩
theorem Zf9:Cj X (.type "int") (fun xs H Q=>(∃ i,xs=[.int i]/\Q (.int i) H)\/∃ k,xs=[.bl k]/\Q (.int (if k then 1 else 0)) H):=by
 intro pins s σ H xs us Q I r h
 rcases h with ⟨i,rfl,q⟩ | ⟨k,rfl,q⟩
 ·obtain ⟨u,rfl,t,rfl⟩:=Hn r
  exact call_int_int ⟨.int i,H,I,⟨_,rfl⟩,q⟩
 ·obtain ⟨u,rfl,r1⟩:=Hn r
  cases r1
  exact call_int_bool ⟨.int (if k then 1 else 0),H,I.tok _,⟨_,rfl⟩,q⟩
noncomputable def LenV (K:Os)(x:V)(H:Hp)(n:Nat):Prop :=
 match x with
 | .str y=>y.length<=sizeLine/\n=y.length
 | .byt y=>y.size<=sizeLine/\n=y.size
 | .ref p=>(∃ xs,SqL K H p xs/\n=xs.length)\/∃ xs,SqT K H p xs/\n=xs.length
 | _=>False
theorem Zi5:Cj X (.builtin "len") (fun xs H Q=>∃ x n,xs=[x]/\LenV X.K x H n/\Q (.int n) H):=by
 intro pins s σ H xs us Q I r h
 obtain ⟨x,n,rfl,e,q⟩:=h
 obtain ⟨u,rfl,rx⟩:=Hn r
 have hl:=G0
 have hs:sizeLine=16777216:=sizeLine_eq
 cases x with
 | str y =>
  obtain ⟨t,rfl⟩:=rx
  obtain ⟨hy,e'⟩:y.length<=sizeLine/\n=y.length:=e
  subst e'
  exact len_str (by omega) ⟨.int _,H,I.tok _,⟨_,rfl⟩,q⟩
 | byt y =>
  obtain ⟨t,rfl⟩:=rx
  obtain ⟨hy,e'⟩:y.size<=sizeLine/\n=y.size:=e
  subst e'
  exact PySem.W.len_bytes (by omega) ⟨.int _,H,I.tok _,⟨_,rfl⟩,q⟩
 | ref p =>
  cases rx
  have e':(∃ xs,SqL X.K H p xs/\n=xs.length)\/∃ xs,SqT X.K H p xs/\n=xs.length:=e
  rcases e' with ⟨xs,hx,e'⟩ | ⟨xs,hx,e'⟩
  ·subst e'
   obtain ⟨its,r',pl,hz⟩:=I.list hx
   have hlen:=r'.length
   exact Calls.call_len_list pl.isList (by simp only [Ox];omega) ⟨.int xs.length,H,I.tok _,⟨_,by simp only [Ox];rw [hlen]⟩,q⟩
  ·subst e'
   obtain ⟨its,r',pl,hz⟩:=I.tuple hx
   have hlen:=r'.length
   exact len_tuple pl (by simp only [Ox];omega) ⟨.int xs.length,H,I.tok _,⟨_,by simp only [Ox];rw [hlen]⟩,q⟩
 | _=>exact (show False from e).elim
end
structure ObjM (h:Heap)(x dx C:Addr)(mA:Str->Option Value):Prop where
 obj:h.get? x=some (U3 C dx)
 ns:h.Ns1 dx mA
 ne:dx≠x
theorem Zii {h:Heap}{dx:Addr}{mA:Str->Option Value}(n:h.Ns1 dx mA):∃ od,h.get? dx=some od/\∀ name,PySem.W.lookIn name od=some (mA name):=by
 obtain ⟨o,es,ep,ho,hd,hk,_,hm⟩:=n
 refine ⟨o,ho,fun name=>?_⟩
 have e:=hm name
 unfold nsFind findBy at e
 rw [<- Array.find?_toList] at e
 unfold PySem.W.lookIn
 rw [hd]
 dsimp only
 split
 ·rename_i y q
  rw [q] at e
  exact congrArg some e
 ·rename_i q
  rw [q] at e
  have a:es.toList.any (·.refKey)=false:=by
   rw [List.any_eq_false]
   intro y hy
   obtain ⟨z,t,hkey⟩:=hk y (Array.mem_toList_iff.mp hy)
   simp [DictEntry.refKey,hkey]
  have a':¬ es.toList.any (·.refKey)=true:=by rw [a];exact O6
  rw [if_neg a']
  exact congrArg some e
theorem ObjM.look {h:Heap}{x dx C:Addr}{mA:Str->Option Value}(I:ObjM h x dx C mA):∃ od,PySem.W.InstAt h x (U3 C dx) C (some od)/\∀ name,PySem.W.lookIn name od=some (mA name) :=
 let ⟨od,ho,hl⟩:=Zii I.ns
 ⟨od,⟨I.obj,rfl,rfl,ho⟩,hl⟩
section
variable {prog:Program}{w:World}{A:Around}{E:Value->Shared->Prop}{s:Shared}{K:Os}{x dx C f:Addr}{mA:Str->Option Value}{name:Str}{v:Value}
end
theorem RelO.some_of {v:V}{o:Option Value}(r:RelO (some v) o):∃ u,o=some u/\RelV v u:=by
 cases o with
 | none=>exact (show False from r).elim
 | some u=>exact ⟨u,rfl,r⟩
section
variable {P:Program}{w:World}{H H':Hp}{h h':Heap}{a C dx:Addr}{fs fs':List (Str×V)}
theorem Zmk (hok:HOk P w H h)(e:H a=some (.ins C dx fs)):∃ mA,ObjM h a dx C mA/\(∀ f,RelO (fs.lookup f) (mA f))/\PySem.Within mA (fs.map (·.1))/\fs.length<=1000/\H dx=some (.own a):=by
 obtain ⟨d,z,ne,ob,mA,n,r,q⟩:=(show ObjOk P w H h a (.ins C dx fs) from hok a _ e)
 exact ⟨mA,⟨ob,n,ne⟩,r,q,z,d⟩
end
structure Cls (K:Os)(C:Addr):Prop where
 pg:PySem.W.plainGet K C Str.empty=true
 hd:PySem.W.hasDictIn K C=true
 po:PySem.W.plainOver K C=true
 sa:PySem.W.findIn K (.ref C) "__setattr__" = some (some (.builtin "object.__setattr__"))
theorem Cls.get {K:Os}{C:Addr}(c:Cls K C)(f:Str):PySem.W.plainGet K C f=true:=c.pg
section
variable {X:Cx}{pins:List (Addr×Obj)}{σ:St}{H:Hp}{s:Shared}{a C dx:Addr}{fs:List (Str×V)}{f:Str}{v:V}{A:Around}{E:Value->Shared->Prop}
end
section
variable {X:Cx}{o e value:Expr}{f:Str}{pos pos' tpos:Pos}{ta tv:TE}
end
section
variable {X:Cx}{pins:List (Addr×Obj)}{σ:St}{H:Hp}{s:Shared}{A:Around}{E:Value->Shared->Prop}{Q:Value->Shared->Prop}{c:Value}{b:Bool}
inductive C8 (K:Os)(H:Hp):V->Value->Prop where
 | non:C8 K H .non (.type "NoneType")
 | bl (x:Bool):C8 K H (.bl x) (.type "bool")
 | int (i:Int):C8 K H (.int i) (.type "int")
 | str (x:Str):C8 K H (.str x) (.type "str")
 | flt (x:UInt64):C8 K H (.flt x) (.type "float")
 | lst {a:Addr} {xs:List V} (e:H a=some (.lst xs)):C8 K H (.ref a) (.type "list")
 | frz {a:Addr} {o:Obj} {xs:List V} (e:H a=some (.frz o (.lst xs))):C8 K H (.ref a) (.type "list")
 | tup {a:Addr} {xs:List V} (e:H a=some (.tup xs)):C8 K H (.ref a) (.type "tuple")
 | dK {a:Addr} {kvs:List (Aq×V)} (e:H a=some (.dK kvs)):C8 K H (.ref a) (.type "dict")
 | dT {a:Addr} {kvs:List (List Aq×V)} (e:H a=some (.dT kvs)):C8 K H (.ref a) (.type "dict")
 | ins {a C dx:Addr} {fs:List (Str×V)} (e:H a=some (.ins C dx fs)) (cl:Cls K C) (ha:PySem.W.findIn K (.ref C) "__class__" = some (some (.builtin "object.__class__")))
   (hn:PySem.W.specialIn K (.builtin "object.__class__") "__get__" = some (some (.builtin "getset_descriptor.__get__"))) (htk:PySem.W.takesIn K (.builtin "object.__class__")=some true)
   (hm:PySem.W.mroIn K C (.type "object")=some true):C8 K H (.ref a) (.ref C)
theorem Zpf {x:V}{u t:Value}(I:Inv X pins σ H s)(rx:RelV x u)(ty:C8 X.K H x t)(e:Qk X.K t c=some b)(h:∀ tk,Q (.bool b) { s with toks:=tk }) :
  wpAny (model X.prog X.w) A (call (.builtin "isinstance") [u,c]) Q E s:=by
 cases ty with
 | non=>cases (show u=Value.none from rx);exact Pz PySem.W.kitx_none I.kIn True.intro e (fun z=>nomatch z) h
 | bl y=>cases (show u=Value.bool y from rx);exact Pz PySem.W.kitx_bool I.kIn True.intro e (fun z=>nomatch z) h
 | int i=>obtain ⟨t,q⟩:=(show ∃ t,u=Value.int i t from rx);cases q;exact Pz PySem.W.kitx_int I.kIn True.intro e (fun z=>nomatch z) h
 | str y=>obtain ⟨t,q⟩:=(show ∃ t,u=Value.str y t from rx);cases q;exact Pz PySem.W.kitx_str I.kIn True.intro e (fun z=>nomatch z) h
 | flt y=>obtain ⟨t,q⟩:=(show ∃ t,u=Value.float y t from rx);cases q;exact Pz PySem.W.kitx_float I.kIn True.intro e (fun z=>nomatch z) h
 | @lst a xs ea =>
  cases (show u=Value.ref a from rx)
  obtain ⟨_,_,n,_,h1⟩:=(show ObjOk X.prog X.w H s.heap a (.lst xs) from I.hok a _ ea)
  exact Pz Uu I.kIn ⟨_,h1,rfl⟩ e (fun z=>nomatch z) h
 | @frz a ob xs ea =>
  cases (show u=Value.ref a from rx)
  obtain ⟨_,_,_,n,_,h1⟩:=(show ObjOk X.prog X.w H s.heap a (.frz ob (.lst xs)) from I.hok a _ ea)
  exact Pz Uu I.kIn ⟨_,h1,rfl⟩ e (fun z=>nomatch z) h
 | @tup a xs ea =>
  cases (show u=Value.ref a from rx)
  obtain ⟨_,_,_,p⟩:=(show ObjOk X.prog X.w H s.heap a (.tup xs) from I.hok a _ ea)
  obtain ⟨o,h1,h2,_⟩:=p
  exact Pz PySem.W.kitx_tuple I.kIn ⟨o,h1,h2⟩ e (fun z=>nomatch z) h
 | @dK a kvs ea =>
  cases (show u=Value.ref a from rx)
  obtain ⟨_,_,vs,_,p⟩:=(show ObjOk X.prog X.w H s.heap a (.dK kvs) from I.hok a _ ea)
  obtain ⟨o,es,ep,h1,h2,_⟩:=p
  exact Pz PySem.W.kitx_dict I.kIn ⟨o,h1,h2.1⟩ e (fun z=>nomatch z) h
 | @dT a kvs ea =>
  cases (show u=Value.ref a from rx)
  obtain ⟨_,_,xs,_,o,es,ep,h1,h2,_⟩:=(show ObjOk X.prog X.w H s.heap a (.dT kvs) from I.hok a _ ea)
  exact Pz PySem.W.kitx_dict I.kIn ⟨o,h1,h2.1⟩ e (fun z=>nomatch z) h
 | @ins a C dx fs ea cl ha hn htk hm =>
  cases (show u=Value.ref a from rx)
  obtain ⟨mA,O,_⟩:=Zmk I.hok ea
  obtain ⟨od,J,_⟩:=O.look
  exact Pz (PySem.W.kitx_own (cl.get _) cl.hd ha hn htk hm) I.kIn J e (fun z=>nomatch z) h
end
structure Room (k:Nat)(A:Around):Prop where
 hd:A.handled=none
 dp:A.depth+3 * k+5 < recursionLimit
 un:A.units+16 * k+200 < cLine
theorem Room.mono {j k:Nat}{A:Around}(r:Room k A)(h:j<=k):Room j A:=⟨r.hd,by have:=r.dp;omega,by have:=r.un;omega⟩
theorem Room.deeper {k:Nat}{A:Around}(r:Room (k+1) A)(env:Env):Room k (A.deeper env) :=
 ⟨r.hd,by have:=r.dp;show A.depth+1+3 * k+5 < _;omega,by have:=r.un;show A.units+3+16 * k+200 < _;omega⟩
theorem Room.depth {k:Nat}{A:Around}(r:Room k A):A.depth < recursionLimit:=by have:=r.dp;omega
noncomputable def On:TA:=fun _ H Q=>Q [] H
noncomputable def Zad (ta:TE)(tr:TA):TA:=fun σ H Q=>ta σ H fun x H1=>tr σ H1 fun xs H2=>Q (x::xs) H2
section
variable {X:Cx}{e:Expr}{es:List Expr}{te:TE}{t:TA}{pos:Pos}
theorem Zd9:PA X [] On:=fun _ _ _ _ H Q I h=>Rn ⟨[],H,I,.nil,h⟩
theorem Zd2 (ha:PE X e te)(hr:PA X es t)(hs:starEach (e::es) X.env=(false,eval e X.env)::starEach es X.env:=by rfl):PA X (e::es) (Zad te t):=by
 intro pos pins s σ H Q I h
 rw [hs]
 show wpAny _ _ (spliced ((false,eval e X.env)::backTo pos (starEach es X.env))) _ _ s
 refine Q1 (Aj (ha pins s σ H _ I h) fun u s1 zq=>?_)
 obtain ⟨x,H1,I1,r1,q1⟩:=zq
 exact Aj (hr pos pins s1 σ H1 _ I1 q1) fun us s2 ⟨xs,H2,I2,r2,q2⟩=>⟨x::xs,H2,I2,.cons r1 r2,q2⟩
noncomputable def Zaj (t:TA):TE:=fun σ H Q=>t σ H fun xs H1=>xs.length<=sizeLine/\∀ p,H1 p=none->Q (.ref p) (upd H1 p (.tup xs))
noncomputable def Oc (t:TA):TE:=fun σ H Q=>t σ H fun xs H1=>xs.length<=sizeLine/\∀ p,H1 p=none->Q (.ref p) (upd H1 p (.lst xs))
theorem Zja {x1}(h:PA X es t):PE X (.Tuple es x1 pos) (Zaj t):=by
 intro pins s σ H Q I hq
 refine wpAny_Tuple_spliced (Aj (h pos pins s σ H _ I hq) fun us s1 ⟨xs,H1,I1,r,z,q⟩=>⟨by rw [<- r.length];exact z,?_⟩)
 have hf:H1 s1.heap.objs.size=none:=I1.hok.fresh (Ow _)
 refine ⟨.ref s1.heap.objs.size,upd H1 s1.heap.objs.size (.tup xs),I1.laid (t':=s1.toks) (fun b u e=>Oz _ e) (Ow _) ?_,rfl,q _ hf⟩
 exact ⟨z,us,r,⟨_,Pc _ rfl,rfl,_,rfl⟩⟩
theorem Zmx (h:PA X es t):PE X (.List es pos) (Oc t):=by
 intro pins s σ H Q I hq
 refine wpAny_List_spliced (Aj (h pos pins s σ H _ I hq) fun us s1 ⟨xs,H1,I1,r,z,q⟩=>⟨by rw [<- r.length];exact z,?_⟩)
 have hf:H1 s1.heap.objs.size=none:=I1.hok.fresh (Ow _)
 refine ⟨.ref s1.heap.objs.size,upd H1 s1.heap.objs.size (.lst xs),I1.laid (t':=s1.toks) (fun b u e=>Oz _ e) (Ow _) ?_,rfl,q _ hf⟩
 exact ⟨z,us,0,r,Pc _ rfl⟩
end
noncomputable abbrev Sp:=List V->Hp->VK->XK->Prop
noncomputable abbrev C5:=List Env->Hp->Shared->XK->Value->Shared->Prop
structure Lm (P:Program)(w:World)(K:Os)(mg:Str->Option Value)(base:Heap)(A:Around)(outer:List Env)(s:Shared)(H:Hp):Prop where
 frames:A.frames=some outer
 mod:Mod K mg base
 bs:∀ b o,base.get? b=some o->s.heap.get? b=some o/\H b=none
 bsz:base.objs.size<=s.heap.objs.size
 funs:s.heap.FunFrames base outer
 frf:∀ b∈Cv outer,H b=none
 hok:HOk P w H s.heap
 bare:AllBare s.gens
noncomputable def CE (outer:List Env)(P:Program)(w:World)(H:Hp)(s:Shared)(Q:VK)(u:Value)(s':Shared):Prop :=
 ∃ v H',s'.os=s.os/\AllBare s'.gens/\Un (Cv outer) [] H H' s.heap s'.heap/\HOk P w H' s'.heap/\RelV v u/\Q v H'
noncomputable def CR (CX:C5)(outer:List Env)(P:Program)(w:World)(H:Hp)(s:Shared)(Q:VK)(E:XK)(r:Result)(s':Shared):Prop :=
 match r with
 | .ok (.ret u)=>CE outer P w H s Q u s'
 | .ok _=>False
 | .error e=>CX outer H s E e s'
structure A9 (P:Program)(w:World)(K:Os)(mg:Str->Option Value)(base:Heap)(CX:C5)(k:Nat)(f:Addr)(fd:FuncData)(ps:List Str)(sp:Sp):Prop where
 len:∀ vs H Q E,sp vs H Q E->vs.length=ps.length
 run:∀(A:Around)(outer:List Env)(s:Shared)(H:Hp)(args:Args)(us:List Value)(vs:List V)(Q:VK)(E:XK),Room k A->Lm P w K mg base A outer s H->BindsTo s fd args (ps.zip us)->Vals vs us->sp vs H Q E ->
  codeAny (model P w) A (.call (.ref f) args) (CR CX outer P w H s Q E) s
section
variable {X:Cx}{pins:List (Addr×Obj)}{σ:St}{H:Hp}{s s':Shared}
theorem Inv.env0 (I:Inv X pins σ H s):Lm X.prog X.w X.K X.mg X.base X.A X.stack s H :=
 ⟨I.ok.frames,I.ok.mod,I.bs,Pm I.ok.bsz I.sz,I.stack,I.stkFree,I.hok,I.bare⟩
theorem Inv.after {Q:VK}{u:Value}(I:Inv X pins σ H s)(h:CE X.stack X.prog X.w H s Q u s'):EP X pins σ Q u s':=by
 obtain ⟨v,H',os,bare,un,hok,r,q⟩:=h
 obtain ⟨hh,g,d,t,os'⟩:=s'
 obtain rfl:os'=s.os:=os
 exact ⟨v,H',I.call (h':=hh) (g':=g) (d':=d) (t':=t) (ch:=[]) un hok bare (fun b z=>absurd z (by simp)),r,q⟩
end
noncomputable def L5 (sp:Sp)(dvs:List V)(E:XK)(t:TA):TE:=fun σ H Q=>t σ H fun vs H1=>sp (vs++dvs) H1 Q E
noncomputable def Binds (K:Os)(fd:FuncData)(ps:List Str)(ds:List Value):Prop :=
 ∀(s:Shared)(us:List Value),K.In s.heap->(us++ds).length=ps.length->BindsTo s fd ⟨us,[]⟩ (ps.zip (us++ds))
theorem Binds.all {K:Os}{fd:FuncData}{ps:List Str}(h:∀ us:List Value,us.length=ps.length->bindArgs fd ⟨us,[]⟩=pure (ps.zip us)):Binds K fd ps []:=fun s us _ hl=>by
 rw [Qa] at hl ⊢
 exact .of_eq (h us hl)
noncomputable def Nt (CX:C5)(X:Cx)(E:XK):Prop:=∀(pins:List (Addr×Obj))(σ:St)(H:Hp)(s:Shared)(e:Value)(s':Shared),Inv X pins σ H s->CX X.stack H s E e s'->X.xe e s'
section
variable {X:Cx}{CX:C5}{k:Nat}{f C:Addr}{fd:FuncData}{ps:List Str}{sp:Sp}{dvs:List V}{ds:List Value}{E:XK}{x m:Str}{p pos apos:Pos}{e o:Expr}{es:List Expr}{ta:TE}{t:TA}
theorem Zpg {pins:List (Addr×Obj)}{σ:St}{H:Hp}{s:Shared}{Q:VK}{us:List Value}{vs:List V}(F:A9 X.prog X.w X.K X.mg X.base CX k f fd ps sp)(hr:Room k X.A)(hb:Binds X.K fd ps ds)(hd:Vals dvs ds)(hx:Nt CX X E)
  (I:Inv X pins σ H s) (r:Vals vs us) (h:sp (vs++dvs) H Q E):wpAny (model X.prog X.w) X.A (call (.ref f) us) (EP X pins σ Q) X.xe s:=by
 have r2:Vals (vs++dvs) (us++ds):=r.append hd
 have hl:(us++ds).length=ps.length:=by rw [<- r2.length];exact F.len _ _ _ _ h
 refine wpAny_call (codeAny_mono (F.run X.A X.stack s H ⟨us,[]⟩ (us++ds) (vs++dvs) Q E hr I.env0 (hb s us I.kIn hl) r2 h) fun r s' hq=>?_)
 cases r with
 | error e=>exact hx pins σ H s e s' I hq
 | ok fl =>
  cases fl with
  | ret u=>exact I.after hq
  | next=>exact Qm hq
  | brk=>exact Qm hq
  | cont=>exact Qm hq
theorem Zk2 (F:A9 X.prog X.w X.K X.mg X.base CX k f fd ps sp)(hr:Room k X.A)(hg:Gl X x)(hm:X.mg x=some (.ref f))(hk:Sd X.K (.ref f)=true)(hb:Binds X.K fd ps ds)(hd:Vals dvs ds)(hx:Nt CX X E)
  (ha:PA X (e::es) t) (hdb:(x == ("__debug__" : Str))=false:=by decide) (he:starEach (e::es) X.env=(false,eval e X.env)::starEach es X.env:=by rfl) (hpl:(backTo pos (starEach es X.env)).any (·.1)=false:=by rfl) :
  PE X (.Call (.Name x p) (e::es) [] pos) (L5 sp dvs E t):=by
 intro pins s σ H Q I h
 refine Ur (Zb5 I hg hm ?_ hdb)
 refine PySem.W.callWith_K (h₀:=X.base) I.ok.mod.kin hk (Aj (ha pos pins s σ H _ I h) fun us s1 zq=>?_) he hpl
 obtain ⟨vs,H1,I1,r,q⟩:=zq
 refine ⟨I1.kIn,?_⟩
 exact Zpg F hr hb hd hx I1 r q
end
section
variable {X:Cx}{CX:C5}{k:Nat}{f C:Addr}{fd:FuncData}{ps ks:List Str}{sp:Sp}{E:XK}{x m:Str}{p pos apos kpos:Pos}{e o:Expr}{es:List Expr}{kws:List Keyword}{te ta:TE}{t tk:TA}{nm:Option Str}
variable {g:List Value->List Value->List Value}{gV:List V->List V->List V}
end
structure Bm (N P:List Str)(sc:Scope):Prop where
 kind:sc.kind=.function
 co:sc.isCoroutine=false
 gen:sc.isGenerator=false
 nd:N.Nodup
 pre:N.take P.length=P
 par:∀ x∈P,sc.names.lookup x=some .local\/sc.names.lookup x=some .cell
 nofree:∀ y∈sc.names,y.2≠.free
theorem Ze8 {kindOf:Str->Option NameKind}{x:Str}:∀{binds:List (Str×Value)}{m:Str->Option Value},(∀ v,(x,v) ∉ binds)->bindL kindOf binds m x=m x
 | [],_,_=>rfl
 | (n,v)::r,m,h=>by
  unfold bindL
  rw [Ze8 fun w hw=>h w (Qz _ hw)]
  split
  ·have:x≠n:=by rintro rfl;exact h v R5
   simp [this]
  ·rfl
theorem Ze6 {kindOf:Str->Option NameKind}{x:Str}:∀{binds:List (Str×Value)}{m:Str->Option Value},(∀ v,(x,v) ∉ binds)->bindC kindOf binds m x=m x
 | [],_,_=>rfl
 | (n,v)::r,m,h=>by
  unfold bindC
  rw [Ze6 fun w hw=>h w (Qz _ hw)]
  split
  ·rfl
  ·have:x≠n:=by rintro rfl;exact h v R5
   simp [this]
theorem Zer {kindOf:Str->Option NameKind}{x:Str}{v:Value}:∀{P:List Str}{vs:List Value}{i:Nat}{m:Str->Option Value},P.Nodup->P[i]?=some x->vs[i]?=some v->kindOf x=some .local ->
  bindL kindOf (P.zip vs) m x=some v
 | [],_,_,_,_,h,_,_=>by simp at h
 | _::_,[],_,_,_,_,h,_=>by simp at h
 | p::P,w::vs,0,m,nd,h1,h2,hk=>by
  simp at h1 h2;subst h1;subst h2
  show bindL kindOf ((p,w)::P.zip vs) m p=_
  unfold bindL
  rw [Ze8 fun v hv=>(Tp.mp nd).1 (U4 hv).1,if_pos hk]
  simp
 | p::P,w::vs,i+1,m,nd,h1,h2,hk=>by
  show bindL kindOf ((p,w)::P.zip vs) m x=_
  unfold bindL
  exact Zer (i:=i) (Tp.mp nd).2 (by simpa using h1) (by simpa using h2) hk
theorem Zbs {kindOf:Str->Option NameKind}{x:Str}{v:Value}:∀{P:List Str}{vs:List Value}{i:Nat}{m:Str->Option Value},P.Nodup->P[i]?=some x->vs[i]?=some v->kindOf x≠some .local ->
  bindC kindOf (P.zip vs) m x=some v
 | [],_,_,_,_,h,_,_=>by simp at h
 | _::_,[],_,_,_,_,h,_=>by simp at h
 | p::P,w::vs,0,m,nd,h1,h2,hk=>by
  simp at h1 h2;subst h1;subst h2
  show bindC kindOf ((p,w)::P.zip vs) m p=_
  unfold bindC
  rw [Ze6 fun v hv=>(Tp.mp nd).1 (U4 hv).1,if_neg hk]
  simp
 | p::P,w::vs,i+1,m,nd,h1,h2,hk=>by
  show bindC kindOf ((p,w)::P.zip vs) m x=_
  unfold bindC
  exact Zbs (i:=i) (Tp.mp nd).2 (by simpa using h1) (by simpa using h2) hk
noncomputable def start (N:List Str)(vs:List V):St:=vs.map some++Pp (N.length - vs.length) none
noncomputable def F2 (CX:C5)(P:Program)(w:World)(K:Os)(mg:Str->Option Value)(base:Heap)(N:List Str)(qual:Str)(scope:Scope)(f:Addr)(cd:Value)(A:Around)(outer:List Env)(s:Shared)(H:Hp)(E:XK):Cx where
 prog:=P
 w:=w
 K:=K
 mg:=mg
 base:=base
 A:=A.deeper (envOfC qual scope s.heap.objs.size f cd)
 N:=N
 s₀:=s
 H₀:=H
 env:=envOfC qual scope s.heap.objs.size f cd
 outer:=outer
 stack:=envOfC qual scope s.heap.objs.size f cd::outer
 ex:=[]
 calm:=true
 fn:=fun _=>true
 pn:=[]
 xe:=fun e s'=>wpAny (model P w) (A.deeper (envOfC qual scope s.heap.objs.size f cd)) (leaving (envOfC qual scope s.heap.objs.size f cd) e) (fun _ s''=>CX outer H s E e s'') (fun e' s''=>CX outer H s E e' s'') s'
theorem N0 {sc:Scope}{n:Nat}{x:Str}(h:sc.names.lookup x=some .cell):∃ c,(cellsFrom n sc.names []).lookup x=some c:=by
 have q:=PySem.W.cellsFrom_some sc.names n [] (.inl h)
 exact R1.mp q
theorem Zh8 {CX:C5}{P:Program}{w:World}{K:Os}{mg:Str->Option Value}{base:Heap}{N ps:List Str}{qual:Str}{scope:Scope}{f:Addr}{cd:Value}{A:Around}{outer:List Env}{s s1:Shared}{H:Hp}{E:XK}{us:List Value}{vs:List V}
  (S:Bm N ps scope) (hd:A.handled=none) (e0:Lm P w K mg base A outer s H) (hl:vs.length=ps.length) (r:Vals vs us)
  (x:InCallC s s.heap.objs.size (bindL (envOfC qual scope s.heap.objs.size f cd).kindOf (ps.zip us) fun _=>none) (cellsFrom (s.heap.objs.size+1) scope.names []) (bindC (envOfC qual scope s.heap.objs.size f cd).kindOf (ps.zip us) fun _=>none) s1) :
  Inv (F2 CX P w K mg base N qual scope f cd A outer s H E) [] (start N vs) H s1:=by
 have hpl:ps.length<=N.length:=by have:=congrArg T9 S.pre;rw [Pg] at this;omega
 obtain ⟨h1,tk,rfl,hk⟩:=x.done
 have noA:∀ b:Addr,b ∉ (F2 CX P w K mg base N qual scope f cd A outer s H E).ex:=fun b z=>absurd (show b∈([]:List Addr) from z) (by simp)
 refine ⟨⟨e0.mod,S.kind,rfl,rfl,Ow _,fun y z c h1 h2=>?_,fun y hy=>?_,fun y c _ h=>?_,fun _=>hd,Around.frames_deeper e0.frames,.inr ⟨rfl,rfl⟩,fun b z=>absurd z (noA b),e0.bs,e0.bsz,fun b _ _=>noA b,fun b z=>absurd z (noA b),e0.funs,e0.frf⟩,
  rfl,e0.bare,Un.kept hk,⟨_,x.toInCall.ns,fun i y v h1 h2 h3=>?_⟩,fun y c h=>⟨_,x.cell y c h⟩,e0.hok.fresh (Ow _),fun y c h=>?_,fun p hp=>absurd (show p∈([]:List (Addr×Obj)) from hp) (by simp),e0.hok.kept hk,?_⟩
 ·exact name_of_addr x.apart (Q0 h1) (Q0 h2)
 ·have hy:scope.names.lookup y=some .cell\/scope.names.lookup y=some .free:=hy
  rcases hy with hy | hy
  ·exact N0 hy
  ·exact absurd rfl (S.nofree _ (Q0 hy))
 ·exact Sj (x.above y c (Q0 h))
 ·have hi:i < vs.length:=by
   unfold start at h2
   by_cases hi:i < vs.length
   ·exact hi
   ·rw [Qf (by simpa using hi)] at h2
    rw [List.getElem?_replicate] at h2
    split at h2 <;> cases h2
  have ha:vs[i]?=some v:=by
   unfold start at h2
   rw [Px (by simpa using hi),Pk] at h2
   cases e:vs[i]? with
   | none=>rw [e] at h2;cases h2
   | some a=>rw [e] at h2;cases h2;rfl
  obtain ⟨u,hu,rv⟩:=r.get ha
  have hp:ps[i]?=some y:=by
   rw [<- S.pre,List.getElem?_take_of_lt (by omega)];exact h1
  have ndP:ps.Nodup:=by rw [<- S.pre];exact S.nd.sublist (List.take_sublist _ _)
  refine ⟨u,rv,?_⟩
  rcases S.par y (P4 hp) with k | k
  ·exact .inl ⟨k,Zer ndP hp hu k⟩
  ·obtain ⟨c,e⟩:=N0 (n:=s.heap.objs.size+1) k
   refine .inr ⟨.inl k,c,e,?_⟩
   have q:=x.cell y c e
   rw [Zbs ndP hp hu (by show scope.names.lookup y≠_;rw [k];decide)] at q
   exact q
 ·exact e0.hok.fresh (Sj (x.above y c (Q0 h)))
 ·unfold start
  show _=N.length
  rw [O4,O0,List.length_replicate]
  omega
theorem Zgl {CX:C5}{P:Program}{w:World}{K:Os}{mg:Str->Option Value}{base:Heap}{k:Nat}{f:Addr}{name qual:Str}{params:Arguments}{body:List Stmt}{scope:Scope}{dV kV doc pm cdv ct oc:Value}{an od:Option Addr}
  {osl:Array (Option Value)} {N ps:List Str} {sp:Sp} (lk:K.lookup f=some ⟨oc,od,.func (Qv name qual params body scope dV kV doc pm an cdv ct),osl⟩) (hcd:PySem.W.codeIn K cdv qual=true) (S:Bm N ps scope)
  (len:∀ vs H Q E,sp vs H Q E->vs.length=ps.length)
  (hbody:∀(A:Around)(outer:List Env)(s:Shared)(H:Hp)(vs:List V)(Q:VK)(E:XK),Room k (A.deeper (envOfC qual scope s.heap.objs.size f cdv))->sp vs H Q E ->
   ∃ t,PSs (F2 CX P w K mg base N qual scope f cdv A outer s H E) body t/\t { nx:=fun _ H'=>Q .non H',rt:=Q } (start N vs) H) :
  A9 P w K mg base CX (k+1) f (Qv name qual params body scope dV kV doc pm an cdv ct) ps sp:=by
 refine ⟨len,fun A outer s H args us vs Q E hr e0 hb r hsp=>?_⟩
 have hl:=len _ _ _ _ hsp
 have KX:K.In s.heap:=e0.mod.kin.keeps fun b o e=>(e0.bs b o e).1
 have lim:s.heap.NoLimit:=e0.mod.nolimit.keeps fun b o e=>(e0.bs b o e).1
 have hkind:∀ y∈ps.zip us,scope.names.lookup y.1=some .local\/(scope.names.lookup y.1=some .cell/\((cellsFrom (s.heap.objs.size+1) scope.names []).lookup y.1).isSome=true):=fun ⟨n,v⟩ hy=>by
  rcases S.par n (U4 hy).1 with q | q
  ·exact .inl q
  ·exact .inr ⟨q,PySem.W.cellsFrom_some _ _ _ (.inl q)⟩
 refine codeAny_call_function hr.depth (KX _ _ lk) rfl S.co S.gen rfl (PySem.W.codeRec_of KX hcd) (hb _ _ _ _ ?_)
 refine wpAny_newFunctionEnv_cells S.kind hkind fun env he s1 x=>?_
 subst he
 refine ⟨lim.keeps x.toInCall.keep,codeAny_func ?_⟩
 obtain ⟨t,ht,hq⟩:=hbody A outer s H vs Q E (hr.deeper _) hsp
 have I:Inv (F2 CX P w K mg base N qual scope f cdv A outer s H E) [] (start N vs) H s1:=Zh8 S hr.hd e0 hl r x
 refine Rx (ht [] s1 (start N vs) H _ I hq) (fun fl s' hs=>?_) fun e s' hs=>hs
 have fin:∀{σ':St}{H':Hp}{v:V}{u:Value},Inv (F2 CX P w K mg base N qual scope f cdv A outer s H E) [] σ' H' s'->RelV v u->Q v H'->CE outer P w H s Q u s' :=
  fun {σ' H' v u} J rv q=>⟨v,H',J.os,J.bare,J.base,J.hok,rv,q⟩
 cases fl with
 | ret u =>
  obtain ⟨v,σ',H',J,rv,q⟩:=hs
  exact fin J rv q
 | next =>
  obtain ⟨σ',H',J,q⟩:=hs
  exact fin (v:=V.non) (u:=Value.none) J rfl q
 | brk =>
  obtain ⟨_,_,_,q⟩:=hs
  exact Qm q
 | cont =>
  obtain ⟨_,_,_,q⟩:=hs
  exact Qm q
section
variable {X:Cx}{x:Str}{p pos:Pos}{e:Expr}{es:List Expr}{t:TA}{id T:String}{r:List V->Hp->VK->Prop}
noncomputable def tCB (r:List V->Hp->VK->Prop)(t:TA):TE:=fun σ H Q=>t σ H fun vs H1=>r vs H1 Q
theorem Zlm (hc:Cj X (.builtin id) r)(hg:Gl X x)(hm:X.mg x=none)(hv:bootBuiltins x=some (.builtin id))(ha:PA X (e::es) t)(hn:x ≠ "__name__" := by decide)(hdb:(x == ("__debug__" : Str))=false:=by decide)
  (he:starEach (e::es) X.env=(false,eval e X.env)::starEach es X.env:=by rfl) (hpl:(backTo pos (starEach es X.env)).any (·.1)=false:=by rfl):PE X (.Call (.Name x p) (e::es) [] pos) (tCB r t):=by
 intro pins s σ H Q I h
 refine Ur (Dj I hg hm hv ?_ hn hdb)
 exact PyProof.Rows.callWith_builtin1 (Aj (ha pos pins s σ H _ I h) fun us s1 ⟨vs,H1,I1,r1,q1⟩=>hc pins s1 σ H1 vs us Q I1 r1 q1) he hpl
theorem Zj1 (hc:Cj X (.type T) r)(hg:Gl X x)(hm:X.mg x=none)(hv:bootBuiltins x=some (.type T))(ha:PA X (e::es) t)(hn:x ≠ "__name__" := by decide)(hdb:(x == ("__debug__" : Str))=false:=by decide)
  (he:starEach (e::es) X.env=(false,eval e X.env)::starEach es X.env:=by rfl) (hpl:(backTo pos (starEach es X.env)).any (·.1)=false:=by rfl):PE X (.Call (.Name x p) (e::es) [] pos) (tCB r t):=by
 intro pins s σ H Q I h
 refine Ur (Dj I hg hm hv ?_ hn hdb)
 exact P6 (Aj (ha pos pins s σ H _ I h) fun us s1 ⟨vs,H1,I1,r1,q1⟩=>hc pins s1 σ H1 vs us Q I1 r1 q1) he hpl
end
end L2
namespace HT
open PySem PyProof.Rows
section
open PySem.SeqAt
open PySem.AutoSeq1 (wpAny_loadPart')
open PySem.MeetsSeq PySem.MeetsSeq2 PySem.MeetsSeq3
end
section
variable {prog:Program}{w:World}{A:Around}{E:Value->Shared->Prop}{s:Shared}
theorem cat_tup {t b:Addr}{vs ws:List Value}{Q:Value->Shared->Prop}(ht:IsTup s.heap t vs.toArray)(hb:IsTup s.heap b ws.toArray)(hv:vs≠[])
  (h1:ws=[]->Q (.ref t) s) (h2:ws≠[]->Q (.ref s.heap.objs.size) { s with heap:=s.heap.push { cls:=.type "tuple",data:=.seq (vs++ws).toArray } })
  (hsz:vs.length+ws.length<=sizeLine):wpAny (model prog w) A (binaryOp .Add (.ref t) (.ref b)) Q E s:=by
 obtain ⟨⟨cls,dd,data,sl⟩,ho,hc,n,hd⟩:=id ht
 obtain ⟨⟨cls2,dd2,data2,sl2⟩,ho2,hc2,n2,hd2⟩:=id hb
 simp only at hc hd hc2 hd2
 subst hc hd hc2 hd2
 have e:vs.toArray++ws.toArray=(vs++ws).toArray:=by simp
 by_cases hw:ws=[]
 ·exact T1 ⟨_,ho,rfl⟩ ⟨_,ho2,rfl⟩ Ti Tw Ta Sw (Su _ _)
   (tuple_addW1 t b vs.toArray ws.toArray n n2 dd dd2 sl sl2 (by simpa using hv) (by simp [hw])) ⟨ho,ho2,h1 hw⟩
 ·refine T1 ⟨_,ho,rfl⟩ ⟨_,ho2,rfl⟩ Ti Tw Ta Sw (Su _ _)
   (tuple_addW2 t b vs.toArray ws.toArray n n2 dd dd2 sl sl2 (by simpa using hv) (by simpa using hw) (by rw [Ox,Ox];exact hsz)) ⟨ho,ho2,?_⟩
  rw [e]
  exact h2 hw
noncomputable def sIx (n d:Nat):Option Int->Nat
 | none=>d
 | some v=>if v < 0 then (v+(n:Int)).toNat else min v.toNat n
theorem sIx_none (n d:Nat):sIx n d none=d:=rfl
theorem sIx_nat (n d k:Nat):sIx n d (some (k:Int))=min k n:=by
 show (if (k:Int) < 0 then ((k:Int)+(n:Int)).toNat else min (k:Int).toNat n)=min k n
 rw [if_neg (by omega),R8]
theorem Zkh (n d:Nat)(hd:d<=n)(o:Option Int):sIx n d o<=n:=by
 cases o with
 | none=>exact hd
 | some v =>
  show (if v < 0 then (v+(n:Int)).toNat else min v.toNat n)<=n
  by_cases hv:v < 0
  ·rw [if_pos hv];omega
  ·rw [if_neg hv];exact Nat.min_le_right _ _
theorem Zcn (v:Int)(n d:Nat):(if v < 0 then max (v+(n:Int)) 0 else min v (n:Int))=((sIx n d (some v):Nat):Int):=by
 show (if v < 0 then max (v+(n:Int)) 0 else min v (n:Int))=(((if v < 0 then (v+(n:Int)).toNat else min v.toNat n):Nat):Int)
 by_cases hv:v < 0
 ·simp only [if_pos hv];omega
 ·simp only [if_neg hv];omega
theorem Zki (lo hi:Option Int)(n:Nat):Uc lo hi 1 (n:Int)=(((sIx n 0 lo:Nat):Int),((sIx n n hi:Nat):Int)):=by
 have h1:¬ ((1:Int) < 0):=by omega
 unfold Uc
 simp only [h1,if_false]
 refine Prod.ext ?_ ?_
 ·cases lo with
  | none=>rfl
  | some v=>exact Zcn v n 0
 ·cases hi with
  | none=>rfl
  | some v=>exact Zcn v n n
theorem Zhf (i j:Nat):Ss (i:Int) (j:Int) 1=j - i:=by
 unfold Ss
 have h1:(1:Int) > 0:=by omega
 simp only [h1,if_true,Int.ediv_one]
 split <;> omega
theorem Zc0 {v:Value}{o:Option Int}{Q:Option Int->Shared->Prop}(p:IsPart v o)(h:Q o s):wpAny (model prog w) A (Builtin.Slice.slicePartIndex v) Q E s:=by
 cases p with
 | none=>exact slicePart_none h
 | int i t=>exact slicePart_int h
theorem sliceApplied_gen {sl:Addr}{vl vu:Value}{lo hi:Option Int}{n:Nat}{Q:Int×Int×Nat->Shared->Prop}(hs:s.heap.IsSliceOf sl vl vu .none)(pl:IsPart vl lo)(pu:IsPart vu hi)
  (h:Q (((sIx n 0 lo:Nat):Int),1,sIx n n hi - sIx n 0 lo) s):wpAny (model prog w) A (Builtin.Slice.sliceApplied (.ref sl) (pure (n:Int))) Q E s:=by
 obtain ⟨os,hos,hcs,hds⟩:=id hs
 unfold Builtin.Slice.sliceApplied Builtin.Slice.sliceFields
 refine Ot (Ot (O9 hos hds (x:=vl) rfl (Ot (O9 hos hds (x:=vu) rfl (Ot (O9 hos hds (x:=.none) rfl (Ov ?_)))))))
 refine Ot (slicePart_none ?_)
 show wpAny _ _ (if ((1:Int) == 0)=true then _ else _) _ _ s
 rw [if_neg (by decide)]
 refine Ot (Zc0 pl (Ot (Zc0 pu (Ot (Ov ?_)))))
 show wpAny _ _ (match Uc lo hi 1 (n:Int) with | (lo,hi)=>pure (lo,(1:Int),Ss lo hi 1)) _ _ s
 rw [Zki lo hi n]
 show wpAny _ _ (pure (((sIx n 0 lo:Nat):Int),(1:Int),Ss ((sIx n 0 lo:Nat):Int) ((sIx n n hi:Nat):Int) 1)) _ _ s
 rw [Zhf]
 exact Ov h
theorem Zpd (xs:Array Value)(i k:Nat):((Pe k).filterMap fun (m:Nat)=>xs[((i:Int)+(m:Int) * 1).toNat]?).toArray=((xs.toList.drop i).take k).toArray:=by
 have e:(fun (m:Nat)=>xs[((i:Int)+(m:Int) * 1).toNat]?)=fun m=>xs[i+m]?:=by
  funext m
  have:((i:Int)+(m:Int) * 1).toNat=i+m:=by omega
  rw [this]
 rw [e]
 have:=pick_run xs i k
 rw [List.filterMap_map] at this
 have e2:((fun x=>xs[x]?) ∘ fun x=>i+x)=fun m=>xs[i+m]?:=rfl
 rw [e2] at this
 rw [this]
theorem getItem_tuple_cut {t sl:Addr}{items:Array Value}{vl vu:Value}{lo hi:Option Int}{Q:Value->Shared->Prop}(ht:IsTup s.heap t items)(hs:s.heap.IsSliceOf sl vl vu .none)(pl:IsPart vl lo)(pu:IsPart vu hi)
  (hw:¬ (sIx items.size 0 lo=0/\sIx items.size items.size hi=items.size))
  (h:Q (.ref s.heap.objs.size) { s with heap:=s.heap.push { cls:=.type "tuple",data:=.seq ((items.toList.drop (sIx items.size 0 lo)).take (sIx items.size items.size hi - sIx items.size 0 lo)).toArray } })
  (hsz:items.size<=sizeLine):wpAny (model prog w) A (getItem (.ref t) (.ref sl)) Q E s:=by
 have htake:sizeOk (.seq ((items.toList.drop (sIx items.size 0 lo)).take (sIx items.size items.size hi - sIx items.size 0 lo)).toArray):=by
  show ((items.toList.drop (sIx items.size 0 lo)).take (sIx items.size items.size hi - sIx items.size 0 lo)).toArray.size<=sizeLine
  rw [Ox,Pg,U0,R3]
  omega
 have hj:sIx items.size items.size hi<=items.size:=Zkh _ _ (Ow _) hi
 obtain ⟨os,hos,hcs,hds⟩:=id hs
 have hTs:s.TypeIs (.ref sl) "slice" := ⟨os,hos,hcs⟩
 unfold getItem
 try with_reducible refine Pw ?_
 first | refine Ot (Ov ?_) | skip
 refine Ot (wpAny_sequenceKey ht.typeIs (by decide) ?_)
 refine Ot (Qg (name:=O8 "__getitem__") ht.typeIs Rf
  (Qj Rf ht.typeIs entry_tuple_getitem ?_ (args_tuple_getitem _ _)))
 show wpAny _ _ (Builtin.Tuple.tupleItemsOf (.ref t) >>= _) _ _ s
 refine Ot (tupleItemsOf_ ht ?_)
 refine Ot (Rt hTs ?_)
 rw [if_pos (by decide)]
 refine Ot (sliceApplied_gen hs pl pu ?_)
 have hno:¬ ((((sIx items.size 0 lo:Nat):Int) == 0 && (1:Int) == 1 && (sIx items.size items.size hi - sIx items.size 0 lo) == items.size)=true):=by
  intro q
  rw [P9,P9] at q
  have q1:((sIx items.size 0 lo:Nat):Int)=0:=eq_of_beq q.1.1
  have q2:sIx items.size items.size hi - sIx items.size 0 lo=items.size:=eq_of_beq q.2
  exact hw ⟨by omega,by omega⟩
 show wpAny _ _ (if (((sIx items.size 0 lo:Nat):Int) == 0 && (1:Int) == 1 && (sIx items.size items.size hi - sIx items.size 0 lo) == items.size)=true then _ else _) _ _ s
 rw [if_neg hno,Zpd]
 first
  | exact Ot (m:=Sv _) (Qr (Ov ⟨_,rfl,Ov h⟩) htake)
  | exact Ot (m:=Sv _) (Qr (Ot (Ov (Ov ⟨_,rfl,Ov h⟩))) htake)
  | exact Ot (Ot (m:=Sv _) (Qr (Ov (Ov ⟨_,rfl,Ov h⟩)) htake))
  | exact Ot (Ot (m:=Sv _) (Qr (Ov ⟨_,rfl,Ov h⟩) htake))
end
end HT
namespace L2
open PySem PySem.Spec PyProof.Rows
noncomputable abbrev TO:=St->Hp->(Option Int->Hp->Prop)->Prop
noncomputable def PO (X:Cx)(e:Option Expr)(t:TO):Prop :=
 ∀(pins:List (Addr×Obj))(s:Shared)(σ:St)(H:Hp)(Q:Option Int->Hp->Prop),Inv X pins σ H s->t σ H Q ->
  wpAny (model X.prog X.w) X.A (evalPart e X.env) (fun u s'=>∃ o H',Inv X pins σ H' s'/\IsPart u o/\Q o H') X.xe s
noncomputable def Nq:TO:=fun _ H Q=>Q none H
noncomputable def Nm (t:TE):TO:=fun σ H Q=>t σ H fun x H1=>∃ i,x=.int i/\Q (some i) H1
section
variable {X:Cx}{e:Expr}{te:TE}{lo hi:Option Expr}{tl th:TO}{pos p2:Pos}
theorem Zpu:PO X none Nq:=by
 intro pins s σ H Q I h
 rw [evalPart_none]
 exact Ov ⟨none,H,I,.none,h⟩
theorem Zld (h:PE X e te):PO X (some e) (Nm te):=by
 intro pins s σ H Q I hw
 rw [evalPart_some]
 refine Aj (h pins s σ H _ I hw) fun u s1 zq=>?_
 obtain ⟨x,H1,I1,r1,q1⟩:=zq
 obtain ⟨i,rfl,q⟩:=q1
 obtain ⟨t,rfl⟩:=r1
 exact ⟨some i,H1,I1,.int i t,q⟩
noncomputable def SlR (X:Cx)(r:V->Option Int->Option Int->Hp->VK->Prop):Prop :=
 ∀(pins:List (Addr×Obj))(s:Shared)(σ:St)(H:Hp)(x:V)(v vl vu:Value)(lo hi:Option Int)(sl:Addr)(Q:VK),Inv X pins σ H s->RelV x v->s.heap.IsSliceOf sl vl vu .none->IsPart vl lo->IsPart vu hi->r x lo hi H Q ->
  ∃ T id,typeLookup (.type T) "__getitem__" = pure (some (.builtin id))/\s.TypeIs v T/\wpAny (model X.prog X.w) X.A (getItem v (.ref sl)) (EP X pins σ Q) X.xe s
theorem SlR.or {r r':V->Option Int->Option Int->Hp->VK->Prop}(h:SlR X r)(h':SlR X r'):SlR X (fun x lo hi H Q=>r x lo hi H Q\/r' x lo hi H Q):=by
 intro pins s σ H x v vl vu lo hi sl Q I rx hs pl pu q
 rcases q with q | q
 ·exact h pins s σ H x v vl vu lo hi sl Q I rx hs pl pu q
 ·exact h' pins s σ H x v vl vu lo hi sl Q I rx hs pl pu q
noncomputable def tSl (r:V->Option Int->Option Int->Hp->VK->Prop)(te:TE)(tl th:TO):TE:=fun σ H Q=>te σ H fun x H1=>tl σ H1 fun l H2=>th σ H2 fun u H3=>r x l u H3 Q
theorem Zf3 {r:V->Option Int->Option Int->Hp->VK->Prop}(hr:SlR X r)(he:PE X e te)(hl:PO X lo tl)(hu:PO X hi th):PE X (.Subscript e (.Slice lo hi none p2) pos) (tSl r te tl th):=by
 intro pins s σ H Q I h
 refine Subscript_ (Aj (he pins s σ H _ I h) fun v s1 zq=>?_)
 obtain ⟨x,H1,I1,r1,q1⟩:=zq
 refine wpAny_Slice (Aj (hl pins s1 σ H1 _ I1 q1) fun vl s2 zq=>?_)
 obtain ⟨l,H2,I2,pl,q2⟩:=zq
 refine Aj (hu pins s2 σ H2 _ I2 q2) fun vu s3 zq=>?_
 obtain ⟨u,H3,I3,pu,q3⟩:=zq
 rw [evalPart_none]
 refine Ov ?_
 have I4:Inv X pins σ H3 { s3 with heap:=s3.heap.push { cls:=.type "slice",data:=.fields #[vl,vu,.none] } }:=I3.kept (t':=s3.toks) fun b ob q=>Oz _ q
 obtain ⟨T,id,hT,ht,hg⟩:=hr pins { s3 with heap:=s3.heap.push { cls:=.type "slice",data:=.fields #[vl,vu,.none] } } σ H3 x v vl vu l u s3.heap.objs.size Q I4 r1 (Heap.IsSliceOf.new ..) pl pu q3
 show wpAny (model X.prog X.w) X.A (subscriptTail e (.Slice lo hi none p2) v (.ref s3.heap.objs.size)) (EP X pins σ Q) X.xe { s3 with heap:=s3.heap.push { cls:=.type "slice",data:=.fields #[vl,vu,.none] } }
 exact tail_any (ops:=[.ref s3.heap.objs.size,v]) ht hT hg (by with_unfolding_all rfl)
noncomputable def Cp (xs:List V)(lo hi:Option Int):List V:=(xs.drop (HT.sIx xs.length 0 lo)).take (HT.sIx xs.length xs.length hi - HT.sIx xs.length 0 lo)
theorem Zeo (xs:List V)(lo hi:Option Int):(Cp xs lo hi).length<=xs.length:=by
 unfold Cp
 rw [Pg,U0]
 omega
noncomputable def rSlT (K:Os):V->Option Int->Option Int->Hp->VK->Prop:=fun x lo hi H Q=>∃ a xs,x=.ref a/\SqT K H a xs /\
 ¬ (HT.sIx xs.length 0 lo=0/\HT.sIx xs.length xs.length hi=xs.length)/\∀ p,H p=none->Q (.ref p) (upd H p (.tup (Cp xs lo hi)))
theorem Zcz:SlR X (rSlT X.K):=by
 intro pins s σ H x v vl vu lo hi sl Q I rx hs pl pu h
 obtain ⟨a,xs,rfl,hx,hw,q⟩:=h
 cases rx
 obtain ⟨its,r,ht,hz⟩:=I.tuple hx
 have hlen:its.toArray.size=xs.length:=by rw [Ox];exact r.length.symm
 refine ⟨"tuple",_,Rf.lookup,ht.typeIs,?_⟩
 refine HT.getItem_tuple_cut ht hs pl pu (by rw [hlen];exact hw) ?_ (by rw [hlen];exact hz)
 rw [hlen]
 refine ⟨.ref s.heap.objs.size,_,I.laid (t':=s.toks) (o:=.tup (Cp xs lo hi)) (fun b ob q=>Oz _ q) (Ow _) ?_,rfl,q _ (I.hok.fresh (Ow _))⟩
 exact ⟨Pm (Zeo xs lo hi) hz,_,(r.drop (HT.sIx xs.length 0 lo)).take (HT.sIx xs.length xs.length hi - HT.sIx xs.length 0 lo),IsTup.new _ _⟩
noncomputable def Zn3 (K:Os):R2:=fun x y H Q=>∃ a b xs ys,x=.ref a/\y=.ref b/\SqT K H a xs/\SqT K H b ys/\xs≠[]/\xs.length+ys.length<=sizeLine /\
 (ys=[]->Q (.ref a) H)/\(ys≠[]->∀ p,H p=none->Q (.ref p) (upd H p (.tup (xs++ys))))
theorem Vals.nil_iff {xs:List V}{us:List Value}(r:Vals xs us):us=[]↔xs=[]:=by
 cases r with
 | nil=>simp
 | cons _ _=>simp
theorem Zdq:OpR X (binaryOp .Add) (Zn3 X.K):=by
 intro pins s σ H x y v u Q I rx ry h
 obtain ⟨a,b,xs,ys,rfl,rfl,ha,hb,hx,hz,q1,q2⟩:=h
 cases rx
 cases ry
 obtain ⟨its,r1,p1,_⟩:=I.tuple ha
 obtain ⟨its2,r2,p2,_⟩:=I.tuple hb
 refine HT.cat_tup p1 p2 (fun z=>hx (r1.nil_iff.mp z)) (fun z=>⟨.ref a,H,I,rfl,q1 (r2.nil_iff.mp z)⟩) (fun z=>?_) (by rw [<- r1.length,<- r2.length];exact hz)
 refine ⟨.ref s.heap.objs.size,_,I.laid (t':=s.toks) (o:=.tup (xs++ys)) (fun b ob q=>Oz _ q) (Ow _) ?_,rfl,q2 (fun w=>z (r2.nil_iff.mpr w)) _ (I.hok.fresh (Ow _))⟩
 exact ⟨by rw [O4];exact hz,_,r1.append r2,IsTup.new _ _⟩
end
noncomputable def C0 (n:Nat)(i:Int):Option Nat:=if 0<=i then (if i < n then some i.toNat else none) else if -(n:Int)<=i then some (i+n).toNat else none
noncomputable def B0 {α:Type}(xs:List α)(i:Int):Option α:=(C0 xs.length i).bind fun j=>xs[j]?
theorem Ze2 {n:Nat}{i:Int}{j:Nat}(h:C0 n i=some j):seqIndex? i n=some j/\j < n/\-(n:Int)<=i/\i < n:=by
 unfold C0 at h
 by_cases h0:0<=i
 ·rw [if_pos h0] at h
  by_cases h1:i < n
  ·rw [if_pos h1] at h
   have e:i.toNat=j:=Pb h
   exact ⟨by rw [seqIndex_of h0 h1,e],by omega,by omega,h1⟩
  ·rw [if_neg h1] at h;cases h
 ·rw [if_neg h0] at h
  by_cases h1:-(n:Int)<=i
  ·rw [if_pos h1] at h
   have e:(i+n).toNat=j:=Pb h
   exact ⟨by rw [seqIndex_neg (by omega) h1,e],by omega,h1,by omega⟩
  ·rw [if_neg h1] at h;cases h
theorem Za0 {α:Type}{xs:List α}{i:Int}{v:α}(h:B0 xs i=some v):∃ j,seqIndex? i xs.length=some j/\xs[j]?=some v/\j < xs.length/\-(xs.length:Int)<=i/\i < xs.length:=by
 unfold B0 at h
 cases e:C0 xs.length i with
 | none=>rw [e] at h;cases h
 | some j =>
  rw [e] at h
  obtain ⟨h1,h2,h3,h4⟩:=Ze2 e
  exact ⟨j,h1,h,h2,h3,h4⟩
theorem Bp {α:Type}{xs:List α}{j:Nat}{v:α}(h:xs[j]?=some v):B0 xs (j:Int)=some v:=by
 have hj:j < xs.length:=(O2.mp h).1
 have e:C0 xs.length (j:Int)=some j:=by
  unfold C0
  rw [if_pos (by omega),if_pos (by omega)];simp
 unfold B0;rw [e];exact h
theorem Hq {α:Type}(xs:List α)(v:α):B0 (xs++[v]) (-1)=some v:=by
 have hl:(xs++[v]).length=xs.length+1:=by simp
 have e:C0 (xs++[v]).length (-1)=some xs.length:=by
  unfold C0
  rw [hl,if_neg (by decide),if_pos (by omega)]
  congr 1
  omega
 unfold B0
 rw [e]
 show (xs++[v])[xs.length]?=some v
 simp
noncomputable def Mm (b:Expr):Prop:=∀ o i,subscripted b false o i=operate [o,i] (getItem o i)
noncomputable def IxR (X:Cx)(r:R2):Prop :=
 ∀(value slice:Expr)(pins:List (Addr×Obj))(s:Shared)(σ:St)(H:Hp)(x y:V)(v u:Value)(Q:VK),Inv X pins σ H s->RelV x v->RelV y u->r x y H Q ->
  subscripted slice false v u=operate [v,u] (getItem v u)->wpAny (model X.prog X.w) X.A (subscriptTail value slice v u) (EP X pins σ Q) X.xe s
noncomputable def Hr (X:Cx)(id:String)(r:V->List V->Hp->VK->Prop):Prop :=
 ∀(pins:List (Addr×Obj))(s:Shared)(σ:St)(H:Hp)(x:V)(xs:List V)(v:Value)(us:List Value)(Q:VK),Inv X pins σ H s->RelV x v->Vals xs us->r x xs H Q ->
  wpAny (model X.prog X.w) X.A (call (.builtin id) (v::us)) (EP X pins σ Q) X.xe s
section
variable {X:Cx}{a b:Expr}{ta tb:TE}{pos:Pos}
theorem IxR.or {r r':R2}(h:IxR X r)(h':IxR X r'):IxR X (fun x y H Q=>r x y H Q\/r' x y H Q):=by
 intro value slice pins s σ H x y v u Q I rx ry q hs
 rcases q with q | q
 ·exact h value slice pins s σ H x y v u Q I rx ry q hs
 ·exact h' value slice pins s σ H x y v u Q I rx ry q hs
theorem Zf5 {r:R2}(hr:IxR X r)(ha:PE X a ta)(hb:PE X b tb)(hs:Mm b):PE X (.Subscript a b pos) (Eh r ta tb):=by
 intro pins s σ H Q I h
 exact Subscript_ (Nf ha hb I h fun v u s2 x y H2 I2 rx ry q=>hr a b pins s2 σ H2 x y v u Q I2 rx ry q (hs _ _))
noncomputable def rIxL (K:Os):R2:=fun x y H Q=>∃ p xs i v,x=.ref p/\y=.int i/\SqL K H p xs/\B0 xs i=some v/\Q v H
noncomputable def rIxT (K:Os):R2:=fun x y H Q=>∃ p xs i v,x=.ref p/\y=.int i/\SqT K H p xs/\B0 xs i=some v/\Q v H
noncomputable def rIxS:R2:=fun x y H Q=>∃ z i c,x=.str z/\y=.int i/\z.length<=sizeLine/\B0 z.cps.toList i=some c/\Q (.str ⟨#[c]⟩) H
theorem ix_list:IxR X (rIxL X.K):=by
 intro value slice pins s σ H x y v u Q I rx ry h hs
 obtain ⟨p,xs,i,z,rfl,rfl,hq,he,q⟩:=h
 cases rx
 obtain ⟨t,rfl⟩:=ry
 obtain ⟨its,r,pl,hz⟩:=I.list hq
 obtain ⟨j,h1,h2,h3,h4,h5⟩:=Za0 he
 obtain ⟨w,ew,rw'⟩:=r.get h2
 have hl:=r.length
 have hn:=G0
 have fin:EP X pins σ Q w s:=⟨z,H,I,rw',q⟩
 by_cases h0:0<=i
 ·have hj:i.toNat=j:=by
   rw [seqIndex_of h0 h5] at h1
   exact Pb h1
  exact item_listR pl.isList h0 (by omega) (by rw [hj];simpa using ew) fin hs
 ·have hj:(i+(its.toArray.size:Int)).toNat=j:=by
   rw [seqIndex_neg (by omega) h4] at h1
   rw [Ox,<- hl]
   exact Pb h1
  exact subscriptTail_builtinR (x:=w) pl.isList.typeIs slot_list_getitem.lookup
   (wpAny_getItem_list_neg (Q:=fun r s'=>r=w/\EP X pins σ Q r s') pl.isList (by omega) (by rw [Ox] <;> omega) (by omega) (by rw [hj];simpa using ew) ⟨rfl,fin⟩) hs
theorem ix_tup:IxR X (rIxT X.K):=by
 intro value slice pins s σ H x y v u Q I rx ry h hs
 obtain ⟨p,xs,i,z,rfl,rfl,hq,he,q⟩:=h
 cases rx
 obtain ⟨t,rfl⟩:=ry
 obtain ⟨its,r,pl,hz⟩:=I.tuple hq
 obtain ⟨j,h1,h2,h3,h4,h5⟩:=Za0 he
 obtain ⟨w,ew,rw'⟩:=r.get h2
 have hl:=r.length
 have hn:=G0
 have fin:EP X pins σ Q w s:=⟨z,H,I,rw',q⟩
 exact subscriptTail_builtinR (x:=w) pl.typeIs slot_tuple_getitem.lookup
  (getItem_tuple (j:=j) (Q:=fun r s'=>r=w/\EP X pins σ Q r s') pl (by omega) (by omega) (by rw [Ox,<- hl];exact h1) (by simpa using ew) ⟨rfl,fin⟩) hs
theorem Znx:IxR X rIxS:=by
 intro value slice pins s σ H x y v u Q I rx ry h hs
 obtain ⟨z,i,c,rfl,rfl,hz,he,q⟩:=h
 obtain ⟨t,rfl⟩:=rx
 obtain ⟨t',rfl⟩:=ry
 obtain ⟨j,h1,h2,h3,h4,h5⟩:=Za0 he
 have hl:z.cps.toList.length=z.length:=by simp [Str.length]
 rw [hl] at h1 h4 h5
 have hn:=G0
 exact tail_any (typeIs_str s z t) slot_str_getitem.lookup (getItem_str (c:=c) (by
  have e1:decide (i < -(2 ^ 63:Int))=false:=decide_eq_false (by omega)
  have e2:decide (i ≥ 2 ^ 63)=false:=decide_eq_false (by omega)
  rw [e1,e2,Tx]) (by rw [h1];simpa using h2) ⟨.str ⟨#[c]⟩,H,I.tok _,⟨_,rfl⟩,q⟩) hs
noncomputable def Gw (K:Os):R2:=fun x y H Q=>rIxL K x y H Q\/rIxT K x y H Q\/rIxS x y H Q
theorem Zlv:IxR X (Gw X.K):=ix_list.or (ix_tup.or Znx)
theorem Zpq (its:List Value)(n j:Nat)(u:Value):Pq (·.setIfInBounds j u) { cls:=.type "list",data:=.seq its.toArray n }={ cls:=.type "list",data:=.seq (its.set j u).toArray n }:=by
 simp [Pq]
theorem Inv.lst {pins:List (Addr×Obj)}{σ:St}{H:Hp}{s:Shared}{p:Addr}{xs:List V}(I:Inv X pins σ H s)(h:H p=some (.lst xs)) :
  ∃(its:List Value)(n:Nat),Vals xs its/\s.heap.get? p=some { cls:=.type "list",data:=.seq its.toArray n }/\xs.length<=sizeLine:=by
 obtain ⟨z,its,n,r,e⟩:=I.hok p _ h
 exact ⟨its,n,r,e,z⟩
theorem Inv.lstUpd {pins:List (Addr×Obj)}{σ:St}{H:Hp}{s:Shared}{p:Addr}{xs ys:List V}{its its':List Value}{n n':Nat}{f:Obj->Obj}(I:Inv X pins σ H s)(h:H p=some (.lst xs))
  (ho:s.heap.get? p=some { cls:=.type "list",data:=.seq its.toArray n }) (hf:f { cls:=.type "list",data:=.seq its.toArray n }={ cls:=.type "list",data:=.seq its'.toArray n' }) (r:Vals ys its') (hz:ys.length<=sizeLine) (t:Nat) :
  Inv X pins σ (upd H p (.lst ys)) { s with heap:=s.heap.update p f,toks:=t }:=by
 have e:(s.heap.update p f).get? p=some { cls:=.type "list",data:=.seq its'.toArray n' }:=by
  rw [Rj f ho (by rw [hf] <;> rfl),hf]
 refine I.write (x:=p) (e:=p) (by rw [h];trivial) (.inl rfl) (fun b u hb q=>(Ri _ _ (Pj hb)).trans q) ⟨_,e⟩ ?_
 exact ⟨hz,its',n',r,e⟩
noncomputable def Zc1:V->V->V->Hp->(Hp->Prop)->Prop:=fun o i v H Q=>∃ p xs k j,o=.ref p/\i=.int k/\H p=some (.lst xs)/\C0 xs.length k=some j/\Q (upd H p (.lst (xs.set j v)))
theorem Zgn:Zar X Zc1:=by
 intro pins s σ H o i v ov iv u Q I ro ri rv h
 obtain ⟨p,xs,k,j,rfl,rfl,hp,hj,q⟩:=h
 cases ro
 obtain ⟨t,rfl⟩:=ri
 obtain ⟨its,n,r,ho,hz⟩:=I.lst hp
 obtain ⟨h1,h2,h3,h4⟩:=Ze2 hj
 have hl:=r.length
 have hn:=G0
 have I':Inv X pins σ (upd H p (.lst (xs.set j v))) { s with heap:=s.heap.update p (Pq (·.setIfInBounds j u)) } :=
  I.lstUpd hp ho (Zpq its n j u) (r.set rv j) (by rw [Tq];exact hz) s.toks
 by_cases h0:0<=k
 ·have hk:k.toNat=j:=by
   rw [seqIndex_of h0 h4] at h1
   exact Pb h1
  exact PySem.W.ki_setAt ho h0 (by omega) (by rw [Ox,<- hl];exact h4) (by rw [hk];exact ⟨_,I',q⟩)
 ·have hk:(k+(its.toArray.size:Int)).toNat=j:=by
   rw [seqIndex_neg (by omega) h3] at h1
   rw [Ox,<- hl]
   exact Pb h1
  exact PySem.W.ki_setBack ho (by omega) (by rw [Ox,<- hl];exact h3) (by omega) (by rw [hk];exact ⟨_,I',q⟩)
theorem Zm9 (lo hi:Option Int)(n:Nat):(sliceBounds lo hi none n).1=((HT.sIx n 0 lo:Nat):Int)/\(sliceBounds lo hi none n).2.1=((HT.sIx n n hi:Nat):Int)/\(sliceBounds lo hi none n).2.2=1:=by
 refine ⟨?_,?_,rfl⟩
 ·cases lo with
  | none=>simp [sliceBounds,HT.sIx]
  | some i =>
   simp only [sliceBounds,HT.sIx,Option.getD_none,show (1:Int) > 0 by decide,if_true]
   by_cases h:i < 0
   ·simp only [h,if_true] <;> omega
   ·simp only [h,if_false] <;> omega
 ·cases hi with
  | none=>simp [sliceBounds,HT.sIx]
  | some i =>
   simp only [sliceBounds,HT.sIx,Option.getD_none,show (1:Int) > 0 by decide,if_true]
   by_cases h:i < 0
   ·simp only [h,if_true] <;> omega
   ·simp only [h,if_false] <;> omega
theorem Zl8 (its:List Value)(lo hi:Option Int):slicePick its.toArray lo hi none=((its.drop (HT.sIx its.length 0 lo)).take (HT.sIx its.length its.length hi - HT.sIx its.length 0 lo)).toArray:=by
 obtain ⟨h1,h2,h3⟩:=Zm9 lo hi its.toArray.size
 unfold slicePick
 rw [h1,h2,h3]
 simp only [sliceRange_one,pick_run,Ox] <;> rfl
noncomputable def N8 (K:Os):V->Option Int->Option Int->Hp->VK->Prop:=fun x lo hi H Q=>∃ a xs,x=.ref a/\SqL K H a xs/\∀ p,H p=none->Q (.ref p) (upd H p (.lst (Cp xs lo hi)))
theorem sl_list:SlR X (N8 X.K):=by
 intro pins s σ H x v vl vu lo hi sl Q I rx hs pl pu h
 obtain ⟨a,xs,rfl,hx,q⟩:=h
 cases rx
 obtain ⟨its,r,ht,hz⟩:=I.list hx
 have hlen:=r.length
 refine ⟨"list",_,slot_list_getitem.lookup,ht.isList.typeIs,?_⟩
 refine wpAny_getItem_list_slice ht.isList hs pl pu .none (by simp) ?_ (by rw [Ox] <;> omega)
 rw [Zl8,<- hlen]
 refine ⟨.ref s.heap.objs.size,_,I.laid (t':=s.toks) (o:=.lst (Cp xs lo hi)) (fun b ob q=>Oz _ q) (Ow _) ?_,rfl,q _ (I.hok.fresh (Ow _))⟩
 exact ⟨Pm (Zeo xs lo hi) hz,_,0,(r.drop (HT.sIx xs.length 0 lo)).take (HT.sIx xs.length xs.length hi - HT.sIx xs.length 0 lo),Pc _ rfl⟩
noncomputable def Cz:V->Bool
 | .non=>true
 | .bl _=>true
 | .int _=>true
 | .str _=>true
 | _=>false
noncomputable def Ds:V->V->Bool
 | .non,.non=>true
 | .bl a,.bl b=>a == b
 | .bl a,.int b=>(if a then 1 else 0) == b
 | .int a,.bl b=>a == (if b then 1 else 0)
 | .int a,.int b=>a == b
 | .str a,.str b=>a == b
 | _,_=>false
theorem N3 {A:Around}{s:Shared}{y x:V}{u v:Value}(ry:RelV y u)(rx:RelV x v)(fy:Cz y=true)(fx:Cz x=true):Pa A s u v (Ds y x):=by
 cases y with
 | non =>
  cases ry
  cases x with
  | non=>cases rx;exact U5 _
  | bl b=>cases rx;exact Pa.none_bool b
  | int b=>obtain ⟨t,rfl⟩:=rx;exact Pa.none_int b t
  | str b=>obtain ⟨t,rfl⟩:=rx;exact Pa.none_str b t
  | _=>exact absurd (show false=true from fx) O6
 | bl a =>
  cases ry
  cases x with
  | non=>cases rx;exact Pa.bool_none a
  | bl b=>cases rx;exact Pa.bool_bool a b
  | int b=>obtain ⟨t,rfl⟩:=rx;exact Pa.bool_int a b t
  | str b=>obtain ⟨t,rfl⟩:=rx;exact Pa.bool_str a b t
  | _=>exact absurd (show false=true from fx) O6
 | int a =>
  obtain ⟨t',rfl⟩:=ry
  cases x with
  | non=>cases rx;exact Pa.int_none a t'
  | bl b=>cases rx;exact Pa.int_bool a t' b
  | int b=>obtain ⟨t,rfl⟩:=rx;exact Pa.int_int a t' b t
  | str b=>obtain ⟨t,rfl⟩:=rx;exact Pa.int_str a t' b t
  | _=>exact absurd (show false=true from fx) O6
 | str a =>
  obtain ⟨t',rfl⟩:=ry
  cases x with
  | non=>cases rx;exact Pa.str_none a t'
  | bl b=>cases rx;exact Pa.str_bool a t' b
  | int b=>obtain ⟨t,rfl⟩:=rx;exact Pa.str_int a t' b t
  | str b=>obtain ⟨t,rfl⟩:=rx;exact Pa.str_str a t' b t
  | _=>exact absurd (show false=true from fx) O6
 | _=>exact absurd (show false=true from fy) O6
noncomputable def Ej (x:V)(u:Value):Bool:=match u with
 | .none=>Ds .non x
 | .bool b=>Ds (.bl b) x
 | .int i _=>Ds (.int i) x
 | .str z _=>Ds (.str z) x
 | _=>false
theorem Zc6 {x y:V}{u:Value}(r:RelV y u)(f:Cz y=true):Ej x u=Ds y x:=by
 cases y with
 | non=>cases r;rfl
 | bl b=>cases r;rfl
 | int i=>obtain ⟨t,rfl⟩:=r;rfl
 | str z=>obtain ⟨t,rfl⟩:=r;rfl
 | _=>exact absurd (show false=true from f) O6
theorem Ny {x:V}:∀{xs:List V}{us:List Value},Vals xs us->xs.all Cz=true->us.any (Ej x)=xs.any fun y=>Ds y x
 | _,_,.nil,_=>rfl
 | y::xs,u::us,.cons r t,f=>by
  rw [Tz,P9] at f
  rw [Si,Si,Zc6 r f.1,Ny t f.2]
theorem Oo {A:Around}{s:Shared}{x:V}{v:Value}(rx:RelV x v)(fx:Cz x=true):∀{xs:List V}{us:List Value},Vals xs us->xs.all Cz=true->∀ u∈us,Pa A s u v (Ej x u)
 | _,_,.nil,_=>fun u hu=>by cases hu
 | y::xs,u::us,.cons r t,f=>fun u' hu=>by
  rw [Tz,P9] at f
  rcases O1.mp hu with rfl | hu
  ·rw [Zc6 r f.1];exact N3 r rx f.1 fx
  ·exact Oo rx fx t f.2 u' hu
noncomputable def Ek (x:V)(xs:List V):Bool:=xs.any fun y=>Ds y x
noncomputable def rIn (K:Os)(neg:Bool):R2:=fun x y H Q=>∃ p xs,y=.ref p/\(SqL K H p xs\/SqT K H p xs)/\Cz x=true/\xs.all Cz=true/\Q (.bl (if neg then !Ek x xs else Ek x xs)) H
theorem op_in_seq:OpR X (compareOp .In) (rIn X.K false):=by
 intro pins s σ H x y v u Q I rx ry h
 obtain ⟨p,xs,rfl,hq,fx,fs,q⟩:=h
 cases ry
 rcases hq with hq | hq
 ·obtain ⟨its,r,pl,hz⟩:=I.list hq
  refine SeqAt.in_listAt (Ej x) pl.isList (fun w hw=>Oo rx fx r fs w (by simpa using hw)) ⟨.bl _,H,I,rfl,?_⟩
  rw [show its.toArray.any (Ej x)=its.any (Ej x) by simp,Ny r fs]
  exact q
 ·obtain ⟨its,r,pl,hz⟩:=I.tuple hq
  refine SeqAt.in_tupleAt (Ej x) pl (fun w hw=>Oo rx fx r fs w (by simpa using hw)) ⟨.bl _,H,I,rfl,?_⟩
  rw [show its.toArray.any (Ej x)=its.any (Ej x) by simp,Ny r fs]
  exact q
theorem Zjx:Cj X (.type "list") (fun xs H Q=>∃ p ys,xs=[.ref p]/\(SqL X.K H p ys\/SqT X.K H p ys)/\∀ l,H l=none->Q (.ref l) (upd H l (.lst ys))):=by
 intro pins s σ H xs us Q I r h
 obtain ⟨p,ys,rfl,hq,q⟩:=h
 obtain ⟨u,rfl,rx⟩:=Hn r
 cases rx
 have fin:∀(its:List Value),Vals ys its->ys.length<=sizeLine->∀(h':Heap)(c':Nat),(∀ b o',s.heap.get? b=some o'->h'.get? b=some o') ->
   h'.get? s.heap.objs.size=some { cls:=.type "list",dict:=none,data:=.seq its.toArray c',slots:=#[] }->EP X pins σ Q (.ref s.heap.objs.size) { s with heap:=h' }:=fun its r' hz h' c' kp e =>
  ⟨.ref s.heap.objs.size,_,I.laid (t':=s.toks) kp (Ow _) (show ObjOk X.prog X.w _ h' _ (.lst ys) from ⟨hz,its,c',r',e⟩),rfl,q _ (I.hok.fresh (Ow _))⟩
 rcases hq with hq | hq
 ·obtain ⟨its,r',pl,hz⟩:=I.list hq
  have hlen:=r'.length
  obtain ⟨o,ho,hc,n,hd⟩:=pl.isList
  exact call_list_seq p (.inl rfl) ho hc hd (fun h' c' kp e=>fin its r' hz h' c' kp e) (by simp only [Ox] <;> omega)
 ·obtain ⟨its,r',pl,hz⟩:=I.tuple hq
  have hlen:=r'.length
  obtain ⟨o,ho,hc,n,hd⟩:=pl
  exact call_list_seq p (.inr rfl) ho hc hd (fun h' c' kp e=>fin its r' hz h' c' kp e) (by simp only [Ox] <;> omega)
theorem Zh9:Cj X (.type "tuple") (fun xs H Q=>∃ p ys,xs=[.ref p]/\((SqL X.K H p ys/\∀ l,H l=none->Q (.ref l) (upd H l (.tup ys)))\/(SqT X.K H p ys/\Q (.ref p) H))):=by
 intro pins s σ H xs us Q I r h
 obtain ⟨p,ys,rfl,h⟩:=h
 obtain ⟨u,rfl,rx⟩:=Hn r
 cases rx
 rcases h with ⟨hq,q⟩ | ⟨hq,q⟩
 ·obtain ⟨its,r',pl,hz⟩:=I.list hq
  have hlen:=r'.length
  refine call_tuple_list pl.isList (fun h' kp=>?_) (by simp only [Ox] <;> omega)
  have I1:Inv X pins σ H { s with heap:=h' }:=I.kept (t':=s.toks) kp
  have I2:Inv X pins σ (upd H h'.objs.size (.tup ys)) { s with heap:=h'.push { cls:=.type "tuple",data:=.seq its.toArray } } :=
   I1.laid (t':=s.toks) (fun b o e=>Oz _ e) (Ow _) (show ObjOk X.prog X.w _ _ _ (.tup ys) from ⟨hz,its,r',IsTup.new _ _⟩)
  exact ⟨.ref h'.objs.size,_,I2,rfl,q _ (I1.hok.fresh (Ow _))⟩
 ·obtain ⟨its,r',pl,hz⟩:=I.tuple hq
  exact call_tuple_same pl ⟨.ref p,H,I,rfl,q⟩
noncomputable def Ht (K:Os)(T:String)(x:V)(H:Hp):Prop:=match x with
 | .str _=>T = "str"
 | .int _=>T = "int"
 | .ref p=>(T = "list" /\ ∃ xs,SqL K H p xs)\/(T = "tuple" /\ ∃ o,K.lookup p=some o/\o.cls=.type "tuple" /\ o.dict=none) \/
   (T = "dict" /\ ((∃ kvs,H p=some (.dK kvs))\/∃ kvs,H p=some (.dT kvs)))\/(T = "set" /\ ∃ S n,H p=some (.set S n))
 | _=>False
theorem Zev {pins:List (Addr×Obj)}{σ:St}{H:Hp}{s:Shared}{T:String}{x:V}{v:Value}(I:Inv X pins σ H s)(r:RelV x v)(ty:Ht X.K T x H) :
  s.TypeIs v T/\∀ a,v=.ref a->∃ ob,s.heap.get? a=some ob/\ob.dict=none:=by
 cases x with
 | str z =>
  obtain ⟨t,rfl⟩:=r
  cases (show T = "str" from ty)
  exact ⟨typeIs_str s z t,fun _ e=>nomatch e⟩
 | int i =>
  obtain ⟨t,rfl⟩:=r
  cases (show T = "int" from ty)
  exact ⟨typeIs_int s i t,fun _ e=>nomatch e⟩
 | ref p =>
  cases r
  rcases ty with ⟨rfl,xs,hq⟩ | ⟨rfl,o,hk,hc,hd⟩ | ⟨rfl,hk⟩ | ⟨rfl,S,n,hk⟩
  ·obtain ⟨its,_,pl,_⟩:=I.list hq
   refine ⟨pl.isList.typeIs,fun a e=>?_⟩
   cases e
   obtain ⟨o,n,e,c,hd,_⟩:=pl
   exact ⟨o,e,hd⟩
  ·refine ⟨⟨o,I.kIn p o hk,hc⟩,fun a e=>?_⟩
   cases e
   exact ⟨o,I.kIn _ o hk,hd⟩
  ·have z:∃ o,s.heap.get? p=some o/\o.ExactDict:=by
    rcases hk with ⟨kvs,hk⟩ | ⟨kvs,hk⟩
    ·obtain ⟨_,_,_,_,o,_,_,e,ex,_⟩:=I.hok p _ hk
     exact ⟨o,e,ex⟩
    ·obtain ⟨_,_,_,_,o,_,_,e,ex,_⟩:=I.hok p _ hk
     exact ⟨o,e,ex⟩
   obtain ⟨o,e,ex⟩:=z
   refine ⟨⟨o,e,ex.1⟩,fun a e2=>?_⟩
   cases e2
   exact ⟨o,e,ex.2.1⟩
  ·obtain ⟨o,_,_,_,e,ex,_⟩:=I.hok p _ hk
   refine ⟨⟨o,e,ex.1⟩,fun a e2=>?_⟩
   cases e2
   exact ⟨o,e,ex.2.1⟩
 | _=>exact Qm ty
noncomputable def L4 (K:Os)(T:String)(r:V->List V->Hp->VK->Prop)(to:TE):TE:=fun σ H Q=>to σ H fun x H1=>Ht K T x H1/\r x [] H1 Q
noncomputable def tBM (K:Os)(T:String)(r:V->List V->Hp->VK->Prop)(to:TE)(t:TA):TE:=fun σ H Q=>to σ H fun x H1=>Ht K T x H1/\t σ H1 fun xs H2=>r x xs H2 Q
variable {o e:Expr}{es:List Expr}{to:TE}{t:TA}{name:Str}{apos cpos:Pos}{T id:String}{r:V->List V->Hp->VK->Prop}
theorem Zn9 (pa:PlainAttrs T)(slot:Slot T name id)(hty:typeOf (.builtin id)=pure (.type "method_descriptor"))(hm:Hr X id r)(ho:PE X o to)
  (hbase:attributeBase o name X.env (eval o X.env)=eval o X.env:=by rfl) (hline:(apos.endLine == cpos.line)=true:=by rfl):PE X (.Call (.Attribute o name apos) [] [] cpos) (L4 X.K T r to):=by
 intro pins s σ H Q I h
 refine wpAny_Call_method0_late hbase hline (Aj (ho pins s σ H _ I h) fun v s1 zq=>?_)
 obtain ⟨x,H1,I1,r1,ty,q1⟩:=zq
 obtain ⟨h1,h2⟩:=Zev I1 r1 ty
 exact ⟨T,id,pa,slot,hty,h1,h2,Tb rfl (PySem.evalArgs_none (hm pins s1 σ H1 x [] v [] Q I1 r1 .nil q1))⟩
theorem Zgg (pa:PlainAttrs T)(slot:Slot T name id)(hty:typeOf (.builtin id)=pure (.type "method_descriptor"))(hm:Hr X id r)(ho:PE X o to)(ha:PA X (e::es) t)
  (hbase:attributeBase o name X.env (eval o X.env)=eval o X.env:=by rfl)
  (hfew:((backTo cpos (starEach (e::es) X.env)).all (fun x=>!x.1) && (backToKw cpos (keywordEach [] X.env)).all (fun x=>x.1.isSome)
   && decide ((e::es).length+([]:List Keyword).length+(if ([]:List Keyword).isEmpty then 0 else 1) < 30))=true:=by rfl)
  (hline:(apos.endLine == cpos.line)=true:=by rfl) (hs:starEach (e::es) X.env=(false,eval e X.env)::starEach es X.env:=by rfl) (hplain:(backTo cpos (starEach es X.env)).any (·.1)=false:=by rfl) :
  PE X (.Call (.Attribute o name apos) (e::es) [] cpos) (tBM X.K T r to t):=by
 intro pins s σ H Q I h
 refine wpAny_Call_method_late hbase hfew hline rfl (Aj (ho pins s σ H _ I h) fun v s1 zq=>?_)
 obtain ⟨x,H1,I1,r1,ty,q1⟩:=zq
 obtain ⟨h1,h2⟩:=Zev I1 r1 ty
 refine ⟨T,id,pa,slot,hty,h1,h2,?_⟩
 have hA:=ha cpos pins s1 σ H1 _ I1 q1
 rw [hs] at hA ⊢
 refine Tb (by show (false || (backTo cpos (starEach es X.env)).any (·.1))=false;rw [hplain] <;> rfl) (Ui ?_)
 exact Aj hA fun us s2 ⟨vs,H2,I2,r2,q2⟩=>hm pins s2 σ H2 x vs v us Q I2 r1 r2 q2
end
noncomputable def MtM (X:Cx)(id:String)(r:V->List V->Hp->VK->Prop):Prop :=
 ∀(pins:List (Addr×Obj))(s:Shared)(σ:St)(H:Hp)(x:V)(xs:List V)(v:Value)(us:List Value)(Q:VK),Inv X pins σ H s->RelV x v->Vals xs us->r x xs H Q ->
  wpAny (model X.prog X.w) X.A (call (.builtin id) (v::us)) (EP X pins σ Q) X.xe s
theorem Vals.one:∀{x:V}{us:List Value},Vals [x] us->∃ u,us=[u]/\RelV x u
 := fun h=>by
 cases h with
 | cons r t =>
 cases t
 exact ⟨_,rfl,r⟩
theorem Vals.two:∀{x y:V}{us:List Value},Vals [x,y] us->∃ u v,us=[u,v]/\RelV x u/\RelV y v
 := fun h=>by
 cases h with
 | cons r t =>
 cases t with
 | cons q z =>
 cases z
 exact ⟨_,_,rfl,r,q⟩
theorem Vals.zero:∀{us:List Value},Vals [] us->us=[]
 | _,.nil=>rfl
theorem Vals.dropLast {xs:List V}{us:List Value}(h:Vals xs us):Vals xs.dropLast us.dropLast:=by
 induction h with
 | nil=>exact .nil
 | cons r t ih =>
  cases t with
  | nil=>exact .nil
  | cons q t'=>exact .cons r ih
theorem Vals.rep {xs:List V}{us:List Value}(h:Vals xs us):∀ k:Nat,Vals (Pp k xs).flatten (Pp k us).flatten
 | 0=>.nil
 | k+1=>by
  rw [R4,R4,R9,R9]
  exact Vals.append h (Vals.rep h k)
theorem Zh2 {α:Type}(l:List α):l.eraseIdx (l.length - 1)=l.dropLast:=by
 induction l with
 | nil=>rfl
 | cons a r ih =>
  cases r with
  | nil=>rfl
  | cons b r =>
   have e:(a::b::r).length - 1=((b::r).length - 1)+1:=by
    have h1:(a::b::r).length=r.length+2:=rfl
    have h2:(b::r).length=r.length+1:=rfl
    omega
   rw [e,List.eraseIdx_cons_succ,ih]
   all_goals rfl
theorem Zdl (its:List Value):∀(k:Nat)(acc:List Value),
  List.foldl (fun x1 x2=>x1++x2) acc.toArray (Pp k its.toArray)=(acc++(Pp k its).flatten).toArray
 | 0,acc=>by simp
 | k+1,acc=>by
  have e:acc.toArray++its.toArray=(acc++its).toArray:=by simp
  have e2:(acc++its)++(Pp k its).flatten=acc++(Pp (k+1) its).flatten:=by
   rw [R4,R9,Qn]
  rw [<- e2,<- Zdl its k (acc++its),<- e,R4,List.foldl_cons]
section
variable {X:Cx}{pins:List (Addr×Obj)}{σ:St}{H:Hp}{s:Shared}{l b:Addr}{xs ys zs:List V}
theorem Inv.lset {its its':List Value}{n:Nat}{f:Array Value->Array Value}{t':Nat}(I:Inv X pins σ H s)(hH:H l=some (.lst xs))
  (e:s.heap.get? l=some { cls:=.type "list",data:=.seq its.toArray n }) (hf:f its.toArray=its'.toArray) (hv:Vals ys its') (hz:ys.length<=sizeLine) :
  Inv X pins σ (upd H l (.lst ys)) { s with heap:=s.heap.update l (Pq f),toks:=t' }:=by
 have q:=PySem.IsL.update e f
 rw [hf] at q
 refine I.write (x:=l) (e:=l) (by rw [hH];exact trivial) (.inl rfl) (fun b' u hb hu=>(Ri s.heap (Pq f) (Pj hb)).trans hu) ⟨_,q⟩ ?_
 exact ⟨hz,its',_,hv,q⟩
theorem Inv.lnew {its:List Value}{t':Nat}(I:Inv X pins σ H s)(hv:Vals ys its)(hz:ys.length<=sizeLine) :
  Inv X pins σ (upd H s.heap.objs.size (.lst ys)) { s with heap:=s.heap.push { cls:=.type "list",data:=.seq its.toArray },toks:=t' } :=
 I.laid (fun _ _ q=>Oz _ q) (Ow _) ⟨hz,its,0,hv,Pc _ rfl⟩
theorem Inv.fresh (I:Inv X pins σ H s):H s.heap.objs.size=none:=I.hok.fresh (Ow _)
theorem Inv.lstM (I:Inv X pins σ H s)(hH:H l=some (.lst xs)):xs.length<=sizeLine/\∃(its:List Value)(n:Nat),Vals xs its/\xs.length=its.length/\s.heap.get? l=some { cls:=.type "list",data:=.seq its.toArray n }:=by
 obtain ⟨z,its,n,r,e⟩:=I.hok l _ hH
 exact ⟨z,its,n,r,r.length,e⟩
theorem Zah {n:Nat}(h:n<=sizeLine):Rh n=false:=by
 unfold Rh
 exact decide_eq_false (by omega)
end
section
variable {X:Cx}
noncomputable def Zbg:V->List V->Hp->VK->Prop:=fun x vs H Q=>∃ l xs y,x=.ref l/\vs=[y]/\H l=some (.lst xs)/\xs.length < sizeLine/\Q .non (upd H l (.lst (xs++[y])))
theorem Dl:MtM X "list.append" Zbg:=by
 intro pins s σ H x vs v us Q I rx rv h
 obtain ⟨l,xs,y,rfl,rfl,hH,hz,q⟩:=h
 cases rx
 obtain ⟨u,rfl,ru⟩:=rv.one
 obtain ⟨z,its,n,r,hl,e⟩:=I.lstM hH
 refine Ra F.slot_list_append ⟨_,e,rfl⟩ F.entry_list_append (F.args_list_append_2 _ _) (PySem.list_append l its.toArray n u (by rw [Ox];omega)) ⟨e,?_⟩
 refine ⟨.non,_,I.lset (its':=its++[u]) hH e (by simp) (r.append (.cons ru .nil)) ?_,rfl,q⟩
 rw [O4,Pt]
 omega
noncomputable def Zcj:V->List V->Hp->VK->Prop:=fun x vs H Q=>∃ l b xs zs,x=.ref l/\vs=[.ref b]/\H l=some (.lst xs)/\H b=some (.lst zs)/\xs.length+zs.length<=sizeLine/\Q .non (upd H l (.lst (xs++zs)))
theorem Zhq:MtM X "list.extend" Zcj:=by
 intro pins s σ H x vs v us Q I rx rv h
 obtain ⟨l,b,xs,zs,rfl,rfl,hH,hB,hz,q⟩:=h
 cases rx
 obtain ⟨u,rfl,ru⟩:=rv.one
 cases ru
 obtain ⟨z,its,n,r,hl,e⟩:=I.lstM hH
 obtain ⟨z2,its2,n2,r2,hl2,e2⟩:=I.lstM hB
 have hsz:its.toArray.size+its2.toArray.size<=sizeLine:=by rw [Ox,Ox];omega
 have hlong:¬ (!its.toArray.isEmpty && Rh (its.toArray.size+its2.toArray.size))=true:=by
  rw [Zah hsz,Bool.and_false]
  exact O6
 refine Ra F.slot_list_extend ⟨_,e,rfl⟩ F.entry_list_extend (F.args_list_extend_2 _ _)
  (AutoSeq1.list_extend_list_list_0 l its.toArray n b its2.toArray n2 hlong (by rw [Ox];omega) (by omega)) ⟨e,e2,?_⟩
 refine ⟨.non,_,I.lset (its':=its++its2) hH e (by simp) (r.append r2) ?_,rfl,q⟩
 rw [O4]
 omega
noncomputable def rPop:V->List V->Hp->VK->Prop:=fun x vs H Q=>∃ l xs y,x=.ref l/\vs=[]/\H l=some (.lst xs)/\xs[xs.length - 1]?=some y/\Q y (upd H l (.lst xs.dropLast))
theorem Mf:MtM X "list.pop" rPop:=by
 intro pins s σ H x vs v us Q I rx rv h
 obtain ⟨l,xs,y,rfl,rfl,hH,hy,q⟩:=h
 cases rx
 have hus:=rv.zero
 subst hus
 obtain ⟨z,its,n,r,hl,e⟩:=I.lstM hH
 obtain ⟨u,hu,ru⟩:=r.get hy
 have hy':its.toArray[its.toArray.size - 1]?=some u:=by
  show its.toArray[its.length - 1]?=some u
  rw [<- Array.getElem?_toList,<- hl]
  exact hu
 refine Ra F.slot_list_pop ⟨_,e,rfl⟩ F.entry_list_pop (F.args_list_pop_1 _) (MeetsSeq.list_pop_last l its.toArray n u hy' (by rw [Ox];omega)) ⟨e,?_⟩
 refine ⟨y,_,I.lset (its':=its.dropLast) hH e ?_ r.dropLast ?_,ru,q⟩
 ·show its.toArray.eraseIdxIfInBounds (its.toArray.size - 1)=its.dropLast.toArray
  rw [Ox,List.eraseIdxIfInBounds_toArray,Zh2]
 ·rw [List.length_dropLast]
  omega
noncomputable def rCat:R2:=fun x y H Q=>∃ l b xs zs,x=.ref l/\y=.ref b/\H l=some (.lst xs)/\H b=some (.lst zs)/\xs.length+zs.length<=sizeLine/\∀ p,H p=none->Q (.ref p) (upd H p (.lst (xs++zs)))
theorem op_cat:OpR X (binaryOp .Add) rCat:=by
 intro pins s σ H x y v u Q I rx ry h
 obtain ⟨l,b,xs,zs,rfl,rfl,hH,hB,hz,q⟩:=h
 cases rx
 cases ry
 obtain ⟨z,its,n,r,hl,e⟩:=I.lstM hH
 obtain ⟨z2,its2,n2,r2,hl2,e2⟩:=I.lstM hB
 refine PySem.P.add_list e e2 ?_ (by rw [Ox,Ox];omega)
 have ea:its.toArray++its2.toArray=(its++its2).toArray:=by simp
 rw [ea]
 exact ⟨.ref _,_,I.lnew (t':=s.toks) (r.append r2) (by rw [O4];omega),rfl,q _ I.fresh⟩
noncomputable def rRep:R2:=fun x y H Q=>∃ l k xs,x=.ref l/\y=.int k/\H l=some (.lst xs)/\-(2 ^ 63)<=k/\k < 2 ^ 63/\xs.length * k.toNat<=sizeLine /\
 ∀ p,H p=none->Q (.ref p) (upd H p (.lst (Pp k.toNat xs).flatten))
theorem Zis {α:Type}(xs:List α)(k:Nat):(Pp k xs).flatten.length=k * xs.length:=by
 induction k with
 | zero=>simp
 | succ k ih=>rw [R4,R9,O4,ih,Nat.succ_mul,Nat.add_comm]
theorem Znv:OpR X (binaryOp .Mult) rRep:=by
 intro pins s σ H x y v u Q I rx ry h
 obtain ⟨l,k,xs,rfl,rfl,hH,h1,h2,hz,q⟩:=h
 cases rx
 obtain ⟨t,rfl⟩:=ry
 obtain ⟨z,its,n,r,hl,e⟩:=I.lstM hH
 have hlen:its.toArray.size * k.toNat<=sizeLine:=by rw [Ox,<- hl];exact hz
 have hcap:¬ its.toArray.size * k.toNat > (2 ^ 63 - 1) / 8:=by
  have:(sizeLine:Nat)<=(2 ^ 63 - 1) / 8:=by decide
  omega
 have hfit:¬ (!Builtin.List.listFitsIndex k)=true:=by
  rw [fitsIndex_both h1 h2]
  exact O6
 have hlong:¬ Rh (its.toArray.size * k.toNat)=true:=by
  rw [Zah hlen]
  exact O6
 have hnew:List.foldl (fun x1 x2=>x1++x2) #[] (Pp (if its.toArray.isEmpty=true then 0 else k.toNat) its.toArray)=(Pp k.toNat its).flatten.toArray:=by
  have f0:∀ m:Nat,List.foldl (fun x1 x2=>x1++x2) #[] (Pp m its.toArray)=(Pp m its).flatten.toArray:=fun m=>by
   have:=Zdl its m []
   rw [List.nil_append] at this
   exact this
  rw [f0]
  cases its with
  | nil=>simp
  | cons a r'=>rw [if_neg (by simp)]
 refine wpAny_binaryOp_repeat_ref (T := "list") (U := "int") (by decide) ⟨_,e,rfl⟩ (fun s'=>typeIs_int s' k t) noFill_list_mul F.fills_int_mul F.slot_int_rmul repeat_list F.slot_int_index.lookup
  (Ra F.slot_int_rmul (typeIs_int s k t) F.entry_int_rmul (F.args_int_rmul_2 _ _) (int___rmul___int_list k t l its.toArray n)
   ⟨e,rfl,⟨_,e,rfl⟩,Ra F.slot_list_mul ⟨_,e,rfl⟩ F.entry_list_mul (F.args_list_mul_2 _ _) (AutoListH.list___mul___list_int_3 l its.toArray n k t hfit hcap hlong) ⟨e,?_⟩⟩)
 rw [hnew]
 exact ⟨.ref _,_,I.lnew (t':=s.toks) (r.rep k.toNat) (by rw [Zis,Nat.mul_comm];exact hz),rfl,q _ I.fresh⟩
end
section
variable {prog:Program}{w:World}{A:Around}{E:Value->Shared->Prop}{s:Shared}
end
section
variable {X:Cx}
end
end L2
namespace Att
open PySem PySem.W PySem.Calls PyProof.Rows
theorem Zhy {P:Params}{h:Heap}:∀(ns:List Int)(vs:List Value),WellAll P h vs (ns.map WData.int)->IntsAre vs ns:=by
 intro ns
 induction ns with
 | nil =>
  intro vs w
  rw [List.map_nil] at w
  cases w
  exact .nil
 | cons n ns ih =>
  intro vs w
  rw [Ql] at w
  cases w with
  | cons a b =>
   cases a
   exact .cons _ _ (ih _ b)
theorem Zj6 {l:OpenLaw}{n:Nat}(hn:l.most=some n){P:Params}{h:Heap}{args:List WData}{vals:List Value}
  (hpre:l.row.toRowW.claim.pre args=true) (hwl:WellAll P h vals args) :
  ∃ a vs ns,vals=[Value.ref a]/\args=[WData.list (ns.map WData.int)]/\h.get? a=some { cls:=.type "list",data:=.seq vs.toArray }/\IntsAre vs ns/\ns.length<=n:=by
 have hsh:WShape.hasAll [] args [.list .int]=true:=(pre_splitW hpre).1
 have hc:l.pre.holds [] { args:=args }=true:=(pre_splitW hpre).2
 obtain ⟨d,r,rfl,h1,h2⟩:=hasAllW_cons hsh
 obtain rfl:=hasAllW_nil h2
 obtain ⟨xs,rfl,h3⟩:=hasW_list h1
 obtain ⟨ns,rfl⟩:=items_int h3
 have hlen:ns.length<=n:=by
  unfold OpenLaw.pre at hc
  have h4:(WTm.not (.lt (.lit (.int (n:Int))) (.len (.arg 0)))).holds [] { args:=[.list (ns.map .int)] }=true:=by
   have h4:=(holds_andW hc).1
   rw [hn] at h4
   exact h4
  have h5:=condW_of h4 (w_not (w_lt w_lit (w_len_list (w_arg rfl))))
  rw [O0] at h5
  refine Nat.le_of_not_lt fun q=>?_
  have q':(n:Int) < ((ns.length:Nat):Int):=by omega
  first
   | (rw [decide_eq_true q'] at h5;exact absurd h5 (by decide))
   | (simp at h5;omega)
 cases hwl with
 | cons w1 w2 =>
  cases w2
  cases w1 with
  | list ho hall=>exact ⟨_,_,ns,rfl,rfl,ho,Zhy ns _ hall,hlen⟩
theorem Znj (l:OpenLaw)(args:List WData):l.row.toRowW.claim.post args (.bool true) args=true :=
 postW_of (r:=l.row.toRowW) (X:=(true == true))
  (show WShape.has [] (.bool true) .bool=true by first | rfl | decide | simp [WShape.has,WShape.arms,WShape.armsAll])
  (show (WTm.eq .res (.lit (.bool true))).value [] { args:=args,res:=some (.bool true),after:=args }=some (.bool (true == true)) from w_eq_bool (w_res rfl) w_lit) rfl
theorem attach_call {l:OpenLaw}{n:Nat}{q:Program}{loose:List Str}{XP:(Str->Option Value)->Heap->Prop}{YP:World->Heap->Prop}{d:DefRec}
  (hn:l.most=some n) (hdf:d.params.defaults=[])
  (call:∀(w:World)(s₀ s₁:Shared)(mg mb:Str->Option Value)(fa:Addr)(o:Obj)(pm cd doc:Value)(a:Addr)(vs:List Value)(ns:List Int),
   Ground q loose [] XP w s₀ mg mb s₁.heap->YP w s₁.heap ->
   s₁.heap.get? fa=some o->o.data=.func (docDef d.name d.params d.body d.scope pm cd doc)->s₁.heap.CodeRec cd d.name->mg d.name=some (.ref fa) ->
   s₁.heap.get? a=some { cls:=.type "list",data:=.seq vs.toArray }->IntsAre vs ns->ns.length<=n->s₁.gens=#[] ->
   codeAny (model l.prog w) callerA (.call (.ref fa) ⟨[.ref a],[]⟩) (fun r s'=>r=.ok (.ret (.bool true))/\OldK s₁.heap s'.heap/\s'.os=s₁.os/\AllBare s'.gens) s₁) :
  WalkO q loose XP YP l.row.toRowW d [] (fun f vs=>PySem.call f vs):=by
 intro w s₀ s₁ mg mb G Y fa o pm cd doc dV kV ho hd hcd hD hmg hg args vals as hpre hlay hrd hwl hlo
 obtain rfl:dV=.none:=Dflts.none hD hdf
 obtain rfl:kV=.none:=Dflts.noKw hD
 obtain ⟨a,vs,ns,rfl,rfl,hobj,hints,hlen⟩:=Zj6 hn hpre hwl
 refine enter_call (codeAny_mono (call w s₀ s₁ mg mb fa o pm cd doc a vs ns G Y ho (fd_plain hd) hcd hmg hobj hints hlen hg) fun r s' hq=>?_)
 obtain ⟨rfl,h2,h3,h4⟩:=hq
 exact ⟨.inl ⟨.bool true,.bool true,[],rfl,fun _=>rfl,.bool true,Znj l _,fun _=>⟨List.Pairwise.nil,fun _ hm=>(nomatch hm)⟩⟩,h2,h3,h4⟩
section
variable {prog:Program}{w:World}{A:Around}{E:Value->Shared->Prop}{s:Shared}{K:Frag}
end
end Att
namespace L2
open PySem PySem.Spec PyProof.Rows
theorem Zdn:∀{vs:List Value}{ns:List Int},IntsAre vs ns->Vals (ns.map V.int) vs
 | _,_,.nil=>.nil
 | _,_,.cons n t h=>.cons ⟨t,rfl⟩ (Zdn h)
noncomputable def Oi (H:Hp):Prop:=∀ b,H b=none\/∃ o xs,H b=some (.frz o (.lst xs))
theorem Zg7 {P:Program}{w:World}{K:Os}{mg mb:Str->Option Value}{CX:C5}{k:Nat}{fa a:Addr}{fd:FuncData}{x:Str}{sp:Sp}{s₁:Shared}{vs:List Value}{ns:List Int}
  (KX:K.In s₁.heap) (hns:s₁.heap.Ns mainGlobals mg) (hb:s₁.heap.Ns builtinsNs mb) (hbb:∀ x:Str,x ≠ "__name__" -> mb x=bootBuiltins x) (hlim:s₁.heap.NoLimit) (hg:s₁.gens=#[])
  (ha:s₁.heap.get? a=some { cls:=.type "list",data:=.seq vs.toArray }) (hi:IntsAre vs ns) (hl:ns.length<=sizeLine) (hr:Room k callerA)
  (F:∀ base:Heap,K.In base->base.Ns mainGlobals mg->A9 P w K mg base CX k fa fd [x] sp) (hbind:∀(s:Shared)(u:Value),BindsTo s fd ⟨[u],[]⟩ [(x,u)])
  (hsp:∀ H:Hp,Oi H->SqL K H a (ns.map V.int)->sp [.ref a] H (fun v _=>v=.bl true) fun _ _ _=>False)
  (hCX:∀ H e s',CX [] H s₁ (fun _ _ _=>False) e s'->False) :
  codeAny (model P w) callerA (.call (.ref fa) ⟨[.ref a],[]⟩) (fun r s'=>r=.ok (.ret (.bool true))/\OldK s₁.heap s'.heap/\s'.os=s₁.os/\AllBare s'.gens) s₁:=by
 have rv:=Zdn hi
 have lenV:=hi.length
 have core:∀ H:Hp,Oi H->SqL K H a (ns.map V.int)->HOk P w H s₁.heap->(∀ b,H b≠none->b=a)->(H a≠none->K.lookup a=none) ->
   codeAny (model P w) callerA (.call (.ref fa) ⟨[.ref a],[]⟩) (fun r s'=>r=.ok (.ret (.bool true))/\OldK s₁.heap s'.heap/\s'.os=s₁.os/\AllBare s'.gens) s₁:=by
  intro H hO hS hok hA hK
  have base_of:∀{b:Addr}{o:Obj},s₁.heap.get? b=some o->H b=none->(Es s₁.heap H).get? b=some o:=fun e n=>Zm4 e n
  have noA:∀{b:Addr}{o:Obj}{es:Array DictEntry}{ep:Nat},s₁.heap.get? b=some o->o.data=.dict es ep->H b=none:=fun {b o es ep} e d=>by
   cases q:H b with
   | none=>rfl
   | some u =>
    have e':b=a:=hA b (by rw [q];simp)
    subst e'
    rw [ha] at e;cases e
    have d':Data.seq vs.toArray _=Data.dict es ep:=d
    cases d'
  have nsK:∀{b:Addr}{m:Str->Option Value},s₁.heap.Ns b m->(Es s₁.heap H).Ns b m:=fun {b m} ⟨o,es,ep,e,d,r⟩=>⟨o,es,ep,base_of e (noA e d),d,r⟩
  have hKb:K.In (Es s₁.heap H):=fun b o e=>base_of (KX b o e) (by
   cases q:H b with
   | none=>rfl
   | some u =>
    have e':b=a:=hA b (by rw [q];simp)
    subst e'
    rw [hK (by rw [q];simp)] at e;cases e)
  have hM:Mod K mg (Es s₁.heap H):=⟨hKb,nsK hns,⟨mb,nsK hb,hbb⟩,let ⟨mc,h1,h2⟩:=hlim;⟨mc,nsK h1,h2⟩⟩
  have e0:Lm P w K mg (Es s₁.heap H) callerA [] s₁ H:=⟨rfl,hM,fun b o e=>Znn e,Nat.le_of_eq (Zkb _ _),trivial,fun b hb=>absurd (show b∈([]:List Addr) from hb) (by simp),hok,.of_eq hg⟩
  refine codeAny_mono ((F _ hKb (nsK hns)).run callerA [] s₁ H ⟨[.ref a],[]⟩ [.ref a] [.ref a] _ _ hr e0 (hbind s₁ (.ref a)) (.cons rfl .nil) (hsp H hO hS)) fun r s' h=>?_
  cases r with
  | error e=>exact (hCX H e s' h).elim
  | ok fl =>
   cases fl with
   | next=>exact Qm h
   | brk=>exact Qm h
   | cont=>exact Qm h
   | ret u =>
    obtain ⟨v,H',os,bare,un,hok',r',q⟩:=h
    have q':v=.bl true:=q
    subst q'
    obtain rfl:u=Value.bool true:=r'
    refine ⟨rfl,OldK.of_keep fun b o e=>?_,os,bare⟩
    cases q:H b with
    | none=>exact un.keep b o e q (by intro z;exact absurd (show b∈([]:List Addr) from z) (by simp)) (by simp)
    | some u =>
     rcases hO b with z | ⟨ob,xs,z⟩
     ·rw [q] at z;cases z
     ·have z2:=un.frzs b ob _ z
      obtain ⟨e1,_⟩:=hok b _ z
      obtain ⟨e2,_⟩:=hok' b _ z2
      rw [e] at e1;cases e1
      exact e2
 cases hk:K.lookup a with
 | some o =>
  have e:=KX a o hk
  rw [ha] at e
  cases e
  refine core (fun _=>none) (fun _=>.inl rfl) (.inr ⟨_,vs.toArray,_,hk,rfl,rfl,rfl,by rw [Ox,lenV];exact hl,by simpa using rv⟩) (fun b u z=>by have z':(none:Option HO)=some u:=z;cases z') (fun b z=>absurd rfl z) fun z=>absurd rfl z
 | none =>
  refine core (fun b=>if b=a then some (.frz { cls:=.type "list",data:=.seq vs.toArray } (.lst (ns.map V.int))) else none) (fun b=>?_) (.inl (.inr ⟨{ cls:=.type "list",data:=.seq vs.toArray },if_pos rfl⟩)) (fun b u z=>?_) (fun b z=>?_) fun _=>hk
  ·by_cases hb:b=a
   ·exact .inr ⟨_,_,if_pos hb⟩
   ·exact .inl (if_neg hb)
  ·by_cases hb:b=a
   ·have z':=(if_pos hb).symm.trans z
    cases z'
    subst hb
    exact ⟨ha,by rw [O0];exact hl,vs,_,rv,ha⟩
   ·have z':=(if_neg hb).symm.trans z
    cases z'
  ·by_cases hb:b=a
   ·exact hb
   ·exact absurd (if_neg hb) z
theorem walk_of {l:U6}{n k:Nat}{q:Program}{loose:List Str}{XP:(Str->Option Value)->Heap->Prop}{YP:World->Heap->Prop}{d:DefRec}{K:Params->Os}{CX:World->C5}{sp:World->Sp}{x:Str}
  (hn:l.most=some n) (hn2:n<=sizeLine) (hdf:d.params.defaults=[]) (hr:Room k callerA)
  (hY:∀(w:World)(h:Heap),YP w h->(K w.params).In h)
  (F:∀(w:World)(mg:Str->Option Value)(fa:Addr)(h:Heap),(K w.params).In h->h.Ns mainGlobals mg->mg d.name=some (.ref fa) ->
   ∃ fd:FuncData,(∀(s:Shared)(u:Value),BindsTo s fd ⟨[u],[]⟩ [(x,u)]) /\
    ∀ base:Heap,(K w.params).In base->base.Ns mainGlobals mg->A9 l.prog w (K w.params) mg base (CX w) k fa fd [x] (sp w))
  (hsp:∀(w:World)(H:Hp)(a:Addr)(ns:List Int),ns.length<=n->Oi H->SqL (K w.params) H a (ns.map V.int)->sp w [.ref a] H (fun v _=>v=.bl true) fun _ _ _=>False)
  (hCX:∀(w:World)(H:Hp)(s:Shared)(e:Value)(s':Shared),CX w [] H s (fun _ _ _=>False) e s'->False) :
  PySem.W.WalkO q loose XP YP l.row.toRowW d [] (fun f vs=>PySem.call f vs):=by
 refine Att.attach_call hn hdf fun w s₀ s₁ mg mb fa o pm cd doc a vs ns G Y ho hd hcd hmg hobj hints hlen hg=>?_
 have KX:=hY w _ Y
 obtain ⟨fd,hb,hF⟩:=F w mg fa _ KX G.T.g hmg
 exact Zg7 KX G.T.g G.T.b G.T.builtins G.T.nolimit hg hobj hints (Pm hlen hn2) hr hF hb (fun H hO hS=>hsp w H a ns hlen hO hS) fun H e s'=>hCX w H s₁ e s'
noncomputable def Fn (s:Stmt):Arguments:=match s with
 | .FunctionDef _ a _ _ _ _ _ _ _ _=>a
 | _=>{ posonlyargs:=[],args:=[],vararg:=none,kwonlyargs:=[],kw_defaults:=[],kwarg:=none,defaults:=[] }
noncomputable def Ey (s:Stmt):List Stmt:=match s with
 | .FunctionDef _ _ b _ _ _ _ _ _ _=>b
 | _=>[]
noncomputable def Be (s:Stmt):Scope:=match s with
 | .FunctionDef _ _ _ _ _ _ sc _ _ _=>sc
 | _=>{ kind:=.function,names:=[],isGenerator:=false,isCoroutine:=false }
noncomputable abbrev Bd:C5:=fun _ _ _ _ _ _=>False
noncomputable abbrev E0:XK:=fun _ _ _=>False
theorem Zmq {X:Cx}:Nt Bd X E0:=fun _ _ _ _ _ _ _ h=>h.elim
structure Fun (K:Os)(x qual:Str)(st:Stmt)(f:Addr)(fd:FuncData):Prop where
 ex:∃(oc:Value)(od:Option Addr)(kV doc pm:Value)(an:Option Addr)(cdv ct:Value)(osl:Array (Option Value)),
  fd=Qv x qual (Fn st) (Ey st) (Be st) .none kV doc pm an cdv ct/\K.lookup f=some ⟨oc,od,.func fd,osl⟩/\PySem.W.codeIn K cdv qual=true
 kp:Sd K (.ref f)=true
section
variable {P:Program}{w:World}{K:Os}{mg:Str->Option Value}{base:Heap}
theorem Fun.ok {x qual:Str}{st:Stmt}{f:Addr}{fd:FuncData}{N ps:List Str}{k:Nat}{sp:Sp}(F:Fun K x qual st f fd)(S:Bm N ps (Be st))(len:∀ vs H Q E,sp vs H Q E->vs.length=ps.length)
  (hbody:∀(cdv:Value)(A:Around)(outer:List Env)(s:Shared)(H:Hp)(vs:List V)(Q:VK)(E:XK),Room k (A.deeper (envOfC qual (Be st) s.heap.objs.size f cdv))->sp vs H Q E ->
   ∃ t,PSs (F2 Bd P w K mg base N qual (Be st) f cdv A outer s H E).nox (Ey st) t/\t { nx:=fun _ H'=>Q .non H',rt:=Q } (start N vs) H):A9 P w K mg base Bd (k+1) f fd ps sp:=by
 obtain ⟨oc,od,kV,doc,pm,an,cdv,ct,osl,rfl,lk,hcd⟩:=F.ex
 refine Zgl lk hcd S len fun A outer s H vs Q E hr hsp=>?_
 obtain ⟨t,h,q⟩:=hbody cdv A outer s H vs Q E hr hsp
 exact ⟨t,h.nox,q⟩
theorem Fun.binds {x qual:Str}{st:Stmt}{f:Addr}{fd:FuncData}{ps:List Str}(F:Fun K x qual st f fd)
  (h:∀(kV doc pm:Value)(an:Option Addr)(cdv ct:Value)(us:List Value),us.length=ps.length->bindArgs (Qv x qual (Fn st) (Ey st) (Be st) .none kV doc pm an cdv ct) ⟨us,[]⟩=pure (ps.zip us)):Binds K fd ps []:=by
 obtain ⟨oc,od,kV,doc,pm,an,cdv,ct,osl,rfl,lk,hcd⟩:=F.ex
 exact .all (h kV doc pm an cdv ct)
theorem fun_mk {x qual:Str}{st:Stmt}{f:Addr}{oc:Value}{od an:Option Addr}{osl:Array (Option Value)}{kV doc pm cdv ct:Value}(l:K.lookup f=some ⟨oc,od,.func (Qv x qual (Fn st) (Ey st) (Be st) .none kV doc pm an cdv ct),osl⟩)
  (c:PySem.W.codeIn K cdv qual=true) (k:Sd K (.ref f)=true):Fun K x qual st f (Qv x qual (Fn st) (Ey st) (Be st) .none kV doc pm an cdv ct):=⟨⟨oc,od,kV,doc,pm,an,cdv,ct,osl,rfl,l,c⟩,k⟩
end
section
variable {X:Cx}
end
theorem iteF {A B:Prop}(h:B):if false=true then A else B:=by
 rw [if_neg O6]
 exact h
theorem iteT {A B:Prop}(h:A):if true=true then A else B:=by
 rw [if_pos rfl]
 exact h
theorem Ce {c A B:Prop}[Decidable c](h1:c->A)(h2:¬ c->B):if c then A else B:=by
 by_cases h:c
 ·rw [if_pos h]
  exact h1 h
 ·rw [if_neg h]
  exact h2 h
noncomputable def Same (H H':Hp):Prop:=∀ b o,H b=some o->H' b=some o
theorem Same.refl (H:Hp):Same H H:=fun _ _ h=>h
theorem Same.trans {H H1 H2:Hp}(a:Same H H1)(b:Same H1 H2):Same H H2:=fun c o h=>b c o (a c o h)
theorem Same.free {H H':Hp}(e:Same H H'){l:Addr}(h:H' l=Option.none):H l=Option.none:=by
 cases q:H l with
 | none=>rfl
 | some o =>
  rw [e l o q] at h
  cases h
theorem Same.seq {K:Os}{H H':Hp}{a:Addr}{xs:List V}(e:Same H H')(h:SqL K H a xs):SqL K H' a xs:=by
 rcases h with (h | ⟨o,h⟩) | h
 ·exact .inl (.inl (e _ _ h))
 ·exact .inl (.inr ⟨o,e _ _ h⟩)
 ·exact .inr h
end L2
set_option maxHeartbeats 8000000
namespace L2
open PySem PySem.Spec PyProof.Rows
noncomputable def Dh (env:Env):List (Str×NameKind)->List (Str×Addr)->List (Str×Addr)
 | [],acc=>acc
 | (n,k)::r,acc=>Dh env r (if k == .free then (match env.cells.lookup n with | some a=>(n,a)::acc | none=>acc) else acc)
theorem N7 {env:Env}:∀{ns:List (Str×NameKind)}{acc:List (Str×Addr)}{x:Str}{c:Addr},(∀ x c,acc.lookup x=some c->env.cells.lookup x=some c)->(Dh env ns acc).lookup x=some c->env.cells.lookup x=some c
 | [],acc,x,c,h,e=>h x c e
 | (n,k)::r,acc,x,c,h,e=>by
  refine N7 (ns:=r) ?_ e
  intro y d
  split
  ·split
   ·rename_i a ha
    intro q
    rw [Qs] at q
    split at q
    ·rename_i hy
     have hy':y=n:=by simpa using hy
     subst hy'
     rw [ha];exact q
    ·exact h y d q
   ·exact h y d
  ·exact h y d
theorem Zdi {env:Env}:∀{ns:List (Str×NameKind)}{acc:List (Str×Addr)}{x:Str},(acc.lookup x).isSome=true->((Dh env ns acc).lookup x).isSome=true
 | [],acc,x,h=>h
 | (n,k)::r,acc,x,h=>by
  refine Zdi (ns:=r) ?_
  split
  ·split
   ·rw [Qs]
    split
    ·rfl
    ·exact h
   ·exact h
  ·exact h
theorem Zdd {env:Env}:∀{ns:List (Str×NameKind)}{acc:List (Str×Addr)}{x:Str},(x,NameKind.free)∈ns->(env.cells.lookup x).isSome=true->((Dh env ns acc).lookup x).isSome=true
 | [],acc,x,h,_=>by cases h
 | (n,k)::r,acc,x,h,hc=>by
  rcases O1.mp h with e | e
  ·cases e
   refine Zdi (ns:=r) ?_
   obtain ⟨a,ha⟩:=R1.mp hc
   rw [if_pos (by rfl),ha]
   show (List.lookup n ((n,a)::acc)).isSome=true
   rw [Qs]
   simp
  ·exact Zdd (ns:=r) e hc
theorem Zeb {scope:Scope}{env:Env}(h:∀ x∈scope.names,x.2=.free->(env.cells.lookup x.1).isSome=true):closureFor scope env=pure (Dh env scope.names []):=by
 have all:∀(ns:List (Str×NameKind))(acc:List (Str×Addr)),(∀ x∈ns,x.2=.free->(env.cells.lookup x.1).isSome=true) ->
   (forIn ns acc fun (x:Str×NameKind) (cs:List (Str×Addr))=>(if (x.2 == NameKind.free)=true then do let a <- cellOf env x.1;pure (ForInStep.yield ((x.1,a)::cs)) else pure (ForInStep.yield cs):Sem (ForInStep (List (Str×Addr)))))=pure (Dh env ns acc):=by
  intro ns
  induction ns with
  | nil=>intro acc _;rfl
  | cons x r ih =>
   intro acc hx
   obtain ⟨n,k⟩:=x
   rw [Rq]
   by_cases hk:(k == NameKind.free)=true
   ·obtain ⟨a,ha⟩:=R1.mp (hx (n,k) R5 (by simpa using hk))
    have ha:env.cells.lookup n=some a:=ha
    have hcell:cellOf env n=pure a:=by unfold cellOf;rw [ha]
    simp only [hk,if_true,hcell]
    refine Eq.trans (ih ((n,a)::acc) fun y hy=>hx y (Qz _ hy)) ?_
    conv=>rhs;unfold Dh
    simp only [hk,if_true,ha]
   ·simp only [hk]
    refine Eq.trans (ih acc fun y hy=>hx y (Qz _ hy)) ?_
    conv=>rhs;unfold Dh
    simp only [hk]
    rfl
 unfold closureFor
 exact (by
  have:=all scope.names [] h
  first | exact this | (simp only [bind_pure] ;exact this) | simpa using this)
noncomputable def Cn (X:Cx)(scope:Scope)(C:Addr)(N:List Str)(s₀:Shared)(H₀:Hp)(ex:List Addr):Cx where
 prog:=X.prog
 w:=X.w
 K:=X.K
 mg:=X.mg
 base:=X.base
 A:=X.A
 N:=N
 s₀:=s₀
 H₀:=H₀
 env:=compEnvC scope (Dh X.env scope.names []) C X.env
 outer:=X.stack
 stack:=X.stack
 ex:=ex
 fn:=fun _=>false
 calm:=X.calm
 pn:=[]
 xe:=fun _ _=>False
structure Fj (sc:Scope)(env:Env):Prop where
 kind:sc.kind=.function
 nocell:∀ y∈sc.names,y.2≠.cell
 loc:∀ y∈sc.names,y.2=.local->sc.names.lookup y.1=some .local
 free:∀ x∈sc.names,x.2=.free->(env.cells.lookup x.1).isSome=true
theorem L6 {env:Env}:∀{names:List (Str×NameKind)}{x:Str}{k:NameKind},((names.map fun (n,k)=>if (k == NameKind.free && env.scope.kind == .function && env.kindOf n == some .cell) then (n,NameKind.cell) else (n,k)).lookup x=some k) ->
  ∃ k',names.lookup x=some k'/\(k'=k\/(k'=.free/\k=.cell))
 | [],x,k,h=>by simp at h
 | (n,q)::r,x,k,h=>by
  have ih:=@L6 env r x k
  have h:List.lookup x ((if (q == NameKind.free && env.scope.kind == .function && env.kindOf n == some .cell)=true then (n,NameKind.cell) else (n,q))::_)=some k:=h
  rw [Qs]
  cases hx:x == n with
  | true =>
   by_cases hc:(q == NameKind.free && env.scope.kind == .function && env.kindOf n == some .cell)=true
   ·rw [if_pos hc] at h
    simp only [Qs,hx] at h
    refine ⟨q,rfl,.inr ⟨?_,(Pb h).symm⟩⟩
    simp only [P9] at hc
    simpa using hc.1.1
   ·rw [if_neg hc] at h
    simp only [Qs,hx] at h
    exact ⟨q,rfl,.inl (Pb h)⟩
  | false =>
   by_cases hc:(q == NameKind.free && env.scope.kind == .function && env.kindOf n == some .cell)=true
   ·rw [if_pos hc] at h
    simp only [Qs,hx] at h
    exact ih h
   ·rw [if_neg hc] at h
    simp only [Qs,hx] at h
    exact ih h
noncomputable def Ez (X:Cx)(scope:Scope)(N:List Str)(σ σ0:St):Prop :=
 σ0.length=N.length/\∀(i:Nat)(x:Str)(v:V),N[i]?=some x->σ0[i]?=some (some v)->∃ j:Nat,X.N[j]?=some x/\σ[j]?=some (some v)/\scope.names.lookup x=some .free/\(X.env.kindOf x=some .cell\/X.env.kindOf x=some .free)
section
variable {X:Cx}
theorem Zko {scope:Scope}{N:List Str}{pins:List (Addr×Obj)}{σ σ0:St}{H:Hp}{s:Shared}{h':Heap}{tk:Nat}{fp:List Addr}(I:Inv X pins σ H s)(S:Fj scope X.env)(hf:∀ b∈fp,FpOk X pins H b)(hlt:∀ b∈fp,b < s.heap.objs.size)
  (T:Ez X scope N σ σ0) (hn:h'.Ns s.heap.objs.size (fun _=>none)) (hk:∀ b o,s.heap.get? b=some o->h'.get? b=some o) :
  Inv (Cn X scope s.heap.objs.size N s H fp) [] σ0 H { s with heap:=h',toks:=tk }:=by
 have subC:∀ x c,(Dh X.env scope.names []).lookup x=some c->X.env.cells.lookup x=some c:=fun x c e=>N7 (ns:=scope.names) (acc:=[]) (fun y d z=>by simp at z) e
 have hasC:∀ x,scope.names.lookup x=some .free->∃ c,(Dh X.env scope.names []).lookup x=some c:=fun x e=>by
  have m:=Q0 e
  exact R1.mp (Zdd m (S.free _ m rfl))
 have fsN:∀ b∈fp,b ∉ Cv X.stack:=fun b hb z=>by
  obtain ⟨_,f1,f2,_⟩:=hf b hb
  rcases O1.mp (I.stkSub b z) with e | e
  ·exact f1 e
  ·exact f2 e
 have kinds:∀ x,((relabel scope X.env).names.lookup x=some .cell\/(relabel scope X.env).names.lookup x=some .free)->scope.names.lookup x=some .free:=fun x hx=>by
  rcases hx with hx | hx
  ·obtain ⟨k',e,q⟩:=L6 hx
   rcases q with q | ⟨q,_⟩
   ·subst q
    exact absurd rfl (S.nocell _ (Q0 e))
   ·rw [e,q]
  ·obtain ⟨k',e,q⟩:=L6 hx
   rcases q with q | ⟨_,q⟩
   ·rw [e,q]
   ·cases q
 have noex:∀ b o,X.base.get? b=some o->b ∉ fp:=fun b o e hb=>by
  obtain ⟨_,_,_,f3,_⟩:=hf b hb
  rcases f3 with z | z
  ·exact I.ok.noex b o e z
  ·exact absurd (Pd (Oy e) (Pm I.ok.bsz z)) (P5 _)
 refine ⟨⟨I.ok.mod,S.kind,I.ok.glob,I.ok.blt,Ow _,fun x y c e1 e2=>I.ok.inj x y c (subC x c e1) (subC y c e2),fun x hx=>hasC x (kinds x hx),fun x c z=>absurd (show false=true from z) O6,I.ok.hd,I.ok.frames,.inl rfl,
   fun b hb=>⟨O5 (hlt b hb),fun x c e=>(hf b hb).2.2.2.2.1 x c (subC x c e)⟩,I.bs,Pm I.ok.bsz I.sz,noex,fsN,I.stack,I.stkFree⟩,
  rfl,I.bare,Un.kept hk,⟨_,hn,fun i x v e1 e2 e3=>?_⟩,fun x c e=>?_,I.hok.fresh (Ow _),fun x c e=>I.freeC x c (subC x c e),fun p hp=>absurd (show p∈([]:List (Addr×Obj)) from hp) (by simp),I.hok.kept hk,T.1⟩
 ·obtain ⟨j,hj,hs,hfr,hkd⟩:=T.2 i x v e1 e2
  obtain ⟨m,_,hl⟩:=I.loc
  obtain ⟨u,r,l⟩:=hl j x v hj hs (hkd.elim (fun z=>Or.inr (Or.inl z)) fun z=>Or.inr (Or.inr z))
  refine ⟨u,r,.inr ⟨?_,?_⟩⟩
  ·show (relabel scope X.env).names.lookup x=some .cell\/(relabel scope X.env).names.lookup x=some .free
   rcases e3 with z | z | z
   ·obtain ⟨k',e,q⟩:=L6 (show (relabel scope X.env).names.lookup x=some .local from z)
    rw [hfr] at e
    cases e
    rcases q with q | ⟨_,q⟩ <;> cases q
   ·exact .inl z
   ·exact .inr z
  ·obtain ⟨c,hc⟩:=hasC x hfr
   refine ⟨c,hc,?_⟩
   rcases l with ⟨k,_⟩ | ⟨_,c',e,z⟩
   ·rcases hkd with hkd | hkd <;> (rw [hkd] at k;cases k)
   ·have e':=subC x c hc
    rw [e] at e'
    cases e'
    obtain ⟨o,ho,hd⟩:=z
    exact ⟨o,hk _ o ho,hd⟩
 ·obtain ⟨v,o,ho,hd⟩:=I.cell x c (subC x c e)
  exact ⟨v,o,hk _ o ho,hd⟩
theorem Zh0 {scope:Scope}{N:List Str}{pins pins':List (Addr×Obj)}{σ σ':St}{H H':Hp}{s s':Shared}{h':Heap}{fp:List Addr}(I:Inv X pins σ H s)(hf:∀ b∈fp,FpOk X pins H b)
  (I':Inv (Cn X scope s.heap.objs.size N s H fp) pins' σ' H' s') (hs:O7 s.heap.objs.size s'.heap h'):Inv X pins σ H' { s' with heap:=h' }:=by
 have hC:H' s.heap.objs.size=none:=I'.free
 have ne:∀ b o,s.heap.get? b=some o->b≠s.heap.objs.size:=fun b o e=>O5 (Oy e)
 have B:Un (Cv X.stack) fp H H' s.heap s'.heap:=I'.base
 refine I.call' (s':={ s' with heap:=h' }) (ch:=fp) I'.os ⟨fun b o e n hb hx=>?_,fun b o e n hb hx=>?_,B.free,fun b o e hx=>?_,B.tups,B.frzs,B.tbls⟩ (fun b o e=>?_) I'.bare (fun b hb=>?_)
 ·exact (hs.2 b (ne b o e)).trans (B.keep b o e n hb hx)
 ·obtain ⟨sl,q⟩:=B.slot b o e n hb hx
  exact ⟨sl,(hs.2 b (ne b o e)).trans q⟩
 ·obtain ⟨o',q⟩:=B.there b o e hx
  exact ⟨o',(hs.2 b (ne b o e)).trans q⟩
 ·refine (I'.hok b o e).stay (fun c w' hc q=>(hs.2 c ?_).trans q) (fun _ q=>q) fun _ _ q=>q
  rintro rfl
  rcases hc with rfl | hc
  ·rw [hC] at e;cases e
  ·rw [hC] at hc;cases hc
 ·obtain ⟨_,f1,_,f3,f4,f5⟩:=hf b hb
  exact ⟨f3,f1,f4,f5⟩
end
section
variable {prog:Program}{w:World}{A:Around}{R:Result->Shared->Prop}{s:Shared}
theorem Zgw {elt target iter:Expr}{ifs:List Expr}{scope:Scope}{pos:Pos}{it acc:Value}{env:Env}(I:Nat->Shared->Prop)
  (turn:∀ n s,I n s->wpAny (model prog w) A (pyNext it) (fun r s₁=>match r with
   | none=>R (.ok .next) s₁
   | some v=>wpAny (model prog w) A (letOwnedTupleGo target it v) (fun _ s₁'=>wpAny (model prog w) A (assign target env v) (fun _ s₂ =>
     wpAny (model prog w) A (forIn ifs true fun c r=>if r=true then do let ok <- isTrue c env (eval c env);pure (ForInStep.yield ok) else pure (ForInStep.yield r)) (fun ok s₃ =>
      if ok=true then wpAny (model prog w) A (eval elt env) (fun x s₄ =>
       wpAny (model prog w) A (call (.builtin "list.append") [acc,x]) (fun _ s₅=>∃ m,m < n/\I m s₅) (fun _ _=>False) s₄) (fun _ _=>False) s₃
      else ∃ m,m < n/\I m s₃) (fun _ _=>False) s₂) (fun _ _=>False) s₁') (fun _ _=>False) s₁) (fun _ _=>False) s)
  (n:Nat) (h:I n s):codeAny (model prog w) A (.compLoop (.ListComp elt [⟨target,iter,ifs,0⟩] scope pos) 0 it acc env) R s:=by
 refine codeAny_loop rfl I (fun n s hI=>?_) n h
 show wpAny _ A ((compTurn (.ListComp elt [⟨target,iter,ifs,0⟩] scope pos) 0 it acc env).onRaise (fun x=>do noteFrame x env;theTreesLotGoes x)) _ _ s
 refine wpAny_noted ?_
 rw [compTurn_list]
 have up:∀{α:Type}{t:Sem α}{Q:α->Shared->Prop}{s:Shared}{E:Value->Shared->Prop},wpAny (model prog w) A t Q (fun _ _=>False) s->wpAny (model prog w) A t Q E s:=fun h=>wpAny_noRaise h
 refine Ot (Sg (Ot (up (Aj (turn n s hI) fun r s₁ h₁=>?_))))
 cases r with
 | none=>exact Ov h₁
 | some v =>
  refine Ot (up (Aj h₁ fun _ s₁' h₁'=>?_))
  refine Ot (up (Aj h₁' fun _ s₂ h₂=>Ot (up (Aj h₂ fun ok s₃ h₃=>?_))))
  cases ok with
  | false=>exact Ov ⟨rfl,h₃⟩
  | true =>
   exact Ot (Ot (up (Aj h₃ fun x s₄ h₄=>Ot (up (Aj h₄ fun _ s₅ h₅=>Ov (Ov ⟨rfl,h₅⟩))))))
end
noncomputable def Iw (J:It)(g:TG)(tt:TT)(te:TE)(σ0:St)(H1:Hp)(D:Addr)(Q:VK):Prop :=
 ∃ W:Nat->Nat->St->Hp->Prop,(∃ m,W 0 m σ0 (upd H1 D (.lst [])))/\∀ i m σ' H',W i m σ' H' ->
  (J.stop i H'/\Q (.ref D) H')\/(J.go i H'/\∃ N:St->Hp->Prop,(∀ σ2 H2,N σ2 H2->∃ m',m' < m/\W (i+1) m' σ2 H2)/\∀ x H2,J.yld i H' x H2->g x σ' H2 fun σ2 H3=>tt σ2 H3 fun b H4 =>
   if b=true then te σ2 H4 fun y H5=>∃ ys,H5 D=some (.lst ys)/\ys.length < sizeLine/\N σ2 (upd H5 D (.lst (ys++[y]))) else N σ2 H4)
noncomputable def Ie (wi:TI)(σ0:St->St)(g:TG)(tt:TT)(te:TE):TE:=fun σ H Q=>wi σ H fun J H1=>∀ D,H1 D=none->Iw J g tt te (σ0 σ) H1 D Q
noncomputable def Ft (X:Cx)(ifs:List Expr)(t:TT):Prop :=
 ∀(pins:List (Addr×Obj))(s:Shared)(σ:St)(H:Hp)(Q:Bool->Hp->Prop),Inv X pins σ H s->t σ H Q ->
  wpAny (model X.prog X.w) X.A (forIn ifs true fun c r=>if r=true then do let ok <- isTrue c X.env (eval c X.env);pure (ForInStep.yield ok) else pure (ForInStep.yield r)) (TP X pins σ Q) X.xe s
noncomputable def Nd:TT:=fun _ H Q=>Q true H
theorem Zmy {X:Cx}:Ft X [] Nd:=fun _ _ _ H _ I h=>wpAny_tests_nil ⟨H,I,h⟩
theorem Zjb {X:Cx}{c:Expr}{t:TT}(h:PT X c t):Ft X [c] t:=fun pins s σ H Q I hw=>wpAny_tests_one (h pins s σ H Q I hw)
section
variable {X:Cx}{elt target iter:Expr}{ifs:List Expr}{scope:Scope}{pos:Pos}{N:List Str}{wi:TI}{σ0:St->St}{g:TG}{tt:TT}{te:TE}
theorem Zft {pins:List (Addr×Obj)}{σ:St}{H:Hp}{s:Shared}{it:Addr}{fp:List Addr}{tn:Nat->Heap->Prop}{J:It}{Q:Addr->Hp->Prop}{RR:Value->Addr->Result->Shared->Prop}{E:Value->Shared->Prop}
  (hc:X.calm=true) (S:Fj scope X.env) (T:Ez X scope N σ (σ0 σ)) (I:Inv X pins σ H s) (Tn:En X.prog X.w X.K target J fp it tn) (st:tn 0 s.heap) (hf:∀ b∈fp,FpOk X pins H b)
  (hg:∀ C s H fp,PG (Cn X scope C N s H fp) target g) (ht:∀ C s H fp,Ft (Cn X scope C N s H fp) ifs tt) (he:∀ C s H fp,PE (Cn X scope C N s H fp) elt te)
  (hw:∀ D,H D=none->∃ W:Nat->Nat->St->Hp->Prop,(∃ m,W 0 m (σ0 σ) (upd H D (.lst [])))/\∀ i m σ' H',W i m σ' H' ->
   (J.stop i H'/\Q D H')\/(J.go i H'/\∃ N:St->Hp->Prop,(∀ σ2 H2,N σ2 H2->∃ m',m' < m/\W (i+1) m' σ2 H2)/\∀ x H2,J.yld i H' x H2->g x σ' H2 fun σ2 H3=>tt σ2 H3 fun b H4 =>
    if b=true then te σ2 H4 fun y H5=>∃ ys,H5 D=some (.lst ys)/\ys.length < sizeLine/\N σ2 (upd H5 D (.lst (ys++[y]))) else N σ2 H4))
  (hR:∀(D C:Addr)(H':Hp)(s':Shared)(m:Str->Option Value),s.heap.objs.size<=C->H' C=none->s'.heap.Ns C m->(∀ h',O7 C s'.heap h'->Inv X pins σ H' { s' with heap:=h' })->Q D H'->RR (.ref D) C (.ok .next) s') :
  wpAny (model X.prog X.w) X.A (newList []) (fun acc s₃=>wpAny (model X.prog X.w) X.A (newFunctionEnv scope X.env.globals (Dh X.env scope.names []) [] X.env.qual none .none (some X.env)) (fun cenv s₄ =>
   codeAny (model X.prog X.w) X.A (.compStart (.ListComp elt [⟨target,iter,ifs,0⟩] scope pos) 0 (.ref it) acc { cenv with scope:=relabel scope X.env }) (RR acc cenv.locals) s₄) E s₃) E s:=by
 refine Qr (wpAny_newFunctionEnv S.nocell (by intro y hy;simp at hy) (fun h₁ hns₁ hsb₁=>?_) S.kind)
 have hD:H s.heap.objs.size=none:=I.hok.fresh (Ow _)
 have I3:Inv X pins σ (upd H s.heap.objs.size (.lst [])) { s with heap:=s.heap.push { cls:=.type "list",dict:=none,data:=.seq ([]:List Value).toArray } }:=I.lnew (ys:=[]) (its:=[]) (t':=s.toks) .nil (by simp)
 have hlt:∀ b∈fp,b < s.heap.objs.size:=fun b hb=>by obtain ⟨o,e,_⟩:=Tn.obj _ _ st b hb;exact Oy e
 have hf3:∀ b∈fp,FpOk X pins (upd H s.heap.objs.size (.lst [])) b:=fun b hb=>⟨by rw [Ai (O5 (hlt b hb))];exact (hf b hb).1,(hf b hb).2⟩
 have hlt3:∀ b∈fp,b < ({ s with heap:=s.heap.push { cls:=.type "list",dict:=none,data:=.seq ([]:List Value).toArray } }:Shared).heap.objs.size:=fun b hb=>by
  show b < (s.heap.push _).objs.size
  rw [Pu]
  exact Uv (hlt b hb)
 have hk1:∀ b o,({ s with heap:=s.heap.push { cls:=.type "list",dict:=none,data:=.seq ([]:List Value).toArray } }:Shared).heap.get? b=some o->h₁.get? b=some o:=fun b o e =>
  hsb₁.extBut b o (O5 (Oy e)) (Oz _ e)
 have I4:=Zko (N:=N) (tk:=s.toks+([]:List (Str×Value)).length) I3 S hf3 hlt3 T hns₁ hk1
 have st4:tn 0 h₁:=Tn.keep _ _ _ st fun b hb o e=>hk1 b o (Oz _ e)
 obtain ⟨W,⟨m0,w0⟩,turn⟩:=hw _ hD
 generalize hX:Cn X scope ({ s with heap:=s.heap.push { cls:=.type "list",dict:=none,data:=.seq ([]:List Value).toArray } }:Shared).heap.objs.size N { s with heap:=s.heap.push { cls:=.type "list",dict:=none,data:=.seq ([]:List Value).toArray } } (upd H s.heap.objs.size (.lst [])) fp=X' at I4
 have eP:X'.prog=X.prog:=by rw [<- hX];rfl
 have eW:X'.w=X.w:=by rw [<- hX];rfl
 have eK:X'.K=X.K:=by rw [<- hX];rfl
 have eA:X'.A=X.A:=by rw [<- hX];rfl
 have eC:X'.calm=true:=by rw [<- hX];exact hc
 have eX:X'.xe=fun _ _=>False:=by rw [<- hX];rfl
 have eEx:X'.ex=fp:=by rw [<- hX];rfl
 have hg':PG X' target g:=by rw [<- hX];exact hg _ _ _ _
 have ht':Ft X' ifs tt:=by rw [<- hX];exact ht _ _ _ _
 have he':PE X' elt te:=by rw [<- hX];exact he _ _ _ _
 have eE:X'.env=compEnvC scope (Dh X.env scope.names []) ({ s with heap:=s.heap.push { cls:=.type "list",dict:=none,data:=.seq ([]:List Value).toArray } }:Shared).heap.objs.size X.env:=by rw [<- hX];rfl
 have fpIn:∀{H':Hp},(∀ b∈fp,H' b=none)->∀ b∈fp,FpOk X' [] H' b:=fun {H'} hn b hb=>by
  obtain ⟨f0,f1,f2,f3,f4,f5⟩:=hf3 b hb
  rw [<- hX]
  refine ⟨hn b hb,O5 (hlt3 b hb),fun z=>?_,.inl hb,fun x c e=>f4 x c (N7 (ns:=scope.names) (acc:=[]) (fun y d z=>by simp at z) e),fun p hp=>absurd (show p∈([]:List (Addr×Obj)) from hp) (by simp)⟩
  rcases O1.mp (I3.stkSub b z) with e | e
  ·exact f1 e
  ·exact f2 e
 have fr0:∀ b∈fp,upd H s.heap.objs.size (.lst []) b=none:=fun b hb=>(hf3 b hb).1
 have loop:codeAny (model X.prog X.w) X.A (.compLoop (.ListComp elt [⟨target,iter,ifs,0⟩] scope pos) 0 (.ref it) (.ref s.heap.objs.size) X'.env)
   (RR (.ref s.heap.objs.size) ({ s with heap:=s.heap.push { cls:=.type "list",dict:=none,data:=.seq ([]:List Value).toArray } }:Shared).heap.objs.size)
   { s with heap:=h₁,toks:=s.toks+([]:List (Str×Value)).length }:=by
  refine Zgw (fun n s'=>∃ i σ' H',Inv X' [] σ' H' s'/\tn i s'.heap/\(∀ b∈fp,H' b=none)/\W i n σ' H') ?_ m0 ⟨0,σ0 σ,_,I4,st4,fr0,w0⟩
  rintro n s5 ⟨i,σ5,H5,I5,st5,fr5,w5⟩
  rcases turn i n σ5 H5 w5 with ⟨stop,qn⟩ | ⟨go,Nx,hN,step⟩
  ·have q:=Tn.done X' eP eW eK eC i [] s5 σ5 H5 (fun _ _=>False) I5 (fpIn fr5) st5 stop
   rw [eA] at q
   refine Aj q fun r s6 zq=>?_
   obtain ⟨hr,I6⟩:=zq
   subst hr
   obtain ⟨mm,hns6,_⟩:=I6.loc
   rw [eE] at hns6
   have fr6:=I6.free
   rw [eE] at fr6
   refine hR _ _ H5 s6 mm ?_ fr6 hns6 (fun h' hs=>?_) qn
   ·show s.heap.objs.size<=(s.heap.push _).objs.size
    rw [Pu]
    exact Sm _
   ·rw [<- hX] at I6
    exact Zh0 I3 hf3 I6 hs
  ·have q:=Tn.item X' eP eW eK eC i [] s5 σ5 H5 (fun _ _=>False) I5 (fpIn fr5) st5 go
   rw [eA] at q
   refine Aj q fun r s6 zq=>?_
   obtain ⟨u,hr,h6⟩:=zq
   subst hr
   refine Aj h6 fun _ s7 zq=>?_
   obtain ⟨x,H7,I7,r7,y7,st7,fr7⟩:=zq
   have I7':=I7.pinned (fpIn fr7) (Tn.obj _ _ st7)
   have q8:=hg' _ s7 σ5 H7 x u _ I7' r7 (step x H7 y7)
   rw [eP,eW,eA,eX] at q8
   refine Aj q8 fun _ s8 zq=>?_
   obtain ⟨σ8,H8,I8,q8⟩:=zq
   have q9:=ht' _ s8 σ8 H8 _ I8 q8
   rw [eP,eW,eA,eX] at q9
   refine Aj q9 fun ok s9 zq=>?_
   obtain ⟨H9,I9,q9⟩:=zq
   have again:∀{σ10:St}{H10:Hp}{s10:Shared},Inv X' ([]++Jw fp s7.heap) σ10 H10 s10->Nx σ10 H10->∃ m,m < n/\∃ i σ' H',Inv X' [] σ' H' s10/\tn i s10.heap/\(∀ b∈fp,H' b=none)/\W i m σ' H':=fun {σ10 H10 s10} J10 n10=>by
    obtain ⟨m',hm,Dg⟩:=hN σ10 H10 n10
    refine ⟨m',hm,i+1,σ10,H10,J10.unpinned,Tn.keep _ _ _ st7 fun b hb o e=>(J10.pin (b,o) (Qh _ (Qh _ (K0 hb e)))).1,fun b hb=>?_,Dg⟩
    obtain ⟨o,e,d⟩:=Tn.obj _ _ st7 b hb
    exact (J10.pin (b,o) (Qh _ (Qh _ (K0 hb e)))).2.1
   cases ok with
   | false =>
    have q9':Nx σ8 H9:=q9
    exact again I9 q9'
   | true =>
    have q9':te σ8 H9 _:=q9
    have q10:=he' _ s9 σ8 H9 _ I9 q9'
    rw [eP,eW,eA,eX] at q10
    refine Aj q10 fun y s10 zq=>?_
    obtain ⟨yv,H10,I10,r10,ys,hys,hz,n10⟩:=zq
    have q11:=(Dl (X:=X')) _ s10 σ8 H10 (.ref s.heap.objs.size) [yv] (.ref s.heap.objs.size) [y] (fun _ H11=>Nx σ8 H11) I10 rfl (.cons r10 .nil) ⟨_,ys,yv,rfl,rfl,hys,hz,n10⟩
    rw [eP,eW,eA,eX] at q11
    exact Aj q11 fun _ s11 ⟨_,H11,I11,_,n11⟩=>again I11 n11
 rw [eE] at loop
 exact codeAny_compStart_list loop (Tn.self _ 0 _ _ _ st4 loop)
theorem Zl5 (hc:X.calm=true)(S:Fj scope X.env)(hi:PI X target iter wi)(T:∀ σ,σ.length=X.N.length->Ez X scope N σ (σ0 σ))
  (hg:∀ C s H fp,PG (Cn X scope C N s H fp) target g) (ht:∀ C s H fp,Ft (Cn X scope C N s H fp) ifs tt) (he:∀ C s H fp,PE (Cn X scope C N s H fp) elt te)
  (hs:∀ x,foldedSetIterable iter X.env x=pure x:=by intro _;rfl):PE X (.ListComp elt [⟨target,iter,ifs,0⟩] scope pos) (Ie wi σ0 g tt te):=by
 intro pins s σ H Q I h
 rw [eval_ListComp]
 refine wpAny_comprehension_free (use:=none) rfl hs (Zeb S.free) S.kind S.loc (Aj (hi pins s σ H _ I h) fun xv s₁ h₁=>Aj h₁ fun itv s₂ h₂=>?_)
 obtain ⟨it,fp,tn,J,H2,rfl,I2,Tn,st2,f2,hw⟩:=h₂
 refine Zft (Q:=fun D H'=>Q (.ref D) H') (RR:=fun acc C=>compPost (model X.prog X.w) X.A X.xe none (EP X pins σ Q) acc C) hc S (T σ I.len) I2 Tn st2 f2 hg ht he hw ?_
 intro D C H' s' m hC _ hn hI hq
 exact ⟨m,hn,fun h' hs'=>⟨.ref D,H',hI h' hs',rfl,hq⟩⟩
theorem Zi0 {i:Nat}{y:Str}{py spos:Pos}(hc:X.calm=true)(S:Fj scope X.env)(hi:PI X target iter wi)(T:∀ σ,σ.length=X.N.length->Ez X scope N σ (σ0 σ))
  (hg:∀ C s H fp,PG (Cn X scope C N s H fp) target g) (ht:∀ C s H fp,Ft (Cn X scope C N s H fp) ifs tt) (he:∀ C s H fp,PE (Cn X scope C N s H fp) elt te)
  (hN:X.N.Nodup) (hy:X.N[i]?=some y) (hx:Dw X.env.scope y)
  (hsw:swapsWith (.ListComp elt [⟨target,iter,ifs,0⟩] scope pos) (some (.Name y py)) spos.line X.env=pure true:=by rfl)
  (hf:X.fn y=true\/X.env.scope.names.lookup y=some .local:=by first | exact .inl rfl | exact .inr rfl | assumption)
  (hs:∀ x,foldedSetIterable iter X.env x=pure x:=by intro _;rfl):PS X (.Assign [.Name y py] (.ListComp elt [⟨target,iter,ifs,0⟩] scope pos) spos) (Ff (Ie wi σ0 g tt te) (E5 i)):=by
 intro pins s σ H D I h
 rw [exec_Assign_Name_used _ _ _ _ hsw]
 refine Ot (Sg (Ot ?_))
 show wpAny _ X.A (do let _ <- comprehension (.ListComp elt [⟨target,iter,ifs,0⟩] scope pos) scope X.env _ (newList []) false (eval iter X.env) (some (assign (.Name y py) X.env))) _ _ s
 refine Ot (Aj (wpAny_comprehension_free (use:=some (assign (.Name y py) X.env)) (Q:=fun _ s'=>SP X pins D .next s') rfl hs (Zeb S.free) S.kind S.loc
  (Aj (hi pins s σ H _ I h) fun xv s₁ h₁=>Aj h₁ fun itv s₂ h₂=>?_)) fun _ s' hq=>Ov (Ov hq))
 obtain ⟨it,fp,tn,J,H2,rfl,I2,Tn,st2,f2,hw⟩:=h₂
 refine Zft (Q:=fun L H'=>D.nx (σ.set i (some (.ref L))) H') (RR:=fun acc C=>compPost (model X.prog X.w) X.A X.xe (some (assign (.Name y py) X.env)) (fun _ s'=>SP X pins D .next s') acc C) hc S (T σ I.len) I2 Tn st2 f2 hg ht he hw ?_
 intro L C H' s' m hC hfree hn hI hq
 have I3:Inv X pins σ H' s':=hI s'.heap (.refl ..)
 refine wpAny_assign_Name (Zc4 I3 hN hy hx (v:=.ref L) rfl (fun s4 I4 hch=>?_) hf)
 obtain ⟨a,hsb,ha⟩:=hch
 have haC:C≠a:=by
  rintro rfl
  rcases ha with e | e
  ·have:=I2.lt
   rw [<- e] at this
   exact absurd (Pd this hC) (P5 _)
  ·obtain ⟨v,z⟩:=I2.cell y _ e
   exact absurd (Pd z.lt hC) (P5 _)
 refine ⟨m,hn.sameBut hsb haC,fun h' hs'=>⟨_,H',?_,hq⟩⟩
 have e4:({ s4 with heap:=h' }:Shared)={ s4 with heap:=h',toks:=s4.toks }:=rfl
 rw [e4]
 refine I4.turned (it:=C) (fun b o hb e=>(hs'.2 b hb).trans e) hfree ?_ (.inr (Pm I2.sz hC)) ?_ ?_
 ·exact P0 (Pd I2.lt hC)
 ·rintro x c e rfl
  obtain ⟨v,z⟩:=I2.cell x _ e
  exact absurd (Pd z.lt hC) (P5 _)
 ·rintro p hp e
  exact absurd (Pd (Oy (I2.pin p hp).1) (by rw [e];exact hC)) (P5 _)
end
section
variable {X:Cx}
theorem Zi9 {K:Os}{T:String}:Qk K (.type T) (.type T)=some true:=by
 unfold Qk
 rw [if_pos (by simp)]
theorem Zg5 {K:Os}{T U:String}{b:Bool}{l:List Value}(hm:PySem.W.kitMeta U=true)(hn:¬ T=U)(hl:fastBuiltinMro T=some l)(hb:l.contains (.type U)=b):Qk K (.type T) (.type U)=some b:=by
 unfold Qk
 rw [if_neg (by simp [hn])]
 show (if PySem.W.kitMeta U=true then PySem.W.subIn K (.type T) (.type U) else none)=some b
 rw [if_pos hm]
 show (fastBuiltinMro T).map (·.contains (.type U))=some b
 rw [hl,<- hb]
 rfl
theorem Zjm:OpR X (compareOp .LtE) (fun x y H Q=>∃ i j,x=.str i/\y=.str j/\Q (.bl (!(decide (j.cps.toList < i.cps.toList)))) H):=by
 intro pins s σ H x y v u Q I rx ry h
 obtain ⟨i,j,rfl,rfl,q⟩:=h
 obtain ⟨t,rfl⟩:=rx
 obtain ⟨t',rfl⟩:=ry
 exact PySem.P.le_str (Bq I q rfl)
theorem Zp2:OpR X (compareOp .In) (fun x y H Q=>∃(c:Nat)(j:Str),x=.str ⟨#[c]⟩/\y=.str j/\Q (.bl (decide (c∈j.cps.toList))) H):=by
 intro pins s σ H x y v u Q I rx ry h
 obtain ⟨c,j,rfl,rfl,q⟩:=h
 exact Zo2 pins s σ H _ _ v u Q I rx ry ⟨_,_,rfl,rfl,by rw [StrLaws.found_one];exact q⟩
noncomputable def Op:V->Option Int->Option Int->Hp->VK->Prop:=fun x lo hi H Q=>∃ z,x=.str z/\z.length<=sizeLine/\Q (.str (Sn z lo hi)) H
theorem sl_str:SlR X Op:=by
 intro pins s σ H x v vl vu lo hi sl Q I rx hs pl pu h
 obtain ⟨z,rfl,hz,q⟩:=h
 obtain ⟨t,rfl⟩:=rx
 obtain ⟨o,ho,hc,hd⟩:=hs
 refine ⟨"str",_,slot_str_getitem.lookup,typeIs_str _ _ _,?_⟩
 cases pl with
 | none =>
  cases pu with
  | none=>exact Sx (l:=none) (u:=none) (st:=none) ⟨_,ho,hc,hd⟩ rfl (Ts ⟨Pm (T2 z _ _) hz,fun t' k=>⟨.str (Sn z _ _),H,I.tok k,⟨t',rfl⟩,q⟩⟩)
  | int j u=>exact Sx (l:=none) (u:=some (j,u)) (st:=none) ⟨_,ho,hc,hd⟩ rfl (Ts ⟨Pm (T2 z _ _) hz,fun t' k=>⟨.str (Sn z _ _),H,I.tok k,⟨t',rfl⟩,q⟩⟩)
 | int i ti =>
  cases pu with
  | none=>exact Sx (l:=some (i,ti)) (u:=none) (st:=none) ⟨_,ho,hc,hd⟩ rfl (Ts ⟨Pm (T2 z _ _) hz,fun t' k=>⟨.str (Sn z _ _),H,I.tok k,⟨t',rfl⟩,q⟩⟩)
  | int j u=>exact Sx (l:=some (i,ti)) (u:=some (j,u)) (st:=none) ⟨_,ho,hc,hd⟩ rfl (Ts ⟨Pm (T2 z _ _) hz,fun t' k=>⟨.str (Sn z _ _),H,I.tok k,⟨t',rfl⟩,q⟩⟩)
end
noncomputable def Its (z:Str):It:=⟨fun i _=>i < z.cps.size,fun i H x H'=>H'=H/\∃ c,z.cps.toList[i]?=some c/\x=.str ⟨#[c]⟩,fun i _=>i=z.cps.size⟩
theorem Zni (z:Str):["enumerate", "zip", "dict_itemiterator", "dict_reverseitemiterator", "odict_iterator", "itertools.zip_longest", "itertools.pairwise"].contains (strIterType z)=false:=by
 unfold strIterType
 cases z.cps.all (· < 128) <;> decide
theorem Zfo {P:Program}{w:World}{A:Around}(hh:A.handled=none)(it:Addr)(z:Str)(t:Tok):Walks P w A it [it] [it] z.cps.size (SignAt z) (fun i h=>h.IsStrIter it (strIterType z) z t i):=by
 unfold strIterType
 cases z.cps.all (· < 128)
 ·exact Walks.strWide hh it z t
 ·exact Walks.strAscii hh it z t
theorem Zk9 {P:Program}{w:World}{K:Os}{tg:Expr}(it:Addr)(z:Str)(t:Tok):En P w K tg (Its z) [it] it (fun i h=>h.IsStrIter it (strIterType z) z t i) where
 mem:=by simp
 obj:=fun i h st b hb=>by
  have e:b=it:=by simpa using hb
  subst e
  obtain ⟨o,e,c,d⟩:=st
  exact ⟨o,e,fun v z=>by rw [d] at z;cases z⟩
 keep:=fun i h h' st k=>let ⟨o,e,r⟩:=st;⟨o,k it (by simp) o e,r⟩
 item:=by
  intro X hP hw hK hc i pins s σ H E I hf st hg
  subst hP hw hK
  obtain ⟨f0,f1,f2,f3,f4,f5⟩:=hf it (by simp)
  refine (Zfo (P:=X.prog) (w:=X.w) (I.ok.hd hc) it z t).item i s _ _ hg st fun v h' tk hv st' kk=>?_
  obtain ⟨c,u,hcu,rfl⟩:=hv
  have I1:Inv X pins σ H { s with heap:=h',toks:=tk }:=I.turned (fun b o hb e=>kk b o (by simpa using hb) e) f0 f1 f3 f4 f5
  obtain ⟨o,e,cc,d⟩:=id st'
  exact ⟨_,rfl,Jh (s:={ s with heap:=h',toks:=tk }) e cc d (Zni z) ⟨.str ⟨#[c]⟩,H,I1,⟨u,rfl⟩,⟨rfl,c,by simpa using hcu,rfl⟩,st',fun b hb=>(hf b hb).1⟩⟩
 done:=by
  intro X hP hw hK hc i pins s σ H E I hf st hg
  subst hP hw hK
  obtain ⟨f0,f1,f2,f3,f4,f5⟩:=hf it (by simp)
  have hg:i=z.cps.size:=hg
  subst hg
  exact (Zfo (P:=X.prog) (w:=X.w) (I.ok.hd hc) it z t).done s _ _ st fun h' tk kk=>⟨rfl,I.turned (fun b o hb e=>kk b o (by simpa using hb) e) f0 f1 f3 f4 f5⟩
 self:=fun A i s Q E st h=>by
  obtain ⟨o,e,c,d⟩:=st
  unfold strIterType at c
  cases ha:z.cps.all (· < 128)
  ·rw [ha] at c;exact wpAny_pyIter_striter_wide ⟨o,e,c,d⟩ h
  ·rw [ha] at c;exact wpAny_pyIter_striter_ascii ⟨o,e,c,d⟩ h
section
variable {X:Cx}{tg:Expr}
end
section
variable {g:TG}{tt:TT}{te:TE}{σ0:St}{H1:Hp}{D:Addr}{Q:VK}
noncomputable def Lj (g:TG)(tt:TT)(te:TE)(D:Addr)(Nx:List V->St->Hp->Prop)(x:V)(σ:St)(H:Hp):Prop :=
 g x σ H fun σ2 H3=>tt σ2 H3 fun b H4=>if b=true then te σ2 H4 fun y H5=>∃ ys,H5 D=some (.lst ys)/\ys.length < sizeLine/\(∃ zs,upd H5 D (.lst (ys++[y])) D=some (.lst zs)/\Nx zs σ2 (upd H5 D (.lst (ys++[y])))) else ∃ zs,H4 D=some (.lst zs)/\Nx zs σ2 H4
theorem Zbv {lo:Int}{n:Nat}(Pv:Nat->List V->St->Hp->Prop)(h0:Pv 0 [] σ0 (upd H1 D (.lst [])))
  (hs:∀ i ys σ H,i < n->H D=some (.lst ys)->Pv i ys σ H->Lj g tt te D (Pv (i+1)) (.int (lo+i)) σ H)
  (hd:∀ ys σ H,H D=some (.lst ys)->Pv n ys σ H->Q (.ref D) H):Iw (Fc lo n) g tt te σ0 H1 D Q:=by
 refine ⟨fun i m σ H=>m=n - i/\i<=n/\∃ ys,H D=some (.lst ys)/\Pv i ys σ H,⟨n,by simp,Ph _,[],Ac,h0⟩,?_⟩
 rintro i m σ H ⟨rfl,hi,ys,hD,p⟩
 by_cases hlt:i < n
 ·refine .inr ⟨hlt,fun σ2 H2=>∃ zs,H2 D=some (.lst zs)/\Pv (i+1) zs σ2 H2,fun σ' H' p'=>⟨n - (i+1),by omega,rfl,hlt,p'⟩,fun x H' y=>?_⟩
  obtain ⟨e,y⟩:=y
  subst e y
  exact hs i ys σ _ hlt hD p
 ·have e:i=n:=by omega
  subst e
  exact .inl ⟨Ow _,hd ys σ H hD p⟩
theorem F0 {K:Os}{a:Addr}{xs:List V}(Pv:Nat->List V->St->Hp->Prop)(h0:Pv 0 [] σ0 (upd H1 D (.lst [])))(hl:∀ i ys σ H,i<=xs.length->Pv i ys σ H->SqL K H a xs)
  (hs:∀ i x ys σ H,xs[i]?=some x->H D=some (.lst ys)->Pv i ys σ H->Lj g tt te D (Pv (i+1)) x σ H)
  (hd:∀ ys σ H,H D=some (.lst ys)->Pv xs.length ys σ H->Q (.ref D) H):Iw (Fx K a) g tt te σ0 H1 D Q:=by
 refine ⟨fun i m σ H=>m=xs.length - i/\i<=xs.length/\∃ ys,H D=some (.lst ys)/\Pv i ys σ H,⟨xs.length,by simp,Ph _,[],Ac,h0⟩,?_⟩
 rintro i m σ H ⟨rfl,hi,ys,hD,p⟩
 have q:=hl i ys σ H hi p
 by_cases hlt:i < xs.length
 ·refine .inr ⟨⟨xs,xs[i],q,by simp [hlt]⟩,fun σ2 H2=>∃ zs,H2 D=some (.lst zs)/\Pv (i+1) zs σ2 H2,fun σ' H' p'=>⟨xs.length - (i+1),by omega,rfl,hlt,p'⟩,fun x H' y=>?_⟩
  obtain ⟨e,y⟩:=y
  subst e
  exact hs i x ys σ _ (y xs q) hD p
 ·have e:i=xs.length:=by omega
  subst e
  exact .inl ⟨⟨xs,q,Ow _⟩,hd ys σ H hD p⟩
end
section
variable {X:Cx}
end
theorem Same.upd {H:Hp}{p:Addr}{o:HO}(h:H p=none):Same H (upd H p o):=fun b u e=>by rw [Ai (A3 e h)];exact e
theorem Hi {H:Hp}{a:Addr}(h:H a=none)(o:HO):∃ H1,Same H H1/\H1 a=some o/\upd H a o=H1:=⟨_,Same.upd h,Ac,rfl⟩
theorem Same.put {H0 H:Hp}{p:Addr}{o:HO}(s:Same H0 H)(h:H p=none):Same H0 (L2.upd H p o):=s.trans (Same.upd h)
theorem Same.over {H0 H:Hp}{p:Addr}{o:HO}(s:Same H0 H)(h:H0 p=none):Same H0 (L2.upd H p o):=fun b u e=>by rw [Ai (A3 e h)];exact s b u e
theorem Same.tup {K:Os}{H H':Hp}{a:Addr}{xs:List V}(e:Same H H')(h:SqT K H a xs):SqT K H' a xs:=by
 rcases h with (h | ⟨o,h⟩) | h
 ·exact .inl (.inl (e _ _ h))
 ·exact .inl (.inr ⟨o,e _ _ h⟩)
 ·exact .inr h
theorem Ea {sc out:Scope}{qual:Str}{n:Nat}{f:Addr}{cd:Value}(hk:sc.kind=.function)(hc:(sc.names.all fun y=>y.2 != .cell)=true)
  (hl:(sc.names.all fun y=>y.2 != .local || sc.names.lookup y.1 == some .local)=true) (hf:(sc.names.all fun y=>y.2 != .free || out.names.lookup y.1 == some .cell)=true):Fj sc (envOfC qual out n f cd) where
 kind:=hk
 nocell:=fun y hy e=>by have:=Q4.mp hc y hy;rw [e] at this;cases this
 loc:=fun y hy e=>by
  have:=Q4.mp hl y hy
  rw [e] at this
  simpa using this
 free:=fun y hy e=>by
  have h:=Q4.mp hf y hy
  rw [e] at h
  have h:out.names.lookup y.1=some .cell:=by simpa using h
  obtain ⟨c,hc⟩:=N0 (n:=n+1) h
  show ((cellsFrom (n+1) out.names []).lookup y.1).isSome=true
  rw [hc]
  rfl
noncomputable def Dc (k:Nat)(cap:List Nat)(σ:St):St:=Pp k none++cap.map fun j=>(σ[j]?).join
theorem Zlg {X:Cx}{scope:Scope}{N:List Str}{k:Nat}{cap:List Nat}{σ:St}(hl:k+cap.length=N.length)
  (h:∀(i j:Nat)(x:Str),cap[i]?=some j->N[k+i]?=some x->X.N[j]?=some x/\scope.names.lookup x=some .free/\(X.env.kindOf x=some .cell\/X.env.kindOf x=some .free)):Ez X scope N σ (Dc k cap σ):=by
 refine ⟨by unfold Dc;simp [hl],fun i x v hx hv=>?_⟩
 unfold Dc at hv
 by_cases hi:i < k
 ·rw [Px (by simpa using hi),List.getElem?_replicate,if_pos hi] at hv
  cases hv
 ·rw [Qf (by simpa using hi),List.length_replicate,Pk] at hv
  cases hj:cap[i - k]? with
  | none=>rw [hj] at hv;cases hv
  | some j =>
   rw [hj] at hv
   have hv:(σ[j]?).join=some v:=Pb hv
   obtain ⟨h1,h2,h3⟩:=h (i - k) j x hj (by rw [show k+(i - k)=i by omega];exact hx)
   refine ⟨j,h1,?_,h2,h3⟩
   cases e:σ[j]? with
   | none=>rw [e] at hv;cases hv
   | some o=>rw [e] at hv;exact congrArg some hv
theorem D7 {X:Cx}{scope:Scope}{N:List Str}{k:Nat}{cap:List Nat}(hl:k+cap.length=N.length)
  (h:((cap.zip (N.drop k)).all fun p=>X.N[p.1]? == some p.2 && scope.names.lookup p.2 == some .free && (X.env.kindOf p.2 == some .cell || X.env.kindOf p.2 == some .free))=true):∀ σ,σ.length=X.N.length->Ez X scope N σ (Dc k cap σ):=fun σ _ =>
 Zlg hl fun i j x hj hx=>by
  have m:(j,x)∈cap.zip (N.drop k):=by
   refine P4 (i:=i) ?_
   rw [List.getElem?_zip_eq_some]
   exact ⟨hj,by rw [List.getElem?_drop];exact hx⟩
  have:=Q4.mp h _ m
  simp only [P9,Bool.or_eq_true,beq_iff_eq] at this
  exact ⟨this.1.1,this.1.2,this.2⟩
theorem Gr {α:Type}{xs:List α}{i:Int}(h0:0<=i)(h1:i < xs.length):∃ v,B0 xs i=some v/\v∈xs:=by
 have hj:i.toNat < xs.length:=by omega
 refine ⟨xs[i.toNat],?_,Sa hj⟩
 have:=Bp (xs:=xs) (j:=i.toNat) (v:=xs[i.toNat]) (by simp [hj])
 rwa [Int.toNat_of_nonneg h0] at this
noncomputable def Mt:Expr->Option V
 | .Constant (.str x) _ _=>some (.str x)
 | .Constant (.int i) _ _=>some (.int i)
 | .Constant (.bool b) _ _=>some (.bl b)
 | .Constant .none _ _=>some .non
 | _=>none
noncomputable def Lf:List Expr->Option (List V)
 | []=>some []
 | e::es=>match Mt e,Lf es with
  | some v,some vs=>some (v::vs)
  | _,_=>none
noncomputable def Mn (xs:List V):TA:=fun _ H Q=>Q xs H
theorem Zgq {X:Cx}{e:Expr}{v:V}(h:Mt e=some v):PE X e (tC v)/\∀ es,starEach (e::es) X.env=(false,eval e X.env)::starEach es X.env:=by
 unfold Mt at h
 split at h
 ·cases h;exact ⟨Zbx,fun _=>rfl⟩
 ·cases h;exact ⟨Zdb,fun _=>rfl⟩
 ·cases h;exact ⟨Zfp,fun _=>rfl⟩
 ·cases h;exact ⟨Zc3,fun _=>rfl⟩
 ·cases h
theorem Zeg {X:Cx}:∀{es:List Expr}{xs:List V},Lf es=some xs->PA X es (Mn xs)
 | [],xs,h=>by
  have h:some []=some xs:=h
  cases h
  exact Zd9
 | e::es,xs,h=>by
  unfold Lf at h
  split at h
  ·rename_i v vs h1 h2
   cases h
   obtain ⟨p,hs⟩:=Zgq (X:=X) h1
   exact Zd2 p (Zeg h2) (hs es)
  ·cases h
structure Ba (P:Program)(w:World)(K:Os)(mg:Str->Option Value)(base:Heap)(k:Nat)(x:Str)(ps:List Str)(sp:Sp):Prop where
 ex:∃(f:Addr)(fd:FuncData),A9 P w K mg base Bd k f fd ps sp/\mg x=some (.ref f)/\Sd K (.ref f)=true/\Binds K fd ps []
section
variable {X:Cx}{k:Nat}{x:Str}{ps:List Str}{sp:Sp}{p pos:Pos}{e:Expr}{es:List Expr}{t:TA}
theorem Zne (C:Ba X.prog X.w X.K X.mg X.base k x ps sp)(hr:Room k X.A)(ha:PA X (e::es) t)(hg:Gl X x:=by rfl)(hdb:(x == ("__debug__" : Str))=false:=by decide)
  (he:starEach (e::es) X.env=(false,eval e X.env)::starEach es X.env:=by rfl) (hpl:(backTo pos (starEach es X.env)).any (·.1)=false:=by rfl):PE X (.Call (.Name x p) (e::es) [] pos) (L5 sp [] E0 t):=by
 obtain ⟨f,fd,F,hm,hk,hb⟩:=C.ex
 exact Zk2 F hr hg hm hk hb .nil Zmq ha hdb he hpl
end
end L2
namespace L2
open PySem
theorem Zjo {x:V}{u:Value}(h:Li u=some x):RelV x u:=by
 cases u <;> simp only [Li] at h <;> first | (cases h;first | rfl | exact ⟨_,rfl⟩) | cases h
noncomputable def Gs:List Value->Option (List V)
 | []=>some []
 | u::r=>match Li u,Gs r with
  | some x,some xs=>some (x::xs)
  | _,_=>none
theorem Zfw:∀{us:List Value}{xs:List V},Gs us=some xs->Vals xs us
 | [],xs,h=>by
  have h:some []=some xs:=h
  cases h
  exact .nil
 | u::r,xs,h=>by
  unfold Gs at h
  split at h
  ·rename_i x ys h1 h2
   cases h
   exact .cons (Zjo h1) (Zfw h2)
  ·cases h
theorem Zco {K:Os}{a:Addr}{od:Option Addr}{its:Array Value}{n:Nat}{sl:Array (Option Value)}{xs:List V}(l:K.lookup a=some ⟨.type "tuple",od,.seq its n,sl⟩)(h:Gs its.toList=some xs)(hz:xs.length<=1000):∀ H,SqT K H a xs:=fun H=>by
 have v:=Zfw h
 refine .inr ⟨_,its,n,l,rfl,rfl,?_,v⟩
 have e:=v.length
 have b:1000<=sizeLine:=by decide
 have e2:its.toList.length=its.size:=R3
 omega
theorem Ze7 {P:Program}{w:World}{K:Os}{mg:Str->Option Value}{base:Heap}{k:Nat}{x:Str}{ps:List Str}{sp:Sp}{f:Addr}{fd:FuncData}(F:A9 P w K mg base Bd k f fd ps sp)(m:mg x=some (.ref f))(kp:Sd K (.ref f)=true)(b:Binds K fd ps []):Ba P w K mg base k x ps sp:=⟨f,fd,F,m,kp,b⟩
section
variable {P:Program}{w:World}{K:Os}{mg:Str->Option Value}{base:Heap}
end
end L2
set_option autoImplicit true
namespace L2
open PySem PySem.Spec PyProof.Rows
structure QE (X:Cx)(e:Expr)(t:TE):Prop where
 run:PE X e t
structure QT (X:Cx)(e:Expr)(t:TT):Prop where
 run:PT X e t
structure QW (X:Cx)(e:Expr)(t:TT):Prop where
 run:PW X e t
structure QA (X:Cx)(es:List Expr)(t:TA):Prop where
 run:PA X es t
structure QS (X:Cx)(st:Stmt)(t:TS):Prop where
 run:PS X st t
structure Er (X:Cx)(sts:List Stmt)(t:TS):Prop where
 run:PSs X sts t
structure QG (X:Cx)(e:Expr)(g:TG):Prop where
 run:PG X e g
structure QGs (X:Cx)(es:List Expr)(g:Dp):Prop where
 run:PGs X es g
structure QI (X:Cx)(tg iter:Expr)(wi:TI):Prop where
 run:PI X tg iter wi
structure QC (X:Cx)(op:CmpOp)(a b:Expr)(t:TE):Prop where
 run:PC X op a b t
structure QO (X:Cx)(e:Option Expr)(t:TO):Prop where
 run:PO X e t
structure QTs (X:Cx)(ifs:List Expr)(t:TT):Prop where
 run:Ft X ifs t
theorem Af {i j pos}:QE X (.Constant (.int i) j pos) (tC (.int i)):=⟨Zdb⟩
theorem C6 {b j pos}:QE X (.Constant (.bool b) j pos) (tC (.bl b)):=⟨Zfp⟩
theorem Bu {j pos}:QE X (.Constant .none j pos) (tC .non):=⟨Zc3⟩
theorem Ah {x j pos}:QE X (.Constant (.str x) j pos) (tC (.str x)):=⟨Zbx⟩
theorem Dr {x:Str}{v:V}{u:Value}{pos:Pos}(hg:Gl X x)(hm:X.mg x=none)(hv:bootBuiltins x=some u)(r:RelV v u)(hn:x ≠ "__name__" := by decide)(hd:(x == ("__debug__" : Str))=false:=by decide):QE X (.Name x pos) (tC v):=⟨Zhp hg hm hv r hn hd⟩
theorem Bs {op:Operator}{r:R2}(ho:OpR X (binaryOp op) r)(ha:QE X a ta)(hb:QE X b tb):QE X (.BinOp a op b pos) (Eh r ta tb):=⟨Znt ho ha.run hb.run⟩
theorem Hv {op:UnaryOp}{r:V->Hp->VK->Prop}(ho:UnR X (unaryOp op) r)(ha:QE X a ta):QE X (.UnaryOp op a pos) (tUn r ta):=⟨Zoe ho ha.run⟩
theorem Zd3 {op:CmpOp}{t:TE}(h:QC X op a b t)(h1:behindInMarks op b=false:=by first | exact Kz _ (by decide) (by decide) | rfl):QE X (.Compare a [op] [b] pos) t:=⟨Zoo h.run h1⟩
theorem Ha {op:CmpOp}{t:TE}(h:QC X op a b t)(h1:behindInMarks op b=false:=by first | exact Kz _ (by decide) (by decide) | rfl):QT X (.Compare a [op] [b] pos) (tB t):=⟨Zmu h.run h1⟩
theorem Kg {op:CmpOp}{r:R2}(ho:OpR X (compareOp op) r)(ha:QE X a ta)(hb:QE X b tb)(hm:behindInMarks op b=false):QE X (.Compare a [op] [b] pos) (Eh r ta tb):=⟨Zpb ho ha.run hb.run hm⟩
theorem Bv {op:CmpOp}{r:R2}(ho:OpR X (compareOp op) r)(ha:QE X a ta)(hb:QE X b tb)(hm:behindInMarks op b=false):QT X (.Compare a [op] [b] pos) (Zak (Eh r ta tb)):=⟨Zla ho ha.run hb.run hm⟩
theorem Zmf {op op':CmpOp}{r r':R2}(ho:OpR X (compareOp op) r)(ho':OpR X (compareOp op') r')(ha:QE X a ta)(hb:QE X b tb)(hc:QE X c tc)(hm:lastMarks [op,op'] [b,c]=false:=by with_unfolding_all rfl):QE X (.Compare a [op,op'] [b,c] pos) (Nc r r' ta tb tc):=⟨Zk6 ho ho' ha.run hb.run hc.run hm⟩
theorem Du {e:Expr}{t:TE}(h:QE X e t)(he:∀ whole,isTrue e X.env whole=(do let v <- whole;standAt e.pos;holding [v] (truthy v)):=by intro _;rfl):QT X e (tB t):=⟨Zmp h.run he⟩
theorem Nu (ha:QT X a tA):QW X (.BoolOp .And [a] pos) tA:=⟨pw_and1 ha.run⟩
theorem Zap {rest:List Expr}(ha:QT X a tA)(hb:QW X (.BoolOp .And (b::rest) pos) tB'):QW X (.BoolOp .And (a::b::rest) pos) (Za7 tA tB'):=⟨pw_and ha.run hb.run⟩
theorem E4 (ha:QT X a tA):QT X (.UnaryOp .Not a pos) (Mv tA):=⟨Zp8 ha.run⟩
theorem Hl {op}{t:TE}(h:QE X a t):QE X (.BoolOp op [a] pos) t:=⟨Zgc h.run⟩
theorem Fy {rest:List Expr}(ha:QE X a ta)(hb:QE X (.BoolOp .And (b::rest) pos) tb):QE X (.BoolOp .And (a::b::rest) pos) (Za5 ta tb):=⟨Zmo ha.run hb.run⟩
theorem Zd0 (ha:QE X a ta):QE X (.UnaryOp .Not a pos) (Oh ta):=⟨Znp ha.run⟩
theorem Zam {c:Expr}(hc:QT X c tA)(ha:QE X a ta)(hb:QE X b tb):QE X (.IfExp c a b pos) (tIf tA ta tb):=⟨Zm2 hc.run ha.run hb.run⟩
theorem Bj  : Er X [] Za1:=⟨Zf4⟩
theorem Ag {st:Stmt}{rest:List Stmt}{t u:TS}(h1:QS X st t)(h2:Er X rest u):Er X (st::rest) (Zay t u):=⟨Zn8 h1.run h2.run⟩
theorem Ak {st:Stmt}{t:TS}(h1:QS X st t):Er X [st] t:=⟨Zkp h1.run⟩
theorem Zea  : QS X (.Continue pos) Zeh:=⟨Znh⟩
theorem Cw {e:Expr}{te:TE}(he:QE X e te)(hs:swapsWith e none pos.line X.env=pure false:=by rfl):QS X (.Expr e pos) (Zbc te):=⟨Zjg he.run hs⟩
theorem Ax {e:Expr}{te:TE}(he:QE X e te):QS X (.Return (some e) pos) (Nh te):=⟨Zns he.run⟩
theorem Bf {t u:TS}{c:Expr}{a b:List Stmt}{tc:TT}(hc:QT X c tc)(ha:Er X a t)(hb:Er X b u):QS X (.If c a b pos) (Nj tc t u):=⟨Zkl hc.run ha.run hb.run⟩
theorem C7  : QGs X [] Mr:=⟨Zj9⟩
theorem Bx {e:Expr}{es:List Expr}{t:TG}{u:Dp}(h1:QG X e t)(h2:QGs X es u)(hs:(assignEach (e::es) X.env).map (·.2)=assign e X.env::(assignEach es X.env).map (·.2):=by rfl):QGs X (e::es) (Oe t u):=⟨Zk4 h1.run h2.run hs⟩
theorem A6 {i:Nat}{x:Str}(hN:X.N.Nodup)(hi:X.N[i]?=some x)(hx:Dw X.env.scope x)(hf:X.fn x=true\/X.env.scope.names.lookup x=some .local:=by first | exact .inl rfl | exact .inr rfl | assumption):QG X (.Name x pos) (E5 i):=⟨Zjh hN hi hx hf⟩
theorem Zp4 {es:List Expr}{k:Nat}{t:Dp}{n:Nat}(hc:X.calm=true)(h:QGs X es t)(hn:(assignEach es X.env).length=n:=by rfl)(hst:(assignEach es X.env).findIdx? (·.1)=none:=by rfl):QG X (.Tuple es k pos) (Ls X.K n t):=⟨Zme hc h.run hn hst⟩
theorem Zj2 {o i:Expr}{to ti:TE}{t:Iy}(ho:QE X o to)(hi:QE X i ti)(hs:Zar X t)(ha:∀ v,assign (.Subscript o i pos) X.env v=(do
   let ov <- holding [v] (eval o X.env)
   let iv <- holding [v,ov] (eval i X.env)
   standAt pos
   holding [v,ov,iv] (setItem ov iv v)
   release [v,ov,iv] []):=by intro _;rfl):QG X (.Subscript o i pos) (Oj to ti t):=⟨Zpx ho.run hi.run hs ha⟩
theorem Ia {tg e:Expr}{te:TE}{g:TG}(he:QE X e te)(hg:QG X tg g)(hs:swapsWithSole [tg] e pos.line X.env=pure false:=by rfl)(hw:swappedStores [tg] e X.env=pure none:=by rfl)(h1:(assignEach [tg] X.env).map (·.2)=[assign tg X.env]:=by rfl):QS X (.Assign [tg] e pos) (Ff te g):=⟨Zou he.run hg.run hs hw h1⟩
theorem Zaw {i:Nat}{x:Str}{e:Expr}{te:TE}{pos':Pos}(hN:X.N.Nodup)(hi:X.N[i]?=some x)(hx:Dw X.env.scope x)(he:QE X e te)(hs:swapsWith e (some (.Name x pos')) pos.line X.env=pure false:=by rfl)(hf:X.fn x=true\/X.env.scope.names.lookup x=some .local:=by first | exact .inl rfl | exact .inr rfl | assumption):QS X (.Assign [.Name x pos'] e pos) (Ff te (E5 i)):=⟨Zkd hN hi hx he.run hs hf⟩
theorem Zgm {i:Nat}{x:Str}{e:Expr}{te:TE}{op:Operator}{ti:G7}{pos':Pos}(hN:X.N.Nodup)(hi:X.N[i]?=some x)(hx:Dw X.env.scope x)(he:QE X e te)(ho:PIp X op ti)(hf:X.fn x=true\/X.env.scope.names.lookup x=some .local:=by first | exact .inl rfl | exact .inr rfl | assumption):QS X (.AugAssign (.Name x pos') op e pos) (Oa i te ti):=⟨Zp1 hN hi hx he.run ho hf⟩
theorem Ij {c:Expr}{body:List Stmt}{tc:TT}{tb:TS}(hp:PassesOwn (model X.prog X.w) X.A X.env X.xe)(hc:QT X c tc)(hb:Er X body tb):QS X (.While c body [] pos) (Zdg tc tb):=⟨Zls hp hc.run hb.run⟩
theorem Hw {a:Expr}{ta:TA}{p pos:Pos}(hg:Gl X "range")(hm:X.mg "range" = none)(ha:QA X [a] ta)(hs:starEach [a] X.env=[(false,eval a X.env)]:=by rfl):QI X tg (.Call (.Name "range" p) [a] [] pos) (Zax ta):=⟨Zlo hg hm ha.run hs⟩
theorem Cu {iter:Expr}{body:List Stmt}{wi:TI}{g:TG}{tb:TS}{pos:Pos}(hp:PassesOwn (model X.prog X.w) X.A X.env X.xe)(hc:X.calm=true)(hi:QI X tg iter wi)(hg:QG X tg g)(hb:Er X body tb)(hs:∀ x,foldedSetIterable iter X.env x=pure x:=by intro _;rfl):QS X (.For tg iter body [] pos) (Zal wi g tb):=⟨Zlq hp hc hi.run hg.run hb.run hs⟩
theorem Ab  : QA X [] On:=⟨Zd9⟩
theorem Aa (ha:QE X e te)(hr:QA X es t)(hs:starEach (e::es) X.env=(false,eval e X.env)::starEach es X.env:=by rfl):QA X (e::es) (Zad te t):=⟨Zd2 ha.run hr.run hs⟩
theorem Ad {x1}(h:QA X es t):QE X (.Tuple es x1 pos) (Zaj t):=⟨Zja h.run⟩
theorem Av (h:QA X es t):QE X (.List es pos) (Oc t):=⟨Zmx h.run⟩
theorem As (C:Ba X.prog X.w X.K X.mg X.base k x ps sp)(hr:Room k X.A)(ha:QA X (e::es) t)(hg:Gl X x:=by rfl)(hdb:(x == ("__debug__" : Str))=false:=by decide)(he:starEach (e::es) X.env=(false,eval e X.env)::starEach es X.env:=by rfl)(hpl:(backTo pos (starEach es X.env)).any (·.1)=false:=by rfl):QE X (.Call (.Name x p) (e::es) [] pos) (L5 sp [] E0 t):=⟨Zne C hr ha.run hg hdb he hpl⟩
theorem Ca {id:String}(hc:Cj X (.builtin id) r)(hg:Gl X x)(hm:X.mg x=none)(hv:bootBuiltins x=some (.builtin id))(ha:QA X (e::es) t)(hn:x ≠ "__name__" := by decide)(hdb:(x == ("__debug__" : Str))=false:=by decide)(he:starEach (e::es) X.env=(false,eval e X.env)::starEach es X.env:=by rfl)(hpl:(backTo pos (starEach es X.env)).any (·.1)=false:=by rfl):QE X (.Call (.Name x p) (e::es) [] pos) (tCB r t):=⟨Zlm hc hg hm hv ha.run hn hdb he hpl⟩
theorem Fd {T:String}(hc:Cj X (.type T) r)(hg:Gl X x)(hm:X.mg x=none)(hv:bootBuiltins x=some (.type T))(ha:QA X (e::es) t)(hn:x ≠ "__name__" := by decide)(hdb:(x == ("__debug__" : Str))=false:=by decide)(he:starEach (e::es) X.env=(false,eval e X.env)::starEach es X.env:=by rfl)(hpl:(backTo pos (starEach es X.env)).any (·.1)=false:=by rfl):QE X (.Call (.Name x p) (e::es) [] pos) (tCB r t):=⟨Zj1 hc hg hm hv ha.run hn hdb he hpl⟩
theorem G5  : QO X none Nq:=⟨Zpu⟩
theorem Hc (h:QE X e te):QO X (some e) (Nm te):=⟨Zld h.run⟩
theorem Hk {lo hi:Option Expr}{r:V->Option Int->Option Int->Hp->VK->Prop}(hr:SlR X r)(he:QE X e te)(hl:QO X lo tl)(hu:QO X hi th):QE X (.Subscript e (.Slice lo hi none p2) pos) (tSl r te tl th):=⟨Zf3 hr he.run hl.run hu.run⟩
theorem Zi7 {r:R2}(hr:IxR X r)(ha:QE X a ta)(hb:QE X b tb)(hs:Mm b):QE X (.Subscript a b pos) (Eh r ta tb):=⟨Zf5 hr ha.run hb.run hs⟩
theorem Zl4 {T id:String}(pa:PlainAttrs T)(slot:Slot T name id)(hty:typeOf (.builtin id)=pure (.type "method_descriptor"))(hm:Hr X id r)(ho:QE X o to)(ha:QA X (e::es) t)(hbase:attributeBase o name X.env (eval o X.env)=eval o X.env:=by rfl)(hfew:((backTo cpos (starEach (e::es) X.env)).all (fun x=>!x.1) && (backToKw cpos (keywordEach [] X.env)).all (fun x=>x.1.isSome)
   && decide ((e::es).length+([]:List Keyword).length+(if ([]:List Keyword).isEmpty then 0 else 1) < 30))=true:=by rfl) (hline:(apos.endLine == cpos.line)=true:=by rfl) (hs:starEach (e::es) X.env=(false,eval e X.env)::starEach es X.env:=by rfl) (hplain:(backTo cpos (starEach es X.env)).any (·.1)=false:=by rfl):QE X (.Call (.Attribute o name apos) (e::es) [] cpos) (tBM X.K T r to t):=⟨Zgg pa slot hty hm ho.run ha.run hbase hfew hline hs hplain⟩
theorem Zmv {T id:String}(pa:PlainAttrs T)(slot:Slot T name id)(hty:typeOf (.builtin id)=pure (.type "method_descriptor"))(hm:Hr X id r)(ho:QE X o to)(hbase:attributeBase o name X.env (eval o X.env)=eval o X.env:=by rfl)(hline:(apos.endLine == cpos.line)=true:=by rfl):QE X (.Call (.Attribute o name apos) [] [] cpos) (L4 X.K T r to):=⟨Zn9 pa slot hty hm ho.run hbase hline⟩
theorem F4 (hc:X.calm=true)(S:Fj scope X.env)(hi:QI X target iter wi)(T:∀ σ,σ.length=X.N.length->Ez X scope N σ (σ0 σ))(hg:∀ C s H fp,QG (Cn X scope C N s H fp) target g)(ht:∀ C s H fp,QTs (Cn X scope C N s H fp) ifs tt)(he:∀ C s H fp,QE (Cn X scope C N s H fp) elt te)(hs:∀ x,foldedSetIterable iter X.env x=pure x:=by intro _;rfl):QE X (.ListComp elt [⟨target,iter,ifs,0⟩] scope pos) (Ie wi σ0 g tt te):=⟨Zl5 hc S hi.run T (fun C s H fp=>(hg C s H fp).run) (fun C s H fp=>(ht C s H fp).run) (fun C s H fp=>(he C s H fp).run) hs⟩
theorem Od {i:Nat}{y:Str}{py spos:Pos}(hc:X.calm=true)(S:Fj scope X.env)(hi:QI X target iter wi)(T:∀ σ,σ.length=X.N.length->Ez X scope N σ (σ0 σ))(hg:∀ C s H fp,QG (Cn X scope C N s H fp) target g)(ht:∀ C s H fp,QTs (Cn X scope C N s H fp) ifs tt)(he:∀ C s H fp,QE (Cn X scope C N s H fp) elt te)(hN:X.N.Nodup)(hy:X.N[i]?=some y)(hx:Dw X.env.scope y)(hsw:swapsWith (.ListComp elt [⟨target,iter,ifs,0⟩] scope pos) (some (.Name y py)) spos.line X.env=pure true:=by rfl)(hf:X.fn y=true\/X.env.scope.names.lookup y=some .local:=by first | exact .inl rfl | exact .inr rfl | assumption)(hs:∀ x,foldedSetIterable iter X.env x=pure x:=by intro _;rfl):QS X (.Assign [.Name y py] (.ListComp elt [⟨target,iter,ifs,0⟩] scope pos) spos) (Ff (Ie wi σ0 g tt te) (E5 i)):=⟨Zi0 hc S hi.run T (fun C s H fp=>(hg C s H fp).run) (fun C s H fp=>(ht C s H fp).run) (fun C s H fp=>(he C s H fp).run) hN hy hx hsw hf hs⟩
theorem Go {X:Cx}:QTs X [] Nd:=⟨Zmy⟩
theorem Zan {X:Cx}{c:Expr}{t:TT}(h:QT X c t):QTs X [c] t:=⟨Zjb h.run⟩
theorem Lb {j pos'}(ha:QE X a ta):QC X .Is a (.Constant .none j pos') (Nk ta):=⟨Zi2 ha.run⟩
theorem Zgu {j pos'}(ha:QE X a ta):QC X .IsNot a (.Constant .none j pos') (N9 ta):=⟨Zna ha.run⟩
theorem Zcq {X:Cx}{es:List Expr}{xs:List V}(h:Lf es=some xs):QA X es (Mn xs):=⟨Zeg h⟩
theorem qv {X:Cx}(i:Nat){x:Str}{pos:Pos}(hN:X.N[i]?=some x:=by rfl)(hv:Vis X.env.scope x:=by first | exact Or.inl rfl | exact Or.inr (Or.inl rfl) | exact Or.inr (Or.inr rfl))(hd:(x == ("__debug__" : Str))=false:=by decide)
  (hcd:(x == ("__classdict__" : Str))=false:=by decide):QE X (.Name x pos) (N4 i):=⟨Zo9 hN hv hd hcd⟩
theorem QW.qt {X:Cx}{e:Expr}{t:TT}(h:QW X e t):QT X e t:=⟨h.run.pt⟩
section
variable {P:Program}{w:World}{K:Os}{mg:Str->Option Value}{base:Heap}
theorem Fun.okq {x qual:Str}{st:Stmt}{f:Addr}{fd:FuncData}{N ps:List Str}{k:Nat}{sp:Sp}(F:Fun K x qual st f fd)(S:Bm N ps (Be st))(len:∀ vs H Q E,sp vs H Q E->vs.length=ps.length)
  (hbody:∀(cdv:Value)(A:Around)(outer:List Env)(s:Shared)(H:Hp)(vs:List V)(Q:VK)(E:XK),Room k (A.deeper (envOfC qual (Be st) s.heap.objs.size f cdv))->sp vs H Q E ->
   ∃ t,Er (F2 Bd P w K mg base N qual (Be st) f cdv A outer s H E).nox (Ey st) t/\t { nx:=fun _ H'=>Q .non H',rt:=Q } (start N vs) H):A9 P w K mg base Bd (k+1) f fd ps sp :=
 F.ok S len fun cdv A outer s H vs Q E hr h=>by
  obtain ⟨t,q,r⟩:=hbody cdv A outer s H vs Q E hr h
  exact ⟨t,q.run,r⟩
end
section
variable {X:Cx}
noncomputable def Zf8:R2:=fun x y H Q=>∃ i j,x=.str i/\y=.str j/\i.length+j.length<=sizeLine/\Q (.str (i++j)) H
noncomputable def Zef (K:Os):R2:=fun x y H Q=>∃ a b xs ys,x=.ref a/\y=.ref b/\SqT K H a xs/\SqT K H b ys/\xs.length+ys.length<=sizeLine /\
 ∀ r H',Same H H'->SqT K H' r (xs++ys)->Q (.ref r) H'
theorem Zpe:OpR X (binaryOp .Add) (Zef X.K):=by
 intro pins s σ H x y v u Q I rx ry h
 obtain ⟨a,b,xs,ys,rfl,rfl,ha,hb,hz,q⟩:=h
 by_cases hx:xs=[]
 ·subst hx
  cases rx
  cases ry
  obtain ⟨its,r1,p1,_⟩:=I.tuple ha
  obtain ⟨its2,r2,p2,_⟩:=I.tuple hb
  cases r1
  obtain ⟨⟨cls,dd,data,sl⟩,ho,hc,n,hd⟩:=id p1
  obtain ⟨⟨cls2,dd2,data2,sl2⟩,ho2,hc2,n2,hd2⟩:=id p2
  simp only at hc hd hc2 hd2
  subst hc hd hc2 hd2
  exact T1 ⟨_,ho,rfl⟩ ⟨_,ho2,rfl⟩ Ti Tw Ta Sw (Su _ _)
   (tuple_addW0 a b _ _ n n2 dd dd2 sl sl2 (by simp)) ⟨ho,ho2,⟨.ref b,H,I,rfl,q b H (Same.refl H) hb⟩⟩
 ·refine Zdq pins s σ H _ _ v u Q I rx ry ⟨a,b,xs,ys,rfl,rfl,ha,hb,hx,hz,fun e=>?_,fun _ p hp=>q p _ (fun c o e=>by rw [Ai (A3 e hp)];exact e) (.inl (.inl Ac))⟩
  subst e
  exact q a H (Same.refl H) (by rw [Qa];exact ha)
noncomputable def F3 (K:Os):R2:=fun x y H Q=>D5 (fun i j=>.int (i+j)) x y H Q\/Zf8 x y H Q\/rCat x y H Q\/Zef K x y H Q
theorem op_addA:OpR X (binaryOp .Add) (F3 X.K):=op_add.or (op_add_str.or (op_cat.or Zpe))
theorem s_add_int {K:Os}{i j:Int}{H:Hp}{Q:VK}(h:Q (.int (i+j)) H):F3 K (.int i) (.int j) H Q:=.inl ⟨i,j,rfl,rfl,h⟩
theorem Mg {K:Os}{i j:Str}{H:Hp}{Q:VK}(hl:i.length+j.length<=sizeLine)(h:Q (.str (i++j)) H):F3 K (.str i) (.str j) H Q:=.inr (.inl ⟨i,j,rfl,rfl,hl,h⟩)
theorem Na {K:Os}{a b:Addr}{xs ys:List V}{H:Hp}{Q:VK}(ha:H a=some (.lst xs))(hb:H b=some (.lst ys))(hz:xs.length+ys.length<=sizeLine)(h:∀ p,H p=none->Q (.ref p) (upd H p (.lst (xs++ys)))):F3 K (.ref a) (.ref b) H Q:=.inr (.inr (.inl ⟨a,b,xs,ys,rfl,rfl,ha,hb,hz,h⟩))
theorem Zje {K:Os}{a b:Addr}{xs ys:List V}{H:Hp}{Q:VK}(ha:SqT K H a xs)(hb:SqT K H b ys)(hz:xs.length+ys.length<=sizeLine)(h:∀ r H',Same H H'->SqT K H' r (xs++ys)->Q (.ref r) H'):F3 K (.ref a) (.ref b) H Q:=.inr (.inr (.inr ⟨a,b,xs,ys,rfl,rfl,ha,hb,hz,h⟩))
noncomputable def Zae:R2:=fun x y H Q=>rI CMul (fun i j=>.int (i * j)) x y H Q\/rRep x y H Q
theorem Kl:OpR X (binaryOp .Mult) Zae:=op_mul.or Znv
theorem s_mul_l {i j:Int}{H:Hp}{Q:VK}(h1:-(2 ^ 64) < i)(h2:i < 2 ^ 64)(h:Q (.int (i * j)) H):Zae (.int i) (.int j) H Q:=.inl ⟨i,j,rfl,rfl,.inl ⟨h1,h2⟩,h⟩
theorem s_mul_r {i j:Int}{H:Hp}{Q:VK}(h1:-(2 ^ 64) < j)(h2:j < 2 ^ 64)(h:Q (.int (i * j)) H):Zae (.int i) (.int j) H Q:=.inl ⟨i,j,rfl,rfl,.inr ⟨h1,h2⟩,h⟩
theorem s_rI {C:Int->Int->Prop}{g:Int->Int->V}{i j:Int}{H:Hp}{Q:VK}(hc:C i j)(h:Q (g i j) H):rI C g (.int i) (.int j) H Q:=⟨i,j,rfl,rfl,hc,h⟩
theorem s_rI0 {g:Int->Int->V}{i j:Int}{H:Hp}{Q:VK}(h:Q (g i j) H):D5 g (.int i) (.int j) H Q:=⟨i,j,rfl,rfl,h⟩
theorem s_rU {g:Int->V}{i:Int}{H:Hp}{Q:VK}(h:Q (g i) H):rU g (.int i) H Q:=⟨i,rfl,h⟩
noncomputable def rLtA:R2:=fun x y H Q=>D5 (fun i j=>.bl (decide (i < j))) x y H Q\/∃ i j,x=.str i/\y=.str j/\Q (.bl (decide (i.cps.toList < j.cps.toList))) H
theorem Zey:OpR X (compareOp .Lt) rLtA:=op_lt.or Zpw
noncomputable def rLeA:R2:=fun x y H Q=>D5 (fun i j=>.bl (decide (i<=j))) x y H Q\/∃ i j,x=.str i/\y=.str j/\Q (.bl (!(decide (j.cps.toList < i.cps.toList)))) H
theorem Zpr:OpR X (compareOp .LtE) rLeA:=op_le.or Zjm
theorem s_lt {i j:Int}{H:Hp}{Q:VK}(h:Q (.bl (decide (i < j))) H):rLtA (.int i) (.int j) H Q:=.inl ⟨i,j,rfl,rfl,h⟩
theorem s_le {i j:Int}{H:Hp}{Q:VK}(h:Q (.bl (decide (i<=j))) H):rLeA (.int i) (.int j) H Q:=.inl ⟨i,j,rfl,rfl,h⟩
noncomputable def rInS (neg:Bool):R2:=fun x y H Q=>∃(c:Nat)(j:Str),x=.str ⟨#[c]⟩/\y=.str j/\Q (.bl (if neg then !decide (c∈j.cps.toList) else decide (c∈j.cps.toList))) H
theorem Zie:OpR X (compareOp .In) (rInS false):=Zp2
noncomputable def Zas (K:Os)(neg:Bool):R2:=fun x y H Q=>rIn K neg x y H Q\/rInS neg x y H Q
theorem Znb:OpR X (compareOp .In) (Zas X.K false):=op_in_seq.or Zie
theorem Zao {K:Os}{neg:Bool}{x:V}{p:Addr}{xs:List V}{H:Hp}{Q:VK}(hq:SqL K H p xs\/SqT K H p xs)(hx:Cz x=true)(hxs:xs.all Cz=true)(h:Q (.bl (if neg then !Ek x xs else Ek x xs)) H):Zas K neg x (.ref p) H Q:=.inl ⟨p,xs,rfl,hq,hx,hxs,h⟩
noncomputable def rSlA (K:Os):V->Option Int->Option Int->Hp->VK->Prop:=fun x lo hi H Q=>N8 K x lo hi H Q\/Op x lo hi H Q\/rSlT K x lo hi H Q
theorem Zms:SlR X (rSlA X.K):=sl_list.or (sl_str.or Zcz)
theorem A1 {K:Os}{a:Addr}{xs:List V}{i:Int}{v:V}{H:Hp}{Q:VK}(ha:SqL K H a xs)(hv:B0 xs i=some v)(h:Q v H):Gw K (.ref a) (.int i) H Q:=.inl ⟨a,xs,i,v,rfl,rfl,ha,hv,h⟩
theorem A2 {K:Os}{a:Addr}{xs:List V}{i:Int}{v:V}{H:Hp}{Q:VK}(ha:SqT K H a xs)(hv:B0 xs i=some v)(h:Q v H):Gw K (.ref a) (.int i) H Q:=.inr (.inl ⟨a,xs,i,v,rfl,rfl,ha,hv,h⟩)
theorem Zhj {K:Os}{z:Str}{i:Int}{c:Nat}{H:Hp}{Q:VK}(hl:z.length<=sizeLine)(hv:B0 z.cps.toList i=some c)(h:Q (.str ⟨#[c]⟩) H):Gw K (.str z) (.int i) H Q:=.inr (.inr ⟨z,i,c,rfl,rfl,hl,hv,h⟩)
noncomputable def Mc (K:Os):List V->Hp->VK->Prop:=fun xs H Q=>∃ x n,xs=[x]/\LenV K x H n/\Q (.int n) H
theorem Ziq:Cj X (.builtin "len") (Mc X.K):=Zi5
theorem E9 {K:Os}{a:Addr}{xs:List V}{H:Hp}{Q:VK}(ha:SqL K H a xs)(h:Q (.int xs.length) H):Mc K [.ref a] H Q:=⟨_,_,rfl,.inl ⟨xs,ha,rfl⟩,h⟩
theorem K5 {K:Os}{a:Addr}{xs:List V}{H:Hp}{Q:VK}(ha:SqT K H a xs)(h:Q (.int xs.length) H):Mc K [.ref a] H Q:=⟨_,_,rfl,.inr ⟨xs,ha,rfl⟩,h⟩
structure Ep (mg:Str->Option Value)(x:Str)(v:V):Prop where
 ex:∃ u,mg x=some u/\RelV v u
theorem D4 {x:Str}{v:V}{pos:Pos}(G:Ep X.mg x v)(hg:Gl X x:=by rfl)(hd:(x == ("__debug__" : Str))=false:=by decide):QE X (.Name x pos) (tC v):=by
 obtain ⟨u,h,r⟩:=G.ex
 exact ⟨Zj5 hg h r hd⟩
noncomputable def Of (K:Os)(tl:TE):TI:=fun σ H R=>tl σ H fun x H1=>(∃ a,x=.ref a/\(∃ xs,SqL K H1 a xs)/\R (Fx K a) H1)\/(∃ a,x=.ref a/\(∃ xs,SqT K H1 a xs)/\R (F9 K a) H1)\/∃ z,x=.str z/\R (Its z) H1
theorem Zll {tg l:Expr}{tl:TE}(hl:QE X l tl):QI X tg l (Of X.K tl):=by
 refine ⟨fun pins s σ H R I h=>?_⟩
 refine Aj (hl.run pins s σ H _ I h) fun v s1 zq=>?_
 obtain ⟨x,H1,I1,r1,q1⟩:=zq
 have one:∀(l:Expr)(t:TE),PE X l t->True:=fun _ _ _=>trivial
 rcases q1 with ⟨a,e,⟨xs,hq⟩,q⟩ | ⟨a,e,⟨xs,hq⟩,q⟩ | ⟨z,e,q⟩
 ·subst e
  cases r1
  obtain ⟨its,rv,p,hz⟩:=I1.list hq
  refine Uw p.isList ?_
  refine ⟨s1.heap.objs.size,[s1.heap.objs.size],_,_,H1,rfl,I1.kept (t':=s1.toks) fun b o e=>Oz _ e,Zjp a _,⟨_,Pc _ rfl,rfl,rfl⟩,fun b hb=>?_,q⟩
  have e:b=s1.heap.objs.size:=by simpa using hb
  subst e
  exact I1.fpOk (Ow _) (I1.hok.fresh (Ow _))
 ·subst e
  cases r1
  obtain ⟨its,rv,p,hz⟩:=I1.tuple hq
  refine R6 (show s1.heap.IsTuple a its.toArray from p) ?_
  refine ⟨s1.heap.objs.size,[s1.heap.objs.size],_,_,H1,rfl,I1.kept (t':=s1.toks) fun b o e=>Oz _ e,Zo5 a _,⟨_,Pc _ rfl,rfl,rfl⟩,fun b hb=>?_,q⟩
  have e:b=s1.heap.objs.size:=by simpa using hb
  subst e
  exact I1.fpOk (Ow _) (I1.hok.fresh (Ow _))
 ·subst e
  obtain ⟨t,rfl⟩:=r1
  refine wpAny_pyIter_strU ?_
  refine ⟨s1.heap.objs.size,[s1.heap.objs.size],_,_,H1,rfl,I1.kept (t':=s1.toks) fun b o e=>Oz _ e,Zk9 _ z t,⟨_,Pc _ rfl,rfl,rfl⟩,fun b hb=>?_,q⟩
  have e:b=s1.heap.objs.size:=by simpa using hb
  subst e
  exact I1.fpOk (Ow _) (I1.hok.fresh (Ow _))
end
section
variable {X:Cx}{tg:Expr}
end
noncomputable def Gv (K:Os)(a:Addr)(n:Nat):It :=
 ⟨fun i H=>∃ xs,SqL K H a xs/\xs.length=n/\i < n,fun i H x H'=>H'=H/\∀ xs,SqL K H a xs->xs[n - 1 - i]?=some x,fun i _=>i=n⟩
theorem Zgh {P:Program}{w:World}{K:Os}{tg:Expr}(a it:Addr)(n:Nat):En P w K tg (Gv K a n) [it] it (fun i h=>i<=n/\h.IsRevIter it a ((n:Int) - 1 - (i:Int))) where
 mem:=by simp
 obj:=fun i h st b hb=>by
  have e:b=it:=by simpa using hb
  subst e
  obtain ⟨o,e,c,d⟩:=st.2
  exact ⟨o,e,fun v z=>by rw [d] at z;cases z⟩
 keep:=fun i h h' st k=>⟨st.1,st.2.at fun o e=>k it (by simp) o e⟩
 item:=by
  intro X hP hw hK hc i pins s σ H E I hf st hg
  subst hP hw hK
  obtain ⟨xs,hq,hl,hi⟩:=hg
  obtain ⟨its,rv,p,hz⟩:=I.list hq
  have hx:xs[n - 1 - i]?=some (xs[n - 1 - i]'(by omega)):=Ou (by omega)
  obtain ⟨u,hu,ru⟩:=rv.get hx
  obtain ⟨f0,f1,f2,f3,f4,f5⟩:=hf it (by simp)
  have e:(n:Int) - 1 - (i:Int)=((n - 1 - i:Nat):Int):=by omega
  have hit:=st.2
  rw [e] at hit
  refine wpAny_pyNext_rev_item hit p.isList (x:=u) (by simpa using hu) fun h' st' sb=>?_
  have I1:Inv X pins σ H { s with heap:=h' }:=I.turned (t':=s.toks) (fun b o hb e=>(sb.2 b hb).trans e) f0 f1 f3 f4 f5
  have e2:((n - 1 - i:Nat):Int) - 1=(n:Int) - 1 - ((i+1:Nat):Int):=by omega
  rw [e2] at st'
  obtain ⟨o,eo,c,d⟩:=id st'
  exact ⟨u,rfl,Jh (s:={ s with heap:=h' }) eo c d (by decide) ⟨_,H,I1,ru,⟨rfl,fun ys hy=>by rw [I.list_inj hy hq];exact hx⟩,⟨hi,st'⟩,fun b hb=>(hf b hb).1⟩⟩
 done:=by
  intro X hP hw hK hc i pins s σ H E I hf st hg
  subst hP hw hK
  have hg:i=n:=hg
  subst hg
  obtain ⟨f0,f1,f2,f3,f4,f5⟩:=hf it (by simp)
  have e:(i:Int) - 1 - (i:Int)=-1:=by omega
  have hit:=st.2
  rw [e] at hit
  exact wpAny_pyNext_rev_end (I.ok.hd hc) hit fun h' eb=>⟨rfl,I.turned (t':=s.toks) (fun b o hb e=>eb b o hb e) f0 f1 f3 f4 f5⟩
 self:=fun _ _ _ _ _ st h=>Uj st.2 h
theorem Zfh:bootBuiltins "reversed" = some (.type "reversed"):=by decide +kernel
section
variable {X:Cx}{tg:Expr}
noncomputable def N6 (K:Os)(ta:TA):TI:=fun σ H R=>ta σ H fun vs H1=>∃ a xs,vs=[.ref a]/\SqL K H1 a xs/\R (Gv K a xs.length) H1
theorem Zh7 {a:Expr}{ta:TA}{p pos:Pos}(hg:Gl X "reversed")(hm:X.mg "reversed" = none)(ha:QA X [a] ta)(hs:starEach [a] X.env=[(false,eval a X.env)]:=by rfl):QI X tg (.Call (.Name "reversed" p) [a] [] pos) (N6 X.K ta):=by
 refine ⟨fun pins s σ H R I h=>?_⟩
 refine Call_ (Dj I hg hm Zfh (P6 (Aj (ha.run pos pins s σ H _ I h) fun us s1 zq=>?_) hs rfl))
 obtain ⟨vs,H1,I1,r1,q1⟩:=zq
 obtain ⟨l,xs,e,hq,q⟩:=q1
 subst e
 cases r1 with
 | cons r rr =>
  cases rr
  cases r
  obtain ⟨its,rv,pl,hz⟩:=I1.list hq
  refine call_reversed_list pl.isList ?_
  have hl:=rv.length
  have st0:(s1.heap.push (T3 l (((its.toArray).size:Int) - 1))).IsRevIter s1.heap.objs.size l ((xs.length:Int) - 1 - ((0:Nat):Int)):=by
   refine ⟨_,Pc _ rfl,rfl,?_⟩
   have e:((its.toArray).size:Int) - 1=(xs.length:Int) - 1 - ((0:Nat):Int):=by simp [hl]
   rw [<- e]
   rfl
  refine Uj (it:=s1.heap.objs.size) (l:=l) (i:=(xs.length:Int) - 1 - ((0:Nat):Int)) st0 ?_
  refine ⟨s1.heap.objs.size,[s1.heap.objs.size],_,_,H1,rfl,I1.kept (t':=s1.toks) fun b o e=>Oz _ e,Zgh l _ xs.length,⟨Ph _,st0⟩,fun b hb=>?_,q⟩
  have e:b=s1.heap.objs.size:=by simpa using hb
  subst e
  exact I1.fpOk (Ow _) (I1.hok.fresh (Ow _))
theorem Zjw {K:Os}{a:Addr}{xs:List V}{g:TG}{tb:TS}{D:Ct}{σ:St}{H:Hp}(Pv:Nat->St->Hp->Prop)(h0:Pv 0 σ H)(hl:∀ i σ H,i<=xs.length->Pv i σ H->SqL K H a xs)
  (hs:∀ i x σ H,i < xs.length->xs[xs.length - 1 - i]?=some x->Pv i σ H->g x σ H fun σ2 H2=>tb { D with nx:=Pv (i+1),ct:=Pv (i+1),bk:=D.nx } σ2 H2) (hd:∀ σ H,Pv xs.length σ H->D.nx σ H) :
  ∃ W:Nat->Nat->St->Hp->Prop,(∃ m,W 0 m σ H)/\∀ i m σ H,W i m σ H ->
   ((Gv K a xs.length).stop i H/\D.nx σ H)\/((Gv K a xs.length).go i H/\∃ N:St->Hp->Prop,(∀ σ' H',N σ' H'->∃ m',m' < m/\W (i+1) m' σ' H')/\∀ x H',(Gv K a xs.length).yld i H x H'->g x σ H' fun σ2 H2=>tb { D with nx:=N,ct:=N,bk:=D.nx } σ2 H2):=by
 refine ⟨fun i m σ H=>m=xs.length - i/\i<=xs.length/\Pv i σ H,⟨xs.length,by simp,Ph _,h0⟩,?_⟩
 rintro i m σ H ⟨rfl,hi,p⟩
 have q:=hl i σ H hi p
 by_cases hlt:i < xs.length
 ·refine .inr ⟨⟨xs,q,rfl,hlt⟩,Pv (i+1),fun σ' H' p'=>⟨xs.length - (i+1),by omega,rfl,hlt,p'⟩,fun x H' y=>?_⟩
  obtain ⟨e,y⟩:=y
  subst e
  exact hs i x σ _ hlt (y xs q) p
 ·have e:i=xs.length:=by omega
  subst e
  exact .inl ⟨rfl,hd σ H p⟩
end
section
variable {prog:Program}{w:World}{A:Around}{E:Value->Shared->Prop}{s:Shared}
theorem Zl7 {it t:Addr}{i:Nat}{items:Array Value}{x:Value}{Q:Value->Shared->Prop}(hit:s.heap.IsTupleIter it t i)(ht:s.heap.IsTuple t items)(hx:items[i]?=some x)
  (hQ:∀ h',h'.IsTupleIter it t (i+1)->O7 it s.heap h'->Q x { s with heap:=h' }):wpAny (model prog w) A (P3 (.ref it)) Q E s:=by
 obtain ⟨o,ho,hc,hd⟩:=id hit
 obtain ⟨ol,hol,_,nl,hdl⟩:=ht
 unfold P3
 refine Ot (Qg (name:=O8 "__next__") hit.typeIs So
  (Qj So hit.typeIs Va ?_ (U9 _)))
 show wpAny _ _ (field (.ref it) 0 >>= _) _ _ s
 refine Ot (O9 ho hd (x:=.ref t) rfl ?_)
 show wpAny _ _ (if (Value.ref t == Value.none)=true then _ else _) _ _ s
 rw [if_neg (show ¬ ((Value.ref t == Value.none)=true) from O6)]
 show wpAny _ _ (field (.ref it) 1 >>= _) _ _ s
 refine Ot (O9 ho hd (x:=.int i 0) rfl ?_)
 show wpAny _ _ (seqItems? (.ref t) >>= _) _ _ s
 refine Ot (Qc hol hdl ?_)
 simp only [R8,hx]
 refine Ot (wpAny_setField ho hd (by simp) (Ov ⟨x,rfl,Ov (hQ _ ?_ (O7.update ..))⟩))
 exact ⟨_,Rj _ ho (Obj.isFreed_of_fields (Obj.data_mapFields hd _)),(Obj.cls_mapFields ..).trans hc,by
  rw [Obj.data_mapFields hd];simp [rawInt]⟩
theorem Zov {it t:Addr}{i:Nat}{items:Array Value}{Q:Value->Shared->Prop}(hh:A.handled=none)(hit:s.heap.IsTupleIter it t i)(ht:s.heap.IsTuple t items)(hx:items[i]?=none)
  (hE:∀ h' e,Rv it s.heap h'->(∃ o,h'.get? e=some o/\o.cls=.type "StopIteration")->E (.ref e) { s with heap:=h' }):wpAny (model prog w) A (P3 (.ref it)) Q E s:=by
 obtain ⟨o,ho,hc,hd⟩:=id hit
 obtain ⟨ol,hol,_,nl,hdl⟩:=ht
 unfold P3
 refine Ot (Qg (name:=O8 "__next__") hit.typeIs So
  (Qj So hit.typeIs Va ?_ (U9 _)))
 show wpAny _ _ (field (.ref it) 0 >>= _) _ _ s
 refine Ot (O9 ho hd (x:=.ref t) rfl ?_)
 show wpAny _ _ (if (Value.ref t == Value.none)=true then _ else _) _ _ s
 rw [if_neg (show ¬ ((Value.ref t == Value.none)=true) from O6)]
 show wpAny _ _ (field (.ref it) 1 >>= _) _ _ s
 refine Ot (O9 ho hd (x:=.int i 0) rfl ?_)
 show wpAny _ _ (seqItems? (.ref t) >>= _) _ _ s
 refine Ot (Qc hol hdl ?_)
 simp only [R8,hx]
 refine Ot (Q9 (Ot (wpAny_setField ho hd (by simp) ?_)))
 show wpAny _ _ (newExc (.type "StopIteration") [] >>= _) _ _ _
 refine Ot ?_
 simp only [newExc,newTuple]
 refine Ot (Qr ?_ (by size_fits))
 refine Ot (m:=firstArgMember _ _) (wpAny_of_eq (a:=Value.none) (by first | rfl | (simp only [firstArgMember];rfl)) ?_)
 refine Qr ?_ (by size_fits)
 simp only [raiseNew]
 refine Ot (wpAny_handled ?_)
 first | rw [show A.in1.handled=none from hh] | rw [hh]
 refine Ot (Ov (wpAny_throw ?_))
 exact hE _ _ (((O7.update ..).extBut.push _).push _) ⟨_,Pc _ rfl,rfl⟩
end
theorem Zaa {prog:Program}{w:World}{A:Around}(hh:A.handled=none)(it l:Addr)(hne:l≠it)(items:Array Value) :
  Draws prog w A it [it,l] items.size (fun i v=>items[i]?=some v) (fun i h=>h.IsTupleIter it l i/\h.IsTuple l items) where
 live:=fun _ _ st=>let ⟨o,ho,_⟩:=st.1;⟨o,ho⟩
 frame:=fun _ _ _ st hk=>⟨st.1.at fun o e=>hk it (by simp) o e,let ⟨o,e,r⟩:=st.2;⟨o,hk l (by simp) o e,r⟩⟩
 item:=fun i s Q E hi st hQ=>by
  refine Zl7 st.1 st.2 (x:=items[i]) (by simp [hi]) fun h' hit' hs'=>?_
  exact hQ _ h' s.toks (by simp [hi]) ⟨hit',st.2.extBut hs'.extBut hne⟩ hs'
 done:=fun s Q E st hE=>Zov hh st.1 st.2 (by simp) hE
theorem Zgy (l:Addr)(items:Array Value)(n:Nat)(dct:Option Addr)(sl:Array (Option Value)) :
  Meets (Builtin.«enumerate.__new__» ⟨[.type "enumerate",.ref l],[]⟩) (fun _ R s=>s.heap.get? l=some { cls:=.type "tuple",dict:=dct,data:=.seq items n,slots:=sl } /\
   R (.ok (.ret (.ref (s.heap.push { cls:=.type "tuple_iterator",data:=.fields #[.ref l,.int 0 0] }).objs.size)))
    { s with heap:=(s.heap.push { cls:=.type "tuple_iterator",data:=.fields #[.ref l,.int 0 0] }).push { cls:=.type "enumerate",data:=.fields #[.none,.bool false,.ref s.heap.objs.size,rawInt 0,.none,.none] } }) :=
 .of_wp fun prog w A R s h=>by
  obtain ⟨hp,g,d,tk,os⟩:=s;obtain ⟨hl,h⟩:=h
  have hsub:=sub_enumerate
  have hL:Heap.IsTuple (Shared.heap ⟨hp,g,d,tk,os⟩) l items:=⟨_,hl,rfl,n,rfl⟩
  wp_walk using Sq hl
  refine wpAny_stack_any fun st=>Ov ?_
  split
  ·rename_i c _ _ _ _ _
   cases (c == Value.type "enumerate")
   ·wp_walk using Sq hl,R6 hL
    exact ⟨_,rfl,h⟩
   ·wp_walk using Sq hl,R6 hL
    exact ⟨_,rfl,h⟩
  ·wp_walk using Sq hl,R6 hL
   exact ⟨_,rfl,h⟩
section
variable {prog:Program}{w:World}{A:Around}{E:Value->Shared->Prop}{s:Shared}
theorem Zmb {l:Addr}{items:Array Value}{Q:Value->Shared->Prop}(hL:s.heap.IsTuple l items)
  (h:∀ h',IsEnum h' (s.heap.objs.size+1) s.heap.objs.size 0 .none->h'.IsTupleIter s.heap.objs.size l 0->h'.objs.size=s.heap.objs.size+2 ->
   (∀ b o,s.heap.get? b=some o->h'.get? b=some o)->Q (.ref (s.heap.objs.size+1)) { s with heap:=h' }) :
  wpAny (model prog w) A (call (.type "enumerate") [.ref l]) Q E s:=by
 obtain ⟨⟨c,dct,dt,sl⟩,hl,hc,n,hd⟩:=hL
 replace hc:c=.type "tuple" := hc
 replace hd:dt=.seq items n:=hd
 subst hc hd
 refine callType_new PySem.F.called_enumerate (by decide) (PySem.F.typeCall_enumerate_1 _) (PySem.F.newCall_enumerate_1 _) (fun obj=>PySem.F.args_object_init_2 obj _) PySem.F.entry_enumerate_new
  (Zgy l items n dct sl) ⟨hl,?_⟩
 have hz:(s.heap.push { cls:=.type "tuple_iterator",data:=.fields #[.ref l,.int 0 0] }).objs.size=s.heap.objs.size+1:=Pu ..
 show _/\_
 rw [hz]
 have he:IsEnum ((s.heap.push { cls:=.type "tuple_iterator",data:=.fields #[.ref l,.int 0 0] }).push
   { cls:=.type "enumerate",data:=.fields #[.none,.bool false,.ref s.heap.objs.size,rawInt 0,.none,.none] }) (s.heap.objs.size+1) s.heap.objs.size 0 .none:=by
  unfold IsEnum
  rw [<- hz]
  exact Pc _ rfl
 refine ⟨⟨_,he,rfl⟩,h _ he ⟨_,Oz _ (Pc _ rfl),rfl,rfl⟩ (by rw [Pu,hz]) fun b o e=>Oz _ (Oz _ e)⟩
noncomputable def Lu (h:Heap)(e it:Addr)(i:Int):Prop:=∃(a:Addr)(oa:Obj)(f1 old:Value),h.get? e=some { cls:=.type "enumerate",dict:=none,data:=.fields #[rawInt a,f1,.ref it,rawInt i,.none,old],slots:=#[] }/\h.get? a=some oa/\a≠e/\a≠it
theorem Ze4 {a:Addr}{Q:Option Obj->Shared->Prop}(h:Q (s.heap.get? a) s):wpAny (model prog w) A (loadIfAlive a) Q E s:=by
 intro Γ p hΓ
 show Sem.wp _ Γ (.loadIfAlive a .pure) _ _ p s
 rw [Sem.wp_loadIfAlive]
 exact h
theorem Zi8 {e it:Addr}{fp:List Addr}{n i:Nat}{P:Nat->Value->Prop}{St:Nat->Heap->Prop}{Q:Value->Shared->Prop}
  (D:Draws prog w A it fp n P St) (he0:Lu s.heap e it i) (hst:St i s.heap) (hlt:i < n) (hne:e≠it) (hef:e ∉ fp)
  (hQ:∀ x h' tk,P i x->Lu h' e it ((i:Int)+1)->St (i+1) h' ->
   h'.get? s.heap.objs.size=some { cls:=.type "tuple",data:=.seq #[.int i tk,x] }->h'.objs.size=s.heap.objs.size+1 ->
   (∀ b o,b≠e->b≠it->s.heap.get? b=some o->h'.get? b=some o)->Q (.ref s.heap.objs.size) { s with heap:=h',toks:=tk+1 }) :
  wpAny (model prog w) A (Builtin.«enumerate.__next__» ⟨[.ref e],[]⟩) (fun fin s'=>∃ v,fin=.done (.ret v)/\Q v s') E s:=by
 obtain ⟨a,oa,f1,old,he,hoa,hae,hai⟩:=he0
 obtain ⟨hp,g,d,tk₀,os⟩:=s
 show wpAny _ _ (field (.ref e) 2 >>= _) _ _ _
 refine Ot (O9 he rfl (x:=.ref it) rfl ?_)
 refine Ot (D.item i _ _ _ hlt hst fun x h₁ tk hPx hit₁ hs₁=>?_)
 replace hs₁:O7 it hp h₁:=hs₁
 have he₁:=(hs₁.2 e hne).trans he
 have ha₁:=hs₁.extBut a oa hai hoa
 show wpAny _ _ (field (.ref e) 3 >>= _) _ _ ⟨h₁,g,d,tk,os⟩
 refine Ot (O9 he₁ rfl (x:=rawInt i) rfl ?_)
 show wpAny _ _ (field (.ref e) 4 >>= _) _ _ ⟨h₁,g,d,tk,os⟩
 refine Ot (O9 he₁ rfl (x:=.none) rfl ?_)
 show wpAny _ _ (mkInt i >>= _) _ _ ⟨h₁,g,d,tk,os⟩
 refine Ot (wpAny_mkInt ?_)
 show wpAny _ _ (setField (.ref e) 3 (rawInt ((i:Int)+1)) >>= _) _ _ ⟨h₁,g,d,tk+1,os⟩
 refine Ot (Qi he₁ (by simp) fun h₂ he₂ hs₂=>?_)
 replace hs₂:O7 e h₁ h₂:=hs₂
 have ha₂:=hs₂.extBut a oa hae ha₁
 replace he₂:h₂.get? e=some { cls:=.type "enumerate",dict:=none,data:=.fields #[rawInt a,f1,.ref it,rawInt ((i:Int)+1),.none,old],slots:=#[] }:=he₂
 show wpAny _ _ (setField (.ref e) 4 .none >>= _) _ _ ⟨h₂,g,d,tk+1,os⟩
 refine Ot (Qi he₂ (by simp) fun h₃ he₃ hs₃=>?_)
 replace hs₃:O7 e h₂ h₃:=hs₃
 have ha₃:=hs₃.extBut a oa hae ha₂
 replace he₃:h₃.get? e=some { cls:=.type "enumerate",dict:=none,data:=.fields #[rawInt a,f1,.ref it,rawInt ((i:Int)+1),.none,old],slots:=#[] }:=he₃
 show wpAny _ _ (newTuple [.int i tk,x] >>= _) _ _ ⟨h₃,g,d,tk+1,os⟩
 refine Ot (wpAny_newTuple ?_)
 have he₄:(h₃.push { cls:=.type "tuple",data:=.seq #[.int i tk,x] }).get? e=some { cls:=.type "enumerate",dict:=none,data:=.fields #[rawInt a,f1,.ref it,rawInt ((i:Int)+1),.none,old],slots:=#[] }:=Oz _ he₃
 have ha₄:(h₃.push { cls:=.type "tuple",data:=.seq #[.int i tk,x] }).get? a=some oa:=Oz _ ha₃
 generalize hh₄:h₃.push { cls:=.type "tuple",data:=.seq #[.int i tk,x] }=h₄ at he₄ ha₄
 have hsz:h₃.objs.size=hp.objs.size:=by rw [hs₃.1,hs₂.1,hs₁.1]
 have hel:e < hp.objs.size:=Oy he
 have ht₄:h₄.get? hp.objs.size=some { cls:=.type "tuple",data:=.seq #[.int i tk,x] }:=by rw [<- hh₄,<- hsz];exact Pc _ rfl
 have hz₄:h₄.objs.size=hp.objs.size+1:=by rw [<- hh₄,Pu,hsz]
 have hk₄:∀ b o,b≠e->b≠it->hp.get? b=some o->h₄.get? b=some o:=fun b o hbe hbi hb=>by
  rw [<- hh₄];exact Oz _ (hs₃.extBut b o hbe (hs₂.extBut b o hbe (hs₁.extBut b o hbi hb)))
 have hit₄:St (i+1) h₄:=D.frame _ _ _ hit₁ fun b hb o y=>by
  have hbe:b≠e:=fun q=>hef (q ▸ hb)
  rw [<- hh₄];exact Oz _ (hs₃.extBut b o hbe (hs₂.extBut b o hbe y))
 show wpAny _ _ (Qe (.ref e) >>= _) _ _ ⟨h₄,g,d,tk+1,os⟩
 rw [hsz]
 clear hh₄ ha₃ ha₂ ha₁ he₃ hs₃ he₂ hs₂ he₁ hs₁ hit₁ hsz h₃ h₂ h₁
 refine Ot ?_
 unfold Qe
 refine Ot (O9 he₄ rfl (x:=rawInt a) rfl ?_)
 show wpAny _ _ (loadIfAlive ((a:Int).toNat) >>= _) _ _ ⟨h₄,g,d,tk+1,os⟩
 refine Ot (Ze4 ?_)
 rw [R8]
 show wpAny _ _ (if (h₄.get? a).isNone=true then _ else _) _ _ ⟨h₄,g,d,tk+1,os⟩
 rw [ha₄]
 rw [if_neg (by simp)]
 refine Ot (O9 he₄ rfl (x:=f1) rfl ?_)
 have fin:∀ h₅,Lu h₅ e it ((i:Int)+1)->O7 e h₄ h₅->Q (.ref hp.objs.size) ⟨h₅,g,d,tk+1,os⟩:=fun h₅ hl hs₅ =>
  hQ x h₅ tk hPx hl (D.frame _ _ _ hit₄ fun b hb o y=>hs₅.extBut b o (fun q=>hef (q ▸ hb)) y) (hs₅.extBut _ _ (P0 hel) ht₄) (by rw [hs₅.1,hz₄]) fun b o hbe hbi hb=>hs₅.extBut b o hbe (hk₄ b o hbe hbi hb)
 by_cases hf:(f1 != Value.bool true)=true
 ·simp only [hf,if_true]
  refine Ot (Qi he₄ (by simp) fun h₅ he₅ hs₅=>?_)
  replace hs₅:O7 e h₄ h₅:=hs₅
  refine Ov ?_
  simp only [R7,if_false]
  refine Ov ⟨_,rfl,fin h₅ ⟨a,oa,.bool true,old,he₅,hs₅.extBut a oa hae ha₄,hae,hai⟩ hs₅⟩
 ·simp only [hf]
  refine Ov ?_
  simp only [R7,if_false]
  exact Ov ⟨_,rfl,fin h₄ ⟨a,oa,f1,old,he₄,ha₄,hae,hai⟩ (O7.refl ..)⟩
noncomputable def EnSt (h:Heap)(e it:Addr)(i:Nat):Prop:=(i=0/\∃ old,IsEnum h e it 0 old)\/(0 < i/\Lu h e it i)
theorem EnSt.obj {h:Heap}{e it:Addr}{i:Nat}(x:EnSt h e it i):∃ vs,h.get? e=some { cls:=.type "enumerate",dict:=none,data:=.fields vs,slots:=#[] }:=by
 rcases x with ⟨_,old,x⟩ | ⟨_,_,_,_,_,x,_⟩
 ·exact ⟨_,x⟩
 ·exact ⟨_,x⟩
theorem Zly {e it:Addr}{fp:List Addr}{n i:Nat}{P:Nat->Value->Prop}{St:Nat->Heap->Prop}{Q:Option Value->Shared->Prop}
  (D:Draws prog w A.in1 it fp n P St) (he:EnSt s.heap e it i) (hst:St i s.heap) (hlt:i < n) (hne:e≠it) (hef:e ∉ fp)
  (hQ:∀ x h' tk,P i x->EnSt h' e it (i+1)->St (i+1) h' ->
   h'.get? s.heap.objs.size=some { cls:=.type "tuple",data:=.seq #[.int i tk,x] }->h'.objs.size=s.heap.objs.size+1 ->
   (∀ b o,b≠e->b≠it->s.heap.get? b=some o->h'.get? b=some o)->Q (some (.ref s.heap.objs.size)) { s with heap:=h',toks:=tk+1 }) :
  wpAny (model prog w) A (pyNext (.ref e)) Q E s:=by
 obtain ⟨vs,ho⟩:=he.obj
 have hT:s.TypeIs (.ref e) "enumerate" := ⟨_,ho,rfl⟩
 have hel:e < s.heap.objs.size:=Oy ho
 have hil:it < s.heap.objs.size:=by obtain ⟨_,y⟩:=D.live _ _ hst;exact Oy y
 rcases he with ⟨rfl,old,he⟩ | ⟨_,he⟩
 ·refine wpAny_pyNext_enum_itemD D he hst hlt hne hef fun x h' tk a b c z k q=>?_
  exact hQ x h' tk a (.inr ⟨T4 _,_,_,_,_,b,z,P0 hel,P0 hil⟩) c z k q
 ·unfold pyNext
  exact Ot (Rs (Qg (name:=O8 "__next__") hT Sr
   (Qj Sr hT Vc
    (Zi8 D he hst hlt hne hef fun x h' tk a b c z k q=>Ov (hQ x h' tk a (.inr ⟨T4 _,b⟩) c z k q)) (Vb _))))
theorem Zgx {e it:Addr}{fp:List Addr}{n:Nat}{P:Nat->Value->Prop}{St:Nat->Heap->Prop}{Q:Option Value->Shared->Prop}
  (D:Draws prog w A.in1 it fp n P St) (he:EnSt s.heap e it n) (hst:St n s.heap)
  (hQ:∀ h',Rv it s.heap h'->Q none { s with heap:=h' }):wpAny (model prog w) A (pyNext (.ref e)) Q E s:=by
 obtain ⟨vs,ho⟩:=he.obj
 have hT:s.TypeIs (.ref e) "enumerate" := ⟨_,ho,rfl⟩
 have h2:vs[2]?=some (.ref it):=by
  rcases he with ⟨rfl,old,he⟩ | ⟨_,a,oa,f1,old,he,_⟩
  ·unfold IsEnum at he
   rw [ho] at he
   injection he with he
   injection he with _ _ he _
   injection he with he
   rw [he];rfl
  ·rw [ho] at he
   injection he with he
   injection he with _ _ he _
   injection he with he
   rw [he];rfl
 unfold pyNext
 refine Ot (Rs (Qg (name:=O8 "__next__") hT Sr
  (Qj Sr hT Vc ?_ (Vb _))))
 show wpAny _ _ (field (.ref e) 2 >>= _) _ _ _
 refine Ot (O9 ho rfl (x:=.ref it) h2 ?_)
 refine Ot (D.done _ _ _ hst fun h' x he' hx'=>?_)
 obtain ⟨o,ho',hc⟩:=hx'
 refine Ot (Tj (T := "StopIteration") (b:=true) ⟨o,ho',hc⟩ isSubtype_stop ?_)
 exact Ov (hQ _ he')
end
theorem Zc9 {prog:Program}{w:World}{A:Around}{E:Value->Shared->Prop}{s:Shared}{it:Addr}{T:String}{Q:Bool->Shared->Prop}(hT:s.TypeIs (.ref it) T)(n1:typeLookup (.type T) "__len__" = pure none)(n2:typeLookup (.type T) "__length_hint__" = pure none)(h:Q true s):wpAny (model prog w) A (Rz (.ref it)) Q E s:=by
 unfold Rz
 refine Ot (Sb hT n1 ?_)
 show wpAny _ A (specialOf (Value.ref it) (O8 "__length_hint__") >>= _) _ _ _
 refine Ot (Sb hT n2 ?_)
 exact Ov h
structure Src (X:Cx)(pins:List (Addr×Obj))(σ:St)(it:Addr)(T:String)(n:Nat)(H0:Hp)(J:Nat->List V->Hp->Heap->Prop):Prop where
 ty:∀ i ys H h,J i ys H h->∃ o,h.get? it=some o/\o.cls=.type T
 nl:(Value.type T == Value.type "list")=false/\(Value.type T == Value.type "tuple")=false
 hint:∃ mr:Bool,∀(A:Around)(s:Shared)(Q:Bool->Shared->Prop)(E:Value->Shared->Prop),s.TypeIs (.ref it) T->Q mr s->wpAny (model X.prog X.w) A (Rz (.ref it)) Q E s
 self:∀(A:Around)(s:Shared)(ys:List V)(H:Hp)(Q:Value->Shared->Prop)(E:Value->Shared->Prop),J 0 ys H s.heap->Q (.ref it) s->wpAny (model X.prog X.w) A (pyIter (.ref it)) Q E s
 keep:∀ i ys H h h' S zs zs',H0 S=none->H S=some (.lst zs)->J i ys H h->(∀ b o,b≠S->h.get? b=some o->h'.get? b=some o)->(∃ o,h'.get? S=some o)->J i ys (upd H S (.lst zs')) h'
 fresh:∀ i ys H h,J i ys H h->H it=none
 item:∀(A:Around)(i:Nat)(s:Shared)(H:Hp)(ys:List V)(E:Value->Shared->Prop),A.handled=none->i < n->Inv X pins σ H s->J i ys H s.heap ->
  wpAny (model X.prog X.w) A (pyNext (.ref it)) (fun r s'=>∃ u x H',r=some u/\RelV x u/\Inv X pins σ H' s'/\J (i+1) (ys++[x]) H' s'.heap/\∀ S zs,H S=some (.lst zs)->H' S=some (.lst zs)) E s
 done:∀(A:Around)(s:Shared)(H:Hp)(ys:List V)(E:Value->Shared->Prop),A.handled=none->Inv X pins σ H s->J n ys H s.heap ->
  wpAny (model X.prog X.w) A (pyNext (.ref it)) (fun r s'=>r=none/\Inv X pins σ H s') E s
section
variable {X:Cx}{pins:List (Addr×Obj)}{σ:St}{it:Addr}{T:String}{n:Nat}{H0:Hp}{J:Nat->List V->Hp->Heap->Prop}
theorem Zfu (C:Src X pins σ it T n H0 J)(hn:n<=sizeLine){A:Around}(hh:A.handled=none){R:Result->Shared->Prop}(S:Addr)(hS0:H0 S=none)(res:Value)
  (fin:∀ s' H' ys',Inv X pins σ H' s'->H' S=some (.lst ys')->ys'.length=n->(∃ h,J n ys' H' h)->R (.ok (.ret res)) s') :
  ∀(k i:Nat)(s:Shared)(H:Hp)(ys:List V),n - i=k->i<=n->Inv X pins σ H s->J i ys H s.heap->H S=some (.lst ys)->ys.length=i ->
  codeAny (model X.prog X.w) A (.builtin "list.extend.loop" ⟨[.ref S,.ref it,res],[]⟩) R s:=by
 intro k
 induction k with
 | zero =>
  intro i s H ys hk hi I j hS hl
  have hin:i=n:=by omega
  subst hin
  refine Rr PySem.F.entry_extend_loop ?_
  rw [Rl R0 _]
  show wpAny _ A.in1 (pyNext (.ref it) >>= _) _ _ s
  refine Ot (Aj (C.done A.in1 s H ys _ hh I j) fun r s' zq=>?_)
  obtain ⟨hr,I'⟩:=zq
  subst hr
  exact Ov (fin s' H ys I' hS hl ⟨_,j⟩)
 | succ k ih =>
  intro i s H ys hk hi I j hS hl
  have hlt:i < n:=by omega
  refine Rr PySem.F.entry_extend_loop ?_
  rw [Rl R0 _]
  show wpAny _ A.in1 (pyNext (.ref it) >>= _) _ _ s
  refine Ot (Aj (C.item A.in1 i s H ys _ hh hlt I j) fun r s' zq=>?_)
  obtain ⟨u,x,H',hr,rx,I',j',kS⟩:=zq
  subst hr
  have hS':=kS S ys hS
  obtain ⟨z,its,m,rv,hl',e⟩:=I'.lstM hS'
  show wpAny _ A.in1 (updateSeq S (·.push u) >>= _) _ _ _
  refine Ot ?_
  have hu:(its.toArray.push u)=(its++[u]).toArray:=by simp
  have I2:=I'.lset (f:=(·.push u)) (its':=its++[u]) (ys:=ys++[x]) (t':=s'.toks) hS' e hu (rv.append (.cons rx .nil)) (by rw [O4,Pt];omega)
  refine Sc e rfl (Ov ⟨Q8 R0 _,ih (i+1) _ _ (ys++[x]) (by omega) hlt I2 ?_ Ac (by simp [hl])⟩)
   (by rw [Ox];omega) (by show (its.toArray.push u).size<=sizeLine+1;rw [Array.size_push,Ox];omega)
  exact C.keep _ _ _ _ _ S ys (ys++[x]) hS0 hS' j' (fun b o hb eb=>(Ri _ _ (Pj hb)).trans eb) ⟨_,Rj _ e rfl⟩
theorem Ol {H:Hp}(C:Src X pins σ it T n H J)(hn:n<=sizeLine){A:Around}(hh:A.handled=none){s:Shared}{Q:VK}{E:Value->Shared->Prop}(I:Inv X pins σ H s)(j:J 0 [] H s.heap)
  (jn:∀ S,s.heap.objs.size<=S->H S=none->∀ h',(∀ b o,s.heap.get? b=some o->h'.get? b=some o)->J 0 [] (upd H S (.lst [])) h')
  (q:∀ S H' ys,H S=none->H' S=some (.lst ys)->ys.length=n->(∃ h,J n ys H' h)->Q (.ref S) H') :
  wpAny (model X.prog X.w) A (call (.type "list") [.ref it]) (EP X pins σ Q) E s:=by
 have hf:H s.heap.objs.size=none:=I.hok.fresh (Ow _)
 have hne:s.heap.objs.size≠it:=by
  obtain ⟨o,e,_⟩:=C.ty _ _ _ _ j
  exact P0 (Oy e)
 refine callType_codes (Q₁:=fun obj s₁=>obj=.ref s.heap.objs.size/\s₁={ s with heap:=s.heap.push { cls:=.type "list",data:=.seq #[] } }) PySem.F.called_list (PySem.F.typeCall_list_1 _) PySem.F.entry_list_init
  (code_list_new _ ⟨rfl,rfl⟩) fun obj s₁ h₁=>?_
 obtain ⟨rfl,rfl⟩:=h₁
 have hS:(s.heap.push { cls:=.type "list",data:=.seq #[] }).get? s.heap.objs.size=some { cls:=.type "list",data:=.seq #[] }:=Pc _ rfl
 have I1:Inv X pins σ (upd H s.heap.objs.size (.lst [])) { s with heap:=s.heap.push { cls:=.type "list",data:=.seq ([]:List Value).toArray } }:=I.lnew (ys:=[]) (its:=[]) (t':=s.toks) .nil (by simp)
 have j1:J 0 [] (upd H s.heap.objs.size (.lst [])) (s.heap.push { cls:=.type "list",data:=.seq ([]:List Value).toArray })   := jn _ (Ow _) hf _ fun b o e=>Oz _ e
 refine ⟨⟨_,hS,rfl⟩,PySem.F.args_list_init_2 _ _,?_⟩
 generalize hs1:({ s with heap:=s.heap.push { cls:=.type "list",data:=.seq ([]:List Value).toArray } }:Shared)=s1 at I1
 have hS1:s1.heap.get? s.heap.objs.size=some { cls:=.type "list",data:=.seq ([]:List Value).toArray }:=by rw [<- hs1];exact hS
 replace j1:J 0 [] (upd H s.heap.objs.size (.lst [])) s1.heap:=by rw [<- hs1];exact j1
 have hs1':({ s with heap:=s.heap.push { cls:=.type "list",data:=.seq #[] } }:Shared)=s1:=hs1
 first | rw [hs1'] | skip
 show wpAny _ A.in1.in1 (do let old <- Builtin.List.listItems (.ref s.heap.objs.size);Builtin.List.listUpdate (.ref s.heap.objs.size) (fun _=>#[]);letGo old.toList.reverse;Ub (.ref s.heap.objs.size) (.ref it) .none) _ _ s1
 generalize s.heap.objs.size=S at *
 refine Ot ?_
 unfold Builtin.List.listItems
 refine Ot (Qc hS1 rfl (Ov ?_))
 show wpAny _ A.in1.in1 (updateSeq S (fun _=>#[]) >>= fun _=>letGo (#[]:Array Value).toList.reverse >>= fun _=>Ub (.ref S) (.ref it) .none) _ _ s1
 refine Ot (Sc hS1 rfl ?_)
 have I2:=I1.lset (f:=fun _=>#[]) (its':=[]) (ys:=[]) (t':=s1.toks) Ac hS1 rfl .nil (by simp)
 have hS2:=Rj (Pq (fun _=>(#[]:Array Value))) hS1 rfl
 have j2:=C.keep _ _ _ _ (s1.heap.update S (Pq fun _=>#[])) S [] [] hf Ac j1 (fun b o hb eb=>(Ri _ _ (Pj hb)).trans eb) ⟨_,hS2⟩
 rw [Jd] at I2 j2
 generalize hs2:({ s1 with heap:=s1.heap.update S (Pq fun _=>#[]),toks:=s1.toks }:Shared)=s2 at I2
 replace j2:J 0 [] (upd H S (.lst [])) s2.heap:=by rw [<- hs2];exact j2
 have hs2':({ s1 with heap:=s1.heap.update S (Pq fun _=>#[]) }:Shared)=s2:=hs2
 first | rw [hs2'] | skip
 refine Ot (Ua ?_)
 obtain ⟨oi,ei,ci⟩:=C.ty _ _ _ _ j2
 have hT:s2.TypeIs (.ref it) T:=⟨oi,ei,ci⟩
 unfold Ub
 refine Ot (Rt hT ?_)
 have h1:Builtin.List.listSameRef (.ref S) (.ref it)=false:=by simp [Builtin.List.listSameRef,hne]
 have h2:=C.nl.1
 have h3:=C.nl.2
 simp only [h1,h2,h3,Tx,R7,if_false]
 refine Ot (C.self _ s2 _ _ _ _ j2 ?_)
 refine Ot (Pw ?_)
 obtain ⟨mr,hmr⟩:=C.hint
 refine hmr _ _ _ _ hT ?_
 split
 ·show wpAny _ A.in1.in1 (rule "list.extend.makes-room" >>= fun _=>Builtin.List.listTouch (.ref S) >>= fun _ =>
   again (.builtin "list.extend.loop" ⟨[.ref S,.ref it,.none],[]⟩)) _ _ _
  refine Ot (Q9 ?_)
  refine Ot ?_
  show wpAny _ A.in1.in1 (updateSeq S (·.push .none) >>= fun _=>updateSeq S (·.pop)) _ _ _
  obtain ⟨_,its2,m2,rv2,_,e2⟩:=I2.lstM Ac
  cases rv2
  refine Ot (Sc e2 rfl ?_)
  have I3:=I2.lset (f:=(·.push Value.none)) (its':=[.none]) (ys:=[.non]) (t':=s2.toks) Ac e2 (by simp) (.cons rfl .nil) (by show 1<=sizeLine;decide)
  have hS3:=Rj (Pq (·.push Value.none)) e2 rfl
  have j3:=C.keep _ _ _ _ (s2.heap.update S (Pq (·.push Value.none))) S [] [.non] hf Ac j2 (fun b o hb eb=>(Ri _ _ (Pj hb)).trans eb) ⟨_,hS3⟩
  rw [Jd] at I3 j3
  generalize hs3:({ s2 with heap:=s2.heap.update S (Pq (·.push Value.none)),toks:=s2.toks }:Shared)=s3 at I3
  replace j3:J 0 [] (upd H S (.lst [.non])) s3.heap:=by rw [<- hs3];exact j3
  have hs3':({ s2 with heap:=s2.heap.update S (Pq (·.push Value.none)) }:Shared)=s3:=hs3
  first | rw [hs3'] | skip
  obtain ⟨_,its3,m3,rv3,hl3,e3⟩:=I3.lstM Ac
  have hl3':its3.length=1:=hl3.symm
  refine Sc e3 rfl ?_ (by rw [Ox,hl3'];decide) (by show its3.toArray.pop.size<=sizeLine+1;rw [Array.size_pop,Ox,hl3'];decide)
  have I4:=I3.lset (f:=(·.pop)) (its':=[]) (ys:=[]) (t':=s3.toks) Ac e3 (by
   cases its3 with
   | nil=>simp at hl3'
   | cons a r=>cases r with
    | nil=>simp
    | cons b r'=>simp at hl3') .nil (by simp)
  have hS4:=Rj (Pq (·.pop)) e3 rfl
  have j4:=C.keep _ _ _ _ (s3.heap.update S (Pq (·.pop))) S [.non] [] hf Ac j3 (fun b o hb eb=>(Ri _ _ (Pj hb)).trans eb) ⟨_,hS4⟩
  rw [Jd] at I4 j4
  refine Ov ⟨Q8 R0 _,Zfu C hn (A:=A.in1) hh S hf .none ?_ n 0 _ _ [] rfl (Ph _) I4 j4 Ac rfl⟩
  intro s' H' ys' I' hS' hl' hj'
  exact ⟨rfl,.ref S,H',I',rfl,q S H' ys' hf hS' hl' hj'⟩
 ·refine Ov ⟨Q8 R0 _,Zfu C hn (A:=A.in1) hh S hf .none ?_ n 0 _ _ [] rfl (Ph _) I2 j2 Ac rfl⟩
  intro s' H' ys' I' hS' hl' hj'
  exact ⟨rfl,.ref S,H',I',rfl,q S H' ys' hf hS' hl' hj'⟩
end
section
variable {X:Cx}{pins:List (Addr×Obj)}{σ:St}{H:Hp}{s:Shared}{h':Heap}
theorem Inv.turned2 {t':Nat}{i1 i2:Addr}(I:Inv X pins σ H s)(k:∀ b o,b≠i1->b≠i2->s.heap.get? b=some o->h'.get? b=some o)(f1:FpOk X pins H i1)(f2:FpOk X pins H i2):Inv X pins σ H { s with heap:=h',toks:=t' }:=by
 obtain ⟨n1,l1,_,e1,c1,p1⟩:=f1
 obtain ⟨n2,l2,_,e2,c2,p2⟩:=f2
 have nit:∀ b u,H b=some u->b≠i1/\b≠i2:=fun b u e=>⟨(fun z=>by rw [z,n1] at e;exact nomatch e),(fun z=>by rw [z,n2] at e;exact nomatch e)⟩
 refine I.step (g':=s.gens) (d':=s.drawn) (ch:=[i1,i2]) (fun b hb=>?_) (fun b o _ _ hc e _=>k b o (fun z=>hc (by simp [z])) (fun z=>hc (by simp [z])) e) (fun b o _ _ hc e _=>⟨o.slots,k b o (fun z=>hc (by simp [z])) (fun z=>hc (by simp [z])) e⟩) (fun _ _ _ _ n=>n)
  (fun b o hc e=>⟨o,k b o (fun z=>hc (by simp [z])) (fun z=>hc (by simp [z])) e⟩) (fun _ _ e=>e) (fun _ _ _ e=>e) (fun b ps e=>⟨#[],by rw [e];simp⟩) (fun m hm=>?_) (fun b u e=>?_) I.bare
 ·rcases O1.mp hb with rfl | hb
  ·exact ⟨e1,l1,c1,p1⟩
  ·rw [Pr.mp hb]
   exact ⟨e2,l2,c2,p2⟩
 ·obtain ⟨o,es,ep,ho,r⟩:=hm
  exact ⟨o,es,ep,k _ o (Pj l1) (Pj l2) ho,r⟩
 ·refine (I.hok b u e).stay (fun c v hc q=>k c v ?_ ?_ q) (fun _ q=>q) fun _ _ q=>q
  ·rcases hc with z | z
   ·rw [z];exact (nit b u e).1
   ·exact (nit c _ z).1
  ·rcases hc with z | z
   ·rw [z];exact (nit b u e).2
   ·exact (nit c _ z).2
end
theorem FpOk.of {X:Cx}{pins:List (Addr×Obj)}{H H':Hp}{b:Addr}(f:FpOk X pins H b)(h:H' b=none):FpOk X pins H' b:=⟨h,f.2⟩
theorem SqT.kept {K:Os}{H:Hp}{S a:Addr}{zs zs' xs:List V}(hS:H S=some (.lst zs))(h:SqT K H a xs):SqT K (upd H S (.lst zs')) a xs:=by
 rcases h with (h | ⟨o,h⟩) | h
 ·exact .inl (.inl (by rw [Ai (Eb h hS (by intro z;cases z))];exact h))
 ·exact .inl (.inr ⟨o,by rw [Ai (Eb h hS (by intro z;cases z))];exact h⟩)
 ·exact .inr h
theorem SqT.same {K:Os}{H H':Hp}{a:Addr}{xs:List V}(h:SqT K H a xs)(e:Same H H'):SqT K H' a xs:=e.tup h
noncomputable def Zaq (H:Hp)(xs:List V)(ys:List V):Prop:=∀(j:Nat)(y:V),ys[j]?=some y->∃(t:Addr)(x:V),y=V.ref t/\xs[j]?=some x/\H t=some (.tup [.int j,x])
noncomputable def JEn (K:Os)(H0:Hp)(en it a:Addr)(xs:List V):Nat->List V->Hp->Heap->Prop:=fun i ys H h =>
 EnSt h en it i/\h.IsTupleIter it a i/\(H en=none/\H it=none)/\SqT K H a xs/\ys.length=i/\Zaq H xs ys/\Same H0 H
theorem Znm:typeLookup (.type "enumerate") "__len__" = pure none:=by rw [Q6,Qy];kernel_rfl
theorem Zps:typeLookup (.type "enumerate") "__length_hint__" = pure none:=by rw [Q6,Qy];kernel_rfl
theorem Zgp {X:Cx}{pins:List (Addr×Obj)}{σ:St}{H0:Hp}{en it a:Addr}{xs:List V}(fe:FpOk X pins H0 en)(fi:FpOk X pins H0 it)(hne:en≠it)(hae:a≠en)(hai:a≠it):Src X pins σ en "enumerate" xs.length H0 (JEn X.K H0 en it a xs) where
 ty:=fun i ys H h j=>by
  obtain ⟨vs,e⟩:=j.1.obj
  exact ⟨_,e,rfl⟩
 nl:=by decide
 hint:=⟨_,fun A s Q E hT h=>Zc9 hT Znm Zps h⟩
 self:=fun A s ys H Q E j q=>by
  rcases j.1 with ⟨_,old,e⟩ | ⟨z,_⟩
  ·exact Ux e q
  ·exact absurd z (P5 _)
 keep:=fun i ys H h h' S zs zs' h0 hS j k al=>by
  obtain ⟨j1,j2,⟨j3,j4⟩,j5,j6,j7,j8⟩:=j
  have ne1:en≠S:=fun z=>by rw [z,hS] at j3;cases j3
  have ne2:it≠S:=fun z=>by rw [z,hS] at j4;cases j4
  refine ⟨?_,?_,⟨by rw [Ai ne1];exact j3,by rw [Ai ne2];exact j4⟩,j5.kept hS,j6,fun m y hy=>?_,fun b o e=>?_⟩
  ·rcases j1 with ⟨z,old,e⟩ | ⟨z,a0,oa,f1,old,e,ea,x1,x2⟩
   ·exact .inl ⟨z,old,k _ _ ne1 e⟩
   ·by_cases hs:a0=S
    ·subst hs
     obtain ⟨o,eo⟩:=al
     exact .inr ⟨z,a0,o,f1,old,k _ _ ne1 e,eo,x1,x2⟩
    ·exact .inr ⟨z,a0,oa,f1,old,k _ _ ne1 e,k _ _ hs ea,x1,x2⟩
  ·exact j2.at fun o e=>k _ _ ne2 e
  ·obtain ⟨t,x,e1,e2,e3⟩:=j7 m y hy
   exact ⟨t,x,e1,e2,by rw [Ai (Eb e3 hS (by intro z;cases z))];exact e3⟩
  ·have:b≠S:=fun z=>by rw [z,h0] at e;cases e
   rw [Ai this]
   exact j8 b o e
 fresh:=fun i ys H h j=>j.2.2.1.1
 item:=fun A i s H ys E hh hi I j=>by
  obtain ⟨j1,j2,⟨j3,j4⟩,j5,j6,j7,j8⟩:=j
  obtain ⟨its,rv,p,hz⟩:=I.tuple j5
  have hl:=rv.length
  have D:=Zaa (prog:=X.prog) (w:=X.w) (A:=A.in1) hh it a hai its.toArray
  refine Zly D j1 ⟨j2,p⟩ (by rw [Ox];omega) hne (by simp [hne,Pj hae]) fun x h' tk hx st' it' ht hsz kk=>?_
  have I1:Inv X pins σ H { s with heap:=h',toks:=tk+1 }:=I.turned2 (fun b o h1 h2 e=>kk b o h1 h2 e) (fe.of j3) (fi.of j4)
  have hx':its[i]?=some x:=by simpa using hx
  have hxs:i < xs.length:=hi
  obtain ⟨u,hu,ru⟩:=rv.get (Ou hxs)
  rw [hx'] at hu
  cases hu
  have hf:H s.heap.objs.size=none:=I.hok.fresh (Ow _)
  have I2:Inv X pins σ (upd H s.heap.objs.size (.tup [.int i,xs[i]])) { s with heap:=h',toks:=tk+1 }:=by
   have hokN:HOk X.prog X.w (upd H s.heap.objs.size (.tup [.int i,xs[i]])) h':=fun b o e=>by
    by_cases hb:b=s.heap.objs.size
    ·subst hb
     rw [Ac] at e
     cases e
     exact ⟨by show 2<=sizeLine;decide,[.int i tk,x],.cons ⟨tk,rfl⟩ (.cons ru .nil),⟨_,ht,rfl,_,rfl⟩⟩
    ·rw [Ai hb] at e
     refine (I1.hok b o e).stay (fun c v _ q=>q) (fun c q=>?_) fun c zs q=>?_
     ·rw [Ai (A3 q hf)];exact q
     ·rw [Ai (A3 q hf)];exact q
   have u:Un (Cv X.stack) [en,it] H (upd H s.heap.objs.size (.tup [.int i,xs[i]])) s.heap h':={
    keep:=fun b o e n _ hx=>kk b o (fun z=>hx (by simp [z])) (fun z=>hx (by simp [z])) e
    slot:=fun b o e n _ hx=>⟨o.slots,kk b o (fun z=>hx (by simp [z])) (fun z=>hx (by simp [z])) e⟩
    free:=fun b o e n _=>by rw [Ai (O5 (Oy e))];exact n
    there:=fun b o e hx=>⟨o,kk b o (fun z=>hx (by simp [z])) (fun z=>hx (by simp [z])) e⟩
    tups:=fun b zs e=>by rw [Ai (A3 e hf)];exact e
    frzs:=fun b o u e=>by rw [Ai (A3 e hf)];exact e
    tbls:=fun b ps e=>⟨#[],by rw [Ai (A3 e hf),e];simp⟩ }
   refine I.call (g':=s.gens) (d':=s.drawn) (t':=tk+1) u hokN I.bare fun b hb=>?_
   rcases O1.mp hb with rfl | hb
   ·exact ⟨fe.2.2.2.1,fe.2.1,fe.2.2.2.2.1,fe.2.2.2.2.2⟩
   ·rw [Pr.mp hb]
    exact ⟨fi.2.2.2.1,fi.2.1,fi.2.2.2.2.1,fi.2.2.2.2.2⟩
  have sm:Same H (upd H s.heap.objs.size (.tup [.int i,xs[i]])):=Same.upd hf
  have ne1:en≠s.heap.objs.size:=by obtain ⟨_,e⟩:=j1.obj;exact O5 (Oy e)
  have ne2:it≠s.heap.objs.size:=by obtain ⟨_,e,_⟩:=j2;exact O5 (Oy e)
  refine ⟨_,.ref s.heap.objs.size,_,rfl,rfl,I2,⟨st',it'.1,⟨by rw [Ai ne1];exact j3,by rw [Ai ne2];exact j4⟩,j5.same sm,by simp [j6],fun m y hy=>?_,j8.trans sm⟩,fun S zs e=>sm S _ e⟩
  by_cases hm:m < i
  ·rw [Px (by omega)] at hy
   obtain ⟨t,z,e1,e2,e3⟩:=j7 m y hy
   exact ⟨t,z,e1,e2,sm _ _ e3⟩
  ·have hlen:=(O2.mp hy).1
   rw [O4,Pt] at hlen
   have:m=i:=by omega
   subst this
   rw [Qf (by omega),j6,Sk] at hy
   have hy:V.ref s.heap.objs.size=y:=by simpa using hy
   exact ⟨_,xs[m],hy.symm,Ou hxs,Ac⟩
 done:=fun A s H ys E hh I j=>by
  obtain ⟨j1,j2,⟨j3,j4⟩,j5,j6,j7,j8⟩:=j
  obtain ⟨its,rv,p,hz⟩:=I.tuple j5
  have hl:=rv.length
  have D:=Zaa (prog:=X.prog) (w:=X.w) (A:=A.in1) hh it a hai its.toArray
  have e:xs.length=its.toArray.size:=by rw [Ox];omega
  rw [e] at j1 j2
  refine Zgx D j1 ⟨j2,p⟩ fun h' eb=>⟨rfl,?_⟩
  obtain ⟨g0,g1,g2,g3,g4,g5⟩:=fi.of j4
  exact I.turned (t':=s.toks) (fun b o hb e=>eb b o hb e) g0 g1 g3 g4 g5
section
variable {X:Cx}
theorem Om:bootBuiltins "list" = some (.type "list"):=by decide +kernel
noncomputable def Za4 (K:Os)(ta:TA):TE:=fun σ H Q=>ta σ H fun vs H1=>∃ a xs,vs=[.ref a]/\SqT K H1 a xs /\
 ∀(S:Addr)(ys:List V)(H2:Hp),H1 S=none->Same H1 H2->ys.length=xs.length->Zaq H2 xs ys->H2 S=some (.lst ys)->Q (.ref S) H2
theorem Zmj {e:Expr}{ta:TA}{p p2 pos pos2:Pos}(hg:Gl X "list")(hm:X.mg "list" = none)(hg2:Gl X "enumerate")(hm2:X.mg "enumerate" = none)(ha:QA X [e] ta)(hc:X.calm=true:=by rfl)
  (hs:starEach [.Call (.Name "enumerate" p2) [e] [] pos2] X.env=[(false,eval (.Call (.Name "enumerate" p2) [e] [] pos2) X.env)]:=by rfl) (hs2:starEach [e] X.env=[(false,eval e X.env)]:=by rfl) :
  QE X (.Call (.Name "list" p) [.Call (.Name "enumerate" p2) [e] [] pos2] [] pos) (Za4 X.K ta):=by
 refine ⟨fun pins s σ H Q I h=>?_⟩
 refine Call_ (Dj I hg hm Om (P6 ?_ hs rfl))
 rw [hs]
 show wpAny _ _ (spliced ((false,eval (.Call (.Name "enumerate" p2) [e] [] pos2) X.env)::[])) _ _ s
 refine Q1 ?_
 refine Call_ (Dj I hg2 hm2 Ve (P6 (Aj (ha.run pos2 pins s σ H _ I h) fun us s1 zq=>?_) hs2 rfl))
 obtain ⟨vs,H1,I1,r1,q1⟩:=zq
 obtain ⟨a,xs,e1,hq,q⟩:=q1
 subst e1
 cases r1 with
 | cons r rr =>
  cases rr
  cases r
  obtain ⟨its,rv,pt,hz⟩:=I1.tuple hq
  have hlt:a < s1.heap.objs.size:=by obtain ⟨o,e,_⟩:=id pt;exact Oy e
  refine Zmb (show s1.heap.IsTuple a its.toArray from pt) fun h' hen hit hsz hk=>?_
  refine Rn ?_
  have I2:Inv X pins σ H1 { s1 with heap:=h' }:=I1.kept (t':=s1.toks) hk
  have fe:=I1.fpOk (b:=s1.heap.objs.size+1) (Sm _) (I1.hok.fresh (Sm _))
  have fi:=I1.fpOk (b:=s1.heap.objs.size) (Ow _) (I1.hok.fresh (Ow _))
  have C:=Zgp (X:=X) (pins:=pins) (σ:=σ) (H0:=H1) (en:=s1.heap.objs.size+1) (it:=s1.heap.objs.size) (a:=a) (xs:=xs) fe fi (Nat.succ_ne_self _) (O5 (Uv hlt)) (O5 hlt)
  refine Ol C (by omega) (I1.ok.hd hc) I2 ⟨.inl ⟨rfl,_,hen⟩,hit,⟨fe.1,fi.1⟩,hq,rfl,fun j y hy=>by simp at hy,Same.refl _⟩ (fun S hge hS h2 k2=>?_) fun S H' ys hS hS' hl' hj=>?_
  ·have sm:Same H1 (upd H1 S (.lst [])):=Same.upd hS
   refine ⟨.inl ⟨rfl,_,k2 _ _ hen⟩,hit.at fun o e=>k2 _ _ e,⟨?_,?_⟩,hq.same sm,rfl,fun j y hy=>by simp at hy,sm⟩
   ·rw [Ai (show s1.heap.objs.size+1≠S from fun z=>?_)]
    ·exact fe.1
    ·have hge:h'.objs.size<=S:=hge
     omega
   ·rw [Ai (show s1.heap.objs.size≠S from fun z=>?_)]
    ·exact fi.1
    ·have hge:h'.objs.size<=S:=hge
     omega
  ·obtain ⟨h,j⟩:=hj
   exact q S ys H' hS j.2.2.2.2.2.2 hl' j.2.2.2.2.2.1 hS'
end
noncomputable def Gx (K:Os)(a:Addr)(n:Nat):It :=
 ⟨fun i H=>∃ xs,SqL K H a xs/\xs.length=n/\i < n,fun i H x H'=>∃(t:Addr)(y:V),H t=none/\(∀ xs,SqL K H a xs->xs[i]?=some y)/\x=.ref t/\H'=upd H t (.tup [.int i,y]),fun i H=>i=n/\∃ xs,SqL K H a xs/\xs.length=n⟩
theorem Inv.pair {X:Cx}{pins:List (Addr×Obj)}{σ:St}{H:Hp}{s:Shared}{h':Heap}{tk:Nat}{i1 i2 T:Addr}{xs:List V}{its:List Value}(I:Inv X pins σ H s)(f1:FpOk X pins H i1)(f2:FpOk X pins H i2)
  (kk:∀ b o,b≠i1->b≠i2->s.heap.get? b=some o->h'.get? b=some o) (hT:s.heap.objs.size<=T) (rv:Vals xs its) (hz:xs.length<=sizeLine) (ht:h'.IsTuple T its.toArray):Inv X pins σ (upd H T (.tup xs)) { s with heap:=h',toks:=tk }:=by
 have hf:H T=none:=I.hok.fresh hT
 have I1:Inv X pins σ H { s with heap:=h',toks:=tk }:=I.turned2 kk f1 f2
 have hokN:HOk X.prog X.w (upd H T (.tup xs)) h':=fun b o e=>by
  by_cases hb:b=T
  ·subst hb
   rw [Ac] at e
   cases e
   exact ⟨hz,its,rv,ht⟩
  ·rw [Ai hb] at e
   refine (I1.hok b o e).stay (fun c v _ q=>q) (fun c q=>?_) fun c zs q=>?_
   ·rw [Ai (A3 q hf)];exact q
   ·rw [Ai (A3 q hf)];exact q
 have u:Un (Cv X.stack) [i1,i2] H (upd H T (.tup xs)) s.heap h':={
  keep:=fun b o e n _ hx=>kk b o (fun z=>hx (by simp [z])) (fun z=>hx (by simp [z])) e
  slot:=fun b o e n _ hx=>⟨o.slots,kk b o (fun z=>hx (by simp [z])) (fun z=>hx (by simp [z])) e⟩
  free:=fun b o e n _=>by rw [Ai (O5 (Pd (Oy e) hT))];exact n
  there:=fun b o e hx=>⟨o,kk b o (fun z=>hx (by simp [z])) (fun z=>hx (by simp [z])) e⟩
  tups:=fun b zs e=>by rw [Ai (A3 e hf)];exact e
  frzs:=fun b o u e=>by rw [Ai (A3 e hf)];exact e
  tbls:=fun b ps e=>⟨#[],by rw [Ai (A3 e hf),e];simp⟩ }
 refine I.call (g':=s.gens) (d':=s.drawn) (t':=tk) u hokN I.bare fun b hb=>?_
 rcases O1.mp hb with rfl | hb
 ·exact ⟨f1.2.2.2.1,f1.2.1,f1.2.2.2.2.1,f1.2.2.2.2.2⟩
 ·rw [Pr.mp hb]
  exact ⟨f2.2.2.2.1,f2.2.1,f2.2.2.2.2.1,f2.2.2.2.2.2⟩
theorem Zpa {P:Program}{w:World}{K:Os}{elts:List Expr}{kt:Nat}{pt:Pos}(a en it:Addr)(n:Nat)(hne:en≠it)(hae:a≠en)(hai:a≠it):En P w K (.Tuple elts kt pt) (Gx K a n) [en,it] en (fun i h=>(∃ old,IsEnum h en it i old)/\h.IsListIter it a i) where
 mem:=by simp
 obj:=fun i h st b hb=>by
  rcases O1.mp hb with rfl | hb
  ·obtain ⟨old,e⟩:=st.1
   exact ⟨_,e,fun v z=>by
    have z':Data.fields _=Data.cell v:=z
    cases z'⟩
  ·rw [Pr.mp hb]
   obtain ⟨o,e,c,d⟩:=st.2
   exact ⟨o,e,fun v z=>by rw [d] at z;cases z⟩
 keep:=fun i h h' st k=>⟨let ⟨old,e⟩:=st.1;⟨old,k en (by simp) _ e⟩,st.2.at fun o e=>k it (by simp) o e⟩
 item:=by
  intro X hP hw hK hc i pins s σ H E I hf st hg
  subst hP hw hK
  obtain ⟨xs,hq,hl,hi⟩:=hg
  obtain ⟨its,rv,p,hz⟩:=I.list hq
  have hlen:=rv.length
  have fe:=hf en (by simp)
  have fi:=hf it (by simp)
  have W:=WalksT.enumerateD (prog:=X.prog) (w:=X.w) (A:=X.A) (Rb (A:=X.A.in1) (I.ok.hd hc) it a hai its.toArray) en hne (by simp [hne,Pj hae]) (by simp)
  refine W.item i s _ _ (by rw [Ox];omega) ⟨st.1,st.2,p.isList⟩ fun T vals h1 tk hP hT ht mid k1=>?_
  obtain ⟨t,x,hx,rfl⟩:=hP
  refine ⟨_,rfl,W.go elts kt pt i T _ _ _ mid fun h2 st2 k2=>?_⟩
  have hx':its[i]?=some x:=by simpa using hx
  have hxs:i < xs.length:=by omega
  obtain ⟨u,hu,ru⟩:=rv.get (Ou hxs)
  rw [hx'] at hu
  cases hu
  have hTw:T ∉ [en,it]:=W.apart i T _ mid
  have ht2:h2.IsTuple T ([.int i t,x]:List Value).toArray:=by
   obtain ⟨o,eo,r⟩:=ht
   exact ⟨o,k2 T o hTw eo,r⟩
  have kk:∀ b o,b≠en->b≠it->s.heap.get? b=some o->h2.get? b=some o:=fun b o h1 h3 e=>k2 b o (by simp [h1,h3]) (k1 b o (by simp [h1,h3]) e)
  have I2:=I.pair (tk:=tk) (T:=T) (xs:=[.int i,xs[i]]) fe fi kk hT (.cons ⟨t,rfl⟩ (.cons ru .nil)) (by show 2<=sizeLine;decide) ht2
  refine ⟨.ref T,_,I2,rfl,⟨T,xs[i],I.hok.fresh hT,fun ys hy=>by rw [I.list_inj hy hq];exact Ou hxs,rfl,rfl⟩,⟨st2.1,st2.2.1⟩,fun b hb=>?_⟩
  have hb':b≠T:=fun z=>hTw (z ▸ hb)
  rw [Ai hb']
  exact (hf b hb).1
 done:=by
  intro X hP hw hK hc i pins s σ H E I hf st hg
  subst hP hw hK
  obtain ⟨rfl,xs,hq,hl⟩:=hg
  obtain ⟨its,rv,p,hz⟩:=I.list hq
  have hlen:=rv.length
  have fe:=hf en (by simp)
  have fi:=hf it (by simp)
  have W:=WalksT.enumerateD (prog:=X.prog) (w:=X.w) (A:=X.A) (Rb (A:=X.A.in1) (I.ok.hd hc) it a hai its.toArray) en hne (by simp [hne,Pj hae]) (by simp)
  have e:i=its.toArray.size:=by rw [Ox];omega
  rw [e] at st
  exact W.done s _ _ ⟨st.1,st.2,p.isList⟩ fun h' tk kk=>⟨rfl,I.turned2 (fun b o h1 h2 e=>kk b o (by simp [h1,h2]) e) fe fi⟩
 self:=fun A i s Q E st h=>by
  obtain ⟨old,e⟩:=st.1
  exact Ux e h
section
variable {X:Cx}
noncomputable def Ms (K:Os)(ta:TA):TI:=fun σ H R=>ta σ H fun vs H1=>∃ a xs,vs=[.ref a]/\SqL K H1 a xs/\R (Gx K a xs.length) H1
theorem Zle {elts:List Expr}{kt:Nat}{pt:Pos}{e:Expr}{ta:TA}{p pos:Pos}(hg:Gl X "enumerate")(hm:X.mg "enumerate" = none)(ha:QA X [e] ta)(hs:starEach [e] X.env=[(false,eval e X.env)]:=by rfl):QI X (.Tuple elts kt pt) (.Call (.Name "enumerate" p) [e] [] pos) (Ms X.K ta):=by
 refine ⟨fun pins s σ H R I h=>?_⟩
 refine Call_ (Dj I hg hm Ve (P6 (Aj (ha.run pos pins s σ H _ I h) fun us s1 zq=>?_) hs rfl))
 obtain ⟨vs,H1,I1,r1,q1⟩:=zq
 obtain ⟨l,xs,e1,hq,q⟩:=q1
 subst e1
 cases r1 with
 | cons r rr =>
  cases rr
  cases r
  obtain ⟨its,rv,pl,hz⟩:=I1.list hq
  have hlt:l < s1.heap.objs.size:=by obtain ⟨o,e,_⟩:=pl.isList;exact Oy e
  refine call_enumerate_list pl.isList fun h' hen hit hsz hk=>?_
  refine Ux hen ?_
  have fe:=I1.fpOk (b:=s1.heap.objs.size+1) (Sm _) (I1.hok.fresh (Sm _))
  have fi:=I1.fpOk (b:=s1.heap.objs.size) (Ow _) (I1.hok.fresh (Ow _))
  refine ⟨s1.heap.objs.size+1,[s1.heap.objs.size+1,s1.heap.objs.size],_,_,H1,rfl,I1.kept (t':=s1.toks) hk,Zpa l _ _ xs.length (Nat.succ_ne_self _) (O5 (Uv hlt)) (O5 hlt),⟨⟨_,hen⟩,hit⟩,fun b hb=>?_,q⟩
  rcases O1.mp hb with rfl | hb
  ·exact fe
  ·rw [Pr.mp hb]
   exact fi
theorem Le {K:Os}{a:Addr}{xs:List V}{g:TG}{tb:TS}{D:Ct}{σ:St}{H:Hp}(Pv:Nat->St->Hp->Prop)(h0:Pv 0 σ H)(hl:∀ i σ H,i<=xs.length->Pv i σ H->SqL K H a xs)
  (hs:∀ i x t σ H,xs[i]?=some x->H t=none->Pv i σ H->g (.ref t) σ (upd H t (.tup [.int i,x])) fun σ2 H2=>tb { D with nx:=Pv (i+1),ct:=Pv (i+1),bk:=D.nx } σ2 H2) (hd:∀ σ H,Pv xs.length σ H->D.nx σ H) :
  ∃ W:Nat->Nat->St->Hp->Prop,(∃ m,W 0 m σ H)/\∀ i m σ H,W i m σ H ->
   ((Gx K a xs.length).stop i H/\D.nx σ H)\/((Gx K a xs.length).go i H/\∃ N:St->Hp->Prop,(∀ σ' H',N σ' H'->∃ m',m' < m/\W (i+1) m' σ' H')/\∀ x H',(Gx K a xs.length).yld i H x H'->g x σ H' fun σ2 H2=>tb { D with nx:=N,ct:=N,bk:=D.nx } σ2 H2):=by
 refine ⟨fun i m σ H=>m=xs.length - i/\i<=xs.length/\Pv i σ H,⟨xs.length,by simp,Ph _,h0⟩,?_⟩
 rintro i m σ H ⟨rfl,hi,p⟩
 have q:=hl i σ H hi p
 by_cases hlt:i < xs.length
 ·refine .inr ⟨⟨xs,q,rfl,hlt⟩,Pv (i+1),fun σ' H' p'=>⟨xs.length - (i+1),by omega,rfl,hlt,p'⟩,fun x H' y=>?_⟩
  obtain ⟨t,y,ht,hy,rfl,rfl⟩:=y
  exact hs i y t σ _ (hy xs q) ht p
 ·have e:i=xs.length:=by omega
  subst e
  exact .inl ⟨⟨rfl,xs,q,rfl⟩,hd σ H p⟩
end
end L2
namespace L2
open PySem PySem.SeqAt
open PySem.AutoSeq1 (wpAny_loadPart')
open PySem.MeetsSeq PySem.MeetsSeq2 PySem.MeetsSeq3 PySem.SeqRoads2
theorem Zk1 (l b:Addr)(items items2:Array Value)(n n2:Nat)(dd dd2:Option Addr)(sl sl2:Array (Option Value))(hsz:items.size=items2.size)(e:Nat->Bool)(k:Nat) :
  ∀ i:Nat,items.size - i=k->Meets (Builtin.«list.__eq__.loop» ⟨[.ref l,.ref b,rawInt i,rawInt 3],[]⟩)
   (fun A R s=>s.heap.get? l=some { cls:=.type "list",dict:=dd,data:=.seq items n,slots:=sl }/\s.heap.get? b=some { cls:=.type "list",dict:=dd2,data:=.seq items2 n2,slots:=sl2 } /\
    (∀ j (h1:j < items.size) (h2:j < items2.size),EqAt A.in1 s items[j] items2[j] (e j)) /\
    R (.ok (.ret (.bool (!((Pe items.size).drop i).all e)))) s):=by
 induction k with
 | zero =>
  intro i hk prog w A R s h
  obtain ⟨hp,g,d,tk,os⟩:=s;obtain ⟨hl,hb,he,h⟩:=h
  wp_walk using wpAny_loadPart' hl,wpAny_loadPart' hb
  have hi1:items[((i:Nat):Int).toNat]?=none:=by simp;omega
  have hi2:items2[((i:Nat):Int).toNat]?=none:=by simp;omega
  have hd:(Pe items.size).drop i=[]:=by simp;omega
  rw [hd] at h
  rw [hi1,hi2]
  wp_walk using wpAny_loadPart' hl,wpAny_loadPart' hb
  show R (.ok (.ret (.bool (items.size != items2.size)))) _
  rw [hsz]
  simpa using h
 | succ k ih =>
  intro i hk prog w A R s h
  obtain ⟨hp,g,d,tk,os⟩:=s;obtain ⟨hl,hb,he,h⟩:=h
  wp_walk using wpAny_loadPart' hl,wpAny_loadPart' hb
  have hlt:i < items.size:=by omega
  have hlt2:i < items2.size:=by omega
  have hi1:items[((i:Nat):Int).toNat]?=some items[i]:=by simp [hlt]
  have hi2:items2[((i:Nat):Int).toNat]?=some items2[i]:=by simp [hlt2]
  have hd:(Pe items.size).drop i=i::(Pe items.size).drop (i+1):=by simp [Qo,hlt]
  have hc:((i:Int)+1)=((i+1:Nat):Int):=by push_cast;rfl
  rw [hd,Tz] at h
  rw [hi1,hi2]
  refine Ot (he i hlt hlt2 prog w _ _ ?_)
  cases hb':e i with
  | true =>
   rw [hb'] at h
   wp_walk
   rw [hc]
   exact ⟨Q8 plain_eq_loop _,Rr entry_eq_loop (by
    rw [Rl plain_eq_loop _]
    exact ih (i+1) (by omega) prog w A R _ ⟨hl,hb,he,by simpa using h⟩)⟩
  | false =>
   rw [hb'] at h
   wp_walk using wpAny_loadPart' hl,wpAny_loadPart' hb
   rw [hi1,hi2]
   wp_walk
   simpa using h
theorem Znz (l b:Addr)(items items2:Array Value)(n n2:Nat)(dd dd2:Option Addr)(sl sl2:Array (Option Value))(hsz:items.size=items2.size)(e:Nat->Bool) :
  Meets (Builtin.«list.__ne__» ⟨[.ref l,.ref b],[]⟩)
   (fun A R s=>s.heap.get? l=some { cls:=.type "list",dict:=dd,data:=.seq items n,slots:=sl }/\s.heap.get? b=some { cls:=.type "list",dict:=dd2,data:=.seq items2 n2,slots:=sl2 } /\
    (∀ j (h1:j < items.size) (h2:j < items2.size),EqAt A.in1 s items[j] items2[j] (e j)) /\
    R (.ok (.ret (.bool (!(Pe items.size).all e)))) s):=by
 intro prog w A R s h
 obtain ⟨hp,g,d,tk,os⟩:=s;obtain ⟨hl,hb,he,h⟩:=h
 have f3:=PySem.AutoSeq1.sub_list_list
 have hne:¬ (items.size != items2.size)=true:=by simp [hsz]
 wp_walk using wpAny_loadPart' hl,wpAny_loadPart' hb
 exact ⟨Q8 plain_eq_loop _,Rr entry_eq_loop (by
  rw [Rl plain_eq_loop _]
  exact Zk1 l b items items2 n n2 dd dd2 sl sl2 hsz e _ 0 rfl prog w A R _ ⟨hl,hb,he,by simpa using h⟩)⟩
theorem Zh1 (l b:Addr)(items items2:Array Value)(n n2:Nat)(dd dd2:Option Addr)(sl sl2:Array (Option Value))(e:Nat->Bool) :
  Meets (Builtin.«tuple.__ne__» ⟨[.ref l,.ref b],[]⟩)
   (fun A R s=>s.heap.get? l=some { cls:=.type "tuple",dict:=dd,data:=.seq items n,slots:=sl }/\s.heap.get? b=some { cls:=.type "tuple",dict:=dd2,data:=.seq items2 n2,slots:=sl2 } /\
    (∀ j (h1:j < items.size) (h2:j < items2.size),EqAt A.in1 s items[j] items2[j] (e j)) /\
    R (.ok (.ret (.bool (!((Pe (min items.size items2.size)).all e && items.size == items2.size))))) s) :=
 .of_wp fun prog w A R s h=>by
  obtain ⟨hp,g,d,tk,os⟩:=s;obtain ⟨hl,hb,he,h⟩:=h
  have f2:=PySem.AutoSeq1.sub_tuple_tuple
  have hZ:(items.toList.zip items2.toList).length=min items.size items2.size:=by simp
  wp_walk using wpAny_loadPart' hl,wpAny_loadPart' hb,wpAny_forIn_list _ (fun rest b s'=>b.1=none/\s'=⟨hp,g,d,tk,os⟩/\∃ i,rest=(items.toList.zip items2.toList).drop i /\
   R (.ok (.ret (.bool (!(((Pe (min items.size items2.size)).drop i).all e && items.size == items2.size))))) ⟨hp,g,d,tk,os⟩) _
  case turn =>
   rintro ⟨y,x⟩ rest b s' ⟨hb',rfl,i,hz,hR⟩
   have hlt:i < (items.toList.zip items2.toList).length:=by
    rcases Nat.lt_or_ge i (items.toList.zip items2.toList).length with h' | h'
    ·exact h'
    ·rw [Uf h'] at hz;cases hz
   have hm:i < min items.size items2.size:=hZ ▸ hlt
   have h1:i < items.size:=Pd hm (Nat.min_le_left _ _)
   have h2:i < items2.size:=Pd hm (Nat.min_le_right _ _)
   rw [Qo hlt] at hz
   injection hz with hyx hrest
   have hy:y=items[i]:=by have:=congrArg Prod.fst hyx;simpa using this
   have hx:x=items2[i]:=by have:=congrArg Prod.snd hyx;simpa using this
   subst hy hx
   have hd:(Pe (min items.size items2.size)).drop i=i::(Pe (min items.size items2.size)).drop (i+1):=by simp [Qo,hm]
   rw [hd,Tz] at hR
   refine Ot (he i h1 h2 prog w _ _ ?_)
   cases hy:e i with
   | true =>
    rw [hy] at hR
    wp_walk
    exact ⟨rfl,rfl,i+1,hrest,by simpa using hR⟩
   | false =>
    rw [hy] at hR
    wp_walk
    exact ⟨_,rfl,by simpa using hR⟩
  case fin =>
   rintro ⟨b1,b2⟩ s' ⟨hb',rfl,i,hz,hR⟩
   simp only at hb'
   subst hb'
   have hge:min items.size items2.size<=i:=by
    rcases Nat.lt_or_ge i (items.toList.zip items2.toList).length with h' | h'
    ·rw [Qo h'] at hz;cases hz
    ·exact hZ ▸ h'
   rw [Uf (by simpa using hge)] at hR
   wp_walk
   exact ⟨_,rfl,by simpa [Builtin.Tuple.tupleCompareSizes,bne] using hR⟩
  case h =>
   exact ⟨rfl,rfl,0,rfl,by simpa using h⟩
section
variable {prog:Program}{w:World}{A:Around}{E:Value->Shared->Prop}{s:Shared}
theorem Zlr {l b:Addr}{items items2:Array Value}{e:Nat->Bool}{Q:Value->Shared->Prop}(hl:s.heap.IsList l items)(hb:s.heap.IsList b items2)(hsz:items.size=items2.size)(hu:A.units < cLine)
  (he:∀ j (h1:j < items.size) (h2:j < items2.size),EqAt A.in1 s items[j] items2[j] (e j)) (h:Q (.bool (!(Pe items.size).all e)) s):wpAny (model prog w) A (compareOp .NotEq (.ref l) (.ref b)) Q E s:=by
 obtain ⟨⟨cls,dd,data,sl⟩,ho,hc,n,hd⟩:=id hl
 obtain ⟨⟨cls2,dd2,data2,sl2⟩,ho2,hc2,n2,hd2⟩:=id hb
 simp only at hc hd hc2 hd2
 subst hc hd hc2 hd2
 exact richCompare_meets_room (op:=.NotEq) ⟨_,ho,rfl⟩ ⟨_,ho2,rfl⟩ F.slot_list_ne F.entry_list_ne (F.args_list_ne_2 _ _) (Znz l b items items2 n n2 dd dd2 sl sl2 hsz e)
  ⟨ho,ho2,he,show Value.bool (!(Pe items.size).all e)≠Value.notImplemented/\Q (.bool (!(Pe items.size).all e)) s from ⟨(fun x=>nomatch x),h⟩⟩ hu
theorem Zgb {l b:Addr}{items items2:Array Value}{e:Nat->Bool}{Q:Value->Shared->Prop}(hl:s.heap.IsTuple l items)(hb:s.heap.IsTuple b items2)(hu:A.units < cLine)
  (he:∀ j (h1:j < items.size) (h2:j < items2.size),EqAt A.in1 s items[j] items2[j] (e j)) (h:Q (.bool (!((Pe (min items.size items2.size)).all e && items.size == items2.size))) s):wpAny (model prog w) A (compareOp .NotEq (.ref l) (.ref b)) Q E s:=by
 obtain ⟨⟨cls,dd,data,sl⟩,ho,hc,n,hd⟩:=id hl
 obtain ⟨⟨cls2,dd2,data2,sl2⟩,ho2,hc2,n2,hd2⟩:=id hb
 simp only at hc hd hc2 hd2
 subst hc hd hc2 hd2
 exact richCompare_meets_room (op:=.NotEq) ⟨_,ho,rfl⟩ ⟨_,ho2,rfl⟩ F.slot_tuple_ne F.entry_tuple_ne (F.args_tuple_ne_2 _ _) (Zh1 l b items items2 n n2 dd dd2 sl sl2 e)
  ⟨ho,ho2,he,show Value.bool (!((Pe (min items.size items2.size)).all e && items.size == items2.size))≠Value.notImplemented/\Q (.bool (!((Pe (min items.size items2.size)).all e && items.size == items2.size))) s from ⟨(fun x=>nomatch x),h⟩⟩ hu
end
end L2
namespace L2
open PySem PySem.Spec PyProof.Rows
inductive Dt where
 | flat (v:V)
 | tup (ds:List Dt)
 | lst (ds:List Dt)
inductive IsD (K:Os)(H:Hp):Nat->V->Dt->Prop where
 | flat {n:Nat} {v:V} (h:Cz v=true):IsD K H n v (.flat v)
 | tup {n:Nat} {a:Addr} {vs:List V} {ds:List Dt} (q:SqT K H a vs) (l:vs.length=ds.length) (h:∀(j:Nat)(v:V)(d:Dt),vs[j]?=some v->ds[j]?=some d->IsD K H n v d):IsD K H (n+1) (.ref a) (.tup ds)
 | lst {n:Nat} {a:Addr} {vs:List V} {ds:List Dt} (q:SqL K H a vs) (l:vs.length=ds.length) (h:∀(j:Nat)(v:V)(d:Dt),vs[j]?=some v->ds[j]?=some d->IsD K H n v d):IsD K H (n+1) (.ref a) (.lst ds)
theorem IsD.same {K:Os}{H H':Hp}{n:Nat}{v:V}{d:Dt}(h:IsD K H n v d)(e:Same H H'):IsD K H' n v d:=by
 induction h with
 | flat h=>exact .flat h
 | tup q l _ ih=>exact .tup (e.tup q) l ih
 | lst q l _ ih=>exact .lst (e.seq q) l ih
theorem IsD.up {K:Os}{H:Hp}{n m:Nat}{v:V}{d:Dt}(h:IsD K H n v d)(hm:n<=m):IsD K H m v d:=by
 induction h generalizing m with
 | flat h=>exact .flat h
 | tup q l _ ih =>
  obtain ⟨k,rfl⟩:∃ k,m=k+1:=⟨m - 1,by omega⟩
  exact .tup q l fun j v d e1 e2=>ih j v d e1 e2 (by omega)
 | lst q l _ ih =>
  obtain ⟨k,rfl⟩:∃ k,m=k+1:=⟨m - 1,by omega⟩
  exact .lst q l fun j v d e1 e2=>ih j v d e1 e2 (by omega)
theorem Zbn {v:V}(h:Cz v=true):Ds v v=true:=by
 cases v with
 | non=>rfl
 | bl b=>simp [Ds]
 | int i=>simp [Ds]
 | str x=>simp [Ds]
 | byt _=>cases h
 | flt _=>cases h
 | ref _=>cases h
 | ty _=>cases h
section
variable {X:Cx}{pins:List (Addr×Obj)}{σ:St}{H:Hp}{s:Shared}
theorem Zop (I:Inv X pins σ H s):∀{n:Nat}{x y:V}{d:Dt},IsD X.K H n x d->IsD X.K H n y d->∀{A:Around}{u v:Value},RelV x u->RelV y v->A.units+n < cLine->Pa A s u v true:=by
 intro n
 induction n with
 | zero =>
  intro x y d hx hy A u v rx ry hu
  cases hx with
  | flat fx =>
   cases hy with
   | flat fy =>
    have:=N3 (A:=A) (s:=s) rx ry fx fy
    rw [Zbn fx] at this
    exact this
 | succ n ih =>
  intro x y d hx hy A u v rx ry hu
  cases hx with
  | flat fx =>
   cases hy with
   | flat fy =>
    have:=N3 (A:=A) (s:=s) rx ry fx fy
    rw [Zbn fx] at this
    exact this
  | @tup _ a vs ds q l h =>
   cases hy with
   | @tup _ b ws _ q' l' h' =>
    cases rx
    cases ry
    by_cases hab:a=b
    ·subst hab
     exact U5 _
    obtain ⟨its,r1,p1,_⟩:=I.tuple q
    obtain ⟨its2,r2,p2,_⟩:=I.tuple q'
    have l1:=r1.length
    have l2:=r2.length
    have:=SeqAt.RcAt.tuples (A:=A) (e:=fun _=>true) (show s.heap.IsTuple a its.toArray from p1) (show s.heap.IsTuple b its2.toArray from p2) (by omega) fun j h1 h2=>by
     have h1':j < vs.length:=by simp only [Ox] at h1;omega
     have h2':j < ws.length:=by simp only [Ox] at h2;omega
     obtain ⟨u1,g1,k1⟩:=r1.get (Ou h1')
     obtain ⟨u2,g2,k2⟩:=r2.get (Ou h2')
     have e1:its.toArray[j]=u1:=by
      have:its[j]?=some its[j]:=by simp
      rw [this] at g1
      simpa using g1
     have e2:its2.toArray[j]=u2:=by
      have:its2[j]?=some its2[j]:=by simp
      rw [this] at g2
      simpa using g2
     rw [e1,e2]
     have hd:j < ds.length:=by omega
     exact ih (h j _ _ (Ou h1') (Ou hd)) (h' j _ _ (Ou h2') (Ou hd)) k1 k2 (by show A.units+1+n < cLine;omega)
    have e:((Pe (min its.toArray.size its2.toArray.size)).all (fun _=>true) && its.toArray.size == its2.toArray.size)=true:=by
     have:its.toArray.size=its2.toArray.size:=by simp only [Ox];omega
     rw [this]
     simp
    rw [e] at this
    exact Pa.of_refs hab this
  | @lst _ a vs ds q l h =>
   cases hy with
   | @lst _ b ws _ q' l' h' =>
    cases rx
    cases ry
    by_cases hab:a=b
    ·subst hab
     exact U5 _
    obtain ⟨its,r1,p1,_⟩:=I.list q
    obtain ⟨its2,r2,p2,_⟩:=I.list q'
    have l1:=r1.length
    have l2:=r2.length
    have:=SeqAt.RcAt.lists (A:=A) (e:=fun _=>true) p1.isList p2.isList (by simp only [Ox];omega) (by omega) fun j h1 h2=>by
     have h1':j < vs.length:=by simp only [Ox] at h1;omega
     have h2':j < ws.length:=by simp only [Ox] at h2;omega
     obtain ⟨u1,g1,k1⟩:=r1.get (Ou h1')
     obtain ⟨u2,g2,k2⟩:=r2.get (Ou h2')
     have e1:its.toArray[j]=u1:=by
      have:its[j]?=some its[j]:=by simp
      rw [this] at g1
      simpa using g1
     have e2:its2.toArray[j]=u2:=by
      have:its2[j]?=some its2[j]:=by simp
      rw [this] at g2
      simpa using g2
     rw [e1,e2]
     have hd:j < ds.length:=by omega
     exact ih (h j _ _ (Ou h1') (Ou hd)) (h' j _ _ (Ou h2') (Ou hd)) k1 k2 (by show A.units+1+n < cLine;omega)
    have e:(Pe its.toArray.size).all (fun _=>true)=true:=by simp
    rw [e] at this
    exact Pa.of_refs hab this
theorem Kx (I:Inv X pins σ H s){n:Nat}{A:Around}{vs ws:List V}{its its2:List Value}{ds:List Dt}(r1:Vals vs its)(r2:Vals ws its2)(l:vs.length=ds.length)(l':ws.length=ds.length)
  (h:∀(j:Nat)(v:V)(d:Dt),vs[j]?=some v->ds[j]?=some d->IsD X.K H n v d) (h':∀(j:Nat)(v:V)(d:Dt),ws[j]?=some v->ds[j]?=some d->IsD X.K H n v d) (hu:A.units+n < cLine) :
  ∀ j (h1:j < its.toArray.size) (h2:j < its2.toArray.size),Pa A s its.toArray[j] its2.toArray[j] ((fun _=>true) j):=fun j h1 h2=>by
 have l1:=r1.length
 have l2:=r2.length
 have h1':j < vs.length:=by simp only [Ox] at h1;omega
 have h2':j < ws.length:=by simp only [Ox] at h2;omega
 obtain ⟨u1,g1,k1⟩:=r1.get (Ou h1')
 obtain ⟨u2,g2,k2⟩:=r2.get (Ou h2')
 have e1:its.toArray[j]=u1:=by
  have:its[j]?=some its[j]:=by simp
  rw [this] at g1
  simpa using g1
 have e2:its2.toArray[j]=u2:=by
  have:its2[j]?=some its2[j]:=by simp
  rw [this] at g2
  simpa using g2
 rw [e1,e2]
 have hd:j < ds.length:=by omega
 exact Zop I (h j _ _ (Ou h1') (Ou hd)) (h' j _ _ (Ou h2') (Ou hd)) k1 k2 hu
end
section
variable {X:Cx}
noncomputable def Kk (K:Os)(b:Bool):R2:=fun x y H Q=>∃(a c:Addr)(n:Nat)(d:Dt),x=.ref a/\y=.ref c/\n<=190/\IsD K H n x d/\IsD K H n y d/\Q (.bl b) H
theorem Zpv (hu:X.A.units+200 < cLine):OpR X (compareOp .Eq) (Kk X.K true):=by
 intro pins s σ H x y v u Q I rx ry h
 obtain ⟨a,c,n,d,rfl,rfl,hn,hx,hy,q⟩:=h
 cases rx
 cases ry
 cases hx with
 | flat fx=>cases fx
 | @tup n _ vs ds qx l hd =>
  cases hy with
  | @tup _ _ ws _ qy l' hd' =>
   obtain ⟨its,r1,p1,_⟩:=I.tuple qx
   obtain ⟨its2,r2,p2,_⟩:=I.tuple qy
   have l1:=r1.length
   have l2:=r2.length
   refine SeqAt.eq_tupleAt (e:=fun _=>true) (show s.heap.IsTuple a its.toArray from p1) (show s.heap.IsTuple c its2.toArray from p2) (by omega) (Kx I r1 r2 l l' hd hd' (by show X.A.units+1+n < cLine;omega)) ?_
   have e:((Pe (min its.toArray.size its2.toArray.size)).all (fun _=>true) && its.toArray.size == its2.toArray.size)=true:=by
    have:its.toArray.size=its2.toArray.size:=by simp only [Ox];omega
    rw [this]
    simp
   rw [e]
   exact ⟨.bl true,H,I,rfl,q⟩
 | @lst n _ vs ds qx l hd =>
  cases hy with
  | @lst _ _ ws _ qy l' hd' =>
   obtain ⟨its,r1,p1,_⟩:=I.list qx
   obtain ⟨its2,r2,p2,_⟩:=I.list qy
   have l1:=r1.length
   have l2:=r2.length
   refine SeqAt.eq_listAt (e:=fun _=>true) p1.isList p2.isList (by simp only [Ox];omega) (by omega) (Kx I r1 r2 l l' hd hd' (by show X.A.units+1+n < cLine;omega)) ?_
   have e:(Pe its.toArray.size).all (fun _=>true)=true:=by simp
   rw [e]
   exact ⟨.bl true,H,I,rfl,q⟩
theorem Zm5 (hu:X.A.units+200 < cLine):OpR X (compareOp .NotEq) (Kk X.K false):=by
 intro pins s σ H x y v u Q I rx ry h
 obtain ⟨a,c,n,d,rfl,rfl,hn,hx,hy,q⟩:=h
 cases rx
 cases ry
 cases hx with
 | flat fx=>cases fx
 | @tup n _ vs ds qx l hd =>
  cases hy with
  | @tup _ _ ws _ qy l' hd' =>
   obtain ⟨its,r1,p1,_⟩:=I.tuple qx
   obtain ⟨its2,r2,p2,_⟩:=I.tuple qy
   have l1:=r1.length
   have l2:=r2.length
   refine Zgb (e:=fun _=>true) (show s.heap.IsTuple a its.toArray from p1) (show s.heap.IsTuple c its2.toArray from p2) (by omega) (Kx I r1 r2 l l' hd hd' (by show X.A.units+1+n < cLine;omega)) ?_
   have e:(!((Pe (min its.toArray.size its2.toArray.size)).all (fun _=>true) && its.toArray.size == its2.toArray.size))=false:=by
    have:its.toArray.size=its2.toArray.size:=by simp only [Ox];omega
    rw [this]
    simp
   rw [e]
   exact ⟨.bl false,H,I,rfl,q⟩
 | @lst n _ vs ds qx l hd =>
  cases hy with
  | @lst _ _ ws _ qy l' hd' =>
   obtain ⟨its,r1,p1,_⟩:=I.list qx
   obtain ⟨its2,r2,p2,_⟩:=I.list qy
   have l1:=r1.length
   have l2:=r2.length
   refine Zlr (e:=fun _=>true) p1.isList p2.isList (by simp only [Ox];omega) (by omega) (Kx I r1 r2 l l' hd hd' (by show X.A.units+1+n < cLine;omega)) ?_
   have e:(!(Pe its.toArray.size).all (fun _=>true))=false:=by simp
   rw [e]
   exact ⟨.bl false,H,I,rfl,q⟩
noncomputable def Kn (K:Os):R2:=fun x y H Q=>rEq x y H Q\/Kk K true x y H Q
noncomputable def Zau (K:Os):R2:=fun x y H Q=>rNe x y H Q\/Kk K false x y H Q
theorem Zcm (hu:X.A.units+200 < cLine):OpR X (compareOp .Eq) (Kn X.K):=op_eq.or (Zpv hu)
theorem Zit (hu:X.A.units+200 < cLine):OpR X (compareOp .NotEq) (Zau X.K):=op_ne.or (Zm5 hu)
theorem s_eq {K:Os}{x y:V}{H:Hp}{Q:VK}(hs:Lh x y=true)(h:Q (.bl (decide (x=y))) H):Kn K x y H Q:=.inl ⟨hs,h⟩
theorem s_ne {K:Os}{x y:V}{H:Hp}{Q:VK}(hs:Lh x y=true)(h:Q (.bl (!decide (x=y))) H):Zau K x y H Q:=.inl ⟨hs,h⟩
theorem Room.u200 {k:Nat}{A:Around}(r:Room k A):A.units+200 < cLine:=by have:=r.un;omega
end
section
variable {t u:TS}{c d:TT}{te ta tb tc:TE}{g:TG}{gs:Dp}{ts:TA}{D:Ct}{σ:St}{H:Hp}{Q:VK}{QB:Bool->Hp->Prop}{QA':List V->Hp->Prop}
theorem s_seq (h:t { D with nx:=u D } σ H):Zay t u D σ H:=h
theorem s_asg (h:te σ H fun x H1=>g x σ H1 D.nx):Ff te g D σ H:=h
theorem s_ret (h:te σ H D.rt):Nh te D σ H:=h
theorem s_drop (h:te σ H fun _ H1=>D.nx σ H1):Zbc te D σ H:=h
theorem s_next (h:D.nx σ H):Za1 D σ H:=h
theorem s_ifS (h:c σ H fun b H1=>if b=true then t D σ H1 else u D σ H1):Nj c t u D σ H:=h
theorem s_var {i:Nat}{v:V}(e:σ[i]?=some (some v))(h:Q v H):N4 i σ H Q:=⟨v,e,h⟩
theorem s_c {v:V}(h:Q v H):tC v σ H Q:=h
theorem s_op {r:R2}(h:ta σ H fun x H1=>tb σ H1 fun y H2=>r x y H2 Q):Eh r ta tb σ H Q:=h
theorem s_un {r:V->Hp->VK->Prop}(h:ta σ H fun x H1=>r x H1 Q):tUn r ta σ H Q:=h
theorem s_test (h:te σ H fun x H'=>∃ k,x=.bl k/\QB k H'):Zak te σ H QB:=h
theorem s_tB (h:te σ H fun x H'=>∃ k,x=.bl k/\QB k H'):tB te σ H QB:=h
theorem s_ex {b:Bool}{P:Bool->Prop}(h:P b):∃ k,V.bl b=V.bl k/\P k:=⟨b,rfl,h⟩
theorem s_exi {i:Int}{P:Int->Prop}(h:P i):∃ k,V.int i=V.int k/\P k:=⟨i,rfl,h⟩
theorem s_not (h:c σ H fun b H1=>QB (!b) H1):Mv c σ H QB:=h
theorem s_and (h:c σ H fun b H1=>if b=true then d σ H1 QB else QB false H1):Za7 c d σ H QB:=h
theorem s_andV (h:ta σ H fun x H1=>∃ k,x=.bl k/\if k=true then tb σ H1 Q else Q (.bl false) H1):Za5 ta tb σ H Q:=h
theorem s_notV (h:ta σ H fun x H1=>∃ k,x=.bl k/\Q (.bl (!k)) H1):Oh ta σ H Q:=h
theorem s_nil (h:QA' [] H):On σ H QA':=h
theorem s_cons (h:te σ H fun x H1=>ts σ H1 fun xs H2=>QA' (x::xs) H2):Zad te ts σ H QA':=h
theorem s_vals {xs:List V}(h:QA' xs H):Mn xs σ H QA':=h
theorem s_tup (h:ts σ H fun xs H1=>xs.length<=sizeLine/\∀ p,H1 p=none->Q (.ref p) (upd H1 p (.tup xs))):Zaj ts σ H Q:=h
theorem s_lst (h:ts σ H fun xs H1=>xs.length<=sizeLine/\∀ p,H1 p=none->Q (.ref p) (upd H1 p (.lst xs))):Oc ts σ H Q:=h
theorem s_call {sp:Sp}{dvs:List V}{E:XK}(h:ts σ H fun vs H1=>sp (vs++dvs) H1 Q E):L5 sp dvs E ts σ H Q:=h
theorem s_cb {r:List V->Hp->VK->Prop}(h:ts σ H fun vs H1=>r vs H1 Q):tCB r ts σ H Q:=h
theorem s_bm {K:Os}{T:String}{r:V->List V->Hp->VK->Prop}(h:te σ H fun x H1=>Ht K T x H1/\ts σ H1 fun xs H2=>r x xs H2 Q):tBM K T r te ts σ H Q:=h
theorem s_bm0 {K:Os}{T:String}{r:V->List V->Hp->VK->Prop}(h:te σ H fun x H1=>Ht K T x H1/\r x [] H1 Q):L4 K T r te σ H Q:=h
theorem s_sl {r:V->Option Int->Option Int->Hp->VK->Prop}{tl th:TO}(h:te σ H fun x H1=>tl σ H1 fun l H2=>th σ H2 fun u H3=>r x l u H3 Q):tSl r te tl th σ H Q:=h
theorem s_po {QO':Option Int->Hp->Prop}(h:te σ H fun x H1=>∃ i,x=.int i/\QO' (some i) H1):Nm te σ H QO':=h
theorem s_po0 {QO':Option Int->Hp->Prop}(h:QO' none H):Nq σ H QO':=h
theorem s_gname {i:Nat}{v:V}{QS':St->Hp->Prop}(h:QS' (σ.set i (some v)) H):E5 i v σ H QS':=h
theorem C3 {K:Os}{n:Nat}{a:Addr}{xs:List V}{QS':St->Hp->Prop}(q:SqT K H a xs)(l:xs.length=n)(h:gs xs σ H QS'):Ls K n gs (.ref a) σ H QS':=⟨a,xs,rfl,q,l,h⟩
theorem s_gcons {v:V}{r:List V}{QS':St->Hp->Prop}(h:g v σ H fun σ' H'=>gs r σ' H' QS'):Oe g gs (v::r) σ H QS':=⟨v,r,rfl,h⟩
theorem s_gnil {QS':St->Hp->Prop}(h:QS' σ H):Mr [] σ H QS':=⟨rfl,h⟩
theorem s_gsub {to ti:TE}{tt:Iy}{v:V}{QS':St->Hp->Prop}(h:to σ H fun o H1=>ti σ H1 fun i H2=>tt o i v H2 fun H3=>QS' σ H3):Oj to ti tt v σ H QS':=h
theorem s_isN (h:ta σ H fun x H1=>Q (.bl (decide (x=.non))) H1):Nk ta σ H Q:=h
theorem s_notN (h:ta σ H fun x H1=>Q (.bl (!decide (x=.non))) H1):N9 ta σ H Q:=h
end
section
variable {wi:TI}{σ0:St->St}{g:TG}{tt:TT}{te:TE}{ta:TA}{tb:TS}{D:Ct}{σ:St}{H:Hp}{Q:VK}{R:It->Hp->Prop}{K:Os}
theorem s_comp (h:wi σ H fun J H1=>∀ L,H1 L=none->Iw J g tt te (σ0 σ) H1 L Q):Ie wi σ0 g tt te σ H Q:=h
theorem s_for (h:wi σ H fun J H1=>∃ W:Nat->Nat->St->Hp->Prop,(∃ m,W 0 m σ H1)/\∀ i m σ H,W i m σ H ->
 (J.stop i H/\D.nx σ H)\/(J.go i H/\∃ N:St->Hp->Prop,(∀ σ' H',N σ' H'->∃ m',m' < m/\W (i+1) m' σ' H')/\∀ x H',J.yld i H x H'->g x σ H' fun σ2 H2=>tb { D with nx:=N,ct:=N,bk:=D.nx } σ2 H2)):Zal wi g tb D σ H:=h
theorem s_rng1 (h:ta σ H fun vs H1=>∃ j:Int,vs=[.int j]/\-(2 ^ 62)<=j/\j < 2 ^ 62/\R (Fc 0 j.toNat) H1):Zax ta σ H R:=h
theorem s_exr {i:Int}{P:Int->Prop}(h:P i):∃ j,([V.int i]:List V)=[.int j]/\P j:=⟨i,rfl,h⟩
theorem s_iany (h:te σ H fun x H1=>(∃ a,x=.ref a/\(∃ xs,SqL K H1 a xs)/\R (Fx K a) H1)\/(∃ a,x=.ref a/\(∃ xs,SqT K H1 a xs)/\R (F9 K a) H1)\/∃ z,x=.str z/\R (Its z) H1):Of K te σ H R:=h
theorem s_irev (h:ta σ H fun vs H1=>∃ a xs,vs=[.ref a]/\SqL K H1 a xs/\R (Gv K a xs.length) H1):N6 K ta σ H R:=h
theorem s_ienum (h:ta σ H fun vs H1=>∃ a xs,vs=[.ref a]/\SqL K H1 a xs/\R (Gx K a xs.length) H1):Ms K ta σ H R:=h
theorem s_listen (h:ta σ H fun vs H1=>∃ a xs,vs=[.ref a]/\SqT K H1 a xs/\∀(S:Addr)(ys:List V)(H2:Hp),H1 S=none->Same H1 H2->ys.length=xs.length->Zaq H2 xs ys->H2 S=some (.lst ys)->Q (.ref S) H2):Za4 K ta σ H Q:=h
theorem s_yes {QB:Bool->Hp->Prop}(h:QB true H):Nd σ H QB:=h
theorem s_turn {L:Addr}{Nx:List V->St->Hp->Prop}{x:V}(h:g x σ H fun σ2 H3=>tt σ2 H3 fun b H4=>if b=true then te σ2 H4 fun y H5=>∃ ys,H5 L=some (.lst ys)/\ys.length < sizeLine/\(∃ zs,upd H5 L (.lst (ys++[y])) L=some (.lst zs)/\Nx zs σ2 (upd H5 L (.lst (ys++[y])))) else ∃ zs,H4 L=some (.lst zs)/\Nx zs σ2 H4):Lj g tt te L Nx x σ H:=h
theorem Df {l:Addr}{xs:List V}{y:V}(e:H l=some (.lst xs))(z:xs.length < sizeLine)(h:Q .non (upd H l (.lst (xs++[y])))):Zbg (.ref l) [y] H Q:=⟨l,xs,y,rfl,rfl,e,z,h⟩
theorem Km {l:Addr}{xs:List V}{y:V}(e:H l=some (.lst (xs++[y])))(h:Q y (upd H l (.lst xs))):rPop (.ref l) [] H Q:=⟨l,xs++[y],y,rfl,rfl,e,by simp,by simpa using h⟩
theorem Zfl {p:Addr}{xs:List V}{k:Int}{j:Nat}{v:V}{QH:Hp->Prop}(e:H p=some (.lst xs))(hj:C0 xs.length k=some j)(h:QH (upd H p (.lst (xs.set j v)))):Zc1 (.ref p) (.int k) v H QH:=⟨p,xs,k,j,rfl,rfl,e,hj,h⟩
end
section
variable {X:Cx}(K:Os)
theorem Dq (hK:X.K=K:=by rfl):OpR X (binaryOp .Add) (F3 K):=by subst hK;exact op_addA
theorem B2 (hu:X.A.units+200 < cLine)(hK:X.K=K:=by rfl):OpR X (compareOp .Eq) (Kn K):=by subst hK;exact Zcm hu
theorem M8 (hu:X.A.units+200 < cLine)(hK:X.K=K:=by rfl):OpR X (compareOp .NotEq) (Zau K):=by subst hK;exact Zit hu
theorem M9 (hK:X.K=K:=by rfl):OpR X (compareOp .In) (Zas K false):=by subst hK;exact Znb
theorem k_ix (hK:X.K=K:=by rfl):IxR X (Gw K):=by subst hK;exact Zlv
theorem Ll (hK:X.K=K:=by rfl):SlR X (rSlA K):=by subst hK;exact Zms
theorem Em (hK:X.K=K:=by rfl):Cj X (.builtin "len") (Mc K):=by subst hK;exact Ziq
inductive TyQ (K:Os)(H:Hp):V->Value->Prop where
 | ty {x:V} {t:Value} (h:C8 K H x t):TyQ K H x t
 | tup {a:Addr} {xs:List V} (q:SqT K H a xs):TyQ K H (.ref a) (.type "tuple")
 | lst {a:Addr} {xs:List V} (q:SqL K H a xs):TyQ K H (.ref a) (.type "list")
noncomputable def Jp (K:Os)(T:String):List V->Hp->VK->Prop:=fun xs H Q=>∃ x t b,xs=[x,.ty T]/\TyQ K H x t/\Qk K t (.type T)=some b/\Q (.bl b) H
theorem Zjn {T:String}:Cj X (.builtin "isinstance") (Jp X.K T):=by
 intro pins s σ H xs us Q I r h
 obtain ⟨x,t,b,rfl,ty,e,q⟩:=h
 obtain ⟨u,v,rfl,ru,rv⟩:=r.two
 obtain rfl:v=Value.type T:=rv
 cases ty with
 | ty ty=>exact Zpf I ru ty e fun tk=>⟨.bl b,H,I.tok tk,rfl,q⟩
 | tup hq =>
  cases ru
  obtain ⟨its,_,p,_⟩:=I.tuple hq
  obtain ⟨o,h1,h2,_⟩:=p
  exact Pz PySem.W.kitx_tuple I.kIn ⟨o,h1,h2⟩ e (fun z=>nomatch z) fun tk=>⟨.bl b,H,I.tok tk,rfl,q⟩
 | lst hq =>
  cases ru
  obtain ⟨its,_,p,_⟩:=I.list hq
  obtain ⟨o,n,h1,h2,_⟩:=p
  exact Pz Uu I.kIn ⟨o,h1,h2⟩ e (fun z=>nomatch z) fun tk=>⟨.bl b,H,I.tok tk,rfl,q⟩
theorem Dm (T:String)(hK:X.K=K:=by rfl):Cj X (.builtin "isinstance") (Jp K T):=by subst hK;exact Zjn
noncomputable def Zhb (K:Os):List V->Hp->VK->Prop:=fun xs H Q=>∃ p ys,xs=[.ref p]/\(SqL K H p ys\/SqT K H p ys)/\∀ l,H l=none->Q (.ref l) (upd H l (.lst ys))
theorem N5 (hK:X.K=K:=by rfl):Cj X (.type "list") (Zhb K):=by subst hK;exact Zjx
noncomputable def Zfd (K:Os):List V->Hp->VK->Prop:=fun xs H Q=>∃ p ys,xs=[.ref p]/\((SqL K H p ys/\∀ l,H l=none->Q (.ref l) (upd H l (.tup ys)))\/(SqT K H p ys/\Q (.ref p) H))
theorem Zbr (hK:X.K=K:=by rfl):Cj X (.type "tuple") (Zfd K):=by subst hK;exact Zh9
noncomputable def rInt:List V->Hp->VK->Prop:=fun xs H Q=>(∃ i,xs=[.int i]/\Q (.int i) H)\/∃ k,xs=[.bl k]/\Q (.int (if k then 1 else 0)) H
theorem Zhd:Cj X (.type "int") rInt:=Zf9
theorem s_intb {k:Bool}{H:Hp}{Q:VK}(h:Q (.int (if k=true then 1 else 0)) H):rInt [.bl k] H Q:=.inr ⟨k,rfl,h⟩
theorem Db {tg l:Expr}{tl:TE}(hl:QE X l tl)(hK:X.K=K:=by rfl):QI X tg l (Of K tl):=by subst hK;exact Zll hl
theorem Zn1 {tg a:Expr}{ta:TA}{p pos:Pos}(hg:Gl X "reversed")(hm:X.mg "reversed" = none)(ha:QA X [a] ta)(hK:X.K=K:=by rfl)(hs:starEach [a] X.env=[(false,eval a X.env)]:=by rfl):QI X tg (.Call (.Name "reversed" p) [a] [] pos) (N6 K ta):=by subst hK;exact Zh7 hg hm ha hs
theorem La {elts:List Expr}{kt:Nat}{pt:Pos}{e:Expr}{ta:TA}{p pos:Pos}(hg:Gl X "enumerate")(hm:X.mg "enumerate" = none)(ha:QA X [e] ta)(hK:X.K=K:=by rfl)(hs:starEach [e] X.env=[(false,eval e X.env)]:=by rfl):QI X (.Tuple elts kt pt) (.Call (.Name "enumerate" p) [e] [] pos) (Ms K ta):=by subst hK;exact Zle hg hm ha hs
theorem Zg8 {e:Expr}{ta:TA}{p p2 pos pos2:Pos}(hg:Gl X "list")(hm:X.mg "list" = none)(hg2:Gl X "enumerate")(hm2:X.mg "enumerate" = none)(ha:QA X [e] ta)(hK:X.K=K:=by rfl)(hc:X.calm=true:=by rfl)
  (hs:starEach [.Call (.Name "enumerate" p2) [e] [] pos2] X.env=[(false,eval (.Call (.Name "enumerate" p2) [e] [] pos2) X.env)]:=by rfl) (hs2:starEach [e] X.env=[(false,eval e X.env)]:=by rfl) :
  QE X (.Call (.Name "list" p) [.Call (.Name "enumerate" p2) [e] [] pos2] [] pos) (Za4 K ta):=by subst hK;exact Zmj hg hm hg2 hm2 ha hc hs hs2
theorem Da {es:List Expr}{k:Nat}{pos:Pos}{t:Dp}{n:Nat}(hc:X.calm=true)(h:QGs X es t)(hK:X.K=K:=by rfl)(hn:(assignEach es X.env).length=n:=by rfl)(hst:(assignEach es X.env).findIdx? (·.1)=none:=by rfl):QG X (.Tuple es k pos) (Ls K n t):=by subst hK;exact Zp4 hc h hn hst
noncomputable def Zel (K:Os)(ta:TE):TT:=fun σ H Q=>ta σ H fun x H'=>∃ k,Ir K x H' k/\Q k H'
theorem Fm {a:Expr}{ta:TE}(ha:QE X a ta)(he:∀ whole,isTrue a X.env whole=(do let v <- whole;standAt a.pos;holding [v] (truthy v)))(hK:X.K=K:=by rfl):QT X a (Zel K ta):=by subst hK;exact ⟨Zid ha.run he⟩
theorem Dk {o e:Expr}{es:List Expr}{to:TE}{t:TA}{name:Str}{apos cpos:Pos}{T id:String}{r:V->List V->Hp->VK->Prop}(pa:PlainAttrs T)(slot:Slot T name id)(hty:typeOf (.builtin id)=pure (.type "method_descriptor"))(hm:Hr X id r)(ho:QE X o to)(ha:QA X (e::es) t)(hK:X.K=K:=by rfl)
  (hbase:attributeBase o name X.env (eval o X.env)=eval o X.env:=by rfl) (hfew:((backTo cpos (starEach (e::es) X.env)).all (fun x=>!x.1) && (backToKw cpos (keywordEach [] X.env)).all (fun x=>x.1.isSome)
   && decide ((e::es).length+([]:List Keyword).length+(if ([]:List Keyword).isEmpty then 0 else 1) < 30))=true:=by rfl) (hline:(apos.endLine == cpos.line)=true:=by rfl) (hs:starEach (e::es) X.env=(false,eval e X.env)::starEach es X.env:=by rfl) (hplain:(backTo cpos (starEach es X.env)).any (·.1)=false:=by rfl):QE X (.Call (.Attribute o name apos) (e::es) [] cpos) (tBM K T r to t):=by subst hK;exact Zl4 pa slot hty hm ho ha hbase hfew hline hs hplain
theorem Lr {o:Expr}{to:TE}{name:Str}{apos cpos:Pos}{T id:String}{r:V->List V->Hp->VK->Prop}(pa:PlainAttrs T)(slot:Slot T name id)(hty:typeOf (.builtin id)=pure (.type "method_descriptor"))(hm:Hr X id r)(ho:QE X o to)(hK:X.K=K:=by rfl)(hbase:attributeBase o name X.env (eval o X.env)=eval o X.env:=by rfl)(hline:(apos.endLine == cpos.line)=true:=by rfl):QE X (.Call (.Attribute o name apos) [] [] cpos) (L4 K T r to):=by subst hK;exact Zmv pa slot hty hm ho hbase hline
end
section
variable {K:Os}{σ:St}{H:Hp}{Q:VK}{QB:Bool->Hp->Prop}{ta:TE}
theorem s_truth (h:ta σ H fun x H'=>∃ k,Ir K x H' k/\QB k H'):Zel K ta σ H QB:=h
theorem Gn {a:Addr}{xs:List V}{P:Bool->Prop}(q:SqL K H a xs)(h:P (!xs.isEmpty)):∃ k,Ir K (.ref a) H k/\P k:=⟨_,.inl ⟨xs,q,rfl⟩,h⟩
theorem C1 {T:String}{x:V}{t:Value}{b:Bool}(ty:C8 K H x t)(e:Qk K t (.type T)=some b)(h:Q (.bl b) H):Jp K T [x,.ty T] H Q:=⟨x,t,b,rfl,.ty ty,e,h⟩
theorem Iv {T:String}{a:Addr}{xs:List V}{b:Bool}(q:SqT K H a xs)(e:Qk K (.type "tuple") (.type T)=some b)(h:Q (.bl b) H):Jp K T [.ref a,.ty T] H Q:=⟨_,_,b,rfl,.tup q,e,h⟩
theorem Iz {T:String}{a:Addr}{xs:List V}{b:Bool}(q:SqL K H a xs)(e:Qk K (.type "list") (.type T)=some b)(h:Q (.bl b) H):Jp K T [.ref a,.ty T] H Q:=⟨_,_,b,rfl,.lst q,e,h⟩
theorem Znq {K:Os}:Qk K (.type "int") (.type "bool")=some false:=Zg5 (l:=(fastBuiltinMro "int").get (by decide +kernel)) (by decide +kernel) (by decide) (by simp) (by decide +kernel)
theorem Zff {p:Addr}{ys:List V}(q:SqL K H p ys)(h:∀ l,H l=none->Q (.ref l) (upd H l (.tup ys))):Zfd K [.ref p] H Q:=⟨p,ys,rfl,.inl ⟨q,h⟩⟩
theorem Ci {a:Addr}{xs:List V}{P:Prop}(q:SqL K H a xs)(h:P):Ht K "list" (.ref a) H/\P:=⟨.inl ⟨rfl,_,q⟩,h⟩
end
theorem s_nt {A B:Prop}(h:B):if (!true)=true then A else B:=by simpa using h
theorem s_nf {A B:Prop}(h:A):if (!false)=true then A else B:=by simpa using h
end L2
namespace L2
open PySem
inductive Tr where
 | mk (wd:Str) (note:Dt) (ps:List Tr)
noncomputable def Tr.wd:Tr->Str
 | .mk w _ _=>w
noncomputable def Tr.ps:Tr->List Tr
 | .mk _ _ ps=>ps
mutual
noncomputable def Tr.size:Tr->Nat
 | .mk _ _ ps=>1+E6 ps
noncomputable def E6:List Tr->Nat
 | []=>0
 | t::r=>t.size+E6 r
end
theorem Tr.size_eq (t:Tr):t.size=1+E6 t.ps:=by
 cases t with
 | mk w n ps=>rw [Tr.size];rfl
noncomputable def SameT (H H':Hp):Prop:=∀ b,(∀ xs,H b=some (.tup xs)->H' b=some (.tup xs))/\∀ o u,H b=some (.frz o u)->H' b=some (.frz o u)
theorem Same.t {H H':Hp}(e:Same H H'):SameT H H':=fun b=>⟨fun xs h=>e b _ h,fun o u h=>e b _ h⟩
theorem SameT.refl (H:Hp):SameT H H:=fun _=>⟨fun _ h=>h,fun _ _ h=>h⟩
theorem SameT.trans {H H1 H2:Hp}(a:SameT H H1)(b:SameT H1 H2):SameT H H2:=fun c=>⟨fun xs h=>(b c).1 xs ((a c).1 xs h),fun o u h=>(b c).2 o u ((a c).2 o u h)⟩
theorem SameT.set {H:Hp}{S:Addr}{zs:List V}{o:HO}(h:H S=some (.lst zs)):SameT H (upd H S o):=fun b =>
 ⟨fun xs e=>by rw [Ai (Eb e h (by intro z;cases z))];exact e,fun o' u e=>by rw [Ai (Eb e h (by intro z;cases z))];exact e⟩
theorem SameT.new {H:Hp}{S:Addr}{o:HO}(h:H S=none):SameT H (upd H S o):=(Same.upd h).t
theorem SameT.tup {K:Os}{H H':Hp}{a:Addr}{xs:List V}(e:SameT H H')(h:SqT K H a xs):SqT K H' a xs:=by
 rcases h with (h | ⟨o,h⟩) | h
 ·exact .inl (.inl ((e a).1 _ h))
 ·exact .inl (.inr ⟨o,(e a).2 _ _ h⟩)
 ·exact .inr h
noncomputable def IsN (K:Os)(H:Hp)(v:V)(n:Dt):Prop:=(Cz v=true/\n=.flat v)\/∃(a:Addr)(vs:List V),v=.ref a/\SqT K H a vs/\vs.all Cz=true/\n=.tup (vs.map .flat)
theorem IsN.same {K:Os}{H H':Hp}{v:V}{n:Dt}(h:IsN K H v n)(e:SameT H H'):IsN K H' v n:=by
 rcases h with h | ⟨a,vs,h1,h2,h3⟩
 ·exact .inl h
 ·exact .inr ⟨a,vs,h1,e.tup h2,h3⟩
inductive TrAt (K:Os)(H:Hp):V->Tr->Prop where
 | mk {a p:Addr} {wd:Str} {nv:V} {n:Dt} {vs:List V} {ts:List Tr} (q:SqT K H a [.str wd,nv,.ref p]) (hn:IsN K H nv n) (qp:SqT K H p vs) (l:vs.length=ts.length)
   (h:∀(j:Nat)(v:V)(t:Tr),vs[j]?=some v->ts[j]?=some t->TrAt K H v t):TrAt K H (.ref a) (.mk wd n ts)
theorem TrAt.sameT {K:Os}{H H':Hp}{v:V}{t:Tr}(h:TrAt K H v t)(e:SameT H H'):TrAt K H' v t:=by
 induction h with
 | mk q hn qp l _ ih=>exact .mk (e.tup q) (hn.same e) (e.tup qp) l ih
theorem TrAt.same {K:Os}{H H':Hp}{v:V}{t:Tr}(h:TrAt K H v t)(e:Same H H'):TrAt K H' v t:=h.sameT e.t
noncomputable def Al {α:Type}(R:V->α->Prop)(vs:List V)(xs:List α):Prop:=vs.length=xs.length/\∀(j:Nat)(v:V)(x:α),vs[j]?=some v->xs[j]?=some x->R v x
section
variable {α:Type}{R R':V->α->Prop}{vs:List V}{xs:List α}{v:V}{x:α}
theorem Al.mono (h:Al R vs xs)(f:∀ v x,R v x->R' v x):Al R' vs xs:=⟨h.1,fun j v x a b=>f v x (h.2 j v x a b)⟩
theorem Al.nil:Al R [] []:=⟨rfl,fun j v x a _=>by simp at a⟩
theorem Al.snoc (h:Al R vs xs)(a:R v x):Al R (vs++[v]) (xs++[x]):=by
 refine ⟨by simp [h.1],fun j y z e1 e2=>?_⟩
 by_cases hj:j < vs.length
 ·rw [Px hj] at e1
  rw [Px (by have:=h.1;omega)] at e2
  exact h.2 j y z e1 e2
 ·have hl:=(O2.mp e1).1
  rw [O4,Pt] at hl
  have hj':j=vs.length:=by omega
  subst hj'
  rw [Qf (Ow _),Sk] at e1
  rw [h.1,Qf (Ow _),Sk] at e2
  have e1:v=y:=by simpa using e1
  have e2:x=z:=by simpa using e2
  rw [<- e1,<- e2]
  exact a
theorem Al.split (h:Al R (vs++[v]) xs):∃ ys x,xs=ys++[x]/\Al R vs ys/\R v x:=by
 have hl:xs.length=vs.length+1:=by have:=h.1;simp at this;omega
 have hne:xs≠[]:=fun z=>by rw [z] at hl;simp at hl
 refine ⟨xs.dropLast,xs.getLast hne,(Vd hne).symm,⟨by simp [hl],fun j y z e1 e2=>?_⟩,?_⟩
 ·have hj:=(O2.mp e1).1
  refine h.2 j y z (by rw [Px hj];exact e1) ?_
  rw [List.getElem?_dropLast] at e2
  split at e2
  ·exact e2
  ·cases e2
 ·refine h.2 vs.length v _ (by simp) ?_
  rw [List.getLast_eq_getElem,Ou (by omega)]
  congr 1
  simp [hl]
theorem Al.last (h:Al R vs xs)(hn:vs≠[]):∃ vs' v xs' x,vs=vs'++[v]/\xs=xs'++[x]/\Al R vs' xs'/\R v x:=by
 have e:=(Vd hn).symm
 rw [e] at h
 obtain ⟨ys,x,e2,a,r⟩:=h.split
 exact ⟨_,_,ys,x,e,e2,a,r⟩
theorem Al.get {j:Nat}(h:Al R vs xs)(e:vs[j]?=some v):∃ x,xs[j]?=some x/\R v x:=by
 have hj:=(O2.mp e).1
 have hx:j < xs.length:=by have:=h.1;omega
 exact ⟨xs[j],Ou hx,h.2 j v _ e (Ou hx)⟩
theorem Al.get' {j:Nat}(h:Al R vs xs)(e:xs[j]?=some x):∃ v,vs[j]?=some v/\R v x:=by
 have hj:=(O2.mp e).1
 have hv:j < vs.length:=by have:=h.1;omega
 exact ⟨vs[j],Ou hv,h.2 j _ x (Ou hv) e⟩
end
noncomputable def Za2:Tr:=.mk "gap" (.flat .non) []
mutual
noncomputable def walk:List Nat->Tr->List (List Nat×Tr)
 | pl,.mk w n ps=>(pl,.mk w n ps)::B9 pl 0 ps
noncomputable def B9:List Nat->Nat->List Tr->List (List Nat×Tr)
 | _,_,[]=>[]
 | pl,i,t::r=>walk (pl++[i]) t++B9 pl (i+1) r
end
theorem Zmt (pl:List Nat)(t:Tr):walk pl t=(pl,t)::B9 pl 0 t.ps:=by
 cases t with
 | mk w n ps=>rw [walk];rfl
mutual
theorem G1:∀(pl:List Nat)(t:Tr),(walk pl t).length=t.size
 | pl,.mk w n ps=>by rw [walk,Tr.size,O3,Zb6 pl 0 ps];omega
theorem Zb6:∀(pl:List Nat)(i:Nat)(ts:List Tr),(B9 pl i ts).length=E6 ts
 | _,_,[]=>by rw [B9,E6];rfl
 | pl,i,t::r=>by rw [B9,E6,O4,G1,Zb6]
end
mutual
theorem K4:∀(pl:List Nat)(t:Tr)(x:List Nat×Tr),x∈walk pl t->x.1.length+1<=pl.length+t.size
 | pl,.mk w n ps,x,h=>by
  rw [walk] at h
  rw [Tr.size]
  rcases O1.mp h with h | h
  ·subst h;show pl.length+1<=_;omega
  ·have:=Zdv pl 0 ps x h;omega
theorem Zdv:∀(pl:List Nat)(i:Nat)(ts:List Tr)(x:List Nat×Tr),x∈B9 pl i ts->x.1.length<=pl.length+E6 ts
 | _,_,[],x,h=>by rw [B9] at h;cases h
 | pl,i,t::r,x,h=>by
  rw [B9] at h
  rw [E6]
  rcases Qt.mp h with h | h
  ·have:=K4 (pl++[i]) t x h
   rw [O4,Pt] at this
   omega
  ·have:=Zdv pl (i+1) r x h;omega
end
noncomputable def Bg (pl:List Nat):List V:=pl.map fun i=>V.int ((i:Nat):Int)
noncomputable def B6:List Nat->Nat->List Tr->List (List Nat×Tr)
 | _,_,[]=>[]
 | pl,i,t::r=>(pl++[i],t)::B6 pl (i+1) r
theorem Zb1 (pl:List Nat):∀(i:Nat)(ts:List Tr),(B6 pl i ts).length=ts.length
 | _,[]=>rfl
 | i,t::r=>by rw [B6,O3,O3,Zb1 pl (i+1) r]
theorem Zb9 (pl:List Nat):∀(i j:Nat)(ts:List Tr),(B6 pl i ts)[j]?=(ts[j]?).map fun t=>(pl++[i+j],t)
 | _,_,[]=>by simp [B6]
 | i,0,t::r=>by simp [B6]
 | i,j+1,t::r=>by
  rw [B6,List.getElem?_cons_succ,List.getElem?_cons_succ,Zb9 pl (i+1) j r]
  congr 1
  funext t
  rw [show i+1+j=i+(j+1) by omega]
theorem Zch (pl:List Nat):∀(i:Nat)(ts:List Tr),(B6 pl i ts).flatMap (fun x=>walk x.1 x.2)=B9 pl i ts
 | _,[]=>by simp [B6,B9]
 | i,t::r=>by rw [B6,List.flatMap_cons,B9,Zch pl (i+1) r]
noncomputable def Fg (st:List (List Nat×Tr)):List (List Nat×Tr):=st.reverse.flatMap fun x=>walk x.1 x.2
theorem Zpi:Fg []=[]:=rfl
theorem Zai (st:List (List Nat×Tr))(x:List Nat×Tr):Fg (st++[x])=x::Fg (st++(B6 x.1 0 x.2.ps).reverse):=by
 unfold Fg
 rw [Um,Um,List.reverse_reverse,Uo,Uo,Zch]
 rw [List.reverse_singleton,List.flatMap_singleton,Zmt]
 rfl
noncomputable def D6 (st:List (List Nat×Tr)):Nat:=(Fg st).length
theorem Zky (st:List (List Nat×Tr))(x:List Nat×Tr):D6 (st++(B6 x.1 0 x.2.ps).reverse) < D6 (st++[x]):=by
 unfold D6
 rw [Zai]
 exact Nat.lt_succ_self _
theorem Zml (st:List (List Nat×Tr)):st.length<=D6 st:=by
 unfold D6 Fg
 have:∀ l:List (List Nat×Tr),l.length<=(l.flatMap fun x=>walk x.1 x.2).length:=fun l=>by
  induction l with
  | nil=>simp
  | cons x r ih =>
   rw [List.flatMap_cons,O4,G1,O3]
   have:=x.2.size_eq
   omega
 have:=this st.reverse
 rw [Up] at this
 exact this
theorem Zlt {α:Type}{l:List α}{n i:Nat}{x:α}(hl:l.length=n)(hi:i < n)(hx:l[n - 1 - i]?=some x):(l.drop (n - (i+1))).reverse=(l.drop (n - i)).reverse++[x]:=by
 have hk:n - 1 - i < l.length:=by omega
 have e:l.drop (n - (i+1))=x::l.drop (n - i):=by
  have h1:n - (i+1)=n - 1 - i:=by omega
  rw [h1,Qo hk,show n - 1 - i+1=n - i by omega]
  rw [Ou hk] at hx
  rw [Pb hx]
 rw [e,List.reverse_cons]
mutual
theorem M7:∀(pl:List Nat)(t:Tr),walk pl t=(walk [] t).map fun x=>(pl++x.1,x.2)
 | pl,.mk w n ps=>by
  have e:=Zcw pl [] 0 ps
  rw [Qa] at e
  rw [walk,walk,Ql,e]
  simp
theorem Zcw:∀(pl q:List Nat)(i:Nat)(ts:List Tr),B9 (pl++q) i ts=(B9 q i ts).map fun x=>(pl++x.1,x.2)
 | _,_,_,[]=>by rw [B9,B9];rfl
 | pl,q,i,t::r=>by
  rw [B9,B9,Qb,<- Zcw pl q (i+1) r,M7 (pl++q++[i]) t,M7 (q++[i]) t]
  simp
end
theorem Al.append {α:Type}{R:V->α->Prop}{vs ws:List V}{xs ys:List α}(h:Al R vs xs)(h':Al R ws ys):Al R (vs++ws) (xs++ys):=by
 refine ⟨by simp [h.1,h'.1],fun j v x e1 e2=>?_⟩
 by_cases hj:j < vs.length
 ·rw [Px hj] at e1
  rw [Px (by have:=h.1;omega)] at e2
  exact h.2 j v x e1 e2
 ·rw [Qf (by omega)] at e1
  rw [Qf (by have:=h.1;omega),<- h.1] at e2
  exact h'.2 _ v x e1 e2
end L2
namespace L2
open PySem PySem.Spec PyProof.Rows
section
open PySem.AutoSeq1
theorem Znd (l:Addr)(items:Array Value)(n:Nat)(b:Addr)(items2:Array Value)(n2:Nat)(od:Option Addr)(sl:Array (Option Value))(hs0:¬(!items.isEmpty && Rh (items.size+items2.size))=true)(hs1:items.size<=sizeLine)(hs2:items.size+items2.size<=sizeLine+1) :
  Meets (Builtin.«list.extend» ⟨[.ref l,.ref b],[]⟩) (fun _ R s=>s.heap.get? l=some { cls:=.type "list",dict:=none,data:=.seq items n,slots:=#[] }/\s.heap.get? b=some { cls:=.type "tuple",dict:=od,data:=.seq items2 n2,slots:=sl }/\R (.ok (.ret Value.none)) { s with heap:=s.heap.update l (Pq fun x=>x++items2),toks:=s.toks }) :=
 .of_wp fun prog w A R s h=>by
  obtain ⟨hp,g,d,tk,os⟩:=s;obtain ⟨hl,hb,h⟩:=h;have f1:=AutoSeq1.idx_int;have f2:=AutoSeq1.sub_tuple_tuple;have f3:=AutoSeq1.sub_list_list;have f4:=AutoSeq1.sub_tuple_list;have f5:=AutoSeq1.sub_list_tuple;
  have hz':(items++items2).size<=sizeLine+1:=by rw [Array.size_append];exact hs2
  wp_walk using (Sc hl rfl (hz:=hs1) (_hz':=hz')),AutoSeq1.wpAny_loadPart' hl,AutoSeq1.wpAny_loadPart' hb;exact ⟨_,rfl,h⟩
end
noncomputable def Zd1 (K:Os):V->List V->Hp->VK->Prop:=fun x vs H Q=>∃ l b xs zs,x=.ref l/\vs=[.ref b]/\H l=some (.lst xs)/\SqT K H b zs/\xs.length+zs.length<=sizeLine/\Q .non (upd H l (.lst (xs++zs)))
section
variable {X:Cx}
theorem Zot:MtM X "list.extend" (Zd1 X.K):=by
 intro pins s σ H x vs v us Q I rx rv h
 obtain ⟨l,b,xs,zs,rfl,rfl,hH,hB,hz,q⟩:=h
 cases rx
 obtain ⟨u,rfl,ru⟩:=rv.one
 cases ru
 obtain ⟨z,its,n,r,hl,e⟩:=I.lstM hH
 obtain ⟨its2,r2,⟨o2,e2,hc2,n2,hd2⟩,hz2⟩:=I.tuple hB
 obtain ⟨oc,od,odata,sl⟩:=o2
 simp only at hc2 hd2
 subst hc2 hd2
 have hl2:=r2.length
 have hsz:its.toArray.size+its2.toArray.size<=sizeLine:=by rw [Ox,Ox];omega
 have hlong:¬ (!its.toArray.isEmpty && Rh (its.toArray.size+its2.toArray.size))=true:=by
  rw [Zah hsz,Bool.and_false]
  exact O6
 refine Ra F.slot_list_extend ⟨_,e,rfl⟩ F.entry_list_extend (F.args_list_extend_2 _ _)
  (Znd l its.toArray n b its2.toArray n2 od sl hlong (by rw [Ox];omega) (by omega)) ⟨e,e2,?_⟩
 refine ⟨.non,_,I.lset (its':=its++its2) hH e (by simp) (r.append r2) ?_,rfl,q⟩
 rw [O4]
 omega
noncomputable def rIsB:R2:=fun x y H Q=>∃ b,y=.bl b/\Q (.bl (decide (x=.bl b))) H
theorem Zhg:OpR X (compareOp .Is) rIsB:=by
 intro pins s σ H x y v u Q I rx ry h
 obtain ⟨b,rfl,q⟩:=h
 cases ry
 refine wpAny_is_plain ?_ (Bq I q ?_)
 ·cases x <;> first | (cases rx;rfl) | (obtain ⟨t,rfl⟩:=rx;rfl)
 ·cases x <;> first
   | (cases rx;rfl)
   | (obtain ⟨t,rfl⟩:=rx;rfl)
   | (rename_i c;cases rx;cases c <;> cases b <;> rfl)
end
section
variable {X:Cx}(P:Program)(w:World)(K:Os)
theorem Zp6 (hK:X.K=K:=by rfl):MtM X "list.extend" (Zd1 K):=by subst hK;exact Zot
end
theorem s_chain {r r':R2}{ta tb tc:TE}{σ:St}{H:Hp}{Q:VK}(h:ta σ H fun x H1=>tb σ H1 fun y H2=>r x y H2 fun z H3=>∃ k,z=.bl k/\(if k=true then tc σ H3 fun w' H4=>r' y w' H4 Q else Q (.bl false) H3)):Nc r r' ta tb tc σ H Q:=h
theorem Zos:typeLookup (.type "list_reverseiterator") "__len__" = pure none:=by rw [Q6,Qy];kernel_rfl
theorem Zju:typeLookup (.type "list_reverseiterator") "__length_hint__" = pure (some (.builtin "list_reverseiterator.__length_hint__")):=by rw [Q6,Qy];kernel_rfl
theorem Zlc {prog:Program}{w:World}{A:Around}{E:Value->Shared->Prop}{s:Shared}{it:Addr}{Q:Bool->Shared->Prop}(hT:s.TypeIs (.ref it) "list_reverseiterator")(h:Q false s):wpAny (model prog w) A (Rz (.ref it)) Q E s:=by
 unfold Rz
 refine Ot (Sb hT Zos ?_)
 show wpAny _ _ (specialOf (Value.ref it) (O8 "__length_hint__") >>= _) _ _ _
 refine Ot (Sb hT Zju ?_)
 (generalize hid:("list_reverseiterator.__length_hint__" : String)=id0;(fail_if_success (clear hid id0));wp_delta;rw [show splitId id0=some ("list_reverseiterator", "__length_hint__") from by subst hid;decide +kernel];subst hid)
 refine Ot (Tj (b:=true) hT (by rw [isSubtype_type];kernel_rfl) ?_)
 exact Ov h
noncomputable def JRev (H0:Hp)(it a:Addr)(xs:List V):Nat->List V->Hp->Heap->Prop:=fun i ys H h =>
 i<=xs.length/\h.IsRevIter it a ((xs.length:Int) - 1 - (i:Int))/\H it=none/\ys=xs.reverse.take i/\Same H0 H
theorem Zlh {X:Cx}{pins:List (Addr×Obj)}{σ:St}{H0:Hp}{it a:Addr}{xs:List V}(fi:FpOk X pins H0 it)(hq:SqL X.K H0 a xs):Src X pins σ it "list_reverseiterator" xs.length H0 (JRev H0 it a xs) where
 ty:=fun i ys H h j=>by
  obtain ⟨o,e,c,_⟩:=j.2.1
  exact ⟨o,e,c⟩
 nl:=by decide
 hint:=⟨_,fun A s Q E hT h=>Zlc hT h⟩
 self:=fun A s ys H Q E j q=>Uj j.2.1 q
 keep:=fun i ys H h h' S zs zs' h0 hS j k al=>by
  obtain ⟨j1,j2,j3,j4,j5⟩:=j
  have ne1:it≠S:=fun z=>by rw [z,hS] at j3;cases j3
  exact ⟨j1,j2.at fun o e=>k it o ne1 e,by rw [Ai ne1];exact j3,j4,j5.over h0⟩
 fresh:=fun i ys H h j=>j.2.2.1
 item:=fun A i s H ys E hh hi I j=>by
  obtain ⟨j1,j2,j3,j4,j5⟩:=j
  have hqH:=j5.seq hq
  obtain ⟨its,rv,p,hz⟩:=I.list hqH
  have hx:xs[xs.length - 1 - i]?=some (xs[xs.length - 1 - i]'(by omega)):=Ou (by omega)
  obtain ⟨u,hu,ru⟩:=rv.get hx
  obtain ⟨f0,f1,f2,f3,f4,f5⟩:=fi.of j3
  have e:(xs.length:Int) - 1 - (i:Int)=((xs.length - 1 - i:Nat):Int):=by omega
  have hit:=j2
  rw [e] at hit
  refine wpAny_pyNext_rev_item hit p.isList (x:=u) (by simpa using hu) fun h' st' sb=>?_
  have I1:Inv X pins σ H { s with heap:=h' }:=I.turned (t':=s.toks) (fun b o hb e=>(sb.2 b hb).trans e) f0 f1 f3 f4 f5
  have e2:((xs.length - 1 - i:Nat):Int) - 1=(xs.length:Int) - 1 - ((i+1:Nat):Int):=by omega
  rw [e2] at st'
  refine ⟨u,_,H,rfl,ru,I1,⟨hi,st',j3,?_,j5⟩,fun S zs e=>e⟩
  rw [j4,Q3]
  congr 1
  rw [List.getElem?_reverse (by simpa using hi),hx]
  rfl
 done:=fun A s H ys E hh I j=>by
  obtain ⟨j1,j2,j3,j4,j5⟩:=j
  obtain ⟨f0,f1,f2,f3,f4,f5⟩:=fi.of j3
  have e:(xs.length:Int) - 1 - (xs.length:Int)=-1:=by omega
  have hit:=j2
  rw [e] at hit
  exact wpAny_pyNext_rev_end hh hit fun h' eb=>⟨rfl,I.turned (t':=s.toks) (fun b o hb e=>eb b o hb e) f0 f1 f3 f4 f5⟩
section
variable {X:Cx}
noncomputable def Mz (K:Os)(ta:TA):TE:=fun σ H Q=>ta σ H fun vs H1=>∃ a xs,vs=[.ref a]/\SqL K H1 a xs /\
 ∀(S:Addr)(H2:Hp),H1 S=none->Same H1 H2->H2 S=some (.lst xs.reverse)->Q (.ref S) H2
theorem Zqa {e:Expr}{ta:TA}{p p2 pos pos2:Pos}(hg:Gl X "list")(hm:X.mg "list" = none)(hg2:Gl X "reversed")(hm2:X.mg "reversed" = none)(ha:QA X [e] ta)(hc:X.calm=true:=by rfl)
  (hs:starEach [.Call (.Name "reversed" p2) [e] [] pos2] X.env=[(false,eval (.Call (.Name "reversed" p2) [e] [] pos2) X.env)]:=by rfl) (hs2:starEach [e] X.env=[(false,eval e X.env)]:=by rfl) :
  QE X (.Call (.Name "list" p) [.Call (.Name "reversed" p2) [e] [] pos2] [] pos) (Mz X.K ta):=by
 refine ⟨fun pins s σ H Q I h=>?_⟩
 refine Call_ (Dj I hg hm Om (P6 ?_ hs rfl))
 rw [hs]
 show wpAny _ _ (spliced ((false,eval (.Call (.Name "reversed" p2) [e] [] pos2) X.env)::[])) _ _ s
 refine Q1 ?_
 refine Call_ (Dj I hg2 hm2 Zfh (P6 (Aj (ha.run pos2 pins s σ H _ I h) fun us s1 zq=>?_) hs2 rfl))
 obtain ⟨vs,H1,I1,r1,q1⟩:=zq
 obtain ⟨a,xs,e1,hq,q⟩:=q1
 subst e1
 cases r1 with
 | cons r rr =>
  cases rr
  cases r
  obtain ⟨its,rv,pl,hz⟩:=I1.list hq
  have hl:=rv.length
  refine call_reversed_list pl.isList ?_
  refine Rn ?_
  have st0:(s1.heap.push (T3 a (((its.toArray).size:Int) - 1))).IsRevIter s1.heap.objs.size a ((xs.length:Int) - 1 - ((0:Nat):Int)):=by
   refine ⟨_,Pc _ rfl,rfl,?_⟩
   have e:((its.toArray).size:Int) - 1=(xs.length:Int) - 1 - ((0:Nat):Int):=by simp [hl]
   rw [<- e]
   rfl
  have I2:Inv X pins σ H1 { s1 with heap:=s1.heap.push (T3 a (((its.toArray).size:Int) - 1)) }:=I1.kept (t':=s1.toks) fun b o e=>Oz _ e
  have fi:=I1.fpOk (b:=s1.heap.objs.size) (Ow _) (I1.hok.fresh (Ow _))
  have C:=Zlh (X:=X) (pins:=pins) (σ:=σ) (H0:=H1) (it:=s1.heap.objs.size) (a:=a) (xs:=xs) fi hq
  refine Ol C (by omega) (I1.ok.hd hc) I2 ⟨Ph _,st0,fi.1,rfl,Same.refl _⟩ (fun S hge hS h2 k2=>?_) fun S H' ys hS hS' hl' hj=>?_
  ·refine ⟨Ph _,st0.at fun o e=>k2 _ _ e,?_,rfl,Same.upd hS⟩
   rw [Ai (show s1.heap.objs.size≠S from fun z=>?_)]
   ·exact fi.1
   ·have hge:(s1.heap.push (T3 a (((its.toArray).size:Int) - 1))).objs.size<=S:=hge
    rw [Pu] at hge
    omega
  ·obtain ⟨h,j⟩:=hj
   obtain ⟨_,_,_,j4,j5⟩:=j
   rw [Qx (by simp)] at j4
   subst j4
   exact q S H' hS j5 hS'
theorem Zmz (K:Os){e:Expr}{ta:TA}{p p2 pos pos2:Pos}(hg:Gl X "list")(hm:X.mg "list" = none)(hg2:Gl X "reversed")(hm2:X.mg "reversed" = none)(ha:QA X [e] ta)(hK:X.K=K:=by rfl)(hc:X.calm=true:=by rfl)
  (hs:starEach [.Call (.Name "reversed" p2) [e] [] pos2] X.env=[(false,eval (.Call (.Name "reversed" p2) [e] [] pos2) X.env)]:=by rfl) (hs2:starEach [e] X.env=[(false,eval e X.env)]:=by rfl) :
  QE X (.Call (.Name "list" p) [.Call (.Name "reversed" p2) [e] [] pos2] [] pos) (Mz K ta):=by subst hK;exact Zqa hg hm hg2 hm2 ha hc hs hs2
theorem s_listrev {K:Os}{ta:TA}{σ:St}{H:Hp}{Q:VK}(h:ta σ H fun vs H1=>∃ a xs,vs=[.ref a]/\SqL K H1 a xs/\∀(S:Addr)(H2:Hp),H1 S=none->Same H1 H2->H2 S=some (.lst xs.reverse)->Q (.ref S) H2):Mz K ta σ H Q:=h
theorem Zke {l b:Addr}{xs zs:List V}{H:Hp}{Q:VK}(e:H l=some (.lst xs))(e2:H b=some (.lst zs))(hz:xs.length+zs.length<=sizeLine)(h:Q .non (upd H l (.lst (xs++zs)))):Zcj (.ref l) [.ref b] H Q:=⟨l,b,xs,zs,rfl,rfl,e,e2,hz,h⟩
theorem Zac:∀{ns:List Int}{us:List Value},Vals (ns.map V.int) us->∃ xs:List (Int×Tok),us=xs.map (fun p=>Value.int p.1 p.2)/\xs.map (·.1)=ns
 | [],_,.nil=>⟨[],rfl,rfl⟩
 | n::ns,_,.cons r t=>by
  obtain ⟨u,rfl⟩:=r
  obtain ⟨xs,e1,e2⟩:=Zac t
  exact ⟨(n,u)::xs,by rw [e1];rfl,by simp [e2]⟩
end
structure ZA (z TI TO i1 i2:Addr)(fp1 fp2:List Addr):Prop where
 TIz:TI≠z
 TOz:TO≠z
 TITO:TI≠TO
 z1:z ∉ fp1
 z2:z ∉ fp2
 TI1:TI≠i1
 TI2:TI≠i2
 TO1:TO ∉ fp1
 TO2:TO ∉ fp2
 m1:i1∈fp1
 m2:i2∈fp2
 n1:i1 ∉ fp2
 n2:i2 ∉ fp1
theorem ZA.i1z {z TI TO i1 i2:Addr}{fp1 fp2:List Addr}(D:ZA z TI TO i1 i2 fp1 fp2):i1≠z:=fun e=>D.z1 (e ▸ D.m1)
theorem ZA.i2z {z TI TO i1 i2:Addr}{fp1 fp2:List Addr}(D:ZA z TI TO i1 i2 fp1 fp2):i2≠z:=fun e=>D.z2 (e ▸ D.m2)
theorem ZA.TOi1 {z TI TO i1 i2:Addr}{fp1 fp2:List Addr}(D:ZA z TI TO i1 i2 fp1 fp2):TO≠i1:=fun e=>D.TO1 (e ▸ D.m1)
theorem ZA.TOi2 {z TI TO i1 i2:Addr}{fp1 fp2:List Addr}(D:ZA z TI TO i1 i2 fp1 fp2):TO≠i2:=fun e=>D.TO2 (e ▸ D.m2)
theorem Cb {prog:Program}{w:World}{A:Around}{it c:Addr}{fp:List Addr}{n i:Nat}{P:Nat->Value->Prop}{St:Nat->Heap->Prop}(D:Draws prog w A it fp n P St){h h':Heap}(st:St i h)(e:O7 c h h')(hc:c ∉ fp):St i h' :=
 D.frame i h h' st fun b hb o eo=>e.extBut b o (fun z=>hc (z ▸ hb)) eo
section
variable {prog:Program}{w:World}{A:Around}{E:Value->Shared->Prop}{s:Shared}{z TI TO i1 i2:Addr}{fp1 fp2:List Addr}{n1 n2 i:Nat}{P1 P2:Nat->Value->Prop}{St1 St2:Nat->Heap->Prop}{a b:Value}
theorem Zhx {Q:Value->Shared->Prop}(D1:Draws prog w A i1 fp1 n1 P1 St1)(D2:Draws prog w A i2 fp2 n2 P2 St2)(D:ZA z TI TO i1 i2 fp1 fp2)(hz:IsZip s.heap z TI TO .none)(hTI:IsPair s.heap TI (.ref i1) (.ref i2))(hTO:IsPair s.heap TO a b)
  (st1:St1 i s.heap) (st2:St2 i s.heap) (l1:i < n1) (l2:i < n2)
  (hQ:∀ x y h' tk,P1 i x->P2 i y->IsZip h' z TI TO (rawInt s.heap.objs.size)->IsPair h' TO x y->St1 (i+1) h'->St2 (i+1) h'->IsPair h' s.heap.objs.size x y->h'.objs.size=s.heap.objs.size+1 ->
   (∀ c o,c≠z->c≠TO->c≠i1->c≠i2->s.heap.get? c=some o->h'.get? c=some o)->Q (.ref s.heap.objs.size) { s with heap:=h',toks:=tk }) :
  wpAny (model prog w) A (Builtin.«zip.__next__» ⟨[.ref z],[]⟩) (fun fin s'=>∃ v,fin=.done (.ret v)/\Q v s') E s:=by
 show wpAny _ _ (field (.ref z) 2 >>= _) _ _ s
 refine Ot (O9 hz rfl (x:=Value.bool false) rfl ?_)
 show wpAny _ _ (field (.ref z) 3 >>= _) _ _ s
 refine Ot (O9 hz rfl (x:=Value.ref TI) rfl (Ot (Qc hTI rfl ?_)))
 show wpAny _ _ (Qe (.ref z) >>= _) _ _ s
 refine Ot ?_
 unfold Qe
 refine Ot (O9 hz rfl (x:=Value.none) rfl (Ov ?_))
 simp only [if_true]
 refine Ot (Q9 (Ot (O9 hz rfl (x:=Value.ref TO) rfl ?_)))
 refine Ot (Qi hz (by simp) fun h₁ hz₁ e1=>?_)
 replace hz₁:IsZip h₁ z TI TO Value.ellipsis:=hz₁
 refine Ot ?_
 simp only [List.zipIdx_cons,List.zipIdx_nil,Rq,Se]
 refine Ot (Ot (T0 ?_))
 show wpAny _ _ (P3 (.ref i1) >>= _) _ _ _
 refine Ot (D1.item i _ _ _ l1 (Cb D1 st1 e1 D.z1) fun x h₂ tk₂ px s12 e2=>Ov ?_)
 replace e2:O7 i1 h₁ h₂:=e2
 have p2:IsPair h₂ TO a b:=e2.extBut _ _ D.TOi1 (e1.extBut _ _ D.TOz hTO)
 refine Ot (Qc p2 rfl (Ot (Uk p2 fun h₃ p3 e3=>?_)))
 replace p3:IsPair h₃ TO x b:=p3
 replace e3:O7 TO h₂ h₃:=e3
 refine Ot (Ua (Ov (Ot (Ot (T0 ?_)))))
 show wpAny _ _ (P3 (.ref i2) >>= _) _ _ _
 have s22:St2 i h₃:=Cb D2 (Cb D2 (Cb D2 st2 e1 D.z2) e2 D.n1) e3 D.TO2
 refine Ot (D2.item i _ _ _ l2 s22 fun y h₄ tk₄ py s24 e4=>Ov ?_)
 replace e4:O7 i2 h₃ h₄:=e4
 have p4:IsPair h₄ TO x b:=e4.extBut _ _ D.TOi2 p3
 refine Ot (Qc p4 rfl (Ot (Uk p4 fun h₅ p5 e5=>?_)))
 replace p5:IsPair h₅ TO x y:=p5
 replace e5:O7 TO h₄ h₅:=e5
 refine Ot (Ua (Ov (Ov (Ot (Qc p5 rfl (Ot (wpAny_newTuple ?_)))))))
 have sz:h₅.objs.size=s.heap.objs.size:=by rw [e5.1,e4.1,e3.1,e2.1,e1.1]
 have z5:IsZip h₅ z TI TO Value.ellipsis:=e5.extBut _ _ D.TOz.symm (e4.extBut _ _ D.i2z.symm (e3.extBut _ _ D.TOz.symm (e2.extBut _ _ D.i1z.symm hz₁)))
 have k5:∀ c o,c≠z->c≠TO->c≠i1->c≠i2->s.heap.get? c=some o->h₅.get? c=some o:=fun c o c1 c2 c3 c4 e=>e5.extBut _ _ c2 (e4.extBut _ _ c4 (e3.extBut _ _ c2 (e2.extBut _ _ c3 (e1.extBut _ _ c1 e))))
 have t1:St1 (i+1) h₅:=Cb D1 (Cb D1 (Cb D1 s12 e3 D.TO1) e4 D.n2) e5 D.TO1
 have t2:St2 (i+1) h₅:=Cb D2 s24 e5 D.TO2
 have zlt:z < h₅.objs.size:=Oy z5
 show wpAny _ _ (U8 (.ref z) (.ref h₅.objs.size) >>= _) _ _ _
 refine Ot ?_
 unfold U8
 have z6:IsZip (h₅.push { cls:=.type "tuple",data:=.seq #[x,y] }) z TI TO Value.ellipsis:=Oz _ z5
 refine Ot (Qi z6 (by simp) fun h₇ z7 e7=>?_)
 replace z7:IsZip h₇ z TI TO (rawInt h₅.objs.size):=z7
 refine Qi z7 (by simp) fun h₈ z8 e8=>?_
 replace z8:IsZip h₈ z TI TO (rawInt h₅.objs.size):=z8
 have up:∀ c o,c≠z->h₅.get? c=some o->h₈.get? c=some o:=fun c o c1 e=>e8.extBut _ _ c1 (e7.extBut _ _ c1 (Oz _ e))
 have t8:IsPair h₈ h₅.objs.size x y:=e8.extBut _ _ (P0 zlt) (e7.extBut _ _ (P0 zlt) (Pc _ rfl))
 have Hh:h₈.objs.size=h₅.objs.size+1:=by rw [e8.1,e7.1,Pu]
 rw [sz] at z8 t8 Hh
 refine Ov ⟨_,rfl,?_⟩
 show Q (.ref h₅.objs.size) _
 rw [sz]
 exact hQ x y h₈ tk₄ px py z8 (up _ _ D.TOz p5) (D1.frame _ _ _ t1 fun c hc o e=>up c o (fun q=>D.z1 (q ▸ hc)) e) (D2.frame _ _ _ t2 fun c hc o e=>up c o (fun q=>D.z2 (q ▸ hc)) e) t8 Hh fun c o c1 c2 c3 c4 e=>up c o c1 (k5 c o c1 c2 c3 c4 e)
theorem Zlf {Q:Fin->Shared->Prop}(D1:Draws prog w A i1 fp1 n1 P1 St1)(D2:Draws prog w A i2 fp2 n2 P2 St2)(D:ZA z TI TO i1 i2 fp1 fp2)(hz:IsZip s.heap z TI TO .none)(hTI:IsPair s.heap TI (.ref i1) (.ref i2))(hTO:IsPair s.heap TO a b)
  (st1:St1 i s.heap) (st2:St2 i s.heap) (hend:i=n1\/(i < n1/\i=n2))
  (hE:∀ h' e tk,(∀ c o,c≠z->c≠TO->c≠i1->c≠i2->s.heap.get? c=some o->h'.get? c=some o)->(∃ o,h'.get? e=some o/\o.cls=.type "StopIteration")->E (.ref e) { s with heap:=h',toks:=tk }) :
  wpAny (model prog w) A (Builtin.«zip.__next__» ⟨[.ref z],[]⟩) Q E s:=by
 show wpAny _ _ (field (.ref z) 2 >>= _) _ _ s
 refine Ot (O9 hz rfl (x:=Value.bool false) rfl ?_)
 show wpAny _ _ (field (.ref z) 3 >>= _) _ _ s
 refine Ot (O9 hz rfl (x:=Value.ref TI) rfl (Ot (Qc hTI rfl ?_)))
 show wpAny _ _ (Qe (.ref z) >>= _) _ _ s
 refine Ot ?_
 unfold Qe
 refine Ot (O9 hz rfl (x:=Value.none) rfl (Ov ?_))
 simp only [if_true]
 refine Ot (Q9 (Ot (O9 hz rfl (x:=Value.ref TO) rfl ?_)))
 refine Ot (Qi hz (by simp) fun h₁ hz₁ e1=>?_)
 replace hz₁:IsZip h₁ z TI TO Value.ellipsis:=hz₁
 refine Ot ?_
 simp only [List.zipIdx_cons,List.zipIdx_nil,Rq,Se]
 refine Ot (Ot (T0 ?_))
 show wpAny _ _ (P3 (.ref i1) >>= _) _ _ _
 rcases hend with rfl | ⟨l1,rfl⟩
 ·refine Ot (D1.done _ _ _ (Cb D1 st1 e1 D.z1) fun h₂ e e2 he=>?_)
  obtain ⟨oe,hoe,hce⟩:=he
  replace e2:Rv i1 h₁ h₂:=e2
  have z2:IsZip h₂ z TI TO Value.ellipsis:=e2 _ _ D.i1z.symm hz₁
  have hez:e≠z:=fun x=>by subst x;rw [z2] at hoe;cases hoe;simp at hce
  refine Qi z2 (by simp) fun h₃ _ e3=>hE h₃ e s.toks (fun c o c1 _ c3 _ x=>e3.extBut _ _ c1 (e2 _ _ c3 (e1.extBut _ _ c1 x))) ⟨oe,e3.extBut _ _ hez hoe,hce⟩
 ·refine Ot (D1.item i _ _ _ l1 (Cb D1 st1 e1 D.z1) fun x h₂ tk₂ px s12 e2=>Ov ?_)
  replace e2:O7 i1 h₁ h₂:=e2
  have p2:IsPair h₂ TO a b:=e2.extBut _ _ D.TOi1 (e1.extBut _ _ D.TOz hTO)
  refine Ot (Qc p2 rfl (Ot (Uk p2 fun h₃ p3 e3=>?_)))
  replace e3:O7 TO h₂ h₃:=e3
  refine Ot (Ua (Ov (Ot (Ot (T0 ?_)))))
  show wpAny _ _ (P3 (.ref i2) >>= _) _ _ _
  have s22:St2 i h₃:=Cb D2 (Cb D2 (Cb D2 st2 e1 D.z2) e2 D.n1) e3 D.TO2
  refine Ot (D2.done _ _ _ s22 fun h₄ e e4 he=>?_)
  obtain ⟨oe,hoe,hce⟩:=he
  replace e4:Rv i2 h₃ h₄:=e4
  have z4:IsZip h₄ z TI TO Value.ellipsis:=e4 _ _ D.i2z.symm (e3.extBut _ _ D.TOz.symm (e2.extBut _ _ D.i1z.symm hz₁))
  have hez:e≠z:=fun x=>by subst x;rw [z4] at hoe;cases hoe;simp at hce
  refine Qi z4 (by simp) fun h₅ _ e5=>hE h₅ e tk₂ (fun c o c1 c2 c3 c4 x=>e5.extBut _ _ c1 (e4 _ _ c4 (e3.extBut _ _ c2 (e2.extBut _ _ c3 (e1.extBut _ _ c1 x))))) ⟨oe,e5.extBut _ _ hez hoe,hce⟩
theorem Zc7 {Q:Option Value->Shared->Prop}(D1:Draws prog w A.in1 i1 fp1 n1 P1 St1)(D2:Draws prog w A.in1 i2 fp2 n2 P2 St2)(D:ZA z TI TO i1 i2 fp1 fp2)(hz:IsZip s.heap z TI TO .none)(hTI:IsPair s.heap TI (.ref i1) (.ref i2))(hTO:IsPair s.heap TO a b)
  (st1:St1 i s.heap) (st2:St2 i s.heap) (l1:i < n1) (l2:i < n2)
  (hQ:∀ x y h' tk,P1 i x->P2 i y->IsZip h' z TI TO (rawInt s.heap.objs.size)->IsPair h' TO x y->St1 (i+1) h'->St2 (i+1) h'->IsPair h' s.heap.objs.size x y->h'.objs.size=s.heap.objs.size+1 ->
   (∀ c o,c≠z->c≠TO->c≠i1->c≠i2->s.heap.get? c=some o->h'.get? c=some o)->Q (some (.ref s.heap.objs.size)) { s with heap:=h',toks:=tk }) :
  wpAny (model prog w) A (pyNext (.ref z)) Q E s:=by
 have hT:s.TypeIs (.ref z) "zip" := ⟨_,hz,rfl⟩
 unfold pyNext
 exact Ot (Rs (Qg (name:=O8 "__next__") hT Qp
  (Qj Qp hT Tc (Zhx D1 D2 D hz hTI hTO st1 st2 l1 l2 fun x y h' tk a1 a2 a3 a4 a5 a6 a7 a8 a9=>Ov (hQ x y h' tk a1 a2 a3 a4 a5 a6 a7 a8 a9)) (Sy _))))
theorem Zed {Q:Option Value->Shared->Prop}(D1:Draws prog w A.in1 i1 fp1 n1 P1 St1)(D2:Draws prog w A.in1 i2 fp2 n2 P2 St2)(D:ZA z TI TO i1 i2 fp1 fp2)(hz:IsZip s.heap z TI TO .none)(hTI:IsPair s.heap TI (.ref i1) (.ref i2))(hTO:IsPair s.heap TO a b)
  (st1:St1 i s.heap) (st2:St2 i s.heap) (hend:i=n1\/(i < n1/\i=n2))
  (hQ:∀ h' tk,(∀ c o,c≠z->c≠TO->c≠i1->c≠i2->s.heap.get? c=some o->h'.get? c=some o)->Q none { s with heap:=h',toks:=tk }):wpAny (model prog w) A (pyNext (.ref z)) Q E s:=by
 have hT:s.TypeIs (.ref z) "zip" := ⟨_,hz,rfl⟩
 unfold pyNext
 refine Ot (Rs (Qg (name:=O8 "__next__") hT Qp
  (Qj Qp hT Tc (Zlf D1 D2 D hz hTI hTO st1 st2 hend fun h' e tk hk he=>?_) (Sy _))))
 obtain ⟨o,ho,hc⟩:=he
 exact Ot (Tj (T := "StopIteration") (b:=true) ⟨o,ho,hc⟩ isSubtype_stop (Ov (hQ _ _ hk)))
end
section
variable {prog:Program}{w:World}{A:Around}{E:Value->Shared->Prop}{s:Shared}
end
section
variable {X:Cx}{pins:List (Addr×Obj)}{σ:St}{H:Hp}{s:Shared}{h':Heap}
theorem Inv.turnedL {t':Nat}{fp:List Addr}(I:Inv X pins σ H s)(k:∀ b o,b ∉ fp->s.heap.get? b=some o->h'.get? b=some o)(f:∀ b∈fp,FpOk X pins H b):Inv X pins σ H { s with heap:=h',toks:=t' }:=by
 have nit:∀ b u,H b=some u->b ∉ fp:=fun b u e hb=>by rw [(f b hb).1] at e;exact nomatch e
 refine I.step (g':=s.gens) (d':=s.drawn) (ch:=fp) (fun b hb=>?_) (fun b o _ _ hc e _=>k b o hc e) (fun b o _ _ hc e _=>⟨o.slots,k b o hc e⟩) (fun _ _ _ _ n=>n)
  (fun b o hc e=>⟨o,k b o hc e⟩) (fun _ _ e=>e) (fun _ _ _ e=>e) (fun b ps e=>⟨#[],by rw [e];simp⟩) (fun m hm=>?_) (fun b u e=>?_) I.bare
 ·obtain ⟨n1,l1,_,e1,c1,p1⟩:=f b hb
  exact ⟨e1,l1,c1,p1⟩
 ·obtain ⟨o,es,ep,ho,r⟩:=hm
  exact ⟨o,es,ep,k _ o (fun hb=>(f _ hb).2.1 rfl) ho,r⟩
 ·refine (I.hok b u e).stay (fun c v hc q=>k c v ?_ q) (fun _ q=>q) fun _ _ q=>q
  rcases hc with z | z
  ·rw [z];exact nit b u e
  ·exact nit c _ z
theorem Inv.pairL {tk:Nat}{fp:List Addr}{T:Addr}{xs:List V}{its:List Value}(I:Inv X pins σ H s)(f:∀ b∈fp,FpOk X pins H b)
  (kk:∀ b o,b ∉ fp->s.heap.get? b=some o->h'.get? b=some o) (hT:s.heap.objs.size<=T) (rv:Vals xs its) (hz:xs.length<=sizeLine) (ht:h'.IsTuple T its.toArray):Inv X pins σ (upd H T (.tup xs)) { s with heap:=h',toks:=tk }:=by
 have hf:H T=none:=I.hok.fresh hT
 have I1:Inv X pins σ H { s with heap:=h',toks:=tk }:=I.turnedL kk f
 have hokN:HOk X.prog X.w (upd H T (.tup xs)) h':=fun b o e=>by
  by_cases hb:b=T
  ·subst hb
   rw [Ac] at e
   cases e
   exact ⟨hz,its,rv,ht⟩
  ·rw [Ai hb] at e
   refine (I1.hok b o e).stay (fun c v _ q=>q) (fun c q=>?_) fun c zs q=>?_
   ·rw [Ai (A3 q hf)];exact q
   ·rw [Ai (A3 q hf)];exact q
 have u:Un (Cv X.stack) fp H (upd H T (.tup xs)) s.heap h':={
  keep:=fun b o e n _ hx=>kk b o hx e
  slot:=fun b o e n _ hx=>⟨o.slots,kk b o hx e⟩
  free:=fun b o e n _=>by rw [Ai (O5 (Pd (Oy e) hT))];exact n
  there:=fun b o e hx=>⟨o,kk b o hx e⟩
  tups:=fun b zs e=>by rw [Ai (A3 e hf)];exact e
  frzs:=fun b o u e=>by rw [Ai (A3 e hf)];exact e
  tbls:=fun b ps e=>⟨#[],by rw [Ai (A3 e hf),e];simp⟩ }
 refine I.call (g':=s.gens) (d':=s.drawn) (t':=tk) u hokN I.bare fun b hb=>?_
 obtain ⟨n1,l1,_,e1,c1,p1⟩:=f b hb
 exact ⟨e1,l1,c1,p1⟩
end
structure ZB (z TI TO i1 i2 a b:Addr):Prop where
 TIz:TI≠z
 TOz:TO≠z
 TITO:TI≠TO
 i1z:i1≠z
 i2z:i2≠z
 TI1:TI≠i1
 TI2:TI≠i2
 TO1:TO≠i1
 TO2:TO≠i2
 i12:i1≠i2
 az:a≠z
 aTO:a≠TO
 a1:a≠i1
 a2:a≠i2
 bz:b≠z
 bTO:b≠TO
 b1:b≠i1
 b2:b≠i2
theorem ZB.za {z TI TO i1 i2 a b:Addr}(D:ZB z TI TO i1 i2 a b):ZA z TI TO i1 i2 [i1,a] [i2,b] where
 TIz:=D.TIz
 TOz:=D.TOz
 TITO:=D.TITO
 z1:=by simp [D.i1z.symm,D.az.symm]
 z2:=by simp [D.i2z.symm,D.bz.symm]
 TI1:=D.TI1
 TI2:=D.TI2
 TO1:=by simp [D.TO1,D.aTO.symm]
 TO2:=by simp [D.TO2,D.bTO.symm]
 m1:=by simp
 m2:=by simp
 n1:=by simp [D.i12,D.b1.symm]
 n2:=by simp [D.i12.symm,D.a2.symm]
theorem Zdc {n a b:Nat}(h1:a < n)(h2:b < n):ZB (n+4) (n+2) (n+3) n (n+1) a b:=by
 have f:∀ i j:Nat,i≠j->n+i≠n+j:=fun i j h e=>h (Nat.add_left_cancel e)
 have g:∀ i:Nat,a≠n+i:=fun i e=>absurd h1 (by rw [e];exact Nat.not_lt.mpr (Ro _ _))
 have g':∀ i:Nat,b≠n+i:=fun i e=>absurd h2 (by rw [e];exact Nat.not_lt.mpr (Ro _ _))
 exact ⟨f 2 4 (by decide),f 3 4 (by decide),f 2 3 (by decide),f 0 4 (by decide),f 1 4 (by decide),f 2 0 (by decide),f 2 1 (by decide),f 3 0 (by decide),f 3 1 (by decide),f 0 1 (by decide),g 4,g 3,g 0,g 1,g' 4,g' 3,g' 0,g' 1⟩
section
variable {X:Cx}
end
theorem Zmi {prog:Program}{w:World}{A:Around}{E:Value->Shared->Prop}{s:Shared}{t sl:Addr}{items:Array Value}{vl vu:Value}{lo hi:Option Int}{Q:Value->Shared->Prop}(ht:IsTup s.heap t items)(hs:s.heap.IsSliceOf sl vl vu .none)(pl:IsPart vl lo)(pu:IsPart vu hi)
  (hw:HT.sIx items.size 0 lo=0/\HT.sIx items.size items.size hi=items.size) (h:Q (.ref t) s):wpAny (model prog w) A (getItem (.ref t) (.ref sl)) Q E s:=by
 obtain ⟨os,hos,hcs,hds⟩:=id hs
 have hTs:s.TypeIs (.ref sl) "slice" := ⟨os,hos,hcs⟩
 unfold getItem
 try with_reducible refine Pw ?_
 first | refine Ot (Ov ?_) | skip
 refine Ot (wpAny_sequenceKey ht.typeIs (by decide) ?_)
 refine Ot (Qg (name:=O8 "__getitem__") ht.typeIs Rf
  (Qj Rf ht.typeIs PyProof.Rows.entry_tuple_getitem ?_ (PyProof.Rows.args_tuple_getitem _ _)))
 show wpAny _ _ (Builtin.Tuple.tupleItemsOf (.ref t) >>= _) _ _ s
 refine Ot (PyProof.Rows.tupleItemsOf_ ht ?_)
 refine Ot (Rt hTs ?_)
 rw [if_pos (by decide)]
 refine Ot (HT.sliceApplied_gen hs pl pu ?_)
 have hyes:(((HT.sIx items.size 0 lo:Nat):Int) == 0 && (1:Int) == 1 && (HT.sIx items.size items.size hi - HT.sIx items.size 0 lo) == items.size)=true:=by
  rw [hw.1,hw.2]
  simp
 show wpAny _ _ (if (((HT.sIx items.size 0 lo:Nat):Int) == 0 && (1:Int) == 1 && (HT.sIx items.size items.size hi - HT.sIx items.size 0 lo) == items.size)=true then _ else _) _ _ s
 rw [if_pos hyes]
 refine Ot (m:=Builtin.Tuple.tupleIsExact (.ref t)) ?_
 unfold Builtin.Tuple.tupleIsExact
 refine Ot (Rt ht.typeIs (Ov ?_))
 rw [if_pos (by decide)]
 refine Ot (Q9 ?_)
 exact Ov ⟨_,rfl,Ov h⟩
noncomputable def rSlU (K:Os):V->Option Int->Option Int->Hp->VK->Prop:=fun x lo hi H Q=>∃ a xs,x=.ref a/\SqT K H a xs/\∀ r H',Same H H'->SqT K H' r (Cp xs lo hi)->Q (.ref r) H'
theorem Zjd {X:Cx}:SlR X (rSlU X.K):=by
 intro pins s σ H x v vl vu lo hi sl Q I rx hs pl pu h
 obtain ⟨a,xs,rfl,hx,q⟩:=h
 by_cases hw:HT.sIx xs.length 0 lo=0/\HT.sIx xs.length xs.length hi=xs.length
 ·cases rx
  obtain ⟨its,r,ht,hz⟩:=I.tuple hx
  have hlen:its.toArray.size=xs.length:=by rw [Ox];exact r.length.symm
  refine ⟨"tuple",_,Rf.lookup,ht.typeIs,?_⟩
  refine Zmi ht hs pl pu (by rw [hlen];exact hw) ⟨.ref a,H,I,rfl,q a H (Same.refl H) ?_⟩
  have e:Cp xs lo hi=xs:=by unfold Cp;rw [hw.1,hw.2];simp
  rw [e]
  exact hx
 ·exact Zcz pins s σ H _ v vl vu lo hi sl Q I rx hs pl pu ⟨a,xs,rfl,hx,hw,fun p hp=>q p _ (Same.upd hp) (.of Ac)⟩
noncomputable def Nz (K:Os):V->Option Int->Option Int->Hp->VK->Prop:=fun x lo hi H Q=>N8 K x lo hi H Q\/Op x lo hi H Q\/rSlU K x lo hi H Q
theorem Zde {X:Cx}(K:Os)(hK:X.K=K:=by rfl):SlR X (Nz K):=by subst hK;exact sl_list.or (sl_str.or Zjd)
theorem Zp9 {K:Os}{a:Addr}{xs:List V}{lo hi:Option Int}{H:Hp}{Q:VK}(ha:SqL K H a xs)(h:∀ p,H p=none->Q (.ref p) (upd H p (.lst (Cp xs lo hi)))):Nz K (.ref a) lo hi H Q:=.inl ⟨a,xs,rfl,ha,h⟩
theorem Zmn {K:Os}{a:Addr}{xs:List V}{lo hi:Option Int}{H:Hp}{Q:VK}(ha:SqT K H a xs)(h:∀ r H',Same H H'->SqT K H' r (Cp xs lo hi)->Q (.ref r) H'):Nz K (.ref a) lo hi H Q:=.inr (.inr ⟨a,xs,rfl,ha,h⟩)
theorem s_aug {i:Nat}{te:TE}{ti:G7}{D:Ct}{σ:St}{H:Hp}{x:V}(e:σ[i]?=some (some x))(h:te σ H fun y H1=>ti x y H1 fun z H2=>D.nx (σ.set i (some z)) H2):Oa i te ti D σ H:=⟨x,e,h⟩
theorem s_ipI {g:Int->Int->Int}{i j:Int}{H:Hp}{Q:VK}(h:Q (.int (g i j)) H):ipI g (.int i) (.int j) H Q:=⟨i,j,rfl,rfl,h⟩
theorem Zlz (xs:List V)(k:Nat):Cp xs none (some (k:Int))=xs.take k:=by
 unfold Cp
 rw [HT.sIx_none,HT.sIx_nat,Nat.sub_zero,List.drop_zero]
 by_cases h:k<=xs.length
 ·rw [Tt h]
 ·rw [Nat.min_eq_right (by omega),Qx (Ow _),Qx (by omega)]
theorem Zgi (xs:List V):Cp xs none (some (-1))=xs.take (xs.length - 1):=by
 unfold Cp
 rw [HT.sIx_none,List.drop_zero]
 show xs.take ((if (-1:Int) < 0 then ((-1:Int)+(xs.length:Int)).toNat else min (-1:Int).toNat xs.length) - 0)=_
 rw [if_pos (by decide)]
 congr 1
 omega
section
variable {M:Model}{A:Around}{E:Value->Shared->Prop}{s:Shared}
end
theorem Zcf {X:Cx}{st:Stmt}:QS X st (fun _ _ _=>False):=⟨fun _ _ _ _ _ _ h=>h.elim⟩
noncomputable def Hu (h:Heap)(z TI TO i1 i2:Addr):Prop:=∃(a:Addr)(oa:Obj)(f1:Value),h.get? z=some { cls:=.type "zip",dict:=none,data:=.fields #[rawInt a,f1,.bool false,.ref TI,.ref TO],slots:=#[] }/\h.get? a=some oa/\a≠z/\a≠i1/\a≠i2
section
variable {prog:Program}{w:World}{A:Around}{E:Value->Shared->Prop}{s:Shared}{z TI TO i1 i2:Addr}{fp1 fp2:List Addr}{n1 n2 i:Nat}{P1 P2:Nat->Value->Prop}{St1 St2:Nat->Heap->Prop}{a b:Value}
theorem Zfz {Q:Bool->Shared->Prop}(hz:Hu s.heap z TI TO i1 i2)(h:∀ h',Hu h' z TI TO i1 i2->O7 z s.heap h'->Q false { s with heap:=h' }):wpAny (model prog w) A (Qe (.ref z)) Q E s:=by
 obtain ⟨a,oa,f1,e,ea,n0,n1,n2⟩:=hz
 unfold Qe
 refine Ot (O9 e rfl (x:=rawInt a) rfl ?_)
 show wpAny _ _ (loadIfAlive ((a:Int).toNat) >>= _) _ _ s
 refine Ot (Ze4 ?_)
 rw [R8,ea]
 rw [if_neg (by simp)]
 refine Ot (O9 e rfl (x:=f1) rfl ?_)
 by_cases hf:(f1 != Value.bool true)=true
 ·simp only [hf,if_true]
  refine Ot (Qi e (by simp) fun h₅ e5 s5=>?_)
  replace s5:O7 z s.heap h₅:=s5
  exact Ov (h h₅ ⟨a,oa,.bool true,e5,s5.extBut a oa n0 ea,n0,n1,n2⟩ s5)
 ·simp only [hf]
  exact Ov (h s.heap ⟨a,oa,f1,e,ea,n0,n1,n2⟩ (O7.refl ..))
theorem Zoj {Q:Value->Shared->Prop}(D1:Draws prog w A i1 fp1 n1 P1 St1)(D2:Draws prog w A i2 fp2 n2 P2 St2)(D:ZA z TI TO i1 i2 fp1 fp2)(hz:Hu s.heap z TI TO i1 i2)(hTI:IsPair s.heap TI (.ref i1) (.ref i2))
  (st1:St1 i s.heap) (st2:St2 i s.heap) (l1:i < n1) (l2:i < n2)
  (hQ:∀ x y h' tk,P1 i x->P2 i y->Hu h' z TI TO i1 i2->St1 (i+1) h'->St2 (i+1) h'->IsPair h' s.heap.objs.size x y->h'.objs.size=s.heap.objs.size+1 ->
   (∀ c o,c≠z->c≠i1->c≠i2->s.heap.get? c=some o->h'.get? c=some o)->Q (.ref s.heap.objs.size) { s with heap:=h',toks:=tk }) :
  wpAny (model prog w) A (Builtin.«zip.__next__» ⟨[.ref z],[]⟩) (fun fin s'=>∃ v,fin=.done (.ret v)/\Q v s') E s:=by
 obtain ⟨a0,oa0,f10,e0,_⟩:=id hz
 show wpAny _ _ (field (.ref z) 2 >>= _) _ _ s
 refine Ot (O9 e0 rfl (x:=Value.bool false) rfl ?_)
 show wpAny _ _ (field (.ref z) 3 >>= _) _ _ s
 refine Ot (O9 e0 rfl (x:=Value.ref TI) rfl (Ot (Qc hTI rfl ?_)))
 show wpAny _ _ (Qe (.ref z) >>= _) _ _ s
 refine Ot (Zfz hz fun h₁ hz₁ e1=>?_)
 simp only [R7,if_false]
 refine Ot ?_
 simp only [List.forIn_toArray,Rq,Se]
 refine Ot (Ot (Pw ?_))
 show wpAny _ _ (P3 (.ref i1) >>= _) _ _ _
 refine Ot (D1.item i _ _ _ l1 (Cb D1 st1 e1 D.z1) fun x h₂ tk₂ px s12 e2=>Ov (Ov ?_))
 replace e2:O7 i1 h₁ h₂:=e2
 refine Ot (Ot (Pw ?_))
 show wpAny _ _ (P3 (.ref i2) >>= _) _ _ _
 have s22:St2 i h₂:=Cb D2 (Cb D2 st2 e1 D.z2) e2 D.n1
 refine Ot (D2.item i _ _ _ l2 s22 fun y h₄ tk₄ py s24 e4=>Ov (Ov (Ov ?_)))
 replace e4:O7 i2 h₂ h₄:=e4
 show wpAny _ _ (newTuple [x,y] >>= _) _ _ _
 refine Ot (wpAny_newTuple (Ov ⟨_,rfl,?_⟩))
 have sz:h₄.objs.size=s.heap.objs.size:=by rw [e4.1,e2.1,e1.1]
 show Q (.ref h₄.objs.size) { s with heap:=h₄.push { cls:=.type "tuple",data:=.seq #[x,y] },toks:=tk₄ }
 have up:∀ c o,h₄.get? c=some o->(h₄.push { cls:=.type "tuple",data:=.seq #[x,y] }).get? c=some o:=fun c o e=>Oz _ e
 have k4:∀ c o,c≠z->c≠i1->c≠i2->s.heap.get? c=some o->h₄.get? c=some o:=fun c o c1 c3 c4 e=>e4.extBut _ _ c4 (e2.extBut _ _ c3 (e1.extBut _ _ c1 e))
 have t8:IsPair (h₄.push { cls:=.type "tuple",data:=.seq #[x,y] }) h₄.objs.size x y:=Pc _ rfl
 rw [sz] at t8
 rw [sz]
 obtain ⟨a1,oa1,f1,g1,g2,g3,g4,g5⟩:=hz₁
 refine hQ x y _ tk₄ px py ⟨a1,oa1,f1,up _ _ (e4.extBut _ _ D.i2z.symm (e2.extBut _ _ D.i1z.symm g1)),up _ _ (e4.extBut _ _ g5 (e2.extBut _ _ g4 g2)),g3,g4,g5⟩ ?_ ?_ t8 (by rw [Pu,sz]) fun c o c1 c3 c4 e=>up c o (k4 c o c1 c3 c4 e)
 ·exact D1.frame _ _ _ (Cb D1 s12 e4 D.n2) fun c _ o e=>up c o e
 ·exact D2.frame _ _ _ s24 fun c _ o e=>up c o e
theorem Zhs {Q:Fin->Shared->Prop}(D1:Draws prog w A i1 fp1 n1 P1 St1)(D2:Draws prog w A i2 fp2 n2 P2 St2)(D:ZA z TI TO i1 i2 fp1 fp2)(hz:Hu s.heap z TI TO i1 i2)(hTI:IsPair s.heap TI (.ref i1) (.ref i2))
  (st1:St1 i s.heap) (st2:St2 i s.heap) (hend:i=n1\/(i < n1/\i=n2))
  (hE:∀ h' e tk,(∀ c o,c≠z->c≠i1->c≠i2->s.heap.get? c=some o->h'.get? c=some o)->(∃ o,h'.get? e=some o/\o.cls=.type "StopIteration")->E (.ref e) { s with heap:=h',toks:=tk }) :
  wpAny (model prog w) A (Builtin.«zip.__next__» ⟨[.ref z],[]⟩) Q E s:=by
 obtain ⟨a0,oa0,f10,e0,_⟩:=id hz
 show wpAny _ _ (field (.ref z) 2 >>= _) _ _ s
 refine Ot (O9 e0 rfl (x:=Value.bool false) rfl ?_)
 show wpAny _ _ (field (.ref z) 3 >>= _) _ _ s
 refine Ot (O9 e0 rfl (x:=Value.ref TI) rfl (Ot (Qc hTI rfl ?_)))
 show wpAny _ _ (Qe (.ref z) >>= _) _ _ s
 refine Ot (Zfz hz fun h₁ hz₁ e1=>?_)
 simp only [R7,if_false]
 refine Ot ?_
 simp only [List.forIn_toArray,Rq,Se]
 refine Ot (Ot (Pw ?_))
 show wpAny _ _ (P3 (.ref i1) >>= _) _ _ _
 rcases hend with rfl | ⟨l1,rfl⟩
 ·refine Ot (D1.done _ _ _ (Cb D1 st1 e1 D.z1) fun h₂ e e2 he=>?_)
  replace e2:Rv i1 h₁ h₂:=e2
  exact hE h₂ e s.toks (fun c o c1 c3 _ x=>e2 _ _ c3 (e1.extBut _ _ c1 x)) he
 ·refine Ot (D1.item i _ _ _ l1 (Cb D1 st1 e1 D.z1) fun x h₂ tk₂ px s12 e2=>Ov (Ov ?_))
  replace e2:O7 i1 h₁ h₂:=e2
  refine Ot (Ot (Pw ?_))
  show wpAny _ _ (P3 (.ref i2) >>= _) _ _ _
  have s22:St2 i h₂:=Cb D2 (Cb D2 st2 e1 D.z2) e2 D.n1
  refine Ot (D2.done _ _ _ s22 fun h₄ e e4 he=>?_)
  replace e4:Rv i2 h₂ h₄:=e4
  exact hE h₄ e tk₂ (fun c o c1 c3 c4 x=>e4 _ _ c4 (e2.extBut _ _ c3 (e1.extBut _ _ c1 x))) he
noncomputable def ZpSt (h:Heap)(z TI TO i1 i2:Addr)(i:Nat):Prop:=(i=0/\IsZip h z TI TO .none/\∃ u v,IsPair h TO u v)\/(0 < i/\Hu h z TI TO i1 i2)
theorem ZpSt.obj {h:Heap}{z TI TO i1 i2:Addr}{i:Nat}(x:ZpSt h z TI TO i1 i2 i):∃ vs,h.get? z=some { cls:=.type "zip",dict:=none,data:=.fields vs,slots:=#[] }:=by
 rcases x with ⟨_,x,_⟩ | ⟨_,_,_,_,x,_⟩
 ·exact ⟨_,x⟩
 ·exact ⟨_,x⟩
theorem Zkz {Q:Option Value->Shared->Prop}(D1:Draws prog w A.in1 i1 fp1 n1 P1 St1)(D2:Draws prog w A.in1 i2 fp2 n2 P2 St2)(D:ZA z TI TO i1 i2 fp1 fp2)(hz:ZpSt s.heap z TI TO i1 i2 i)(hTI:IsPair s.heap TI (.ref i1) (.ref i2))(eTO:∃ o,s.heap.get? TO=some o)
  (st1:St1 i s.heap) (st2:St2 i s.heap) (l1:i < n1) (l2:i < n2)
  (hQ:∀ x y h' tk,P1 i x->P2 i y->ZpSt h' z TI TO i1 i2 (i+1)->(∃ o,h'.get? TO=some o)->St1 (i+1) h'->St2 (i+1) h'->IsPair h' s.heap.objs.size x y->h'.objs.size=s.heap.objs.size+1 ->
   (∀ c o,c≠z->c≠TO->c≠i1->c≠i2->s.heap.get? c=some o->h'.get? c=some o)->Q (some (.ref s.heap.objs.size)) { s with heap:=h',toks:=tk }) :
  wpAny (model prog w) A (pyNext (.ref z)) Q E s:=by
 obtain ⟨vs,ho⟩:=hz.obj
 have hT:s.TypeIs (.ref z) "zip" := ⟨_,ho,rfl⟩
 have zl:z < s.heap.objs.size:=Oy ho
 have l1':i1 < s.heap.objs.size:=by obtain ⟨_,y⟩:=D1.live _ _ st1;exact Oy y
 have l2':i2 < s.heap.objs.size:=by obtain ⟨_,y⟩:=D2.live _ _ st2;exact Oy y
 rcases hz with ⟨rfl,hz,u,v,hTO⟩ | ⟨hi,hz⟩
 ·exact Zc7 D1 D2 D hz hTI hTO st1 st2 l1 l2 fun x y h' tk a1 a2 a3 a4 a5 a6 a7 a8 a9=>hQ x y h' tk a1 a2 (.inr ⟨T4 _,_,_,_,a3,a7,P0 zl,P0 l1',P0 l2'⟩) ⟨_,a4⟩ a5 a6 a7 a8 a9
 ·unfold pyNext
  exact Ot (Rs (Qg (name:=O8 "__next__") hT Qp
   (Qj Qp hT Tc (Zoj D1 D2 D hz hTI st1 st2 l1 l2 fun x y h' tk a1 a2 a3 a4 a5 a6 a7 a8=>Ov (hQ x y h' tk a1 a2 (.inr ⟨T4 _,a3⟩) (let ⟨o,e⟩:=eTO;⟨o,a8 _ o D.TOz D.TOi1 D.TOi2 e⟩) a4 a5 a6 a7 fun c o c1 _ c3 c4 e=>a8 c o c1 c3 c4 e)) (Sy _))))
theorem Zic {Q:Option Value->Shared->Prop}(D1:Draws prog w A.in1 i1 fp1 n1 P1 St1)(D2:Draws prog w A.in1 i2 fp2 n2 P2 St2)(D:ZA z TI TO i1 i2 fp1 fp2)(hz:ZpSt s.heap z TI TO i1 i2 i)(hTI:IsPair s.heap TI (.ref i1) (.ref i2))
  (st1:St1 i s.heap) (st2:St2 i s.heap) (hend:i=n1\/(i < n1/\i=n2))
  (hQ:∀ h' tk,(∀ c o,c≠z->c≠TO->c≠i1->c≠i2->s.heap.get? c=some o->h'.get? c=some o)->Q none { s with heap:=h',toks:=tk }):wpAny (model prog w) A (pyNext (.ref z)) Q E s:=by
 obtain ⟨vs,ho⟩:=hz.obj
 have hT:s.TypeIs (.ref z) "zip" := ⟨_,ho,rfl⟩
 rcases hz with ⟨rfl,hz,u,v,hTO⟩ | ⟨hi,hz⟩
 ·exact Zed D1 D2 D hz hTI hTO st1 st2 hend hQ
 ·unfold pyNext
  refine Ot (Rs (Qg (name:=O8 "__next__") hT Qp
   (Qj Qp hT Tc (Zhs D1 D2 D hz hTI st1 st2 hend fun h' e tk hk he=>?_) (Sy _))))
  obtain ⟨o,ho,hc⟩:=he
  exact Ot (Tj (T := "StopIteration") (b:=true) ⟨o,ho,hc⟩ isSubtype_stop (Ov (hQ _ _ fun c o c1 _ c3 c4 e=>hk c o c1 c3 c4 e)))
end
noncomputable abbrev itZ (b:Bool)(l:Addr):Obj:={ cls:=.type (cond b "tuple_iterator" "list_iterator"),data:=.fields #[.ref l,.int 0 0] }
noncomputable def ZIt (b:Bool)(h:Heap)(a l:Addr)(i:Nat):Prop:=∃ o,h.get? a=some o/\o.cls=.type (cond b "tuple_iterator" "list_iterator")/\o.data=.fields #[.ref l,.int i 0]
theorem ZIt.at {b:Bool}{h h':Heap}{a l:Addr}{i:Nat}(x:ZIt b h a l i)(k:∀ o,h.get? a=some o->h'.get? a=some o):ZIt b h' a l i:=let ⟨o,e,r⟩:=x;⟨o,k o e,r⟩
noncomputable def ZIn (b:Bool)(h:Heap)(a:Addr)(xs:Array Value):Prop:=cond b (h.IsTuple a xs) (h.IsList a xs)
noncomputable def El (b:Bool)(K:Os)(H:Hp)(a:Addr)(xs:List V):Prop:=cond b (SqT K H a xs) (SqL K H a xs)
theorem ZIn.lt {b:Bool}{h:Heap}{a:Addr}{xs:Array Value}(x:ZIn b h a xs):a < h.objs.size:=by
 cases b <;> exact let ⟨_,e,_⟩:=id x;Oy e
theorem ZIn.push {b:Bool}{h:Heap}{a:Addr}{xs:Array Value}(x:ZIn b h a xs)(o:Obj):ZIn b (h.push o) a xs:=by
 cases b
 ·exact Heap.IsList.push x _
 ·obtain ⟨o,e,r⟩:=id x
  exact ⟨o,Oz _ e,r⟩
theorem Same.sqZ {b:Bool}{K:Os}{H H':Hp}{a:Addr}{xs:List V}(m:Same H H')(x:El b K H a xs):El b K H' a xs:=by
 cases b
 ·exact m.seq x
 ·exact m.tup x
theorem Inv.zin {X:Cx}{pins:List (Addr×Obj)}{σ:St}{H:Hp}{s:Shared}{b:Bool}{a:Addr}{xs:List V}(I:Inv X pins σ H s)(x:El b X.K H a xs):∃ its,Vals xs its/\ZIn b s.heap a its.toArray:=by
 cases b
 ·obtain ⟨its,rv,pl,hz⟩:=I.list x
  exact ⟨its,rv,pl.isList⟩
 ·obtain ⟨its,rv,pl,hz⟩:=I.tuple x
  exact ⟨its,rv,pl⟩
theorem Inv.zsz {X:Cx}{pins:List (Addr×Obj)}{σ:St}{H:Hp}{s:Shared}{b:Bool}{a:Addr}{xs:List V}(I:Inv X pins σ H s)(x:El b X.K H a xs):xs.length<=sizeLine:=by
 cases b
 ·obtain ⟨its,rv,pl,hz⟩:=I.list x
  have:=rv.length
  omega
 ·obtain ⟨its,rv,pl,hz⟩:=I.tuple x
  have:=rv.length
  omega
theorem Mb {prog:Program}{w:World}{A:Around}(b:Bool)(hh:A.handled=none)(it l:Addr)(hne:l≠it)(items:Array Value) :
  Draws prog w A it [it,l] items.size (fun i v=>items[i]?=some v) (fun i h=>ZIt b h it l i/\ZIn b h l items):=by
 cases b
 ·exact Rb hh it l hne items
 ·exact Zaa hh it l hne items
theorem Zdo {prog:Program}{w:World}{A:Around}{E:Value->Shared->Prop}{s:Shared}{b:Bool}{a:Addr}{xs:Array Value}{Q:Value->Shared->Prop}(q:ZIn b s.heap a xs)
  (h:Q (.ref s.heap.objs.size) { s with heap:=s.heap.push (itZ b a) }):wpAny (model prog w) A (pyIter (.ref a)) Q E s:=by
 cases b
 ·exact Uw q h
 ·exact R6 q h
noncomputable abbrev zl1 (b:Bool)(h:Heap)(l1:Addr):Heap:=h.push (itZ b l1)
noncomputable abbrev zl2 (b gg:Bool)(h:Heap)(l1 l2:Addr):Heap:=(zl1 b h l1).push (itZ gg l2)
noncomputable abbrev zl3 (b gg:Bool)(h:Heap)(l1 l2:Addr):Heap:=(zl2 b gg h l1 l2).push { cls:=.type "tuple",data:=.seq #[.ref h.objs.size,.ref (zl1 b h l1).objs.size] }
noncomputable abbrev zl4 (b gg:Bool)(h:Heap)(l1 l2:Addr):Heap:=(zl3 b gg h l1 l2).push { cls:=.type "tuple",data:=.seq #[.none,.none] }
noncomputable abbrev Ga (b gg:Bool)(h:Heap)(l1 l2:Addr):Heap:=(zl4 b gg h l1 l2).push { cls:=.type "zip",data:=.fields #[.none,.bool false,.bool false,.ref (zl2 b gg h l1 l2).objs.size,.ref (zl3 b gg h l1 l2).objs.size] }
theorem Zhz (b gg:Bool)(l1 l2:Addr)(xs ys:Array Value) :
  Meets (Builtin.«zip.__new__» ⟨[.type "zip",.ref l1,.ref l2],[]⟩) (fun _ R s=>ZIn b s.heap l1 xs/\ZIn gg s.heap l2 ys/\R (.ok (.ret (.ref (zl4 b gg s.heap l1 l2).objs.size))) { s with heap:=Ga b gg s.heap l1 l2 }) :=
 .of_wp fun prog w A R s h=>by
  obtain ⟨hp,g,d,tk,os⟩:=s;obtain ⟨hl1,hl2,h⟩:=h
  have hsub:=sub_zip
  have q1:ZIn b (Shared.heap ⟨hp,g,d,tk,os⟩) l1 xs:=hl1
  have q2:ZIn gg (Shared.heap ⟨hp.push (itZ b l1),g,d,tk,os⟩) l2 ys:=hl2.push _
  wp_walk using Zdo q1,Zdo q2
  exact ⟨_,rfl,h⟩
theorem Zcs {b gg:Bool}{prog:Program}{w:World}{A:Around}{E:Value->Shared->Prop}{s:Shared}{l1 l2:Addr}{xs ys:Array Value}{Q:Value->Shared->Prop}(hl1:ZIn b s.heap l1 xs)(hl2:ZIn gg s.heap l2 ys)
  (h:∀ h',IsZip h' (s.heap.objs.size+4) (s.heap.objs.size+2) (s.heap.objs.size+3) .none->IsPair h' (s.heap.objs.size+2) (.ref s.heap.objs.size) (.ref (s.heap.objs.size+1)) ->
   IsPair h' (s.heap.objs.size+3) .none .none->ZIt b h' s.heap.objs.size l1 0->ZIt gg h' (s.heap.objs.size+1) l2 0->h'.objs.size=s.heap.objs.size+5 ->
   (∀ c o,s.heap.get? c=some o->h'.get? c=some o)->Q (.ref (s.heap.objs.size+4)) { s with heap:=h' }) :
  wpAny (model prog w) A (call (.type "zip") [.ref l1,.ref l2]) Q E s:=by
 refine callType_new PySem.F.called_zip (by decide) (PySem.F.typeCall_zip_2 _ _) (PySem.F.newCall_zip_2 _ _) (fun obj=>PySem.F.args_object_init_3 obj _ _) PySem.F.entry_zip_new (Zhz b gg l1 l2 xs ys) ⟨hl1,hl2,?_⟩
 have y1:(zl1 b s.heap l1).objs.size=s.heap.objs.size+1:=Pu ..
 have y2:(zl2 b gg s.heap l1 l2).objs.size=s.heap.objs.size+2:=by rw [Pu,y1]
 have y3:(zl3 b gg s.heap l1 l2).objs.size=s.heap.objs.size+3:=by rw [Pu,y2]
 have y4:(zl4 b gg s.heap l1 l2).objs.size=s.heap.objs.size+4:=by rw [Pu,y3]
 have y5:(Ga b gg s.heap l1 l2).objs.size=s.heap.objs.size+5:=by rw [Pu,y4]
 have u5:(Ga b gg s.heap l1 l2).get? (zl4 b gg s.heap l1 l2).objs.size=some _:=Pc _ rfl
 have u4:(Ga b gg s.heap l1 l2).get? (zl3 b gg s.heap l1 l2).objs.size=some _:=Oz _ (Pc _ rfl)
 have u3:(Ga b gg s.heap l1 l2).get? (zl2 b gg s.heap l1 l2).objs.size=some _:=Oz _ (Oz _ (Pc _ rfl))
 have u2:(Ga b gg s.heap l1 l2).get? (zl1 b s.heap l1).objs.size=some _:=Oz _ (Oz _ (Oz _ (Pc _ rfl)))
 have u1:(Ga b gg s.heap l1 l2).get? s.heap.objs.size=some _:=Oz _ (Oz _ (Oz _ (Oz _ (Pc _ rfl))))
 show _/\_
 rw [y2,y3,y4] at u5
 rw [y1,y2] at u3
 rw [y3] at u4
 rw [y1] at u2
 rw [y4]
 exact ⟨⟨_,u5,rfl⟩,h _ u5 u3 u4 ⟨_,u1,rfl,rfl⟩ ⟨_,u2,rfl,rfl⟩ y5 fun c o x=>Oz _ (Oz _ (Oz _ (Oz _ (Oz _ x))))⟩
noncomputable def Nl (H:Hp)(xs ys zs:List V):Prop:=∀(j:Nat)(z:V),zs[j]?=some z->∃(t:Addr)(x y:V),z=V.ref t/\xs[j]?=some x/\ys[j]?=some y/\H t=some (.tup [x,y])
noncomputable def JZp (f gg:Bool)(K:Os)(H0:Hp)(z TI TO i1 i2 a b:Addr)(xs ys:List V):Nat->List V->Hp->Heap->Prop:=fun i zs H h =>
 ZpSt h z TI TO i1 i2 i/\(IsPair h TI (.ref i1) (.ref i2)/\∃ o,h.get? TO=some o)/\ZIt f h i1 a i/\ZIt gg h i2 b i/\(∀ c∈[z,TI,TO,i1,i2],H c=none)/\zs.length=i/\Nl H xs ys zs/\Same H0 H
theorem Zlx:typeLookup (.type "zip") "__len__" = pure none:=by rw [Q6,Qy];kernel_rfl
theorem Zgt:typeLookup (.type "zip") "__length_hint__" = pure none:=by rw [Q6,Qy];kernel_rfl
theorem Zks {f gg:Bool}{X:Cx}{pins:List (Addr×Obj)}{σ:St}{H0:Hp}{z TI TO i1 i2 a b:Addr}{xs ys:List V}(fp:∀ c∈[z,TI,TO,i1,i2],FpOk X pins H0 c)(D:ZB z TI TO i1 i2 a b)(ha:El f X.K H0 a xs)(hb:El gg X.K H0 b ys) :
  Src X pins σ z "zip" (min xs.length ys.length) H0 (JZp f gg X.K H0 z TI TO i1 i2 a b xs ys) where
 ty:=fun i zs H h j=>by
  obtain ⟨vs,e⟩:=j.1.obj
  exact ⟨_,e,rfl⟩
 nl:=by decide
 hint:=⟨_,fun A s Q E hT h=>Zc9 hT Zlx Zgt h⟩
 self:=fun A s zs H Q E j q=>by
  rcases j.1 with ⟨_,e,_⟩ | ⟨z,_⟩
  ·exact U1 e q
  ·exact absurd z (P5 _)
 keep:=fun i zs H h h' S us us' h0 hS j k al=>by
  obtain ⟨j1,⟨j2,jT⟩,j3,j4,j5,j6,j7,j8⟩:=j
  have ne:∀ c∈[z,TI,TO,i1,i2],c≠S:=fun c hc e=>by
   have:=j5 c hc
   rw [e,hS] at this
   cases this
  refine ⟨?_,⟨k _ _ (ne TI (by simp)) j2,let ⟨o,e⟩:=jT;⟨o,k _ _ (ne TO (by simp)) e⟩⟩,j3.at fun o e=>k _ _ (ne i1 (by simp)) e,j4.at fun o e=>k _ _ (ne i2 (by simp)) e,fun c hc=>by rw [Ai (ne c hc)];exact j5 c hc,j6,fun m y hy=>?_,j8.over h0⟩
  ·rcases j1 with ⟨z0,e,u,v,e2⟩ | ⟨z0,a0,oa,f1,e,ea,x1,x2,x3⟩
   ·exact .inl ⟨z0,k _ _ (ne z (by simp)) e,u,v,k _ _ (ne TO (by simp)) e2⟩
   ·by_cases hs:a0=S
    ·subst hs
     obtain ⟨o,eo⟩:=al
     exact .inr ⟨z0,a0,o,f1,k _ _ (ne z (by simp)) e,eo,x1,x2,x3⟩
    ·exact .inr ⟨z0,a0,oa,f1,k _ _ (ne z (by simp)) e,k _ _ hs ea,x1,x2,x3⟩
  ·obtain ⟨t,x,y',e1,e2,e3,e4⟩:=j7 m y hy
   exact ⟨t,x,y',e1,e2,e3,by rw [Ai (Eb e4 hS (by intro z;cases z))];exact e4⟩
 fresh:=fun i zs H h j=>j.2.2.2.2.1 z (by simp)
 item:=fun A i s H zs E hh hi I j=>by
  obtain ⟨j1,⟨j2,jT⟩,j3,j4,j5,j6,j7,j8⟩:=j
  obtain ⟨its,rv,p⟩:=I.zin (j8.sqZ ha)
  obtain ⟨its2,rv2,p2⟩:=I.zin (j8.sqZ hb)
  have g1:=rv.length
  have g2:=rv2.length
  have l1:i < xs.length:=by omega
  have l2:i < ys.length:=by omega
  have D1:=Mb (prog:=X.prog) (w:=X.w) (A:=A.in1) f hh i1 a D.a1 its.toArray
  have D2:=Mb (prog:=X.prog) (w:=X.w) (A:=A.in1) gg hh i2 b D.b2 its2.toArray
  refine Zkz D1 D2 D.za j1 j2 jT ⟨j3,p⟩ ⟨j4,p2⟩ (by rw [Ox];omega) (by rw [Ox];omega) fun x y h' tk px py a1 aT a2 a3 a4 a5 a6=>?_
  have hx':its[i]?=some x:=by simpa using px
  have hy':its2[i]?=some y:=by simpa using py
  obtain ⟨u1,hu1,ru1⟩:=rv.get (Ou l1)
  obtain ⟨u2,hu2,ru2⟩:=rv2.get (Ou l2)
  rw [hx'] at hu1
  cases hu1
  rw [hy'] at hu2
  cases hu2
  have hf:H s.heap.objs.size=none:=I.hok.fresh (Ow _)
  have fpH:∀ c∈[z,TI,TO,i1,i2],FpOk X pins H c:=fun c hc=>(fp c hc).of (j5 c hc)
  have kk:∀ c o,c ∉ [z,TI,TO,i1,i2]->s.heap.get? c=some o->h'.get? c=some o:=fun c o hc e=>by
   simp only [O1,Po,or_false,not_or] at hc
   exact a6 c o hc.1 hc.2.2.1 hc.2.2.2.1 hc.2.2.2.2 e
  have I2:=I.pairL (tk:=tk) (T:=s.heap.objs.size) (xs:=[xs[i],ys[i]]) (its:=[x,y]) fpH kk (Ow _) (.cons ru1 (.cons ru2 .nil)) (by show 2<=sizeLine;decide) ⟨_,a4,rfl,_,rfl⟩
  have sm:Same H (upd H s.heap.objs.size (.tup [xs[i],ys[i]])):=Same.upd hf
  have lt:∀{c o},s.heap.get? c=some o->c≠s.heap.objs.size:=fun e=>O5 (Oy e)
  have nw:∀ c∈[z,TI,TO,i1,i2],c≠s.heap.objs.size:=fun c hc=>by
   simp only [O1,Po,or_false] at hc
   rcases hc with rfl | rfl | rfl | rfl | rfl
   ·obtain ⟨_,e⟩:=j1.obj;exact lt e
   ·exact lt j2
   ·obtain ⟨_,e⟩:=jT;exact lt e
   ·obtain ⟨_,e,_⟩:=j3;exact lt e
   ·obtain ⟨_,e,_⟩:=j4;exact lt e
  refine ⟨_,.ref s.heap.objs.size,_,rfl,rfl,I2,⟨a1,⟨a6 _ _ D.TIz D.TITO D.TI1 D.TI2 j2,aT⟩,a2.1,a3.1,fun c hc=>by rw [Ai (nw c hc)];exact j5 c hc,by simp [j6],fun m y hy=>?_,j8.trans sm⟩,fun S us e=>sm S _ e⟩
  by_cases hm:m < i
  ·rw [Px (by omega)] at hy
   obtain ⟨t,x,y',e1,e2,e3,e4⟩:=j7 m y hy
   exact ⟨t,x,y',e1,e2,e3,sm _ _ e4⟩
  ·have hlen:=(O2.mp hy).1
   rw [O4,Pt] at hlen
   have:m=i:=by omega
   subst this
   rw [Qf (by omega),j6,Sk] at hy
   have hy:V.ref s.heap.objs.size=y:=by simpa using hy
   exact ⟨_,xs[m],ys[m],hy.symm,Ou l1,Ou l2,Ac⟩
 done:=fun A s H zs E hh I j=>by
  obtain ⟨j1,⟨j2,jT⟩,j3,j4,j5,j6,j7,j8⟩:=j
  obtain ⟨its,rv,p⟩:=I.zin (j8.sqZ ha)
  obtain ⟨its2,rv2,p2⟩:=I.zin (j8.sqZ hb)
  have g1:=rv.length
  have g2:=rv2.length
  have D1:=Mb (prog:=X.prog) (w:=X.w) (A:=A.in1) f hh i1 a D.a1 its.toArray
  have D2:=Mb (prog:=X.prog) (w:=X.w) (A:=A.in1) gg hh i2 b D.b2 its2.toArray
  have fpH:∀ c∈[z,TI,TO,i1,i2],FpOk X pins H c:=fun c hc=>(fp c hc).of (j5 c hc)
  refine Zic D1 D2 D.za j1 j2 ⟨j3,p⟩ ⟨j4,p2⟩ (by simp only [Ox];omega) fun h' tk kk=>⟨rfl,I.turnedL (fun c o hc e=>?_) fpH⟩
  simp only [O1,Po,or_false,not_or] at hc
  exact kk c o hc.1 hc.2.2.1 hc.2.2.2.1 hc.2.2.2.2 e
section
variable {X:Cx}
noncomputable def Zdk (f gg:Bool)(K:Os)(ta:TA):TE:=fun σ H Q=>ta σ H fun vs H1=>∃ a b xs ys,vs=[.ref a,.ref b]/\El f K H1 a xs/\El gg K H1 b ys /\
 ∀(S:Addr)(zs:List V)(H2:Hp),H1 S=none->Same H1 H2->zs.length=min xs.length ys.length->Nl H2 xs ys zs->H2 S=some (.lst zs)->Q (.ref S) H2
theorem Zk0 (f gg:Bool)(K:Os){e e2:Expr}{ta:TA}{p p2 pos pos2:Pos}(hg:Gl X "list")(hm:X.mg "list" = none)(hg2:Gl X "zip")(hm2:X.mg "zip" = none)(ha:QA X [e,e2] ta)(hK:X.K=K:=by rfl)(hc:X.calm=true:=by rfl)
  (hs:starEach [.Call (.Name "zip" p2) [e,e2] [] pos2] X.env=[(false,eval (.Call (.Name "zip" p2) [e,e2] [] pos2) X.env)]:=by rfl) (hs2:starEach [e,e2] X.env=[(false,eval e X.env),(false,eval e2 X.env)]:=by rfl) (hs3:starEach [e2] X.env=[(false,eval e2 X.env)]:=by rfl) :
  QE X (.Call (.Name "list" p) [.Call (.Name "zip" p2) [e,e2] [] pos2] [] pos) (Zdk f gg K ta):=by
 subst hK
 refine ⟨fun pins s σ H Q I h=>?_⟩
 refine Call_ (Dj I hg hm Om (P6 ?_ hs rfl))
 rw [hs]
 show wpAny _ _ (spliced ((false,eval (.Call (.Name "zip" p2) [e,e2] [] pos2) X.env)::[])) _ _ s
 refine Q1 ?_
 refine Call_ (Dj I hg2 hm2 PyProof.Rows.boot_zip (P6 (Aj (ha.run pos2 pins s σ H _ I h) fun us s1 ⟨vs,H1,I1,r1,q1⟩=>?_) (by rw [hs2,hs3]) (by rw [hs3];rfl)))
 obtain ⟨a,b,xs,ys,e1,hq,hq2,q⟩:=q1
 subst e1
 obtain ⟨u,v,rfl,ru,rv⟩:=r1.two
 cases ru
 cases rv
 obtain ⟨its,rv,pl⟩:=I1.zin hq
 obtain ⟨its2,rv2,pl2⟩:=I1.zin hq2
 have hz2:=I1.zsz hq2
 have lt1:a < s1.heap.objs.size:=pl.lt
 have lt2:b < s1.heap.objs.size:=pl2.lt
 refine Zcs pl pl2 fun h' a1 a2 a3 a4 a5 a6 hk=>?_
 refine Rn ?_
 have fr:∀ k,FpOk X pins H1 (s1.heap.objs.size+k):=fun k=>I1.fpOk (Ro _ _) (I1.hok.fresh (Ro _ _))
 have fp:∀ c∈[s1.heap.objs.size+4,s1.heap.objs.size+2,s1.heap.objs.size+3,s1.heap.objs.size,s1.heap.objs.size+1],FpOk X pins H1 c:=fun c hc=>by
  simp only [O1,Po,or_false] at hc
  rcases hc with rfl | rfl | rfl | rfl | rfl
  ·exact fr 4
  ·exact fr 2
  ·exact fr 3
  ·exact fr 0
  ·exact fr 1
 have C:=Zks (X:=X) (pins:=pins) (σ:=σ) (H0:=H1) fp (Zdc lt1 lt2) hq hq2
 have I2:Inv X pins σ H1 { s1 with heap:=h' }:=I1.kept (t':=s1.toks) hk
 refine Ol C (by omega) (I1.ok.hd hc) I2 ⟨.inl ⟨rfl,a1,_,_,a3⟩,⟨a2,_,a3⟩,a4,a5,fun c hc=>(fp c hc).1,rfl,fun j y hy=>by simp at hy,Same.refl _⟩ (fun S hge hS h2 k2=>?_) fun S H' zs hS hS' hl' hj=>?_
 ·have sm:Same H1 (upd H1 S (.lst [])):=Same.upd hS
  refine ⟨.inl ⟨rfl,k2 _ _ a1,_,_,k2 _ _ a3⟩,⟨k2 _ _ a2,_,k2 _ _ a3⟩,a4.at fun o e=>k2 _ _ e,a5.at fun o e=>k2 _ _ e,fun c hc=>?_,rfl,fun j y hy=>by simp at hy,sm⟩
  have hge:h'.objs.size<=S:=hge
  rw [Ai (show c≠S from fun z=>?_)]
  ·exact (fp c hc).1
  ·simp only [O1,Po,or_false] at hc
   rcases hc with rfl | rfl | rfl | rfl | rfl <;> exact absurd z (O5 (Pd (by omega) hge))
 ·obtain ⟨h,j⟩:=hj
  exact q S zs H' hS j.2.2.2.2.2.2.2 hl' j.2.2.2.2.2.2.1 hS'
end
theorem Zgs:∀(xs ys:List Int),((Pe (min xs.length ys.length)).all (fun j=>xs.getD j 0 == ys.getD j 0) && xs.length == ys.length)=decide (xs=ys):=by
 intro xs ys
 rw [Rp,P9,Q4,beq_iff_eq,decide_eq_true_iff]
 constructor
 ·rintro ⟨h1,h2⟩
  apply List.ext_getElem h2
  intro i g1 g2
  have:=h1 i (List.mem_range.mpr (by omega))
  rw [beq_iff_eq,Qw,Qw,Ou g1,Ou g2] at this
  exact this
 ·rintro rfl
  exact ⟨fun j _=>by simp,rfl⟩
section
variable {X:Cx}
end
section
variable {X:Cx}
end
section
variable {X:Cx}{pins:List (Addr×Obj)}{σ:St}{H:Hp}{s:Shared}
end
section
variable {P:Program}{w:World}{K:Os}{mg:Str->Option Value}{base:Heap}{N:List Str}{qual:Str}{scope:Scope}{f:Addr}{cd:Value}{A:Around}{outer:List Env}{s0:Shared}{H0:Hp}{E:XK}
end
section
variable {P:Program}{w:World}{K:Os}{mg:Str->Option Value}{base:Heap}
end
section
variable {X:Cx}{k:Nat}{x:Str}{ps:List Str}{sp:Sp}{p pos np cpos:Pos}{e:Expr}{es:List Expr}{t:TA}{E:XK}
end
section
variable {X:Cx}{pins:List (Addr×Obj)}{σ:St}{H:Hp}{s:Shared}
end
section
variable {X:Cx}{k:Nat}{x:Str}{ps:List Str}{sp:Sp}{p pos np cpos:Pos}{e:Expr}{es:List Expr}{t:TA}
end
section
variable {X:Cx}{pins:List (Addr×Obj)}{σ:St}{H:Hp}{s:Shared}
end
section
variable {X:Cx}{c n:Str}{np hpos pos:Pos}{body hbody:List Stmt}{b₀:Stmt}{tb:TXS}{th:TS}{i:Nat}{C:Addr}
end
section
open PySem.W PySem.Builtin PySem.Builtin.ObjectAttr
variable {prog:Program}{w:World}{A:Around}{E:Value->Shared->Prop}{s:Shared}{K:Frag}{x C:Addr}{ox:Obj}{od:Option Obj}{name:Str}{R:Result->Shared->Prop}
end
section
variable {X:Cx}{pins:List (Addr×Obj)}{σ:St}{H:Hp}{s:Shared}
end
section
variable {X:Cx}{pins:List (Addr×Obj)}{σ:St}{H:Hp}{s:Shared}{a C:Addr}{f:Str}{A:Around}{E:Value->Shared->Prop}
open PySem.W PySem.Builtin PySem.Builtin.ObjectAttr
end
section
variable {X:Cx}{o e value:Expr}{f:Str}{pos pos':Pos}{ta tv:TE}
end
section
open PySem.W
end
section
variable {prog:Program}{w:World}{A:Around}{E:Value->Shared->Prop}{h:Heap}{g:Array GenState}{d:Drawn}{t:Nat}{os:OsState}
variable {nm q:Str}{C N:Addr}{bs bm bmB:List Value}{hdct:Bool}{sn:List Str}{sub:List Value}{ab:Bool}{col:Option Bool}{dd:Option Addr}{k0 k1 k2 k3 k5:Option Value}{B Bn newId nid initId inN:String}{bmN:List Value}
end
section
variable {X:Cx}{k:Nat}{x:Str}{sp:Sp}{ps:List Str}{C f:Addr}{fd:FuncData}{np cpos pos:Pos}{a:Expr}{t:TA}{E:XK}
end
section
variable {P:Program}{w:World}{K:Os}{mg:Str->Option Value}{base:Heap}
end
section
variable {X:Cx}{k:Nat}{x:Str}{ps:List Str}{sp:Sp}{p pos:Pos}{e:Expr}{es:List Expr}{t:TA}
end
section
open PySem.W PySem.Builtin PySem.Builtin.ObjectAttr
variable {prog:Program}{w:World}{A:Around}{E:Value->Shared->Prop}{s:Shared}{K:Frag}{x D:Addr}{ox:Obj}{od:Option Obj}
end
section
variable {X:Cx}{pins:List (Addr×Obj)}{σ:St}{H:Hp}{s:Shared}{a C':Addr}{od:Option Addr}
end
section
variable {X:Cx}
noncomputable def rEqI (K:Os):R2:=fun x y H Q=>∃(a c:Addr)(xs ys:List Int),x=.ref a/\y=.ref c/\SqT K H a (xs.map V.int)/\SqT K H c (ys.map V.int)/\Q (.bl (decide (xs=ys))) H
theorem Zib (hu:X.A.units+200 < cLine):OpR X (compareOp .Eq) (rEqI X.K):=by
 intro pins s σ H x y v u Q I rx ry h
 obtain ⟨a,c,xs,ys,rfl,rfl,hx,hy,q⟩:=h
 cases rx
 cases ry
 obtain ⟨its,r1,p1,_⟩:=I.tuple hx
 obtain ⟨its2,r2,p2,_⟩:=I.tuple hy
 obtain ⟨us,e1,f1⟩:=Zac r1
 obtain ⟨vs,e2,f2⟩:=Zac r2
 have l1:us.length=xs.length:=by rw [<- f1,O0]
 have l2:vs.length=ys.length:=by rw [<- f2,O0]
 refine SeqAt.eq_tupleAt (e:=fun j=>xs.getD j 0 == ys.getD j 0) (show s.heap.IsTuple a its.toArray from p1) (show s.heap.IsTuple c its2.toArray from p2) (by omega) (fun j h1 h2=>?_) ?_
 ·subst e1 e2
  simp only [Ox,O0] at h1 h2
  have g1:xs.getD j 0=us[j].1:=by rw [<- f1,Qw,Pk,Ou h1];rfl
  have g2:ys.getD j 0=vs[j].1:=by rw [<- f2,Qw,Pk,Ou h2];rfl
  rw [g1,g2]
  simp only [List.getElem_toArray,List.getElem_map]
  exact Pa.int_int _ _ _ _
 ·have e:((Pe (min its.toArray.size its2.toArray.size)).all (fun j=>xs.getD j 0 == ys.getD j 0) && its.toArray.size == its2.toArray.size)=decide (xs=ys):=by
   have z1:its.toArray.size=xs.length:=by rw [Ox,e1,O0,l1]
   have z2:its2.toArray.size=ys.length:=by rw [Ox,e2,O0,l2]
   rw [z1,z2,Zgs]
  rw [e]
  exact ⟨.bl _,H,I,rfl,q⟩
noncomputable def rEqB (K:Os):R2:=fun x y H Q=>Kn K x y H Q\/rEqI K x y H Q
theorem Zf0 (K:Os)(hu:X.A.units+200 < cLine)(hK:X.K=K:=by rfl):OpR X (compareOp .Eq) (rEqB K):=by subst hK;exact (Zcm hu).or (Zib hu)
theorem Znw {K:Os}{a c:Addr}{xs ys:List Int}{H:Hp}{Q:VK}(hx:SqT K H a (xs.map V.int))(hy:SqT K H c (ys.map V.int))(h:Q (.bl (decide (xs=ys))) H):rEqB K (.ref a) (.ref c) H Q:=.inr ⟨a,c,xs,ys,rfl,rfl,hx,hy,h⟩
end
end L2
namespace L2
open PySem
inductive C9:Dt->Prop where
 | flat (v:V):C9 (.flat v)
 | tup {ds:List Dt} (l:ds.length<=5000) (h:∀ d∈ds,C9 d):C9 (.tup ds)
 | lst {ds:List Dt} (l:ds.length<=5000) (h:∀ d∈ds,C9 d):C9 (.lst ds)
theorem Zdw {K:Os}{H:Hp}{n:Nat}{p:Addr}{pl:List Int}(q:SqT K H p (pl.map V.int)):IsD K H (n+1) (.ref p) (.tup (pl.map fun i=>.flat (.int i))):=by
 refine .tup q (by simp) fun j v d h1 h2=>?_
 rw [Pk] at h1 h2
 obtain ⟨k,hk,rfl⟩:=Ug.mp h1
 rw [hk] at h2
 cases h2
 exact .flat rfl
section
variable {g:TG}{tt:TT}{te:TE}{σ0:St}{H1:Hp}{D:Addr}{Q:VK}
end
end L2
namespace L2
open PySem PySem.Spec PyProof.Rows
section
variable {X:Cx}
end
section
variable {prog:Program}{w:World}{A:Around}{E:Value->Shared->Prop}{s:Shared}
end
section
variable {X:Cx}
end
section
variable {g:TG}{tt:TT}{te:TE}{σ0:St}{H1:Hp}{D:Addr}{Q:VK}
end
section
variable {X:Cx}
open PySem.Builtin PySem.Builtin.Str in
end
section
variable {prog:Program}{w:World}{A:Around}{E:Value->Shared->Prop}{s:Shared}
end
section
variable {X:Cx}
end
section
variable {X:Cx}{k:Nat}{x:Str}{ps:List Str}{sp:Sp}{p pos:Pos}
end
section
variable {X:Cx}{k:Nat}{x m:Str}{ps:List Str}{sp:Sp}{E:XK}{C:Addr}{p pos apos:Pos}{e o:Expr}{es:List Expr}{ta:TE}{t:TA}{CX:C5}{P:Program}{w:World}{mg:Str->Option Value}{base:Heap}
end
section
variable {X:Cx}{e o value:Expr}{f:Str}{pos pos':Pos}{ta tv:TE}{pins:List (Addr×Obj)}{σ:St}{H:Hp}{s:Shared}
end
section
variable {X:Cx}{pins:List (Addr×Obj)}{σ:St}{H:Hp}{s:Shared}
end
section
variable {P:Program}{w:World}{K:Os}{mg:Str->Option Value}{base:Heap}
end
section
variable {X:Cx}{k:Nat}{x:Str}{ps ks:List Str}{gV:List V->List V->List V}{sp:Sp}{E:XK}{C:Addr}{p pos kpos:Pos}{e:Expr}{es:List Expr}{kws:List Keyword}{te:TE}{t tk:TA}{CX:C5}{nm:Option Str}{f:Addr}{fd:FuncData}{g:List Value->List Value->List Value}
end
section
variable {X:Cx}{pins:List (Addr×Obj)}{σ:St}{H:Hp}{s:Shared}
end
section
variable {κ:Type}[DecidableEq κ]
noncomputable def Bk (kvs:List (κ×V))(k:κ):Option V:=(kvs.find? fun kv=>decide (kv.1=k)).map (·.2)
noncomputable def Bc (kvs:List (κ×V))(k:κ)(v:V):List (κ×V) :=
 if (kvs.any fun kv=>decide (kv.1=k))=true then kvs.map (fun kv=>if kv.1=k then (kv.1,v) else kv) else kvs++[(k,v)]
theorem Dx {p:κ×V}{r:List (κ×V)}{k:κ}(e:p.1=k):Bk (p::r) k=some p.2:=by simp [Bk,Q7,e]
theorem D3 {p:κ×V}{r:List (κ×V)}{k:κ}(e:¬ p.1=k):Bk (p::r) k=Bk r k:=by simp [Bk,Q7,e]
theorem Kv (k:κ):∀ kvs:List (κ×V),(kvs.any fun kv=>decide (kv.1=k))=(Bk kvs k).isSome
 | []=>rfl
 | p::r=>by
  rw [Si]
  by_cases e:p.1=k
  ·simp only [Dx e,decide_eq_true e,Bool.true_or,Option.isSome_some]
  ·rw [D3 e,decide_eq_false e,Bool.false_or];exact Kv k r
theorem Zbh (k j:κ)(y:V):∀ kvs:List (κ×V),Bk (kvs.map fun kv=>if kv.1=k then (kv.1,y) else kv) j=(Bk kvs j).map fun x=>if j=k then y else x
 | []=>rfl
 | p::r=>by
  have ih:=Zbh k j y r
  rw [Ql]
  by_cases h:p.1=k
  ·rw [if_pos h]
   by_cases e:p.1=j
   ·rw [Dx (p:=(p.1,y)) e,Dx e,Tu,if_pos (e.symm.trans h)]
   ·rw [D3 (p:=(p.1,y)) e,D3 e,ih]
  ·rw [if_neg h]
   by_cases e:p.1=j
   ·rw [Dx (p:=p) e,Dx e,Tu,if_neg (fun z=>h (e.trans z))]
   ·rw [D3 (p:=p) e,D3 e,ih]
theorem Zcp (k j:κ)(y:V):∀ kvs:List (κ×V),Bk kvs k=none->Bk (kvs++[(k,y)]) j=if j=k then some y else Bk kvs j
 | [],_=>by
  by_cases e:k=j
  ·rw [if_pos e.symm];exact Dx (p:=(k,y)) e
  ·rw [if_neg (fun z=>e z.symm)];exact D3 (p:=(k,y)) e
 | p::r,hn=>by
  rw [Tk]
  have hk:¬ p.1=k:=fun z=>by rw [Dx z] at hn;cases hn
  rw [D3 hk] at hn
  have ih:=Zcp k j y r hn
  by_cases e:p.1=j
  ·rw [Dx e,Dx e,if_neg (fun z=>hk (e.trans z))]
  ·rw [D3 e,D3 e,ih]
theorem Ic (kvs:List (κ×V))(k j:κ)(y:V):Bk (Bc kvs k y) j=if j=k then some y else Bk kvs j:=by
 unfold Bc
 by_cases a:(kvs.any fun kv=>decide (kv.1=k))=true
 ·rw [if_pos a,Zbh]
  rw [Kv] at a
  by_cases e:j=k
  ·obtain ⟨x,hx⟩:=R1.mp a
   rw [if_pos e,e,hx,Tu,if_pos rfl]
  ·rw [if_neg e]
   cases Bk kvs j with
   | none=>rfl
   | some x=>rw [Tu,if_neg e]
 ·rw [if_neg a]
  refine Zcp k j y kvs ?_
  rw [Kv] at a
  cases q:Bk kvs k with
  | none=>rfl
  | some x=>rw [q] at a;exact (a rfl).elim
theorem Dv (kvs:List (κ×V))(k:κ)(v:V):(Bc kvs k v).length<=kvs.length+1:=by
 unfold Bc
 split
 ·rw [O0];omega
 ·rw [O4,O3,Tv];omega
theorem RelO.isSome_eq {o:Option V}{u:Option Value}(r:RelO o u):o.isSome=u.isSome:=by
 cases o with
 | none=>cases u with
  | none=>rfl
  | some _=>exact (show False from r).elim
 | some _=>cases u with
  | none=>exact (show False from r).elim
  | some _=>rfl
theorem RelO.getD {o:Option V}{u:Option Value}{d:V}{d':Value}(r:RelO o u)(rd:RelV d d'):RelV (o.getD d) (u.getD d'):=by
 cases o with
 | none=>cases u with
  | none=>exact rd
  | some _=>exact (show False from r).elim
 | some _=>cases u with
  | none=>exact (show False from r).elim
  | some _=>exact r
theorem KV.val {kvs:List (κ×V)}{vs:List (κ×Value)}(r:KV kvs vs)(k:κ):RelO (Bk kvs k) (valueAt vs k):=by
 unfold KV at r
 induction r with
 | nil=>exact True.intro
 | @cons p q ps qs h t ih =>
  obtain ⟨h1,h2⟩:=h
  by_cases e:p.1=k
  ·have e':q.1=k:=h1.symm.trans e
   have b:valueAt (q::qs) k=some q.2:=by simp [valueAt,Q7,e']
   rw [Dx e,b];exact h2
  ·have e':¬ q.1=k:=fun z=>e (h1.trans z)
   have b:valueAt (q::qs) k=valueAt qs k:=by simp [valueAt,Q7,e']
   rw [D3 e,b];exact ih
theorem KV.any {kvs:List (κ×V)}{vs:List (κ×Value)}(r:KV kvs vs)(k:κ):(kvs.any fun kv=>decide (kv.1=k))=vs.any fun kv=>decide (kv.1=k):=by
 unfold KV at r
 induction r with
 | nil=>rfl
 | cons h t ih=>rw [Si,Si,ih,h.1]
theorem KV.repl {kvs:List (κ×V)}{vs:List (κ×Value)}(r:KV kvs vs)(k:κ){y:V}{u:Value}(ry:RelV y u) :
  KV (kvs.map fun kv=>if kv.1=k then (kv.1,y) else kv) (vs.map fun kv=>if kv.1=k then (kv.1,u) else kv):=by
 unfold KV at r ⊢
 induction r with
 | nil=>exact .nil
 | @cons p q ps qs h t ih =>
  rw [Ql,Ql]
  refine .cons ?_ ih
  obtain ⟨h1,h2⟩:=h
  by_cases e:p.1=k
  ·rw [if_pos e,if_pos (h1.symm.trans e)];exact ⟨h1,ry⟩
  ·rw [if_neg e,if_neg (fun z=>e (h1.trans z))];exact ⟨h1,h2⟩
theorem KV.put {kvs:List (κ×V)}{vs:List (κ×Value)}(r:KV kvs vs)(k:κ){y:V}{u:Value}(ry:RelV y u):KV (Bc kvs k y) (stored vs k u):=by
 unfold Bc stored
 rw [r.any k]
 by_cases e:(vs.any fun kv=>decide (kv.1=k))=true
 ·rw [if_pos e,if_pos e];exact r.repl k ry
 ·rw [if_neg e,if_neg e];exact Paired.snoc r ⟨rfl,ry⟩
theorem KV.length {kvs:List (κ×V)}{vs:List (κ×Value)}(r:KV kvs vs):kvs.length=vs.length:=Sf r
end
theorem E7 {P:Program}{w:World}{k:Aq}{u:Value}(r:RelV (kV k) u):(Cm P w).is k u=true:=by
 cases k with
 | inl i=>obtain ⟨t,e⟩:=(show ∃ t,u=Value.int i t from r);subst e;exact Zgz P w i t
 | inr x=>obtain ⟨t,e⟩:=(show ∃ t,u=Value.str x t from r);subst e;exact Zm7 P w x t
theorem Zfa {P:Program}{w:World}:∀{ks:List Aq}{us:List Value},Vals (ks.map kV) us->ItemsAre (Cm P w) ks us
 | [],_,r=>by rw [List.map_nil] at r;cases r;exact .nil
 | k::ks,_,r=>by
  rw [Ql] at r
  cases r with
  | cons h t=>exact .cons (E7 h) (Zfa t)
noncomputable abbrev KT (H:Hp):List (List Aq×V)->List (List Aq×Addr×Value)->Prop:=Paired fun p q=>p.1=q.1/\H q.2.1=some (.tup (p.1.map kV))/\RelV p.2 q.2.2
theorem KT.val {H:Hp}{kvs:List (List Aq×V)}{xs:List (List Aq×Addr×Value)}(r:KT H kvs xs)(k:List Aq):RelO (Bk kvs k) ((atKey xs k).map (·.2)):=by
 induction r with
 | nil=>exact True.intro
 | @cons p q ps qs h t ih =>
  obtain ⟨h1,_,h2⟩:=h
  by_cases e:p.1=k
  ·have e':q.1=k:=h1.symm.trans e
   have b:atKey (q::qs) k=some q.2:=by simp [atKey,Q7,e']
   rw [Dx e,b];exact h2
  ·have e':¬ q.1=k:=fun z=>e (h1.trans z)
   have b:atKey (q::qs) k=atKey qs k:=by simp [atKey,Q7,e']
   rw [D3 e,b];exact ih
theorem KT.repl {H:Hp}{kvs:List (List Aq×V)}{xs:List (List Aq×Addr×Value)}(r:KT H kvs xs)(k:List Aq){y:V}{u:Value}(ry:RelV y u) :
  KT H (kvs.map fun kv=>if kv.1=k then (kv.1,y) else kv) (xs.map (putAt k u)):=by
 induction r with
 | nil=>exact .nil
 | @cons p q ps qs h t ih =>
  rw [Ql,Ql]
  refine .cons ?_ ih
  obtain ⟨h1,h2,h3⟩:=h
  unfold putAt
  by_cases e:p.1=k
  ·rw [if_pos e,if_pos (h1.symm.trans e)];exact ⟨h1,h2,ry⟩
  ·rw [if_neg e,if_neg (fun z=>e (h1.trans z))];exact ⟨h1,h2,h3⟩
theorem KT.put {H:Hp}{kvs:List (List Aq×V)}{xs:List (List Aq×Addr×Value)}(r:KT H kvs xs)(k:List Aq){b:Addr}{y:V}{u:Value}(hb:H b=some (.tup (k.map kV)))(ry:RelV y u) :
  KT H (Bc kvs k y) (storedH xs k b u):=by
 have e:(kvs.any fun kv=>decide (kv.1=k))=(atKey xs k).isSome:=by
  rw [Kv,(r.val k).isSome_eq,Uy]
 unfold Bc storedH
 rw [e]
 by_cases q:(atKey xs k).isSome=true
 ·rw [if_pos q,if_pos q];exact r.repl k ry
 ·rw [if_neg q,if_neg q];exact Paired.snoc r ⟨rfl,hb,ry⟩
theorem KT.keeps {H H':Hp}{kvs:List (List Aq×V)}{xs:List (List Aq×Addr×Value)}(r:KT H kvs xs)(ht:∀ b ys,H b=some (.tup ys)->H' b=some (.tup ys)):KT H' kvs xs :=
 Paired.mapP r fun _ _ z=>⟨z.1,ht _ _ z.2.1,z.2.2⟩
section
variable {P:Program}{w:World}{H:Hp}{h:Heap}{a:Addr}
theorem Zcd {u:HO}(ok:HOk P w H h)(e:Rd H a u):ObjOk P w H h a u:=e.ok ok
theorem Eu {kvs:List (Aq×V)}(ok:HOk P w H h)(e:Rd H a (.dK kvs)):kvs.length<=sizeLine/\(a == sysModules)=false/\∃ vs,KV kvs vs/\h.DictOf (Cm P w) a vs :=
 show ObjOk P w H h a (.dK kvs) from Zcd ok e
theorem Zdj {kvs:List (Aq×V)}(ok:HOk P w H h)(e:H a=some (.dK kvs)):kvs.length<=sizeLine/\(a == sysModules)=false/\∃ vs,KV kvs vs/\h.DictOf (Cm P w) a vs:=Eu ok (.inl e)
theorem Fa {ks:List Aq}(ok:HOk P w H h)(e:H a=some (.tup (ks.map kV))):(tupleKind (Cm P w)).is h ks a:=by
 obtain ⟨_,its,r,o,h1,h2,n,h3⟩:=(show ObjOk P w H h a (.tup (ks.map kV)) from ok a _ e)
 exact ⟨o,its.toArray,n,h1,h2,h3,by simpa using Zfa r⟩
theorem Fb {kvs:List (List Aq×V)}(ok:HOk P w H h)(e:Rd H a (.dT kvs)):kvs.length<=sizeLine/\(a == sysModules)=false /\
  ∃ xs,KT H kvs xs/\h.DictOfH (tupleKind (Cm P w)) a xs:=by
 obtain ⟨z,y,xs,r,o,es,ep,h1,h2,h3,h4,h5⟩:=(show ObjOk P w H h a (.dT kvs) from Zcd ok e)
 refine ⟨z,y,xs,r,o,es,ep,h1,h2,h3,h4,fun x hx=>?_,h5⟩
 have all:∀{l:List (List Aq×V)}{m:List (List Aq×Addr×Value)},KT H l m->∀ x∈m,(tupleKind (Cm P w)).is h x.1 x.2.1:=by
  intro l m q
  induction q with
  | nil=>intro x hx;exact nomatch hx
  | @cons p q ps qs hq t ih =>
   intro x hx
   rcases O1.mp hx with e | hx
   ·subst e
    exact Fa ok (by rw [<- hq.1];exact hq.2.1)
   ·exact ih x hx
 exact all r x hx
theorem Zek {kvs:List (List Aq×V)}(ok:HOk P w H h)(e:H a=some (.dT kvs)):kvs.length<=sizeLine/\(a == sysModules)=false /\
  ∃ xs,KT H kvs xs/\h.DictOfH (tupleKind (Cm P w)) a xs:=Fb ok (.inl e)
end
noncomputable def DGet (H:Hp)(a:Addr)(y:V)(r:Option V):Prop :=
 (∃ kvs k,Rd H a (.dK kvs)/\y=kV k/\r=Bk kvs k)\/∃ kvs k b,Rd H a (.dT kvs)/\y=.ref b/\H b=some (.tup (k.map kV))/\r=Bk kvs k
noncomputable def DPut (H:Hp)(a:Addr)(y v:V)(H':Hp):Prop :=
 (∃ kvs k,H a=some (.dK kvs)/\y=kV k/\kvs.length < sizeLine/\H'=upd H a (.dK (Bc kvs k v))) \/
 ∃ kvs k b,H a=some (.dT kvs)/\y=.ref b/\H b=some (.tup (k.map kV))/\kvs.length < sizeLine/\H'=upd H a (.dT (Bc kvs k v))
theorem DGet.k {H:Hp}{a:Addr}{kvs:List (Aq×V)}{k:Aq}(e:H a=some (.dK kvs)):DGet H a (kV k) (Bk kvs k):=.inl ⟨kvs,k,.inl e,rfl,rfl⟩
theorem DGet.t {H:Hp}{a b:Addr}{kvs:List (List Aq×V)}{k:List Aq}(e:H a=some (.dT kvs))(eb:H b=some (.tup (k.map kV))):DGet H a (.ref b) (Bk kvs k):=.inr ⟨kvs,k,b,.inl e,rfl,eb,rfl⟩
theorem DPut.k {H:Hp}{a:Addr}{kvs:List (Aq×V)}{k:Aq}{v:V}(e:H a=some (.dK kvs))(hl:kvs.length < sizeLine):DPut H a (kV k) v (upd H a (.dK (Bc kvs k v))):=.inl ⟨kvs,k,e,rfl,hl,rfl⟩
theorem DPut.t {H:Hp}{a b:Addr}{kvs:List (List Aq×V)}{k:List Aq}{v:V}(e:H a=some (.dT kvs))(eb:H b=some (.tup (k.map kV)))(hl:kvs.length < sizeLine) :
  DPut H a (.ref b) v (upd H a (.dT (Bc kvs k v))):=.inr ⟨kvs,k,b,e,rfl,eb,hl,rfl⟩
section
variable {X:Cx}{pins:List (Addr×Obj)}{σ:St}{H:Hp}{s:Shared}{a:Addr}{y v:V}{u r:Value}{o:Option V}{A:Around}{E:Value->Shared->Prop}
theorem Inv.big (I:Inv X pins σ H s):sysModules < s.heap.objs.size:=by
 have h:mainGlobals < s.heap.objs.size:=(I.mod.glob.keeps I.bk).lt
 exact Nat.lt_trans (by decide) h
theorem Zhu {Q:Value->Shared->Prop}(hu:A.units+1 < cLine)(I:Inv X pins σ H s)(g:DGet H a y (some v))(ry:RelV y u)(h:∀ w' s',Inv X pins σ H s'->RelV v w'->Q w' s') :
  wpAny (model X.prog X.w) A (getItem (.ref a) u) Q E s:=by
 rcases g with ⟨kvs,k,e,ey,l⟩ | ⟨kvs,k,b,e,ey,eb,l⟩
 ·subst ey
  obtain ⟨z,hd,vs,rel,dd⟩:=Eu I.hok e
  obtain ⟨w',hw,rw'⟩:=RelO.some_of (v:=v) (o:=valueAt vs k) (by rw [l];exact rel.val k)
  exact wpAny_getItem_of (E7 ry) dd.mapOf hw (h w' _ (I.tok _) rw')
 ·subst ey
  cases (show u=Value.ref b from ry)
  obtain ⟨z,hd,xs,rel,dd⟩:=Fb I.hok e
  obtain ⟨w',hw,rw'⟩:=RelO.some_of (v:=v) (o:=(atKey xs k).map (·.2)) (by rw [l];exact rel.val k)
  obtain ⟨p,hp,hp2⟩:=Ug.mp hw
  refine wpAny_getItem_heap (Rm hu) (Fa I.hok eb) dd hp ?_
  rw [hp2]
  exact h w' _ (I.tok _) rw'
theorem d_in {Q:Value->Shared->Prop}(hu:A.units+1 < cLine)(I:Inv X pins σ H s)(g:DGet H a y o)(ry:RelV y u)(h:∀ s',Inv X pins σ H s'->Q (.bool o.isSome) s') :
  wpAny (model X.prog X.w) A (compareOp .In u (.ref a)) Q E s:=by
 rcases g with ⟨kvs,k,e,ey,l⟩ | ⟨kvs,k,b,e,ey,eb,l⟩
 ·subst ey
  obtain ⟨z,hd,vs,rel,dd⟩:=Eu I.hok e
  refine wpAny_in_of (E7 ry) hd dd.mapOf ?_
  rw [<- (rel.val k).isSome_eq,<- l]
  exact h _ (I.tok _)
 ·subst ey
  cases (show u=Value.ref b from ry)
  obtain ⟨z,hd,xs,rel,dd⟩:=Fb I.hok e
  refine wpAny_in_heap (Rm hu) (Fa I.hok eb) hd dd ?_
  have q:=(rel.val k).isSome_eq
  rw [Uy] at q
  rw [<- q,<- l]
  exact h _ (I.tok _)
theorem Zpl {Q:Value->Shared->Prop}(hu:A.units+1 < cLine)(I:Inv X pins σ H s)(g:DGet H a y o)(ry:RelV y u)(h:∀ s',Inv X pins σ H s'->Q (.bool (!o.isSome)) s') :
  wpAny (model X.prog X.w) A (compareOp .NotIn u (.ref a)) Q E s:=by
 rcases g with ⟨kvs,k,e,ey,l⟩ | ⟨kvs,k,b,e,ey,eb,l⟩
 ·subst ey
  obtain ⟨z,hd,vs,rel,dd⟩:=Eu I.hok e
  refine wpAny_notIn_of (E7 ry) hd dd.mapOf ?_
  rw [<- (rel.val k).isSome_eq,<- l]
  exact h _ (I.tok _)
 ·subst ey
  cases (show u=Value.ref b from ry)
  obtain ⟨z,hd,xs,rel,dd⟩:=Fb I.hok e
  refine wpAny_notIn_heap (Rm hu) (Fa I.hok eb) hd dd ?_
  have q:=(rel.val k).isSome_eq
  rw [Uy] at q
  rw [<- q,<- l]
  exact h _ (I.tok _)
theorem Lc {h':Heap}{t':Nat}{ob:HO}(I:Inv X pins σ H s)(mu:Mut (H a))(hs:O7 a s.heap h')(he:∃ q,h'.get? a=some q)(new:ObjOk X.prog X.w (upd H a ob) h' a ob) :
  Inv X pins σ (upd H a ob) { s with heap:=h',toks:=t' } :=
 I.write (x:=a) (e:=a) mu (.inl rfl) (fun b q hb z=>(hs.2 b hb).trans z) he new
theorem Zaz {P:Program}{w:World}{H':Hp}{h':Heap}{kvs:List (Aq×V)}{vs:List (Aq×Value)}(z:kvs.length<=sizeLine)(hd:(a == sysModules)=false)(rel:KV kvs vs)(dd:h'.DictOf (Cm P w) a vs) :
  ObjOk P w H' h' a (.dK kvs):=⟨z,hd,vs,rel,dd⟩
theorem Zok {H':Hp}{Q:Unit->Shared->Prop}(hu:A.units+1 < cLine)(I:Inv X pins σ H s)(g:DPut H a y v H')(ry:RelV y u)(rv:RelV v r)(h:∀ s',Inv X pins σ H' s'->Q () s') :
  wpAny (model X.prog X.w) A (setItem (.ref a) u r) Q E s:=by
 rcases g with ⟨kvs,k,e,ey,l,eH⟩ | ⟨kvs,k,b,e,ey,eb,l,eH⟩
 ·subst ey eH
  obtain ⟨z,hd,vs,rel,dd⟩:=Zdj I.hok e
  have hz:vs.length<=sizeLine:=by rw [<- rel.length];exact z
  have hl:(Bc kvs k v).length<=sizeLine:=by have:=Dv kvs k v;omega
  refine wpAny_setItem_pairs (hsz:=hz) (E7 ry) dd fun h' dd' hs=>h _ ?_
  have he:∃ q,h'.get? a=some q:=let ⟨q,_,_,hq,_⟩:=dd';⟨q,hq⟩
  exact Lc I (by rw [e];exact True.intro) hs he (Zaz hl hd (rel.put k rv) dd')
 ·subst ey eH
  cases (show u=Value.ref b from ry)
  obtain ⟨z,hd,xs,rel,dd⟩:=Zek I.hok e
  have hz:xs.length<=sizeLine:=by rw [<- Sf rel];exact z
  have hl:(Bc kvs k v).length<=sizeLine:=by have:=Dv kvs k v;omega
  refine wpAny_setItem_heap (hsz:=hz) (Rm hu) (Fa I.hok eb) dd fun h' dd' hs=>h _ ?_
  obtain ⟨q,es,ep,hq,h2,h3,h4,_,h5⟩:=dd'
  refine Lc I (by rw [e];exact True.intro) hs ⟨q,hq⟩ ⟨hl,hd,_,(rel.put k eb rv).keeps fun c ys ec=>?_,q,es,ep,hq,h2,h3,h4,h5⟩
  rw [Ai (Eb ec e (fun z=>nomatch z))]
  exact ec
end
section
variable {X:Cx}{pins:List (Addr×Obj)}{σ:St}{H:Hp}{s:Shared}{a:Addr}{kvs:List (Aq×V)}{k:Aq}{u:Value}{A:Around}{E:Value->Shared->Prop}
end
noncomputable def Nv (i:Expr):Prop:=∀ ov iv,subscripted i false ov iv=operate [ov,iv] (getItem ov iv)
theorem Zo1 {prog:Program}{w:World}{A:Around}{E:Value->Shared->Prop}{s:Shared}{env:Env}{value slice:Expr}{pos:Pos}{T id:String}{Q:Value->Shared->Prop}
  (hl:typeLookup (.type T) "__getitem__" = pure (some (.builtin id))) (hs:Nv slice)
  (h:wpAny (model prog w) A (eval value env) (fun o s₁=>wpAny (model prog w) A (eval slice env) (fun i s₂=>s₂.TypeIs o T/\wpAny (model prog w) A (getItem o i) Q E s₂) E s₁) E s) :
  wpAny (model prog w) A (eval (.Subscript value slice pos) env) Q E s:=by
 refine Subscript_ (Rx h (fun o s₁ h₁=>Rx h₁ (fun i s₂ h₂=>?_) fun _ _ x=>x) fun _ _ x=>x)
 obtain ⟨hT,h₂⟩:=h₂
 unfold subscriptTail
 refine Ot ?_
 rw [getitemInPython_of_ne hT.not_modules]
 refine Ot (Sb hT hl ?_)
 have fin:wpAny (model prog w) A (subscripted slice false o i) (fun r s₃=>wpAny (model prog w) A (letTemporaryGo value o r >>= fun _=>pure r) Q E s₃) E s₂:=by
  rw [hs o i]
  exact wpAny_operating (Rx h₂ (fun r s₃ h₃=>Ot (wpAny_letTemporaryGo (Ov h₃))) fun _ _ x=>x)
 first
  | exact Ov (Ot fin)
  | exact Ot (Ov (Ot fin))
  | exact Ot fin
theorem Zg0 {X:Cx}{pins:List (Addr×Obj)}{σ:St}{H:Hp}{s:Shared}{a:Addr}{y:V}{o:Option V}(I:Inv X pins σ H s)(g:DGet H a y o):s.TypeIs (.ref a) "dict" := by
 rcases g with ⟨kvs,k,e,_,_⟩ | ⟨kvs,k,b,e,_,_,_⟩
 ·obtain ⟨_,_,vs,_,dd⟩:=Eu I.hok e
  exact dd.typeIs
 ·obtain ⟨_,_,xs,_,dd⟩:=Fb I.hok e
  exact dd.typeIs
noncomputable def Za6 (td ty:TE):TE:=fun σ H Q=>td σ H fun x H1=>ty σ H1 fun y H2=>∃ a v,x=.ref a/\DGet H2 a y (some v)/\Q v H2
noncomputable def Zag (ty td:TE):TE:=fun σ H Q=>ty σ H fun y H1=>td σ H1 fun x H2=>∃ a o,x=.ref a/\DGet H2 a y o/\Q (.bl o.isSome) H2
noncomputable def Za8 (ty td:TE):TE:=fun σ H Q=>ty σ H fun y H1=>td σ H1 fun x H2=>∃ a o,x=.ref a/\DGet H2 a y o/\Q (.bl (!o.isSome)) H2
noncomputable def Mu (td ty tv:TE):TS:=fun D σ H=>tv σ H fun v H1=>td σ H1 fun x H2=>ty σ H2 fun y H3=>∃ a H4,x=.ref a/\DPut H3 a y v H4/\D.nx σ H4
section
variable {X:Cx}{o i e value:Expr}{pos pos' tpos:Pos}{td ty tv:TE}
theorem Zhk (hu:X.A.units+1 < cLine)(ho:PE X o td)(hi:PE X i ty)(hs:Nv i):PE X (.Subscript o i pos) (Za6 td ty):=by
 intro pins s σ H Q I h
 refine Zo1 PySem.F.slot_dict_getitem.lookup hs (Aj (ho pins s σ H _ I h) fun u s1 zq=>?_)
 obtain ⟨x,H1,I1,rx,q1⟩:=zq
 refine Aj (hi pins s1 σ H1 _ I1 q1) fun iv s2 zq=>?_
 obtain ⟨y,H2,I2,ry,a,v,ex,g,q2⟩:=zq
 subst ex
 obtain rfl:u=Value.ref a:=rx
 exact ⟨Zg0 I2 g,Zhu hu I2 g ry fun w' s3 I3 rw'=>⟨v,H2,I3,rw',q2⟩⟩
theorem Zpy (hu:X.A.units+1 < cLine)(hi:PE X i ty)(ho:PE X o td):PC X .In i o (Zag ty td):=by
 intro pins s σ H Q I h
 refine Aj (hi pins s σ H _ I h) fun iv s1 zq=>?_
 obtain ⟨y,H1,I1,ry,q1⟩:=zq
 refine Aj (ho pins s1 σ H1 _ I1 q1) fun u s2 zq=>?_
 obtain ⟨x,H2,I2,rx,a,ov,ex,g,q2⟩:=zq
 subst ex
 obtain rfl:u=Value.ref a:=rx
 exact d_in hu I2 g ry fun s3 I3=>⟨.bl ov.isSome,H2,I3,rfl,q2⟩
theorem Zj7 (hu:X.A.units+1 < cLine)(hi:PE X i ty)(ho:PE X o td):PC X .NotIn i o (Za8 ty td):=by
 intro pins s σ H Q I h
 refine Aj (hi pins s σ H _ I h) fun iv s1 zq=>?_
 obtain ⟨y,H1,I1,ry,q1⟩:=zq
 refine Aj (ho pins s1 σ H1 _ I1 q1) fun u s2 zq=>?_
 obtain ⟨x,H2,I2,rx,a,ov,ex,g,q2⟩:=zq
 subst ex
 obtain rfl:u=Value.ref a:=rx
 exact Zpl hu I2 g ry fun s3 I3=>⟨.bl (!ov.isSome),H2,I3,rfl,q2⟩
theorem Zlk (hu:X.A.units+1 < cLine)(ho:PE X o td)(hi:PE X i ty)(hv:PE X value tv)(hs:swapsWith value (some (.Subscript o i pos')) pos.line X.env=pure false) :
  PS X (.Assign [.Subscript o i pos'] value pos) (Mu td ty tv):=by
 intro pins s σ H D I h
 refine wpAny_Assign_Subscript (Aj (hv pins s σ H _ I h) fun r s1 zq=>?_) hs
 obtain ⟨v,H1,I1,rv,q1⟩:=zq
 refine Aj (ho pins s1 σ H1 _ I1 q1) fun u s2 zq=>?_
 obtain ⟨x,H2,I2,rx,q2⟩:=zq
 refine Aj (hi pins s2 σ H2 _ I2 q2) fun iv s3 zq=>?_
 obtain ⟨y,H3,I3,ry,a,H4,ex,g,q3⟩:=zq
 subst ex
 obtain rfl:u=Value.ref a:=rx
 exact Zok hu I3 g ry rv fun s4 I4=>⟨σ,H4,I4,q3⟩
end
theorem Zds {P:Program}{w:World}{H:Hp}(h:Heap)(hb:sysModules < h.objs.size):ObjOk P w H (h.push { cls:=.type "dict",data:=.dict #[] }) h.objs.size (.dK []) :=
 ⟨Ph _,beq_eq_false_iff_ne.mpr (Pj (O5 hb)),[],.nil,Heap.DictOf.new h⟩
theorem Nr {P:Program}{w:World}{H:Hp}(h:Heap)(hb:sysModules < h.objs.size):ObjOk P w H (h.push { cls:=.type "dict",data:=.dict #[] }) h.objs.size (.dT []) :=
 ⟨Ph _,beq_eq_false_iff_ne.mpr (Pj (O5 hb)),[],.nil,_,#[],0,Pc _ rfl,⟨rfl,rfl,rfl⟩,rfl,rfl,List.nodup_nil⟩
noncomputable def Zfy:TE:=fun _ H Q=>∀ p,H p=none->Q (.ref p) (upd H p (.dK []))
noncomputable def Zda:TE:=fun _ H Q=>∀ p,H p=none->Q (.ref p) (upd H p (.dT []))
section
variable {X:Cx}{pos:Pos}
theorem Zge:PE X (.Dict [] [] pos) Zfy:=fun pins s σ H Q I h =>
 wpAny_Dict_empty ⟨.ref s.heap.objs.size,_,I.laid (a:=s.heap.objs.size) (o:=.dK []) (t':=s.toks) (fun _ _ q=>Oz _ q) (Ow _) (Zds s.heap I.big),rfl,h _ (I.hok.fresh (Ow _))⟩
theorem Zm1:PE X (.Dict [] [] pos) Zda:=fun pins s σ H Q I h =>
 wpAny_Dict_empty ⟨.ref s.heap.objs.size,_,I.laid (a:=s.heap.objs.size) (o:=.dT []) (t':=s.toks) (fun _ _ q=>Oz _ q) (Ow _) (Nr s.heap I.big),rfl,h _ (I.hok.fresh (Ow _))⟩
end
structure M1 (X:Cx)(o:Expr)(m:Str)(apos:Pos)(e:Expr)(cpos:Pos):Prop where
 base:attributeBase o m X.env (eval o X.env)=eval o X.env
 few:((backTo cpos (starEach [e] X.env)).all (fun x=>!x.1) && (backToKw cpos (keywordEach [] X.env)).all (fun x=>x.1.isSome)
  && decide (([e]:List Expr).length+([]:List Keyword).length+(if ([]:List Keyword).isEmpty then 0 else 1) < 30))=true
 line:(apos.endLine == cpos.line)=true
 trees:backTo cpos (starEach [e] X.env)=[(false,eval e X.env)]
structure M2 (X:Cx)(o:Expr)(m:Str)(apos:Pos)(e f:Expr)(cpos:Pos):Prop where
 base:attributeBase o m X.env (eval o X.env)=eval o X.env
 few:((backTo cpos (starEach [e,f] X.env)).all (fun x=>!x.1) && (backToKw cpos (keywordEach [] X.env)).all (fun x=>x.1.isSome)
  && decide (([e,f]:List Expr).length+([]:List Keyword).length+(if ([]:List Keyword).isEmpty then 0 else 1) < 30))=true
 line:(apos.endLine == cpos.line)=true
 trees:backTo cpos (starEach [e,f] X.env)=[(false,eval e X.env),(false,eval f X.env)]
noncomputable def DcD (H:Hp)(a:Addr):Prop:=(∃ kvs,Rd H a (.dK kvs))\/∃ kvs,Rd H a (.dT kvs)
theorem Zbd {X:Cx}{pins:List (Addr×Obj)}{σ:St}{H:Hp}{s:Shared}{a:Addr}(I:Inv X pins σ H s)(d:DcD H a) :
  s.TypeIs (.ref a) "dict" /\ (∀ b,Value.ref a=.ref b->∃ ob,s.heap.get? b=some ob/\ob.dict=none)/\(a == sysModules)=false:=by
 rcases d with ⟨kvs,e⟩ | ⟨kvs,e⟩
 ·obtain ⟨_,hd,vs,_,dd⟩:=Eu I.hok e
  refine ⟨dd.typeIs,fun b q=>?_,hd⟩
  cases q
  obtain ⟨ob,_,_,h1,h2,_⟩:=dd
  exact ⟨ob,h1,h2.2.1⟩
 ·obtain ⟨_,hd,xs,_,dd⟩:=Fb I.hok e
  refine ⟨dd.typeIs,fun b q=>?_,hd⟩
  cases q
  obtain ⟨ob,_,_,h1,h2,_⟩:=dd
  exact ⟨ob,h1,h2.2.1⟩
section
variable {X:Cx}{pins:List (Addr×Obj)}{σ:St}{H:Hp}{s:Shared}{a:Addr}{y d:V}{u r:Value}{o:Option V}{A:Around}{E:Value->Shared->Prop}
theorem Ziz {Q:Value->Shared->Prop}(hu:A.units+1 < cLine)(I:Inv X pins σ H s)(g:DGet H a y o)(ry:RelV y u)(h:∀ w' s',Inv X pins σ H s'->RelV (o.getD .non) w'->Q w' s') :
  wpAny (model X.prog X.w) A (call (.builtin "dict.get") [.ref a,u]) Q E s:=by
 rcases g with ⟨kvs,k,e,ey,l⟩ | ⟨kvs,k,b,e,ey,eb,l⟩
 ·subst ey
  obtain ⟨z,hd,vs,rel,dd⟩:=Eu I.hok e
  refine T6 Rk dd.typeIs Te (PySem.F.args_dict_get_2 _ _) (meets_dict_get (Cm X.prog X.w) a (E7 ry) hd) ⟨_,dd.mapOf,h _ _ (I.tok _) ?_⟩
  rw [l]
  exact (rel.val k).getD rfl
 ·subst ey
  cases (show u=Value.ref b from ry)
  obtain ⟨z,hd,xs,rel,dd⟩:=Fb I.hok e
  refine T6 Rk dd.typeIs Te (PySem.F.args_dict_get_2 _ _) (meetsH_dict_get (tupleKind (Cm X.prog X.w)) a b hd) ⟨Rm hu,k,xs,Fa I.hok eb,dd,h _ _ (I.tok _) ?_⟩
  rw [l]
  exact (rel.val k).getD rfl
theorem Zn0 {Q:Value->Shared->Prop}(hu:A.units+1 < cLine)(I:Inv X pins σ H s)(g:DGet H a y o)(ry:RelV y u)(rd:RelV d r)(h:∀ w' s',Inv X pins σ H s'->RelV (o.getD d) w'->Q w' s') :
  wpAny (model X.prog X.w) A (call (.builtin "dict.get") [.ref a,u,r]) Q E s:=by
 rcases g with ⟨kvs,k,e,ey,l⟩ | ⟨kvs,k,b,e,ey,eb,l⟩
 ·subst ey
  obtain ⟨z,hd,vs,rel,dd⟩:=Eu I.hok e
  refine T6 Rk dd.typeIs Te (PySem.F.args_dict_get_3 _ _ _) (meets_dict_get_default (Cm X.prog X.w) a (E7 ry) hd r) ⟨_,dd.mapOf,h _ _ (I.tok _) ?_⟩
  rw [l]
  exact (rel.val k).getD rd
 ·subst ey
  cases (show u=Value.ref b from ry)
  obtain ⟨z,hd,xs,rel,dd⟩:=Fb I.hok e
  refine T6 Rk dd.typeIs Te (PySem.F.args_dict_get_3 _ _ _) (meetsH_dict_get_default (tupleKind (Cm X.prog X.w)) a b hd r) ⟨Rm hu,k,xs,Fa I.hok eb,dd,h _ _ (I.tok _) ?_⟩
  rw [l]
  exact (rel.val k).getD rd
end
noncomputable def N1 (td ty:TE):TE:=fun σ H Q=>td σ H fun x H1=>∃ a,x=.ref a/\DcD H1 a/\ty σ H1 fun y H2=>∃ o,DGet H2 a y o/\Q (o.getD .non) H2
noncomputable def Za9 (td ty tx:TE):TE:=fun σ H Q=>td σ H fun x H1=>∃ a,x=.ref a/\DcD H1 a/\ty σ H1 fun y H2=>tx σ H2 fun z H3=>∃ o,DGet H3 a y o/\Q (o.getD z) H3
section
variable {X:Cx}{o e f:Expr}{apos cpos:Pos}{td ty tx:TE}
theorem Zjl (hu:X.A.units+1 < cLine)(ho:PE X o td)(he:PE X e ty)(m:M1 X o "get" apos e cpos):PE X (.Call (.Attribute o "get" apos) [e] [] cpos) (N1 td ty):=by
 intro pins s σ H Q I h
 refine wpAny_Call_method m.base m.few m.line PySem.F.plainAttrs_dict Rk PySem.F.type_dict_get (Aj (ho pins s σ H _ I h) fun u s1 zq=>?_)
 obtain ⟨x,H1,I1,rx,a,ex,d,q1⟩:=zq
 subst ex
 obtain rfl:u=Value.ref a:=rx
 obtain ⟨t1,t2,_⟩:=Zbd I1 d
 refine ⟨t1,t2,?_⟩
 rw [m.trees]
 refine Tb rfl (Ui (Q1 (Aj (he pins s1 σ H1 _ I1 q1) fun iv s2 zq=>?_)))
 obtain ⟨y,H2,I2,ry,ov,g,q2⟩:=zq
 refine Rn ?_
 exact Ziz hu I2 g ry fun w' s3 I3 rw'=>⟨_,H2,I3,rw',q2⟩
theorem Zgj (hu:X.A.units+1 < cLine)(ho:PE X o td)(he:PE X e ty)(hf:PE X f tx)(m:M2 X o "get" apos e f cpos):PE X (.Call (.Attribute o "get" apos) [e,f] [] cpos) (Za9 td ty tx):=by
 intro pins s σ H Q I h
 refine wpAny_Call_method m.base m.few m.line PySem.F.plainAttrs_dict Rk PySem.F.type_dict_get (Aj (ho pins s σ H _ I h) fun u s1 zq=>?_)
 obtain ⟨x,H1,I1,rx,a,ex,d,q1⟩:=zq
 subst ex
 obtain rfl:u=Value.ref a:=rx
 obtain ⟨t1,t2,_⟩:=Zbd I1 d
 refine ⟨t1,t2,?_⟩
 rw [m.trees]
 refine Tb rfl (Ui (Q1 (Aj (he pins s1 σ H1 _ I1 q1) fun iv s2 ⟨y,H2,I2,ry,q2⟩ =>
  Q1 (Aj (hf pins s2 σ H2 _ I2 q2) fun fv s3 ⟨z,H3,I3,rz,ov,g,q3⟩=>Rn ?_))))
 exact Zn0 hu I3 g ry rz fun w' s4 I4 rw'=>⟨_,H3,I4,rw',q3⟩
end
section
variable {X:Cx}{pins:List (Addr×Obj)}{σ:St}{H:Hp}{s:Shared}{a:Addr}{kvs:List (Aq×V)}{A:Around}{E:Value->Shared->Prop}
theorem Zp0 {Q:Value->Shared->Prop}(I:Inv X pins σ H s)(e:Rd H a (.dK kvs))(h:∀ p s',H p=none->Inv X pins σ (upd H p (.dK kvs)) s'->Q (.ref p) s'):wpAny (model X.prog X.w) A (call (.type "dict") [.ref a]) Q E s:=by
 obtain ⟨z,hd,vs,rel,dd⟩:=Eu I.hok e
 refine kt_call_dict hd dd (by rw [<- rel.length];exact z) fun h' dd' hs=>?_
 refine h _ _ (I.hok.fresh (Ow _)) (I.laid (a:=s.heap.objs.size) (o:=.dK kvs) (t':=s.toks) (fun b q hq=>?_) (Ow _) (Zaz z (beq_eq_false_iff_ne.mpr (Pj (O5 I.big))) rel dd'))
 exact (hs.2 b (O5 (Oy hq))).trans (Oz _ hq)
end
section
variable {X:Cx}{pins:List (Addr×Obj)}{σ:St}{H:Hp}{s:Shared}{a:Addr}{y:V}{u:Value}{A:Around}{E:Value->Shared->Prop}
end
end L2
namespace PySem
theorem Zkf:typeLookup (.type "list") "keys" = pure none:=by rw [Q6,Qy];kernel_rfl
theorem Zoi {prog:Program}{w:World}{A:Around}{E:Value->Shared->Prop}{s:Shared}{a:Addr}{o:Obj}{xs:Array Value}{k:Nat}{name:Str}{Q:Option Value->Shared->Prop}
  (hx:s.heap.get? a=some o) (hc:o.cls=.type "list") (hdat:o.data=.seq xs k) (hd:o.dict=none) (hmiss:typeLookup (.type "list") name=pure none) (hname:(["__module__", "__name__", "__qualname__", "__doc__", "__annotations__"]:List Str).contains name=false) (hA:A.handled=none)
  (h:∀ h' tk,(∀ b ob,s.heap.get? b=some ob->h'.get? b=some ob)->Q none { s with heap:=h',toks:=tk }) (hsz:name.length+100<=sizeLine:=by size_fits) :
  wpAny (model prog w) A (getAttr? (.ref a) name) Q E s:=by
 obtain ⟨c,dct,dat,sl⟩:=o
 simp only at hc hdat hd
 subst hc hdat hd
 obtain ⟨hp,g,d,tk,os⟩:=s
 have hT:∀ tk',(⟨hp,g,d,tk',os⟩:Shared).TypeIs (.ref a) "list" := fun _=>⟨_,hx,rfl⟩
 have f1:=sub_AttributeError
 have f3:=Ue.lookup
 have f4:=Ue.bind (.ref a)
 have f5:=am_list_getattr_none
 unfold getAttr? getAttrBy? getAttrBy
 repeat (any_goals (first | assumption | exact hT _ | ((with_reducible show wpAny _ _ (call (Value.builtin "list.__getattribute__") _ _) _ _ _);refine Ra Ue (hT _) am_entry_list_getattribute (F.args_list_getattribute_2 _ _) (meets_getattribute_miss_list a xs k sl name _ hmiss hname hsz) ⟨hx,hA,fun h' tk' e hx'=>?_⟩) | wp_step))
 obtain ⟨t',u',he⟩:=hx'.there
 unfold getattributeRaised
 repeat (any_goals (first | assumption | wp_step))
 exact h _ _ hx'.keeps
namespace F
theorem entry_dict_update_loop:entryFor table "dict.update.loop" = some Builtin.«dict.update.loop»:=entryFor_of_tree (by kernel_rfl)
theorem plain_dict_update_loop:plainId "dict.update.loop" = true:=by decide +kernel
end F
end PySem
namespace L2
open PySem PySem.Spec PyProof.Rows
section
variable {X:Cx}{pins:List (Addr×Obj)}{σ:St}{H:Hp}{s:Shared}{a:Addr}{y v:V}{u r:Value}{A:Around}{E:Value->Shared->Prop}
theorem Zce {H':Hp}{Q:Unit->Shared->Prop}(hu:A.units < cLine)(I:Inv X pins σ H s)(g:DPut H a y v H')(ry:RelV y u)(rv:RelV v r)(h:∀ s',Inv X pins σ H' s'->O7 a s.heap s'.heap->Q () s') :
  wpAny (model X.prog X.w) A (dictSet a u r) Q E s:=by
 rcases g with ⟨kvs,k,e,ey,l,eH⟩ | ⟨kvs,k,b,e,ey,eb,l,eH⟩
 ·subst ey eH
  obtain ⟨z,hd,vs,rel,dd⟩:=Zdj I.hok e
  have hz:vs.length<=sizeLine:=by rw [<- rel.length];exact z
  have hl:(Bc kvs k v).length<=sizeLine:=by have:=Dv kvs k v;omega
  refine wpAny_dictSet_pairs (hsz:=hz) (E7 ry) dd fun h' dd' hs=>h _ ?_ hs
  have he:∃ q,h'.get? a=some q:=let ⟨q,_,_,hq,_⟩:=dd';⟨q,hq⟩
  exact Lc I (by rw [e];exact True.intro) hs he (Zaz hl hd (rel.put k rv) dd')
 ·subst ey eH
  cases (show u=Value.ref b from ry)
  obtain ⟨z,hd,xs,rel,dd⟩:=Zek I.hok e
  have hz:xs.length<=sizeLine:=by rw [<- Sf rel];exact z
  have hl:(Bc kvs k v).length<=sizeLine:=by have:=Dv kvs k v;omega
  refine wpAny_dictSet_heap (hsz:=hz) hu (Fa I.hok eb) dd fun h' dd' hs=>h _ ?_ hs
  obtain ⟨q,es,ep,hq,h2,h3,h4,_,h5⟩:=dd'
  refine Lc I (by rw [e];exact True.intro) hs ⟨q,hq⟩ ⟨hl,hd,_,(rel.put k eb rv).keeps fun c ys ec=>?_,q,es,ep,hq,h2,h3,h4,h5⟩
  rw [Ai (Eb ec e (fun z=>nomatch z))]
  exact ec
theorem Zo3 {R:Result->Shared->Prop}{p it d:Addr}{xs:List V}{Hs:Nat->Hp}{res:Value}(hh:A.handled=none)(hu:A.units+1 < cLine)(hdi:d≠it)(hd:∀ i,i<=xs.length->SqL X.K (Hs i) p xs)(hf:∀ i,FpOk X pins (Hs i) it)
  (hs:∀ i x,xs[i]?=some x->∃(c:Addr)(y v:V),x=.ref c/\SqT X.K (Hs i) c [y,v]/\DPut (Hs i) d y v (Hs (i+1)))
  (fin:∀ s',Inv X pins σ (Hs xs.length) s'->R (.ok (.ret res)) s') :
  ∀(k i:Nat)(s:Shared),xs.length - i=k->i<=xs.length->Inv X pins σ (Hs i) s->s.heap.IsListIter it p i ->
  codeAny (model X.prog X.w) A (.builtin "dict.update.loop" ⟨[.ref d,.ref it,rawInt i,res],[]⟩) R s:=by
 intro k
 induction k with
 | zero =>
  intro i s hk hi I st
  have hin:i=xs.length:=by omega
  subst hin
  obtain ⟨its,rv,pl,hz⟩:=I.list (hd _ hi)
  obtain ⟨f0,f1,f2,f3,f4,f5⟩:=hf xs.length
  have hl:=rv.length
  refine Rr PySem.F.entry_dict_update_loop ?_
  rw [Rl PySem.F.plain_dict_update_loop _]
  show wpAny _ A.in1 (pyNext (.ref it) >>= _) _ _ s
  refine Ot (wpAny_pyNext_list_end hh st pl.isList (by simp;omega) fun h' eb=>?_)
  have I':=I.turned (t':=s.toks) (fun b o hb e=>eb b o hb e) f0 f1 f3 f4 f5
  exact Ot (Ov (Ov (fin _ I')))
 | succ k ih =>
  intro i s hk hi I st
  have hlt:i < xs.length:=by omega
  obtain ⟨its,rv,pl,hz⟩:=I.list (hd _ hi)
  obtain ⟨c,y,v,ex,hc,hput⟩:=hs i _ (Ou hlt)
  obtain ⟨u,hu',ru⟩:=rv.get (Ou hlt)
  rw [ex] at ru
  cases ru
  obtain ⟨f0,f1,f2,f3,f4,f5⟩:=hf i
  refine Rr PySem.F.entry_dict_update_loop ?_
  rw [Rl PySem.F.plain_dict_update_loop _]
  show wpAny _ A.in1 (pyNext (.ref it) >>= _) _ _ s
  refine Ot (wpAny_pyNext_list_item st pl.isList (x:=.ref c) (by simpa using hu') fun h' st' sb=>?_)
  have I1:Inv X pins σ (Hs i) { s with heap:=h' }:=I.turned (t':=s.toks) (fun b o hb e=>(sb.2 b hb).trans e) f0 f1 f3 f4 f5
  obtain ⟨its2,rv2,pt,hz2⟩:=I1.tuple hc
  obtain ⟨u1,u2,rfl,r1,r2⟩:∃ u1 u2,its2=[u1,u2]/\RelV y u1/\RelV v u2:=by
   cases rv2 with
   | cons r1 t=>cases t with
    | cons r2 t=>cases t;exact ⟨_,_,rfl,r1,r2⟩
  obtain ⟨ot,et,ct,nt,dt⟩:=pt
  obtain ⟨oc,od,oda,osl⟩:=ot
  cases ct
  cases dt
  refine Ot (Pw ?_)
  refine Ot (wpAny_tryCatch ?_)
  have hT:(⟨h',s.gens,s.drawn,s.toks,s.os⟩:Shared).TypeIs (.ref c) "tuple" := ⟨_,et,rfl⟩
  unfold Builtin.Dict.pairItems
  refine Ot (Rt hT ?_)
  rw [if_pos (by decide)]
  refine Ot ?_
  unfold seqItems?
  refine Ot (wpAny_load et (Ov (Ov ?_)))
  show wpAny _ A.in1 (holding [u1,u2] (dictSet d u1 u2)) _ _ _
  refine Pw (Zce (by exact hu) I1 hput r1 r2 fun s2 I2 sb2=>?_)
  refine Ov ⟨Q8 PySem.F.plain_dict_update_loop _,?_⟩
  have e1:rawInt ((i:Int)+1)=rawInt (((i+1:Nat)):Int):=rfl
  rw [e1]
  exact ih (i+1) s2 (by omega) hlt I2 (st'.at fun o e=>(sb2.2 it (Pj hdi)).trans e)
noncomputable def B4 {κ:Type}[DecidableEq κ](kvs:List (κ×V))(l:List (κ×V)):List (κ×V):=l.foldl (fun a kv=>Bc a kv.1 kv.2) kvs
theorem Ze3 {κ:Type}[DecidableEq κ](l:List (κ×V)):∀ kvs:List (κ×V),(B4 kvs l).length<=kvs.length+l.length:=by
 induction l with
 | nil=>intro kvs;exact Ow _
 | cons kv r ih =>
  intro kvs
  have h1:=ih (Bc kvs kv.1 kv.2)
  have h2:=Dv kvs kv.1 kv.2
  rw [O3]
  show (B4 (Bc kvs kv.1 kv.2) r).length<=_
  omega
theorem Zdr {κ:Type}[DecidableEq κ]{l:List (κ×V)}{i:Nat}{kv:κ×V}(h:l[i]?=some kv)(kvs:List (κ×V)):B4 kvs (l.take (i+1))=Bc (B4 kvs (l.take i)) kv.1 kv.2:=by
 unfold B4
 rw [Q3,h,Uz]
 rfl
noncomputable def Zet (K:Os):List V->Hp->VK->Prop:=fun xs H Q=>∃(p:Addr)(vs:List V),xs=[.ref p]/\SqL K H p vs /\
 ((∃ kvs:List (Aq×V),Al (fun x (kv:Aq×V)=>∃ a,x=.ref a/\SqT K H a [kV kv.1,kv.2]) vs kvs/\∀ d,H d=none->Q (.ref d) (upd H d (.dK (B4 [] kvs)))) \/
   (∃ kvs:List (List Aq×V),Al (fun x (kv:List Aq×V)=>∃ a b,x=.ref a/\SqT K H a [.ref b,kv.2]/\H b=some (.tup (kv.1.map kV))) vs kvs/\∀ d,H d=none->Q (.ref d) (upd H d (.dT (B4 [] kvs)))))
theorem Zb8 {p:Addr}{vs:List V}{Q:VK}{Hs:Nat->Hp}(hu:A.units+3 < cLine)(hh:A.handled=none)(I:Inv X pins σ H s)(hq:SqL X.K H p vs)(d:Addr)(hdd:d=s.heap.objs.size)
  (h0:Inv X pins σ (Hs 0) { s with heap:=s.heap.push { cls:=.type "dict",data:=.dict #[] } }) (hs0:∀ i b,H b=none->b≠d->Hs i b=none) (hsd:∀ i,i<=vs.length->SqL X.K (Hs i) p vs)
  (hs:∀ i x,vs[i]?=some x->∃(c:Addr)(y v:V),x=.ref c/\SqT X.K (Hs i) c [y,v]/\DPut (Hs i) d y v (Hs (i+1))) (q:Q (.ref d) (Hs vs.length)) :
  wpAny (model X.prog X.w) A (call (.type "dict") [.ref p]) (EP X pins σ Q) E s:=by
 refine callType_codes (Q₁:=fun obj s₁=>obj=.ref s.heap.objs.size/\s₁={ s with heap:=s.heap.push { cls:=.type "dict",data:=.dict #[] } }) F.kt_called_dict (F.kt_typeCall_dict_1 _) F.entry_dict_init (kt_code_dict_new _ ⟨rfl,rfl⟩) ?_
 rintro obj s₁ ⟨rfl,rfl⟩
 have hnT:({ s with heap:=s.heap.push { cls:=.type "dict",data:=.dict #[] } }:Shared).TypeIs (.ref s.heap.objs.size) "dict" := ⟨_,Pc _ rfl,rfl⟩
 refine ⟨hnT,F.args_dict_init_2 _ _,?_⟩
 unfold Builtin.«dict.__init__»
 refine Ot ?_
 unfold Builtin.Dict.selfAndRest
 refine Ot (wpAny_notOrdered_dict hnT ?_)
 show wpAny _ _ (pure (s.heap.objs.size,[Value.ref p])) _ _ _
 refine Ov ?_
 show wpAny _ _ (Builtin.Dict.updateFrom "dict.__init__" s.heap.objs.size (.ref p) [] .none) _ _ _
 subst hdd
 obtain ⟨its,rv,pl,hz⟩:=h0.list (hsd 0 (Ph _))
 have hsz:s.heap.objs.size < (s.heap.push { cls:=Value.type "dict",data:=Data.dict #[] }).objs.size:=by rw [Pu];exact Nat.lt_succ_self _
 generalize hs1:({ s with heap:=s.heap.push { cls:=.type "dict",data:=.dict #[] } }:Shared)=s1 at *
 have hsz1:s.heap.objs.size < s1.heap.objs.size:=by rw [<- hs1];exact hsz
 obtain ⟨ol,nl,el,cl,dn,dl⟩:=pl
 unfold Builtin.Dict.updateFrom
 refine Ot (Rt ⟨_,el,cl⟩ ?_)
 rw [if_pos (by decide)]
 refine Ot (Zoi el cl dl dn Zkf (by decide +kernel) hh (fun h2 tk2 kp=>?_) (by decide +kernel))
 rw [if_pos (by decide)]
 refine Ot (Q9 ?_)
 have I2:Inv X pins σ (Hs 0) { s1 with heap:=h2,toks:=tk2 }:=h0.kept kp
 have pl2:h2.IsList p its.toArray:=⟨ol,kp _ _ el,cl,nl,dl⟩
 refine Ot (Uw pl2 ?_)
 have hsz2:s.heap.objs.size < h2.objs.size:=by
  obtain ⟨on,en,_⟩:=hnT
  exact Oy (kp _ _ en)
 have hHn:∀ i,Hs i h2.objs.size=none:=fun i=>hs0 i _ (I.hok.fresh (Sj hsz2)) (P0 hsz2)
 refine Ov ⟨Q8 PySem.F.plain_dict_update_loop _,Zo3 (A:=A.in1) (Hs:=Hs) (xs:=vs) (p:=p) hh (by show A.units+1+1 < cLine;omega) (O5 hsz2) hsd (fun i=>I2.fpOk (Ow _) (hHn i)) hs (fun s' I'=>?_) vs.length 0 _ rfl (Ph _) (I2.kept (t':=tk2) fun b o e=>Oz _ e) ⟨_,Pc _ rfl,rfl,rfl⟩⟩
 exact ⟨rfl,.ref s.heap.objs.size,_,I',rfl,q⟩
theorem Zkx (hu:X.A.units+3 < cLine)(hh:X.calm=true):Cj X (.type "dict") (Zet X.K):=by
 intro pins s σ H xs us Q I r h
 obtain ⟨p,vs,rfl,hq,h⟩:=h
 obtain ⟨u,rfl,rx⟩:=Hn r
 cases rx
 have hf:H s.heap.objs.size=none:=I.hok.fresh (Ow _)
 have hpd:p≠s.heap.objs.size:=by
  obtain ⟨its,rv,⟨o,n,e,_⟩,hz⟩:=I.list hq
  exact O5 (Oy e)
 have hn:vs.length<=sizeLine:=by
  obtain ⟨its,rv,_,hz⟩:=I.list hq
  exact hz
 rcases h with ⟨kvs,al,q⟩ | ⟨kvs,al,q⟩
 ·refine Zb8 (Hs:=fun i=>upd H s.heap.objs.size (.dK (B4 [] (kvs.take i)))) hu (I.ok.hd hh) I hq s.heap.objs.size rfl (I.laid (a:=s.heap.objs.size) (o:=.dK []) (t':=s.toks) (fun _ _ q=>Oz _ q) (Ow _) (Zds s.heap I.big)) (fun i b hb hd=>by show upd H _ _ b=none;rw [Ai hd];exact hb) (fun i _=>(Same.upd hf).seq hq) (fun i x hx=>?_) ?_
  ·obtain ⟨kv,hkv,c,rfl,hc⟩:=al.get hx
   have hi:i < vs.length:=(O2.mp hx).1
   refine ⟨c,_,_,rfl,(Same.upd hf).tup hc,?_⟩
   show DPut _ _ _ _ (upd H s.heap.objs.size (.dK (B4 [] (kvs.take (i+1)))))
   rw [Zdr hkv]
   have hl:(B4 [] (kvs.take i)).length < sizeLine:=by have:=Ze3 (kvs.take i) ([]:List (Aq×V));rw [Pg] at this;simp only [Tv] at this;omega
   have r:=DPut.k (H:=upd H s.heap.objs.size (.dK (B4 [] (kvs.take i)))) (k:=kv.1) (v:=kv.2) Ac hl
   rw [Jd] at r
   exact r
  ·show Q _ (upd H s.heap.objs.size (.dK (B4 [] (kvs.take vs.length))))
   rw [al.1,Py]
   exact q _ hf
 ·refine Zb8 (Hs:=fun i=>upd H s.heap.objs.size (.dT (B4 [] (kvs.take i)))) hu (I.ok.hd hh) I hq s.heap.objs.size rfl (I.laid (a:=s.heap.objs.size) (o:=.dT []) (t':=s.toks) (fun _ _ q=>Oz _ q) (Ow _) (Nr s.heap I.big)) (fun i b hb hd=>by show upd H _ _ b=none;rw [Ai hd];exact hb) (fun i _=>(Same.upd hf).seq hq) (fun i x hx=>?_) ?_
  ·obtain ⟨kv,hkv,c,b,rfl,hc,hb⟩:=al.get hx
   have hi:i < vs.length:=(O2.mp hx).1
   refine ⟨c,_,_,rfl,(Same.upd hf).tup hc,?_⟩
   show DPut _ _ _ _ (upd H s.heap.objs.size (.dT (B4 [] (kvs.take (i+1)))))
   rw [Zdr hkv]
   have hl:(B4 [] (kvs.take i)).length < sizeLine:=by have:=Ze3 (kvs.take i) ([]:List (List Aq×V));rw [Pg] at this;simp only [Tv] at this;omega
   have r:=DPut.t (H:=upd H s.heap.objs.size (.dT (B4 [] (kvs.take i)))) (v:=kv.2) Ac ((Same.upd hf) _ _ hb) hl
   rw [Jd] at r
   exact r
  ·show Q _ (upd H s.heap.objs.size (.dT (B4 [] (kvs.take vs.length))))
   rw [al.1,Py]
   exact q _ hf
end
theorem Room.u1 {k:Nat}{A:Around}(r:Room k A):A.units+1 < cLine:=by have:=r.u200;omega
section
variable {X:Cx}{k:Nat}{x m f:Str}{ps:List Str}{sp:Sp}{E:XK}{C:Addr}{p pos pos' tpos apos:Pos}{e o i value:Expr}{es:List Expr}{ta tv td ty:TE}{t:TA}{CX:C5}{P:Program}{w:World}{mg:Str->Option Value}{base:Heap}{K:Os}
theorem Zkk (K:Os)(hu:X.A.units+200 < cLine)(hh:X.calm=true)(hK:X.K=K:=by rfl):Cj X (.type "dict") (Zet K):=by subst hK;exact Zkx (by omega) hh
theorem Jl (hu:X.A.units+1 < cLine)(ho:QE X o td)(hi:QE X i ty)(hs:Nv i):QE X (.Subscript o i pos) (Za6 td ty):=⟨Zhk hu ho.run hi.run hs⟩
theorem Zck (hu:X.A.units+1 < cLine)(hi:QE X i ty)(ho:QE X o td):QC X .In i o (Zag ty td):=⟨Zpy hu hi.run ho.run⟩
noncomputable def Oq (K:Os):R2:=fun x y H Q=>F3 K x y H Q\/∃(a b:Addr)(xs ys:List V),x=.ref a/\y=.ref b/\H a=some (.tup xs)/\H b=some (.tup ys)/\xs.length+ys.length<=sizeLine/\∀ p H',Same H H'->H' p=some (.tup (xs++ys))->Q (.ref p) H'
theorem Zk5:OpR X (binaryOp .Add) (Oq X.K):=by
 refine op_addA.or ?_
 intro pins s σ H x y v u Q I rx ry h
 obtain ⟨a,b,xs,ys,rfl,rfl,ha,hb,hz,q⟩:=h
 have ha':SqT X.K H a xs:=SqT.of ha
 have hb':SqT X.K H b ys:=SqT.of hb
 by_cases hx:xs=[]
 ·subst hx
  cases rx
  cases ry
  obtain ⟨its,r1,p1,_⟩:=I.tuple ha'
  obtain ⟨its2,r2,p2,_⟩:=I.tuple hb'
  cases r1
  obtain ⟨⟨cls,dd,data,sl⟩,ho,hc,n,hd⟩:=id p1
  obtain ⟨⟨cls2,dd2,data2,sl2⟩,ho2,hc2,n2,hd2⟩:=id p2
  simp only at hc hd hc2 hd2
  subst hc hd hc2 hd2
  exact T1 ⟨_,ho,rfl⟩ ⟨_,ho2,rfl⟩ Ti Tw Ta Sw (Su _ _)
   (tuple_addW0 a b _ _ n n2 dd dd2 sl sl2 (by simp)) ⟨ho,ho2,⟨.ref b,H,I,rfl,q b H (Same.refl H) hb⟩⟩
 ·refine Zdq pins s σ H _ _ v u Q I rx ry ⟨a,b,xs,ys,rfl,rfl,ha',hb',hx,hz,fun e=>?_,fun _ p hp=>q p _ (fun c o e=>by rw [Ai (A3 e hp)];exact e) Ac⟩
  subst e
  exact q a H (Same.refl H) (by rw [Qa];exact ha)
theorem Zca (K:Os)(hK:X.K=K:=by rfl):OpR X (binaryOp .Add) (Oq K):=by subst hK;exact Zk5
theorem Zjf {a b:Addr}{xs ys:List V}{H:Hp}{Q:VK}(ha:H a=some (.tup xs))(hb:H b=some (.tup ys))(hz:xs.length+ys.length<=sizeLine)(h:∀ p H',Same H H'->H' p=some (.tup (xs++ys))->Q (.ref p) H'):Oq K (.ref a) (.ref b) H Q:=.inr ⟨a,b,xs,ys,rfl,rfl,ha,hb,hz,h⟩
theorem s_dget {td ty:TE}{σ:St}{H:Hp}{Q:VK}(h:td σ H fun x H1=>ty σ H1 fun y H2=>∃ a v,x=.ref a/\DGet H2 a y (some v)/\Q v H2):Za6 td ty σ H Q:=h
theorem s_din {td ty:TE}{σ:St}{H:Hp}{Q:VK}(h:ty σ H fun y H1=>td σ H1 fun x H2=>∃ a o,x=.ref a/\DGet H2 a y o/\Q (.bl o.isSome) H2):Zag ty td σ H Q:=h
end
end L2
namespace L2
open PySem
noncomputable def RowT (K:Os)(H:Hp)(v:V)(x:List Nat×Tr):Prop:=∃(a p:Addr)(u:V),v=.ref a/\SqT K H a [.ref p,u]/\H p=some (.tup (Bg x.1))/\TrAt K H u x.2
theorem RowT.same {K:Os}{H H':Hp}(e:SameT H H')(v:V)(x:List Nat×Tr)(h:RowT K H v x):RowT K H' v x:=by
 obtain ⟨a,p,u,r,q,qp,t⟩:=h
 exact ⟨a,p,u,r,e.tup q,(e p).1 _ qp,t.sameT e⟩
theorem Zgo {κ:Type}[DecidableEq κ](l:List (κ×V))(kv:κ×V)(kvs:List (κ×V)):B4 kvs (l++[kv])=Bc (B4 kvs l) kv.1 kv.2:=by
 unfold B4
 rw [Uz]
 rfl
noncomputable def Ew {κ:Type}[DecidableEq κ](l:List (κ×V))(k:κ):Option V:=(l.reverse.find? fun kv=>decide (kv.1=k)).map (·.2)
theorem Zcl {κ:Type}[DecidableEq κ](l:List (κ×V))(kv:κ×V)(k:κ):Ew (l++[kv]) k=if kv.1=k then some kv.2 else Ew l k:=by
 unfold Ew
 rw [Um,List.reverse_singleton,List.singleton_append,Q7]
 by_cases h:kv.1=k
 ·simp [h]
 ·simp [h]
theorem Zfv {α:Type}{P:List α->Prop}(h0:P [])(h1:∀ l x,P l->P (l++[x]))(l:List α):P l:=by
 rw [<- l.reverse_reverse]
 induction l.reverse with
 | nil=>exact h0
 | cons x r ih=>rw [List.reverse_cons];exact h1 _ _ ih
theorem Zl0 {κ:Type}[DecidableEq κ](l:List (κ×V))(k:κ):Bk (B4 [] l) k=Ew l k:=by
 refine Zfv (P:=fun l=>Bk (B4 [] l) k=Ew l k) rfl (fun l kv ih=>?_) l
 rw [Zgo,Zcl,Ic,ih]
 by_cases h:kv.1=k
 ·rw [if_pos h,if_pos h.symm]
 ·rw [if_neg h,if_neg (Pj h)]
noncomputable def Bl (pl:List Nat):List Aq:=pl.map fun i:Nat=>Sum.inl ((i:Nat):Int)
theorem Iq (pl:List Nat):(Bl pl).map kV=Bg pl:=by unfold Bl Bg;rw [T7];rfl
section
variable {K:Os}{HB H H':Hp}{C:Addr}{kvs:List (List Aq×V)}{L:Ml}{S:MS}
end
section
variable {g:TG}{tt:TT}{te:TE}{σ0:St}{H1:Hp}{D:Addr}{Q:VK}
theorem Zli {K:Os}{a:Addr}{xs:List V}(Pv:Nat->List V->St->Hp->Prop)(h0:Pv 0 [] σ0 (upd H1 D (.lst [])))(hl:∀ i ys σ H,i<=xs.length->Pv i ys σ H->SqT K H a xs)
  (hs:∀ i x ys σ H,xs[i]?=some x->H D=some (.lst ys)->Pv i ys σ H->Lj g tt te D (Pv (i+1)) x σ H)
  (hd:∀ ys σ H,H D=some (.lst ys)->Pv xs.length ys σ H->Q (.ref D) H):Iw (F9 K a) g tt te σ0 H1 D Q:=by
 refine ⟨fun i m σ H=>m=xs.length - i/\i<=xs.length/\∃ ys,H D=some (.lst ys)/\Pv i ys σ H,⟨xs.length,by simp,Ph _,[],Ac,h0⟩,?_⟩
 rintro i m σ H ⟨rfl,hi,ys,hD,p⟩
 have q:=hl i ys σ H hi p
 by_cases hlt:i < xs.length
 ·refine .inr ⟨⟨xs,xs[i],q,by simp [hlt]⟩,fun σ2 H2=>∃ zs,H2 D=some (.lst zs)/\Pv (i+1) zs σ2 H2,fun σ' H' p'=>⟨xs.length - (i+1),by omega,rfl,hlt,p'⟩,fun x H' y=>?_⟩
  obtain ⟨e,y⟩:=y
  subst e
  exact hs i x ys σ _ (y xs q) hD p
 ·have e:i=xs.length:=by omega
  subst e
  exact .inl ⟨⟨xs,q,Ow _⟩,hd ys σ H hD p⟩
end
theorem Zci {a b:List Nat}(h:Bl a=Bl b):a=b:=by
 unfold Bl at h
 induction a generalizing b with
 | nil=>cases b with
  | nil=>rfl
  | cons y r=>simp at h
 | cons x l ih=>cases b with
  | nil=>simp at h
  | cons y r =>
   simp only [Ql,List.cons.injEq] at h
   have h1:x=y:=by have:=Sum.inl.inj h.1;omega
   rw [h1,ih h.2]
end L2
namespace L2
open PySem PySem.Spec PyProof.Rows
section
variable {X:Cx}
end
end L2
namespace L2
open PySem PySem.Spec PySem.Calls PySem.W PyProof.Rows
section
variable {X:Cx}
end
end L2
namespace L2
open PySem PySem.Spec PyProof.Rows
section
variable {X:Cx}{c n:Str}{np hpos pos:Pos}{body hbody:List Stmt}{b₀:Stmt}{tb:TXS}{th:TS}{i:Nat}{C:Addr}
end
noncomputable def Zbt (tk tv:TE):TE:=fun σ H Q=>∀ p,H p=none->tk σ (upd H p (.dT [])) fun x H1=>tv σ H1 fun y H2=>∃ H3,DPut H2 p x y H3/\Q (.ref p) H3
section
variable {X:Cx}{o i e f k v value:Expr}{pos pos' apos cpos:Pos}{td ty tx tk tv:TE}
theorem Zl1 (hu:X.A.units+1 < cLine)(hk:PE X k tk)(hv:PE X v tv):PE X (.Dict [some k] [v] pos) (Zbt tk tv):=by
 intro pins s σ H Q I q
 have hn:=I.hok.fresh (Ow s.heap.objs.size)
 have I1:=I.laid (a:=s.heap.objs.size) (o:=.dT []) (h':=s.heap.push { cls:=.type "dict",data:=.dict #[] }) (t':=s.toks) (fun _ _ q=>Oz _ q) (Ow _) (Nr s.heap I.big)
 show wpAny _ _ (eval (.Dict [some k] [v] pos) X.env) _ _ s
 rw [arm_eval_Dict,zip_pairTrees [some k] [v] X.env pos rfl rfl,dictDisplay_pairs _ (by simp [pairTrees]) (by simp [pairTrees])]
 refine Ot (Sg (Ot ?_))
 unfold subDict
 refine Ot (wpAny_alloc ?_)
 refine Ot (Pw ?_)
 rw [if_pos (by simp [pairTrees])]
 refine Ot (pairTrees_cons_walk (Aj (hk pins _ σ _ _ I1 (q _ hn)) fun kv s1 zq=>?_))
 obtain ⟨x,H1,I2,rx,q1⟩:=zq
 refine Aj (hv pins s1 σ H1 _ I2 q1) fun vv s2 zq=>?_
 obtain ⟨y,H2,I3,ry,H3,g,q2⟩:=zq
 refine pairTrees_nil_walk ?_
 refine Pw ?_
 rw [Rq]
 refine Ot (Ot (Ot (Zce (by omega) I3 g rx ry fun s4 I4 _=>Ov ?_)))
 dsimp only
 rw [Se]
 exact Ov (Ov (Ov (Ov ⟨.ref s.heap.objs.size,H3,I4,rfl,q2⟩)))
theorem Zo4 (hu:X.A.units+1 < cLine)(hk:QE X k tk)(hv:QE X v tv):QE X (.Dict [some k] [v] pos) (Zbt tk tv):=⟨Zl1 hu hk.run hv.run⟩
theorem M5:QE X (.Dict [] [] pos) Zfy:=⟨Zge⟩
theorem Zix:QE X (.Dict [] [] pos) Zda:=⟨Zm1⟩
theorem Zkr (hu:X.A.units+1 < cLine)(hi:QE X i ty)(ho:QE X o td):QC X .NotIn i o (Za8 ty td):=⟨Zj7 hu hi.run ho.run⟩
theorem F1 (hu:X.A.units+1 < cLine)(ho:QE X o td)(hi:QE X i ty)(hv:QE X value tv)(hs:swapsWith value (some (.Subscript o i pos')) pos.line X.env=pure false:=by rfl):QS X (.Assign [.Subscript o i pos'] value pos) (Mu td ty tv):=⟨Zlk hu ho.run hi.run hv.run hs⟩
theorem Zkj (hu:X.A.units+1 < cLine)(ho:QE X o td)(he:QE X e ty)(h1:attributeBase o "get" X.env (eval o X.env)=eval o X.env:=by rfl)(h2:((backTo cpos (starEach [e] X.env)).all (fun x=>!x.1) && (backToKw cpos (keywordEach [] X.env)).all (fun x=>x.1.isSome) && decide (([e]:List Expr).length+([]:List Keyword).length+(if ([]:List Keyword).isEmpty then 0 else 1) < 30))=true:=by rfl)(h3:(apos.endLine == cpos.line)=true:=by rfl)(h4:backTo cpos (starEach [e] X.env)=[(false,eval e X.env)]:=by rfl):QE X (.Call (.Attribute o "get" apos) [e] [] cpos) (N1 td ty):=⟨Zjl hu ho.run he.run ⟨h1,h2,h3,h4⟩⟩
theorem Zb4 (hu:X.A.units+1 < cLine)(ho:QE X o td)(he:QE X e ty)(hf:QE X f tx)(h1:attributeBase o "get" X.env (eval o X.env)=eval o X.env:=by rfl)(h2:((backTo cpos (starEach [e,f] X.env)).all (fun x=>!x.1) && (backToKw cpos (keywordEach [] X.env)).all (fun x=>x.1.isSome) && decide (([e,f]:List Expr).length+([]:List Keyword).length+(if ([]:List Keyword).isEmpty then 0 else 1) < 30))=true:=by rfl)(h3:(apos.endLine == cpos.line)=true:=by rfl)(h4:backTo cpos (starEach [e,f] X.env)=[(false,eval e X.env),(false,eval f X.env)]:=by rfl):QE X (.Call (.Attribute o "get" apos) [e,f] [] cpos) (Za9 td ty tx):=⟨Zgj hu ho.run he.run hf.run ⟨h1,h2,h3,h4⟩⟩
end
noncomputable def Zh4:List V->Hp->VK->Prop:=fun xs H Q=>∃ a kvs,xs=[.ref a]/\H a=some (.dK kvs)/\∀ p,H p=none->Q (.ref p) (upd H p (.dK kvs))
theorem Zp7 {X:Cx}:Cj X (.type "dict") Zh4:=by
 intro pins s σ H xs us Q I r h
 obtain ⟨a,kvs,rfl,e,q⟩:=h
 obtain ⟨u,rfl,ru⟩:=r.one
 obtain rfl:u=Value.ref a:=ru
 exact Zp0 I (.inl e) fun p s' hp I'=>⟨.ref p,_,I',rfl,q p hp⟩
theorem Zbl {X:Cx}{pos:Pos}{i j:Nat}{x y:Str}{a b:Expr}{ta:TA}{px py pt:Pos}{kt k2 pt2}(hc:X.calm=true)(hN:X.N.Nodup)(hi:X.N[i]?=some x)(hj:X.N[j]?=some y)(hij:i≠j)
  (hx:X.env.scope.names.lookup x=some .local) (hy:X.env.scope.names.lookup y=some .local) (ha:QA X [a,b] ta)
  (hw:swappedStores [.Tuple [.Name x px,.Name y py] kt pt] (.Tuple [a,b] k2 pt2) X.env=pure (some [x,y]):=by rfl)
  (hs:swapsWithSole [.Tuple [.Name x px,.Name y py] kt pt] (.Tuple [a,b] k2 pt2) pos.line X.env=pure false:=by rfl) :
  QS X (.Assign [.Tuple [.Name x px,.Name y py] kt pt] (.Tuple [a,b] k2 pt2) pos) (Za3 i j ta):=⟨Zo0 hc hN hi hj hij hx hy ha.run hw hs⟩
theorem s_par {i j:Nat}{ta:TA}{D:Ct}{σ:St}{H:Hp}(h:ta σ H fun vs H1=>∃ v w,vs=[v,w]/\D.nx ((σ.set i (some v)).set j (some w)) H1):Za3 i j ta D σ H:=h
theorem s_ifE {c:TT}{ta tb:TE}{σ:St}{H:Hp}{Q:VK}(h:c σ H fun b H1=>if b=true then ta σ H1 Q else tb σ H1 Q):tIf c ta tb σ H Q:=h
theorem Zqb {b:Bool}{P Q:Prop}(hb:b=false)(h:Q):if b=true then P else Q:=by rw [if_neg (by rw [hb];decide)];exact h
theorem s_dput {td ty tv:TE}{D:Ct}{σ:St}{H:Hp}(h:tv σ H fun v H1=>td σ H1 fun x H2=>ty σ H2 fun y H3=>∃ a H4,x=.ref a/\DPut H3 a y v H4/\D.nx σ H4):Mu td ty tv D σ H:=h
theorem s_dget2 {td ty tx:TE}{σ:St}{H:Hp}{Q:VK}(h:td σ H fun x H1=>∃ a,x=.ref a/\DcD H1 a/\ty σ H1 fun y H2=>tx σ H2 fun z H3=>∃ o,DGet H3 a y o/\Q (o.getD z) H3):Za9 td ty tx σ H Q:=h
theorem viaT {t:TS}{X:St->Hp->Prop}{rt:VK}{bk ct:St->Hp->Prop}{σ:St}{H:Hp}(R:St->Hp->Prop)(h1:∀ Y:St->Hp->Prop,(∀ σ' H',R σ' H'->Y σ' H')->t ⟨Y,rt,bk,ct⟩ σ H)(h2:∀ σ' H',R σ' H'->X σ' H'):t ⟨X,rt,bk,ct⟩ σ H:=h1 X h2
theorem viaE {t:TE}{Q:VK}{σ:St}{H:Hp}(R:V->Hp->Prop)(h1:∀ Y:VK,(∀ v H',R v H'->Y v H')->t σ H Y)(h2:∀ v H',R v H'->Q v H'):t σ H Q:=h1 Q h2
section
variable {X:Cx}
end
section
variable {X:Cx}
end
section
variable {g:TG}{tt:TT}{te:TE}{σ0:St}{H1:Hp}{D:Addr}{Q:VK}
end
noncomputable def Gq (K:Os)(a b:Addr):It :=
 ⟨fun i H=>∃ xs ys,SqL K H a xs/\SqL K H b ys/\i < xs.length/\i < ys.length,
   fun i H x H'=>∃(t:Addr)(y z:V),H t=none/\(∀ xs,SqL K H a xs->xs[i]?=some y)/\(∀ ys,SqL K H b ys->ys[i]?=some z)/\x=.ref t/\H'=upd H t (.tup [y,z]),
   fun i H=>∃ xs ys,SqL K H a xs/\SqL K H b ys/\i=min xs.length ys.length⟩
theorem Zf1 {P:Program}{w:World}{K:Os}{elts:List Expr}{kt:Nat}{pt:Pos}(a b z TI TO i1 i2:Addr)(D:ZB z TI TO i1 i2 a b) :
  En P w K (.Tuple elts kt pt) (Gq K a b) [z,TI,TO,i1,i2] z (fun i h=>IsZip h z TI TO .none/\IsPair h TI (.ref i1) (.ref i2)/\(∃ u v,IsPair h TO u v)/\h.IsListIter i1 a i/\h.IsListIter i2 b i) where
 mem:=by simp
 obj:=fun i h st c hc=>by
  obtain ⟨q1,q2,⟨u,v,q3⟩,q4,q5⟩:=st
  simp only [O1,Po,or_false] at hc
  rcases hc with rfl | rfl | rfl | rfl | rfl
  ·exact ⟨_,q1,fun v z=>by cases z⟩
  ·exact ⟨_,q2,fun v z=>by cases z⟩
  ·exact ⟨_,q3,fun v z=>by cases z⟩
  ·obtain ⟨o,e,c,d⟩:=q4
   exact ⟨o,e,fun v z=>by rw [d] at z;cases z⟩
  ·obtain ⟨o,e,c,d⟩:=q5
   exact ⟨o,e,fun v z=>by rw [d] at z;cases z⟩
 keep:=fun i h h' st k=>by
  obtain ⟨q1,q2,⟨u,v,q3⟩,q4,q5⟩:=st
  exact ⟨k z (by simp) _ q1,k TI (by simp) _ q2,⟨u,v,k TO (by simp) _ q3⟩,q4.at fun o e=>k i1 (by simp) o e,q5.at fun o e=>k i2 (by simp) o e⟩
 item:=by
  intro X hP hw hK hc i pins s σ H E I hf st hg
  subst hP hw hK
  obtain ⟨xs,ys,hx,hy,l1,l2⟩:=hg
  obtain ⟨its,rv,p,hz⟩:=I.list hx
  obtain ⟨its2,rv2,p2,hz2⟩:=I.list hy
  have g1:=rv.length
  have g2:=rv2.length
  obtain ⟨q1,q2,⟨u,v,q3⟩,q4,q5⟩:=st
  have hh:X.A.in1.handled=none:=I.ok.hd hc
  have D1:=Rb (prog:=X.prog) (w:=X.w) (A:=X.A.in1) hh i1 a D.a1 its.toArray
  have D2:=Rb (prog:=X.prog) (w:=X.w) (A:=X.A.in1) hh i2 b D.b2 its2.toArray
  refine Zc7 D1 D2 D.za q1 q2 q3 ⟨q4,p.isList⟩ ⟨q5,p2.isList⟩ (by rw [Ox];omega) (by rw [Ox];omega) fun x y h1 tk px py a1 a2 a3 a4 a5 a6 a7=>?_
  refine ⟨_,rfl,wpAny_letOwnedTupleGo_zip a1 fun h2 a8 a9=>?_⟩
  replace a9:O7 z h1 h2:=a9
  have hx':its[i]?=some x:=by simpa using px
  have hy':its2[i]?=some y:=by simpa using py
  obtain ⟨u1,hu1,ru1⟩:=rv.get (Ou l1)
  obtain ⟨u2,hu2,ru2⟩:=rv2.get (Ou l2)
  rw [hx'] at hu1
  cases hu1
  rw [hy'] at hu2
  cases hu2
  have lt:∀{c o},s.heap.get? c=some o->s.heap.objs.size≠c:=fun e=>P0 (Oy e)
  have nz:s.heap.objs.size≠z:=lt q1
  have ht2:h2.IsTuple s.heap.objs.size ([x,y]:List Value).toArray:=⟨_,a9.extBut _ _ nz a5,rfl,_,rfl⟩
  have kk:∀ b o,b ∉ [z,TI,TO,i1,i2]->s.heap.get? b=some o->h2.get? b=some o:=fun b o hb e=>by
   simp only [O1,Po,or_false,not_or] at hb
   exact a9.extBut _ _ hb.1 (a7 b o hb.1 hb.2.2.1 hb.2.2.2.1 hb.2.2.2.2 e)
  have I2:=I.pairL (tk:=tk) (T:=s.heap.objs.size) (xs:=[xs[i],ys[i]]) hf kk (Ow _) (.cons ru1 (.cons ru2 .nil)) (by show 2<=sizeLine;decide) ht2
  refine ⟨.ref s.heap.objs.size,_,I2,rfl,⟨_,xs[i],ys[i],I.hok.fresh (Ow _),fun zs hz=>by rw [I.list_inj hz hx];exact Ou l1,fun zs hz=>by rw [I.list_inj hz hy];exact Ou l2,rfl,rfl⟩,
   ⟨a8,a9.extBut _ _ D.TIz (a7 _ _ D.TIz D.TITO D.TI1 D.TI2 q2),⟨_,_,a9.extBut _ _ D.TOz a2⟩,a3.1.at fun o e=>a9.extBut _ _ D.i1z e,a4.1.at fun o e=>a9.extBut _ _ D.i2z e⟩,fun c hc=>?_⟩
  have hb':c≠s.heap.objs.size:=by
   simp only [O1,Po,or_false] at hc
   rcases hc with rfl | rfl | rfl | rfl | rfl
   ·exact (lt q1).symm
   ·exact (lt q2).symm
   ·exact (lt q3).symm
   ·obtain ⟨_,e,_⟩:=q4;exact (lt e).symm
   ·obtain ⟨_,e,_⟩:=q5;exact (lt e).symm
  rw [Ai hb']
  exact (hf c hc).1
 done:=by
  intro X hP hw hK hc i pins s σ H E I hf st hg
  subst hP hw hK
  obtain ⟨xs,ys,hx,hy,rfl⟩:=hg
  obtain ⟨its,rv,p,hz⟩:=I.list hx
  obtain ⟨its2,rv2,p2,hz2⟩:=I.list hy
  have g1:=rv.length
  have g2:=rv2.length
  obtain ⟨q1,q2,⟨u,v,q3⟩,q4,q5⟩:=st
  have hh:X.A.in1.handled=none:=I.ok.hd hc
  have D1:=Rb (prog:=X.prog) (w:=X.w) (A:=X.A.in1) hh i1 a D.a1 its.toArray
  have D2:=Rb (prog:=X.prog) (w:=X.w) (A:=X.A.in1) hh i2 b D.b2 its2.toArray
  refine Zed D1 D2 D.za q1 q2 q3 ⟨q4,p.isList⟩ ⟨q5,p2.isList⟩ (by simp only [Ox];omega) fun h' tk kk=>⟨rfl,I.turnedL (fun b o hb e=>?_) hf⟩
  simp only [O1,Po,or_false,not_or] at hb
  exact kk b o hb.1 hb.2.2.1 hb.2.2.2.1 hb.2.2.2.2 e
 self:=fun A i s Q E st h=>U1 st.1 h
section
variable {X:Cx}
noncomputable def Zd5 (K:Os)(ta:TA):TI:=fun σ H R=>ta σ H fun vs H1=>∃ a b xs ys,vs=[.ref a,.ref b]/\SqL K H1 a xs/\SqL K H1 b ys/\R (Gq K a b) H1
theorem Zmw (K:Os){elts:List Expr}{kt:Nat}{pt:Pos}{e e2:Expr}{ta:TA}{p pos:Pos}(hg:Gl X "zip")(hm:X.mg "zip" = none)(ha:QA X [e,e2] ta)(hK:X.K=K:=by rfl)
  (hs:starEach [e,e2] X.env=[(false,eval e X.env),(false,eval e2 X.env)]:=by rfl) (hs2:starEach [e2] X.env=[(false,eval e2 X.env)]:=by rfl):QI X (.Tuple elts kt pt) (.Call (.Name "zip" p) [e,e2] [] pos) (Zd5 K ta):=by
 subst hK
 refine ⟨fun pins s σ H R I h=>?_⟩
 refine Call_ (Dj I hg hm PyProof.Rows.boot_zip (P6 (Aj (ha.run pos pins s σ H _ I h) fun us s1 ⟨vs,H1,I1,r1,q1⟩=>?_) (by rw [hs,hs2]) (by rw [hs2];rfl)))
 obtain ⟨a,b,xs,ys,e1,hq,hq2,q⟩:=q1
 subst e1
 obtain ⟨u,v,rfl,ru,rv⟩:=r1.two
 cases ru
 cases rv
 obtain ⟨its,rv,pl,hz⟩:=I1.list hq
 obtain ⟨its2,rv2,pl2,hz2⟩:=I1.list hq2
 have lt1:a < s1.heap.objs.size:=by obtain ⟨o,e,_⟩:=id pl.isList;exact Oy e
 have lt2:b < s1.heap.objs.size:=by obtain ⟨o,e,_⟩:=id pl2.isList;exact Oy e
 refine Zcs (b:=false) (gg:=false) (show ZIn false s1.heap a its.toArray from pl.isList) (show ZIn false s1.heap b its2.toArray from pl2.isList) fun h' a1 a2 a3 a4 a5 a6 hk=>?_
 refine U1 a1 ?_
 have fr:∀ k,FpOk X pins H1 (s1.heap.objs.size+k):=fun k=>I1.fpOk (Ro _ _) (I1.hok.fresh (Ro _ _))
 refine ⟨_,[s1.heap.objs.size+4,s1.heap.objs.size+2,s1.heap.objs.size+3,s1.heap.objs.size,s1.heap.objs.size+1],_,_,H1,rfl,I1.kept (t':=s1.toks) hk,Zf1 a b _ _ _ _ _ (Zdc lt1 lt2),⟨a1,a2,⟨_,_,a3⟩,a4,a5⟩,fun c hc=>?_,q⟩
 simp only [O1,Po,or_false] at hc
 rcases hc with rfl | rfl | rfl | rfl | rfl
 ·exact fr 4
 ·exact fr 2
 ·exact fr 3
 ·exact fr 0
 ·exact fr 1
theorem s_izipm {K:Os}{ta:TA}{σ:St}{H:Hp}{R:It->Hp->Prop}(h:ta σ H fun vs H1=>∃ a b xs ys,vs=[.ref a,.ref b]/\SqL K H1 a xs/\SqL K H1 b ys/\R (Gq K a b) H1):Zd5 K ta σ H R:=h
theorem Znl {K:Os}{a b:Addr}{xs ys:List V}{g:TG}{tb:TS}{D:Ct}{σ:St}{H:Hp}(Pv:Nat->St->Hp->Prop)(h0:Pv 0 σ H)(hl:∀ i σ H,i<=min xs.length ys.length->Pv i σ H->SqL K H a xs/\SqL K H b ys)
  (hs:∀ i x y t σ H,xs[i]?=some x->ys[i]?=some y->H t=none->Pv i σ H->g (.ref t) σ (upd H t (.tup [x,y])) fun σ2 H2=>tb { D with nx:=Pv (i+1),ct:=Pv (i+1),bk:=D.nx } σ2 H2) (hd:∀ σ H,Pv (min xs.length ys.length) σ H->D.nx σ H) :
  ∃ W:Nat->Nat->St->Hp->Prop,(∃ m,W 0 m σ H)/\∀ i m σ H,W i m σ H ->
   ((Gq K a b).stop i H/\D.nx σ H)\/((Gq K a b).go i H/\∃ N:St->Hp->Prop,(∀ σ' H',N σ' H'->∃ m',m' < m/\W (i+1) m' σ' H')/\∀ x H',(Gq K a b).yld i H x H'->g x σ H' fun σ2 H2=>tb { D with nx:=N,ct:=N,bk:=D.nx } σ2 H2):=by
 refine ⟨fun i m σ H=>m=min xs.length ys.length - i/\i<=min xs.length ys.length/\Pv i σ H,⟨min xs.length ys.length,by simp,Ph _,h0⟩,?_⟩
 rintro i m σ H ⟨rfl,hi,p⟩
 obtain ⟨q,q'⟩:=hl i σ H hi p
 by_cases hlt:i < min xs.length ys.length
 ·refine .inr ⟨⟨xs,ys,q,q',by omega,by omega⟩,Pv (i+1),fun σ' H' p'=>⟨min xs.length ys.length - (i+1),by omega,rfl,hlt,p'⟩,fun x H' y=>?_⟩
  obtain ⟨t,y,z,ht,hy,hz,rfl,rfl⟩:=y
  exact hs i y z t σ _ (hy xs q) (hz ys q') ht p
 ·have e:i=min xs.length ys.length:=by omega
  subst e
  exact .inl ⟨⟨xs,ys,q,q',rfl⟩,hd σ H p⟩
end
theorem s_dget1 {td ty:TE}{σ:St}{H:Hp}{Q:VK}(h:td σ H fun x H1=>∃ a,x=.ref a/\DcD H1 a/\ty σ H1 fun y H2=>∃ o,DGet H2 a y o/\Q (o.getD .non) H2):N1 td ty σ H Q:=h
theorem s_isB {x:V}{b:Bool}{H:Hp}{Q:VK}(h:Q (.bl (decide (x=.bl b))) H):rIsB x (.bl b) H Q:=⟨b,rfl,h⟩
theorem s_dnotin {td ty:TE}{σ:St}{H:Hp}{Q:VK}(h:ty σ H fun y H1=>td σ H1 fun x H2=>∃ a o,x=.ref a/\DGet H2 a y o/\Q (.bl (!o.isSome)) H2):Za8 ty td σ H Q:=h
section
variable {X:Cx}
noncomputable abbrev Zej (f:Bool):=Zdk f true
theorem Zno (f:Bool)(K:Os){e e2:Expr}{ta:TA}{p p2 pos pos2:Pos}(hg:Gl X "list")(hm:X.mg "list" = none)(hg2:Gl X "zip")(hm2:X.mg "zip" = none)(ha:QA X [e,e2] ta)(hK:X.K=K:=by rfl)(hc:X.calm=true:=by rfl)
  (hs:starEach [.Call (.Name "zip" p2) [e,e2] [] pos2] X.env=[(false,eval (.Call (.Name "zip" p2) [e,e2] [] pos2) X.env)]:=by rfl) (hs2:starEach [e,e2] X.env=[(false,eval e X.env),(false,eval e2 X.env)]:=by rfl) (hs3:starEach [e2] X.env=[(false,eval e2 X.env)]:=by rfl) :
  QE X (.Call (.Name "list" p) [.Call (.Name "zip" p2) [e,e2] [] pos2] [] pos) (Zej f K ta):=Zk0 f true K hg hm hg2 hm2 ha hK hc hs hs2 hs3
theorem s_listzt {f:Bool}{K:Os}{ta:TA}{σ:St}{H:Hp}{Q:VK}(h:ta σ H fun vs H1=>∃ a b xs ys,vs=[.ref a,.ref b]/\El f K H1 a xs/\SqT K H1 b ys /\
 ∀(S:Addr)(zs:List V)(H2:Hp),H1 S=none->Same H1 H2->zs.length=min xs.length ys.length->Nl H2 xs ys zs->H2 S=some (.lst zs)->Q (.ref S) H2):Zej f K ta σ H Q:=h
end
section
variable {prog:Program}{w:World}{A:Around}{E:Value->Shared->Prop}{s:Shared}
end
section
variable {X:Cx}{tg:Expr}
end
section
variable {X:Cx}{c n:Str}{np hpos pos:Pos}{body hbody:List Stmt}{b₀:Stmt}{tb:TXS}{th:Addr->TS}{i:Nat}{C:Addr}
end
section
variable {P:Program}{w:World}{K:Os}{mg:Str->Option Value}{base:Heap}
end
section
variable {X:Cx}{k:Nat}{x:Str}{ps:List Str}{sp:Addr->Sp}{p pos:Pos}{e:Expr}{es:List Expr}{t:TA}
end
section
variable {X:Cx}{tg:Expr}
end
section
variable {X:Cx}
end
section
variable {X:Cx}
end
section
variable {X:Cx}{pins:List (Addr×Obj)}{σ:St}{H:Hp}{s:Shared}
end
section
variable {X:Cx}
open Classical in
end
end L2
local macro_rules | `(tactic| walk_at "sc")=>`(tactic| exact ⟨rfl,rfl,rfl,by decide +kernel,rfl,by decide +kernel,by decide +kernel⟩)
namespace L2
open PySem PySem.Spec PyProof.Rows
theorem A4:0<=sizeLine:=by decide
theorem A0:1<=sizeLine:=by decide
theorem Az:2<=sizeLine:=by decide
theorem Bh:3<=sizeLine:=by decide
theorem A5:4<=sizeLine:=by decide
theorem sz5:5<=sizeLine:=by decide
theorem sz6:6<=sizeLine:=by decide
theorem Hh:8<=sizeLine:=by decide
theorem sz9:9<=sizeLine:=by decide
theorem Room.m {j k:Nat}{A:Around}(r:Room k A)(h:j<=k:=by decide):Room j A:=r.mono h
section
variable {X:Cx}{a b:Expr}{ta tb:TE}{pos:Pos}{K:Os}
theorem Ar (i:Nat){ps:List Str}{sc:Scope}{x:Str}{e:Expr}{te:TE}{pos':Pos}(S:Bm X.N ps sc)(he:QE X e te)(hi:X.N[i]?=some x:=by rfl)(hx:Dw X.env.scope x:=by exact Or.inl rfl)(hs:swapsWith e (some (.Name x pos')) pos.line X.env=pure false:=by rfl)(hf:X.fn x=true\/X.env.scope.names.lookup x=some .local:=by first | exact .inl rfl | exact .inr rfl | assumption):QS X (.Assign [.Name x pos'] e pos) (Ff te (E5 i)):=Zaw S.nd hi hx he hs hf
theorem Ap (K:Os)(ha:QE X a ta)(hb:QE X b tb)(hs:Mm b:=by exact fun _ _=>rfl)(hK:X.K=K:=by rfl):QE X (.Subscript a b pos) (Eh (Gw K) ta tb):=Zi7 (k_ix K hK) ha hb hs
end
end L2
namespace K30
theorem lz1 {α:Type}{vs:List α}(h:vs.length=1):∃ u,vs=[u]:=by
 cases vs with
 | nil=>cases h
 | cons u r=>cases Rg (Nat.succ.inj h);exact ⟨u,rfl⟩
theorem lz2 {α:Type}{vs:List α}(h:vs.length=2):∃ u v,vs=[u,v]:=by
 cases vs with
 | nil=>cases h
 | cons u r=>obtain ⟨v,rfl⟩:=lz1 (Nat.succ.inj h);exact ⟨u,v,rfl⟩
end K30
namespace K30
open PySem L2
noncomputable def Ae (i:Nat):Stmt:=Re.main.body.getD i (.Pass ⟨0,0,0,0⟩)
noncomputable abbrev Im:Stmt:=Ae 5
noncomputable abbrev Jk:Stmt:=Ae 7
noncomputable abbrev Ji:Stmt:=Ae 8
noncomputable abbrev Jb:Stmt:=Ae 9
noncomputable abbrev Ib:Stmt:=Ae 10
noncomputable abbrev Ki:Stmt:=Ae 12
noncomputable abbrev Ju:Stmt:=Ae 13
noncomputable abbrev Ix:Stmt:=Ae 14
noncomputable abbrev Jf:Stmt:=Ae 15
noncomputable abbrev Je:Stmt:=Ae 20
noncomputable abbrev Jq:Stmt:=Ae 21
noncomputable abbrev Ip:Stmt:=Ae 22
noncomputable abbrev Hx:Stmt:=Ae 23
noncomputable abbrev Ig:Stmt:=Ae 24
noncomputable abbrev Ke:Stmt:=Ae 25
noncomputable abbrev Jy:Stmt:=Ae 26
noncomputable abbrev Jm:Stmt:=Ae 27
noncomputable abbrev Hz:Stmt:=Ae 28
noncomputable abbrev Ik:Stmt:=Ae 31
noncomputable abbrev Kc:Stmt:=Ae 32
noncomputable abbrev J7:Stmt:=Ae 33
noncomputable abbrev Jn:Stmt:=Ae 34
noncomputable abbrev Jv:Stmt:=Ae 36
noncomputable abbrev Io:Stmt:=Ae 37
noncomputable abbrev G2:Stmt:=Ae 38
noncomputable abbrev Jc:Stmt:=Ae 39
noncomputable abbrev Kf:Stmt:=Ae 40
noncomputable abbrev J2:Stmt:=Ae 41
noncomputable abbrev Jo:Stmt:=Ae 42
noncomputable abbrev Ka:Stmt:=Ae 43
structure Txt (K:Os)(mg:Str->Option Value):Prop where
 isinstance:mg "isinstance" = none
 int:mg "int" = none
 bool:mg "bool" = none
 reversed:mg "reversed" = none
 list:mg "list" = none
 enumerate:mg "enumerate" = none
 len:mg "len" = none
 dict:mg "dict" = none
 zip:mg "zip" = none
 tuple:mg "tuple" = none
 range:mg "range" = none
 str:mg "str" = none
structure Script (K:Os)(H:Hp)(a:Addr):Prop where
 ex:∃ ns:List Int,SqL K H a (ns.map V.int)/\ns.length<=63
theorem Script.same {K:Os}{H H':Hp}{a:Addr}(S:Script K H a)(h:Same H H'):Script K H' a:=by
 obtain ⟨ns,q,l⟩:=S.ex
 exact ⟨ns,h.seq q,l⟩
theorem big:100000<=sizeLine:=by decide
end K30
local macro_rules | `(tactic| walk_at "r1")=>`(tactic| (first | (with_reducible first | refine L2.s_seq ?_ | refine L2.s_asg ?_ | refine L2.s_ret ?_ | refine L2.s_ifS ?_ | refine L2.s_ifE ?_ | refine L2.s_dget ?_ | refine L2.s_din ?_ | refine L2.s_dput ?_ | refine L2.s_dget2 ?_ | refine L2.s_izipm ?_ | refine L2.s_dnotin ?_ | refine L2.s_listzt ?_ | refine L2.s_listr ?_ | refine L2.s_dget1 ?_ | refine L2.s_isB ?_ | refine L2.s_par ?_ | refine L2.s_test ?_ | refine L2.s_op ?_ | refine L2.s_c ?_ | refine L2.s_cons ?_ | refine L2.s_nil ?_ | refine L2.s_call ?_ | refine L2.s_cb ?_ | refine L2.s_gname ?_ | refine L2.s_ex ?_ | refine L2.s_exi ?_ | refine L2.s_drop ?_ | refine L2.s_next ?_ | refine L2.s_un ?_ | refine L2.s_tB ?_ | refine L2.s_not ?_ | refine L2.s_and ?_ | refine L2.s_or ?_ | refine L2.s_andV ?_ | refine L2.s_orV ?_ | refine L2.s_notV ?_ | refine L2.s_vals ?_ | refine L2.s_tup ?_ | refine L2.s_lst ?_ | refine L2.s_bm ?_ | refine L2.s_bm0 ?_ | refine L2.s_sl ?_ | refine L2.s_po ?_ | refine L2.s_po0 ?_ | refine L2.s_gcons ?_ | refine L2.s_gnil ?_ | refine L2.s_gsub ?_ | refine L2.s_isN ?_ | refine L2.s_notN ?_ | refine L2.s_rI0 ?_ | refine L2.s_rU ?_ | refine L2.s_add_int ?_ | refine L2.s_lt ?_ | refine L2.s_le ?_ | refine L2.iteT ?_ | refine L2.iteF ?_ | refine L2.s_comp ?_ | refine L2.s_for ?_ | refine L2.s_rng1 ?_ | refine L2.s_rng3 ?_ | refine L2.s_exr ?_ | refine L2.s_iany ?_ | refine L2.s_irev ?_ | refine L2.s_ienum ?_ | refine L2.s_listen ?_ | refine L2.s_listrev ?_ | refine L2.s_izip ?_ | refine L2.s_ienumT ?_ | refine L2.s_listzp ?_ | refine L2.s_ipI ?_ | refine L2.s_yes ?_ | refine L2.s_turn ?_ | refine L2.s_int_b ?_ | refine L2.s_intb ?_ | refine L2.s_truth ?_ | refine L2.s_chain ?_ | refine L2.s_nt ?_ | refine L2.s_nf ?_) | ((with_reducible refine' L2.s_var ?e ?_); (case e=>exact rfl)) | ((with_reducible refine' L2.s_aug ?e ?_); (case e=>exact rfl)) | ((with_reducible refine' L2.s_eq ?e ?_); (case e=>exact rfl)) | ((with_reducible refine' L2.s_ne ?e ?_); (case e=>exact rfl)) | ((with_reducible refine' L2.s_neb ?e ?_); (case e=>exact rfl)) | ((with_reducible refine' L2.s_eqy ?e ?_); (case e=>exact rfl)) | ((with_reducible refine' L2.s_rI ?c ?_); (case c=>first | decide | exact ⟨by decide,by decide⟩ | exact ⟨by decide,by decide,by decide⟩)) | ((with_reducible refine' L2.s_mul_r ?a ?b ?_); (case a=>decide); (case b=>decide)) | ((with_reducible refine' L2.s_mul_l ?a ?b ?_); (case a=>decide); (case b=>decide)) | ((with_reducible refine' L2.s_exr3 ?e ?_); (case e=>decide))))
local macro_rules | `(tactic| walk_at "r")=>`(tactic| (repeat walk_at "r1"))
local macro_rules | `(tactic| walk_at "q")=>`(tactic| (repeat (first | (with_reducible first | refine L2.s_gcons ?_ | refine L2.s_gname ?_ | refine L2.s_gnil ?_ | refine L2.s_seq ?_ | refine L2.s_asg ?_ | refine L2.s_c ?_ | refine L2.s_lst ?_ | refine L2.s_tup ?_ | refine L2.s_cons ?_ | refine L2.s_nil ?_) | ((with_reducible refine' L2.s_var ?e ?_); (case e=>exact rfl)))))
namespace K30
open PySem L2
section
variable {P:Program}{w:World}{K:Os}{mg:Str->Option Value}{base:Heap}
noncomputable def Ln (K:Os):Sp:=fun vs H Q _=>∃(a:Addr)(k:Int),vs=[.ref a,.int k]/\Script K H a/\0<=k/\∀ z:Int,Q (.int z) H
theorem Zp3:Bm ["_law_script", "_law_k"] ["_law_script", "_law_k"] (Be Jv):=by walk_at "sc"
theorem Zhn {f:Addr}{fd:FuncData}(F:Fun K "_law_cell_at" "_law_cell_at" Jv f fd)(T:Txt K mg):A9 P w K mg base Bd 1 f fd ["_law_script", "_law_k"] (Ln K):=by
 refine F.okq Zp3 (fun vs H Q E h=>?_) (fun cdv A outer s H vs Q E hr h=>?_)
 ·obtain ⟨a,k,rfl,_⟩:=h
  rfl
 ·obtain ⟨a,k,rfl,S,h0,q⟩:=h
  obtain ⟨ns,hS,hl⟩:=S.ex
  refine ⟨_,Ag (Bf (Bv Zey (qv 1) (Ca (Em K) (by rfl) T.len (by decide +kernel) (Aa (qv 0) Ab)) (Br _)) (Ak (Ax (Ap K (qv 0) (qv 1)))) Bj)
   (Ak (Ax Af)),?_⟩
  walk_at "r"
  refine E9 hS ?_
  walk_at "r"
  refine Ce (fun h=>?_) (fun h=>?_)
  ·have h1:k < (ns.map V.int).length:=by simpa using h
   obtain ⟨v,hv,m⟩:=Gr h0 h1
   obtain ⟨z,_,rfl⟩:=Sl.mp m
   walk_at "r"
   exact A1 hS hv (q z)
  ·walk_at "r"
   exact q _
end
inductive Sh where
 | num | truth | any | to (a b:Nat) | same (k:Nat)
 deriving DecidableEq
noncomputable def shV:Sh->List V
 | .num=>[.str "num"]
 | .truth=>[.str "truth"]
 | .any=>[.str "any"]
 | .to a b=>[.str "to",.int (a:Nat),.int (b:Nat)]
 | .same k=>[.str "same",.int (k:Nat)]
noncomputable def Sh.parts:Sh->List Nat
 | .to a b=>[a,b]
 | .same k=>[k]
 | _=>[]
noncomputable def Sh.wd:Sh->Str
 | .num => "num"
 | .truth => "truth"
 | .any => "any"
 | .to _ _ => "to"
 | .same _ => "same"
theorem Zl2 (s:Sh):shV s=.str s.wd::s.parts.map fun n=>V.int ((n:Nat):Int):=by cases s <;> rfl
noncomputable def Sh.isSame:Sh->Bool
 | .same _=>true
 | _=>false
noncomputable abbrev Ao:=List Sh
inductive LastN (sh:Ao):Nat->Nat->Nat->Prop where
 | root {i:Nat} {s:Sh} (h:sh[i]?=some s) (hs:s.isSame=false):LastN sh 0 i i
 | step {n i k r:Nat} (h:sh[i]?=some (.same k)) (t:LastN sh n k r):LastN sh (n+1) i r
noncomputable def Last (sh:Ao)(i r:Nat):Prop:=∃ n,LastN sh n i r
theorem LastN.at {sh:Ao}{n i r:Nat}(h:LastN sh n i r):∃ s,sh[r]?=some s/\s.isSame=false:=by
 induction h with
 | root h hs=>exact ⟨_,h,hs⟩
 | step _ _ ih=>exact ih
theorem Last.at {sh:Ao}{i r:Nat}(h:Last sh i r):∃ s,sh[r]?=some s/\s.isSame=false:=let ⟨_,h⟩:=h;h.at
noncomputable abbrev Ps:=Nat->Option Bool
noncomputable def Cc (ps:Ps)(i:Nat)(b:Bool):Ps:=fun j=>if j=i then some b else ps j
inductive Eg (sh:Ao)(ps:Ps):List Nat->List Nat->Option (List Nat)->Prop where
 | nil {w:List Nat}:Eg sh ps [] w (some w)
 | hit {p r:Nat} {rest w:List Nat} (h:Last sh p r) (h2:ps r=some false):Eg sh ps (p::rest) w none
 | go {p r:Nat} {rest w:List Nat} {o:Option (List Nat)} (h:Last sh p r) (h2:ps r≠some false) (t:Eg sh ps rest (w++[r]) o):Eg sh ps (p::rest) w o
inductive HoldsN (sh:Ao):Nat->Ps->List Nat->Bool->Prop where
 | nil {ps:Ps}:HoldsN sh 0 ps [] false
 | seen {n:Nat} {ps:Ps} {w:List Nat} {Ae:Nat} {x b:Bool} (h:ps Ae=some x) (t:HoldsN sh n (Cc ps Ae true) w b):HoldsN sh (n+1) ps (w++[Ae]) b
 | hit {ps:Ps} {w:List Nat} {Ae:Nat} {s:Sh} (h:ps Ae=none) (hs:sh[Ae]?=some s) (hp:Eg sh (Cc ps Ae false) s.parts (w++[Ae]) none):HoldsN sh 1 ps (w++[Ae]) true
 | go {n:Nat} {ps:Ps} {w w':List Nat} {Ae:Nat} {s:Sh} {b:Bool} (h:ps Ae=none) (hs:sh[Ae]?=some s) (hp:Eg sh (Cc ps Ae false) s.parts (w++[Ae]) (some w')) (t:HoldsN sh n (Cc ps Ae false) w' b):HoldsN sh (n+1) ps (w++[Ae]) b
inductive JoinN:Nat->Ao->List (Nat×Nat)->Option Ao->Prop where
 | nil {m:Ao}:JoinN 0 m [] (some m)
 | eq {n:Nat} {m:Ao} {w:List (Nat×Nat)} {p:Nat×Nat} {l:Nat} {o:Option Ao} (h1:Last m p.1 l) (h2:Last m p.2 l) (t:JoinN n m w o):JoinN (n+1) m (w++[p]) o
 | anyR {n:Nat} {m:Ao} {w:List (Nat×Nat)} {p:Nat×Nat} {l r:Nat} {o:Option Ao} (h1:Last m p.1 l) (h2:Last m p.2 r) (ne:l≠r) (hr:m[r]?=some .any) (t:JoinN n (m.set r (.same l)) w o):JoinN (n+1) m (w++[p]) o
 | anyL {n:Nat} {m:Ao} {w:List (Nat×Nat)} {p:Nat×Nat} {l r:Nat} {sr:Sh} {o:Option Ao} (h1:Last m p.1 l) (h2:Last m p.2 r) (ne:l≠r) (hr:m[r]?=some sr) (hn:sr≠.any) (hl:m[l]?=some .any) (t:JoinN n (m.set l (.same r)) w o):JoinN (n+1) m (w++[p]) o
 | to {n:Nat} {m:Ao} {w:List (Nat×Nat)} {p:Nat×Nat} {l r a b c d:Nat} {o:Option Ao} (h1:Last m p.1 l) (h2:Last m p.2 r) (ne:l≠r) (hl:m[l]?=some (.to a b)) (hr:m[r]?=some (.to c d)) (t:JoinN n (m.set l (.same r)) (w++[(a,c),(b,d)]) o):JoinN (n+1) m (w++[p]) o
 | clash {m:Ao} {w:List (Nat×Nat)} {p:Nat×Nat} {l r:Nat} {sl sr:Sh} (h1:Last m p.1 l) (h2:Last m p.2 r) (ne:l≠r) (hl:m[l]?=some sl) (hr:m[r]?=some sr) (nl:sl≠.any) (nr:sr≠.any) (nt:sl.wd ≠ "to" \/ sr.wd ≠ "to"):JoinN 1 m (w++[p]) none
inductive FitG:List (Nat×Nat)->Ao->List Bool->Ao->Prop where
 | nil {m:Ao}:FitG [] m [] m
 | ok {g a n k r:Nat} {m m1 m':Ao} {ps:List (Nat×Nat)} {fs:List Bool} (j:JoinN n m [(g,a)] (some m1)) (hn:n<=1000) (l:Last m1 g r) (h:HoldsN m1 k (fun _=>none) [r] false) (hk:k<=1000) (t:FitG ps m1 fs m'):FitG ((g,a)::ps) m (true::fs) m'
 | clash {g a n:Nat} {m m':Ao} {ps:List (Nat×Nat)} {fs:List Bool} (j:JoinN n m [(g,a)] none) (hn:n<=1000) (t:FitG ps m fs m'):FitG ((g,a)::ps) m (false::fs) m'
 | loop {g a n k r:Nat} {m m1 m':Ao} {ps:List (Nat×Nat)} {fs:List Bool} (j:JoinN n m [(g,a)] (some m1)) (hn:n<=1000) (l:Last m1 g r) (h:HoldsN m1 k (fun _=>none) [r] true) (hk:k<=1000) (t:FitG ps m fs m'):FitG ((g,a)::ps) m (false::fs) m'
section
variable {P:Program}{w:World}{K:Os}{mg:Str->Option Value}{base:Heap}
noncomputable def ShE (K:Os)(H:Hp)(u:V)(s:Sh):Prop:=∃ p,u=.ref p/\SqT K H p (shV s)
structure ShG (K:Os)(H:Hp)(a:Addr)(sh:Ao):Prop where
 ex:∃ us:List V,H a=some (.lst us)/\Al (ShE K H) us sh
theorem ShE.same {H H':Hp}(e:SameT H H')(u:V)(s:Sh)(h:ShE K H u s):ShE K H' u s:=let ⟨p,e1,q⟩:=h;⟨p,e1,e.tup q⟩
theorem ShG.same {H H':Hp}{a:Addr}{sh:Ao}(h:ShG K H a sh)(s:Same H H'):ShG K H' a sh:=let ⟨us,e,al⟩:=h.ex;⟨us,s _ _ e,al.mono (ShE.same s.t)⟩
theorem ShG.at {H:Hp}{a:Addr}{sh:Ao}{i:Nat}{s:Sh}(h:ShG K H a sh)(hi:sh[i]?=some s):∃ us p,H a=some (.lst us)/\B0 us ((i:Nat):Int)=some (.ref p)/\SqT K H p (.str s.wd::s.parts.map fun n=>V.int ((n:Nat):Int)):=by
 obtain ⟨us,e,al⟩:=h.ex
 obtain ⟨u,hu,p,rfl,q⟩:=al.get' hi
 rw [Zl2] at q
 exact ⟨us,p,e,Bp hu,q⟩
theorem Zdz (s:Sh):decide (V.str s.wd=V.str "same")=s.isSame:=by
 cases s with
 | to a b=>exact (by decide:decide (V.str "to" = V.str "same")=false)
 | same k=>exact (by decide:decide (V.str "same" = V.str "same")=true)
 | _=>decide
theorem Di {x:V}{xs:List V}:B0 (x::xs) 0=some x:=by
 have h:B0 (x::xs) ((0:Nat):Int)=some x:=Bp rfl
 exact h
noncomputable def Mh (K:Os):Sp:=fun vs H Q _=>∃(a:Addr)(sh:Ao)(i r:Nat),vs=[.ref a,.int (i:Nat)]/\ShG K H a sh/\Last sh i r/\Q (.int (r:Nat)) H
theorem Mo:Bm ["shapes", "kind", "last"] ["shapes", "kind"] (Be Ig):=by walk_at "sc"
theorem Zmm {f:Addr}{fd:FuncData}(F:Fun K "last_same" "last_same" Ig f fd)(T:Txt K mg):A9 P w K mg base Bd 1 f fd ["shapes", "kind"] (Mh K):=by
 refine F.okq Mo (fun vs H Q E h=>?_) (fun cdv A outer s H vs Q E hr h=>?_)
 ·obtain ⟨a,sh,i,r,rfl,_⟩:=h
  rfl
 ·obtain ⟨a,sh,i,r,rfl,S,⟨n0,L⟩,q⟩:=h
  refine ⟨_,Ag (Ar 2 Mo (qv 1))
   (Ag (Ij Pi (Bv (B2 K hr.u200) (Ap K (Ap K (qv 0) (qv 2)) Af) Ah (Br _)) (Ak (Ar 2 Mo (Ap K (Ap K (qv 0) (qv 2)) Af))))
   (Ak (Ax (qv 2)))),?_⟩
  walk_at "r"
  refine ⟨fun n σ' H'=>H'=H/\∃ j:Nat,σ'=[some (.ref a),some (.int (i:Nat)),some (.int (j:Nat))]/\LastN sh n j r,⟨n0,rfl,i,rfl,L⟩,?_⟩
  rintro n σ' H' ⟨rfl,j,rfl,L⟩
  walk_at "r"
  cases L with
  | @root _ s h hs =>
   obtain ⟨us,p,e,eu,qp⟩:=S.at h
   refine A1 (SqL.of e) eu ?_
   walk_at "r"
   refine A2 qp Di ?_
   walk_at "r"
   rw [Zdz,hs]
   walk_at "r"
   exact q
  | @step n _ k _ h t =>
   obtain ⟨us,p,e,eu,qp⟩:=S.at h
   refine A1 (SqL.of e) eu ?_
   walk_at "r"
   refine A2 qp Di ?_
   walk_at "r"
   rw [Zdz,show (Sh.same k).isSame=true from rfl]
   refine iteT ?_
   refine ⟨fun σ2 H2=>∃ m',m' < n+1/\H2=H'/\∃ j':Nat,σ2=[some (.ref a),some (.int (i:Nat)),some (.int (j':Nat))]/\LastN sh m' j' r,fun _ _ h=>h,?_⟩
   walk_at "r"
   refine A1 (SqL.of e) eu ?_
   walk_at "r"
   refine A2 qp rfl ?_
   walk_at "r"
   exact ⟨n,by omega,rfl,k,rfl,t⟩
noncomputable def Am (ns:List Nat):List V:=ns.map fun n=>V.int ((n:Nat):Int)
theorem Fe (a b:List Nat):Am (a++b)=Am a++Am b:=by unfold Am;exact Qb ..
noncomputable def DcN {α:Type}(kvs:List (Aq×V))(ps:Nat->Option α)(g:α->V):Prop:=∀ i:Nat,Bk kvs (.inl ((i:Nat):Int))=(ps i).map g
theorem Zfj {i j:Nat}(h:(Sum.inl ((i:Nat):Int):Aq)=.inl ((j:Nat):Int)):i=j:=by have:=Sum.inl.inj h;omega
theorem DcN.put {α:Type}{kvs:List (Aq×V)}{ps:Nat->Option α}{g:α->V}(h:DcN kvs ps g)(i:Nat)(x:α):DcN (Bc kvs (.inl ((i:Nat):Int)) (g x)) (fun j=>if j=i then some x else ps j) g:=fun j=>by
 rw [Ic]
 show _=Option.map g (if j=i then some x else ps j)
 by_cases hj:j=i
 ·rw [if_pos (by rw [hj]),if_pos hj]
  rfl
 ·rw [if_neg fun z=>hj (Zfj z),if_neg hj]
  exact h j
theorem K2 {s:Sh}:Cp (V.str s.wd::s.parts.map fun n=>V.int ((n:Nat):Int)) (some 1) none=Am s.parts:=by
 cases s <;> rfl
theorem Kq {s:Sh}:¬ (HT.sIx (V.str s.wd::s.parts.map fun n=>V.int ((n:Nat):Int)).length 0 (some 1)=0/\HT.sIx (V.str s.wd::s.parts.map fun n=>V.int ((n:Nat):Int)).length (V.str s.wd::s.parts.map fun n=>V.int ((n:Nat):Int)).length none=(V.str s.wd::s.parts.map fun n=>V.int ((n:Nat):Int)).length):=by
 rintro ⟨h,_⟩
 rw [show (1:Int)=((1:Nat):Int) from rfl,HT.sIx_nat,O3] at h
 omega
theorem Zcr (s:Sh):s.parts.length<=2:=by cases s <;> simp [Sh.parts]
theorem HoldsN.inv {sh:Ao}{n:Nat}{ps:Ps}{w:List Nat}{b:Bool}(h:HoldsN sh n ps w b):(w=[]/\b=false)\/(∃ w1 Ae x n',w=w1++[Ae]/\n=n'+1/\ps Ae=some x/\HoldsN sh n' (Cc ps Ae true) w1 b) \/
  ∃ w1 Ae s o n',w=w1++[Ae]/\n=n'+1/\ps Ae=none/\sh[Ae]?=some s/\Eg sh (Cc ps Ae false) s.parts (w1++[Ae]) o/\(o=none->b=true)/\∀ w',o=some w'->HoldsN sh n' (Cc ps Ae false) w' b:=by
 cases h with
 | nil=>exact .inl ⟨rfl,rfl⟩
 | seen h t=>exact .inr (.inl ⟨_,_,_,_,rfl,rfl,h,t⟩)
 | hit h hs hp=>exact .inr (.inr ⟨_,_,_,_,0,rfl,rfl,h,hs,hp,fun _=>rfl,fun _ e=>by cases e⟩)
 | go h hs hp t=>exact .inr (.inr ⟨_,_,_,_,_,rfl,rfl,h,hs,hp,fun e=>(by cases e),fun _ e=>by cases e;exact t⟩)
theorem Zfs {H:Hp}{x y:Addr}{us vs:List V}(h:H x=some (.lst us))(h':H y=some (.tup vs)):y≠x:=fun z=>by rw [z,h] at h';cases h'
noncomputable def Ze1 (K:Os):Sp:=fun vs H Q _=>∃(a:Addr)(sh:Ao)(i r N:Nat)(b:Bool),vs=[.ref a,.int (i:Nat)]/\ShG K H a sh/\Last sh i r/\HoldsN sh N (fun _=>none) [r] b/\N<=1000/\∀ H',Same H H'->Q (.bl b) H'
structure HoJ (K:Os)(H:Hp)(pd pw:Addr)(N n:Nat)(ps:Ps)(w:List Nat)(H':Hp):Prop where
 ed:∃ kvs,H' pd=some (.dK kvs)/\DcN kvs ps V.bl/\kvs.length+n<=N
 ew:H' pw=some (.lst (Am w))
 wl:w.length+2 * n<=1+2 * N
 sm:Same H H'
theorem sc_holds_itself:Bm ["shapes", "kind", "passed", "waiting", "top", "part", "inner"] ["shapes", "kind"] (Be Ke):=by walk_at "sc"
theorem Zir {f:Addr}{fd:FuncData}(F:Fun K "holds_itself" "holds_itself" Ke f fd)(T:Txt K mg)(C_last_same:Ba P w K mg base 1 "last_same" ["shapes", "kind"] (Mh K)):A9 P w K mg base Bd 2 f fd ["shapes", "kind"] (Ze1 K):=by
 refine F.okq sc_holds_itself (fun vs H Q E h=>?_) (fun cdv A outer s H vs Q E hr h=>?_)
 ·obtain ⟨a,sh,i,r,N,b,rfl,_⟩:=h
  rfl
 ·obtain ⟨a,sh,i,r,N,b,rfl,S,L,HN,hN,q⟩:=h
  refine ⟨_,Ag (Ar 2 sc_holds_itself (M5))
   (Ag (Ar 3 sc_holds_itself (Av (Aa (As C_last_same hr.m (Aa (qv 0) (Aa (qv 1) Ab))) Ab)))
   (Ag (Ij Pi (Fm K (qv 3) (by intro _;rfl)) (Ag (Ar 4 sc_holds_itself (Ap K (qv 3) (Hv G8 Af)))
   (Ag (Bf (Ha (Zck hr.u1 (qv 4) (qv 2))) (Ag (F1 hr.u1 (qv 2) (qv 4) C6)
   (Ag (Cw (Lr K Pl Tf Tg Mf (qv 3)))
   (Ak (Zea)))) Bj)
   (Ag (F1 hr.u1 (qv 2) (qv 4) C6)
   (Ak (Cu Pi rfl (Db K (Hk (Ll K) (Ap K (qv 0) (qv 4)) (Hc Af) (G5))) (A6 (i:=5) sc_holds_itself.nd rfl (Or.inl rfl)) (Ag (Ar 6 sc_holds_itself (As C_last_same hr.m (Aa (qv 0) (Aa (qv 5) Ab))))
   (Ag (Bf (Bv Zhg (Zkj hr.u1 (qv 2) (qv 6)) C6 (Br _)) (Ak (Ax C6)) Bj)
   (Ak (Cw (Dk K Pl P7 P8 Dl (qv 3) (Aa (qv 6) Ab))))))))))))
   (Ak (Ax C6)))),?_⟩
  have bg:=big
  walk_at "r"
  refine fun pd hpd=>?_
  have s1:=Same.upd (o:=.dK []) hpd
  walk_at "r"
  refine ⟨a,sh,i,r,rfl,S.same s1,L,?_⟩
  walk_at "r"
  refine ⟨A0,fun pw hpw=>?_⟩
  have s2:=Same.upd (o:=.lst [.int (r:Nat)]) hpw
  have nd:pd≠pw:=A3 Ac hpw
  have hpw0:=s1.free hpw
  walk_at "r"
  refine ⟨fun n σ' H'=>∃ v4 v5 v6 ps w,σ'=[some (.ref a),some (.int (i:Nat)),some (.ref pd),some (.ref pw),v4,v5,v6]/\HoJ K H pd pw N n ps w H'/\HoldsN sh n ps w b,
   ⟨N,none,none,none,fun _=>none,[r],rfl,⟨⟨[],s2 _ _ Ac,fun _=>rfl,by simp⟩,Ac,by simp,s1.trans s2⟩,HN⟩,?_⟩
  rintro n σ' H1 ⟨v4,v5,v6,ps,w0,rfl,J,hh⟩
  obtain ⟨kvs,ed,dc,kl⟩:=J.ed
  have ew:=J.ew
  have wl:=J.wl
  have sm:=J.sm
  walk_at "r"
  refine Gn (SqL.of ew) ?_
  have turn:∀(w':List Nat)(Ae:Nat),w0=w'++[Ae]->(!(Am w0).isEmpty)=true/\Am w0=Am w'++[.int (Ae:Nat)]:=fun w' Ae e=>by
   have:Am w0=Am w'++[.int (Ae:Nat)]:=by rw [e,Fe];rfl
   exact ⟨by rw [this];simp,this⟩
  rcases hh.inv with ⟨rfl,rfl⟩ | ⟨w1,Ae,x,n,rfl,rfl,h,t⟩ | ⟨w1,Ae,s,o,n,rfl,rfl,h,hs,hp,ho,hgo⟩
  ·refine iteF ?_
   walk_at "r"
   exact q _ sm
  ·obtain ⟨e1,e2⟩:=turn w1 Ae rfl
   rw [e1]
   rw [e2] at ew
   refine iteT ?_
   refine ⟨fun σ2 H2=>∃ m',m' < n+1/\∃ v4 v5 v6 ps w,σ2=[some (.ref a),some (.int (i:Nat)),some (.ref pd),some (.ref pw),v4,v5,v6]/\HoJ K H pd pw N m' ps w H2/\HoldsN sh m' ps w b,fun _ _ h=>h,?_⟩
   walk_at "r"
   refine A1 (SqL.of ew) (Hq _ _) ?_
   walk_at "r"
   refine ⟨pd,_,rfl,DGet.k (k:=.inl ((Ae:Nat):Int)) ed,?_⟩
   rw [dc Ae,h]
   refine ⟨true,rfl,?_⟩
   walk_at "r"
   refine ⟨pd,_,rfl,DPut.k (k:=.inl ((Ae:Nat):Int)) ed (by omega),?_⟩
   walk_at "r"
   have ew2:upd H1 pd (.dK (Bc kvs (.inl ((Ae:Nat):Int)) (.bl true))) pw=some (.lst (Am w1++[.int (Ae:Nat)])):=by rw [Ai nd.symm];exact ew
   refine Ci (SqL.of ew2) ?_
   refine Km ew2 ?_
   have hl:=Dv kvs (.inl ((Ae:Nat):Int)) (.bl true)
   rw [O4,Pt] at wl
   exact ⟨n,by omega,_,_,_,Cc ps Ae true,w1,rfl,⟨⟨_,by rw [Ai nd];exact Ac,dc.put Ae true,by omega⟩,Ac,by omega,(sm.over hpd).over hpw0⟩,t⟩
  ·obtain ⟨e1,e2⟩:=turn w1 Ae rfl
   rw [e1]
   have ew0:=ew
   rw [e2] at ew
   refine iteT ?_
   refine ⟨fun σ2 H2=>∃ m',m' < n+1/\∃ v4 v5 v6 ps w,σ2=[some (.ref a),some (.int (i:Nat)),some (.ref pd),some (.ref pw),v4,v5,v6]/\HoJ K H pd pw N m' ps w H2/\HoldsN sh m' ps w b,fun _ _ h=>h,?_⟩
   walk_at "r"
   refine A1 (SqL.of ew) (Hq _ _) ?_
   walk_at "r"
   refine ⟨pd,_,rfl,DGet.k (k:=.inl ((Ae:Nat):Int)) ed,?_⟩
   rw [dc Ae,h]
   refine ⟨false,rfl,?_⟩
   walk_at "r"
   refine ⟨pd,_,rfl,DPut.k (k:=.inl ((Ae:Nat):Int)) ed (by omega),?_⟩
   have hl:=Dv kvs (.inl ((Ae:Nat):Int)) (.bl false)
   have dc2:DcN (Bc kvs (.inl ((Ae:Nat):Int)) (.bl false)) (Cc ps Ae false) V.bl:=dc.put Ae false
   have ed2:upd H1 pd (.dK (Bc kvs (.inl ((Ae:Nat):Int)) (.bl false))) pd=some (.dK (Bc kvs (.inl ((Ae:Nat):Int)) (.bl false))):=Ac
   have ew2:upd H1 pd (.dK (Bc kvs (.inl ((Ae:Nat):Int)) (.bl false))) pw=some (.lst (Am (w1++[Ae]))):=by rw [Ai nd.symm];exact ew0
   have sm2:Same H (upd H1 pd (.dK (Bc kvs (.inl ((Ae:Nat):Int)) (.bl false)))):=sm.over hpd
   revert ed2 ew2 sm2
   generalize upd H1 pd (.dK (Bc kvs (.inl ((Ae:Nat):Int)) (.bl false)))=H2
   generalize Bc kvs (.inl ((Ae:Nat):Int)) (.bl false)=kv2 at hl dc2
   intro ed2 ew2 sm2
   obtain ⟨us,p,e,eu,qp⟩:=(S.same sm2).at hs
   walk_at "r"
   refine A1 (SqL.of e) eu ?_
   walk_at "r"
   refine .inr (.inr ⟨p,_,rfl,qp,Kq,fun p3 h3=>?_⟩)
   rw [K2]
   have s3:=Same.upd (o:=.tup (Am s.parts)) h3
   refine .inr (.inl ⟨p3,rfl,⟨_,SqT.of Ac⟩,?_⟩)
   have hpl:=Zcr s
   rw [O4,Pt] at wl
   refine Zbo (K:=K) (a:=p3) (xs:=Am s.parts) (fun j σ' H'=>∃ v5 v6 wj,σ'=[some (.ref a),some (.int (i:Nat)),some (.ref pd),some (.ref pw),some (.int (Ae:Nat)),v5,v6]/\H' pd=some (.dK kv2)/\H' pw=some (.lst (Am wj))/\wj.length=w1.length+1+j/\Same H H'/\H' p3=some (.tup (Am s.parts))/\Eg sh (Cc ps Ae false) (s.parts.drop j) wj o)
    ⟨_,_,w1++[Ae],rfl,s3 _ _ ed2,s3 _ _ ew2,by simp,sm2.trans s3,Ac,hp⟩ ?_ ?_ ?_
   ·rintro j σ' H' _ ⟨_,_,_,_,_,_,_,_,e,_⟩
    exact SqT.of e
   ·rintro j x σ' H3 hx ⟨v5',v6',wj,rfl,ed3,ew3,lw,sm3,ep3,hpu⟩
    have hj:j < s.parts.length:=by have:=(O2.mp hx).1;unfold Am at this;rwa [O0] at this
    have hxv:x=.int ((s.parts[j]:Nat):Int):=by unfold Am at hx;rw [Pk,Ou hj] at hx;exact (Pb hx).symm
    subst hxv
    rw [Qo hj] at hpu
    have hmem:∃ r2,Last sh s.parts[j] r2/\((Cc ps Ae false r2=some false/\o=none)\/(Cc ps Ae false r2≠some false/\Eg sh (Cc ps Ae false) (s.parts.drop (j+1)) (wj++[r2]) o)):=by
     cases hpu with
     | hit h1 h2=>exact ⟨_,h1,.inl ⟨h2,rfl⟩⟩
     | go h1 h2 t=>exact ⟨_,h1,.inr ⟨h2,t⟩⟩
    obtain ⟨r2,hL2,hc⟩:=hmem
    walk_at "r"
    refine ⟨a,sh,s.parts[j],r2,rfl,S.same sm3,hL2,?_⟩
    walk_at "r"
    refine ⟨pd,rfl,.inl ⟨_,.inl ed3⟩,?_⟩
    walk_at "r"
    refine ⟨_,DGet.k (k:=.inl ((r2:Nat):Int)) ed3,?_⟩
    rw [dc2 r2]
    rcases hc with ⟨h1,h2⟩ | ⟨h1,h2⟩
    ·rw [h1]
     walk_at "r"
     rw [show (decide ((Option.map V.bl (some false)).getD V.non=V.bl false))=true from rfl]
     walk_at "r"
     have:=ho h2
     subst this
     exact q _ sm3
    ·have hd:decide (((Cc ps Ae false r2).map V.bl).getD .non=V.bl false)=false:=by
      generalize Cc ps Ae false r2=z at h1
      match z,h1 with
      | none,_=>rfl
      | some true,_=>rfl
      | some false,h=>exact absurd rfl h
     walk_at "r"
     rw [hd]
     walk_at "r"
     refine Ci (SqL.of ew3) ?_
     walk_at "r"
     have hwl:(Am wj).length < sizeLine:=by unfold Am;rw [O0];omega
     refine Df ew3 hwl ?_
     refine ⟨_,_,wj++[r2],rfl,by rw [Ai nd];exact ed3,by rw [Ac,Fe];rfl,by simp [lw];omega,sm3.over hpw0,by rw [Ai (Zfs ew3 ep3)];exact ep3,h2⟩
   ·rintro σ' H3 ⟨v5',v6',wj,rfl,ed3,ew3,lw,sm3,ep3,hpu⟩
    have e9:(Am s.parts).length=s.parts.length:=by unfold Am;exact O0 ..
    rw [e9,U2] at hpu
    cases hpu
    refine ⟨n,by omega,_,_,_,Cc ps Ae false,wj,rfl,⟨⟨kv2,ed3,dc2,by omega⟩,ew3,by omega,sm3⟩,hgo wj rfl⟩
theorem ShG.off {H:Hp}{a x:Addr}{sh:Ao}{zs:List V}{o:HO}(h:ShG K H a sh)(n:a≠x)(e:H x=some (.lst zs)):ShG K (upd H x o) a sh:=by
 obtain ⟨us,e1,al⟩:=h.ex
 exact ⟨us,by rw [Ai n];exact e1,al.mono (ShE.same (SameT.set e))⟩
theorem ShG.set {H:Hp}{a p:Addr}{sh:Ao}{us:List V}{i:Nat}{s:Sh}(e:H a=some (.lst us))(al:Al (ShE K H) us sh)(hp:SqT K H p (shV s)):ShG K (upd H a (.lst (us.set i (.ref p)))) a (sh.set i s):=by
 have st:SameT H (upd H a (.lst (us.set i (.ref p)))):=SameT.set e
 refine ⟨us.set i (.ref p),Ac,by rw [Tq,Tq];exact al.1,fun k u x hu hx=>?_⟩
 by_cases hki:k=i
 ·subst hki
  have hl:=(O2.mp hu).1
  rw [Tq] at hl
  rw [Sz hl] at hu
  rw [Sz (by rw [<- al.1];exact hl)] at hx
  have hu:V.ref p=u:=by simpa using hu
  have hx:s=x:=by simpa using hx
  subst hx
  exact ⟨p,hu.symm,st.tup hp⟩
 ·rw [Uh (fun z=>hki z.symm)] at hu hx
  exact ShE.same st _ _ (al.2 k u x hu hx)
noncomputable def PaAt (K:Os)(H:Hp)(v:V)(x:Nat×Nat):Prop:=∃ a,v=.ref a/\SqT K H a [.int (x.1:Nat),.int (x.2:Nat)]
theorem PaAt.same {H H':Hp}(e:SameT H H')(v:V)(x:Nat×Nat)(h:PaAt K H v x):PaAt K H' v x:=let ⟨a,e1,q⟩:=h;⟨a,e1,e.tup q⟩
noncomputable def Zei (m:Ao)(g a:Nat):Option Ao->Prop
 | none=>(∃ n,n<=1000/\JoinN n m [(g,a)] none)\/∃ n k r m1,n<=1000/\JoinN n m [(g,a)] (some m1)/\Last m1 g r/\HoldsN m1 k (fun _=>none) [r] true/\k<=1000
 | some m1=>∃ n k r,n<=1000/\JoinN n m [(g,a)] (some m1)/\Last m1 g r/\HoldsN m1 k (fun _=>none) [r] false/\k<=1000
noncomputable def Zdp (K:Os):Sp:=fun vs H Q _=>∃(a:Addr)(sh:Ao)(i j:Nat)(o:Option Ao),vs=[.ref a,.int (i:Nat),.int (j:Nat)]/\ShG K H a sh/\Zei sh i j o /\
 (∀ a' m1 H',o=some m1->Same H H'->H a'=none->ShG K H' a' m1->Q (.ref a') H')/\(∀ H',o=none->Same H H'->Q .non H')
theorem Gz (s:Sh):decide (V.str s.wd=V.str "any")=decide (s=.any):=by
 cases s with
 | to a b=>exact (by decide:decide (V.str "to" = V.str "any")=false)
 | same k=>exact (by decide:decide (V.str "same" = V.str "any")=false)
 | _=>decide
theorem Np (s:Sh):decide (V.str s.wd=V.str "to")=decide (s.wd = "to"):=by
 by_cases h:s.wd = "to"
 ·rw [h];decide
 ·rw [decide_eq_false h,decide_eq_false (fun e=>h (by injection e))]
theorem Zi6 {α:Type}{R:V->α->Prop}{vs us:List V}{xs ys:List α}(h:Al R vs xs)(h2:Al R us ys):Al R (vs++us) (xs++ys):=by
 refine ⟨by rw [O4,O4,h.1,h2.1],fun j v x e1 e2=>?_⟩
 by_cases hj:j < vs.length
 ·rw [Px hj] at e1
  rw [Px (by rw [<- h.1];exact hj)] at e2
  exact h.2 j v x e1 e2
 ·rw [Qf (by omega)] at e1
  rw [Qf (by rw [<- h.1];omega),<- h.1] at e2
  exact h2.2 _ v x e1 e2
structure JoJ (K:Os)(H:Hp)(am pw:Addr)(N n:Nat)(m:Ao)(w:List (Nat×Nat))(H':Hp):Prop where
 sh:ShG K H' am m
 ew:∃ wv,H' pw=some (.lst wv)/\Al (PaAt K H') wv w
 wl:w.length+n<=1+N
 sm:Same H H'
theorem JoinN.inv {n:Nat}{m:Ao}{w:List (Nat×Nat)}{o:Option Ao}(h:JoinN n m w o):(w=[]/\o=some m)\/∃ w1 p l r,w=w1++[p]/\Last m p.1 l/\Last m p.2 r/\((l=r/\∃ n',n=n'+1/\JoinN n' m w1 o)\/(l≠r/\∃ sl sr,m[l]?=some sl/\m[r]?=some sr /\
  ((sr=.any/\∃ n',n=n'+1/\JoinN n' (m.set r (.same l)) w1 o)\/(sr≠.any/\sl=.any/\∃ n',n=n'+1/\JoinN n' (m.set l (.same r)) w1 o)\/(∃ a b c d n',sl=.to a b/\sr=.to c d/\n=n'+1/\JoinN n' (m.set l (.same r)) (w1++[(a,c),(b,d)]) o) \/
   (sl≠.any/\sr≠.any/\(sl.wd ≠ "to" \/ sr.wd ≠ "to")/\o=none)))):=by
 cases h with
 | nil=>exact .inl ⟨rfl,rfl⟩
 | eq h1 h2 t=>exact .inr ⟨_,_,_,_,rfl,h1,h2,.inl ⟨rfl,_,rfl,t⟩⟩
 | @anyR _ _ _ _ l r _ h1 h2 ne hr t =>
  obtain ⟨sl,hl,_⟩:=h1.at
  exact .inr ⟨_,_,_,_,rfl,h1,h2,.inr ⟨ne,sl,.any,hl,hr,.inl ⟨rfl,_,rfl,t⟩⟩⟩
 | anyL h1 h2 ne hr hn hl t=>exact .inr ⟨_,_,_,_,rfl,h1,h2,.inr ⟨ne,_,_,hl,hr,.inr (.inl ⟨hn,rfl,_,rfl,t⟩)⟩⟩
 | to h1 h2 ne hl hr t=>exact .inr ⟨_,_,_,_,rfl,h1,h2,.inr ⟨ne,_,_,hl,hr,.inr (.inr (.inl ⟨_,_,_,_,_,rfl,rfl,rfl,t⟩))⟩⟩
 | clash h1 h2 ne hl hr nl nr nt=>exact .inr ⟨_,_,_,_,rfl,h1,h2,.inr ⟨ne,_,_,hl,hr,.inr (.inr (.inr ⟨nl,nr,nt,rfl⟩))⟩⟩
theorem sc_joined:Bm ["shapes", "one", "other", "made", "waiting", "pair", "left", "right"] ["shapes", "one", "other"] (Be Jy):=by walk_at "sc"
theorem Zor {f:Addr}{fd:FuncData}(F:Fun K "joined" "joined" Jy f fd)(T:Txt K mg)(C_last_same:Ba P w K mg base 1 "last_same" ["shapes", "kind"] (Mh K))(C_holds_itself:Ba P w K mg base 2 "holds_itself" ["shapes", "kind"] (Ze1 K)):A9 P w K mg base Bd 3 f fd ["shapes", "one", "other"] (Zdp K):=by
 refine F.okq sc_joined (fun vs H Q E h=>?_) (fun cdv A outer s H vs Q E hr h=>?_)
 ·obtain ⟨a,sh,i,j,o,rfl,_⟩:=h
  rfl
 ·obtain ⟨a,sh,i,j,o,rfl,S,hJ,q,qn⟩:=h
  refine ⟨_,Ag (Ar 3 sc_joined (Fd (N5 K) (by rfl) T.list (by decide +kernel) (Aa (qv 0) Ab)))
   (Ag (Ar 4 sc_joined (Av (Aa (Ad (Aa (qv 1) (Aa (qv 2) Ab))) Ab)))
   (Ag (Ij Pi (Fm K (qv 4) (by intro _;rfl)) (Ag (Ar 5 sc_joined (Lr K Pl Tf Tg Mf (qv 4)))
   (Ag (Zbl (i:=6) (j:=7) rfl sc_joined.nd rfl rfl (by decide) rfl rfl (Aa (As C_last_same hr.m (Aa (qv 3) (Aa (Ap K (qv 5) Af) Ab))) (Aa (As C_last_same hr.m (Aa (qv 3) (Aa (Ap K (qv 5) Af) Ab))) Ab)))
   (Ag (Bf (Bv (B2 K hr.u200) (qv 6) (qv 7) (Br _)) (Ak (Zea)) Bj)
   (Ag (Bf (Bv (B2 K hr.u200) (Ap K (Ap K (qv 3) (qv 7)) Af) Ah (Br _)) (Ak (Zbl (i:=6) (j:=7) rfl sc_joined.nd rfl rfl (by decide) rfl rfl (Aa (qv 7) (Aa (qv 6) Ab)))) Bj)
   (Ag (Bf (QW.qt (Zap (Bv (B2 K hr.u200) (Ap K (Ap K (qv 3) (qv 6)) Af) Ah (Br _)) (Nu (Bv (B2 K hr.u200) (Ap K (Ap K (qv 3) (qv 7)) Af) Ah (Br _))))) (Ak (Cw (Dk K Pl PySem.F.slot_list_extend PySem.F.type_list_extend Zhq (qv 4) (Aa (Zno true K (by rfl) T.list (by rfl) T.zip (Aa (Hk (Ll K) (Ap K (qv 3) (qv 6)) (Hc Af) (G5)) (Aa (Hk (Ll K) (Ap K (qv 3) (qv 7)) (Hc Af) (G5)) Ab))) Ab)))) (Ak (Bf (Bv (M8 K hr.u200) (Ap K (Ap K (qv 3) (qv 6)) Af) Ah (Br _)) (Ak (Ax Bu)) Bj)))
   (Ak (Ia (Ad (Aa Ah (Aa (qv 7) Ab))) (Zj2 (qv 3) (qv 6) Zgn)))))))))
   (Ak (Ax (Zam (Du (As C_holds_itself hr.m (Aa (qv 3) (Aa (qv 1) Ab)))) Bu (qv 3)))))),?_⟩
  have bg:=big
  obtain ⟨N,oj,hN,hJN,hfin,hno⟩:∃ N oj,N<=1000/\JoinN N sh [(i,j)] oj/\(∀ m1,oj=some m1->∃ k r b,Last m1 i r/\HoldsN m1 k (fun _=>none) [r] b/\k<=1000/\o=cond b none (some m1))/\(oj=none->o=none):=by
   cases o with
   | none =>
    rcases hJ with ⟨n,h1,h2⟩ | ⟨n,k,r,m1,h1,h2,h3,h4,h5⟩
    ·exact ⟨n,none,h1,h2,(fun m1 e=>by cases e),fun _=>rfl⟩
    ·exact ⟨n,some m1,h1,h2,(fun m2 e=>by cases e;exact ⟨k,r,true,h3,h4,h5,rfl⟩),fun e=>by cases e⟩
   | some m1 =>
    obtain ⟨n,k,r,h1,h2,h3,h4,h5⟩:=hJ
    exact ⟨n,some m1,h1,h2,(fun m2 e=>by cases e;exact ⟨k,r,false,h3,h4,h5,rfl⟩),fun e=>by cases e⟩
  obtain ⟨us,ea,ala⟩:=S.ex
  walk_at "r"
  refine ⟨a,us,rfl,.inl (SqL.of ea),fun am ham=>?_⟩
  have s1:=Same.upd (o:=.lst us) ham
  have S1:ShG K (upd H am (.lst us)) am sh:=⟨us,Ac,ala.mono (ShE.same s1.t)⟩
  have em1:upd H am (.lst us) am=some (.lst us):=Ac
  revert s1 S1 em1
  generalize upd H am (.lst us)=H1
  intro s1 S1 em1
  walk_at "r"
  refine ⟨Az,fun pt hpt=>?_⟩
  walk_at "r"
  refine ⟨A0,fun pw hpw=>?_⟩
  walk_at "r"
  have s2:=Same.upd (o:=.tup [.int (i:Nat),.int (j:Nat)]) hpt
  have s3:=Same.upd (o:=.lst [.ref pt]) hpw
  have npw:am≠pw:=A3 (s2 _ _ em1) hpw
  have hpw0:H pw=none:=(s1.trans s2).free hpw
  have ham0:H am=none:=ham
  refine ⟨fun n σ' H'=>∃ v5 v6 v7 m w,σ'=[some (.ref a),some (.int (i:Nat)),some (.int (j:Nat)),some (.ref am),some (.ref pw),v5,v6,v7]/\JoJ K H am pw N n m w H'/\JoinN n m w oj,
   ⟨N,none,none,none,sh,[(i,j)],rfl,⟨S1.same (s2.trans s3),⟨_,Ac,Al.nil.snoc ⟨pt,rfl,SqT.of (s3 _ _ Ac)⟩⟩,by simp,(s1.trans s2).trans s3⟩,hJN⟩,?_⟩
  rintro n σ' H2 ⟨v5,v6,v7,m,w0,rfl,J,hh⟩
  obtain ⟨wv,ew,alw⟩:=J.ew
  walk_at "r"
  refine Gn (SqL.of ew) ?_
  rcases hh.inv with ⟨rfl,ho⟩ | ⟨w1,pp,l,r,rfl,hl,hr2,hcase⟩
  ·have hwv:wv=[]:=Rg alw.1
   subst hwv
   refine iteF ?_
   obtain ⟨k,r,b,h1,h2,h3,h4⟩:=hfin m ho
   walk_at "r"
   refine ⟨am,m,i,r,k,b,rfl,J.sh,h1,h2,h3,fun H3 s3=>?_⟩
   cases b with
   | true =>
    walk_at "r"
    exact qn H3 h4 (J.sm.trans s3)
   | false =>
    walk_at "r"
    exact q am m H3 h4 (J.sm.trans s3) ham0 (J.sh.same s3)
  obtain ⟨wv',pv,w1',p',rfl,ee,alw',hpv⟩:=alw.last (fun z=>by rw [z] at alw;have:=alw.1;simp at this)
  obtain ⟨rfl,e2⟩:=List.append_inj' ee rfl
  cases e2
  obtain ⟨pq,rfl,qpq⟩:=hpv
  rw [show (!(wv'++[V.ref pq]).isEmpty)=true by simp]
  refine iteT ?_
  refine ⟨fun σ2 H2=>∃ m',m' < n/\∃ v5 v6 v7 m w,σ2=[some (.ref a),some (.int (i:Nat)),some (.int (j:Nat)),some (.ref am),some (.ref pw),v5,v6,v7]/\JoJ K H am pw N m' m w H2/\JoinN m' m w oj,fun _ _ h=>h,?_⟩
  have wl:=J.wl
  rw [O4,Pt] at wl
  walk_at "r"
  refine Ci (SqL.of ew) ?_
  refine Km ew ?_
  have ew3:upd H2 pw (.lst wv') pw=some (.lst wv'):=Ac
  have S3:=J.sh.off (o:=.lst wv') npw ew
  have sm3:=J.sm.over (o:=.lst wv') hpw0
  have t3:=SameT.set (o:=.lst wv') ew
  have q3:=t3.tup qpq
  have al3:=alw'.mono (PaAt.same t3)
  revert ew3 S3 sm3 q3 al3
  generalize upd H2 pw (.lst wv')=H3
  intro ew3 S3 sm3 q3 al3
  walk_at "r"
  refine A2 q3 rfl ?_
  walk_at "r"
  refine ⟨am,m,pp.1,l,rfl,S3,hl,?_⟩
  walk_at "r"
  refine A2 q3 rfl ?_
  walk_at "r"
  refine ⟨am,m,pp.2,r,rfl,S3,hr2,?_⟩
  refine ⟨_,_,rfl,?_⟩
  walk_at "r"
  rcases hcase with ⟨rfl,n',rfl,t⟩ | ⟨ne,sl,sr,esl,esr,hc⟩
  ·rw [decide_eq_true (Eq.refl _)]
   walk_at "r"
   exact ⟨n',by omega,_,_,_,m,w1,rfl,⟨S3,⟨wv',ew3,al3⟩,by omega,sm3⟩,t⟩
  rw [decide_eq_false (show ¬ V.int ((l:Nat):Int)=V.int ((r:Nat):Int) from fun z=>ne (by injection z with z;omega))]
  refine iteF ?_
  with_reducible refine s_next ?_
  walk_at "q"
  refine viaT (R:=fun σ' H'=>H'=H3/\∃ x y sx sy,σ'=[some (.ref a),some (.int (i:Nat)),some (.int (j:Nat)),some (.ref am),some (.ref pw),some (.ref pq),some (.int (x:Nat)),some (.int (y:Nat))]/\m[x]?=some sx/\m[y]?=some sy/\((sx=.any/\∃ n',n=n'+1/\JoinN n' (m.set x (.same y)) w1 oj)\/(∃ a b c d n',sx=.to a b/\sy=.to c d/\n=n'+1/\JoinN n' (m.set x (.same y)) (w1++[(a,c),(b,d)]) oj)\/(sx≠.any/\(sx.wd ≠ "to" \/ sy.wd ≠ "to")/\oj=none))) ?_ ?_
  ·intro Y hY
   obtain ⟨us5,pr,e5,eur,qr⟩:=S3.at esr
   walk_at "r"
   refine A1 (SqL.of e5) eur ?_
   walk_at "r"
   refine A2 qr Di ?_
   walk_at "r"
   rw [Gz]
   rcases hc with ⟨rfl,n',rfl,t⟩ | ⟨hn,rfl,n',rfl,t⟩ | ⟨a1,b1,c1,d1,n',rfl,rfl,rfl,t⟩ | ⟨nl,nr,nt,rfl⟩
   ·rw [decide_eq_true (Eq.refl Sh.any)]
    walk_at "r"
    refine ⟨_,_,rfl,?_⟩
    exact hY _ _ ⟨rfl,r,l,.any,sl,rfl,esr,esl,.inl ⟨rfl,n',rfl,t⟩⟩
   ·rw [decide_eq_false hn]
    walk_at "r"
    exact hY _ _ ⟨rfl,l,r,.any,sr,rfl,esl,esr,.inl ⟨rfl,n',rfl,t⟩⟩
   ·rw [decide_eq_false (fun e=>by cases e)]
    walk_at "r"
    exact hY _ _ ⟨rfl,l,r,_,_,rfl,esl,esr,.inr (.inl ⟨a1,b1,c1,d1,n',rfl,rfl,rfl,t⟩)⟩
   ·rw [decide_eq_false nr]
    walk_at "r"
    exact hY _ _ ⟨rfl,l,r,sl,sr,rfl,esl,esr,.inr (.inr ⟨nl,nt,rfl⟩)⟩
  rintro _ _ ⟨rfl,x,y,sx,sy,rfl,hx,hy,hc⟩
  obtain ⟨us3,em3,alm3⟩:=S3.ex
  obtain ⟨us4,px,e4,eux,qx⟩:=S3.at hx
  obtain ⟨us5,py,e5,euy,qy⟩:=S3.at hy
  rw [em3] at e4 e5
  cases e4
  cases e5
  have hxl:x < us3.length:=by rw [alm3.1];exact (O2.mp hx).1
  walk_at "r"
  refine A1 (SqL.of em3) eux ?_
  walk_at "r"
  refine A2 qx Di ?_
  walk_at "r"
  rw [Np]
  rcases hc with ⟨rfl,n',rfl,t⟩ | ⟨a1,b1,c1,d1,n',rfl,rfl,rfl,t⟩ | ⟨nl,nt,ho⟩
  ·rw [show decide (Sh.any.wd = "to")=false by decide]
   walk_at "r"
   refine A1 (SqL.of em3) eux ?_
   walk_at "r"
   refine A2 qx Di ?_
   walk_at "r"
   rw [Gz,decide_eq_true (Eq.refl Sh.any)]
   walk_at "r"
   refine ⟨Az,fun p7 h7=>?_⟩
   have s7:=Same.upd (o:=.tup [.str "same",.int (y:Nat)]) h7
   walk_at "r"
   refine Zfl (j:=x) (s7 _ _ em3) (by unfold C0;simp [hxl]) ?_
   refine ⟨n',by omega,_,_,_,m.set x (.same y),w1,rfl,⟨ShG.set (s7 _ _ em3) (alm3.mono (ShE.same s7.t)) (SqT.of Ac),⟨wv',by rw [Ai npw.symm];exact s7 _ _ ew3,(al3.mono (PaAt.same s7.t)).mono (PaAt.same (SameT.set (s7 _ _ em3)))⟩,by omega,(sm3.trans s7).over ham0⟩,t⟩
  ·rw [show decide ((Sh.to a1 b1).wd = "to")=true from rfl]
   walk_at "r"
   refine A1 (SqL.of em3) euy ?_
   walk_at "r"
   refine A2 qy Di ?_
   walk_at "r"
   rw [Np,show decide ((Sh.to c1 d1).wd = "to")=true from rfl]
   walk_at "r"
   refine Ci (SqL.of ew3) ?_
   walk_at "r"
   refine A1 (SqL.of em3) eux ?_
   walk_at "r"
   refine .inr (.inr ⟨px,_,rfl,qx,Kq,fun p4 h4=>?_⟩)
   rw [K2]
   have s4:=Same.upd (o:=.tup (Am (Sh.to a1 b1).parts)) h4
   walk_at "r"
   refine A1 (SqL.of (s4 _ _ em3)) euy ?_
   walk_at "r"
   refine .inr (.inr ⟨py,_,rfl,s4.tup qy,Kq,fun p5 h5=>?_⟩)
   rw [K2]
   have s5:=Same.upd (o:=.tup (Am (Sh.to c1 d1).parts)) h5
   walk_at "r"
   refine ⟨p4,p5,_,_,rfl,s5.tup (SqT.of Ac),SqT.of Ac,fun zl zs H6 hzl s6 lz hz ezl=>?_⟩
   have s46:=(s4.trans s5).trans s6
   walk_at "r"
   have lz:zs.length=2:=lz
   have hwl:wv'.length<=2000:=by rw [al3.1];omega
   refine Zke (s46 _ _ ew3) ezl (by omega) ?_
   have nz:pw≠zl:=A3 ((s4.trans s5) _ _ ew3) hzl
   have alz:Al (PaAt K H6) zs [(a1,c1),(b1,d1)]:=by
    refine ⟨lz,fun k v x e1 e2=>?_⟩
    obtain ⟨tt,x1,y1,rfl,h1,h2,h3⟩:=hz k v e1
    match k,e2,h1,h2 with
    | 0,e2,h1,h2=>cases e2;cases h1;cases h2;exact ⟨tt,rfl,SqT.of h3⟩
    | 1,e2,h1,h2=>cases e2;cases h1;cases h2;exact ⟨tt,rfl,SqT.of h3⟩
   have ew7:upd H6 pw (.lst (wv'++zs)) pw=some (.lst (wv'++zs)):=Ac
   have t7:=SameT.set (o:=.lst (wv'++zs)) (s46 _ _ ew3)
   have em7:upd H6 pw (.lst (wv'++zs)) am=some (.lst us3):=by rw [Ai npw];exact s46 _ _ em3
   have al7:Al (PaAt K (upd H6 pw (.lst (wv'++zs)))) (wv'++zs) (w1++[(a1,c1),(b1,d1)]):=Zi6 ((al3.mono (PaAt.same s46.t)).mono (PaAt.same t7)) (alz.mono (PaAt.same t7))
   have alm7:=(alm3.mono (ShE.same s46.t)).mono (ShE.same t7)
   have sm7:Same H (upd H6 pw (.lst (wv'++zs))):=(sm3.trans s46).over hpw0
   revert ew7 em7 al7 alm7 sm7
   generalize upd H6 pw (.lst (wv'++zs))=H7
   intro ew7 em7 al7 alm7 sm7
   walk_at "r"
   refine ⟨Az,fun p8 h8=>?_⟩
   have s8:=Same.upd (o:=.tup [.str "same",.int (y:Nat)]) h8
   walk_at "r"
   refine Zfl (j:=x) (s8 _ _ em7) (by unfold C0;simp [hxl]) ?_
   refine ⟨n',by omega,_,_,_,m.set x (.same y),w1++[(a1,c1),(b1,d1)],rfl,⟨ShG.set (s8 _ _ em7) (alm7.mono (ShE.same s8.t)) (SqT.of Ac),⟨_,by rw [Ai npw.symm];exact s8 _ _ ew7,(al7.mono (PaAt.same s8.t)).mono (PaAt.same (SameT.set (s8 _ _ em7)))⟩,by simp;omega,(sm7.trans s8).over ham0⟩,t⟩
  ·by_cases hxt:sx.wd = "to"
   ·have hyt:sy.wd ≠ "to" := nt.resolve_left fun h=>h hxt
    rw [decide_eq_true hxt]
    walk_at "r"
    refine A1 (SqL.of em3) euy ?_
    walk_at "r"
    refine A2 qy Di ?_
    walk_at "r"
    rw [Np,decide_eq_false hyt]
    walk_at "r"
    refine A1 (SqL.of em3) eux ?_
    walk_at "r"
    refine A2 qx Di ?_
    walk_at "r"
    rw [Gz,decide_eq_false nl]
    walk_at "r"
    exact qn _ (hno ho) sm3
   ·rw [decide_eq_false hxt]
    walk_at "r"
    refine A1 (SqL.of em3) eux ?_
    walk_at "r"
    refine A2 qx Di ?_
    walk_at "r"
    rw [Gz,decide_eq_false nl]
    walk_at "r"
    exact qn _ (hno ho) sm3
inductive Ii:List (Nat×Nat)->Ao->List Bool->Ao->Prop where
 | nil {m:Ao}:Ii [] m [] m
 | cons {g a:Nat} {m m':Ao} {o:Option Ao} {ps:List (Nat×Nat)} {fs:List Bool} (j:Zei m g a o) (t:Ii ps (o.getD m) fs m'):Ii ((g,a)::ps) m (o.isSome::fs) m'
theorem FitG.o {ps:List (Nat×Nat)}{m m':Ao}{fs:List Bool}(h:FitG ps m fs m'):Ii ps m fs m':=by
 induction h with
 | nil=>exact .nil
 | ok j hn l h hk _ ih=>exact .cons (o:=some _) ⟨_,_,_,hn,j,l,h,hk⟩ ih
 | clash j hn _ ih=>exact .cons (o:=none) (.inl ⟨_,hn,j⟩) ih
 | loop j hn l h hk _ ih=>exact .cons (o:=none) (.inr ⟨_,_,_,_,hn,j,l,h,hk⟩) ih
noncomputable def Zb7 (K:Os):Sp:=fun vs H Q _=>∃(a b:Addr)(m m':Ao)(pv:List V)(ps:List (Nat×Nat))(fs:List Bool),vs=[.ref a,.ref b]/\ShG K H a m/\H b=some (.lst pv)/\Al (PaAt K H) pv ps/\FitG ps m fs m'/\ps.length<=1000 /\
 ∀ r a' c H',Same H H'->SqT K H' r [.ref a',.ref c]->H' c=some (.lst (fs.map V.bl))->ShG K H' a' m'->Q (.ref r) H'
theorem sc_fitted:Bm ["shapes", "pairs", "made", "fits", "given", "asked", "after"] ["shapes", "pairs"] (Be Jm):=by walk_at "sc"
theorem Zkq {f:Addr}{fd:FuncData}(F:Fun K "fitted" "fitted" Jm f fd)(T:Txt K mg)(C_joined:Ba P w K mg base 3 "joined" ["shapes", "one", "other"] (Zdp K)):A9 P w K mg base Bd 4 f fd ["shapes", "pairs"] (Zb7 K):=by
 refine F.okq sc_fitted (fun vs H Q E h=>?_) (fun cdv A outer s H vs Q E hr h=>?_)
 ·obtain ⟨a,b,m,m',pv,ps,fs,rfl,_⟩:=h
  rfl
 ·obtain ⟨a,b,m,m',pv,ps,fs,rfl,S,eb,al,hfit,hl,q⟩:=h
  refine ⟨_,Ag (Ar 2 sc_fitted (qv 0))
   (Ag (Ar 3 sc_fitted (Av Ab))
   (Ag (Cu Pi rfl (Db K (qv 1)) (Da K (n:=2) rfl (Bx (A6 (i:=4) sc_fitted.nd rfl (Or.inl rfl)) (Bx (A6 (i:=5) sc_fitted.nd rfl (Or.inl rfl)) (C7)))) (Ag (Ar 6 sc_fitted (As C_joined hr.m (Aa (qv 2) (Aa (qv 4) (Aa (qv 5) Ab)))))
   (Ag (Cw (Dk K Pl P7 P8 Dl (qv 3) (Aa (Zd3 (Zgu (qv 6))) Ab)))
   (Ak (Ar 2 sc_fitted (Zam (Ha (Lb (qv 6))) (qv 2) (qv 6)))))))
   (Ak (Ax (Ad (Aa (qv 2) (Aa (qv 3) Ab))))))),?_⟩
  have bg:=big
  have eN:∀ c:Addr,decide (V.ref c=V.non)=false:=fun c=>decide_eq_false (fun z=>by cases z)
  walk_at "r"
  refine ⟨A4,fun pf hpf=>?_⟩
  have s1:=Same.upd (o:=.lst []) hpf
  obtain ⟨us,ea,_⟩:=S.ex
  walk_at "r"
  refine .inl ⟨b,rfl,⟨_,SqL.of (s1 _ _ eb)⟩,?_⟩
  refine Ld (K:=K) (a:=b) (xs:=pv) (fun i σ' H'=>∃ v4 v5 v6 am m1 fd1 fr,σ'=[some (.ref a),some (.ref b),some (.ref am),some (.ref pf),v4,v5,v6]/\H' pf=some (.lst (fd1.map V.bl))/\fd1.length=i/\ShG K H' am m1/\am≠pf/\Same H H'/\Ii (ps.drop i) m1 fr m'/\fd1++fr=fs)
   ⟨none,none,none,a,m,[],fs,rfl,Ac,rfl,S.same s1,A3 ea hpf,s1,hfit.o,rfl⟩ ?_ ?_ ?_
  ·rintro i σ' H' _ ⟨_,_,_,_,_,_,_,_,_,_,_,_,sm,_⟩
   exact SqL.of (sm _ _ eb)
  ·rintro i x σ' H1 hx ⟨v4,v5,v6,am,m1,fd1,fr,rfl,ef,lf,S1,nf,sm,ft,efs⟩
   obtain ⟨y,hy,p,rfl,qp⟩:=al.get hx
   obtain ⟨g,k⟩:=y
   have hi:=(O2.mp hy).1
   have hdr:ps.drop i=(g,k)::ps.drop (i+1):=by
    rw [Qo hi]
    rw [Ou hi] at hy
    rw [Pb hy]
   rw [hdr] at ft
   have hlen:(fd1.map V.bl).length < sizeLine:=by rw [O0];omega
   cases ft with
   | @cons _ _ _ _ o _ fs2 j t =>
   have efs2:(fd1++[o.isSome])++fs2=fs:=by rw [<- efs,Qn];rfl
   walk_at "r"
   refine C3 (sm.tup qp) rfl ?_
   walk_at "r"
   refine ⟨am,m1,g,k,o,rfl,S1,j,fun a' m2 H2 ho s2 hn S2=>?_,fun H2 ho s2=>?_⟩
   ·subst ho
    walk_at "r"
    refine Ci (SqL.of (s2 _ _ ef)) ?_
    walk_at "r"
    refine Df (s2 _ _ ef) hlen ?_
    rw [eN a']
    walk_at "r"
    rw [eN a']
    walk_at "r"
    exact ⟨_,_,_,a',m2,fd1++[true],fs2,rfl,by rw [Ac,Qb];rfl,by simp [lf],S2.off (A3 ef hn).symm (s2 _ _ ef),(A3 ef hn).symm,(sm.trans s2).over hpf,t,efs2⟩
   ·subst ho
    walk_at "r"
    refine Ci (SqL.of (s2 _ _ ef)) ?_
    walk_at "r"
    refine Df (s2 _ _ ef) hlen ?_
    rw [decide_eq_true (Eq.refl V.non)]
    walk_at "r"
    rw [decide_eq_true (Eq.refl V.non)]
    walk_at "r"
    exact ⟨_,_,_,am,m1,fd1++[false],fs2,rfl,by rw [Ac,Qb];rfl,by simp [lf],(S1.same s2).off nf (s2 _ _ ef),nf,(sm.trans s2).over hpf,t,efs2⟩
  ·rintro σ' H1 ⟨v4,v5,v6,am,m1,fd1,fr,rfl,ef,lf,S1,nf,sm,ft,efs⟩
   rw [al.1,U2] at ft
   cases ft
   rw [Qa] at efs
   subst efs
   walk_at "r"
   refine ⟨Az,fun r hr'=>?_⟩
   have s2:=Same.upd (o:=.tup [.ref am,.ref pf]) hr'
   exact q r am pf _ (sm.trans s2) (SqT.of Ac) (s2 _ _ ef) (S1.same s2)
inductive Kd where
 | num | truth | any (n:Nat) | to (a b:Kd)
 deriving DecidableEq
inductive KdAt (K:Os)(H:Hp):V->Kd->Prop where
 | num {a:Addr} (q:SqT K H a [.str "num"]):KdAt K H (.ref a) .num
 | truth {a:Addr} (q:SqT K H a [.str "truth"]):KdAt K H (.ref a) .truth
 | any {a:Addr} {n:Nat} (q:SqT K H a [.str "any",.int (n:Nat)]):KdAt K H (.ref a) (.any n)
 | to {a:Addr} {u v:V} {x y:Kd} (q:SqT K H a [.str "to",u,v]) (hx:KdAt K H u x) (hy:KdAt K H v y):KdAt K H (.ref a) (.to x y)
theorem KdAt.same {H H':Hp}{v:V}{k:Kd}(h:KdAt K H v k)(e:SameT H H'):KdAt K H' v k:=by
 induction h with
 | num q=>exact .num (e.tup q)
 | truth q=>exact .truth (e.tup q)
 | any q=>exact .any (e.tup q)
 | to q _ _ ih1 ih2=>exact .to (e.tup q) ih1 ih2
noncomputable abbrev Td:=Nat->Option Kd
noncomputable def Dz (td:Td)(i:Nat)(k:Kd):Td:=fun j=>if j=i then some k else td j
inductive Lasts (sh:Ao):List Nat->List Nat->Prop where
 | nil:Lasts sh [] []
 | cons {p r:Nat} {ps rs:List Nat} (h:Last sh p r) (t:Lasts sh ps rs):Lasts sh (p::ps) (r::rs)
theorem Lasts.at {sh:Ao}{ps rs:List Nat}(h:Lasts sh ps rs):ps.length=rs.length/\∀ j (h1:j < ps.length) (h2:j < rs.length),Last sh ps[j] rs[j]:=by
 induction h with
 | nil=>exact ⟨rfl,fun j h1=>absurd h1 (U7 _)⟩
 | cons h _ ih =>
  refine ⟨by rw [O3,O3,ih.1],fun j h1 h2=>?_⟩
  match j,h1,h2 with
  | 0,_,_=>exact h
  | j+1,h1,h2=>exact ih.2 j (by simpa using h1) (by simpa using h2)
inductive Ho (td:Td):Sh->List Nat->Kd->Prop where
 | num:Ho td .num [] .num
 | truth:Ho td .truth [] .truth
 | to {a b r s:Nat} {x y:Kd} (hx:td r=some x) (hy:td s=some y):Ho td (.to a b) [r,s] (.to x y)
noncomputable def Ck (td:Td)(rs:List Nat):List Nat:=rs.filter fun r=>(td r).isNone
inductive ToldN (sh:Ao):Nat->Td->Nat->List Nat->Td->Prop where
 | nil {td:Td} {c:Nat}:ToldN sh 0 td c [] td
 | seen {n c x r:Nat} {td td':Td} {w rs:List Nat} {s:Sh} {k:Kd} (hl:Last sh x r) (hs:sh[r]?=some s) (hp:Lasts sh s.parts rs) (h:td r=some k) (t:ToldN sh n td c w td'):ToldN sh (n+1) td c (w++[x]) td'
 | miss {n c x r p:Nat} {td td':Td} {w rs q:List Nat} {s:Sh} (hl:Last sh x r) (hs:sh[r]?=some s) (hp:Lasts sh s.parts rs) (h:td r=none) (hm:Ck td rs=p::q) (t:ToldN sh n td c (w++[x]++[p]) td'):ToldN sh (n+1) td c (w++[x]) td'
 | any {n c x r:Nat} {td td':Td} {w rs:List Nat} (hl:Last sh x r) (hs:sh[r]?=some .any) (hp:Lasts sh Sh.any.parts rs) (h:td r=none) (t:ToldN sh n (Dz td r (.any c)) (c+1) (w++[x]) td'):ToldN sh (n+1) td c (w++[x]) td'
 | mk {n c x r:Nat} {td td':Td} {w rs:List Nat} {s:Sh} {k:Kd} (hl:Last sh x r) (hs:sh[r]?=some s) (hp:Lasts sh s.parts rs) (h:td r=none) (hm:Ck td rs=[]) (hk:Ho td s rs k) (t:ToldN sh n (Dz td r k) c (w++[x]) td'):ToldN sh (n+1) td c (w++[x]) td'
theorem ToldN.inv {sh:Ao}{n c:Nat}{td td':Td}{w:List Nat}(h:ToldN sh n td c w td'):(w=[]/\td'=td)\/∃ w1 x r s rs n',w=w1++[x]/\n=n'+1/\Last sh x r/\sh[r]?=some s/\Lasts sh s.parts rs /\
  ((∃ k,td r=some k/\ToldN sh n' td c w1 td')\/(∃ p q,td r=none/\Ck td rs=p::q/\ToldN sh n' td c (w1++[x]++[p]) td')\/(td r=none/\Ck td rs=[]/\s=.any/\ToldN sh n' (Dz td r (.any c)) (c+1) (w1++[x]) td')\/(∃ k,td r=none/\Ck td rs=[]/\Ho td s rs k/\ToldN sh n' (Dz td r k) c (w1++[x]) td')):=by
 cases h with
 | nil=>exact .inl ⟨rfl,rfl⟩
 | seen hl hs hp h t=>exact .inr ⟨_,_,_,_,_,_,rfl,rfl,hl,hs,hp,.inl ⟨_,h,t⟩⟩
 | miss hl hs hp h hm t=>exact .inr ⟨_,_,_,_,_,_,rfl,rfl,hl,hs,hp,.inr (.inl ⟨_,_,h,hm,t⟩)⟩
 | any hl hs hp h t=>exact .inr ⟨_,_,_,_,_,_,rfl,rfl,hl,hs,hp,.inr (.inr (.inl ⟨h,by cases hp;rfl,rfl,t⟩))⟩
 | mk hl hs hp h hm hk t=>exact .inr ⟨_,_,_,_,_,_,rfl,rfl,hl,hs,hp,.inr (.inr (.inr ⟨_,h,hm,hk,t⟩))⟩
noncomputable def TdAt (K:Os)(H:Hp)(kvs:List (Aq×V))(td:Td):Prop:=∀ i:Nat,(td i=none->Bk kvs (.inl ((i:Nat):Int))=none)/\∀ k,td i=some k->∃ v,Bk kvs (.inl ((i:Nat):Int))=some v/\KdAt K H v k
theorem TdAt.same {H H':Hp}{kvs:List (Aq×V)}{td:Td}(h:TdAt K H kvs td)(e:SameT H H'):TdAt K H' kvs td:=fun i=>⟨(h i).1,fun k hk=>let ⟨v,h1,h2⟩:=(h i).2 k hk;⟨v,h1,h2.same e⟩⟩
theorem TdAt.has {H:Hp}{kvs:List (Aq×V)}{td:Td}(h:TdAt K H kvs td)(i:Nat):(Bk kvs (.inl ((i:Nat):Int))).isSome=(td i).isSome:=by
 cases e:td i with
 | none=>rw [(h i).1 e];rfl
 | some k=>obtain ⟨v,h1,_⟩:=(h i).2 k e;rw [h1];rfl
theorem TdAt.put {H:Hp}{kvs:List (Aq×V)}{td:Td}{v:V}{k:Kd}(h:TdAt K H kvs td)(i:Nat)(hv:KdAt K H v k):TdAt K H (Bc kvs (.inl ((i:Nat):Int)) v) (Dz td i k):=fun j=>by
 rw [Ic]
 by_cases hj:j=i
 ·have e1:Dz td i k j=some k:=if_pos hj
  rw [if_pos (by rw [hj]),e1]
  exact ⟨(fun e=>by cases e),fun k' e=>⟨v,rfl,by cases e;exact hv⟩⟩
 ·have e1:Dz td i k j=td j:=if_neg hj
  rw [if_neg fun z=>hj (Zfj z),e1]
  exact h j
theorem Zo8 (td:Td)(rs:List Nat)(r:Nat):Ck td (rs++[r])=Ck td rs++if (td r).isNone=true then [r] else []:=by
 unfold Ck
 rw [List.filter_append]
 cases e:(td r).isNone with
 | true=>rw [if_pos rfl,List.filter_cons_of_pos (by exact e)];rfl
 | false=>rw [if_neg (by decide),List.filter_cons_of_neg (by rw [e];decide)];rfl
theorem Zpk {td:Td}{rs:List Nat}{r:Nat}(h:Ck td rs=[])(hr:r∈rs):∃ k,td r=some k:=by
 cases e:td r with
 | some k=>exact ⟨k,rfl⟩
 | none =>
  have:r∈Ck td rs:=Tl.mpr ⟨hr,by rw [e];rfl⟩
  rw [h] at this
  cases this
noncomputable def Zdh (K:Os):Sp:=fun vs H Q _=>∃(a b:Addr)(sh:Ao)(ws:List Nat)(ks:List Kd)(N:Nat)(td':Td),vs=[.ref a,.ref b]/\ShG K H a sh/\H b=some (.lst (Am ws))/\ToldN sh N (fun _=>none) 0 ws.reverse td'/\N<=2000/\ws.length<=1000/\ks.length=ws.length/\(∀(j x:Nat)(k:Kd),ws[j]?=some x->ks[j]?=some k->∃ r,Last sh x r/\td' r=some k) /\
 ∀ c us H',Same H H'->H c=none->H' c=some (.lst us)->Al (KdAt K H') us ks->Q (.ref c) H'
structure ToJ (K:Os)(H:Hp)(pd pw:Addr)(M n:Nat)(td:Td)(w:List Nat)(H':Hp):Prop where
 ed:∃ kvs,H' pd=some (.dK kvs)/\TdAt K H' kvs td/\kvs.length+n<=M
 ew:H' pw=some (.lst (Am w))
 wl:w.length+n<=M
 sm:Same H H'
theorem dk_t {H:Hp}{S:Addr}{kv:List (Aq×V)}{o2:HO}(h:H S=some (.dK kv)):SameT H (upd H S o2):=fun b =>
 ⟨fun xs e=>by rw [Ai (Eb e h (by intro z;cases z))];exact e,fun o' u e=>by rw [Ai (Eb e h (by intro z;cases z))];exact e⟩
theorem Zj0:(["part", "shapes"]:List Str).Nodup:=by decide +kernel
theorem Zhl:(["part", "told"]:List Str).Nodup:=by decide +kernel
theorem Zji:(["part", "told"]:List Str).Nodup:=by decide +kernel
theorem Zng:(["kind", "told", "shapes"]:List Str).Nodup:=by decide +kernel
theorem sc_kinds_told:Bm ["shapes", "wanted", "told", "many_unknown", "waiting", "kind", "parts", "missing"] ["shapes", "wanted"] (Be Hz):=by walk_at "sc"
theorem Zl6 {f:Addr}{fd:FuncData}(F:Fun K "kinds_told" "kinds_told" Hz f fd)(T:Txt K mg)(C_last_same:Ba P w K mg base 1 "last_same" ["shapes", "kind"] (Mh K)):A9 P w K mg base Bd 2 f fd ["shapes", "wanted"] (Zdh K):=by
 refine F.okq sc_kinds_told (fun vs H Q E h=>?_) (fun cdv A outer s H vs Q E hr h=>?_)
 ·obtain ⟨a,b,sh,ws,ks,N,td',rfl,_⟩:=h
  rfl
 ·obtain ⟨a,b,sh,ws,ks,N,td',rfl,S,eb,hT,hN,hl,lk,hks,q⟩:=h
  refine ⟨_,Ag (Zaw (i:=2) sc_kinds_told.nd rfl (Or.inr rfl) (M5))
   (Ag (Ar 3 sc_kinds_told Af)
   (Ag (Ar 4 sc_kinds_told (Zmz K (by rfl) T.list (by rfl) T.reversed (Aa (qv 1) Ab)))
   (Ag (Ij Pi (Fm K (qv 4) (by intro _;rfl)) (Ag (Ar 5 sc_kinds_told (As C_last_same hr.m (Aa (qv 0) (Aa (Ap K (qv 4) (Hv G8 Af)) Ab))))
   (Ag (Od (i:=6) (N:=["part", "shapes"]) (σ0:=Dc 1 [0]) rfl (Ea rfl (by decide +kernel) (by decide +kernel) (by decide +kernel)) (Db K (Hk (Ll K) (Ap K (qv 0) (qv 5)) (Hc Af) (G5))) (D7 rfl (by rfl)) (fun _ _ _ _=>A6 (i:=0) Zj0 rfl (Or.inl rfl)) (fun _ _ _ _=>Go) (fun _ _ _ _=>As C_last_same hr.m (Aa (qv 1) (Aa (qv 0) Ab))) sc_kinds_told.nd rfl (Or.inl rfl))
   (Ag (Od (i:=7) (N:=["part", "told"]) (σ0:=Dc 1 [2]) rfl (Ea rfl (by decide +kernel) (by decide +kernel) (by decide +kernel)) (Db K (qv 6)) (D7 rfl (by rfl)) (fun _ _ _ _=>A6 (i:=0) Zhl rfl (Or.inl rfl)) (fun _ _ _ _=>Zan (Ha (Zkr hr.u1 (qv 0) (qv 1)))) (fun _ _ _ _=>qv 0) sc_kinds_told.nd rfl (Or.inl rfl))
   (Ak (Bf (Ha (Zck hr.u1 (qv 5) (qv 2))) (Ak (Cw (Lr K Pl Tf Tg Mf (qv 4)))) (Ak (Bf (Fm K (qv 7) (by intro _;rfl)) (Ak (Cw (Dk K Pl P7 P8 Dl (qv 4) (Aa (Ap K (qv 7) Af) Ab)))) (Ak (Bf (Bv (B2 K hr.u200) (Ap K (Ap K (qv 0) (qv 5)) Af) Ah (Br _)) (Ag (F1 hr.u1 (qv 2) (qv 5) (Ad (Aa Ah (Aa (qv 3) Ab))))
   (Ak (Zgm (i:=3) sc_kinds_told.nd rfl (Or.inl rfl) Af Zj3))) (Ak (F1 hr.u1 (qv 2) (qv 5) (Bs (Dq K) (Ad (Aa (Ap K (Ap K (qv 0) (qv 5)) Af) Ab)) (Fd (Zbr K) (by rfl) T.tuple (by decide +kernel) (Aa (F4 (N:=["part", "told"]) (σ0:=Dc 1 [2]) rfl (Ea rfl (by decide +kernel) (by decide +kernel) (by decide +kernel)) (Db K (qv 6)) (D7 rfl (by rfl)) (fun _ _ _ _=>A6 (i:=0) Zji rfl (Or.inl rfl)) (fun _ _ _ _=>Go) (fun _ _ _ _=>Jl hr.u1 (qv 1) (qv 0) (fun _ _=>rfl))) Ab)))))))))))))))
   (Ak (Ax (F4 (N:=["kind", "told", "shapes"]) (σ0:=Dc 1 [2,0]) rfl (Ea rfl (by decide +kernel) (by decide +kernel) (by decide +kernel)) (Db K (qv 1)) (D7 rfl (by rfl)) (fun _ _ _ _=>A6 (i:=0) Zng rfl (Or.inl rfl)) (fun _ _ _ _=>Go) (fun _ _ _ _=>Jl hr.u1 (qv 1) (As C_last_same hr.m (Aa (qv 2) (Aa (qv 0) Ab))) (fun _ _=>rfl)))))))),?_⟩
  have bg:=big
  walk_at "r"
  refine fun pd hpd=>?_
  have s1:=Same.upd (o:=.dK []) hpd
  walk_at "r"
  refine ⟨b,Am ws,rfl,SqL.of (s1 _ _ eb),fun pw H2 hpw s2 ew=>?_⟩
  have nd:pd≠pw:=A3 Ac hpw
  have hpw0:H pw=none:=s1.free hpw
  have ew:H2 pw=some (.lst (Am ws.reverse)):=by rw [ew];unfold Am;rw [List.map_reverse]
  walk_at "r"
  refine ⟨fun n σ' H'=>∃ v5 v6 v7 td w,∃ c:Nat,σ'=[some (.ref a),some (.ref b),some (.ref pd),some (.int (c:Nat)),some (.ref pw),v5,v6,v7]/\ToJ K H pd pw (N+ws.length) n td w H'/\ToldN sh n td c w td',
   ⟨N,none,none,none,fun _=>none,ws.reverse,0,rfl,⟨⟨[],s2 _ _ Ac,fun i=>⟨fun _=>rfl,fun k e=>by cases e⟩,by simp⟩,ew,by rw [Up];omega,s1.trans s2⟩,hT⟩,?_⟩
  rintro n σ' H3 ⟨v5,v6,v7,td,w0,c,rfl,J,hh⟩
  obtain ⟨kvs,ed,tda,kl⟩:=J.ed
  have wl:=J.wl
  walk_at "r"
  refine Gn (SqL.of J.ew) ?_
  rcases hh.inv with ⟨rfl,rfl⟩ | ⟨w1,x,r,sp,rs,n,rfl,rfl,hL,hs,hp,hc⟩
  ·refine iteF ?_
   walk_at "r"
   refine .inl ⟨b,rfl,⟨_,SqL.of (J.sm _ _ eb)⟩,fun D hD=>?_⟩
   have hD0:H D=none:=J.sm.free hD
   have nDd:D≠pd:=(A3 ed hD).symm
   refine F0 (K:=K) (a:=b) (xs:=Am ws) (Pv:=fun i ys σ' H'=>∃ x0,σ'=[x0,some (.ref pd),some (.ref a)]/\H' pd=some (.dK kvs)/\Al (KdAt K H') ys (ks.take i)/\TdAt K H' kvs td'/\Same H H') ⟨none,rfl,by rw [Ai nDd.symm];exact ed,.nil,tda.same (SameT.new hD),J.sm.put hD⟩ ?_ ?_ ?_
   ·rintro i ys σ' H' _ ⟨_,_,_,_,_,sm⟩
    exact SqL.of (sm _ _ eb)
   ·rintro i x ys σ' H' hx hys ⟨x0,rfl,ed,aly,td,sm⟩
    have hi:i < ws.length:=by have:=(O2.mp hx).1;unfold Am at this;rwa [O0] at this
    have hik:i < ks.length:=by omega
    have hx':x=.int (ws[i]:Nat):=by unfold Am at hx;rw [Pk,Ou hi] at hx;exact (Pb hx).symm
    subst hx'
    obtain ⟨r,hr1,hr2⟩:=hks i _ _ (Ou hi) (Ou hik)
    obtain ⟨v,hv,kv⟩:=(td r).2 _ hr2
    walk_at "r"
    refine ⟨a,sh,ws[i],r,rfl,S.same sm,hr1,?_⟩
    refine ⟨pd,v,rfl,by rw [<- hv];exact DGet.k (k:=.inl ((r:Nat):Int)) ed,?_⟩
    have t6:SameT H' (upd H' D (.lst (ys++[v]))):=SameT.set hys
    refine ⟨ys,hys,by rw [aly.1,Pg];omega,_,Ac,_,rfl,by rw [Ai nDd.symm];exact ed,?_,td.same t6,sm.over hD0⟩
    rw [Qd,Ou hik]
    exact (aly.mono fun _ _ h=>h.same t6).snoc (kv.same t6)
   ·rintro ys σ' H' hys ⟨x0,rfl,ed,aly,td,sm⟩
    have e2:(Am ws).length=ks.length:=by unfold Am;rw [O0,lk]
    rw [e2,Py] at aly
    exact q D ys H' sm hD0 hys aly
  have ew3:=J.ew
  rw [O4,Pt] at wl
  have erv:Am (w1++[x])=Am w1++[.int (x:Nat)]:=by rw [Fe];rfl
  rw [erv] at ew3 ⊢
  rw [show (!(Am w1++[V.int ((x:Nat):Int)]).isEmpty)=true by simp]
  refine iteT ?_
  refine ⟨fun σ2 H2=>∃ m',m' < n+1/\∃ v5 v6 v7 td w,∃ c:Nat,σ2=[some (.ref a),some (.ref b),some (.ref pd),some (.int (c:Nat)),some (.ref pw),v5,v6,v7]/\ToJ K H pd pw (N+ws.length) m' td w H2/\ToldN sh m' td c w td',fun _ _ h=>h,?_⟩
  walk_at "r"
  refine A1 (SqL.of ew3) (Hq _ _) ?_
  walk_at "r"
  refine ⟨a,sh,x,r,rfl,S.same J.sm,hL,?_⟩
  walk_at "r"
  obtain ⟨us,p,e,eu,qp⟩:=(S.same J.sm).at hs
  refine A1 (SqL.of e) eu ?_
  walk_at "r"
  refine .inr (.inr ⟨p,_,rfl,qp,Kq,fun p3 h3=>?_⟩)
  rw [K2]
  have s4:=Same.upd (o:=.tup (Am sp.parts)) h3
  obtain ⟨lp,hpa⟩:=hp.at
  have hpl:=Zcr sp
  refine .inr (.inl ⟨p3,rfl,⟨_,SqT.of Ac⟩,fun D hD=>?_⟩)
  refine Zli (K:=K) (a:=p3) (xs:=Am sp.parts) (Pv:=fun i ys σ' H'=>∃ x0,σ'=[x0,some (.ref a)]/\ys=Am (rs.take i)/\H' p3=some (.tup (Am sp.parts))/\Same H3 H') ⟨none,rfl,rfl,(Same.upd hD) _ _ Ac,s4.put hD⟩ ?_ ?_ ?_
  ·rintro i ys σ' H' _ ⟨_,_,_,e,_⟩
   exact SqT.of e
  ·rintro i x ys σ' H' hx hys ⟨x0,rfl,rfl,ep3,sm⟩
   have hi:i < sp.parts.length:=by have:=(O2.mp hx).1;unfold Am at this;rwa [O0] at this
   have hir:i < rs.length:=by omega
   have hx':x=.int (sp.parts[i]:Nat):=by unfold Am at hx;rw [Pk,Ou hi] at hx;exact (Pb hx).symm
   subst hx'
   walk_at "r"
   refine ⟨a,sh,sp.parts[i],rs[i],rfl,S.same (J.sm.trans sm),hpa i hi hir,?_⟩
   refine ⟨_,hys,by unfold Am;rw [O0,Pg];omega,_,Ac,_,rfl,?_,by rw [Ai (Zfs hys ep3)];exact ep3,sm.over (s4.free hD)⟩
   rw [Qd,Ou hir,Fe]
   rfl
  ·rintro ys σ' H5 hys ⟨x0,rfl,rfl,ep3,sm5⟩
   have e2:(Am sp.parts).length=rs.length:=by unfold Am;rw [O0,lp]
   rw [e2,Py] at hys
   walk_at "r"
   have ed5:=sm5 _ _ ed
   have tda5:=tda.same sm5.t
   refine .inl ⟨D,rfl,⟨_,SqL.of hys⟩,fun D2 hD2=>?_⟩
   have nD2:D2≠D:=(A3 hys hD2).symm
   have nD2d:D2≠pd:=(A3 ed5 hD2).symm
   refine F0 (K:=K) (a:=D) (xs:=Am rs) (Pv:=fun i ys σ' H'=>∃ x0,σ'=[x0,some (.ref pd)]/\ys=Am (Ck td (rs.take i))/\H' D=some (.lst (Am rs))/\H' pd=some (.dK kvs)/\Same H5 H') ⟨none,rfl,rfl,by rw [Ai nD2.symm];exact hys,by rw [Ai nD2d.symm];exact ed5,Same.upd hD2⟩ ?_ ?_ ?_
   ·rintro i ys σ' H' _ ⟨_,_,_,e,_⟩
    exact SqL.of e
   ·rintro i x ys σ' H' hx hys2 ⟨x0,rfl,rfl,eD,edd,sm⟩
    have hir:i < rs.length:=by have:=(O2.mp hx).1;unfold Am at this;rwa [O0] at this
    have hx':x=.int (rs[i]:Nat):=by unfold Am at hx;rw [Pk,Ou hir] at hx;exact (Pb hx).symm
    subst hx'
    have hml:(Ck td (rs.take i)).length<=rs.length:=Pm (Th _ _) (by rw [Pg];omega)
    have hms:=Zo8 td (rs.take i) rs[i]
    rw [show rs.take i++[rs[i]]=rs.take (i+1) by rw [Qd,Ou hir];rfl] at hms
    walk_at "r"
    refine ⟨pd,_,rfl,DGet.k (k:=.inl ((rs[i]:Nat):Int)) edd,?_⟩
    rw [tda.has rs[i]]
    cases et:td rs[i] with
    | some k =>
     rw [et] at hms
     have hms:Ck td (rs.take (i+1))=Ck td (rs.take i):=by rw [hms];exact Qa _
     refine ⟨false,rfl,?_⟩
     refine iteF ?_
     exact ⟨_,hys2,_,rfl,by rw [hms],eD,edd,sm⟩
    | none =>
     rw [et] at hms
     have hms:Ck td (rs.take (i+1))=Ck td (rs.take i)++[rs[i]]:=hms
     refine ⟨true,rfl,?_⟩
     refine iteT ?_
     walk_at "r"
     refine ⟨_,hys2,by unfold Am;rw [O0];omega,_,Ac,_,rfl,by rw [hms,Fe];rfl,by rw [Ai nD2.symm];exact eD,by rw [Ai nD2d.symm];exact edd,sm.over hD2⟩
   ·rintro ys σ' H6 hys2 ⟨x0,rfl,rfl,eD,edd,sm6⟩
    have e3:(Am rs).length=rs.length:=by unfold Am;exact O0 ..
    rw [e3,Py] at hys2
    have s36:Same H3 H6:=sm5.trans sm6
    have tda6:=tda.same s36.t
    have ew6:=s36 _ _ ew3
    have e6:=s36 _ _ e
    have qp6:=s36.tup qp
    walk_at "r"
    refine ⟨pd,_,rfl,DGet.k (k:=.inl ((r:Nat):Int)) edd,?_⟩
    rw [tda.has r]
    rcases hc with ⟨k,hk,t⟩ | ⟨p',q',hk,hm,t⟩ | ⟨hk,hm,rfl,t⟩ | ⟨k,hk,hm,hmk,t⟩
    ·rw [hk]
     refine ⟨true,rfl,?_⟩
     walk_at "r"
     refine Ci (SqL.of ew6) ?_
     refine Km ew6 ?_
     exact ⟨n,by omega,_,_,_,td,w1,c,rfl,⟨⟨kvs,by rw [Ai nd];exact edd,tda6.same (SameT.set ew6),by omega⟩,Ac,by omega,(J.sm.trans s36).over hpw0⟩,t⟩
    ·rw [hk]
     rw [hm] at hys2
     refine ⟨false,rfl,?_⟩
     walk_at "r"
     refine Gn (SqL.of hys2) ?_
     refine iteT ?_
     walk_at "r"
     refine Ci (SqL.of ew6) ?_
     walk_at "r"
     refine A1 (SqL.of hys2) Di ?_
     walk_at "r"
     have hwl:(Am w1++[V.int ((x:Nat):Int)]).length < sizeLine:=by unfold Am;rw [O4,O0,Pt];omega
     refine Df ew6 hwl ?_
     exact ⟨n,by omega,_,_,_,td,w1++[x]++[p'],c,rfl,⟨⟨kvs,by rw [Ai nd];exact edd,tda6.same (SameT.set ew6),by omega⟩,by rw [Ac,Fe,Fe];rfl,by simp;omega,(J.sm.trans s36).over hpw0⟩,t⟩
    ·rw [hk]
     rw [hm] at hys2
     refine ⟨false,rfl,?_⟩
     walk_at "r"
     refine Gn (SqL.of hys2) ?_
     refine iteF ?_
     walk_at "r"
     refine A1 (SqL.of e6) eu ?_
     walk_at "r"
     refine A2 qp6 Di ?_
     walk_at "r"
     rw [Gz,decide_eq_true (Eq.refl Sh.any)]
     walk_at "r"
     refine ⟨Az,fun p8 h8=>?_⟩
     have s8:=Same.upd (o:=.tup [.str "any",.int (c:Nat)]) h8
     walk_at "r"
     refine ⟨pd,_,rfl,DPut.k (k:=.inl ((r:Nat):Int)) (s8 _ _ edd) (by omega),?_⟩
     have t9:=dk_t (o2:=.dK (Bc kvs (.inl ((r:Nat):Int)) (.ref p8))) (s8 _ _ edd)
     have hl9:=Dv kvs (.inl ((r:Nat):Int)) (.ref p8)
     walk_at "r"
     have ec:((c:Nat):Int)+1=((c+1:Nat):Int):=by omega
     rw [ec]
     exact ⟨n,by omega,_,_,_,Dz td r (.any c),w1++[x],c+1,rfl,⟨⟨_,Ac,((tda6.same s8.t).same t9).put r (.any (t9.tup (SqT.of Ac))),by omega⟩,by rw [Ai nd.symm,erv];exact s8 _ _ ew6,by simp;omega,((J.sm.trans s36).trans s8).over hpd⟩,t⟩
    ·rw [hk]
     rw [hm] at hys2
     have hna:sp≠.any:=by cases hmk <;> exact fun z=>by cases z
     refine ⟨false,rfl,?_⟩
     walk_at "r"
     refine Gn (SqL.of hys2) ?_
     refine iteF ?_
     walk_at "r"
     refine A1 (SqL.of e6) eu ?_
     walk_at "r"
     refine A2 qp6 Di ?_
     walk_at "r"
     rw [Gz,decide_eq_false hna]
     walk_at "r"
     refine A1 (SqL.of e6) eu ?_
     walk_at "r"
     refine A2 qp6 Di ?_
     walk_at "r"
     refine ⟨A0,fun p8 h8=>?_⟩
     have s8:=Same.upd (o:=.tup [.str sp.wd]) h8
     walk_at "r"
     refine .inl ⟨D,rfl,⟨_,SqL.of (s8 _ _ eD)⟩,fun D9 h9=>?_⟩
     have eD8:=s8 _ _ eD
     have nD9:D9≠D:=(A3 eD8 h9).symm
     have nD9d:D9≠pd:=(A3 (s8 _ _ edd) h9).symm
     refine F0 (K:=K) (a:=D) (xs:=Am rs) (Pv:=fun i ys σ' H'=>∃ x0,σ'=[x0,some (.ref pd)]/\H' D=some (.lst (Am rs))/\H' pd=some (.dK kvs)/\TdAt K H' kvs td/\Al (fun v i=>∃ k,td i=some k/\KdAt K H' v k) ys (rs.take i)/\Same (upd H6 p8 (.tup [.str sp.wd])) H') ⟨none,rfl,by rw [Ai nD9.symm];exact eD8,by rw [Ai nD9d.symm];exact s8 _ _ edd,(tda6.same s8.t).same (SameT.new h9),.nil,Same.upd h9⟩ ?_ ?_ ?_
     ·rintro i ys σ' H' _ ⟨_,_,e,_⟩
      exact SqL.of e
     ·rintro i x ys σ' H' hx hys3 ⟨x0,rfl,eD',edd',tda',aly,sm⟩
      have hir:i < rs.length:=by have:=(O2.mp hx).1;unfold Am at this;rwa [O0] at this
      have hx':x=.int (rs[i]:Nat):=by unfold Am at hx;rw [Pk,Ou hir] at hx;exact (Pb hx).symm
      subst hx'
      obtain ⟨k1,hk1⟩:=Zpk hm (Sa hir)
      obtain ⟨v,hv,kv⟩:=(tda' rs[i]).2 k1 hk1
      walk_at "r"
      refine ⟨pd,v,rfl,by rw [<- hv];exact DGet.k (k:=.inl ((rs[i]:Nat):Int)) edd',?_⟩
      have t6:SameT H' (upd H' D9 (.lst (ys++[v]))):=SameT.set hys3
      refine ⟨ys,hys3,by rw [aly.1,Pg];omega,_,Ac,_,rfl,by rw [Ai nD9.symm];exact eD',by rw [Ai nD9d.symm];exact edd',tda'.same t6,?_,sm.over h9⟩
      rw [Qd,Ou hir]
      exact (aly.mono fun _ _ ⟨k,h1,h2⟩=>⟨k,h1,h2.same t6⟩).snoc ⟨k1,hk1,kv.same t6⟩
     ·rintro zs σ' H' hys3 ⟨x0,rfl,eD',edd',tda',aly,sm⟩
      rw [e3,Py] at aly
      walk_at "r"
      refine Zff (SqL.of hys3) fun pa ha=>?_
      have sa:=Same.upd (o:=.tup zs) ha
      have hzl:zs.length<=2:=by rw [aly.1];omega
      refine Zje ((sm.trans sa).tup (SqT.of Ac)) (SqT.of Ac) (by show 1+zs.length<=sizeLine;omega) fun r9 Hb sb qr=>?_
      have sB:Same H' Hb:=sa.trans sb
      have sAll:Same H3 Hb:=s36.trans ((s8.trans sm).trans sB)
      walk_at "r"
      refine ⟨pd,_,rfl,DPut.k (k:=.inl ((r:Nat):Int)) (sB _ _ edd') (by omega),?_⟩
      have tP:=dk_t (o2:=.dK (Bc kvs (.inl ((r:Nat):Int)) (.ref r9))) (sB _ _ edd')
      have hl9:=Dv kvs (.inl ((r:Nat):Int)) (.ref r9)
      have kr:KdAt K Hb (.ref r9) k:=by
       have aly':=aly.mono fun v i (h:∃ k,td i=some k/\KdAt K H' v k)=>(show ∃ k,td i=some k/\KdAt K Hb v k from let ⟨k,h1,h2⟩:=h;⟨k,h1,h2.same sB.t⟩)
       cases hmk with
       | num =>
        have:zs=[]:=Rg aly.1
        subst this
        exact .num qr
       | truth =>
        have:zs=[]:=Rg aly.1
        subst this
        exact .truth qr
       | @to _ _ r1 r2 x1 y1 hx1 hy1 =>
        obtain ⟨u,v,rfl⟩:=lz2 (vs:=zs) aly'.1
        obtain ⟨k1,h1,h2⟩:=aly'.2 0 u r1 rfl rfl
        obtain ⟨k2,h3,h4⟩:=aly'.2 1 v r2 rfl rfl
        rw [hx1] at h1
        rw [hy1] at h3
        cases h1
        cases h3
        exact .to qr h2 h4
      exact ⟨n,by omega,_,_,_,Dz td r k,w1++[x],c,rfl,⟨⟨_,Ac,((tda'.same sB.t).same tP).put r (kr.same tP),by omega⟩,by rw [Ai nd.symm,erv];exact sAll _ _ ew3,by simp;omega,(J.sm.trans sAll).over hpd⟩,t⟩
noncomputable def Zfc (K:Os):Sp:=fun vs H Q _=>∃(v:V)(t:Tr),vs=[v]/\TrAt K H v t/\t.size<=2000/\∀(p:Addr)(rows:List V)(H':Hp),Same H H'->H p=none->H' p=some (.lst rows)->Al (RowT K H') rows (walk [] t)->Q (.ref p) H'
theorem sc_placed_forms:Bm ["tree", "told", "waiting", "pair", "number", "part"] ["tree"] (Be Jk):=by walk_at "sc"
noncomputable def PlJ (K:Os)(H:Hp)(v:V)(t:Tr)(pt pw:Addr)(m:Nat)(σ:St)(H':Hp):Prop:=∃(v3 v4 v5:Option V)(tv wv:List V)(dn st:List (List Nat×Tr)),σ=[some v,some (.ref pt),some (.ref pw),v3,v4,v5]/\H' pt=some (.lst tv)/\H' pw=some (.lst wv) /\
 Al (RowT K H') tv dn/\Al (RowT K H') wv st/\dn++Fg st=walk [] t/\m=D6 st/\Same H H'
theorem Zjv {f:Addr}{fd:FuncData}(F:Fun K "placed_forms" "placed_forms" Jk f fd)(T:Txt K mg):A9 P w K mg base Bd 1 f fd ["tree"] (Zfc K):=by
 refine F.okq sc_placed_forms (fun vs H Q E h=>?_) (fun cdv A outer s H vs Q E hr h=>?_)
 ·obtain ⟨v,t,rfl,_⟩:=h
  rfl
 ·obtain ⟨v,t,rfl,ht,hz,q⟩:=h
  refine ⟨_,Ag (Ar 1 sc_placed_forms (Av Ab))
   (Ag (Ar 2 sc_placed_forms (Av (Aa (Ad (Aa (Ad Ab) (Aa (qv 0) Ab))) Ab)))
   (Ag (Ij Pi (Fm K (qv 2) (by intro _;rfl)) (Ag (Ar 3 sc_placed_forms (Lr K Pl Tf Tg Mf (qv 2)))
   (Ag (Cw (Dk K Pl P7 P8 Dl (qv 1) (Aa (qv 3) Ab)))
   (Ak (Cu Pi rfl (Zn1 K rfl T.reversed (Aa (Zg8 K (by rfl) T.list (by rfl) T.enumerate (Aa (Ap K (Ap K (qv 3) Af) Af) Ab)) Ab)) (Da K (n:=2) rfl (Bx (A6 (i:=4) sc_placed_forms.nd rfl (Or.inl rfl)) (Bx (A6 (i:=5) sc_placed_forms.nd rfl (Or.inl rfl)) (C7)))) (Ak (Cw (Dk K Pl P7 P8 Dl (qv 2) (Aa (Ad (Aa (Bs (Zca K) (Ap K (qv 3) Af) (Ad (Aa (qv 4) Ab))) (Aa (qv 5) Ab))) Ab)))))))))
   (Ak (Ax (qv 1))))),?_⟩
  have bg:=big
  walk_at "r"
  refine ⟨A4,fun pt hpt=>?_⟩
  walk_at "r"
  refine ⟨A4,fun p0 hp0=>?_⟩
  walk_at "r"
  refine ⟨Az,fun p1 hp1=>?_⟩
  walk_at "r"
  refine ⟨A0,fun pw hpw=>?_⟩
  walk_at "r"
  have s0:Same (upd H pt (.lst [])) _:=((Same.upd (o:=.tup []) hp0).put (o:=.tup [.ref p0,v]) hp1).put (o:=.lst [.ref p1]) hpw
  have s1:Same (upd (upd H pt (.lst [])) p0 (.tup [])) _:=(Same.upd (o:=.tup [.ref p0,v]) hp1).put (o:=.lst [.ref p1]) hpw
  have s2:=Same.upd (o:=.lst [.ref p1]) hpw
  have sH:=(Same.upd (o:=.lst []) hpt).trans s0
  have ept:=s0 pt _ Ac
  have epw:upd (upd (upd (upd H pt (.lst [])) p0 (.tup [])) p1 (.tup [.ref p0,v])) pw (.lst [.ref p1]) pw=some (.lst [.ref p1]):=Ac
  have ep0:=s1 p0 _ Ac
  have ep1:=s2 p1 _ Ac
  have npw:pt≠pw:=fun z=>by rw [z] at ept;rw [Ac] at ept;cases ept
  have hpw0:H pw=none:=((Same.upd (o:=.lst []) hpt).trans ((Same.upd (o:=.tup []) hp0).put (o:=.tup [.ref p0,v]) hp1)).free hpw
  refine ⟨PlJ K H v t pt pw,⟨_,none,none,none,[],[.ref p1],[],[([],t)],rfl,ept,epw,.nil,Al.nil.snoc ⟨p1,p0,v,rfl,SqT.of ep1,ep0,ht.same sH⟩,by simp [Fg],rfl,sH⟩,?_⟩
  rintro m σ' H' ⟨v3,v4,v5,tv,wv,dn,st,rfl,et,ew,al1,al2,hw,rfl,sm⟩
  have hdl:dn.length+D6 st=t.size:=by
   have:=congrArg T9 hw
   rw [O4,G1] at this
   exact this
  have htl:tv.length=dn.length:=al1.1
  walk_at "r"
  refine Gn (SqL.of ew) ?_
  by_cases hwv:wv=[]
  ·subst hwv
   have hst:st=[]:=Rg al2.1.symm
   subst hst
   refine iteF ?_
   walk_at "r"
   rw [Zpi,Qa] at hw
   rw [hw] at al1
   exact q pt tv H' sm hpt et al1
  obtain ⟨wv',tp,st',x,rfl,rfl,al3,hrow⟩:=al2.last hwv
  have hne:(!(wv'++[tp]).isEmpty)=true:=by simp
  rw [hne]
  refine iteT ?_
  obtain ⟨pl,tx⟩:=x
  have hx:(pl,tx)∈walk [] t:=by rw [<- hw,Zai];simp
  have hpl:pl.length<=2000:=by have:=K4 [] t _ hx;simp at this;omega
  have hload:=Zky st' (pl,tx)
  have hll:=Zml (st'++(B6 pl 0 tx.ps).reverse)
  refine ⟨fun σ2 H2=>∃ m',m' < D6 (st'++[(pl,tx)])/\PlJ K H v t pt pw m' σ2 H2,fun _ _ h=>h,?_⟩
  walk_at "r"
  refine Ci (SqL.of ew) ?_
  refine Km ew ?_
  have t1:SameT H' (upd H' pw (.lst wv')):=SameT.set ew
  have et2:upd H' pw (.lst wv') pt=some (.lst tv):=by rw [Ai npw];exact et
  walk_at "r"
  refine Ci (SqL.of et2) ?_
  walk_at "r"
  refine Df et2 (by omega) ?_
  have t2:SameT H' (upd (upd H' pw (.lst wv')) pt (.lst (tv++[tp]))):=t1.trans (SameT.set et2)
  have et3:upd (upd H' pw (.lst wv')) pt (.lst (tv++[tp])) pt=some (.lst (tv++[tp])):=Ac
  have ew3:upd (upd H' pw (.lst wv')) pt (.lst (tv++[tp])) pw=some (.lst wv'):=by rw [Ai npw.symm,Ac]
  have sm3:Same H (upd (upd H' pw (.lst wv')) pt (.lst (tv++[tp]))):=(sm.over hpw0).over hpt
  revert t2 et3 ew3 sm3
  generalize upd (upd H' pw (.lst wv')) pt (.lst (tv++[tp]))=H3
  intro t2 et3 ew3 sm3
  have hrow3:=RowT.same t2 _ _ hrow
  obtain ⟨a,p,u,rfl,qa,qp,hu⟩:=id hrow3
  cases hu with
  | @mk b pp wd nv n vs ts qb hn qpp hl hch =>
  walk_at "r"
  refine A2 qa rfl ?_
  walk_at "r"
  refine A2 qb rfl ?_
  walk_at "r"
  refine ⟨pp,vs,rfl,qpp,fun S ys H4 hS s4 hl4 hpairs hS4=>?_⟩
  walk_at "r"
  refine ⟨S,ys,rfl,SqL.of hS4,?_⟩
  have nSp:pw≠S:=A3 ew3 hS
  have nSt:pt≠S:=A3 et3 hS
  have al4:Al (RowT K H4) wv' st':=al3.mono (RowT.same (t2.trans s4.t))
  have hkl:(B6 pl 0 ts).length=ys.length:=by rw [Zb1];omega
  refine Zjw (K:=K) (a:=S) (xs:=ys) (fun j σ5 H5=>∃(v4 v5:Option V)(wv5:List V),σ5=[some v,some (.ref pt),some (.ref pw),some (.ref a),v4,v5]/\H5 pt=some (.lst (tv++[.ref a]))/\H5 pw=some (.lst wv5)/\H5 S=some (.lst ys)/\Al (RowT K H5) wv5 (st'++((B6 pl 0 ts).drop (ys.length - j)).reverse)/\SameT H4 H5/\Same H H5)
   ⟨_,_,wv',rfl,s4 _ _ et3,s4 _ _ ew3,hS4,by rw [Nat.sub_zero,Uf (by omega)];simpa using al4,SameT.refl _,sm3.trans s4⟩ ?_ ?_ ?_
  ·rintro j σ5 H5 _ ⟨_,_,_,_,_,_,e,_⟩
   exact SqL.of e
  ·rintro i y σ5 H5 hi hy ⟨v4',v5',wv5,rfl,e5t,e5w,e5s,al5,t5,sm5⟩
   obtain ⟨tt,xw,rfl,hxw,htt⟩:=hpairs _ _ hy
   have htt5:=(t5 tt).1 _ htt
   walk_at "r"
   refine C3 (SqT.of htt5) rfl ?_
   walk_at "r"
   refine Ci (SqL.of e5w) ?_
   walk_at "r"
   have T5:SameT H3 H5:=s4.t.trans t5
   refine A2 (T5.tup qa) rfl ?_
   walk_at "r"
   refine ⟨A0,fun p6 h6=>?_⟩
   refine Zjf (((T5.trans (SameT.new h6)) p).1 _ qp) Ac (by show (Bg pl).length+1<=sizeLine;unfold Bg;rw [O0];omega) fun r H7 s7 q7=>?_
   walk_at "r"
   refine ⟨Az,fun p7 h7=>?_⟩
   walk_at "r"
   have s57:Same H5 H7:=(Same.upd h6).trans s7
   have s58:=s57.put (o:=.tup [.ref r,xw]) h7
   have hlw:wv5.length=st'.length+((B6 pl 0 ts).drop (ys.length - i)).length:=by have:=al5.1;simp at this ⊢;omega
   have hlk:(st'++(B6 pl 0 ts).reverse).length=st'.length+ys.length:=by rw [O4,Up,hkl]
   have hll':(st'++(B6 pl 0 ts).reverse).length<=2000:=by
    have h1:D6 (st'++(B6 pl 0 (Tr.mk wd n ts).ps).reverse) < D6 (st'++[(pl,Tr.mk wd n ts)]):=hload
    have h2:(st'++(B6 pl 0 (Tr.mk wd n ts).ps).reverse).length<=D6 (st'++(B6 pl 0 (Tr.mk wd n ts).ps).reverse):=hll
    have h3:(Tr.mk wd n ts).ps=ts:=rfl
    rw [h3] at h1 h2
    omega
   have hdr:((B6 pl 0 ts).drop (ys.length - i)).length<=ys.length:=by rw [U0];omega
   refine Df (s58 _ _ e5w) (by omega) ?_
   have e8w:=s58 _ _ e5w
   have t9:SameT H5 (upd (upd H7 p7 (.tup [.ref r,xw])) pw (.lst (wv5++[.ref p7]))):=s58.t.trans (SameT.set e8w)
   obtain ⟨tk,htk,hat⟩:∃ tk,ts[ys.length - 1 - i]?=some tk/\TrAt K H3 xw tk:=by
    have hj:=(O2.mp hxw).1
    have hj':ys.length - 1 - i < ts.length:=by omega
    exact ⟨_,Ou hj',hch _ _ _ hxw (Ou hj')⟩
   have hkid:(B6 pl 0 ts)[ys.length - 1 - i]?=some (pl++[ys.length - 1 - i],tk):=by
    rw [Zb9,htk]
    simp
   refine ⟨_,_,wv5++[.ref p7],rfl,?_,Ac,?_,?_,t5.trans t9,(sm5.trans s58).over hpw0⟩
   ·rw [Ai npw];exact s58 _ _ e5t
   ·rw [Ai nSp.symm];exact s58 _ _ e5s
   ·rw [Zlt hkl hi hkid,<- Qn]
    refine (al5.mono (RowT.same t9)).snoc ⟨p7,r,xw,rfl,(SameT.set e8w).tup (SqT.of Ac),?_,hat.sameT (T5.trans t9)⟩
    have q9:=(((SameT.new (o:=.tup [.ref r,xw]) h7).trans (SameT.set (o:=.lst (wv5++[.ref p7])) e8w)) r).1 _ q7
    have e:Bg (pl++[ys.length - 1 - i])=Bg pl++[.int ((ys.length - 1 - i:Nat):Int)]:=by unfold Bg;rw [Qb];rfl
    show upd _ _ _ r=some (.tup (Bg (pl++[ys.length - 1 - i])))
    rw [e]
    exact q9
  ·rintro σ5 H5 ⟨v4',v5',wv5,rfl,e5t,e5w,e5s,al5,t5,sm5⟩
   rw [Sk,List.drop_zero] at al5
   refine ⟨_,hload,_,_,_,tv++[.ref a],wv5,dn++[(pl,.mk wd n ts)],_,rfl,e5t,e5w,?_,al5,?_,rfl,sm5⟩
   ·exact (al1.mono (RowT.same (t2.trans (s4.t.trans t5)))).snoc (RowT.same (s4.t.trans t5) _ _ hrow3)
   ·rw [<- hw,Zai,Qn]
    rfl
noncomputable def B1 (m:Nat)(w:Str):Nat×List Nat×List Nat×Ao :=
 if w = "num" then (0,[],[],[]) else if w = "truth" then (1,[],[],[]) else if w = "plus" \/ w = "minus" then (0,[0,0],[],[]) else if w = "less" then (1,[0,0],[],[]) else
 if w = "if" then (m,[1,m,m],[],[.any]) else if w = "gap" \/ w = "odd" \/ w = "name" then (m,[],[],[.any]) else if w = "let" then (m+1,[m,m+1],[m],[.any,.any]) else
 if w = "fn" then (m+2,[m+1],[m],[.any,.any,.to m (m+1)]) else if w = "rec" then (m+2,[m+1],[m+2,m],[.any,.any,.to m (m+1)]) else (m+1,[m+2,m],[],[.any,.any,.to m (m+1)])
noncomputable def Bt (a:Addr)(H H':Hp):Prop:=∀ x o,x≠a->H x=some o->H' x=some o
theorem Hm {H H':Hp}(s:Same H H')(a:Addr):Bt a H H':=fun x o _ h=>s x o h
theorem Bt.trans {a:Addr}{H H1 H2:Hp}(h:Bt a H H1)(g:Bt a H1 H2):Bt a H H2:=fun x o n e=>g x o n (h x o n e)
theorem Bt.upd {a:Addr}{H:Hp}{o:HO}:Bt a H (upd H a o):=fun x o' n e=>by rw [Ai n];exact e
theorem Bt.t {a:Addr}{H H':Hp}{us:List V}(h:Bt a H H')(e:H a=some (.lst us)):SameT H H':=fun b =>
 ⟨fun xs e1=>h b _ (fun z=>by rw [z,e] at e1;cases e1) e1,fun o u e1=>h b _ (fun z=>by rw [z,e] at e1;cases e1) e1⟩
theorem ShG.snoc {H:Hp}{a p:Addr}{us:List V}{sh:Ao}{s:Sh}(e:H a=some (.lst us))(al:Al (ShE K H) us sh)(hp:SqT K H p (shV s)):ShG K (upd H a (.lst (us++[.ref p]))) a (sh++[s]) :=
 ⟨us++[.ref p],Ac,(al.mono (ShE.same (SameT.set e))).snoc ⟨p,rfl,(SameT.set e).tup hp⟩⟩
noncomputable def Zbf:Sp:=fun vs H Q _=>∃(a:Addr)(x:V)(us:List V),vs=[.ref a,x]/\H a=some (.lst us)/\us.length < 5000/\Q (.int (us.length:Nat)) (upd H a (.lst (us++[x])))
noncomputable def Zbe (K:Os):Sp:=fun vs H Q _=>∃(a:Addr)(w:Str)(sh:Ao),vs=[.ref a,.str w]/\sh.length<=1000/\ShG K H a sh /\
 ∀(r b c:Addr)(H':Hp),Bt a H H'->ShG K H' a (sh++(B1 sh.length w).2.2.2)->SqT K H' r [.int ((B1 sh.length w).1:Nat),.ref b,.ref c]->H' b=some (.lst (Am (B1 sh.length w).2.1))->H b=none->b≠a->H' c=some (.lst (Am (B1 sh.length w).2.2.1))->H c=none->c≠a->c≠b->Q (.ref r) H'
theorem Ei {x y:Str}:decide (V.str x=V.str y)=decide (x=y):=by
 by_cases h:x=y
 ·subst h;simp
 ·rw [decide_eq_false h,decide_eq_false (fun e=>h (by injection e))]
theorem Zkc (a b:Str):(a == b)=decide (b=a):=by
 rw [Rp,beq_iff_eq,decide_eq_true_iff]
 exact eq_comm
theorem Jj (a t:Str)(r:List V):Ek (.str t) (.str a::r)=(decide (t=a) || Ek (.str t) r):=by
 show ((a == t) || _)=_
 rw [Zkc]
 rfl
theorem Zcc (x:V):Ek x []=false:=rfl
theorem in2 {w x y:Str}:Ek (.str w) [.str x,.str y]=decide (w=x\/w=y):=by
 rw [Jj,Jj,Zcc,Tx]
 by_cases h1:w=x <;> by_cases h2:w=y <;> simp [h1,h2]
theorem in3 {w x y z:Str}:Ek (.str w) [.str x,.str y,.str z]=decide (w=x\/w=y\/w=z):=by
 rw [Jj,Jj,Jj,Zcc,Tx]
 by_cases h1:w=x <;> by_cases h2:w=y <;> by_cases h3:w=z <;> simp [h1,h2,h3]
theorem K7:Bm ["shapes", "word", "one", "other", "function"] ["shapes", "word"] (Be Jq):=by walk_at "sc"
theorem Zlj {f:Addr}{fd:FuncData}(F:Fun K "kinds_of_word" "kinds_of_word" Jq f fd)(T:Txt K mg)(G_NUM:Ep mg "NUM" (.int 0))(G_TRUTH:Ep mg "TRUTH" (.int 1))(C_new_kind:Ba P w K mg base 1 "new_kind" ["shapes", "shape"] Zbf):A9 P w K mg base Bd 2 f fd ["shapes", "word"] (Zbe K):=by
 refine F.okq K7 (fun vs H Q E h=>?_) (fun cdv A outer s H vs Q E hr h=>?_)
 ·obtain ⟨a,w,sh,rfl,_⟩:=h
  rfl
 ·obtain ⟨a,w,sh,rfl,hm2,S,q⟩:=h
  refine ⟨_,Ag (Bf (Bv (B2 K hr.u200) (qv 1) Ah (Br _)) (Ak (Ax (Ad (Aa (D4 G_NUM) (Aa (Av Ab) (Aa (Av Ab) Ab)))))) Bj)
   (Ag (Bf (Bv (B2 K hr.u200) (qv 1) Ah (Br _)) (Ak (Ax (Ad (Aa (D4 G_TRUTH) (Aa (Av Ab) (Aa (Av Ab) Ab)))))) Bj)
   (Ag (Bf (Bv (M9 K) (qv 1) (Ad (Aa Ah (Aa Ah Ab))) (by rfl)) (Ak (Ax (Ad (Aa (D4 G_NUM) (Aa (Av (Aa (D4 G_NUM) (Aa (D4 G_NUM) Ab))) (Aa (Av Ab) Ab)))))) Bj)
   (Ag (Bf (Bv (B2 K hr.u200) (qv 1) Ah (Br _)) (Ak (Ax (Ad (Aa (D4 G_TRUTH) (Aa (Av (Aa (D4 G_NUM) (Aa (D4 G_NUM) Ab))) (Aa (Av Ab) Ab)))))) Bj)
   (Ag (Ar 2 K7 (As C_new_kind hr.m (Aa (qv 0) (Aa (Ad (Aa Ah Ab)) Ab))))
   (Ag (Bf (Bv (B2 K hr.u200) (qv 1) Ah (Br _)) (Ak (Ax (Ad (Aa (qv 2) (Aa (Av (Aa (D4 G_TRUTH) (Aa (qv 2) (Aa (qv 2) Ab)))) (Aa (Av Ab) Ab)))))) Bj)
   (Ag (Bf (Bv (M9 K) (qv 1) (Ad (Aa Ah (Aa Ah (Aa Ah Ab)))) (by rfl)) (Ak (Ax (Ad (Aa (qv 2) (Aa (Av Ab) (Aa (Av Ab) Ab)))))) Bj)
   (Ag (Ar 3 K7 (As C_new_kind hr.m (Aa (qv 0) (Aa (Ad (Aa Ah Ab)) Ab))))
   (Ag (Bf (Bv (B2 K hr.u200) (qv 1) Ah (Br _)) (Ak (Ax (Ad (Aa (qv 3) (Aa (Av (Aa (qv 2) (Aa (qv 3) Ab))) (Aa (Av (Aa (qv 2) Ab)) Ab)))))) Bj)
   (Ag (Ar 4 K7 (As C_new_kind hr.m (Aa (qv 0) (Aa (Ad (Aa Ah (Aa (qv 2) (Aa (qv 3) Ab)))) Ab))))
   (Ag (Bf (Bv (B2 K hr.u200) (qv 1) Ah (Br _)) (Ak (Ax (Ad (Aa (qv 4) (Aa (Av (Aa (qv 3) Ab)) (Aa (Av (Aa (qv 2) Ab)) Ab)))))) Bj)
   (Ag (Bf (Bv (B2 K hr.u200) (qv 1) Ah (Br _)) (Ak (Ax (Ad (Aa (qv 4) (Aa (Av (Aa (qv 3) Ab)) (Aa (Av (Aa (qv 4) (Aa (qv 2) Ab))) Ab)))))) Bj)
   (Ak (Ax (Ad (Aa (qv 3) (Aa (Av (Aa (qv 4) (Aa (qv 2) Ab))) (Aa (Av Ab) Ab))))))))))))))))),?_⟩
  have bg:=big
  obtain ⟨us,ea,ala⟩:=S.ex
  have la:us.length=sh.length:=ala.1
  have fin:∀(H1:Hp)(g:Nat)(xs ys:List Nat)(new:Ao)(us1:List V),Bt a H H1->H1 a=some (.lst us1)->ShG K H1 a (sh++new)->B1 sh.length w=(g,xs,ys,new)->∀ b,H1 b=none->∀ c,upd H1 b (.lst (Am xs)) c=none->∀ r,upd (upd H1 b (.lst (Am xs))) c (.lst (Am ys)) r=none->Q (.ref r) (upd (upd (upd H1 b (.lst (Am xs))) c (.lst (Am ys))) r (.tup [.int (g:Nat),.ref b,.ref c])):=by
   rintro H1 g xs ys new us1 hb e1 S1 hk b h1 c h2 r h3
   rw [hk] at q
   have s1:=Same.upd (o:=.lst (Am xs)) h1
   have s2:=Same.upd (o:=.lst (Am ys)) h2
   have s3:=Same.upd (o:=.tup [.int (g:Nat),.ref b,.ref c]) h3
   have fr:∀{x:Addr},H1 x=none->H x=none:=fun {x} hx=>by
    cases e:H x with
    | none=>rfl
    | some o=>rw [hb x o (fun z=>by rw [z,e1] at hx;cases hx) e] at hx;cases hx
   exact q r b c _ (hb.trans (Hm ((s1.trans s2).trans s3) a)) (S1.same ((s1.trans s2).trans s3)) (SqT.of Ac) ((s2.trans s3) _ _ Ac) (fr h1) (A3 e1 h1).symm (s3 _ _ Ac) (fr (s1.free h2)) (A3 (s1 _ _ e1) h2).symm (A3 Ac h2).symm
  have old:∀(H1:Hp)(g:Nat)(xs ys:List Nat),Same H H1->B1 sh.length w=(g,xs,ys,[])->∀ b,H1 b=none->∀ c,upd H1 b (.lst (Am xs)) c=none->∀ r,upd (upd H1 b (.lst (Am xs))) c (.lst (Am ys)) r=none->Q (.ref r) (upd (upd (upd H1 b (.lst (Am xs))) c (.lst (Am ys))) r (.tup [.int (g:Nat),.ref b,.ref c])):=fun H1 g xs ys s1 hk=>fin H1 g xs ys [] us (Hm s1 a) (s1 _ _ ea) (by rw [Qa];exact S.same s1) hk
  unfold B1 at fin old
  walk_at "r"
  rw [Ei]
  refine Ce (fun c=>?_) (fun c=>?_)
  ·have c:=of_decide_eq_true c
   rw [if_pos c] at old
   walk_at "r"
   refine ⟨A4,fun b hb=>?_⟩
   walk_at "r"
   refine ⟨A4,fun c hc=>?_⟩
   walk_at "r"
   refine ⟨Bh,fun r hr'=>?_⟩
   exact old H 0 [] [] (Same.refl _) rfl b hb c hc r hr'
  have c1:¬ w = "num" := fun e=>c (decide_eq_true e)
  rw [if_neg c1] at fin old
  walk_at "r"
  rw [Ei]
  refine Ce (fun c=>?_) (fun c=>?_)
  ·have c:=of_decide_eq_true c
   rw [if_pos c] at old
   walk_at "r"
   refine ⟨A4,fun b hb=>?_⟩
   walk_at "r"
   refine ⟨A4,fun c hc=>?_⟩
   walk_at "r"
   refine ⟨Bh,fun r hr'=>?_⟩
   exact old H 1 [] [] (Same.refl _) rfl b hb c hc r hr'
  have c1:¬ w = "truth" := fun e=>c (decide_eq_true e)
  rw [if_neg c1] at fin old
  walk_at "r"
  refine ⟨Az,fun p1 h1=>?_⟩
  refine Zao (.inr (SqT.of Ac)) rfl rfl ?_
  rw [if_neg O6,in2]
  have s1:Same H (upd H p1 (.tup [.str "plus",.str "minus"])):=Same.upd h1
  revert s1
  generalize upd H p1 (.tup [.str "plus",.str "minus"])=H1
  intro s1
  walk_at "r"
  refine Ce (fun c=>?_) (fun c=>?_)
  ·have c:=of_decide_eq_true c
   rw [if_pos c] at old
   walk_at "r"
   refine ⟨Az,fun b hb=>?_⟩
   walk_at "r"
   refine ⟨A4,fun c hc=>?_⟩
   walk_at "r"
   refine ⟨Bh,fun r hr'=>?_⟩
   exact old H1 0 [0,0] [] s1 rfl b hb c hc r hr'
  have c1:¬ (w = "plus" \/ w = "minus"):=fun e=>c (decide_eq_true e)
  rw [if_neg c1] at fin old
  walk_at "r"
  rw [Ei]
  refine Ce (fun c=>?_) (fun c=>?_)
  ·have c:=of_decide_eq_true c
   rw [if_pos c] at old
   walk_at "r"
   refine ⟨Az,fun b hb=>?_⟩
   walk_at "r"
   refine ⟨A4,fun c hc=>?_⟩
   walk_at "r"
   refine ⟨Bh,fun r hr'=>?_⟩
   exact old H1 1 [0,0] [] s1 rfl b hb c hc r hr'
  have c1:¬ w = "less" := fun e=>c (decide_eq_true e)
  rw [if_neg c1] at fin
  clear old
  walk_at "r"
  refine ⟨A0,fun p2 h2=>?_⟩
  walk_at "r"
  have s2:=s1.put (o:=.tup [.str "any"]) h2
  have ea2:=s2 _ _ ea
  refine ⟨a,.ref p2,us,rfl,ea2,by omega,?_⟩
  have S2:=ShG.snoc (K:=K) (s:=.any) ea2 (ala.mono (ShE.same s2.t)) (SqT.of Ac)
  have b2:Bt a H (upd (upd H1 p2 (.tup [.str "any"])) a (.lst (us++[.ref p2]))):=(Hm s2 a).trans Bt.upd
  have ea3:upd (upd H1 p2 (.tup [.str "any"])) a (.lst (us++[.ref p2])) a=some (.lst (us++[.ref p2])):=Ac
  revert S2 b2 ea3
  generalize upd (upd H1 p2 (.tup [.str "any"])) a (.lst (us++[.ref p2]))=H2
  intro S2 b2 ea3
  rw [la]
  walk_at "r"
  rw [Ei]
  refine Ce (fun c=>?_) (fun c=>?_)
  ·have c:=of_decide_eq_true c
   rw [if_pos c] at fin
   walk_at "r"
   refine ⟨Bh,fun b hb=>?_⟩
   walk_at "r"
   refine ⟨A4,fun c hc=>?_⟩
   walk_at "r"
   refine ⟨Bh,fun r hr'=>?_⟩
   exact fin H2 sh.length [1,sh.length,sh.length] [] [.any] _ b2 ea3 S2 rfl b hb c hc r hr'
  have c1:¬ w = "if" := fun e=>c (decide_eq_true e)
  rw [if_neg c1] at fin
  walk_at "r"
  refine ⟨Bh,fun p3 h3=>?_⟩
  refine Zao (.inr (SqT.of Ac)) rfl rfl ?_
  rw [if_neg O6,in3]
  have s3:=Same.upd (o:=.tup [.str "gap",.str "odd",.str "name"]) h3
  have S3:=S2.same s3
  have b3:=b2.trans (Hm s3 a)
  have ea4:=s3 _ _ ea3
  revert S3 b3 ea4
  generalize upd H2 p3 (.tup [.str "gap",.str "odd",.str "name"])=H3
  intro S3 b3 ea4
  walk_at "r"
  refine Ce (fun c=>?_) (fun c=>?_)
  ·have c:=of_decide_eq_true c
   rw [if_pos c] at fin
   walk_at "r"
   refine ⟨A4,fun b hb=>?_⟩
   walk_at "r"
   refine ⟨A4,fun c hc=>?_⟩
   walk_at "r"
   refine ⟨Bh,fun r hr'=>?_⟩
   exact fin H3 sh.length [] [] [.any] _ b3 ea4 S3 rfl b hb c hc r hr'
  have c1:¬ (w = "gap" \/ w = "odd" \/ w = "name"):=fun e=>c (decide_eq_true e)
  rw [if_neg c1] at fin
  walk_at "r"
  refine ⟨A0,fun p4 h4=>?_⟩
  have s4:=Same.upd (o:=.tup [.str "any"]) h4
  walk_at "r"
  obtain ⟨us3,ea3',al3⟩:=S3.ex
  rw [ea4] at ea3'
  cases ea3'
  have l3:(us++[V.ref p2]).length=sh.length+1:=by rw [O4,la];rfl
  refine ⟨a,.ref p4,_,rfl,s4 _ _ ea4,by omega,?_⟩
  have S4:=ShG.snoc (K:=K) (s:=.any) (s4 _ _ ea4) (al3.mono (ShE.same s4.t)) (SqT.of Ac)
  have b4:Bt a H (upd (upd H3 p4 (.tup [.str "any"])) a (.lst (us++[.ref p2]++[.ref p4]))):=(b3.trans (Hm s4 a)).trans Bt.upd
  have ea5:upd (upd H3 p4 (.tup [.str "any"])) a (.lst (us++[.ref p2]++[.ref p4])) a=some (.lst (us++[.ref p2]++[.ref p4])):=Ac
  revert S4 b4 ea5
  generalize upd (upd H3 p4 (.tup [.str "any"])) a (.lst (us++[.ref p2]++[.ref p4]))=H4
  intro S4 b4 ea5
  rw [l3]
  rw [Qn] at S4
  walk_at "r"
  rw [Ei]
  refine Ce (fun c=>?_) (fun c=>?_)
  ·have c:=of_decide_eq_true c
   rw [if_pos c] at fin
   walk_at "r"
   refine ⟨Az,fun b hb=>?_⟩
   walk_at "r"
   refine ⟨A0,fun c hc=>?_⟩
   walk_at "r"
   refine ⟨Bh,fun r hr'=>?_⟩
   exact fin H4 (sh.length+1) [sh.length,sh.length+1] [sh.length] [.any,.any] _ b4 ea5 S4 rfl b hb c hc r hr'
  have c1:¬ w = "let" := fun e=>c (decide_eq_true e)
  rw [if_neg c1] at fin
  walk_at "r"
  refine ⟨Bh,fun p6 h6=>?_⟩
  have s6:=Same.upd (o:=.tup [.str "to",.int (sh.length:Nat),.int (sh.length+1:Nat)]) h6
  walk_at "r"
  obtain ⟨us5,ea5',al5⟩:=S4.ex
  rw [ea5] at ea5'
  cases ea5'
  have l5:(us++[V.ref p2]++[V.ref p4]).length=sh.length+2:=by rw [O4,l3];rfl
  refine ⟨a,.ref p6,_,rfl,s6 _ _ ea5,by omega,?_⟩
  have S6:=ShG.snoc (K:=K) (s:=.to sh.length (sh.length+1)) (s6 _ _ ea5) (al5.mono (ShE.same s6.t)) (SqT.of Ac)
  have b6:Bt a H (upd (upd H4 p6 (.tup [.str "to",.int (sh.length:Nat),.int (sh.length+1:Nat)])) a (.lst (us++[.ref p2]++[.ref p4]++[.ref p6]))):=(b4.trans (Hm s6 a)).trans Bt.upd
  have ea7:upd (upd H4 p6 (.tup [.str "to",.int (sh.length:Nat),.int (sh.length+1:Nat)])) a (.lst (us++[.ref p2]++[.ref p4]++[.ref p6])) a=some (.lst (us++[.ref p2]++[.ref p4]++[.ref p6])):=Ac
  revert S6 b6 ea7
  generalize upd (upd H4 p6 (.tup [.str "to",.int (sh.length:Nat),.int (sh.length+1:Nat)])) a (.lst (us++[.ref p2]++[.ref p4]++[.ref p6]))=H6
  intro S6 b6 ea7
  rw [l5]
  rw [Qn] at S6
  walk_at "r"
  rw [Ei]
  refine Ce (fun c=>?_) (fun c=>?_)
  ·have c:=of_decide_eq_true c
   rw [if_pos c] at fin
   walk_at "r"
   refine ⟨A0,fun b hb=>?_⟩
   walk_at "r"
   refine ⟨A0,fun c hc=>?_⟩
   walk_at "r"
   refine ⟨Bh,fun r hr'=>?_⟩
   exact fin H6 (sh.length+2) [sh.length+1] [sh.length] [.any,.any,.to sh.length (sh.length+1)] _ b6 ea7 S6 rfl b hb c hc r hr'
  have c1:¬ w = "fn" := fun e=>c (decide_eq_true e)
  rw [if_neg c1] at fin
  walk_at "r"
  rw [Ei]
  refine Ce (fun c=>?_) (fun c=>?_)
  ·have c:=of_decide_eq_true c
   rw [if_pos c] at fin
   walk_at "r"
   refine ⟨A0,fun b hb=>?_⟩
   walk_at "r"
   refine ⟨Az,fun c hc=>?_⟩
   walk_at "r"
   refine ⟨Bh,fun r hr'=>?_⟩
   exact fin H6 (sh.length+2) [sh.length+1] [sh.length+2,sh.length] [.any,.any,.to sh.length (sh.length+1)] _ b6 ea7 S6 rfl b hb c hc r hr'
  have c1:¬ w = "rec" := fun e=>c (decide_eq_true e)
  rw [if_neg c1] at fin
  walk_at "r"
  refine ⟨Az,fun b hb=>?_⟩
  walk_at "r"
  refine ⟨A4,fun c hc=>?_⟩
  walk_at "r"
  refine ⟨Bh,fun r hr'=>?_⟩
  exact fin H6 (sh.length+1) [sh.length+2,sh.length] [] [.any,.any,.to sh.length (sh.length+1)] _ b6 ea7 S6 rfl b hb c hc r hr'
noncomputable abbrev Ev:=Str->Option Nat
noncomputable def B7 (e:Ev)(ns:List Str)(ks:List Nat):Ev:=(ns.zip ks).foldl (fun e p=>fun s=>if s=p.1 then some p.2 else e s) e
noncomputable def DcS (kvs:List (Aq×V))(e:Ev):Prop:=∀ s:Str,Bk kvs (.inr s)=(e s).map fun n=>V.int ((n:Nat):Int)
theorem DcS.put {kvs:List (Aq×V)}{e:Ev}(h:DcS kvs e)(s:Str)(n:Nat):DcS (Bc kvs (.inr s) (.int (n:Nat))) (fun t=>if t=s then some n else e t):=fun t=>by
 rw [Ic]
 show _=Option.map _ (if t=s then some n else e t)
 by_cases ht:t=s
 ·rw [if_pos (by rw [ht]),if_pos ht]
  rfl
 ·rw [if_neg fun z=>ht (Sum.inr.inj z),if_neg ht]
  exact h t
structure EvAt (H:Hp)(a:Addr)(e:Ev)(m:Nat):Prop where
 ex:∃ kvs,H a=some (.dK kvs)/\DcS kvs e/\kvs.length<=m
theorem EvAt.same {H H':Hp}{a:Addr}{e:Ev}{m:Nat}(h:EvAt H a e m)(s:Same H H'):EvAt H' a e m:=let ⟨kvs,h1,h2,h3⟩:=h.ex;⟨kvs,s _ _ h1,h2,h3⟩
noncomputable def Zbz (K:Os):Sp:=fun vs H Q _=>∃(a n k:Addr)(e:Ev)(ns:List Str)(ks:List Nat)(m:Nat),vs=[.ref a,.ref n,.ref k]/\EvAt H a e m/\m<=5000/\H n=some (.lst (ns.map V.str))/\H k=some (.lst (Am ks))/\ns.length<=2/\∀ p H',Same H H'->H p=none->EvAt H' p (B7 e ns ks) (m+2)->Q (.ref p) H'
theorem Znf {e:Ev}{ns:List Str}{ks:List Nat}{i:Nat}{s:Str}{n:Nat}(h1:ns[i]?=some s)(h2:ks[i]?=some n):B7 e (ns.take (i+1)) (ks.take (i+1))=fun t=>if t=s then some n else B7 e (ns.take i) (ks.take i) t:=by
 unfold B7
 have hz:(ns.take (i+1)).zip (ks.take (i+1))=(ns.take i).zip (ks.take i)++[(s,n)]:=by
  rw [Qd,Qd,h1,h2]
  have l1:=(O2.mp h1).1
  have l2:=(O2.mp h2).1
  exact List.zip_append (by rw [Pg,Pg];omega)
 rw [hz,Uz]
 rfl
theorem Zdy:∀(ns:List Str)(ks:List Nat),(ns.take (min ns.length ks.length)).zip (ks.take (min ns.length ks.length))=ns.zip ks
 | [],_=>by simp
 | _::_,[]=>by simp
 | a::r,b::s=>by
  have:=Zdy r s
  rw [O3,O3,show min (r.length+1) (s.length+1)=min r.length s.length+1 by omega,List.take_succ_cons,List.take_succ_cons,List.zip_cons_cons,List.zip_cons_cons,this]
theorem Zow (e:Ev)(ns:List Str)(ks:List Nat):B7 e (ns.take (min ns.length ks.length)) (ks.take (min ns.length ks.length))=B7 e ns ks:=by
 unfold B7
 rw [Zdy]
theorem sc_with_names:Bm ["around", "names", "kinds", "made", "name", "kind"] ["around", "names", "kinds"] (Be Ip):=by walk_at "sc"
theorem Zh6 {f:Addr}{fd:FuncData}(F:Fun K "with_names" "with_names" Ip f fd)(T:Txt K mg):A9 P w K mg base Bd 1 f fd ["around", "names", "kinds"] (Zbz K):=by
 refine F.okq sc_with_names (fun vs H Q E h=>?_) (fun cdv A outer s H vs Q E hr h=>?_)
 ·obtain ⟨a,n,k,e,ns,ks,m,rfl,_⟩:=h
  rfl
 ·obtain ⟨a,n,k,e,ns,ks,m,rfl,he,hm,hn,hk,hl,q⟩:=h
  refine ⟨_,Ag (Ar 3 sc_with_names (Fd Zp7 (by rfl) T.dict (by decide +kernel) (Aa (qv 0) Ab)))
   (Ag (Cu Pi rfl (Zmw K rfl T.zip (Aa (qv 1) (Aa (qv 2) Ab))) (Da K (n:=2) rfl (Bx (A6 (i:=4) sc_with_names.nd rfl (Or.inl rfl)) (Bx (A6 (i:=5) sc_with_names.nd rfl (Or.inl rfl)) (C7)))) (Ak (F1 hr.u1 (qv 3) (qv 4) (qv 5))))
   (Ak (Ax (qv 3)))),?_⟩
  have bg:=big
  obtain ⟨kvs,ea,dc,kl⟩:=he.ex
  walk_at "r"
  refine ⟨a,kvs,rfl,ea,fun p hp=>?_⟩
  have s1:=Same.upd (o:=.dK kvs) hp
  walk_at "r"
  refine ⟨n,k,_,_,rfl,SqL.of (s1 _ _ hn),SqL.of (s1 _ _ hk),?_⟩
  refine Znl (K:=K) (a:=n) (b:=k) (xs:=ns.map V.str) (ys:=Am ks) (fun i σ' H'=>∃ v4 v5 kv,σ'=[some (.ref a),some (.ref n),some (.ref k),some (.ref p),v4,v5]/\H' p=some (.dK kv)/\DcS kv (B7 e (ns.take i) (ks.take i))/\kv.length<=m+i/\Same H H')
   ⟨_,_,kvs,rfl,Ac,dc,kl,s1⟩ ?_ ?_ ?_
  ·rintro i σ' H' _ ⟨_,_,_,_,_,_,_,sm⟩
   exact ⟨SqL.of (sm _ _ hn),SqL.of (sm _ _ hk)⟩
  ·rintro i x y t σ' H' hx hy ht ⟨v4,v5,kv,rfl,ep,dcv,lv,sm⟩
   have hi:i < ns.length:=by have:=(O2.mp hx).1;rwa [O0] at this
   have hik:i < ks.length:=by have:=(O2.mp hy).1;unfold Am at this;rwa [O0] at this
   have hxv:x=.str ns[i]:=by rw [Pk,Ou hi] at hx;exact (Pb hx).symm
   have hyv:y=.int ((ks[i]:Nat):Int):=by unfold Am at hy;rw [Pk,Ou hik] at hy;exact (Pb hy).symm
   subst hxv hyv
   have s2:=Same.upd (o:=.tup [.str ns[i],.int ((ks[i]:Nat):Int)]) ht
   refine C3 (SqT.of Ac) rfl ?_
   walk_at "r"
   refine ⟨p,_,rfl,DPut.k (k:=.inr ns[i]) (s2 _ _ ep) (by omega),?_⟩
   have hl2:=Dv kv (.inr ns[i]) (.int ((ks[i]:Nat):Int))
   refine ⟨_,_,_,rfl,Ac,?_,by omega,(sm.trans s2).over hp⟩
   rw [Znf (Ou hi) (Ou hik)]
   exact dcv.put _ _
  ·rintro σ' H' ⟨v4,v5,kv,rfl,ep,dcv,lv,sm⟩
   have e1:min (ns.map V.str).length (Am ks).length=min ns.length ks.length:=by unfold Am;rw [O0,O0]
   rw [e1] at dcv lv
   rw [Zow] at dcv
   walk_at "r"
   exact q p H' sm hp ⟨kv,ep,dcv,by omega⟩
end
end K30
namespace K19
open PySem L2
noncomputable def De (w:Str)(n:Dt):Prop:=(w = "fn" \/ w = "let" \/ w = "name" -> ∃ t:Str,n=.flat (.str t))/\(w = "rec" -> ∃ t u:Str,n=.tup [.flat (.str t),.flat (.str u)])
inductive B8:Tr->Prop where
 | mk {w:Str} {n:Dt} {ts:List Tr} (h:De w n) (hs:∀ t∈ts,B8 t):B8 (.mk w n ts)
theorem Zim {w:Str}{n:Dt}(h1:w ≠ "fn")(h2:w ≠ "let")(h3:w ≠ "name")(h4:w ≠ "rec"):De w n:=⟨fun h=>by rcases h with h | h | h <;> contradiction,fun h=>absurd h h4⟩
inductive Sub:Tr->List Nat->Prop where
 | nil (t:Tr):Sub t []
 | cons {w:Str} {n:Dt} {ts:List Tr} {j:Nat} {t:Tr} {r:List Nat} (h:ts[j]?=some t) (s:Sub t r):Sub (.mk w n ts) (j::r)
mutual
theorem M0:∀(t:Tr)(x:List Nat×Tr),x∈walk [] t->Sub t x.1
 | .mk w n ps,x,h=>by
  rw [walk] at h
  rcases O1.mp h with rfl | h
  ·exact .nil _
  ·obtain ⟨j,t,r,e1,e2,e3⟩:=Zdm 0 ps x h
   rw [e2,T8]
   exact .cons e1 e3
theorem Zdm:∀(i:Nat)(ts:List Tr)(x:List Nat×Tr),x∈B9 [] i ts->∃(j:Nat)(t:Tr)(r:List Nat),ts[j]?=some t/\x.1=(i+j)::r/\Sub t r
 | _,[],x,h=>by rw [B9] at h;cases h
 | i,t::q,x,h=>by
  rw [B9] at h
  rcases Qt.mp h with h | h
  ·rw [M7] at h
   obtain ⟨y,hy,rfl⟩:=Sl.mp h
   exact ⟨0,t,y.1,rfl,rfl,M0 t y hy⟩
  ·obtain ⟨j,t',r,e1,e2,e3⟩:=Zdm (i+1) q x h
   exact ⟨j+1,t',r,by simpa using e1,by rw [e2];congr 1;omega,e3⟩
end
noncomputable def Cd:Tr->List Nat->List Tr
 | t,[]=>[t]
 | .mk w n ps,k::r=>.mk w n ps::(match ps[k]? with | some u=>Cd u r | none=>[])
theorem Ks {w:Str}{n:Dt}{ts:List Tr}{j:Nat}{t:Tr}{r:List Nat}(h:ts[j]?=some t):Cd (.mk w n ts) (j::r)=.mk w n ts::Cd t r:=by rw [Cd,h]
theorem Kb {t:Tr}{pl:List Nat}(s:Sub t pl):(Cd t pl).length=pl.length+1:=by
 induction s with
 | nil t=>cases t;rfl
 | cons h _ ih=>rw [Ks h,O3,ih,O3]
theorem Ze9 (t:Tr)(pl:List Nat):(Cd t pl)[0]?=some t:=by
 cases t with
 | mk w n ps=>cases pl <;> rfl
theorem Zes {t:Tr}{pl:List Nat}(s:Sub t pl):∀(i:Nat)(k:Nat),pl[i]?=some k->∃ w n ps u,(Cd t pl)[i]?=some (.mk w n ps)/\ps[k]?=some u/\(Cd t pl)[i+1]?=some u:=by
 induction s with
 | nil t=>intro i k h;simp at h
 | @cons w n ts j u r h s ih =>
  intro i k hk
  rw [Ks h]
  cases i with
  | zero =>
   have:j=k:=by simpa using hk
   subst this
   exact ⟨w,n,ts,u,rfl,h,by simpa using Ze9 u r⟩
  | succ i =>
   obtain ⟨w',n',ps,u',a,b,c⟩:=ih i k (by simpa using hk)
   exact ⟨w',n',ps,u',by simpa using a,b,by simpa using c⟩
theorem Zg3 {t:Tr}{pl:List Nat}(s:Sub t pl)(h:B8 t):∀ u∈Cd t pl,B8 u:=by
 induction s with
 | nil t=>intro u hu;cases t;rw [Cd,Pr] at hu;rw [hu];exact h
 | cons hj _ ih =>
  cases h with
  | mk h1 hs =>
   intro u hu
   rw [Ks hj] at hu
   rcases O1.mp hu with rfl | hu
   ·exact .mk h1 hs
   ·exact ih (hs _ (P4 hj)) u hu
noncomputable def He:Dt->List Str
 | .flat (.str t)=>[t]
 | _=>[]
noncomputable def Jr:Dt->List Str
 | .tup [.flat (.str t),.flat (.str u)]=>[t,u]
 | _=>[]
noncomputable def nb (w:Str)(n:Dt)(k:Nat):List Str:=if w = "fn" then He n else if w = "rec" then Jr n else if w = "let" /\ k=1 then He n else []
noncomputable def C4:Tr->List Nat->List (List Str)
 | _,[]=>[]
 | .mk w n ps,k::r=>nb w n k::(match ps[k]? with | some u=>C4 u r | none=>[])
theorem Nw {w:Str}{n:Dt}{ts:List Tr}{j:Nat}{t:Tr}{r:List Nat}(h:ts[j]?=some t):C4 (.mk w n ts) (j::r)=nb w n j::C4 t r:=by rw [C4,h]
theorem Zep {t:Tr}{pl:List Nat}(s:Sub t pl):(C4 t pl).length=pl.length:=by
 induction s with
 | nil t=>cases t;rfl
 | cons h _ ih=>rw [Nw h,O3,ih,O3]
theorem Zf7 {t:Tr}{pl:List Nat}(s:Sub t pl):∀(i k:Nat)(w:Str)(n:Dt)(ps:List Tr),pl[i]?=some k->(Cd t pl)[i]?=some (.mk w n ps)->(C4 t pl)[i]?=some (nb w n k):=by
 induction s with
 | nil t=>intro i k w n ps h;simp at h
 | @cons w n ts j u r h s ih =>
  intro i k w' n' ps hk hp
  rw [Ks h] at hp
  rw [Nw h]
  cases i with
  | zero =>
   have e1:j=k:=by simpa using hk
   have e2:Tr.mk w n ts=Tr.mk w' n' ps:=by simpa using hp
   cases e2
   subst e1
   rfl
  | succ i=>simpa using ih i k w' n' ps (by simpa using hk) (by simpa using hp)
noncomputable def Cr (d:Nat):List (List Str)->List (Str×Nat)
 | []=>[]
 | l::r=>l.map (fun x=>(x,d))++Cr (d+1) r
theorem Zee:∀(d:Nat)(a b:List (List Str)),Cr d (a++b)=Cr d a++Cr (d+a.length) b
 | d,[],b=>by simp [Cr]
 | d,l::r,b=>by
  rw [Tk,Cr,Cr,Zee,Qn,O3]
  congr 3
  omega
theorem Zcy:∀(d:Nat)(ls:List (List Str)),(Cr d ls).map (·.1)=ls.flatten
 | _,[]=>rfl
 | d,l::r=>by
  rw [Cr,Qb,Zcy,R9,T7]
  congr 1
  exact List.map_id l
noncomputable def bn (t:Tr)(pl:List Nat):List (Str×Nat):=Cr 0 (C4 t pl)
noncomputable def Cg (t:Tr)(pl:List Nat):List Str:=(C4 t pl).flatten
theorem Znu (t:Tr)(pl:List Nat):(bn t pl).map (·.1)=Cg t pl:=Zcy 0 _
noncomputable def Bw (x:Str):Nat->List Str->Option Nat
 | _,[]=>none
 | d,y::r=>match Bw x (d+1) r with
  | some k=>some k
  | none=>if y=x then some d else none
theorem Zew (x:Str):∀(d:Nat)(a b:List Str),Bw x d (a++b)=match Bw x (d+a.length) b with | some k=>some k | none=>Bw x d a
 | d,[],b=>by
  rw [List.nil_append,Tv,Nat.add_zero]
  cases Bw x d b <;> rfl
 | d,y::r,b=>by
  rw [Tk,Bw,Zew,O3,show d+1+r.length=d+(r.length+1) by omega]
  cases Bw x (d+(r.length+1)) b with
  | some k=>rfl
  | none=>rfl
theorem Zkw (x y:Str)(d:Nat)(a:List Str):Bw x d (a++[y])=if y=x then some (d+a.length) else Bw x d a:=by
 rw [Zew,Bw,Bw]
 by_cases h:y=x
 ·rw [if_pos h,if_pos h]
 ·rw [if_neg h,if_neg h]
end K19
namespace K30
open PySem L2 K19
section
variable {P:Program}{w:World}{K:Os}{mg:Str->Option Value}{base:Heap}
noncomputable def Zav (K:Os):Sp:=fun vs H Q _=>∃(v:V)(w:Str)(n:Dt)(ps:List Tr)(k:Nat),vs=[v,.int (k:Nat)]/\TrAt K H v (.mk w n ps)/\De w n /\
 ∀(q:Addr)(H':Hp),H q=none->Same H H'->H' q=some (.lst ((nb w n k).map V.str))->Q (.ref q) H'
theorem Fk {x y:Str}:decide (V.str x=V.str y)=decide (x=y):=by
 by_cases h:x=y
 ·subst h;simp
 ·rw [decide_eq_false h,decide_eq_false (fun e=>h (by injection e))]
theorem Ma {H:Hp}{nv:V}{t:Str}(h:IsN K H nv (.flat (.str t))):nv=.str t:=by
 rcases h with ⟨_,e⟩ | ⟨a,vs,_,_,_,e⟩
 ·injection e with e
  exact e.symm
 ·cases e
theorem Zom {H:Hp}{nv:V}{t u:Str}(h:IsN K H nv (.tup [.flat (.str t),.flat (.str u)])):∃ a,nv=.ref a/\SqT K H a [.str t,.str u]:=by
 rcases h with ⟨_,e⟩ | ⟨a,vs,e1,q,_,e⟩
 ·cases e
 ·injection e with e
  obtain ⟨x,y,rfl⟩:=lz2 (vs:=vs) (by first | exact e | (have:=congrArg T9 e;rw [O0] at this;exact this.symm))
  simp only [Ql,List.map_nil,List.cons.injEq,Dt.flat.injEq,and_true] at e
  obtain ⟨rfl,rfl⟩:=e
  exact ⟨a,e1,q⟩
theorem Zg6:Bm ["form", "number"] ["form", "number"] (Be Ki):=by walk_at "sc"
theorem Zga {f:Addr}{fd:FuncData}(F:Fun K "names_bound" "names_bound" Ki f fd)(T:Txt K mg):A9 P w K mg base Bd 1 f fd ["form", "number"] (Zav K):=by
 refine F.okq Zg6 (fun vs H Q E h=>?_) (fun cdv A outer s H vs Q E hr h=>?_)
 ·obtain ⟨v,w,n,ps,k,rfl,_⟩:=h
  rfl
 ·obtain ⟨v,w,n,ps,k,rfl,ht,hsh,q⟩:=h
  refine ⟨_,Ag (Bf (Bv (B2 K hr.u200) (Ap K (qv 0) Af) Ah (Br _)) (Ak (Ax (Av (Aa (Ap K (qv 0) Af) Ab)))) Bj)
   (Ag (Bf (Bv (B2 K hr.u200) (Ap K (qv 0) Af) Ah (Br _)) (Ak (Ax (Fd (N5 K) (by rfl) T.list (by decide +kernel) (Aa (Ap K (qv 0) Af) Ab)))) Bj)
   (Ag (Bf (QW.qt (Zap (Bv (B2 K hr.u200) (Ap K (qv 0) Af) Ah (Br _)) (Nu (Bv (B2 K hr.u200) (qv 1) Af (Br _))))) (Ak (Ax (Av (Aa (Ap K (qv 0) Af) Ab)))) Bj)
   (Ak (Ax (Av Ab))))),?_⟩
  cases ht with
  | @mk b pp _ nv _ us _ qb hn qp l hch =>
  walk_at "r"
  refine A2 qb rfl ?_
  walk_at "r"
  rw [Fk]
  refine Ce (fun c=>?_) (fun c=>?_)
  ·have c:=of_decide_eq_true c
   obtain ⟨t,rfl⟩:=hsh.1 (.inl c)
   have:=Ma hn
   subst this
   walk_at "r"
   refine A2 qb rfl ?_
   walk_at "r"
   refine ⟨A0,fun p hp=>?_⟩
   refine q p _ hp (Same.upd hp) ?_
   rw [Ac,nb,if_pos c]
   rfl
  have c1:¬ w = "fn" := fun e=>c (decide_eq_true e)
  walk_at "r"
  refine A2 qb rfl ?_
  walk_at "r"
  rw [Fk]
  refine Ce (fun c=>?_) (fun c=>?_)
  ·have c:=of_decide_eq_true c
   obtain ⟨t,u,rfl⟩:=hsh.2 c
   obtain ⟨na,rfl,qn⟩:=Zom hn
   walk_at "r"
   refine A2 qb rfl ?_
   walk_at "r"
   refine ⟨na,_,rfl,.inr qn,fun p hp=>?_⟩
   refine q p _ hp (Same.upd hp) ?_
   rw [Ac,nb,if_neg c1,if_pos c]
   rfl
  have c2:¬ w = "rec" := fun e=>c (decide_eq_true e)
  have none:¬ (w = "let" /\ k=1)->∀ p,H p=none->Q (.ref p) (upd H p (.lst [])):=fun h p hp=>by
   refine q p _ hp (Same.upd hp) ?_
   rw [Ac,nb,if_neg c1,if_neg c2,if_neg h]
   rfl
  walk_at "r"
  refine A2 qb rfl ?_
  walk_at "r"
  rw [Fk]
  refine Ce (fun c=>?_) (fun c=>?_)
  ·have c:=of_decide_eq_true c
   walk_at "r"
   refine Ce (fun c3=>?_) (fun c3=>?_)
   ·have c3:k=1:=by
     have:(k:Int)=1:=by simpa using c3
     omega
    obtain ⟨t,rfl⟩:=hsh.1 (.inr (.inl c))
    have:=Ma hn
    subst this
    walk_at "r"
    refine A2 qb rfl ?_
    walk_at "r"
    refine ⟨A0,fun p hp=>?_⟩
    refine q p _ hp (Same.upd hp) ?_
    rw [Ac,nb,if_neg c1,if_neg c2,if_pos ⟨c,c3⟩]
    rfl
   ·walk_at "r"
    refine ⟨A4,fun p hp=>none (fun e=>c3 ?_) p hp⟩
    rw [e.2]
    decide
  ·walk_at "r"
   refine ⟨A4,fun p hp=>none (fun e=>c (decide_eq_true e.1)) p hp⟩
noncomputable def Gy:Dt->Str
 | .flat (.str t)=>t
 | _ => ""
noncomputable abbrev An:=List Nat->Option Ev
noncomputable def G9 (A:An)(pl:List Nat)(f:Nat->Ev):Nat->An
 | 0=>A
 | m+1=>fun q=>if q=pl++[m] then some (f m) else G9 A pl f m q
noncomputable abbrev Dn:=List Nat->Option Nat
noncomputable def D8 (D:Dn)(pl:List Nat):Nat->List Nat->Dn
 | _,[]=>D
 | i,a::r=>D8 (fun q=>if q=pl++[i] then some a else D q) pl (i+1) r
theorem Zby (pl:List Nat)(a:Nat):∀(xs:List Nat)(D:Dn)(i:Nat),D8 D pl i (xs++[a])=fun q=>if q=pl++[i+xs.length] then some a else D8 D pl i xs q
 | [],D,i=>by simp [D8]
 | x::r,D,i=>by
  rw [Tk,D8,Zby pl a r _ (i+1),D8,O3]
  have:i+1+r.length=i+(r.length+1):=by omega
  rw [this]
theorem Zen (A:An)(pl:List Nat)(f:Nat->Ev):∀ m,G9 A pl f m pl=A pl
 | 0=>rfl
 | m+1=>by
  have h:¬ pl=pl++[m]:=fun e=>by have:=congrArg T9 e;simp at this
  show (if pl=pl++[m] then _ else _)=_
  rw [if_neg h]
  exact Zen A pl f m
theorem nbl3 (w:Str)(n:Dt)(k:Nat):(nb w n k).length<=2:=by
 have h1:(He n).length<=2:=by unfold He;split <;> simp
 have h2:(Jr n).length<=2:=by unfold Jr;split <;> simp
 unfold nb
 split
 ·exact h1
 ·split
  ·exact h2
  ·split
   ·exact h1
   ·simp
noncomputable def D0 (m:Nat)(w:Str)(n:Dt)(e:Ev):Nat:=if w = "name" then (e (Gy n)).getD (B1 m w).1 else (B1 m w).1
inductive KinG:List (List Nat×Tr)->Ao->Dn->An->List (Nat×Nat)->Ao->Prop where
 | nil {sh:Ao} {D:Dn} {A:An}:KinG [] sh D A [] sh
 | cons {pl:List Nat} {w:Str} {n:Dt} {ts:List Tr} {rs:List (List Nat×Tr)} {sh sh':Ao} {D:Dn} {A:An} {e:Ev} {ps:List (Nat×Nat)} (hA:A pl=some e) (hsh:De w n)
   (k:KinG rs (sh++(B1 sh.length w).2.2.2) (D8 D pl 0 (B1 sh.length w).2.1) (G9 A pl (fun j=>B7 e (nb w n j) (B1 sh.length w).2.2.1) (B1 sh.length w).2.1.length) ps sh'):KinG ((pl,.mk w n ts)::rs) sh D A ((D0 sh.length w n e,(D pl).getD (D0 sh.length w n e))::ps) sh'
noncomputable def Ze0 (K:Os):Sp:=fun vs H Q _=>∃(p:Addr)(rows:List V)(rs:List (List Nat×Tr))(ps:List (Nat×Nat))(sh':Ao),vs=[.ref p]/\H p=some (.lst rows)/\Al (RowT K H) rows rs/\rs.length<=40/\(∀ r∈rs,r.1.length<=40)/\KinG rs [.num,.truth] (fun _=>none) (fun q=>if q=[] then some (fun _=>none) else none) ps sh' /\
 ∀ r a b pv H',Same H H'->SqT K H' r [.ref a,.ref b]->ShG K H' a sh'->H' b=some (.lst pv)->Al (PaAt K H') pv ps->Q (.ref r) H'
structure KiF (H:Hp)(a b c d:Addr):Prop where
 ha:H a=none
 hb:H b=none
 hc:H c=none
 hd:H d=none
 ab:a≠b
 cd:c≠d
structure KiJ (K:Os)(H:Hp)(a b c d:Addr)(sh:Ao)(x:Nat)(D:Dn)(E:An)(ps:List (Nat×Nat))(H':Hp):Prop where
 sg:ShG K H' a sh
 pr:∃ pv,H' b=some (.lst pv)/\Al (PaAt K H') pv ps
 ac:∃ kc,H' c=some (.dT kc)/\kc.length<=x/\∀ q,Bk kc (Bl q)=(D q).map fun n=>V.int ((n:Nat):Int)
 ad:∃ kd,H' d=some (.dT kd)/\kd.length<=x+1/\∀ q e,E q=some e->∃ y,Bk kd (Bl q)=some (.ref y)/\EvAt H' y e (2 * q.length)
 sm:Same H H'
theorem Cy {H:Hp}{x y:Addr}{o o':HO}(h:H x=some o)(h':H y=some o')(n:o≠o'):x≠y:=fun z=>by rw [z,h'] at h;exact n (Pb h).symm
theorem SameT.dt {H:Hp}{S:Addr}{kv:List (List Aq×V)}{o2:HO}(h:H S=some (.dT kv)):SameT H (upd H S o2):=fun b =>
 ⟨fun xs e=>by rw [Ai (Cy e h (fun z=>by cases z))];exact e,fun o' u e=>by rw [Ai (Cy e h (fun z=>by cases z))];exact e⟩
theorem EvAt.off {H:Hp}{a S:Addr}{e:Ev}{m:Nat}{o o2:HO}(h:EvAt H a e m)(hs:H S=some o)(n:∀ kv,o≠.dK kv):EvAt (upd H S o2) a e m:=by
 obtain ⟨kvs,h1,h2,h3⟩:=h.ex
 exact ⟨kvs,by rw [Ai (Cy h1 hs (fun z=>n _ z.symm))];exact h1,h2,h3⟩
theorem KiJ.keep {H H1 H2:Hp}{a b c d:Addr}{sh:Ao}{x:Nat}{D:Dn}{E:An}{ps:List (Nat×Nat)}(J:KiJ K H a b c d sh x D E ps H1)(s:Same H1 H2):KiJ K H a b c d sh x D E ps H2:=by
 obtain ⟨pv,e1,al⟩:=J.pr
 obtain ⟨kc,e2,l2,v2⟩:=J.ac
 obtain ⟨kd,e3,l3,v3⟩:=J.ad
 exact ⟨J.sg.same s,⟨pv,s _ _ e1,al.mono (PaAt.same s.t)⟩,⟨kc,s _ _ e2,l2,v2⟩,⟨kd,s _ _ e3,l3,fun q e hq=>let ⟨y,h1,h2⟩:=v3 q e hq;⟨y,h1,h2.same s⟩⟩,J.sm.trans s⟩
theorem KiJ.kind {H H1 H2:Hp}{a b c d:Addr}{sh sh':Ao}{x:Nat}{D:Dn}{E:An}{ps:List (Nat×Nat)}(J:KiJ K H a b c d sh x D E ps H1)(F:KiF H a b c d)(h:Bt a H1 H2)(S:ShG K H2 a sh'):KiJ K H a b c d sh' x D E ps H2:=by
 obtain ⟨pv,e1,al⟩:=J.pr
 obtain ⟨kc,e2,l2,v2⟩:=J.ac
 obtain ⟨kd,e3,l3,v3⟩:=J.ad
 obtain ⟨us,ea,_⟩:=J.sg.ex
 have t:=h.t ea
 refine ⟨S,⟨pv,h _ _ F.ab.symm e1,al.mono (PaAt.same t)⟩,⟨kc,h _ _ (Cy e2 ea (fun z=>by cases z)) e2,l2,v2⟩,⟨kd,h _ _ (Cy e3 ea (fun z=>by cases z)) e3,l3,fun q e hq=>?_⟩,fun y o e=>h y o (fun z=>by rw [z,F.ha] at e;cases e) (J.sm y o e)⟩
 obtain ⟨y,h1,ev⟩:=v3 q e hq
 obtain ⟨kvs,h2,h3,h4⟩:=ev.ex
 exact ⟨y,h1,kvs,h _ _ (Cy h2 ea (fun z=>by cases z)) h2,h3,h4⟩
theorem KiJ.pair {H H1:Hp}{a b c d:Addr}{sh:Ao}{x:Nat}{D:Dn}{E:An}{ps:List (Nat×Nat)}{pv:List V}{v:V}{y:Nat×Nat}(J:KiJ K H a b c d sh x D E ps H1)(F:KiF H a b c d)(eb:H1 b=some (.lst pv))(al:Al (PaAt K H1) pv ps)(hv:PaAt K H1 v y):KiJ K H a b c d sh x D E (ps++[y]) (upd H1 b (.lst (pv++[v]))):=by
 obtain ⟨kc,e2,l2,v2⟩:=J.ac
 obtain ⟨kd,e3,l3,v3⟩:=J.ad
 have t:=SameT.set (o:=.lst (pv++[v])) eb
 refine ⟨J.sg.off F.ab eb,⟨_,Ac,(al.mono (PaAt.same t)).snoc (PaAt.same t _ _ hv)⟩,⟨kc,by rw [Ai (Cy e2 eb (fun z=>by cases z))];exact e2,l2,v2⟩,⟨kd,by rw [Ai (Cy e3 eb (fun z=>by cases z))];exact e3,l3,fun q e hq=>?_⟩,J.sm.over F.hb⟩
 obtain ⟨y,h1,h2⟩:=v3 q e hq
 exact ⟨y,h1,h2.off eb (fun kv z=>by cases z)⟩
theorem Zcv {kv:List (List Aq×V)}{q z:List Nat}{v:V}:Bk (Bc kv (Bl q) v) (Bl z)=if z=q then some v else Bk kv (Bl z):=by
 rw [Ic]
 by_cases h:z=q
 ·rw [if_pos h,if_pos (by rw [h])]
 ·rw [if_neg h,if_neg fun e=>h (Zci e)]
theorem KiJ.ask {H H1:Hp}{a b c d:Addr}{sh:Ao}{x n:Nat}{D:Dn}{E:An}{ps:List (Nat×Nat)}{kc:List (List Aq×V)}{q:List Nat}(J:KiJ K H a b c d sh x D E ps H1)(F:KiF H a b c d)(ec:H1 c=some (.dT kc))(lc:kc.length<=x)(vc:∀ q,Bk kc (Bl q)=(D q).map fun n=>V.int ((n:Nat):Int)):KiJ K H a b c d sh (x+1) (fun z=>if z=q then some n else D z) E ps (upd H1 c (.dT (Bc kc (Bl q) (.int (n:Nat))))):=by
 obtain ⟨pv,e1,al⟩:=J.pr
 obtain ⟨kd,e3,l3,v3⟩:=J.ad
 obtain ⟨us,ea,ala⟩:=J.sg.ex
 have t:=SameT.dt (o2:=.dT (Bc kc (Bl q) (.int (n:Nat)))) ec
 refine ⟨⟨us,by rw [Ai (Cy ea ec (fun z=>by cases z))];exact ea,ala.mono (ShE.same t)⟩,⟨pv,by rw [Ai (Cy e1 ec (fun z=>by cases z))];exact e1,al.mono (PaAt.same t)⟩,⟨_,Ac,?_,fun z=>?_⟩,⟨kd,by rw [Ai F.cd.symm];exact e3,by omega,fun q e hq=>?_⟩,J.sm.over F.hc⟩
 ·have:=Dv kc (Bl q) (.int (n:Nat))
  omega
 ·rw [Zcv,vc z]
  split <;> rfl
 ·obtain ⟨y,h1,h2⟩:=v3 q e hq
  exact ⟨y,h1,h2.off ec (fun kv z=>by cases z)⟩
theorem KiJ.name {H H1:Hp}{a b c d y:Addr}{sh:Ao}{x:Nat}{D:Dn}{E:An}{ps:List (Nat×Nat)}{kd:List (List Aq×V)}{q:List Nat}{e:Ev}(J:KiJ K H a b c d sh (x+1) D E ps H1)(F:KiF H a b c d)(ed:H1 d=some (.dT kd))(ld:kd.length<=x+1)(vd:∀ q e,E q=some e->∃ y,Bk kd (Bl q)=some (.ref y)/\EvAt H1 y e (2 * q.length))(he:EvAt H1 y e (2 * q.length)):KiJ K H a b c d sh (x+1) D (fun z=>if z=q then some e else E z) ps (upd H1 d (.dT (Bc kd (Bl q) (.ref y)))):=by
 obtain ⟨pv,e1,al⟩:=J.pr
 obtain ⟨kc,e2,l2,v2⟩:=J.ac
 obtain ⟨us,ea,ala⟩:=J.sg.ex
 have t:=SameT.dt (o2:=.dT (Bc kd (Bl q) (.ref y))) ed
 refine ⟨⟨us,by rw [Ai (Cy ea ed (fun z=>by cases z))];exact ea,ala.mono (ShE.same t)⟩,⟨pv,by rw [Ai (Cy e1 ed (fun z=>by cases z))];exact e1,al.mono (PaAt.same t)⟩,⟨kc,by rw [Ai F.cd];exact e2,l2,v2⟩,⟨_,Ac,?_,fun z e' hz=>?_⟩,J.sm.over F.hd⟩
 ·have:=Dv kd (Bl q) (.ref y)
  omega
 ·rw [Zcv]
  have hz:(if z=q then some e else E z)=some e':=hz
  by_cases h:z=q
  ·rw [if_pos h] at hz ⊢
   cases hz
   exact ⟨y,rfl,by rw [h];exact he.off ed (fun kv z=>by cases z)⟩
  ·rw [if_neg h] at hz ⊢
   obtain ⟨y',h1,h2⟩:=vd z e' hz
   exact ⟨y',h1,h2.off ed (fun kv z=>by cases z)⟩
theorem KiJ.imp {H H1:Hp}{a b c d:Addr}{sh:Ao}{x x':Nat}{D D':Dn}{E E':An}{ps:List (Nat×Nat)}(J:KiJ K H a b c d sh x D E ps H1)(hx:x<=x')(hD:D=D')(hE:∀ q e,E' q=some e->E q=some e):KiJ K H a b c d sh x' D' E' ps H1:=by
 subst hD
 obtain ⟨kc,e2,l2,v2⟩:=J.ac
 obtain ⟨kd,e3,l3,v3⟩:=J.ad
 exact ⟨J.sg,J.pr,⟨kc,e2,by omega,v2⟩,⟨kd,e3,by omega,fun q e hq=>v3 q e (hE q e hq)⟩,J.sm⟩
theorem Zg2 (m:Nat)(w:Str):(B1 m w).2.1.length<=3/\(B1 m w).2.2.2.length<=3:=by
 unfold B1
 repeat (first | split | exact ⟨by decide,by decide⟩ | (constructor <;> simp))
theorem Zpm (pl:List Nat)(j:Nat):Bg (pl++[j])=Bg pl++[.int ((j:Nat):Int)]:=by unfold Bg;rw [Qb];rfl
theorem sc_kinds_in:Bm ["placed", "shapes", "pairs", "asked_at", "around_at", "place", "form", "given", "asked", "bound", "number", "kind", "part"] ["placed"] (Be Hx):=by walk_at "sc"
theorem Zhc {f:Addr}{fd:FuncData}(F:Fun K "kinds_in" "kinds_in" Hx f fd)(T:Txt K mg){fs s0 s1:Addr}(G_FIRST_SHAPES:Ep mg "FIRST_SHAPES" (.ref fs))(hfs:∀ H,SqT K H fs [.ref s0,.ref s1])(hs0:∀ H,SqT K H s0 [.str "num"])(hs1:∀ H,SqT K H s1 [.str "truth"])
  (C_kinds_of_word:Ba P w K mg base 2 "kinds_of_word" ["shapes", "word"] (Zbe K)) (C_with_names:Ba P w K mg base 1 "with_names" ["around", "names", "kinds"] (Zbz K)) (C_names_bound:Ba P w K mg base 1 "names_bound" ["form", "number"] (Zav K)):A9 P w K mg base Bd 3 f fd ["placed"] (Ze0 K):=by
 refine F.okq sc_kinds_in (fun vs H Q E h=>?_) (fun cdv A outer s H vs Q E hr h=>?_)
 ·obtain ⟨p,rows,rs,ps,sh',rfl,_⟩:=h
  rfl
 ·obtain ⟨p,rows,rs,ps,sh',rfl,ep,al,hl,hpl,hK,q⟩:=h
  refine ⟨_,Ag (Ar 1 sc_kinds_in (Fd (N5 K) (by rfl) T.list (by decide +kernel) (Aa (D4 G_FIRST_SHAPES) Ab)))
   (Ag (Ar 2 sc_kinds_in (Av Ab))
   (Ag (Ar 3 sc_kinds_in (Zix))
   (Ag (Ar 4 sc_kinds_in (Zo4 hr.u1 (Ad Ab) (M5)))
   (Ag (Cu Pi rfl (Db K (qv 0)) (Da K (n:=2) rfl (Bx (A6 (i:=5) sc_kinds_in.nd rfl (Or.inl rfl)) (Bx (A6 (i:=6) sc_kinds_in.nd rfl (Or.inl rfl)) (C7)))) (Ag (Ia (As C_kinds_of_word hr.m (Aa (qv 1) (Aa (Ap K (qv 6) Af) Ab))) (Da K (n:=3) rfl (Bx (A6 (i:=7) sc_kinds_in.nd rfl (Or.inl rfl)) (Bx (A6 (i:=8) sc_kinds_in.nd rfl (Or.inl rfl)) (Bx (A6 (i:=9) sc_kinds_in.nd rfl (Or.inl rfl)) (C7))))))
   (Ag (Bf (Bv (B2 K hr.u200) (Ap K (qv 6) Af) Ah (Br _)) (Ak (Ar 7 sc_kinds_in (Zb4 hr.u1 (Jl hr.u1 (qv 4) (qv 5) (fun _ _=>rfl)) (Ap K (qv 6) Af) (qv 7)))) Bj)
   (Ag (Cw (Dk K Pl P7 P8 Dl (qv 2) (Aa (Ad (Aa (qv 7) (Aa (Zb4 hr.u1 (qv 3) (qv 5) (qv 7)) Ab))) Ab)))
   (Ak (Cu Pi rfl (La K rfl T.enumerate (Aa (qv 8) Ab)) (Da K (n:=2) rfl (Bx (A6 (i:=10) sc_kinds_in.nd rfl (Or.inl rfl)) (Bx (A6 (i:=11) sc_kinds_in.nd rfl (Or.inl rfl)) (C7)))) (Ag (Ar 12 sc_kinds_in (Bs (Zca K) (qv 5) (Ad (Aa (qv 10) Ab))))
   (Ag (F1 hr.u1 (qv 3) (qv 12) (qv 11))
   (Ak (F1 hr.u1 (qv 4) (qv 12) (As C_with_names hr.m (Aa (Jl hr.u1 (qv 4) (qv 5) (fun _ _=>rfl)) (Aa (As C_names_bound hr.m (Aa (qv 6) (Aa (qv 10) Ab))) (Aa (qv 9) Ab))))))))))))))
   (Ak (Ax (Ad (Aa (qv 1) (Aa (qv 2) Ab))))))))),?_⟩
  have bg:=big
  walk_at "r"
  refine ⟨fs,_,rfl,.inr (hfs H),fun a ha=>?_⟩
  have t1:=Same.upd (o:=.lst [.ref s0,.ref s1]) ha
  walk_at "r"
  refine ⟨A4,fun b hb=>?_⟩
  have t2:=Same.upd (o:=.lst []) hb
  walk_at "r"
  refine fun c hc=>?_
  have t3:=Same.upd (o:=.dT []) hc
  walk_at "r"
  refine fun d hd=>?_
  have t4:=Same.upd (o:=.dT []) hd
  walk_at "r"
  refine ⟨A4,fun e0 he0=>?_⟩
  have t5:=Same.upd (o:=.tup []) he0
  refine fun e1 he1=>?_
  have t6:=Same.upd (o:=.dK []) he1
  have ed:=(t5.trans t6) d _ Ac
  have ee0:=t6 e0 _ Ac
  refine ⟨_,DPut.t (k:=Bl []) ed (by show _=some (HO.tup []);exact ee0) (by show 0 < sizeLine;decide),?_⟩
  have sH:=((((t1.trans t2).trans t3).trans t4).trans t5).trans t6
  have fK:KiF H a b c d:=⟨ha,t1.free hb,(t1.trans t2).free hc,((t1.trans t2).trans t3).free hd,A3 Ac hb,A3 Ac hd⟩
  have J0:KiJ K H a b c d [.num,.truth] 0 (fun _=>none) (fun _=>none) [] _:=⟨⟨[.ref s0,.ref s1],((((t2.trans t3).trans t4).trans t5).trans t6) a _ Ac,(Al.nil.snoc (x:=Sh.num) ⟨s0,rfl,hs0 _⟩).snoc (x:=Sh.truth) ⟨s1,rfl,hs1 _⟩⟩,⟨[],(((t3.trans t4).trans t5).trans t6) b _ Ac,.nil⟩,⟨[],((t4.trans t5).trans t6) c _ Ac,Ow _,fun q=>rfl⟩,⟨[],ed,Ph _,fun q e h=>by cases h⟩,sH⟩
  have J1:=((J0.imp (x':=1) (by decide) rfl (fun _ _ h=>h)).name (x:=0) (q:=[]) (y:=e1) (e:=fun _=>none) fK ed (Ph _) (fun q e h=>by cases h) ⟨[],Ac,fun _=>rfl,Ow _⟩)
  revert J1
  generalize upd _ d _=H1
  intro J1
  walk_at "r"
  refine .inl ⟨p,rfl,⟨_,SqL.of (J1.sm _ _ ep)⟩,?_⟩
  refine Ld (K:=K) (a:=p) (xs:=rows) (fun i σ' H'=>∃ v5 v6 v7 v8 v9 v10 v11 v12 sh D E ps1 ps2,σ'=[some (.ref p),some (.ref a),some (.ref b),some (.ref c),some (.ref d),v5,v6,v7,v8,v9,v10,v11,v12]/\KiJ K H a b c d sh (1+3 * i) D E ps1 H'/\sh.length<=2+3 * i/\ps1.length=i/\KinG (rs.drop i) sh D E ps2 sh'/\ps1++ps2=ps)
   ⟨_,_,_,_,_,_,_,_,[.num,.truth],fun _=>none,fun q=>if q=[] then some (fun _=>none) else none,[],ps,rfl,J1.imp (by decide) rfl (fun q e h=>h),Ow _,rfl,hK,rfl⟩ ?_ ?_ ?_
  ·rintro i σ' H' _ ⟨_,_,_,_,_,_,_,_,_,_,_,_,_,_,J,_⟩
   exact SqL.of (J.sm _ _ ep)
  ·rintro i x σ' H2 hx ⟨v5,v6,v7,v8,v9,v10,v11,v12,sh,D,E1,ps1,ps2,rfl,J,hm,hpn,hKi,hps⟩
   obtain ⟨y,hy,hrow⟩:=al.get hx
   have hi:=(O2.mp hy).1
   obtain ⟨pl,t⟩:=y
   have hplen:pl.length<=40:=hpl _ (P4 hy)
   have hdr:rs.drop i=(pl,t)::rs.drop (i+1):=by
    rw [Qo hi]
    rw [Ou hi] at hy
    rw [Pb hy]
   rw [hdr] at hKi
   cases hKi with
   | @cons _ wd n ts _ _ _ _ _ ev ps3 hA hsh hK2 =>
   obtain ⟨ra,pp,u,rfl,qra,epp,hu⟩:=hrow
   have hu0:=hu
   cases hu with
   | @mk bq pq _ nv _ us _ qb hno qpp hul hch =>
   obtain ⟨kl1,kl2⟩:=Zg2 sh.length wd
   walk_at "r"
   refine C3 (J.sm.tup qra) rfl ?_
   walk_at "r"
   refine A2 (J.sm.tup qb) rfl ?_
   walk_at "r"
   refine ⟨a,wd,sh,rfl,by omega,J.sg,fun r bb cc H3 hbt S3 qr ebb hbb nbb ecc hcc ncc ncb=>?_⟩
   have J3:=J.kind fK hbt S3
   obtain ⟨pv,eb3,alp⟩:=J3.pr
   obtain ⟨kc,ec3,lc3,vc3⟩:=J3.ac
   obtain ⟨kd3,ed3,_,vd3⟩:=J3.ad
   have hbb0:b≠bb:=by
    obtain ⟨pv0,eb0,_⟩:=J.pr
    exact A3 eb0 hbb
   have hbc0:b≠cc:=by
    obtain ⟨pv0,eb0,_⟩:=J.pr
    exact A3 eb0 hcc
   have epp3:H3 pp=some (.tup ((Bl pl).map kV)):=by rw [Iq];exact J3.sm _ _ epp
   refine C3 qr rfl ?_
   walk_at "q"
   refine viaT (R:=fun σ' H'=>H'=H3/\σ'=[some (.ref p),some (.ref a),some (.ref b),some (.ref c),some (.ref d),some (.ref pp),some (.ref bq),some (.int (D0 sh.length wd n ev:Nat)),some (.ref bb),some (.ref cc),v10,v11,v12]) ?_ ?_
   ·intro Y hY
    walk_at "r"
    refine A2 (J3.sm.tup qb) rfl ?_
    walk_at "r"
    rw [Ei]
    refine Ce (fun cn=>?_) (fun cn=>?_)
    ·have cn:=of_decide_eq_true cn
     obtain ⟨y,vy,evy⟩:=vd3 pl ev hA
     obtain ⟨kvy,ey,dcy,_⟩:=evy.ex
     obtain ⟨tn,rfl⟩:=hsh.1 (.inr (.inr cn))
     have hnv:=Ma hno
     subst hnv
     walk_at "r"
     refine ⟨d,.ref y,rfl,by rw [<- vy];exact DGet.t ed3 epp3,?_⟩
     refine ⟨y,rfl,.inl ⟨_,.inl ey⟩,?_⟩
     walk_at "r"
     refine A2 (J3.sm.tup qb) rfl ?_
     walk_at "r"
     refine ⟨_,DGet.k (k:=.inr tn) ey,?_⟩
     rw [dcy tn]
     have eg:((ev tn).map fun n=>V.int ((n:Nat):Int)).getD (.int ((B1 sh.length wd).1:Nat))=.int (D0 sh.length wd (.flat (.str tn)) ev:Nat):=by
      unfold D0
      rw [if_pos cn]
      show _=V.int (((ev tn).getD _:Nat):Int)
      cases ev tn <;> rfl
     rw [eg]
     walk_at "r"
     exact hY _ _ ⟨rfl,rfl⟩
    ·have cn:¬ wd = "name" := fun e=>cn (decide_eq_true e)
     have eg:D0 sh.length wd n ev=(B1 sh.length wd).1:=if_neg cn
     rw [eg] at hY
     exact hY _ _ ⟨rfl,rfl⟩
   rintro _ H3x ⟨hHx,rfl⟩
   rw [hHx]
   clear hHx
   walk_at "r"
   refine Ci (SqL.of eb3) ?_
   walk_at "r"
   refine ⟨c,rfl,.inr ⟨_,.inl ec3⟩,?_⟩
   walk_at "r"
   refine ⟨_,DGet.t ec3 epp3,?_⟩
   generalize hgv:D0 sh.length wd n ev=gv
   have eg:(Bk kc (Bl pl)).getD (.int (gv:Nat))=.int (((D pl).getD gv:Nat):Int):=by
    rw [vc3]
    cases D pl <;> rfl
   rw [eg]
   walk_at "r"
   refine ⟨Az,fun pt hpt=>?_⟩
   have s4:=Same.upd (o:=.tup [.int (gv:Nat),.int (((D pl).getD gv:Nat):Int)]) hpt
   walk_at "r"
   have hpvl:pv.length < sizeLine:=by rw [alp.1,hpn];omega
   refine Df (s4 _ _ eb3) hpvl ?_
   have J4:=(J3.keep s4).pair (v:=.ref pt) (y:=(gv,(D pl).getD gv)) fK (s4 _ _ eb3) (alp.mono (PaAt.same s4.t)) ⟨pt,rfl,SqT.of Ac⟩
   have ebb4:upd (upd H3 pt (.tup [.int (gv:Nat),.int (((D pl).getD gv:Nat):Int)])) b (.lst (pv++[.ref pt])) bb=some (.lst (Am (B1 sh.length wd).2.1)):=by rw [Ai hbb0.symm];exact s4 _ _ ebb
   have ecc4:upd (upd H3 pt (.tup [.int (gv:Nat),.int (((D pl).getD gv:Nat):Int)])) b (.lst (pv++[.ref pt])) cc=some (.lst (Am (B1 sh.length wd).2.2.1)):=by rw [Ai hbc0.symm];exact s4 _ _ ecc
   revert J4 ebb4 ecc4
   generalize upd (upd H3 pt (.tup [.int (gv:Nat),.int (((D pl).getD gv:Nat):Int)])) b (.lst (pv++[.ref pt]))=H4
   intro J4 ebb4 ecc4
   generalize has:(B1 sh.length wd).2.1=as at ebb4 kl1 hK2 ebb
   generalize hbd:(B1 sh.length wd).2.2.1=bd at ecc4 hK2 ecc
   walk_at "r"
   refine ⟨bb,_,rfl,SqL.of ebb4,?_⟩
   have hasl:(Am as).length=as.length:=by unfold Am;exact O0 ..
   refine Le (K:=K) (a:=bb) (xs:=Am as) (fun j σ5 H5=>∃ Dg Ec Fz,σ5=[some (.ref p),some (.ref a),some (.ref b),some (.ref c),some (.ref d),some (.ref pp),some (.ref bq),some (.int (gv:Nat)),some (.ref bb),some (.ref cc),Dg,Ec,Fz]/\KiJ K H a b c d (sh++(B1 sh.length wd).2.2.2) (1+3 * i+j) (D8 D pl 0 (as.take j)) (G9 E1 pl (fun j=>B7 ev (nb wd n j) bd) j) (ps1++[(gv,(D pl).getD gv)]) H5/\H5 bb=some (.lst (Am as))/\H5 cc=some (.lst (Am bd)))
    ⟨_,_,_,rfl,J4.imp (Ow _) (by rw [List.take_zero];rfl) (fun q e hq=>hq),ebb4,ecc4⟩ ?_ ?_ ?_
   ·rintro j σ5 H5 _ ⟨_,_,_,_,_,e,_⟩
    exact SqL.of e
   ·rintro j x tt σ5 H5 hx2 htt ⟨Dg,Ec,Fz,rfl,J5,ebb5,ecc5⟩
    have hj:j < as.length:=by have:=(O2.mp hx2).1;rwa [hasl] at this
    have hxv:x=.int ((as[j]:Nat):Int):=by unfold Am at hx2;rw [Pk,Ou hj] at hx2;exact (Pb hx2).symm
    subst hxv
    have s6:=Same.upd (o:=.tup [.int (j:Nat),.int ((as[j]:Nat):Int)]) htt
    have J6:=J5.keep s6
    refine C3 (SqT.of Ac) rfl ?_
    have ebb6:=s6 _ _ ebb5
    have ecc6:=s6 _ _ ecc5
    revert J6 ebb6 ecc6
    generalize upd H5 tt (.tup [.int (j:Nat),.int ((as[j]:Nat):Int)])=H6
    intro J6 ebb6 ecc6
    walk_at "r"
    refine ⟨A0,fun p7 h7=>?_⟩
    have s7:=Same.upd (o:=.tup [.int (j:Nat)]) h7
    refine .inr ⟨pp,p7,_,_,rfl,rfl,s7 _ _ (J6.sm _ _ epp),Ac,by show (Bg pl).length+1<=sizeLine;unfold Bg;rw [O0];omega,fun pa H8 s8 epa=>?_⟩
    have s78:=s7.trans s8
    have J8:=J6.keep s78
    have ebb8:=s78 _ _ ebb6
    have ecc8:=s78 _ _ ecc6
    rw [<- Zpm] at epa
    have epa8:H8 pa=some (.tup ((Bl (pl++[j])).map kV)):=by rw [Iq];exact epa
    obtain ⟨kc8,ec8,lc8,vc8⟩:=J8.ac
    obtain ⟨kd8,ed8,ld8,_⟩:=J8.ad
    walk_at "r"
    refine ⟨c,_,rfl,DPut.t (k:=Bl (pl++[j])) ec8 epa8 (by omega),?_⟩
    have J9:=J8.ask (n:=as[j]) (q:=pl++[j]) fK ec8 lc8 vc8
    have t9:=SameT.dt (o2:=.dT (Bc kc8 (Bl (pl++[j])) (.int ((as[j]:Nat):Int)))) ec8
    have epa9:=(t9 pa).1 _ epa8
    have ebb9:upd H8 c (.dT (Bc kc8 (Bl (pl++[j])) (.int ((as[j]:Nat):Int)))) bb=some (.lst (Am as)):=by rw [Ai (Cy ebb8 ec8 (fun z=>by cases z))];exact ebb8
    have ecc9:upd H8 c (.dT (Bc kc8 (Bl (pl++[j])) (.int ((as[j]:Nat):Int)))) cc=some (.lst (Am bd)):=by rw [Ai (Cy ecc8 ec8 (fun z=>by cases z))];exact ecc8
    have ed98:upd H8 c (.dT (Bc kc8 (Bl (pl++[j])) (.int ((as[j]:Nat):Int)))) d=some (.dT kd8):=by rw [Ai fK.cd.symm];exact ed8
    revert J9 epa9 ebb9 ecc9 ed98
    generalize upd H8 c (.dT (Bc kc8 (Bl (pl++[j])) (.int ((as[j]:Nat):Int))))=H9
    intro J9 epa9 ebb9 ecc9 ed98
    obtain ⟨kd9,ed9,_,vd9⟩:=J9.ad
    rw [ed9] at ed98
    cases ed98
    have hApl:G9 E1 pl (fun j=>B7 ev (nb wd n j) bd) j pl=some ev:=by rw [Zen];exact hA
    obtain ⟨e9,ve9,he9⟩:=vd9 pl ev hApl
    have epp9:H9 pp=some (.tup ((Bl pl).map kV)):=by rw [Iq];exact J9.sm _ _ epp
    walk_at "r"
    refine ⟨d,.ref e9,rfl,by rw [<- ve9];exact DGet.t ed9 epp9,?_⟩
    walk_at "r"
    refine ⟨.ref bq,wd,n,ts,j,rfl,hu0.same J9.sm,hsh,fun pn HA hpn sA epn=>?_⟩
    walk_at "r"
    refine ⟨e9,pn,cc,ev,nb wd n j,bd,2 * pl.length,rfl,he9.same sA,by omega,epn,sA _ _ ecc9,nbl3 _ _ _,fun pz HB sB' hpz evz=>?_⟩
    have sB:=sA.trans sB'
    walk_at "r"
    have JB:=J9.keep sB
    have lda:kd8.length < sizeLine:=by omega
    have edB:=sB _ _ ed9
    refine ⟨d,_,rfl,DPut.t (k:=Bl (pl++[j])) edB (sB _ _ epa9) lda,?_⟩
    have evz':EvAt HB pz (B7 ev (nb wd n j) bd) (2 * (pl++[j]).length):=by rw [O4,Pt];exact evz
    refine ⟨_,_,_,rfl,(JB.name (x:=1+3 * i+j) (q:=pl++[j]) (y:=pz) fK edB (by omega) (fun q e hq=>let ⟨y,h1,h2⟩:=vd9 q e hq;⟨y,h1,h2.same sB⟩) evz').imp (by omega) ?_ (fun q e hq=>hq),?_,?_⟩
    ·rw [Qd,Ou hj]
     show _=D8 D pl 0 (as.take j++[as[j]])
     rw [Zby,Pg,Tt (Sj hj),T8]
    ·rw [Ai (Cy (sB _ _ ebb9) edB (fun z=>by cases z))]
     exact sB _ _ ebb9
    ·rw [Ai (Cy (sB _ _ ecc9) edB (fun z=>by cases z))]
     exact sB _ _ ecc9
   ·rintro σ5 H5 ⟨Dg,Ec,Fz,rfl,J5,ebb5,ecc5⟩
    rw [hasl] at J5
    rw [hgv] at hps
    refine ⟨_,_,_,_,_,_,_,_,_,_,_,ps1++[(gv,(D pl).getD gv)],ps3,rfl,J5.imp (by omega) (by rw [Qx (Ow _)]) (fun q e hq=>hq),by rw [O4];omega,by simp [hpn],hK2,by rw [<- hps,Qn];rfl⟩
  ·rintro σ' H2 ⟨v5,v6,v7,v8,v9,v10,v11,v12,sh,D,E1,ps1,ps2,rfl,J,hm,hpn,hKi,hps⟩
   rw [al.1,U2] at hKi
   cases hKi
   rw [Qa] at hps
   subst hps
   obtain ⟨pv,eb,alp⟩:=J.pr
   walk_at "r"
   refine ⟨Az,fun r hr'=>?_⟩
   have s3:=Same.upd (o:=.tup [.ref a,.ref b]) hr'
   exact q r a b pv _ (J.sm.trans s3) (SqT.of Ac) (J.sg.same s3) (s3 _ _ eb) (alp.mono (PaAt.same s3.t))
noncomputable def Zeq:Sp:=fun vs H Q _=>∃ k:Int,vs=[.int k]/\Q (.bl true) H
theorem Zm3:Bm ["thing"] ["thing"] (Be Im):=by walk_at "sc"
theorem Zjq {f:Addr}{fd:FuncData}(F:Fun K "is_whole" "is_whole" Im f fd)(T:Txt K mg):A9 P w K mg base Bd 1 f fd ["thing"] Zeq:=by
 refine F.okq Zm3 (fun vs H Q E h=>?_) (fun cdv A outer s H vs Q E hr h=>?_)
 ·obtain ⟨k,rfl,_⟩:=h
  rfl
 ·obtain ⟨k,rfl,q⟩:=h
  refine ⟨_,Ak (Ax (Fy (Ca (Dm K "int") (by rfl) T.isinstance (by decide +kernel) (Aa (qv 0) (Aa (Dr (v:=.ty "int") (by rfl) T.int (by decide +kernel) rfl) Ab))) (Hl (Zd0 (Ca (Dm K "bool") (by rfl) T.isinstance (by decide +kernel) (Aa (qv 0) (Aa (Dr (v:=.ty "bool") (by rfl) T.bool (by decide +kernel) rfl) Ab))))))),?_⟩
  walk_at "r"
  refine C1 (.int _) Zi9 ?_
  walk_at "r"
  refine C1 (.int _) Znq ?_
  walk_at "r"
  exact q
noncomputable def Zfx (K:Os):Sp:=fun vs H Q _=>∃(v:V)(w:Str)(n:Dt)(ps:List Tr)(k:Nat),vs=[v,.int (k:Nat)]/\TrAt K H v (.mk w n ps)/\k < ps.length/\Q (.bl true) H
theorem Zoh:Bm ["form", "number"] ["form", "number"] (Be Ji):=by walk_at "sc"
theorem Zk8 {f:Addr}{fd:FuncData}(F:Fun K "has_part" "has_part" Ji f fd)(T:Txt K mg)(C_is_whole:Ba P w K mg base 1 "is_whole" ["thing"] Zeq):A9 P w K mg base Bd 2 f fd ["form", "number"] (Zfx K):=by
 refine F.okq Zoh (fun vs H Q E h=>?_) (fun cdv A outer s H vs Q E hr h=>?_)
 ·obtain ⟨v,w,n,ps,k,rfl,_⟩:=h
  rfl
 ·obtain ⟨v,w,n,ps,k,rfl,ht,hk,q⟩:=h
  refine ⟨_,Ak (Ax (Fy (As C_is_whole hr.m (Aa (qv 1) Ab)) (Hl (Zmf Zpr Zey Af (qv 1) (Ca (Em K) (by rfl) T.len (by decide +kernel) (Aa (Ap K (qv 0) Af) Ab)))))),?_⟩
  cases ht with
  | @mk b pp _ nv _ us _ qb hn qp l hch =>
  walk_at "r"
  refine ⟨_,rfl,?_⟩
  walk_at "r"
  refine Ce (fun _=>?_) (fun c=>absurd (decide_eq_true (by omega)) c)
  walk_at "r"
  refine A2 qb rfl ?_
  walk_at "r"
  refine K5 qp ?_
  walk_at "r"
  have e:decide ((k:Int) < (us.length:Int))=true:=decide_eq_true (by omega)
  rw [e]
  exact q
theorem Hq {α:Type}{xs:List α}{x:α}(h:xs[xs.length - 1]?=some x):B0 xs (-1)=some x:=by
 have hl:=(O2.mp h).1
 unfold B0 C0
 rw [if_neg (by omega),if_pos (by omega)]
 have e:((-1:Int)+(xs.length:Int)).toNat=xs.length - 1:=by omega
 simpa [e] using h
theorem Zct {α:Type}{xs:List α}{i:Int}{x:α}(j:Nat)(hj:(j:Int)=i)(h:xs[j]?=some x):B0 xs i=some x:=by
 have hl:=(O2.mp h).1
 subst hj
 unfold B0 C0
 rw [if_pos (by omega),if_pos (by omega)]
 simpa using h
theorem Zln {pl:List Nat}{i:Nat}{v:V}(h:(Bg pl)[i]?=some v):∃ k,v=.int (k:Nat)/\pl[i]?=some k:=by
 unfold Bg at h
 rw [Pk] at h
 cases e:pl[i]? with
 | none=>rw [e] at h;cases h
 | some x=>rw [e] at h;exact ⟨x,(Pb h).symm,rfl⟩
theorem Zpo (pl:List Nat):(Bg pl).length=pl.length:=by unfold Bg;simp
noncomputable def Mx (K:Os):Sp:=fun vs H Q _=>∃(v:V)(t:Tr)(p:Addr)(pl:List Nat),vs=[v,.ref p]/\TrAt K H v t/\SqT K H p (Bg pl)/\Sub t pl/\pl.length<=1000 /\
 ∀(q:Addr)(ws:List V)(H':Hp),H q=none->Same H H'->H' q=some (.lst ws)->Al (TrAt K H') ws (Cd t pl)->Q (.ref q) H'
theorem sc_forms_down_to:Bm ["tree", "place", "passed", "number"] ["tree", "place"] (Be Jb):=by walk_at "sc"
theorem Zo7 {f:Addr}{fd:FuncData}(F:Fun K "forms_down_to" "forms_down_to" Jb f fd)(T:Txt K mg)(C_has_part:Ba P w K mg base 2 "has_part" ["form", "number"] (Zfx K)):A9 P w K mg base Bd 3 f fd ["tree", "place"] (Mx K):=by
 refine F.okq sc_forms_down_to (fun vs H Q E h=>?_) (fun cdv A outer s H vs Q E hr h=>?_)
 ·obtain ⟨v,t,p,pl,rfl,_⟩:=h
  rfl
 ·obtain ⟨v,t,p,pl,rfl,ht,hp,hs,hl,q⟩:=h
  refine ⟨_,Ag (Ar 2 sc_forms_down_to (Av (Aa (qv 0) Ab)))
   (Ag (Cu Pi rfl (Db K (qv 1)) (A6 (i:=3) sc_forms_down_to.nd rfl (Or.inl rfl)) (Ag (Bf (E4 (Du (As C_has_part hr.m (Aa (Ap K (qv 2) (Hv G8 Af)) (Aa (qv 3) Ab))))) (Ak Zcf) Bj)
   (Ak (Cw (Dk K Pl P7 P8 Dl (qv 2) (Aa (Ap K (Ap K (Ap K (qv 2) (Hv G8 Af)) Af) (qv 3)) Ab))))))
   (Ak (Ax (qv 2)))),?_⟩
  have bg:=big
  walk_at "r"
  refine ⟨A0,fun q0 hq0=>?_⟩
  obtain ⟨H1,s1,e1,z9⟩:=Hi hq0 (.lst [v])
  rw [z9]
  walk_at "r"
  refine .inr (.inl ⟨p,rfl,⟨_,s1.tup hp⟩,?_⟩)
  have p0:(Cd t pl).take 1=[t]:=by
   have:=Ze9 t pl
   cases e:Cd t pl with
   | nil=>rw [e] at this;cases this
   | cons a r =>
    rw [e] at this
    have h:a=t:=by simpa using this
    rw [h]
    rfl
  refine Zbo (K:=K) (a:=p) (xs:=Bg pl) (fun i σ' H'=>∃ w3 ws,σ'=[some v,some (.ref p),some (.ref q0),w3]/\H' q0=some (.lst ws)/\Al (TrAt K H') ws ((Cd t pl).take (i+1))/\Same H H') ⟨none,[v],rfl,e1,by rw [p0];exact Al.nil.snoc (ht.same s1),s1⟩ ?_ ?_ ?_
  ·rintro i σ' H' _ ⟨_,_,_,_,_,sm⟩
   exact sm.tup hp
  ·rintro i x σ' H' hx ⟨w3,ws,rfl,e2,al,sm⟩
   obtain ⟨k,rfl,hk⟩:=Zln hx
   obtain ⟨w',n',ps,u,a1,a2,a3⟩:=Zes hs i k hk
   have hi:=(O2.mp hk).1
   have hpl:=Kb hs
   have hwl:ws.length=i+1:=by rw [al.1,Pg];omega
   have hx1:((Cd t pl).take (i+1))[i]?=some (.mk w' n' ps):=by rw [List.getElem?_take,if_pos (by omega)];exact a1
   obtain ⟨vi,hvi,hti⟩:=al.get' hx1
   have hlast:B0 ws (-1)=some vi:=Hq (by rw [hwl];exact hvi)
   cases hti with
   | @mk b pp _ nv _ us _ qb hn qp l hch =>
   have hku:k < us.length:=by rw [l];exact (O2.mp a2).1
   walk_at "r"
   refine A1 (SqL.of e2) hlast ?_
   walk_at "r"
   refine ⟨_,w',n',ps,k,rfl,.mk qb hn qp l hch,by omega,?_⟩
   walk_at "r"
   refine Ci (SqL.of e2) ?_
   walk_at "r"
   refine A1 (SqL.of e2) hlast ?_
   walk_at "r"
   refine A2 qb rfl ?_
   walk_at "r"
   refine A2 qp (Zct k rfl (Ou hku)) ?_
   walk_at "r"
   refine Df e2 (by omega) ?_
   walk_at "r"
   have t3:SameT H' (upd H' q0 (.lst (ws++[us[k]]))):=SameT.set e2
   refine ⟨_,ws++[us[k]],rfl,Ac,?_,sm.over hq0⟩
   have e3:(Cd t pl).take (i+1+1)=(Cd t pl).take (i+1)++[u]:=by rw [Q3,a3];rfl
   rw [e3]
   exact (al.mono fun _ _ z=>z.sameT t3).snoc ((hch k _ u (Ou hku) a2).sameT t3)
  ·rintro σ' H' ⟨w3,ws,rfl,e2,al,sm⟩
   rw [Zpo,Qx (by rw [Kb hs];omega)] at al
   walk_at "r"
   exact q q0 ws H' hq0 sm e2 al
noncomputable def BdAt (K:Os)(H:Hp)(pl:List Nat)(v:V)(x:Str×Nat):Prop:=∃(a b:Addr),v=.ref a/\SqT K H a [.str x.1,.ref b]/\SqT K H b (Bg (pl.take x.2))
theorem BdAt.same {H H':Hp}{pl:List Nat}(e:SameT H H')(v:V)(x:Str×Nat)(h:BdAt K H pl v x):BdAt K H' pl v x:=by
 obtain ⟨a,b,h1,h2,h3⟩:=h
 exact ⟨a,b,h1,e.tup h2,e.tup h3⟩
theorem Zb2 (w:Str)(n:Dt)(k:Nat):(nb w n k).length<=2:=by
 have h1:(He n).length<=2:=by unfold He;split <;> simp
 have h2:(Jr n).length<=2:=by unfold Jr;split <;> simp
 unfold nb
 split
 ·exact h1
 ·split
  ·exact h2
  ·split
   ·exact h1
   ·simp
theorem Zfi {t:Tr}{pl:List Nat}(s:Sub t pl):∀ l∈C4 t pl,l.length<=2:=by
 induction s with
 | nil t=>intro l h;cases t;cases h
 | cons h _ ih =>
  intro l hl
  rw [Nw h] at hl
  rcases O1.mp hl with rfl | hl
  ·exact Zb2 _ _ _
  ·exact ih l hl
theorem My:∀(d:Nat)(ls:List (List Str)),(∀ l∈ls,l.length<=2)->(Cr d ls).length<=2 * ls.length
 | _,[],_=>by simp [Cr]
 | d,l::r,h=>by
  have h1:=h l R5
  have h2:=My (d+1) r fun x hx=>h x (Qz _ hx)
  rw [Cr,O4,O0,O3]
  omega
theorem Zfe {t:Tr}{pl:List Nat}(s:Sub t pl):(bn t pl).length<=2 * pl.length:=by
 have:=My 0 (C4 t pl) (Zfi s)
 rw [Zep s] at this
 exact this
theorem Zh3 (pl:List Nat)(k:Nat):(Bg pl).take k=Bg (pl.take k):=by unfold Bg;rw [List.map_take]
noncomputable def Zc2 (K:Os):Sp:=fun vs H Q _=>∃(v:V)(t:Tr)(p:Addr)(pl:List Nat),vs=[v,.ref p]/\TrAt K H v t/\B8 t/\SqT K H p (Bg pl)/\Sub t pl/\pl.length<=1000 /\
 ∀(q:Addr)(ws:List V)(H':Hp),H q=none->Same H H'->H' q=some (.lst ws)->Al (BdAt K H' pl) ws (bn t pl)->Q (.ref q) H'
theorem sc_bindings_at:Bm ["tree", "place", "told", "depth", "above", "name"] ["tree", "place"] (Be Ju):=by walk_at "sc"
theorem Zm8 {f:Addr}{fd:FuncData}(F:Fun K "bindings_at" "bindings_at" Ju f fd)(T:Txt K mg)(C_forms_down_to:Ba P w K mg base 3 "forms_down_to" ["tree", "place"] (Mx K))(C_names_bound:Ba P w K mg base 1 "names_bound" ["form", "number"] (Zav K)):A9 P w K mg base Bd 4 f fd ["tree", "place"] (Zc2 K):=by
 refine F.okq sc_bindings_at (fun vs H Q E h=>?_) (fun cdv A outer s H vs Q E hr h=>?_)
 ·obtain ⟨v,t,p,pl,rfl,_⟩:=h
  rfl
 ·obtain ⟨v,t,p,pl,rfl,ht,hsh,hp,hs,hl,q⟩:=h
  refine ⟨_,Ag (Ar 2 sc_bindings_at (Av Ab))
   (Ag (Cu Pi rfl (La K rfl T.enumerate (Aa (Hk (Zde K) (As C_forms_down_to hr.m (Aa (qv 0) (Aa (qv 1) Ab))) (G5) (Hc (Hv G8 Af))) Ab)) (Da K (n:=2) rfl (Bx (A6 (i:=3) sc_bindings_at.nd rfl (Or.inl rfl)) (Bx (A6 (i:=4) sc_bindings_at.nd rfl (Or.inl rfl)) (C7)))) (Ak (Cu Pi rfl (Db K (As C_names_bound hr.m (Aa (qv 4) (Aa (Ap K (qv 1) (qv 3)) Ab)))) (A6 (i:=5) sc_bindings_at.nd rfl (Or.inl rfl)) (Ak (Cw (Dk K Pl P7 P8 Dl (qv 2) (Aa (Ad (Aa (qv 5) (Aa (Hk (Zde K) (qv 1) (G5) (Hc (qv 3))) Ab))) Ab)))))))
   (Ak (Ax (qv 2)))),?_⟩
  have bg:=big
  have hpl:=Kb hs
  have hll:=Zep hs
  have hbl:=Zfe hs
  walk_at "r"
  refine ⟨A4,fun q0 hq0=>?_⟩
  obtain ⟨H1,s1,e1,z9⟩:=Hi hq0 (.lst [])
  rw [z9]
  walk_at "r"
  refine ⟨v,t,p,pl,rfl,ht.same s1,s1.tup hp,hs,hl,fun q2 ws H2 hq2 s2 e2 al=>?_⟩
  walk_at "r"
  refine Zp9 (SqL.of e2) fun q3 hq3=>?_
  have ec:Cp ws none (some (-1))=ws.take pl.length:=by rw [Zgi,al.1,hpl];rfl
  rw [ec]
  obtain ⟨H3,s3,e3,z9⟩:=Hi hq3 (.lst (ws.take pl.length))
  rw [z9]
  walk_at "r"
  refine ⟨q3,_,rfl,SqL.of e3,?_⟩
  have s13:=s1.trans (s2.trans s3)
  have hwl:(ws.take pl.length).length=pl.length:=by rw [Pg,al.1];omega
  have n3:q0≠q3:=A3 ((s2 _ _ e1)) hq3
  refine Le (K:=K) (a:=q3) (xs:=ws.take pl.length) (fun i σ' H'=>∃ w3 w4 w5 vs,σ'=[some v,some (.ref p),some (.ref q0),w3,w4,w5]/\H' q0=some (.lst vs)/\H' q3=some (.lst (ws.take pl.length))/\Al (BdAt K H' pl) vs (Cr 0 ((C4 t pl).take i))/\SameT H3 H'/\Same H H') ⟨none,none,none,[],rfl,(s2.trans s3) _ _ e1,e3,Al.nil,SameT.refl _,s13⟩ ?_ ?_ ?_
  ·rintro i σ' H' _ ⟨_,_,_,_,_,_,e,_⟩
   exact SqL.of e
  ·rintro i x tt σ' H' hx htt ⟨w3,w4,w5,vs,rfl,e4,e5,al4,t4,sm4⟩
   have hi:i < pl.length:=by have:=(O2.mp hx).1;rw [hwl] at this;exact this
   have hk:pl[i]?=some pl[i]:=Ou hi
   have hx':ws[i]?=some x:=by rw [List.getElem?_take,if_pos hi] at hx;exact hx
   obtain ⟨w',n',ps,u,a1,a2,a3⟩:=Zes hs i _ hk
   obtain ⟨ti,hti,hat⟩:=al.get hx'
   rw [a1] at hti
   cases hti
   have hsi:De w' n':=by
    cases Zg3 hs hsh _ (P4 a1) with
    | mk h _=>exact h
   have hla:=Zf7 hs i _ w' n' ps hk a1
   obtain ⟨H6,s6,e6,z9⟩:=Hi htt (.tup [.int i,x])
   rw [z9]
   walk_at "r"
   refine C3 (SqT.of e6) rfl ?_
   walk_at "r"
   refine A2 (s6.tup (sm4.tup hp)) (v:=.int (pl[i]:Nat)) (Zct i rfl (by unfold Bg;rw [Pk,hk];rfl)) ?_
   walk_at "r"
   refine ⟨x,w',n',ps,pl[i],rfl,(hat.sameT (s3.t.trans t4)).same s6,hsi,fun q7 H7 hq7 s7 e7=>?_⟩
   refine .inl ⟨q7,rfl,⟨_,SqL.of e7⟩,?_⟩
   have s67:=s6.trans s7
   have n07:q0≠q7:=A3 (s6 _ _ e4) hq7
   have n37:q3≠q7:=A3 (s6 _ _ e5) hq7
   refine Ld (K:=K) (a:=q7) (xs:=(nb w' n' pl[i]).map V.str) (fun j σ' H'=>∃ w5 us,σ'=[some v,some (.ref p),some (.ref q0),some (.int i),some x,w5]/\H' q0=some (.lst us)/\H' q3=some (.lst (ws.take pl.length))/\H' q7=some (.lst ((nb w' n' pl[i]).map V.str))/\Al (BdAt K H' pl) us (Cr 0 ((C4 t pl).take i)++((nb w' n' pl[i]).take j).map fun y=>(y,i))/\SameT H3 H'/\Same H H') ⟨_,vs,rfl,s67 _ _ e4,s67 _ _ e5,e7,by simpa using al4.mono (BdAt.same s67.t),t4.trans s67.t,sm4.trans s67⟩ ?_ ?_ ?_
   ·rintro j σ' H' _ ⟨_,_,_,_,_,e,_⟩
    exact SqL.of e
   ·rintro j y σ' H8 hy ⟨w5',us,rfl,e8,e8b,e8c,al8,t8,sm8⟩
    rw [Pk] at hy
    cases hyy:(nb w' n' pl[i])[j]? with
    | none=>rw [hyy] at hy;cases hy
    | some yy =>
    rw [hyy] at hy
    have hy:V.str yy=y:=by simpa using hy
    subst hy
    have hnl:=Zb2 w' n' pl[i]
    have hul:us.length<=2 * pl.length+2:=by
     rw [al8.1,O4,O0,Pg]
     have:=My 0 ((C4 t pl).take i) (fun l hl=>Zfi hs l (List.mem_of_mem_take hl))
     rw [Pg] at this
     omega
    walk_at "r"
    refine Ci (SqL.of e8) ?_
    walk_at "r"
    refine Zmn (sm8.tup hp) fun r9 H9 s9 q9=>?_
    rw [Zlz,Zh3] at q9
    walk_at "r"
    refine ⟨Az,fun p10 h10=>?_⟩
    have s10:Same H8 (upd H9 p10 (.tup [.str yy,.ref r9])):=s9.put h10
    have e10:=s10 _ _ e8
    walk_at "r"
    refine Df e10 (by omega) ?_
    walk_at "r"
    have t11:SameT H8 (upd (upd H9 p10 (.tup [.str yy,.ref r9])) q0 (.lst (us++[.ref p10]))):=s10.t.trans (SameT.set e10)
    refine ⟨_,us++[.ref p10],rfl,Ac,by rw [Ai n3.symm];exact s10 _ _ e8b,by rw [Ai n07.symm];exact s10 _ _ e8c,?_,t8.trans t11,(sm8.trans s10).over hq0⟩
    rw [Q3,hyy,Qb,<- Qn]
    refine (al8.mono (BdAt.same t11)).snoc ⟨p10,r9,rfl,(SameT.set e10).tup (SqT.of Ac),?_⟩
    exact ((Same.upd (o:=.tup [.str yy,.ref r9]) h10).t.trans (SameT.set e10)).tup q9
   ·rintro σ' H8 ⟨w5',us,rfl,e8,e8b,e8c,al8,t8,sm8⟩
    rw [O0,Py] at al8
    refine ⟨_,_,_,us,rfl,e8,e8b,?_,t8,sm8⟩
    rw [Q3,hla,Zee]
    have e9:Cr (0+((C4 t pl).take i).length) (some (nb w' n' pl[i])).toList=(nb w' n' pl[i]).map fun y=>(y,i):=by
     rw [Pg,hll,T8,Tt (by omega)]
     simp [Cr]
    rw [e9]
    exact al8
  ·rintro σ' H' ⟨w3,w4,w5,vs,rfl,e4,e5,al4,t4,sm4⟩
   rw [hwl,Qx (by omega)] at al4
   walk_at "r"
   exact q q0 vs H' hq0 sm4 e4 al4
noncomputable def Zd6 (K:Os):Sp:=fun vs H Q _=>∃(v:V)(t:Tr)(p:Addr)(pl:List Nat),vs=[v,.ref p]/\TrAt K H v t/\B8 t/\SqT K H p (Bg pl)/\Sub t pl/\pl.length<=1000 /\
 ∀(q:Addr)(H':Hp),H q=none->Same H H'->H' q=some (.lst ((Cg t pl).map V.str))->Q (.ref q) H'
theorem Zez:(["name", "where"]:List Str).Nodup:=by decide +kernel
theorem Zi4:Bm ["tree", "place"] ["tree", "place"] (Be Ix):=by walk_at "sc"
theorem Zip {f:Addr}{fd:FuncData}(F:Fun K "names_at" "names_at" Ix f fd)(T:Txt K mg)(C_bindings_at:Ba P w K mg base 4 "bindings_at" ["tree", "place"] (Zc2 K)):A9 P w K mg base Bd 5 f fd ["tree", "place"] (Zd6 K):=by
 refine F.okq Zi4 (fun vs H Q E h=>?_) (fun cdv A outer s H vs Q E hr h=>?_)
 ·obtain ⟨v,t,p,pl,rfl,_⟩:=h
  rfl
 ·obtain ⟨v,t,p,pl,rfl,ht,hsh,hp,hs,hl,q⟩:=h
  refine ⟨_,Ak (Ax (F4 (N:=["name", "where"]) (σ0:=Dc 2 []) rfl (Ea rfl (by decide +kernel) (by decide +kernel) (by decide +kernel)) (Db K (As C_bindings_at hr.m (Aa (qv 0) (Aa (qv 1) Ab)))) (D7 rfl (by rfl)) (fun _ _ _ _=>Da K (n:=2) rfl (Bx (A6 (i:=0) Zez rfl (Or.inl rfl)) (Bx (A6 (i:=1) Zez rfl (Or.inl rfl)) (C7)))) (fun _ _ _ _=>Go) (fun _ _ _ _=>qv 0))),?_⟩
  have bg:=big
  have hbl:=Zfe hs
  walk_at "r"
  refine ⟨v,t,p,pl,rfl,ht,hsh,hp,hs,hl,fun q1 ws H1 hq1 s1 e1 al=>?_⟩
  refine .inl ⟨q1,rfl,⟨_,SqL.of e1⟩,fun D hD=>?_⟩
  have nD:q1≠D:=A3 e1 hD
  refine F0 (K:=K) (a:=q1) (xs:=ws) (Pv:=fun i ys σ' H'=>∃ v0 v1,σ'=[v0,v1]/\H' q1=some (.lst ws)/\ys=(((bn t pl).take i).map fun x=>V.str x.1)/\SameT H1 H'/\Same H1 H') ⟨none,none,rfl,by rw [Ai nD];exact e1,rfl,SameT.new hD,Same.upd hD⟩ ?_ ?_ ?_
  ·rintro i ys σ' H' _ ⟨_,_,_,e,_⟩
   exact SqL.of e
  ·rintro i x ys σ' H' hx hys ⟨v0,v1,rfl,e,rfl,t2,sm⟩
   obtain ⟨y,hy,a,b,rfl,g1,g2⟩:=al.get hx
   have hi:=(O2.mp hx).1
   have hwl:ws.length<=2000:=by rw [al.1];omega
   walk_at "r"
   refine C3 (t2.tup g1) rfl ?_
   walk_at "r"
   refine ⟨_,hys,by rw [O0,Pg];omega,_,Ac,?_⟩
   refine ⟨_,_,rfl,by rw [Ai nD];exact e,?_,t2.trans (SameT.set hys),sm.over hD⟩
   rw [Q3,hy,Qb]
   rfl
  ·rintro ys σ' H' hys ⟨v0,v1,rfl,e,rfl,t2,sm⟩
   rw [al.1,Py] at hys
   refine q D H' (s1.free hD) (s1.trans sm) ?_
   rw [hys,<- Znu,T7]
   rfl
noncomputable def Lw:Option Nat->V
 | none=>.non
 | some i=>.int (i:Nat)
noncomputable def Zc8 (K:Os):Sp:=fun vs H Q _=>∃(v:V)(t:Tr)(p:Addr)(pl:List Nat)(x:Str),vs=[v,.ref p,.str x]/\TrAt K H v t/\B8 t/\SqT K H p (Bg pl)/\Sub t pl/\pl.length<=1000 /\
 ∀(H':Hp),Same H H'->Q (Lw (Bw x 0 (Cg t pl))) H'
theorem sc_binding_at:Bm ["tree", "place", "name", "last", "number", "bound"] ["tree", "place", "name"] (Be Jf):=by walk_at "sc"
theorem Zg9 {f:Addr}{fd:FuncData}(F:Fun K "binding_at" "binding_at" Jf f fd)(T:Txt K mg)(C_names_at:Ba P w K mg base 5 "names_at" ["tree", "place"] (Zd6 K)):A9 P w K mg base Bd 6 f fd ["tree", "place", "name"] (Zc8 K):=by
 refine F.okq sc_binding_at (fun vs H Q E h=>?_) (fun cdv A outer s H vs Q E hr h=>?_)
 ·obtain ⟨v,t,p,pl,x,rfl,_⟩:=h
  rfl
 ·obtain ⟨v,t,p,pl,x,rfl,ht,hsh,hp,hs,hl,q⟩:=h
  refine ⟨_,Ag (Ar 3 sc_binding_at Bu)
   (Ag (Cu Pi rfl (La K rfl T.enumerate (Aa (As C_names_at hr.m (Aa (qv 0) (Aa (qv 1) Ab))) Ab)) (Da K (n:=2) rfl (Bx (A6 (i:=4) sc_binding_at.nd rfl (Or.inl rfl)) (Bx (A6 (i:=5) sc_binding_at.nd rfl (Or.inl rfl)) (C7)))) (Ak (Bf (Bv (B2 K hr.u200) (qv 5) (qv 2) (Br _)) (Ak (Ar 3 sc_binding_at (qv 4))) Bj)))
   (Ak (Ax (qv 3)))),?_⟩
  walk_at "r"
  refine ⟨v,t,p,pl,rfl,ht,hsh,hp,hs,hl,fun q1 H1 hq1 s1 e1=>?_⟩
  walk_at "r"
  refine ⟨q1,_,rfl,SqL.of e1,?_⟩
  refine Le (K:=K) (a:=q1) (xs:=(Cg t pl).map V.str) (fun i σ' H'=>∃ w4 w5,σ'=[some v,some (.ref p),some (.str x),some (Lw (Bw x 0 ((Cg t pl).take i))),w4,w5]/\Same H1 H') ⟨none,none,rfl,Same.refl _⟩ ?_ ?_ ?_
  ·rintro i σ' H' _ ⟨_,_,_,sm⟩
   exact SqL.of (sm _ _ e1)
  ·rintro i y tt σ' H' hy htt ⟨w4,w5,rfl,sm⟩
   rw [Pk] at hy
   cases hyy:(Cg t pl)[i]? with
   | none=>rw [hyy] at hy;cases hy
   | some yy =>
   rw [hyy] at hy
   have hy:V.str yy=y:=by simpa using hy
   subst hy
   have hi:=(O2.mp hyy).1
   have e2:Bw x 0 ((Cg t pl).take (i+1))=if yy=x then some i else Bw x 0 ((Cg t pl).take i):=by
    rw [Q3,hyy]
    show Bw x 0 (_++[yy])=_
    rw [Zkw,Pg,T8,Tt (by omega)]
   obtain ⟨H3,s3,e3,z9⟩:=Hi htt (.tup [.int i,.str yy])
   rw [z9]
   walk_at "r"
   refine C3 (SqT.of e3) rfl ?_
   walk_at "r"
   rw [Fk]
   refine Ce (fun c=>?_) (fun c=>?_)
   ·have c:=of_decide_eq_true c
    walk_at "r"
    refine ⟨some (.int i),some (.str yy),?_,sm.trans s3⟩
    rw [e2,if_pos c]
    rfl
   ·have c:¬ yy=x:=fun e=>c (decide_eq_true e)
    walk_at "r"
    refine ⟨some (.int i),some (.str yy),?_,sm.trans s3⟩
    rw [e2,if_neg c]
    rfl
  ·rintro σ' H' ⟨w4,w5,rfl,sm⟩
   rw [O0,Py]
   walk_at "r"
   exact q H' (s1.trans sm)
noncomputable def Co (t:Tr)(pl:List Nat)(f:Tr)(fb:Bool):Str:=match f with
 | .mk w n _=>if fb=false then "unlike" else if w = "odd" then "odd" else if w = "name" /\ Bw (Gy n) 0 (Cg t pl)=none then "free" else ""
noncomputable def Zbi (K:Os):Sp:=fun vs H Q _=>∃(v:V)(t:Tr)(p:Addr)(pl:List Nat)(u:V)(w:Str)(n:Dt)(ps:List Tr)(fb:Bool),vs=[v,.ref p,u,.bl fb]/\TrAt K H v t/\B8 t/\SqT K H p (Bg pl)/\Sub t pl/\pl.length<=1000/\TrAt K H u (.mk w n ps)/\De w n/\∀ H',Same H H'->Q (.str (Co t pl (.mk w n ps) fb)) H'
theorem Ziy:Bm ["tree", "place", "form", "fits"] ["tree", "place", "form", "fits"] (Be Ik):=by walk_at "sc"
theorem Zpn {f:Addr}{fd:FuncData}(F:Fun K "mark_of" "mark_of" Ik f fd)(T:Txt K mg)(C_binding_at:Ba P w K mg base 6 "binding_at" ["tree", "place", "name"] (Zc8 K)):A9 P w K mg base Bd 7 f fd ["tree", "place", "form", "fits"] (Zbi K):=by
 refine F.okq Ziy (fun vs H Q E h=>?_) (fun cdv A outer s H vs Q E hr h=>?_)
 ·obtain ⟨v,t,p,pl,u,w,n,ps,fb,rfl,_⟩:=h
  rfl
 ·obtain ⟨v,t,p,pl,u,w,n,ps,fb,rfl,htv,hts,hp,hsub,hpl,ht,hsh,q⟩:=h
  refine ⟨_,Ag (Bf (E4 (Fm K (qv 3) (by intro _;rfl))) (Ak (Ax Ah)) Bj)
   (Ag (Bf (Bv (B2 K hr.u200) (Ap K (qv 2) Af) Ah (Br _)) (Ak (Ax Ah)) Bj)
   (Ag (Bf (QW.qt (Zap (Bv (B2 K hr.u200) (Ap K (qv 2) Af) Ah (Br _)) (Nu (Ha (Lb (As C_binding_at hr.m (Aa (qv 0) (Aa (qv 1) (Aa (Ap K (qv 2) Af) Ab))))))))) (Ak (Ax Ah)) Bj)
   (Ak (Ax Ah)))),?_⟩
  have htu:=ht
  cases ht with
  | @mk bq pp _ nv _ us _ qb hn qp l hch =>
  have q:∀ H',Same H H'->Q (.str (if fb=false then "unlike" else if w = "odd" then "odd" else if w = "name" /\ Bw (Gy n) 0 (Cg t pl)=none then "free" else "")) H':=q
  walk_at "r"
  refine ⟨fb,by show fb=fb;rfl,?_⟩
  cases fb with
  | false =>
   rw [if_pos rfl] at q
   walk_at "r"
   exact q _ (Same.refl _)
  | true =>
   rw [if_neg (by decide)] at q
   walk_at "r"
   refine A2 qb rfl ?_
   walk_at "r"
   rw [Ei]
   refine Ce (fun c=>?_) (fun c=>?_)
   ·rw [if_pos (of_decide_eq_true c)] at q
    walk_at "r"
    exact q _ (Same.refl _)
   rw [if_neg (fun e=>c (decide_eq_true e))] at q
   walk_at "r"
   refine A2 qb rfl ?_
   walk_at "r"
   rw [Ei]
   by_cases cn:w = "name"
   ·rw [decide_eq_true cn]
    obtain ⟨tn,rfl⟩:=hsh.1 (.inr (.inr cn))
    have hnv:=Ma hn
    subst hnv
    walk_at "r"
    refine A2 qb rfl ?_
    walk_at "r"
    refine ⟨v,t,p,pl,tn,rfl,htv,hts,hp,hsub,hpl,fun H1 s1=>?_⟩
    have q:∀ H',Same H H'->Q (.str (if w = "name" /\ Bw tn 0 (Cg t pl)=none then "free" else "")) H':=q
    cases e:Bw tn 0 (Cg t pl) with
    | none =>
     rw [if_pos ⟨cn,e⟩] at q
     walk_at "r"
     rw [show decide (Lw none=V.non)=true from rfl]
     walk_at "r"
     exact q _ s1
    | some k =>
     rw [if_neg (fun z=>by rw [e] at z;cases z.2)] at q
     walk_at "r"
     rw [show decide (Lw (some k)=V.non)=false from rfl]
     walk_at "r"
     exact q _ s1
   ·rw [decide_eq_false cn]
    rw [if_neg (fun z=>cn z.1)] at q
    walk_at "r"
    exact q _ (Same.refl _)
noncomputable def flat (ps:List (Nat×Nat)):List Nat:=ps.flatMap fun p=>[p.1,p.2]
theorem M3:∀ ps:List (Nat×Nat),(flat ps).length=2 * ps.length
 | []=>rfl
 | p::r=>by
  have:=M3 r
  have e:flat (p::r)=p.1::p.2::flat r:=rfl
  rw [e,O3,O3,O3,this]
  omega
theorem Zhr (ps:List (Nat×Nat))(p:Nat×Nat):flat (ps++[p])=flat ps++[p.1,p.2]:=by unfold flat;rw [Uo];rfl
theorem KinG.len {rs:List (List Nat×Tr)}{sh sh':Ao}{D:Dn}{A:An}{ps:List (Nat×Nat)}(h:KinG rs sh D A ps sh'):ps.length=rs.length:=by
 induction h with
 | nil=>rfl
 | cons _ _ _ ih=>rw [O3,O3,ih]
theorem FitG.len {ps:List (Nat×Nat)}{m m':Ao}{fs:List Bool}(h:FitG ps m fs m'):fs.length=ps.length:=by
 induction h with
 | nil=>rfl
 | ok _ _ _ _ _ _ ih=>rw [O3,O3,ih]
 | clash _ _ _ ih=>rw [O3,O3,ih]
 | loop _ _ _ _ _ _ ih=>rw [O3,O3,ih]
structure Hy (t:Tr)(ks:List Kd)(fs:List Bool):Prop where
 ex:∃ ps sh1 sh2 N td',KinG (walk [] t) [.num,.truth] (fun _=>none) (fun q=>if q=[] then some (fun _=>none) else none) ps sh1/\FitG ps sh1 fs sh2/\ToldN sh2 N (fun _=>none) 0 (flat ps).reverse td'/\N<=2000/\ks.length=(flat ps).length/\∀(j x:Nat)(k:Kd),(flat ps)[j]?=some x->ks[j]?=some k->∃ r,Last sh2 x r/\td' r=some k
noncomputable abbrev Rw:=List Nat×Kd×Option Kd×Str
noncomputable def Fv (t:Tr)(ks:List Kd)(fs:List Bool)(i:Nat)(x:List Nat×Tr):Rw:=(x.1,ks.getD (2 * i) .num,(if x.1=[] then none else some (ks.getD (2 * i+1) .num)),Co t x.1 x.2 (fs.getD i false))
noncomputable def Aw (t:Tr)(ks:List Kd)(fs:List Bool):List Rw:=(walk [] t).mapIdx (Fv t ks fs)
noncomputable def AkD (K:Os)(H:Hp)(v:V)(a:Option Kd):Prop:=(a=none/\v=.non)\/∃ k,a=some k/\KdAt K H v k
theorem AkD.same {H H':Hp}{v:V}{a:Option Kd}(h:AkD K H v a)(e:SameT H H'):AkD K H' v a:=by
 rcases h with h | ⟨k,h1,h2⟩
 ·exact .inl h
 ·exact .inr ⟨k,h1,h2.same e⟩
noncomputable def LkAt (K:Os)(H:Hp)(v:V)(r:Rw):Prop:=∃(e p:Addr)(g a:V),v=.ref e/\SqT K H e [.ref p,g,a,.str r.2.2.2]/\H p=some (.tup (Bg r.1))/\KdAt K H g r.2.1/\AkD K H a r.2.2.1
theorem LkAt.same {H H':Hp}(e:SameT H H')(v:V)(r:Rw)(h:LkAt K H v r):LkAt K H' v r:=by
 obtain ⟨c,p,g,a,h1,h2,h3,h4,h5⟩:=h
 exact ⟨c,p,g,a,h1,e.tup h2,(e p).1 _ h3,h4.same e,h5.same e⟩
noncomputable def Kt (K:Os):Sp:=fun vs H Q _=>∃(v:V)(t:Tr)(ks:List Kd)(fs:List Bool),vs=[v]/\TrAt K H v t/\B8 t/\t.size<=40/\Hy t ks fs/\∀(p:Addr)(rows:List V)(H':Hp),Same H H'->H p=none->H' p=some (.lst rows)->Al (LkAt K H') rows (Aw t ks fs)->Q (.ref p) H'
theorem Zaf (pl:List Nat):Bg pl=(pl.map fun i=>((i:Nat):Int)).map V.int:=by unfold Bg;rw [T7];rfl
theorem Zij {rs:List (List Nat×Tr)}{sh sh':Ao}{D:Dn}{A:An}{ps:List (Nat×Nat)}(h:KinG rs sh D A ps sh'):∀ x∈rs,∃ w n ts,x.2=.mk w n ts/\De w n:=by
 induction h with
 | nil=>intro x hx;cases hx
 | cons _ hsh _ ih =>
  intro x hx
  rcases O1.mp hx with rfl | hx
  ·exact ⟨_,_,_,rfl,hsh⟩
  ·exact ih x hx
theorem sc_looks:Bm ["tree", "placed", "shapes", "pairs", "settled", "fits", "wanted", "pair", "kinds", "rows", "number", "asked"] ["tree"] (Be Kc):=by walk_at "sc"
theorem Zoa {f:Addr}{fd:FuncData}(F:Fun K "looks" "looks" Kc f fd)(T:Txt K mg)(G_MOST_FORMS:Ep mg "MOST_FORMS" (.int 40))(C_placed_forms:Ba P w K mg base 1 "placed_forms" ["tree"] (Zfc K))(C_kinds_in:Ba P w K mg base 3 "kinds_in" ["placed"] (Ze0 K))(C_fitted:Ba P w K mg base 4 "fitted" ["shapes", "pairs"] (Zb7 K))(C_kinds_told:Ba P w K mg base 2 "kinds_told" ["shapes", "wanted"] (Zdh K))(C_mark_of:Ba P w K mg base 7 "mark_of" ["tree", "place", "form", "fits"] (Zbi K)):A9 P w K mg base Bd 8 f fd ["tree"] (Kt K):=by
 refine F.okq sc_looks (fun vs H Q E h=>?_) (fun cdv A outer s H vs Q E hr h=>?_)
 ·obtain ⟨v,t,ks,fs,rfl,_⟩:=h
  rfl
 ·obtain ⟨v,t,ks,fs,rfl,ht,hts,hsz,⟨ps,sh1,sh2,N,td',hK,hF,hT,hN,hkl,hks⟩,q⟩:=h
  refine ⟨_,Ag (Ar 1 sc_looks (As C_placed_forms hr.m (Aa (qv 0) Ab)))
   (Ag (Bf (Bv Zpc (Ca (Em K) (by rfl) T.len (by decide +kernel) (Aa (qv 1) Ab)) (D4 G_MOST_FORMS) (Br _)) (Ak Zcf) Bj)
   (Ag (Ia (As C_kinds_in hr.m (Aa (qv 1) Ab)) (Da K (n:=2) rfl (Bx (A6 (i:=2) sc_looks.nd rfl (Or.inl rfl)) (Bx (A6 (i:=3) sc_looks.nd rfl (Or.inl rfl)) (C7)))))
   (Ag (Ia (As C_fitted hr.m (Aa (qv 2) (Aa (qv 3) Ab))) (Da K (n:=2) rfl (Bx (A6 (i:=4) sc_looks.nd rfl (Or.inl rfl)) (Bx (A6 (i:=5) sc_looks.nd rfl (Or.inl rfl)) (C7)))))
   (Ag (Ar 6 sc_looks (Av Ab))
   (Ag (Cu Pi rfl (Db K (qv 3)) (A6 (i:=7) sc_looks.nd rfl (Or.inl rfl)) (Ak (Cw (Dk K Pl PySem.F.slot_list_extend PySem.F.type_list_extend (Zp6 K) (qv 6) (Aa (qv 7) Ab)))))
   (Ag (Ar 8 sc_looks (As C_kinds_told hr.m (Aa (qv 4) (Aa (qv 6) Ab))))
   (Ag (Ar 9 sc_looks (Av Ab))
   (Ag (Cu Pi rfl (La K rfl T.enumerate (Aa (qv 1) Ab)) (Da K (n:=2) rfl (Bx (A6 (i:=10) sc_looks.nd rfl (Or.inl rfl)) (Bx (A6 (i:=7) sc_looks.nd rfl (Or.inl rfl)) (C7)))) (Ag (Ar 11 sc_looks (Zam (Bv (Zf0 K hr.u200) (Ap K (qv 7) Af) (Ad Ab) (Br _)) Bu (Ap K (qv 8) (Bs (Dq K) (Bs Kl Af (qv 10)) Af))))
   (Ak (Cw (Dk K Pl P7 P8 Dl (qv 9) (Aa (Ad (Aa (Ap K (qv 7) Af) (Aa (Ap K (qv 8) (Bs Kl Af (qv 10))) (Aa (qv 11) (Aa (As C_mark_of hr.m (Aa (qv 0) (Aa (Ap K (qv 7) Af) (Aa (Ap K (qv 7) Af) (Aa (Ap K (qv 5) (qv 10)) Ab))))) Ab))))) Ab))))))
   (Ak (Ax (qv 9))))))))))),?_⟩
  have bg:=big
  have hwl:(walk [] t).length=t.size:=G1 _ _
  have hpl:ps.length=t.size:=by rw [hK.len,hwl]
  have hfl:fs.length=t.size:=by rw [hF.len,hpl]
  have hfps:(flat ps).length=2 * t.size:=by rw [M3,hpl]
  walk_at "r"
  refine ⟨v,t,rfl,ht,by omega,fun pp rows H1 s1 hpp er al=>?_⟩
  have hrl:rows.length=t.size:=by rw [al.1,hwl]
  walk_at "r"
  refine E9 (SqL.of er) ?_
  walk_at "r"
  refine Zqb ?_ ?_
  ·have:¬ ((40:Int) < (rows.length:Nat)):=by omega
   simpa using this
  walk_at "r"
  refine ⟨pp,rows,walk [] t,ps,sh1,rfl,er,al,by omega,fun r hr2=>by have:=K4 [] t r hr2;simp at this;omega,hK,fun r a b pv H2 s2 qr sh eb alp=>?_⟩
  refine C3 qr rfl ?_
  walk_at "r"
  refine ⟨a,b,sh1,sh2,pv,ps,fs,rfl,sh,eb,alp,hF,by omega,fun r2 a2 c2 H3 s3 qr2 ec2 sg2=>?_⟩
  refine C3 qr2 rfl ?_
  walk_at "r"
  refine ⟨A4,fun pw hpw=>?_⟩
  have s4:=Same.upd (o:=.lst []) hpw
  have eb4:=s4 _ _ (s3 _ _ eb)
  walk_at "r"
  refine .inl ⟨b,rfl,⟨_,SqL.of eb4⟩,?_⟩
  refine Ld (K:=K) (a:=b) (xs:=pv) (fun i σ' H'=>∃ v7 v8 v9 v10 v11,σ'=[some v,some (.ref pp),some (.ref a),some (.ref b),some (.ref a2),some (.ref c2),some (.ref pw),v7,v8,v9,v10,v11]/\H' pw=some (.lst (Am (flat (ps.take i))))/\Same H3 H')
   ⟨_,_,_,_,_,rfl,Ac,s4⟩ ?_ ?_ ?_
  ·rintro i σ' H' _ ⟨_,_,_,_,_,_,_,sm⟩
   exact SqL.of (sm _ _ (s3 _ _ eb))
  ·rintro i x σ' H5 hx ⟨v7,v8,v9,v10,v11,rfl,ew,sm⟩
   obtain ⟨y,hy,pa,rfl,qpa⟩:=alp.get hx
   have hi:=(O2.mp hy).1
   have hfl2:(Am (flat (ps.take i))).length=2 * i:=by unfold Am;rw [O0,M3,Pg];omega
   walk_at "r"
   refine Ci (SqL.of ew) ?_
   walk_at "r"
   refine ⟨pw,pa,_,_,rfl,rfl,ew,(s3.trans sm).tup qpa,by rw [hfl2];show 2 * i+2<=sizeLine;omega,?_⟩
   refine ⟨_,_,_,_,_,rfl,?_,sm.over hpw⟩
   rw [Ac,Qd,hy]
   show some (HO.lst (Am (flat (ps.take i))++[.int (y.1:Nat),.int (y.2:Nat)]))=some (.lst (Am (flat (ps.take i++[y]))))
   rw [Zhr,Fe]
   rfl
  ·rintro σ' H5 ⟨v7,v8,v9,v10,v11,rfl,ew,sm⟩
   rw [alp.1,Py] at ew
   walk_at "r"
   refine ⟨a2,pw,sh2,flat ps,ks,N,td',rfl,sg2.same sm,ew,hT,hN,by omega,hkl,hks,fun c3 us H6 s6 hc3 ec3 alk=>?_⟩
   walk_at "r"
   refine ⟨A4,fun pr hpr=>?_⟩
   have s7:=Same.upd (o:=.lst []) hpr
   have sA:Same H1 H6:=((s2.trans s3).trans sm).trans s6
   have hpr0:H pr=none:=(s1.trans sA).free hpr
   walk_at "r"
   refine ⟨pp,rows,rfl,SqL.of (s7 _ _ (sA _ _ er)),?_⟩
   have e6:H6 c2=some (.lst (fs.map V.bl)):=(sm.trans s6) _ _ ec2
   refine Le (K:=K) (a:=pp) (xs:=rows) (fun i σ' H'=>∃ w7 Dg Ec rv,σ'=[some v,some (.ref pp),some (.ref a),some (.ref b),some (.ref a2),some (.ref c2),some (.ref pw),w7,some (.ref c3),some (.ref pr),Dg,Ec]/\H' pr=some (.lst rv)/\Al (LkAt K H') rv ((Aw t ks fs).take i)/\Same H6 H')
    ⟨_,_,_,[],rfl,Ac,.nil,s7⟩ ?_ ?_ ?_
   ·rintro i σ' H' _ ⟨_,_,_,_,_,_,_,sm2⟩
    exact SqL.of (sm2 _ _ (sA _ _ er))
   ·rintro i x tt σ' H7 hx htt ⟨w7,Dg,Ec,rv,rfl,erv,alr,sm2⟩
    obtain ⟨y,hy,ra,pl,u,rfl,qra,epl,hu⟩:=al.get hx
    have hi:=(O2.mp hy).1
    have hr0:(Aw t ks fs)[i]?=some (Fv t ks fs i y):=by unfold Aw;rw [List.getElem?_mapIdx,hy];rfl
    have hif:i < fs.length:=by omega
    have hik:2 * i < ks.length:=by omega
    have hik1:2 * i+1 < ks.length:=by omega
    have g0:ks.getD (2 * i) .num=ks[2 * i]:=by rw [Qw,Ou hik];rfl
    have g1:ks.getD (2 * i+1) .num=ks[2 * i+1]:=by rw [Qw,Ou hik1];rfl
    have gf:fs.getD i false=fs[i]:=by rw [Qw,Ou hif];rfl
    have s8:=Same.upd (o:=.tup [.int (i:Nat),.ref ra]) htt
    have sB:Same H1 (upd H7 tt (.tup [.int (i:Nat),.ref ra])):=(sA.trans sm2).trans s8
    have sC:Same H6 (upd H7 tt (.tup [.int (i:Nat),.ref ra])):=sm2.trans s8
    have erv8:=s8 _ _ erv
    have alr8:=alr.mono (LkAt.same s8.t)
    refine C3 (SqT.of Ac) rfl ?_
    revert sB sC erv8 alr8
    generalize upd H7 tt (.tup [.int (i:Nat),.ref ra])=H8
    intro sB sC erv8 alr8
    obtain ⟨kv,hkv,kk⟩:=alk.get' (Ou hik)
    obtain ⟨kw,hkw,kk2⟩:=alk.get' (Ou hik1)
    have epl8:=sB _ _ epl
    have qpl8:SqT K H8 pl (Bg y.1):=SqT.of epl8
    have i2:(2:Int) * (i:Nat)=((2 * i:Nat):Int):=by omega
    have i3:(2:Int) * (i:Nat)+1=((2 * i+1:Nat):Int):=by omega
    walk_at "q"
    refine viaE (R:=fun av H'=>AkD K H6 av (Fv t ks fs i y).2.2.1/\Same H8 H') ?_ ?_
    ·intro Y hY
     walk_at "r"
     refine A2 (sB.tup qra) rfl ?_
     walk_at "r"
     refine ⟨A4,fun p9 h9=>?_⟩
     have s9:=Same.upd (o:=.tup []) h9
     refine Znw (xs:=y.1.map fun i=>((i:Nat):Int)) (ys:=[]) (by rw [<- Zaf];exact s9.tup qpl8) (SqT.of Ac) ?_
     walk_at "r"
     refine Ce (fun c=>?_) (fun c=>?_)
     ·have c:y.1=[]:=by simpa using c
      walk_at "r"
      exact hY _ _ ⟨.inl ⟨if_pos c,rfl⟩,s9⟩
     ·have c:y.1≠[]:=fun e=>c (by rw [e];rfl)
      walk_at "r"
      rw [i3]
      refine A1 (SqL.of (s9 _ _ (sC _ _ ec3))) (Bp hkw) ?_
      refine hY _ _ ⟨.inr ⟨_,if_neg c,?_⟩,s9⟩
      rw [g1]
      exact kk2
    rintro av H9 ⟨kav,s9⟩
    walk_at "q"
    walk_at "r"
    refine Ci (SqL.of (s9 _ _ erv8)) ?_
    walk_at "r"
    refine A2 ((sB.trans s9).tup qra) rfl ?_
    walk_at "r"
    rw [i2]
    refine A1 (SqL.of ((sC.trans s9) _ _ ec3)) (Bp hkv) ?_
    walk_at "r"
    refine A2 ((sB.trans s9).tup qra) rfl ?_
    walk_at "r"
    refine A2 ((sB.trans s9).tup qra) rfl ?_
    walk_at "r"
    have hfb2:(fs.map V.bl)[i]?=some (.bl fs[i]):=by rw [Pk,Ou hif];rfl
    refine A1 (SqL.of ((sC.trans s9) _ _ e6)) (Bp hfb2) ?_
    walk_at "r"
    obtain ⟨wd,n,ts,hyt,hshy⟩:=Zij hK y (P4 hy)
    have hdep:=K4 [] t y (P4 hy)
    have hsubt:=M0 t y (P4 hy)
    have hmg:(Fv t ks fs i y).2.2.2=Co t y.1 (.mk wd n ts) fs[i]:=by show Co t y.1 y.2 (fs.getD i false)=_;rw [gf,hyt]
    refine ⟨v,t,pl,y.1,u,wd,n,ts,fs[i],rfl,ht.same ((s1.trans sB).trans s9),hts,(s9.tup qpl8),hsubt,by simp at hdep;omega,by rw [<- hyt];exact hu.same (sB.trans s9),hshy,fun HX sX=>?_⟩
    rw [<- hmg]
    walk_at "r"
    refine ⟨A5,fun pz hpz=>?_⟩
    have sz:=Same.upd (o:=.tup [.ref pl,kv,av,.str (Fv t ks fs i y).2.2.2]) hpz
    walk_at "r"
    have s9X:=(s9.trans sX).trans sz
    have erv9:=s9X _ _ erv8
    have hrv:rv.length < sizeLine:=by rw [alr.1,Pg];omega
    refine Df erv9 hrv ?_
    have tz:SameT H8 (upd (upd HX pz (.tup [.ref pl,kv,av,.str (Fv t ks fs i y).2.2.2])) pr (.lst (rv++[.ref pz]))):=s9X.t.trans (SameT.set erv9)
    refine ⟨_,_,_,rv++[.ref pz],rfl,Ac,?_,?_⟩
    ·rw [Qd,hr0]
     refine (alr8.mono (LkAt.same tz)).snoc ⟨pz,pl,kv,av,rfl,(SameT.set erv9).tup (SqT.of Ac),(tz pl).1 _ epl8,?_,(kav.same sC.t).same tz⟩
     show KdAt K _ kv (ks.getD (2 * i) .num)
     rw [g0]
     exact (kk.same sC.t).same tz
    ·exact (sC.trans s9X).over hpr
   ·rintro σ' H7 ⟨w7,Dg,Ec,rv,rfl,erv,alr,sm2⟩
    have e9:rows.length=(Aw t ks fs).length:=by unfold Aw;rw [Us,hrl,hwl]
    rw [e9,Py] at alr
    walk_at "r"
    exact q pr rv H7 ((s1.trans sA).trans sm2) hpr0 erv alr
noncomputable def Zba (K:Os):Sp:=fun vs H Q _=>∃(wd:Str)(nv:V)(n:Dt)(m:Nat),vs=[.str wd,nv,.int ((m:Nat):Int)]/\IsN K H nv n/\m<=3/\∀ v H',Same H H'->TrAt K H' v (.mk wd n (Pp m Za2))->Q v H'
theorem Zma:(["_law_k"]:List Str).Nodup:=by decide +kernel
theorem Ziv:Bm ["_law_word", "_law_note", "_law_many"] ["_law_word", "_law_note", "_law_many"] (Be Jc):=by walk_at "sc"
theorem Zlw {f:Addr}{fd:FuncData}(F:Fun K "_law_form" "_law_form" Jc f fd)(T:Txt K mg):A9 P w K mg base Bd 1 f fd ["_law_word", "_law_note", "_law_many"] (Zba K):=by
 refine F.okq Ziv (fun vs H Q E h=>?_) (fun cdv A outer s H vs Q E hr h=>?_)
 ·obtain ⟨wd,nv,n,m,rfl,_⟩:=h
  rfl
 ·obtain ⟨wd,nv,n,m,rfl,hn,hm,q⟩:=h
  refine ⟨_,Ak (Ax (Ad (Aa (qv 0) (Aa (qv 1) (Aa (Fd (Zbr K) (by rfl) T.tuple (by decide +kernel) (Aa (F4 (N:=["_law_k"]) (σ0:=Dc 1 []) rfl (Ea rfl (by decide +kernel) (by decide +kernel) (by decide +kernel)) (Hw rfl T.range (Aa (qv 2) Ab)) (D7 rfl (by rfl)) (fun _ _ _ _=>A6 (i:=0) Zma rfl (Or.inl rfl)) (fun _ _ _ _=>Go) (fun _ _ _ _=>Ad (Aa Ah (Aa Bu (Aa (Ad Ab) Ab))))) Ab)) Ab))))),?_⟩
  have bg:=big
  walk_at "r"
  refine ⟨by omega,by omega,fun D hD=>?_⟩
  refine Zbv (Pv:=fun i ys σ' H'=>∃ v0,σ'=[v0]/\Al (TrAt K H') ys (Pp i Za2)/\Same H H') ⟨none,rfl,.nil,Same.upd hD⟩ ?_ ?_
  ·rintro i ys σ' H' hi hys ⟨v0,rfl,aly,sm⟩
   walk_at "r"
   refine ⟨A4,fun pe he=>?_⟩
   walk_at "r"
   refine ⟨Bh,fun pg hg=>?_⟩
   have s1:=Same.upd (o:=.tup []) he
   have e1:upd H' pe (.tup []) pe=some (.tup []):=Ac
   revert s1 e1 hg
   generalize upd H' pe (.tup [])=H1
   intro hg s1 e1
   have s2:=Same.upd (o:=.tup [.str "gap",.non,.ref pe]) hg
   have e2:upd H1 pg (.tup [.str "gap",.non,.ref pe]) pg=some (.tup [.str "gap",.non,.ref pe]):=Ac
   revert s2 e2
   generalize upd H1 pg (.tup [.str "gap",.non,.ref pe])=H2
   intro s2 e2
   have s5:=s1.trans s2
   have tv:TrAt K H2 (.ref pg) Za2:=.mk (SqT.of e2) (.inl ⟨rfl,rfl⟩) (SqT.of (s2 _ _ e1)) rfl (fun j v t h _=>by simp at h)
   have t6:SameT H' (upd H2 D (.lst (ys++[.ref pg]))):=s5.t.trans (SameT.set (s5 _ _ hys))
   refine ⟨ys,s5 _ _ hys,by rw [aly.1];simp;omega,_,Ac,_,rfl,?_,(sm.trans s5).over hD⟩
   rw [List.replicate_succ']
   exact (aly.mono fun _ _ a=>a.sameT t6).snoc (tv.sameT (SameT.set (s5 _ _ hys)))
  ·rintro ys σ' H' hys ⟨v0,rfl,aly,sm⟩
   have em:((m:Int)).toNat=m:=by omega
   rw [em] at aly
   walk_at "r"
   refine Zff (SqL.of hys) fun pt hp1=>?_
   walk_at "r"
   refine ⟨Bh,fun pr hp2=>?_⟩
   have s6:=Same.upd (o:=.tup ys) hp1
   have s7:=Same.upd (o:=.tup [.str wd,nv,.ref pt]) hp2
   have aly':=aly.mono fun _ _ a=>a.same (s6.trans s7)
   exact q _ _ ((sm.trans s6).trans s7) (.mk (SqT.of Ac) (hn.same (((sm.trans s6).trans s7).t)) (SqT.of (s7 _ _ Ac)) aly'.1 aly'.2)
end
noncomputable def Et:Kd->Nat
 | .to x y=>max (Et x) (Et y)+1
 | _=>0
noncomputable def Hg:Kd->Dt
 | .num=>.tup [.flat (.str "num")]
 | .truth=>.tup [.flat (.str "truth")]
 | .any n=>.tup [.flat (.str "any"),.flat (.int (n:Nat))]
 | .to x y=>.tup [.flat (.str "to"),Hg x,Hg y]
theorem KdAt.d {K:Os}{H:Hp}{v:V}{k:Kd}(h:KdAt K H v k):IsD K H (Et k+1) v (Hg k):=by
 induction h with
 | num q =>
  refine .tup q rfl fun j v d h h'=>?_
  match j,h,h' with
  | 0,h,h'=>cases h;cases h';exact .flat rfl
 | truth q =>
  refine .tup q rfl fun j v d h h'=>?_
  match j,h,h' with
  | 0,h,h'=>cases h;cases h';exact .flat rfl
 | any q =>
  refine .tup q rfl fun j v d h h'=>?_
  match j,h,h' with
  | 0,h,h'=>cases h;cases h';exact .flat rfl
  | 1,h,h'=>cases h;cases h';exact .flat rfl
 | @to a u v x y q hx hy ihx ihy =>
  refine .tup q rfl fun j v d h h'=>?_
  match j,h,h' with
  | 0,h,h'=>cases h;cases h';exact .flat rfl
  | 1,h,h'=>cases h;cases h';exact ihx.up (Nat.succ_le_succ (Nat.le_max_left _ _))
  | 2,h,h'=>cases h;cases h';exact ihy.up (Nat.succ_le_succ (Nat.le_max_right _ _))
noncomputable def Cq (sh:Ao):Nat->Nat->Option Nat
 | 0,_=>none
 | n+1,i=>match sh[i]? with
  | none=>none
  | some (.same k)=>Cq sh n k
  | some _=>some i
theorem Ee {sh:Ao}:∀{n i r:Nat},Cq sh n i=some r->Last sh i r
 | 0,i,r,h=>by cases h
 | n+1,i,r,h=>by
  unfold Cq at h
  cases e:sh[i]? with
  | none=>rw [e] at h;cases h
  | some s =>
   rw [e] at h
   cases s with
   | same k=>obtain ⟨m,hm⟩:=Ee (n:=n) h;exact ⟨m+1,.step e hm⟩
   | num=>cases h;exact ⟨0,.root e rfl⟩
   | truth=>cases h;exact ⟨0,.root e rfl⟩
   | any=>cases h;exact ⟨0,.root e rfl⟩
   | to a b=>cases h;exact ⟨0,.root e rfl⟩
noncomputable def I0 (sh:Ao)(ps:Ps):List Nat->List Nat->Option (Option (List Nat))
 | [],w=>some (some w)
 | p::rest,w=>match Cq sh 60 p with
  | none=>none
  | some r=>if ps r=some false then some none else I0 sh ps rest (w++[r])
theorem Zfm {sh:Ao}{ps:Ps}:∀{xs w:List Nat}{o:Option (List Nat)},I0 sh ps xs w=some o->Eg sh ps xs w o
 | [],w,o,h=>by cases h;exact .nil
 | p::rest,w,o,h=>by
  unfold I0 at h
  cases e:Cq sh 60 p with
  | none=>rw [e] at h;cases h
  | some r =>
   simp only [e] at h
   by_cases c:ps r=some false
   ·rw [if_pos c] at h;cases h;exact .hit (Ee e) c
   ·rw [if_neg c] at h;exact .go (Ee e) c (Zfm h)
theorem Zab {α:Type}{w:List α}{x:α}(h:w.getLast?=some x):w=w.dropLast++[x]:=by
 obtain ⟨ys,rfl⟩:=List.getLast?_eq_some_iff.mp h
 simp
noncomputable def Hj (sh:Ao):Nat->Ps->List Nat->Option Bool
 | 0,_,_=>none
 | f+1,ps,w=>match w.getLast? with
  | none=>some false
  | some Ae=>match ps Ae with
   | some _=>Hj sh f (Cc ps Ae true) w.dropLast
   | none=>match sh[Ae]? with
    | none=>none
    | some s=>match I0 sh (Cc ps Ae false) s.parts w with
     | none=>none
     | some none=>some true
     | some (some w')=>Hj sh f (Cc ps Ae false) w'
theorem N2 {sh:Ao}:∀{f:Nat}{ps:Ps}{w:List Nat}{b:Bool},Hj sh f ps w=some b->∃ n,n<=f/\HoldsN sh n ps w b
 | 0,ps,w,b,h=>by cases h
 | f+1,ps,w,b,h=>by
  unfold Hj at h
  cases e:w.getLast? with
  | none =>
   simp only [e] at h
   cases h
   rw [Ud.mp e]
   exact ⟨0,Ph _,.nil⟩
  | some Ae =>
   simp only [e] at h
   have ew:=Zab e
   cases e1:ps Ae with
   | some x =>
    simp only [e1] at h
    obtain ⟨n,h1,h2⟩:=N2 h
    rw [ew]
    exact ⟨n+1,by omega,.seen e1 h2⟩
   | none =>
    simp only [e1] at h
    cases e2:sh[Ae]? with
    | none=>simp only [e2] at h;cases h
    | some s =>
     simp only [e2] at h
     cases e3:I0 sh (Cc ps Ae false) s.parts w with
     | none=>simp only [e3] at h;cases h
     | some o =>
      have hp:=Zfm e3
      rw [ew] at hp
      cases o with
      | none=>simp only [e3] at h;cases h;rw [ew];exact ⟨1,by omega,.hit e1 e2 hp⟩
      | some w' =>
       simp only [e3] at h
       obtain ⟨n,h1,h2⟩:=N2 h
       rw [ew]
       exact ⟨n+1,by omega,.go e1 e2 hp h2⟩
noncomputable def Hd:Sh->Option (Nat×Nat)
 | .to a b=>some (a,b)
 | _=>none
theorem Zex {s:Sh}(h:Hd s=none):s.wd ≠ "to" := by
 cases s with
 | to a b=>cases h
 | num=>show ("num" : Str) ≠ "to";decide +kernel
 | truth=>show ("truth" : Str) ≠ "to";decide +kernel
 | any=>show ("any" : Str) ≠ "to";decide +kernel
 | same k=>show ("same" : Str) ≠ "to";decide +kernel
theorem Zcb {s:Sh}{p:Nat×Nat}(h:Hd s=some p):s=.to p.1 p.2:=by
 cases s <;> cases h
 rfl
noncomputable def E2:Nat->Ao->List (Nat×Nat)->Option (Option Ao)
 | 0,_,_=>none
 | f+1,m,w=>match w.getLast? with
  | none=>some (some m)
  | some p=>match Cq m 60 p.1 with
   | none=>none
   | some l=>match Cq m 60 p.2 with
    | none=>none
    | some r=>if l=r then E2 f m w.dropLast else match m[l]? with
     | none=>none
     | some sl=>match m[r]? with
      | none=>none
      | some sr=>if sr=.any then E2 f (m.set r (.same l)) w.dropLast else if sl=.any then E2 f (m.set l (.same r)) w.dropLast else match Hd sl with
       | none=>some none
       | some x=>match Hd sr with
        | none=>some none
        | some y=>E2 f (m.set l (.same r)) (w.dropLast++[(x.1,y.1),(x.2,y.2)])
theorem Ih:∀{f:Nat}{m:Ao}{w:List (Nat×Nat)}{o:Option Ao},E2 f m w=some o->∃ n,n<=f/\JoinN n m w o
 | 0,m,w,o,h=>by cases h
 | f+1,m,w,o,h=>by
  unfold E2 at h
  cases e:w.getLast? with
  | none =>
   simp only [e] at h
   cases h
   rw [Ud.mp e]
   exact ⟨0,Ph _,.nil⟩
  | some p =>
   simp only [e] at h
   have ew:=Zab e
   cases e1:Cq m 60 p.1 with
   | none=>simp only [e1] at h;cases h
   | some l =>
   simp only [e1] at h
   cases e2:Cq m 60 p.2 with
   | none=>simp only [e2] at h;cases h
   | some r =>
   simp only [e2] at h
   have l1:=Ee e1
   have l2:=Ee e2
   by_cases c:l=r
   ·rw [if_pos c] at h
    obtain ⟨n,h1,h2⟩:=Ih h
    rw [ew]
    exact ⟨n+1,by omega,.eq l1 (c ▸ l2) h2⟩
   rw [if_neg c] at h
   cases e3:m[l]? with
   | none=>simp only [e3] at h;cases h
   | some sl =>
   simp only [e3] at h
   cases e4:m[r]? with
   | none=>simp only [e4] at h;cases h
   | some sr =>
   simp only [e4] at h
   by_cases c1:sr=.any
   ·rw [if_pos c1] at h
    obtain ⟨n,h1,h2⟩:=Ih h
    rw [ew]
    exact ⟨n+1,by omega,.anyR l1 l2 c (c1 ▸ e4) h2⟩
   rw [if_neg c1] at h
   by_cases c2:sl=.any
   ·rw [if_pos c2] at h
    obtain ⟨n,h1,h2⟩:=Ih h
    rw [ew]
    exact ⟨n+1,by omega,.anyL l1 l2 c e4 c1 (c2 ▸ e3) h2⟩
   rw [if_neg c2] at h
   cases e5:Hd sl with
   | none =>
    simp only [e5] at h
    cases h
    rw [ew]
    exact ⟨1,by omega,.clash l1 l2 c e3 e4 c2 c1 (.inl (Zex e5))⟩
   | some x =>
   simp only [e5] at h
   cases e6:Hd sr with
   | none =>
    simp only [e6] at h
    cases h
    rw [ew]
    exact ⟨1,by omega,.clash l1 l2 c e3 e4 c2 c1 (.inr (Zex e6))⟩
   | some y =>
   simp only [e6] at h
   obtain ⟨n,h1,h2⟩:=Ih h
   rw [ew]
   exact ⟨n+1,by omega,.to l1 l2 c (by rw [e3,Zcb e5]) (by rw [e4,Zcb e6]) h2⟩
noncomputable def Ef:List (Nat×Nat)->Ao->Option (List Bool×Ao)
 | [],m=>some ([],m)
 | (g,a)::ps,m=>match E2 300 m [(g,a)] with
  | none=>none
  | some none=>match Ef ps m with
   | none=>none
   | some x=>some (false::x.1,x.2)
  | some (some m1)=>match Cq m1 60 g with
   | none=>none
   | some r=>match Hj m1 300 (fun _=>none) [r] with
    | none=>none
    | some true=>match Ef ps m with
     | none=>none
     | some x=>some (false::x.1,x.2)
    | some false=>match Ef ps m1 with
     | none=>none
     | some x=>some (true::x.1,x.2)
theorem K8:∀{ps:List (Nat×Nat)}{m:Ao}{x:List Bool×Ao},Ef ps m=some x->FitG ps m x.1 x.2
 | [],m,x,h=>by cases h;exact .nil
 | (g,a)::ps,m,x,h=>by
  unfold Ef at h
  cases e:E2 300 m [(g,a)] with
  | none=>simp only [e] at h;cases h
  | some o =>
   obtain ⟨n,hn,j⟩:=Ih e
   cases o with
   | none =>
    simp only [e] at h
    cases e1:Ef ps m with
    | none=>simp only [e1] at h;cases h
    | some y=>simp only [e1] at h;cases h;exact .clash j (by omega) (K8 e1)
   | some m1 =>
    simp only [e] at h
    cases e2:Cq m1 60 g with
    | none=>simp only [e2] at h;cases h
    | some r =>
    simp only [e2] at h
    cases e3:Hj m1 300 (fun _=>none) [r] with
    | none=>simp only [e3] at h;cases h
    | some b =>
     obtain ⟨k,hk,hh⟩:=N2 e3
     cases b with
     | true =>
      simp only [e3] at h
      cases e1:Ef ps m with
      | none=>simp only [e1] at h;cases h
      | some y=>simp only [e1] at h;cases h;exact .loop j (by omega) (Ee e2) hh (by omega) (K8 e1)
     | false =>
      simp only [e3] at h
      cases e1:Ef ps m1 with
      | none=>simp only [e1] at h;cases h
      | some y=>simp only [e1] at h;cases h;exact .ok j (by omega) (Ee e2) hh (by omega) (K8 e1)
noncomputable def G3 (sh:Ao):List Nat->Option (List Nat)
 | []=>some []
 | p::ps=>match Cq sh 60 p with
  | none=>none
  | some r=>match G3 sh ps with
   | none=>none
   | some rs=>some (r::rs)
theorem Zd4 {sh:Ao}:∀{ps rs:List Nat},G3 sh ps=some rs->Lasts sh ps rs
 | [],rs,h=>by cases h;exact .nil
 | p::ps,rs,h=>by
  unfold G3 at h
  cases e:Cq sh 60 p with
  | none=>simp only [e] at h;cases h
  | some r =>
   simp only [e] at h
   cases e1:G3 sh ps with
   | none=>simp only [e1] at h;cases h
   | some rs'=>simp only [e1] at h;cases h;exact .cons (Ee e) (Zd4 e1)
noncomputable def mkF (td:Td):Sh->List Nat->Option Kd
 | .num,[]=>some .num
 | .truth,[]=>some .truth
 | .to _ _,[r,s]=>match td r,td s with
  | some x,some y=>some (.to x y)
  | _,_=>none
 | _,_=>none
theorem Zob {td:Td}{s:Sh}{rs:List Nat}{k:Kd}(h:mkF td s rs=some k):Ho td s rs k:=by
 unfold mkF at h
 split at h
 ·cases h;exact .num
 ·cases h;exact .truth
 ·split at h
  ·rename_i e1 e2;cases h;exact .to e1 e2
  ·cases h
 ·cases h
noncomputable def E8 (sh:Ao):Nat->Td->Nat->List Nat->Option Td
 | 0,_,_,_=>none
 | f+1,td,c,w=>match w.getLast? with
  | none=>some td
  | some x=>match Cq sh 60 x with
   | none=>none
   | some r=>match sh[r]? with
    | none=>none
    | some s=>match G3 sh s.parts with
     | none=>none
     | some rs=>match td r with
      | some _=>E8 sh f td c w.dropLast
      | none=>match Ck td rs with
       | p::_=>E8 sh f td c (w++[p])
       | []=>if s=.any then E8 sh f (Dz td r (.any c)) (c+1) w else match mkF td s rs with
        | none=>none
        | some k=>E8 sh f (Dz td r k) c w
theorem Il {sh:Ao}:∀{f:Nat}{td:Td}{c:Nat}{w:List Nat}{td':Td},E8 sh f td c w=some td'->∃ n,n<=f/\ToldN sh n td c w td'
 | 0,td,c,w,td',h=>by cases h
 | f+1,td,c,w,td',h=>by
  unfold E8 at h
  cases e:w.getLast? with
  | none =>
   simp only [e] at h
   cases h
   rw [Ud.mp e]
   exact ⟨0,Ph _,.nil⟩
  | some x =>
  simp only [e] at h
  have ew:=Zab e
  cases e1:Cq sh 60 x with
  | none=>simp only [e1] at h;cases h
  | some r =>
  simp only [e1] at h
  have hl:=Ee e1
  cases e2:sh[r]? with
  | none=>simp only [e2] at h;cases h
  | some s =>
  simp only [e2] at h
  cases e3:G3 sh s.parts with
  | none=>simp only [e3] at h;cases h
  | some rs =>
  simp only [e3] at h
  have hp:=Zd4 e3
  cases e4:td r with
  | some k =>
   simp only [e4] at h
   obtain ⟨n,h1,h2⟩:=Il h
   rw [ew]
   exact ⟨n+1,by omega,.seen hl e2 hp e4 h2⟩
  | none =>
  simp only [e4] at h
  cases e5:Ck td rs with
  | cons p q =>
   simp only [e5] at h
   obtain ⟨n,h1,h2⟩:=Il h
   rw [ew] at h2 ⊢
   exact ⟨n+1,by omega,.miss hl e2 hp e4 e5 h2⟩
  | nil =>
  simp only [e5] at h
  by_cases c1:s=.any
  ·rw [if_pos c1] at h
   obtain ⟨n,h1,h2⟩:=Il h
   subst c1
   rw [ew] at h2 ⊢
   exact ⟨n+1,by omega,.any hl e2 hp e4 h2⟩
  ·rw [if_neg c1] at h
   cases e6:mkF td s rs with
   | none=>simp only [e6] at h;cases h
   | some k =>
    simp only [e6] at h
    obtain ⟨n,h1,h2⟩:=Il h
    rw [ew] at h2 ⊢
    exact ⟨n+1,by omega,.mk hl e2 hp e4 e5 (Zob e6) h2⟩
noncomputable def Gp (sh:Ao)(td:Td):List Nat->Option (List Kd)
 | []=>some []
 | x::xs=>match Cq sh 60 x with
  | none=>none
  | some r=>match td r with
   | none=>none
   | some k=>match Gp sh td xs with
    | none=>none
    | some ks=>some (k::ks)
theorem Zeu {sh:Ao}{td:Td}:∀{xs:List Nat}{ks:List Kd},Gp sh td xs=some ks->ks.length=xs.length/\∀(j x:Nat)(k:Kd),xs[j]?=some x->ks[j]?=some k->∃ r,Last sh x r/\td r=some k
 | [],ks,h=>by cases h;exact ⟨rfl,fun j x k h=>by simp at h⟩
 | x::xs,ks,h=>by
  unfold Gp at h
  cases e:Cq sh 60 x with
  | none=>simp only [e] at h;cases h
  | some r =>
  simp only [e] at h
  cases e1:td r with
  | none=>simp only [e1] at h;cases h
  | some k =>
  simp only [e1] at h
  cases e2:Gp sh td xs with
  | none=>simp only [e2] at h;cases h
  | some ks' =>
  simp only [e2] at h
  cases h
  obtain ⟨h1,h2⟩:=Zeu e2
  refine ⟨by rw [O3,O3,h1],fun j y k' hy hk=>?_⟩
  cases j with
  | zero=>cases hy;cases hk;exact ⟨r,Ee e,e1⟩
  | succ j=>exact h2 j y k' (by simpa using hy) (by simpa using hk)
noncomputable def Zfq (ps:List (Nat×Nat))(sh:Ao):Option (List Kd×List Bool):=match Ef ps sh with
 | none=>none
 | some x=>match E8 x.2 300 (fun _=>none) 0 (flat ps).reverse with
  | none=>none
  | some td=>match Gp x.2 td (flat ps) with
   | none=>none
   | some ks=>some (ks,x.1)
theorem Cf {t:Tr}{ps:List (Nat×Nat)}{sh:Ao}{ks:List Kd}{fs:List Bool}(k:KinG (walk [] t) [.num,.truth] (fun _=>none) (fun q=>if q=[] then some (fun _=>none) else none) ps sh)(h:Zfq ps sh=some (ks,fs)):Hy t ks fs:=by
 unfold Zfq at h
 cases e:Ef ps sh with
 | none=>simp only [e] at h;cases h
 | some x =>
 simp only [e] at h
 cases e1:E8 x.2 300 (fun _=>none) 0 (flat ps).reverse with
 | none=>simp only [e1] at h;cases h
 | some td =>
 simp only [e1] at h
 cases e2:Gp x.2 td (flat ps) with
 | none=>simp only [e2] at h;cases h
 | some ks' =>
 simp only [e2] at h
 cases h
 obtain ⟨n,hn,ht⟩:=Il e1
 obtain ⟨h1,h2⟩:=Zeu e2
 exact ⟨_,_,_,n,td,k,K8 e,ht,by omega,h1,h2⟩
noncomputable abbrev Cs:=Tr×List Rw
noncomputable def B3 (rs:List Rw):Bool:=decide (0 < rs.length/\rs.length<=9) && rs.all fun r=>decide (Et r.2.1<=9) && (match r.2.2.1 with | none=>true | some a=>decide (Et a<=9)) && decide (r.1.length<=9) && rs.all fun r'=>decide (r'.1=r.1->r'.2.1=r.2.1)
noncomputable def B5 (c:Cs):Prop:=∃ ks fs,Hy c.1 ks fs/\Aw c.1 ks fs=c.2/\B8 c.1/\c.1.size<=40/\B3 c.2=true
theorem A7 {pl:List Nat}{w:Str}{n:Dt}{ts:List Tr}{rs:List (List Nat×Tr)}{sh sh':Ao}{D:Dn}{A:An}{e:Ev}{ps:List (Nat×Nat)}{g d:Nat}(hA:A pl=some e)(hsh:De w n)(hg:D0 sh.length w n e=g)(hd:(D pl).getD g=d)
  (k:KinG rs (sh++(B1 sh.length w).2.2.2) (D8 D pl 0 (B1 sh.length w).2.1) (G9 A pl (fun j=>B7 e (nb w n j) (B1 sh.length w).2.2.1) (B1 sh.length w).2.1.length) ps sh'):KinG ((pl,.mk w n ts)::rs) sh D A ((g,d)::ps) sh':=by
 subst hg hd
 exact .cons hA hsh k
theorem Gu (a:Str):De "fn" (.flat (.str a)):=⟨fun _=>⟨a,rfl⟩,fun h=>absurd h (by decide +kernel)⟩
theorem Lo (a:Str):De "let" (.flat (.str a)):=⟨fun _=>⟨a,rfl⟩,fun h=>absurd h (by decide +kernel)⟩
theorem Dd (a:Str):De "name" (.flat (.str a)):=⟨fun _=>⟨a,rfl⟩,fun h=>absurd h (by decide +kernel)⟩
theorem G6 (a b:Str):De "rec" (.tup [.flat (.str a),.flat (.str b)]):=⟨fun h=>by rcases h with h | h | h <;> exact absurd h (by decide +kernel),fun _=>⟨a,b,rfl⟩⟩
theorem Ay {w:Str}{n:Dt}(h:w ≠ "fn" /\ w ≠ "let" /\ w ≠ "name" /\ w ≠ "rec"):De w n:=Zim h.1 h.2.1 h.2.2.1 h.2.2.2
theorem Me (m k:Nat)(a:Str){e:Ev}:D0 m "name" (.flat (.str a)) (B7 e [a] [k])=k:=by
 show ((B7 e [a] [k]) a).getD _=k
 rw [show B7 e [a] [k] a=some k from if_pos rfl]
 rfl
theorem Zhv (m k l:Nat)(a b:Str)(h:a≠b){e:Ev}:D0 m "name" (.flat (.str a)) (B7 e [a,b] [k,l])=k:=by
 show ((B7 e [a,b] [k,l]) a).getD _=k
 rw [show B7 e [a,b] [k,l] a=some k from by show (if a=b then some l else if a=a then some k else e a)=some k;rw [if_neg h,if_pos rfl]]
 rfl
theorem Zn5 (m k l:Nat)(a b:Str){e:Ev}:D0 m "name" (.flat (.str b)) (B7 e [a,b] [k,l])=l:=by
 show ((B7 e [a,b] [k,l]) b).getD _=l
 rw [show B7 e [a,b] [k,l] b=some l from if_pos rfl]
 rfl
theorem Nn (t:Tr)(pl:List Nat)(f:Tr):Co t pl f false = "unlike" := by cases f;rfl
theorem Znr (t:Tr)(pl:List Nat)(n:Dt)(ts:List Tr):Co t pl (.mk "odd" n ts) true = "odd" := rfl
theorem Bo {t:Tr}{pl:List Nat}{w:Str}{n:Dt}{ts:List Tr}(h:w ≠ "odd" /\ w ≠ "name"):Co t pl (.mk w n ts) true = "" := by
 show (if true=false then ("unlike" : Str) else if w = "odd" then "odd" else if w = "name" /\ Bw (Gy n) 0 (Cg t pl)=none then "free" else "") = ""
 rw [if_neg (by decide),if_neg h.1,if_neg (fun z=>h.2 z.1)]
theorem Zl3 {t:Tr}{pl:List Nat}{a:Str}{ts:List Tr}(h:Bw a 0 (Cg t pl)=none):Co t pl (.mk "name" (.flat (.str a)) ts) true = "free" := by
 show (if true=false then ("unlike" : Str) else if ("name" : Str) = "odd" then "odd" else if ("name" : Str) = "name" /\ Bw a 0 (Cg t pl)=none then "free" else "") = "free"
 rw [if_neg (by decide),if_neg (by decide +kernel),if_pos ⟨rfl,h⟩]
theorem Ko {t:Tr}{pl:List Nat}{a:Str}{ts:List Tr}{k:Nat}{l:List Str}(h:Bw a 0 l=some k)(e:Cg t pl=l:=by rfl):Co t pl (.mk "name" (.flat (.str a)) ts) true = "" := by
 show (if true=false then ("unlike" : Str) else if ("name" : Str) = "odd" then "odd" else if ("name" : Str) = "name" /\ Bw a 0 (Cg t pl)=none then "free" else "") = ""
 rw [if_neg (by decide),if_neg (by decide +kernel),if_neg (fun z=>by rw [e,h] at z;cases z.2)]
theorem A8 {t:Tr}{ks:List Kd}{fs:List Bool}{i:Nat}{x:List Nat×Tr}{p:List Nat}{k:Kd}{a:Option Kd}{s:Str}(h1:x.1=p)(h2:ks.getD (2 * i) .num=k)(h3:(if x.1=[] then none else some (ks.getD (2 * i+1) .num))=a)(h4:Co t x.1 x.2 (fs.getD i false)=s):Fv t ks fs i x=(p,k,a,s):=by
 subst h1 h2 h3 h4
 rfl
theorem Bb {α:Type}{x y:α}{l m:List α}(h:x=y)(h':l=m):x::l=y::m:=by rw [h,h']
theorem Bz:∀ t∈([]:List Tr),B8 t:=fun t h=>nomatch h
theorem Fw {x:Tr}(h:B8 x):∀ t∈[x],B8 t:=fun t ht=>by rw [Pr.mp ht];exact h
theorem Eo {x y:Tr}(h:B8 x)(h':B8 y):∀ t∈[x,y],B8 t:=fun t ht=>by
 rcases O1.mp ht with rfl | ht
 ·exact h
 ·exact Fw h' t ht
theorem als3 {x y z:Tr}(h:B8 x)(h':B8 y)(h2:B8 z):∀ t∈[x,y,z],B8 t:=fun t ht=>by
 rcases O1.mp ht with rfl | ht
 ·exact h
 ·exact Eo h' h2 t ht
noncomputable def Gb (a od:Str)(z:Int)(b:Bool):Tr:=.mk "gap" (.flat .non) []
noncomputable def L0:List Rw:=[([],(.any 0),none, "")]
theorem Zj8 (a od:Str)(z:Int)(b:Bool):KinG (walk [] (Gb a od z b)) [.num,.truth] (fun _=>none) (fun q=>if q=[] then some (fun _=>none) else none) [(2,2)] [.num,.truth,.any]:=by
 rw [show walk [] (Gb a od z b)=[([],.mk "gap" (.flat .non) [])] from rfl]
 exact (A7 rfl (Ay (by decide +kernel)) rfl rfl .nil)
theorem Zpt (a od:Str)(z:Int)(b:Bool):B5 (Gb a od z b,L0):=by
 refine ⟨[(.any 0),(.any 0)],[true],Cf (Zj8 a od z b) (by decide +kernel),?_,(.mk (Ay (by decide +kernel)) (Bz )),by show 1<=40;decide,by show B3 L0=true;decide +kernel⟩
 show Aw (Gb a od z b) _ _=_
 unfold Aw
 rw [show walk [] (Gb a od z b)=[([],.mk "gap" (.flat .non) [])] from rfl]
 exact (Bb (A8 rfl rfl rfl (Bo (by decide +kernel))) rfl)
noncomputable def Gj (a od:Str)(z:Int)(b:Bool):Tr:=.mk "odd" (.flat (.str od)) []
noncomputable def Lp:List Rw:=[([],(.any 0),none, "odd")]
theorem Zj4 (a od:Str)(z:Int)(b:Bool):KinG (walk [] (Gj a od z b)) [.num,.truth] (fun _=>none) (fun q=>if q=[] then some (fun _=>none) else none) [(2,2)] [.num,.truth,.any]:=by
 rw [show walk [] (Gj a od z b)=[([],.mk "odd" (.flat (.str od)) [])] from rfl]
 exact (A7 rfl (Ay (by decide +kernel)) rfl rfl .nil)
theorem Zoy (a od:Str)(z:Int)(b:Bool):B5 (Gj a od z b,Lp):=by
 refine ⟨[(.any 0),(.any 0)],[true],Cf (Zj4 a od z b) (by decide +kernel),?_,(.mk (Ay (by decide +kernel)) (Bz )),by show 1<=40;decide,by show B3 Lp=true;decide +kernel⟩
 show Aw (Gj a od z b) _ _=_
 unfold Aw
 rw [show walk [] (Gj a od z b)=[([],.mk "odd" (.flat (.str od)) [])] from rfl]
 exact (Bb (A8 rfl rfl rfl (Znr _ _ _ _)) rfl)
noncomputable def Fi (a od:Str)(z:Int)(b:Bool):Tr:=.mk "num" (.flat (.int z)) []
noncomputable def L7:List Rw:=[([],.num,none, "")]
theorem Zhi (a od:Str)(z:Int)(b:Bool):KinG (walk [] (Fi a od z b)) [.num,.truth] (fun _=>none) (fun q=>if q=[] then some (fun _=>none) else none) [(0,0)] [.num,.truth]:=by
 rw [show walk [] (Fi a od z b)=[([],.mk "num" (.flat (.int z)) [])] from rfl]
 exact (A7 rfl (Ay (by decide +kernel)) rfl rfl .nil)
theorem Zox (a od:Str)(z:Int)(b:Bool):B5 (Fi a od z b,L7):=by
 refine ⟨[.num,.num],[true],Cf (Zhi a od z b) (by decide +kernel),?_,(.mk (Ay (by decide +kernel)) (Bz )),by show 1<=40;decide,by show B3 L7=true;decide +kernel⟩
 show Aw (Fi a od z b) _ _=_
 unfold Aw
 rw [show walk [] (Fi a od z b)=[([],.mk "num" (.flat (.int z)) [])] from rfl]
 exact (Bb (A8 rfl rfl rfl (Bo (by decide +kernel))) rfl)
noncomputable def Fl (a od:Str)(z:Int)(b:Bool):Tr:=.mk "truth" (.flat (.bl b)) []
noncomputable def L3:List Rw:=[([],.truth,none, "")]
theorem Zha (a od:Str)(z:Int)(b:Bool):KinG (walk [] (Fl a od z b)) [.num,.truth] (fun _=>none) (fun q=>if q=[] then some (fun _=>none) else none) [(1,1)] [.num,.truth]:=by
 rw [show walk [] (Fl a od z b)=[([],.mk "truth" (.flat (.bl b)) [])] from rfl]
 exact (A7 rfl (Ay (by decide +kernel)) rfl rfl .nil)
theorem Zn2 (a od:Str)(z:Int)(b:Bool):B5 (Fl a od z b,L3):=by
 refine ⟨[.truth,.truth],[true],Cf (Zha a od z b) (by decide +kernel),?_,(.mk (Ay (by decide +kernel)) (Bz )),by show 1<=40;decide,by show B3 L3=true;decide +kernel⟩
 show Aw (Fl a od z b) _ _=_
 unfold Aw
 rw [show walk [] (Fl a od z b)=[([],.mk "truth" (.flat (.bl b)) [])] from rfl]
 exact (Bb (A8 rfl rfl rfl (Bo (by decide +kernel))) rfl)
noncomputable def Fp (a od:Str)(z:Int)(b:Bool):Tr:=.mk "name" (.flat (.str a)) []
noncomputable def L1:List Rw:=[([],(.any 0),none, "free")]
theorem Zqc (a od:Str)(z:Int)(b:Bool):KinG (walk [] (Fp a od z b)) [.num,.truth] (fun _=>none) (fun q=>if q=[] then some (fun _=>none) else none) [(2,2)] [.num,.truth,.any]:=by
 rw [show walk [] (Fp a od z b)=[([],.mk "name" (.flat (.str a)) [])] from rfl]
 exact (A7 rfl (Dd _) rfl rfl .nil)
theorem Zoq (a od:Str)(z:Int)(b:Bool):B5 (Fp a od z b,L1):=by
 refine ⟨[(.any 0),(.any 0)],[true],Cf (Zqc a od z b) (by decide +kernel),?_,(.mk (Dd _) (Bz )),by show 1<=40;decide,by show B3 L1=true;decide +kernel⟩
 show Aw (Fp a od z b) _ _=_
 unfold Aw
 rw [show walk [] (Fp a od z b)=[([],.mk "name" (.flat (.str a)) [])] from rfl]
 exact (Bb (A8 rfl rfl rfl (Zl3 rfl)) rfl)
noncomputable def Fq (a od:Str)(z:Int)(b:Bool):Tr:=.mk "plus" (.flat .non) [.mk "gap" (.flat .non) [],.mk "gap" (.flat .non) []]
noncomputable def Lv:List Rw:=[([],.num,none, ""),([0],.num,some .num, ""),([1],.num,some .num, "")]
theorem Zg4 (a od:Str)(z:Int)(b:Bool):KinG (walk [] (Fq a od z b)) [.num,.truth] (fun _=>none) (fun q=>if q=[] then some (fun _=>none) else none) [(0,0),(2,0),(3,0)] [.num,.truth,.any,.any]:=by
 rw [show walk [] (Fq a od z b)=[([],.mk "plus" (.flat .non) [.mk "gap" (.flat .non) [],.mk "gap" (.flat .non) []]),([0],.mk "gap" (.flat .non) []),([1],.mk "gap" (.flat .non) [])] from rfl]
 exact (A7 rfl (Ay (by decide +kernel)) rfl rfl (A7 rfl (Ay (by decide +kernel)) rfl rfl (A7 rfl (Ay (by decide +kernel)) rfl rfl .nil)))
theorem Ziw (a od:Str)(z:Int)(b:Bool):B5 (Fq a od z b,Lv):=by
 refine ⟨[.num,.num,.num,.num,.num,.num],[true,true,true],Cf (Zg4 a od z b) (by decide +kernel),?_,(.mk (Ay (by decide +kernel)) (Eo (.mk (Ay (by decide +kernel)) (Bz )) (.mk (Ay (by decide +kernel)) (Bz )))),by show 3<=40;decide,by show B3 Lv=true;decide +kernel⟩
 show Aw (Fq a od z b) _ _=_
 unfold Aw
 rw [show walk [] (Fq a od z b)=[([],.mk "plus" (.flat .non) [.mk "gap" (.flat .non) [],.mk "gap" (.flat .non) []]),([0],.mk "gap" (.flat .non) []),([1],.mk "gap" (.flat .non) [])] from rfl]
 exact (Bb (A8 rfl rfl rfl (Bo (by decide +kernel))) (Bb (A8 rfl rfl rfl (Bo (by decide +kernel))) (Bb (A8 rfl rfl rfl (Bo (by decide +kernel))) rfl)))
noncomputable def Gc (a od:Str)(z:Int)(b:Bool):Tr:=.mk "minus" (.flat .non) [.mk "gap" (.flat .non) [],.mk "gap" (.flat .non) []]
noncomputable def L9:List Rw:=[([],.num,none, ""),([0],.num,some .num, ""),([1],.num,some .num, "")]
theorem Zmg (a od:Str)(z:Int)(b:Bool):KinG (walk [] (Gc a od z b)) [.num,.truth] (fun _=>none) (fun q=>if q=[] then some (fun _=>none) else none) [(0,0),(2,0),(3,0)] [.num,.truth,.any,.any]:=by
 rw [show walk [] (Gc a od z b)=[([],.mk "minus" (.flat .non) [.mk "gap" (.flat .non) [],.mk "gap" (.flat .non) []]),([0],.mk "gap" (.flat .non) []),([1],.mk "gap" (.flat .non) [])] from rfl]
 exact (A7 rfl (Ay (by decide +kernel)) rfl rfl (A7 rfl (Ay (by decide +kernel)) rfl rfl (A7 rfl (Ay (by decide +kernel)) rfl rfl .nil)))
theorem Zm0 (a od:Str)(z:Int)(b:Bool):B5 (Gc a od z b,L9):=by
 refine ⟨[.num,.num,.num,.num,.num,.num],[true,true,true],Cf (Zmg a od z b) (by decide +kernel),?_,(.mk (Ay (by decide +kernel)) (Eo (.mk (Ay (by decide +kernel)) (Bz )) (.mk (Ay (by decide +kernel)) (Bz )))),by show 3<=40;decide,by show B3 L9=true;decide +kernel⟩
 show Aw (Gc a od z b) _ _=_
 unfold Aw
 rw [show walk [] (Gc a od z b)=[([],.mk "minus" (.flat .non) [.mk "gap" (.flat .non) [],.mk "gap" (.flat .non) []]),([0],.mk "gap" (.flat .non) []),([1],.mk "gap" (.flat .non) [])] from rfl]
 exact (Bb (A8 rfl rfl rfl (Bo (by decide +kernel))) (Bb (A8 rfl rfl rfl (Bo (by decide +kernel))) (Bb (A8 rfl rfl rfl (Bo (by decide +kernel))) rfl)))
noncomputable def F7 (a od:Str)(z:Int)(b:Bool):Tr:=.mk "less" (.flat .non) [.mk "gap" (.flat .non) [],.mk "gap" (.flat .non) []]
noncomputable def Lg:List Rw:=[([],.truth,none, ""),([0],.num,some .num, ""),([1],.num,some .num, "")]
theorem Zn4 (a od:Str)(z:Int)(b:Bool):KinG (walk [] (F7 a od z b)) [.num,.truth] (fun _=>none) (fun q=>if q=[] then some (fun _=>none) else none) [(1,1),(2,0),(3,0)] [.num,.truth,.any,.any]:=by
 rw [show walk [] (F7 a od z b)=[([],.mk "less" (.flat .non) [.mk "gap" (.flat .non) [],.mk "gap" (.flat .non) []]),([0],.mk "gap" (.flat .non) []),([1],.mk "gap" (.flat .non) [])] from rfl]
 exact (A7 rfl (Ay (by decide +kernel)) rfl rfl (A7 rfl (Ay (by decide +kernel)) rfl rfl (A7 rfl (Ay (by decide +kernel)) rfl rfl .nil)))
theorem Zjc (a od:Str)(z:Int)(b:Bool):B5 (F7 a od z b,Lg):=by
 refine ⟨[.truth,.truth,.num,.num,.num,.num],[true,true,true],Cf (Zn4 a od z b) (by decide +kernel),?_,(.mk (Ay (by decide +kernel)) (Eo (.mk (Ay (by decide +kernel)) (Bz )) (.mk (Ay (by decide +kernel)) (Bz )))),by show 3<=40;decide,by show B3 Lg=true;decide +kernel⟩
 show Aw (F7 a od z b) _ _=_
 unfold Aw
 rw [show walk [] (F7 a od z b)=[([],.mk "less" (.flat .non) [.mk "gap" (.flat .non) [],.mk "gap" (.flat .non) []]),([0],.mk "gap" (.flat .non) []),([1],.mk "gap" (.flat .non) [])] from rfl]
 exact (Bb (A8 rfl rfl rfl (Bo (by decide +kernel))) (Bb (A8 rfl rfl rfl (Bo (by decide +kernel))) (Bb (A8 rfl rfl rfl (Bo (by decide +kernel))) rfl)))
noncomputable def Ku (a od:Str)(z:Int)(b:Bool):List Cs:=[(Gb a od z b,L0),(Gj a od z b,Lp),(Fi a od z b,L7),(Fl a od z b,L3),(Fp a od z b,L1),(Fq a od z b,Lv),(Gc a od z b,L9),(F7 a od z b,Lg)]
theorem Zpz (a od:Str)(z:Int)(b:Bool):∀ c∈Ku a od z b,B5 c:=by
 intro c hc
 unfold Ku at hc
 simp only [O1,Po,or_false] at hc
 rcases hc with rfl | rfl | rfl | rfl | rfl | rfl | rfl | rfl
 ·exact Zpt a od z b
 ·exact Zoy a od z b
 ·exact Zox a od z b
 ·exact Zn2 a od z b
 ·exact Zoq a od z b
 ·exact Ziw a od z b
 ·exact Zm0 a od z b
 ·exact Zjc a od z b
noncomputable def Gf (a a':Str):Tr:=.mk "if" (.flat .non) [.mk "gap" (.flat .non) [],.mk "gap" (.flat .non) [],.mk "gap" (.flat .non) []]
noncomputable def K1:List Rw:=[([],(.any 0),none, ""),([0],.truth,some .truth, ""),([1],(.any 0),some (.any 0), ""),([2],(.any 0),some (.any 0), "")]
theorem Zof (a a':Str):KinG (walk [] (Gf a a')) [.num,.truth] (fun _=>none) (fun q=>if q=[] then some (fun _=>none) else none) [(2,2),(3,1),(4,2),(5,2)] [.num,.truth,.any,.any,.any,.any]:=by
 rw [show walk [] (Gf a a')=[([],.mk "if" (.flat .non) [.mk "gap" (.flat .non) [],.mk "gap" (.flat .non) [],.mk "gap" (.flat .non) []]),([0],.mk "gap" (.flat .non) []),([1],.mk "gap" (.flat .non) []),([2],.mk "gap" (.flat .non) [])] from rfl]
 exact (A7 rfl (Ay (by decide +kernel)) rfl rfl (A7 rfl (Ay (by decide +kernel)) rfl rfl (A7 rfl (Ay (by decide +kernel)) rfl rfl (A7 rfl (Ay (by decide +kernel)) rfl rfl .nil))))
theorem Zka (a a':Str):B5 (Gf a a',K1):=by
 refine ⟨[(.any 0),(.any 0),.truth,.truth,(.any 0),(.any 0),(.any 0),(.any 0)],[true,true,true,true],Cf (Zof a a') (by decide +kernel),?_,(.mk (Ay (by decide +kernel)) (als3 (.mk (Ay (by decide +kernel)) (Bz )) (.mk (Ay (by decide +kernel)) (Bz )) (.mk (Ay (by decide +kernel)) (Bz )))),by show 4<=40;decide,by show B3 K1=true;decide +kernel⟩
 show Aw (Gf a a') _ _=_
 unfold Aw
 rw [show walk [] (Gf a a')=[([],.mk "if" (.flat .non) [.mk "gap" (.flat .non) [],.mk "gap" (.flat .non) [],.mk "gap" (.flat .non) []]),([0],.mk "gap" (.flat .non) []),([1],.mk "gap" (.flat .non) []),([2],.mk "gap" (.flat .non) [])] from rfl]
 exact (Bb (A8 rfl rfl rfl (Bo (by decide +kernel))) (Bb (A8 rfl rfl rfl (Bo (by decide +kernel))) (Bb (A8 rfl rfl rfl (Bo (by decide +kernel))) (Bb (A8 rfl rfl rfl (Bo (by decide +kernel))) rfl))))
noncomputable def Gh (a a':Str):Tr:=.mk "call" (.flat .non) [.mk "gap" (.flat .non) [],.mk "gap" (.flat .non) []]
noncomputable def Kw:List Rw:=[([],(.any 0),none, ""),([0],(.to (.any 1) (.any 0)),some (.to (.any 1) (.any 0)), ""),([1],(.any 1),some (.any 1), "")]
theorem Zhh (a a':Str):KinG (walk [] (Gh a a')) [.num,.truth] (fun _=>none) (fun q=>if q=[] then some (fun _=>none) else none) [(3,3),(5,4),(6,2)] [.num,.truth,.any,.any,.to 2 3,.any,.any]:=by
 rw [show walk [] (Gh a a')=[([],.mk "call" (.flat .non) [.mk "gap" (.flat .non) [],.mk "gap" (.flat .non) []]),([0],.mk "gap" (.flat .non) []),([1],.mk "gap" (.flat .non) [])] from rfl]
 exact (A7 rfl (Ay (by decide +kernel)) rfl rfl (A7 rfl (Ay (by decide +kernel)) rfl rfl (A7 rfl (Ay (by decide +kernel)) rfl rfl .nil)))
theorem Zk7 (a a':Str):B5 (Gh a a',Kw):=by
 refine ⟨[(.any 0),(.any 0),(.to (.any 1) (.any 0)),(.to (.any 1) (.any 0)),(.any 1),(.any 1)],[true,true,true],Cf (Zhh a a') (by decide +kernel),?_,(.mk (Ay (by decide +kernel)) (Eo (.mk (Ay (by decide +kernel)) (Bz )) (.mk (Ay (by decide +kernel)) (Bz )))),by show 3<=40;decide,by show B3 Kw=true;decide +kernel⟩
 show Aw (Gh a a') _ _=_
 unfold Aw
 rw [show walk [] (Gh a a')=[([],.mk "call" (.flat .non) [.mk "gap" (.flat .non) [],.mk "gap" (.flat .non) []]),([0],.mk "gap" (.flat .non) []),([1],.mk "gap" (.flat .non) [])] from rfl]
 exact (Bb (A8 rfl rfl rfl (Bo (by decide +kernel))) (Bb (A8 rfl rfl rfl (Bo (by decide +kernel))) (Bb (A8 rfl rfl rfl (Bo (by decide +kernel))) rfl)))
noncomputable def Ge (a a':Str):Tr:=.mk "fn" (.flat (.str a)) [.mk "gap" (.flat .non) []]
noncomputable def K9:List Rw:=[([],(.to (.any 0) (.any 1)),none, ""),([0],(.any 1),some (.any 1), "")]
theorem Zjj (a a':Str):KinG (walk [] (Ge a a')) [.num,.truth] (fun _=>none) (fun q=>if q=[] then some (fun _=>none) else none) [(4,4),(5,3)] [.num,.truth,.any,.any,.to 2 3,.any]:=by
 rw [show walk [] (Ge a a')=[([],.mk "fn" (.flat (.str a)) [.mk "gap" (.flat .non) []]),([0],.mk "gap" (.flat .non) [])] from rfl]
 exact (A7 rfl (Gu _) rfl rfl (A7 rfl (Ay (by decide +kernel)) rfl rfl .nil))
theorem Zlp (a a':Str):B5 (Ge a a',K9):=by
 refine ⟨[(.to (.any 0) (.any 1)),(.to (.any 0) (.any 1)),(.any 1),(.any 1)],[true,true],Cf (Zjj a a') (by decide +kernel),?_,(.mk (Gu _) (Fw (.mk (Ay (by decide +kernel)) (Bz )))),by show 2<=40;decide,by show B3 K9=true;decide +kernel⟩
 show Aw (Ge a a') _ _=_
 unfold Aw
 rw [show walk [] (Ge a a')=[([],.mk "fn" (.flat (.str a)) [.mk "gap" (.flat .non) []]),([0],.mk "gap" (.flat .non) [])] from rfl]
 exact (Bb (A8 rfl rfl rfl (Bo (by decide +kernel))) (Bb (A8 rfl rfl rfl (Bo (by decide +kernel))) rfl))
noncomputable def Fu (a a':Str):Tr:=.mk "rec" (.tup [.flat (.str a),.flat (.str a')]) [.mk "gap" (.flat .non) []]
noncomputable def Lk:List Rw:=[([],(.to (.any 0) (.any 1)),none, ""),([0],(.any 1),some (.any 1), "")]
theorem Zm6 (a a':Str):KinG (walk [] (Fu a a')) [.num,.truth] (fun _=>none) (fun q=>if q=[] then some (fun _=>none) else none) [(4,4),(5,3)] [.num,.truth,.any,.any,.to 2 3,.any]:=by
 rw [show walk [] (Fu a a')=[([],.mk "rec" (.tup [.flat (.str a),.flat (.str a')]) [.mk "gap" (.flat .non) []]),([0],.mk "gap" (.flat .non) [])] from rfl]
 exact (A7 rfl (G6 _ _) rfl rfl (A7 rfl (Ay (by decide +kernel)) rfl rfl .nil))
theorem Zmc (a a':Str):B5 (Fu a a',Lk):=by
 refine ⟨[(.to (.any 0) (.any 1)),(.to (.any 0) (.any 1)),(.any 1),(.any 1)],[true,true],Cf (Zm6 a a') (by decide +kernel),?_,(.mk (G6 _ _) (Fw (.mk (Ay (by decide +kernel)) (Bz )))),by show 2<=40;decide,by show B3 Lk=true;decide +kernel⟩
 show Aw (Fu a a') _ _=_
 unfold Aw
 rw [show walk [] (Fu a a')=[([],.mk "rec" (.tup [.flat (.str a),.flat (.str a')]) [.mk "gap" (.flat .non) []]),([0],.mk "gap" (.flat .non) [])] from rfl]
 exact (Bb (A8 rfl rfl rfl (Bo (by decide +kernel))) (Bb (A8 rfl rfl rfl (Bo (by decide +kernel))) rfl))
noncomputable def Fo (a a':Str):Tr:=.mk "let" (.flat (.str a)) [.mk "gap" (.flat .non) [],.mk "gap" (.flat .non) []]
noncomputable def Kp:List Rw:=[([],(.any 0),none, ""),([0],(.any 1),some (.any 1), ""),([1],(.any 0),some (.any 0), "")]
theorem Zk3 (a a':Str):KinG (walk [] (Fo a a')) [.num,.truth] (fun _=>none) (fun q=>if q=[] then some (fun _=>none) else none) [(3,3),(4,2),(5,3)] [.num,.truth,.any,.any,.any,.any]:=by
 rw [show walk [] (Fo a a')=[([],.mk "let" (.flat (.str a)) [.mk "gap" (.flat .non) [],.mk "gap" (.flat .non) []]),([0],.mk "gap" (.flat .non) []),([1],.mk "gap" (.flat .non) [])] from rfl]
 exact (A7 rfl (Lo _) rfl rfl (A7 rfl (Ay (by decide +kernel)) rfl rfl (A7 rfl (Ay (by decide +kernel)) rfl rfl .nil)))
theorem Znk (a a':Str):B5 (Fo a a',Kp):=by
 refine ⟨[(.any 0),(.any 0),(.any 1),(.any 1),(.any 0),(.any 0)],[true,true,true],Cf (Zk3 a a') (by decide +kernel),?_,(.mk (Lo _) (Eo (.mk (Ay (by decide +kernel)) (Bz )) (.mk (Ay (by decide +kernel)) (Bz )))),by show 3<=40;decide,by show B3 Kp=true;decide +kernel⟩
 show Aw (Fo a a') _ _=_
 unfold Aw
 rw [show walk [] (Fo a a')=[([],.mk "let" (.flat (.str a)) [.mk "gap" (.flat .non) [],.mk "gap" (.flat .non) []]),([0],.mk "gap" (.flat .non) []),([1],.mk "gap" (.flat .non) [])] from rfl]
 exact (Bb (A8 rfl rfl rfl (Bo (by decide +kernel))) (Bb (A8 rfl rfl rfl (Bo (by decide +kernel))) (Bb (A8 rfl rfl rfl (Bo (by decide +kernel))) rfl)))
noncomputable def K6 (a a':Str):List Cs:=[(Gf a a',K1),(Gh a a',Kw),(Ge a a',K9),(Fu a a',Lk),(Fo a a',Kp)]
theorem Zmr (a a':Str):∀ c∈K6 a a',B5 c:=by
 intro c hc
 unfold K6 at hc
 simp only [O1,Po,or_false] at hc
 rcases hc with rfl | rfl | rfl | rfl | rfl
 ·exact Zka a a'
 ·exact Zk7 a a'
 ·exact Zlp a a'
 ·exact Zmc a a'
 ·exact Znk a a'
noncomputable def Gm (a a':Str)(z:Int):Tr:=.mk "fn" (.flat (.str a)) [.mk "name" (.flat (.str a)) []]
noncomputable def Kj:List Rw:=[([],(.to (.any 0) (.any 0)),none, ""),([0],(.any 0),some (.any 0), "")]
theorem Zjz (a a':Str)(z:Int):KinG (walk [] (Gm a a' z)) [.num,.truth] (fun _=>none) (fun q=>if q=[] then some (fun _=>none) else none) [(4,4),(2,3)] [.num,.truth,.any,.any,.to 2 3,.any]:=by
 rw [show walk [] (Gm a a' z)=[([],.mk "fn" (.flat (.str a)) [.mk "name" (.flat (.str a)) []]),([0],.mk "name" (.flat (.str a)) [])] from rfl]
 exact (A7 rfl (Gu _) rfl rfl (A7 rfl (Dd _) (Me _ _ _) rfl .nil))
theorem Zhe (a a':Str)(z:Int):B5 (Gm a a' z,Kj):=by
 refine ⟨[(.to (.any 0) (.any 0)),(.to (.any 0) (.any 0)),(.any 0),(.any 0)],[true,true],Cf (Zjz a a' z) (by decide +kernel),?_,(.mk (Gu _) (Fw (.mk (Dd _) (Bz )))),by show 2<=40;decide,by show B3 Kj=true;decide +kernel⟩
 show Aw (Gm a a' z) _ _=_
 unfold Aw
 rw [show walk [] (Gm a a' z)=[([],.mk "fn" (.flat (.str a)) [.mk "name" (.flat (.str a)) []]),([0],.mk "name" (.flat (.str a)) [])] from rfl]
 exact (Bb (A8 rfl rfl rfl (Bo (by decide +kernel))) (Bb (A8 rfl rfl rfl (Ko (l:=[a]) (k:=0) (by simp [Bw]))) rfl))
noncomputable def Gk (a a':Str)(z:Int):Tr:=.mk "let" (.flat (.str a)) [.mk "num" (.flat (.int z)) [],.mk "name" (.flat (.str a)) []]
noncomputable def Mi:List Rw:=[([],.num,none, ""),([0],.num,some .num, ""),([1],.num,some .num, "")]
theorem Zkt (a a':Str)(z:Int):KinG (walk [] (Gk a a' z)) [.num,.truth] (fun _=>none) (fun q=>if q=[] then some (fun _=>none) else none) [(3,3),(0,2),(2,3)] [.num,.truth,.any,.any,.any]:=by
 rw [show walk [] (Gk a a' z)=[([],.mk "let" (.flat (.str a)) [.mk "num" (.flat (.int z)) [],.mk "name" (.flat (.str a)) []]),([0],.mk "num" (.flat (.int z)) []),([1],.mk "name" (.flat (.str a)) [])] from rfl]
 exact (A7 rfl (Lo _) rfl rfl (A7 rfl (Ay (by decide +kernel)) rfl rfl (A7 rfl (Dd _) (Me _ _ _) rfl .nil)))
theorem Zih (a a':Str)(z:Int):B5 (Gk a a' z,Mi):=by
 refine ⟨[.num,.num,.num,.num,.num,.num],[true,true,true],Cf (Zkt a a' z) (by decide +kernel),?_,(.mk (Lo _) (Eo (.mk (Ay (by decide +kernel)) (Bz )) (.mk (Dd _) (Bz )))),by show 3<=40;decide,by show B3 Mi=true;decide +kernel⟩
 show Aw (Gk a a' z) _ _=_
 unfold Aw
 rw [show walk [] (Gk a a' z)=[([],.mk "let" (.flat (.str a)) [.mk "num" (.flat (.int z)) [],.mk "name" (.flat (.str a)) []]),([0],.mk "num" (.flat (.int z)) []),([1],.mk "name" (.flat (.str a)) [])] from rfl]
 exact (Bb (A8 rfl rfl rfl (Bo (by decide +kernel))) (Bb (A8 rfl rfl rfl (Bo (by decide +kernel))) (Bb (A8 rfl rfl rfl (Ko (l:=[a]) (k:=0) (by simp [Bw]))) rfl)))
noncomputable def Gi (a a':Str)(z:Int):Tr:=.mk "rec" (.tup [.flat (.str a),.flat (.str a')]) [.mk "name" (.flat (.str a)) []]
noncomputable def Ly:List Rw:=[([],(.to (.any 0) (.any 1)),none, ""),([0],(.to (.any 0) (.any 1)),some (.any 1), "unlike")]
theorem Zp5 (a a':Str)(z:Int)(hn:a≠a'):KinG (walk [] (Gi a a' z)) [.num,.truth] (fun _=>none) (fun q=>if q=[] then some (fun _=>none) else none) [(4,4),(4,3)] [.num,.truth,.any,.any,.to 2 3,.any]:=by
 rw [show walk [] (Gi a a' z)=[([],.mk "rec" (.tup [.flat (.str a),.flat (.str a')]) [.mk "name" (.flat (.str a)) []]),([0],.mk "name" (.flat (.str a)) [])] from rfl]
 exact (A7 rfl (G6 _ _) rfl rfl (A7 rfl (Dd _) (Zhv _ _ _ _ _ hn) rfl .nil))
theorem Zpp (a a':Str)(z:Int)(hn:a≠a'):B5 (Gi a a' z,Ly):=by
 refine ⟨[(.to (.any 0) (.any 1)),(.to (.any 0) (.any 1)),(.to (.any 0) (.any 1)),(.any 1)],[true,false],Cf (Zp5 a a' z hn) (by decide +kernel),?_,(.mk (G6 _ _) (Fw (.mk (Dd _) (Bz )))),by show 2<=40;decide,by show B3 Ly=true;decide +kernel⟩
 show Aw (Gi a a' z) _ _=_
 unfold Aw
 rw [show walk [] (Gi a a' z)=[([],.mk "rec" (.tup [.flat (.str a),.flat (.str a')]) [.mk "name" (.flat (.str a)) []]),([0],.mk "name" (.flat (.str a)) [])] from rfl]
 exact (Bb (A8 rfl rfl rfl (Bo (by decide +kernel))) (Bb (A8 rfl rfl rfl (Nn _ _ _)) rfl))
noncomputable def Fs (a a':Str)(z:Int):Tr:=.mk "rec" (.tup [.flat (.str a'),.flat (.str a)]) [.mk "name" (.flat (.str a)) []]
noncomputable def Lz:List Rw:=[([],(.to (.any 0) (.any 0)),none, ""),([0],(.any 0),some (.any 0), "")]
theorem Zin (a a':Str)(z:Int)(hn:a≠a'):KinG (walk [] (Fs a a' z)) [.num,.truth] (fun _=>none) (fun q=>if q=[] then some (fun _=>none) else none) [(4,4),(2,3)] [.num,.truth,.any,.any,.to 2 3,.any]:=by
 rw [show walk [] (Fs a a' z)=[([],.mk "rec" (.tup [.flat (.str a'),.flat (.str a)]) [.mk "name" (.flat (.str a)) []]),([0],.mk "name" (.flat (.str a)) [])] from rfl]
 exact (A7 rfl (G6 _ _) rfl rfl (A7 rfl (Dd _) (Zn5 _ _ _ _ _) rfl .nil))
theorem Zkg (a a':Str)(z:Int)(hn:a≠a'):B5 (Fs a a' z,Lz):=by
 refine ⟨[(.to (.any 0) (.any 0)),(.to (.any 0) (.any 0)),(.any 0),(.any 0)],[true,true],Cf (Zin a a' z hn) (by decide +kernel),?_,(.mk (G6 _ _) (Fw (.mk (Dd _) (Bz )))),by show 2<=40;decide,by show B3 Lz=true;decide +kernel⟩
 show Aw (Fs a a' z) _ _=_
 unfold Aw
 rw [show walk [] (Fs a a' z)=[([],.mk "rec" (.tup [.flat (.str a'),.flat (.str a)]) [.mk "name" (.flat (.str a)) []]),([0],.mk "name" (.flat (.str a)) [])] from rfl]
 exact (Bb (A8 rfl rfl rfl (Bo (by decide +kernel))) (Bb (A8 rfl rfl rfl (Ko (l:=[a',a]) (k:=1) (by simp [Bw]))) rfl))
noncomputable def F8 (a a':Str)(z:Int):Tr:=.mk "fn" (.flat (.str a)) [.mk "call" (.flat .non) [.mk "name" (.flat (.str a)) [],.mk "name" (.flat (.str a)) []]]
noncomputable def K3:List Rw:=[([],(.to (.to (.any 0) (.any 1)) (.any 1)),none, ""),([0],(.any 1),some (.any 1), ""),([0,0],(.to (.any 0) (.any 1)),some (.to (.any 0) (.any 1)), ""),([0,1],(.to (.any 0) (.any 1)),some (.any 0), "unlike")]
theorem Zgr (a a':Str)(z:Int):KinG (walk [] (F8 a a' z)) [.num,.truth] (fun _=>none) (fun q=>if q=[] then some (fun _=>none) else none) [(4,4),(6,3),(2,7),(2,5)] [.num,.truth,.any,.any,.to 2 3,.any,.any,.to 5 6,.any,.any]:=by
 rw [show walk [] (F8 a a' z)=[([],.mk "fn" (.flat (.str a)) [.mk "call" (.flat .non) [.mk "name" (.flat (.str a)) [],.mk "name" (.flat (.str a)) []]]),([0],.mk "call" (.flat .non) [.mk "name" (.flat (.str a)) [],.mk "name" (.flat (.str a)) []]),([0,0],.mk "name" (.flat (.str a)) []),([0,1],.mk "name" (.flat (.str a)) [])] from rfl]
 exact (A7 rfl (Gu _) rfl rfl (A7 rfl (Ay (by decide +kernel)) rfl rfl (A7 rfl (Dd _) (Me _ _ _) rfl (A7 rfl (Dd _) (Me _ _ _) rfl .nil))))
theorem Zil (a a':Str)(z:Int):B5 (F8 a a' z,K3):=by
 refine ⟨[(.to (.to (.any 0) (.any 1)) (.any 1)),(.to (.to (.any 0) (.any 1)) (.any 1)),(.any 1),(.any 1),(.to (.any 0) (.any 1)),(.to (.any 0) (.any 1)),(.to (.any 0) (.any 1)),(.any 0)],[true,true,true,false],Cf (Zgr a a' z) (by decide +kernel),?_,(.mk (Gu _) (Fw (.mk (Ay (by decide +kernel)) (Eo (.mk (Dd _) (Bz )) (.mk (Dd _) (Bz )))))),by show 4<=40;decide,by show B3 K3=true;decide +kernel⟩
 show Aw (F8 a a' z) _ _=_
 unfold Aw
 rw [show walk [] (F8 a a' z)=[([],.mk "fn" (.flat (.str a)) [.mk "call" (.flat .non) [.mk "name" (.flat (.str a)) [],.mk "name" (.flat (.str a)) []]]),([0],.mk "call" (.flat .non) [.mk "name" (.flat (.str a)) [],.mk "name" (.flat (.str a)) []]),([0,0],.mk "name" (.flat (.str a)) []),([0,1],.mk "name" (.flat (.str a)) [])] from rfl]
 exact (Bb (A8 rfl rfl rfl (Bo (by decide +kernel))) (Bb (A8 rfl rfl rfl (Bo (by decide +kernel))) (Bb (A8 rfl rfl rfl (Ko (l:=[a]) (k:=0) (by simp [Bw]))) (Bb (A8 rfl rfl rfl (Nn _ _ _)) rfl))))
noncomputable def Fh (a a':Str)(z:Int):Tr:=.mk "less" (.flat .non) [.mk "truth" (.flat (.bl true)) [],.mk "num" (.flat (.int z)) []]
noncomputable def Mj:List Rw:=[([],.truth,none, ""),([0],.truth,some .num, "unlike"),([1],.num,some .num, "")]
theorem Zog (a a':Str)(z:Int):KinG (walk [] (Fh a a' z)) [.num,.truth] (fun _=>none) (fun q=>if q=[] then some (fun _=>none) else none) [(1,1),(1,0),(0,0)] [.num,.truth]:=by
 rw [show walk [] (Fh a a' z)=[([],.mk "less" (.flat .non) [.mk "truth" (.flat (.bl true)) [],.mk "num" (.flat (.int z)) []]),([0],.mk "truth" (.flat (.bl true)) []),([1],.mk "num" (.flat (.int z)) [])] from rfl]
 exact (A7 rfl (Ay (by decide +kernel)) rfl rfl (A7 rfl (Ay (by decide +kernel)) rfl rfl (A7 rfl (Ay (by decide +kernel)) rfl rfl .nil)))
theorem Zkm (a a':Str)(z:Int):B5 (Fh a a' z,Mj):=by
 refine ⟨[.truth,.truth,.truth,.num,.num,.num],[true,false,true],Cf (Zog a a' z) (by decide +kernel),?_,(.mk (Ay (by decide +kernel)) (Eo (.mk (Ay (by decide +kernel)) (Bz )) (.mk (Ay (by decide +kernel)) (Bz )))),by show 3<=40;decide,by show B3 Mj=true;decide +kernel⟩
 show Aw (Fh a a' z) _ _=_
 unfold Aw
 rw [show walk [] (Fh a a' z)=[([],.mk "less" (.flat .non) [.mk "truth" (.flat (.bl true)) [],.mk "num" (.flat (.int z)) []]),([0],.mk "truth" (.flat (.bl true)) []),([1],.mk "num" (.flat (.int z)) [])] from rfl]
 exact (Bb (A8 rfl rfl rfl (Bo (by decide +kernel))) (Bb (A8 rfl rfl rfl (Nn _ _ _)) (Bb (A8 rfl rfl rfl (Bo (by decide +kernel))) rfl)))
noncomputable def Md (a a':Str)(z:Int):List Cs:=[(Gm a a' z,Kj),(Gk a a' z,Mi),(Gi a a' z,Ly),(Fs a a' z,Lz),(F8 a a' z,K3),(Fh a a' z,Mj)]
theorem Zho (a a':Str)(z:Int)(hn:a≠a'):∀ c∈Md a a' z,B5 c:=by
 intro c hc
 unfold Md at hc
 simp only [O1,Po,or_false] at hc
 rcases hc with rfl | rfl | rfl | rfl | rfl | rfl
 ·exact Zhe a a' z
 ·exact Zih a a' z
 ·exact Zpp a a' z hn
 ·exact Zkg a a' z hn
 ·exact Zil a a' z
 ·exact Zkm a a' z
noncomputable def CsAt (K:Os)(H:Hp)(v:V)(c:Cs):Prop:=∃(e dp:Addr)(tv:V)(dv:List V),v=.ref e/\SqT K H e [tv,.ref dp]/\TrAt K H tv c.1/\H dp=some (.lst dv)/\Al (LkAt K H) dv c.2
theorem CsAt.same {K:Os}{H H':Hp}(s:Same H H'){v:V}{c:Cs}(h:CsAt K H v c):CsAt K H' v c:=by
 obtain ⟨e,dp,tv,dv,h1,h2,h3,h4,h5⟩:=h
 exact ⟨e,dp,tv,dv,h1,s.t.tup h2,h3.same s,s _ _ h4,h5.mono fun _ _ a=>LkAt.same s.t _ _ a⟩
theorem Au {α:Type}{R:V->α->Prop}{v:V}{x:α}{vs:List V}{xs:List α}(h:R v x)(h':Al R vs xs):Al R (v::vs) (x::xs):=by
 refine ⟨by rw [O3,O3,h'.1],fun j u y hu hy=>?_⟩
 cases j with
 | zero=>cases hu;cases hy;exact h
 | succ j=>exact h'.2 j u y (by simpa using hu) (by simpa using hy)
theorem al0 {R:V->Tr->Prop}:∀(j:Nat)(v:V)(t:Tr),([]:List V)[j]?=some v->([]:List Tr)[j]?=some t->R v t:=fun j v t h=>by simp at h
theorem al1 {R:V->Tr->Prop}{v:V}{t:Tr}(h:R v t):∀(j:Nat)(u:V)(s:Tr),[v][j]?=some u->[t][j]?=some s->R u s:=(Au h .nil).2
theorem al2 {R:V->Tr->Prop}{v v':V}{t t':Tr}(h:R v t)(h':R v' t'):∀(j:Nat)(u:V)(s:Tr),[v,v'][j]?=some u->[t,t'][j]?=some s->R u s:=(Au h (Au h' .nil)).2
section
variable {P:Program}{w:World}{K:Os}{mg:Str->Option Value}{base:Heap}
theorem Zon (a a':Str)(z:Int):∃ t,B0 [V.str "then",.str "=",.str "=>",.str "007",.str "x+1",.str (O8 "B" ++ a'),.str "in",.str (O8 "9" ++ a)] (z % 8)=some (.str t):=by
 obtain ⟨v,hv,m⟩:=Gr (xs:=[V.str "then",.str "=",.str "=>",.str "007",.str "x+1",.str (O8 "B" ++ a'),.str "in",.str (O8 "9" ++ a)]) (i:=z % 8) (Qu _ (by decide)) (Qq _ (by decide))
 simp only [O1,Po,or_false] at m
 rcases m with rfl | rfl | rfl | rfl | rfl | rfl | rfl | rfl <;> exact ⟨_,hv⟩
noncomputable def Zcg (K:Os):Sp:=fun vs H Q _=>∃(sc p:Addr)(a a' a2 a3:Str),vs=[.ref sc,.ref p]/\Script K H sc/\SqL K H p [.str a,.str a',.str a2,.str a3]/\a.length<=100/\a'.length<=100/\∀(od:Str)(z:Int)(b:Bool)(l:Addr)(cs:List V)(H':Hp),Same H H'->H' l=some (.lst cs)->Al (CsAt K H') cs (Ku a od z b)->Q (.ref l) H'
theorem Gg:Bm ["_law_script", "_law_names_here", "_law_num", "_law_truth", "_law_one", "_law_odd", "_law_number", "_law_yes"] ["_law_script", "_law_names_here"] (Be Kf):=by walk_at "sc"
theorem Zia {f:Addr}{fd:FuncData}(F:Fun K "_law_lone" "_law_lone" Kf f fd)(T:Txt K mg)(C__law_cell_at:Ba P w K mg base 1 "_law_cell_at" ["_law_script", "_law_k"] (Ln K))(C__law_form:Ba P w K mg base 1 "_law_form" ["_law_word", "_law_note", "_law_many"] (Zba K)):A9 P w K mg base Bd 2 f fd ["_law_script", "_law_names_here"] (Zcg K):=by
 refine F.okq Gg (fun vs H Q E h=>?_) (fun cdv A outer s H vs Q E hr h=>?_)
 ·obtain ⟨sc,p,a,a',a2,a3,rfl,_⟩:=h
  rfl
 ·obtain ⟨sc,p,a,a',a2,a3,rfl,hS,hp,hla,hla',q⟩:=h
  refine ⟨_,Ag (Ar 2 Gg (Ad (Aa Ah Ab)))
   (Ag (Ar 3 Gg (Ad (Aa Ah Ab)))
   (Ag (Ar 4 Gg (Ad (Aa Ah (Aa Af Ab))))
   (Ag (Ar 5 Gg (Ap K (Av (Aa Ah (Aa Ah (Aa Ah (Aa Ah (Aa Ah (Aa (Bs (Dq K) Ah (Ap K (qv 1) Af)) (Aa Ah (Aa (Bs (Dq K) Ah (Ap K (qv 1) Af)) Ab))))))))) (Bs Ed (As C__law_cell_at hr.m (Aa (qv 0) (Aa Af Ab))) Af)))
   (Ag (Ar 6 Gg (Bs Ed (As C__law_cell_at hr.m (Aa (qv 0) (Aa Af Ab))) (Bs Zbu Af Af)))
   (Ag (Ar 7 Gg (Kg (B2 K hr.u200) (Bs Ed (As C__law_cell_at hr.m (Aa (qv 0) (Aa Af Ab))) Af) Af (Br _)))
   (Ak (Ax (Av (Aa (Ad (Aa (As C__law_form hr.m (Aa Ah (Aa Bu (Aa Af Ab)))) (Aa (Av (Aa (Ad (Aa (Ad Ab) (Aa (qv 4) (Aa Bu (Aa Ah Ab))))) Ab)) Ab))) (Aa (Ad (Aa (As C__law_form hr.m (Aa Ah (Aa (qv 5) (Aa Af Ab)))) (Aa (Av (Aa (Ad (Aa (Ad Ab) (Aa (qv 4) (Aa Bu (Aa Ah Ab))))) Ab)) Ab))) (Aa (Ad (Aa (As C__law_form hr.m (Aa Ah (Aa (qv 6) (Aa Af Ab)))) (Aa (Av (Aa (Ad (Aa (Ad Ab) (Aa (qv 2) (Aa Bu (Aa Ah Ab))))) Ab)) Ab))) (Aa (Ad (Aa (As C__law_form hr.m (Aa Ah (Aa (qv 7) (Aa Af Ab)))) (Aa (Av (Aa (Ad (Aa (Ad Ab) (Aa (qv 3) (Aa Bu (Aa Ah Ab))))) Ab)) Ab))) (Aa (Ad (Aa (As C__law_form hr.m (Aa Ah (Aa (Ap K (qv 1) Af) (Aa Af Ab)))) (Aa (Av (Aa (Ad (Aa (Ad Ab) (Aa (qv 4) (Aa Bu (Aa Ah Ab))))) Ab)) Ab))) (Aa (Ad (Aa (As C__law_form hr.m (Aa Ah (Aa Bu (Aa Af Ab)))) (Aa (Av (Aa (Ad (Aa (Ad Ab) (Aa (qv 2) (Aa Bu (Aa Ah Ab))))) (Aa (Ad (Aa (Ad (Aa Af Ab)) (Aa (qv 2) (Aa (qv 2) (Aa Ah Ab))))) (Aa (Ad (Aa (Ad (Aa Af Ab)) (Aa (qv 2) (Aa (qv 2) (Aa Ah Ab))))) Ab)))) Ab))) (Aa (Ad (Aa (As C__law_form hr.m (Aa Ah (Aa Bu (Aa Af Ab)))) (Aa (Av (Aa (Ad (Aa (Ad Ab) (Aa (qv 2) (Aa Bu (Aa Ah Ab))))) (Aa (Ad (Aa (Ad (Aa Af Ab)) (Aa (qv 2) (Aa (qv 2) (Aa Ah Ab))))) (Aa (Ad (Aa (Ad (Aa Af Ab)) (Aa (qv 2) (Aa (qv 2) (Aa Ah Ab))))) Ab)))) Ab))) (Aa (Ad (Aa (As C__law_form hr.m (Aa Ah (Aa Bu (Aa Af Ab)))) (Aa (Av (Aa (Ad (Aa (Ad Ab) (Aa (qv 3) (Aa Bu (Aa Ah Ab))))) (Aa (Ad (Aa (Ad (Aa Af Ab)) (Aa (qv 2) (Aa (qv 2) (Aa Ah Ab))))) (Aa (Ad (Aa (Ad (Aa Af Ab)) (Aa (qv 2) (Aa (qv 2) (Aa Ah Ab))))) Ab)))) Ab))) Ab)))))))))))))))),?_⟩
  have bg:=big
  walk_at "r"
  rw [show L2.start ["_law_script", "_law_names_here", "_law_num", "_law_truth", "_law_one", "_law_odd", "_law_number", "_law_yes"] [.ref sc,.ref p]=([some (.ref sc),some (.ref p),none,none,none,none,none,none]:List (Option V)) from rfl]
  refine ⟨A0,fun a1 h1=>?_⟩
  have s1:=Same.upd (o:=.tup [.str "num"]) h1
  have e1:upd H a1 (.tup [.str "num"]) a1=some (.tup [.str "num"]):=Ac
  revert s1 e1
  generalize upd H a1 (.tup [.str "num"])=H1
  intro s1 e1
  clear h1
  have S1:=(Same.refl H).trans s1
  walk_at "r"
  rw [show Pf ([some (.ref sc),some (.ref p),none,none,none,none,none,none]:List (Option V)) 2 (some (.ref a1))=([some (.ref sc),some (.ref p),some (.ref a1),none,none,none,none,none]:List (Option V)) from rfl]
  refine ⟨A0,fun a2 h2=>?_⟩
  have s2:=Same.upd (o:=.tup [.str "truth"]) h2
  have e2:upd H1 a2 (.tup [.str "truth"]) a2=some (.tup [.str "truth"]):=Ac
  revert s2 e2
  generalize upd H1 a2 (.tup [.str "truth"])=H2
  intro s2 e2
  clear h2
  have S2:=S1.trans s2
  walk_at "r"
  rw [show Pf ([some (.ref sc),some (.ref p),some (.ref a1),none,none,none,none,none]:List (Option V)) 3 (some (.ref a2))=([some (.ref sc),some (.ref p),some (.ref a1),some (.ref a2),none,none,none,none]:List (Option V)) from rfl]
  refine ⟨Az,fun a3 h3=>?_⟩
  have s3:=Same.upd (o:=.tup [.str "any",.int 0]) h3
  have e3:upd H2 a3 (.tup [.str "any",.int 0]) a3=some (.tup [.str "any",.int 0]):=Ac
  revert s3 e3
  generalize upd H2 a3 (.tup [.str "any",.int 0])=H3
  intro s3 e3
  clear h3
  have S3:=S2.trans s3
  walk_at "r"
  rw [show Pf ([some (.ref sc),some (.ref p),some (.ref a1),some (.ref a2),none,none,none,none]:List (Option V)) 4 (some (.ref a3))=([some (.ref sc),some (.ref p),some (.ref a1),some (.ref a2),some (.ref a3),none,none,none]:List (Option V)) from rfl]
  refine A1 (S3.seq hp) (Bp (j:=1) rfl) ?_
  walk_at "r"
  refine Mg (by rw [show (O8 "B").length=1 by decide +kernel];omega) ?_
  walk_at "r"
  refine A1 (S3.seq hp) (Bp (j:=0) rfl) ?_
  walk_at "r"
  refine Mg (by rw [show (O8 "9").length=1 by decide +kernel];omega) ?_
  walk_at "r"
  refine ⟨Hh,fun a4 h4=>?_⟩
  have s4:=Same.upd (o:=.lst [.str "then",.str "=",.str "=>",.str "007",.str "x+1",.str (O8 "B" ++ a'),.str "in",.str (O8 "9" ++ a)]) h4
  have e4:upd H3 a4 (.lst [.str "then",.str "=",.str "=>",.str "007",.str "x+1",.str (O8 "B" ++ a'),.str "in",.str (O8 "9" ++ a)]) a4=some (.lst [.str "then",.str "=",.str "=>",.str "007",.str "x+1",.str (O8 "B" ++ a'),.str "in",.str (O8 "9" ++ a)]):=Ac
  revert s4 e4
  generalize upd H3 a4 (.lst [.str "then",.str "=",.str "=>",.str "007",.str "x+1",.str (O8 "B" ++ a'),.str "in",.str (O8 "9" ++ a)])=H4
  intro s4 e4
  clear h4
  have S4:=S3.trans s4
  walk_at "r"
  refine ⟨sc,2,rfl,hS.same S4,by decide,fun z1=>?_⟩
  walk_at "r"
  obtain ⟨od,hod⟩:=Zon a a' z1
  refine A1 (SqL.of e4) hod ?_
  walk_at "r"
  rw [show Pf ([some (.ref sc),some (.ref p),some (.ref a1),some (.ref a2),some (.ref a3),none,none,none]:List (Option V)) 5 (some (.str od))=([some (.ref sc),some (.ref p),some (.ref a1),some (.ref a2),some (.ref a3),some (.str od),none,none]:List (Option V)) from rfl]
  refine ⟨sc,3,rfl,hS.same S4,by decide,fun z2=>?_⟩
  walk_at "r"
  generalize z2 % 10 ^ Int.toNat 18=zp
  walk_at "r"
  rw [show Pf ([some (.ref sc),some (.ref p),some (.ref a1),some (.ref a2),some (.ref a3),some (.str od),none,none]:List (Option V)) 6 (some (.int zp))=([some (.ref sc),some (.ref p),some (.ref a1),some (.ref a2),some (.ref a3),some (.str od),some (.int zp),none]:List (Option V)) from rfl]
  refine ⟨sc,4,rfl,hS.same S4,by decide,fun z3=>?_⟩
  walk_at "r"
  walk_at "r"
  rw [show Pf ([some (.ref sc),some (.ref p),some (.ref a1),some (.ref a2),some (.ref a3),some (.str od),some (.int zp),none]:List (Option V)) 7 (some (.bl (decide (V.int (z3 % 2)=V.int 1))))=([some (.ref sc),some (.ref p),some (.ref a1),some (.ref a2),some (.ref a3),some (.str od),some (.int zp),some (.bl (decide (V.int (z3 % 2)=V.int 1)))]:List (Option V)) from rfl]
  refine ⟨"gap",.non,.flat (.non),0,rfl,(.inl ⟨rfl,rfl⟩),by decide,fun v5 H5 s5 T5=>?_⟩
  have S5:=S4.trans s5
  walk_at "r"
  refine ⟨A4,fun a6 h6=>?_⟩
  have s6:=Same.upd (o:=.tup []) h6
  have e6:upd H5 a6 (.tup []) a6=some (.tup []):=Ac
  revert s6 e6
  generalize upd H5 a6 (.tup [])=H6
  intro s6 e6
  clear h6
  have S6:=S5.trans s6
  walk_at "r"
  refine ⟨A5,fun a7 h7=>?_⟩
  have s7:=Same.upd (o:=.tup [.ref a6,.ref a3,.non,.str ""]) h7
  have e7:upd H6 a7 (.tup [.ref a6,.ref a3,.non,.str ""]) a7=some (.tup [.ref a6,.ref a3,.non,.str ""]):=Ac
  revert s7 e7
  generalize upd H6 a7 (.tup [.ref a6,.ref a3,.non,.str ""])=H7
  intro s7 e7
  clear h7
  have S7:=S6.trans s7
  walk_at "r"
  refine ⟨A0,fun a8 h8=>?_⟩
  have s8:=Same.upd (o:=.lst [.ref a7]) h8
  have e8:upd H7 a8 (.lst [.ref a7]) a8=some (.lst [.ref a7]):=Ac
  revert s8 e8
  generalize upd H7 a8 (.lst [.ref a7])=H8
  intro s8 e8
  clear h8
  have S8:=S7.trans s8
  walk_at "r"
  refine ⟨Az,fun a9 h9=>?_⟩
  have s9:=Same.upd (o:=.tup [v5,.ref a8]) h9
  have e9:upd H8 a9 (.tup [v5,.ref a8]) a9=some (.tup [v5,.ref a8]):=Ac
  revert s9 e9
  generalize upd H8 a9 (.tup [v5,.ref a8])=H9
  intro s9 e9
  clear h9
  have S9:=S8.trans s9
  walk_at "r"
  refine ⟨"odd",.str od,.flat (.str od),0,rfl,(.inl ⟨rfl,rfl⟩),by decide,fun v10 H10 s10 T10=>?_⟩
  have S10:=S9.trans s10
  walk_at "r"
  refine ⟨A4,fun a11 h11=>?_⟩
  have s11:=Same.upd (o:=.tup []) h11
  have e11:upd H10 a11 (.tup []) a11=some (.tup []):=Ac
  revert s11 e11
  generalize upd H10 a11 (.tup [])=H11
  intro s11 e11
  clear h11
  have S11:=S10.trans s11
  walk_at "r"
  refine ⟨A5,fun a12 h12=>?_⟩
  have s12:=Same.upd (o:=.tup [.ref a11,.ref a3,.non,.str "odd"]) h12
  have e12:upd H11 a12 (.tup [.ref a11,.ref a3,.non,.str "odd"]) a12=some (.tup [.ref a11,.ref a3,.non,.str "odd"]):=Ac
  revert s12 e12
  generalize upd H11 a12 (.tup [.ref a11,.ref a3,.non,.str "odd"])=H12
  intro s12 e12
  clear h12
  have S12:=S11.trans s12
  walk_at "r"
  refine ⟨A0,fun a13 h13=>?_⟩
  have s13:=Same.upd (o:=.lst [.ref a12]) h13
  have e13:upd H12 a13 (.lst [.ref a12]) a13=some (.lst [.ref a12]):=Ac
  revert s13 e13
  generalize upd H12 a13 (.lst [.ref a12])=H13
  intro s13 e13
  clear h13
  have S13:=S12.trans s13
  walk_at "r"
  refine ⟨Az,fun a14 h14=>?_⟩
  have s14:=Same.upd (o:=.tup [v10,.ref a13]) h14
  have e14:upd H13 a14 (.tup [v10,.ref a13]) a14=some (.tup [v10,.ref a13]):=Ac
  revert s14 e14
  generalize upd H13 a14 (.tup [v10,.ref a13])=H14
  intro s14 e14
  clear h14
  have S14:=S13.trans s14
  walk_at "r"
  refine ⟨"num",.int zp,.flat (.int zp),0,rfl,(.inl ⟨rfl,rfl⟩),by decide,fun v15 H15 s15 T15=>?_⟩
  have S15:=S14.trans s15
  walk_at "r"
  refine ⟨A4,fun a16 h16=>?_⟩
  have s16:=Same.upd (o:=.tup []) h16
  have e16:upd H15 a16 (.tup []) a16=some (.tup []):=Ac
  revert s16 e16
  generalize upd H15 a16 (.tup [])=H16
  intro s16 e16
  clear h16
  have S16:=S15.trans s16
  walk_at "r"
  refine ⟨A5,fun a17 h17=>?_⟩
  have s17:=Same.upd (o:=.tup [.ref a16,.ref a1,.non,.str ""]) h17
  have e17:upd H16 a17 (.tup [.ref a16,.ref a1,.non,.str ""]) a17=some (.tup [.ref a16,.ref a1,.non,.str ""]):=Ac
  revert s17 e17
  generalize upd H16 a17 (.tup [.ref a16,.ref a1,.non,.str ""])=H17
  intro s17 e17
  clear h17
  have S17:=S16.trans s17
  walk_at "r"
  refine ⟨A0,fun a18 h18=>?_⟩
  have s18:=Same.upd (o:=.lst [.ref a17]) h18
  have e18:upd H17 a18 (.lst [.ref a17]) a18=some (.lst [.ref a17]):=Ac
  revert s18 e18
  generalize upd H17 a18 (.lst [.ref a17])=H18
  intro s18 e18
  clear h18
  have S18:=S17.trans s18
  walk_at "r"
  refine ⟨Az,fun a19 h19=>?_⟩
  have s19:=Same.upd (o:=.tup [v15,.ref a18]) h19
  have e19:upd H18 a19 (.tup [v15,.ref a18]) a19=some (.tup [v15,.ref a18]):=Ac
  revert s19 e19
  generalize upd H18 a19 (.tup [v15,.ref a18])=H19
  intro s19 e19
  clear h19
  have S19:=S18.trans s19
  walk_at "r"
  refine ⟨"truth",.bl (decide (V.int (z3 % 2)=V.int 1)),.flat (.bl (decide (V.int (z3 % 2)=V.int 1))),0,rfl,(.inl ⟨rfl,rfl⟩),by decide,fun v20 H20 s20 T20=>?_⟩
  have S20:=S19.trans s20
  walk_at "r"
  refine ⟨A4,fun a21 h21=>?_⟩
  have s21:=Same.upd (o:=.tup []) h21
  have e21:upd H20 a21 (.tup []) a21=some (.tup []):=Ac
  revert s21 e21
  generalize upd H20 a21 (.tup [])=H21
  intro s21 e21
  clear h21
  have S21:=S20.trans s21
  walk_at "r"
  refine ⟨A5,fun a22 h22=>?_⟩
  have s22:=Same.upd (o:=.tup [.ref a21,.ref a2,.non,.str ""]) h22
  have e22:upd H21 a22 (.tup [.ref a21,.ref a2,.non,.str ""]) a22=some (.tup [.ref a21,.ref a2,.non,.str ""]):=Ac
  revert s22 e22
  generalize upd H21 a22 (.tup [.ref a21,.ref a2,.non,.str ""])=H22
  intro s22 e22
  clear h22
  have S22:=S21.trans s22
  walk_at "r"
  refine ⟨A0,fun a23 h23=>?_⟩
  have s23:=Same.upd (o:=.lst [.ref a22]) h23
  have e23:upd H22 a23 (.lst [.ref a22]) a23=some (.lst [.ref a22]):=Ac
  revert s23 e23
  generalize upd H22 a23 (.lst [.ref a22])=H23
  intro s23 e23
  clear h23
  have S23:=S22.trans s23
  walk_at "r"
  refine ⟨Az,fun a24 h24=>?_⟩
  have s24:=Same.upd (o:=.tup [v20,.ref a23]) h24
  have e24:upd H23 a24 (.tup [v20,.ref a23]) a24=some (.tup [v20,.ref a23]):=Ac
  revert s24 e24
  generalize upd H23 a24 (.tup [v20,.ref a23])=H24
  intro s24 e24
  clear h24
  have S24:=S23.trans s24
  walk_at "r"
  refine A1 (S24.seq hp) (Bp (j:=0) rfl) ?_
  walk_at "r"
  refine ⟨"name",.str a,.flat (.str a),0,rfl,(.inl ⟨rfl,rfl⟩),by decide,fun v25 H25 s25 T25=>?_⟩
  have S25:=S24.trans s25
  walk_at "r"
  refine ⟨A4,fun a26 h26=>?_⟩
  have s26:=Same.upd (o:=.tup []) h26
  have e26:upd H25 a26 (.tup []) a26=some (.tup []):=Ac
  revert s26 e26
  generalize upd H25 a26 (.tup [])=H26
  intro s26 e26
  clear h26
  have S26:=S25.trans s26
  walk_at "r"
  refine ⟨A5,fun a27 h27=>?_⟩
  have s27:=Same.upd (o:=.tup [.ref a26,.ref a3,.non,.str "free"]) h27
  have e27:upd H26 a27 (.tup [.ref a26,.ref a3,.non,.str "free"]) a27=some (.tup [.ref a26,.ref a3,.non,.str "free"]):=Ac
  revert s27 e27
  generalize upd H26 a27 (.tup [.ref a26,.ref a3,.non,.str "free"])=H27
  intro s27 e27
  clear h27
  have S27:=S26.trans s27
  walk_at "r"
  refine ⟨A0,fun a28 h28=>?_⟩
  have s28:=Same.upd (o:=.lst [.ref a27]) h28
  have e28:upd H27 a28 (.lst [.ref a27]) a28=some (.lst [.ref a27]):=Ac
  revert s28 e28
  generalize upd H27 a28 (.lst [.ref a27])=H28
  intro s28 e28
  clear h28
  have S28:=S27.trans s28
  walk_at "r"
  refine ⟨Az,fun a29 h29=>?_⟩
  have s29:=Same.upd (o:=.tup [v25,.ref a28]) h29
  have e29:upd H28 a29 (.tup [v25,.ref a28]) a29=some (.tup [v25,.ref a28]):=Ac
  revert s29 e29
  generalize upd H28 a29 (.tup [v25,.ref a28])=H29
  intro s29 e29
  clear h29
  have S29:=S28.trans s29
  walk_at "r"
  refine ⟨"plus",.non,.flat (.non),2,rfl,(.inl ⟨rfl,rfl⟩),by decide,fun v30 H30 s30 T30=>?_⟩
  have S30:=S29.trans s30
  walk_at "r"
  refine ⟨A4,fun a31 h31=>?_⟩
  have s31:=Same.upd (o:=.tup []) h31
  have e31:upd H30 a31 (.tup []) a31=some (.tup []):=Ac
  revert s31 e31
  generalize upd H30 a31 (.tup [])=H31
  intro s31 e31
  clear h31
  have S31:=S30.trans s31
  walk_at "r"
  refine ⟨A5,fun a32 h32=>?_⟩
  have s32:=Same.upd (o:=.tup [.ref a31,.ref a1,.non,.str ""]) h32
  have e32:upd H31 a32 (.tup [.ref a31,.ref a1,.non,.str ""]) a32=some (.tup [.ref a31,.ref a1,.non,.str ""]):=Ac
  revert s32 e32
  generalize upd H31 a32 (.tup [.ref a31,.ref a1,.non,.str ""])=H32
  intro s32 e32
  clear h32
  have S32:=S31.trans s32
  walk_at "r"
  refine ⟨A0,fun a33 h33=>?_⟩
  have s33:=Same.upd (o:=.tup [.int 0]) h33
  have e33:upd H32 a33 (.tup [.int 0]) a33=some (.tup [.int 0]):=Ac
  revert s33 e33
  generalize upd H32 a33 (.tup [.int 0])=H33
  intro s33 e33
  clear h33
  have S33:=S32.trans s33
  walk_at "r"
  refine ⟨A5,fun a34 h34=>?_⟩
  have s34:=Same.upd (o:=.tup [.ref a33,.ref a1,.ref a1,.str ""]) h34
  have e34:upd H33 a34 (.tup [.ref a33,.ref a1,.ref a1,.str ""]) a34=some (.tup [.ref a33,.ref a1,.ref a1,.str ""]):=Ac
  revert s34 e34
  generalize upd H33 a34 (.tup [.ref a33,.ref a1,.ref a1,.str ""])=H34
  intro s34 e34
  clear h34
  have S34:=S33.trans s34
  walk_at "r"
  refine ⟨A0,fun a35 h35=>?_⟩
  have s35:=Same.upd (o:=.tup [.int 1]) h35
  have e35:upd H34 a35 (.tup [.int 1]) a35=some (.tup [.int 1]):=Ac
  revert s35 e35
  generalize upd H34 a35 (.tup [.int 1])=H35
  intro s35 e35
  clear h35
  have S35:=S34.trans s35
  walk_at "r"
  refine ⟨A5,fun a36 h36=>?_⟩
  have s36:=Same.upd (o:=.tup [.ref a35,.ref a1,.ref a1,.str ""]) h36
  have e36:upd H35 a36 (.tup [.ref a35,.ref a1,.ref a1,.str ""]) a36=some (.tup [.ref a35,.ref a1,.ref a1,.str ""]):=Ac
  revert s36 e36
  generalize upd H35 a36 (.tup [.ref a35,.ref a1,.ref a1,.str ""])=H36
  intro s36 e36
  clear h36
  have S36:=S35.trans s36
  walk_at "r"
  refine ⟨Bh,fun a37 h37=>?_⟩
  have s37:=Same.upd (o:=.lst [.ref a32,.ref a34,.ref a36]) h37
  have e37:upd H36 a37 (.lst [.ref a32,.ref a34,.ref a36]) a37=some (.lst [.ref a32,.ref a34,.ref a36]):=Ac
  revert s37 e37
  generalize upd H36 a37 (.lst [.ref a32,.ref a34,.ref a36])=H37
  intro s37 e37
  clear h37
  have S37:=S36.trans s37
  walk_at "r"
  refine ⟨Az,fun a38 h38=>?_⟩
  have s38:=Same.upd (o:=.tup [v30,.ref a37]) h38
  have e38:upd H37 a38 (.tup [v30,.ref a37]) a38=some (.tup [v30,.ref a37]):=Ac
  revert s38 e38
  generalize upd H37 a38 (.tup [v30,.ref a37])=H38
  intro s38 e38
  clear h38
  have S38:=S37.trans s38
  walk_at "r"
  refine ⟨"minus",.non,.flat (.non),2,rfl,(.inl ⟨rfl,rfl⟩),by decide,fun v39 H39 s39 T39=>?_⟩
  have S39:=S38.trans s39
  walk_at "r"
  refine ⟨A4,fun a40 h40=>?_⟩
  have s40:=Same.upd (o:=.tup []) h40
  have e40:upd H39 a40 (.tup []) a40=some (.tup []):=Ac
  revert s40 e40
  generalize upd H39 a40 (.tup [])=H40
  intro s40 e40
  clear h40
  have S40:=S39.trans s40
  walk_at "r"
  refine ⟨A5,fun a41 h41=>?_⟩
  have s41:=Same.upd (o:=.tup [.ref a40,.ref a1,.non,.str ""]) h41
  have e41:upd H40 a41 (.tup [.ref a40,.ref a1,.non,.str ""]) a41=some (.tup [.ref a40,.ref a1,.non,.str ""]):=Ac
  revert s41 e41
  generalize upd H40 a41 (.tup [.ref a40,.ref a1,.non,.str ""])=H41
  intro s41 e41
  clear h41
  have S41:=S40.trans s41
  walk_at "r"
  refine ⟨A0,fun a42 h42=>?_⟩
  have s42:=Same.upd (o:=.tup [.int 0]) h42
  have e42:upd H41 a42 (.tup [.int 0]) a42=some (.tup [.int 0]):=Ac
  revert s42 e42
  generalize upd H41 a42 (.tup [.int 0])=H42
  intro s42 e42
  clear h42
  have S42:=S41.trans s42
  walk_at "r"
  refine ⟨A5,fun a43 h43=>?_⟩
  have s43:=Same.upd (o:=.tup [.ref a42,.ref a1,.ref a1,.str ""]) h43
  have e43:upd H42 a43 (.tup [.ref a42,.ref a1,.ref a1,.str ""]) a43=some (.tup [.ref a42,.ref a1,.ref a1,.str ""]):=Ac
  revert s43 e43
  generalize upd H42 a43 (.tup [.ref a42,.ref a1,.ref a1,.str ""])=H43
  intro s43 e43
  clear h43
  have S43:=S42.trans s43
  walk_at "r"
  refine ⟨A0,fun a44 h44=>?_⟩
  have s44:=Same.upd (o:=.tup [.int 1]) h44
  have e44:upd H43 a44 (.tup [.int 1]) a44=some (.tup [.int 1]):=Ac
  revert s44 e44
  generalize upd H43 a44 (.tup [.int 1])=H44
  intro s44 e44
  clear h44
  have S44:=S43.trans s44
  walk_at "r"
  refine ⟨A5,fun a45 h45=>?_⟩
  have s45:=Same.upd (o:=.tup [.ref a44,.ref a1,.ref a1,.str ""]) h45
  have e45:upd H44 a45 (.tup [.ref a44,.ref a1,.ref a1,.str ""]) a45=some (.tup [.ref a44,.ref a1,.ref a1,.str ""]):=Ac
  revert s45 e45
  generalize upd H44 a45 (.tup [.ref a44,.ref a1,.ref a1,.str ""])=H45
  intro s45 e45
  clear h45
  have S45:=S44.trans s45
  walk_at "r"
  refine ⟨Bh,fun a46 h46=>?_⟩
  have s46:=Same.upd (o:=.lst [.ref a41,.ref a43,.ref a45]) h46
  have e46:upd H45 a46 (.lst [.ref a41,.ref a43,.ref a45]) a46=some (.lst [.ref a41,.ref a43,.ref a45]):=Ac
  revert s46 e46
  generalize upd H45 a46 (.lst [.ref a41,.ref a43,.ref a45])=H46
  intro s46 e46
  clear h46
  have S46:=S45.trans s46
  walk_at "r"
  refine ⟨Az,fun a47 h47=>?_⟩
  have s47:=Same.upd (o:=.tup [v39,.ref a46]) h47
  have e47:upd H46 a47 (.tup [v39,.ref a46]) a47=some (.tup [v39,.ref a46]):=Ac
  revert s47 e47
  generalize upd H46 a47 (.tup [v39,.ref a46])=H47
  intro s47 e47
  clear h47
  have S47:=S46.trans s47
  walk_at "r"
  refine ⟨"less",.non,.flat (.non),2,rfl,(.inl ⟨rfl,rfl⟩),by decide,fun v48 H48 s48 T48=>?_⟩
  have S48:=S47.trans s48
  walk_at "r"
  refine ⟨A4,fun a49 h49=>?_⟩
  have s49:=Same.upd (o:=.tup []) h49
  have e49:upd H48 a49 (.tup []) a49=some (.tup []):=Ac
  revert s49 e49
  generalize upd H48 a49 (.tup [])=H49
  intro s49 e49
  clear h49
  have S49:=S48.trans s49
  walk_at "r"
  refine ⟨A5,fun a50 h50=>?_⟩
  have s50:=Same.upd (o:=.tup [.ref a49,.ref a2,.non,.str ""]) h50
  have e50:upd H49 a50 (.tup [.ref a49,.ref a2,.non,.str ""]) a50=some (.tup [.ref a49,.ref a2,.non,.str ""]):=Ac
  revert s50 e50
  generalize upd H49 a50 (.tup [.ref a49,.ref a2,.non,.str ""])=H50
  intro s50 e50
  clear h50
  have S50:=S49.trans s50
  walk_at "r"
  refine ⟨A0,fun a51 h51=>?_⟩
  have s51:=Same.upd (o:=.tup [.int 0]) h51
  have e51:upd H50 a51 (.tup [.int 0]) a51=some (.tup [.int 0]):=Ac
  revert s51 e51
  generalize upd H50 a51 (.tup [.int 0])=H51
  intro s51 e51
  clear h51
  have S51:=S50.trans s51
  walk_at "r"
  refine ⟨A5,fun a52 h52=>?_⟩
  have s52:=Same.upd (o:=.tup [.ref a51,.ref a1,.ref a1,.str ""]) h52
  have e52:upd H51 a52 (.tup [.ref a51,.ref a1,.ref a1,.str ""]) a52=some (.tup [.ref a51,.ref a1,.ref a1,.str ""]):=Ac
  revert s52 e52
  generalize upd H51 a52 (.tup [.ref a51,.ref a1,.ref a1,.str ""])=H52
  intro s52 e52
  clear h52
  have S52:=S51.trans s52
  walk_at "r"
  refine ⟨A0,fun a53 h53=>?_⟩
  have s53:=Same.upd (o:=.tup [.int 1]) h53
  have e53:upd H52 a53 (.tup [.int 1]) a53=some (.tup [.int 1]):=Ac
  revert s53 e53
  generalize upd H52 a53 (.tup [.int 1])=H53
  intro s53 e53
  clear h53
  have S53:=S52.trans s53
  walk_at "r"
  refine ⟨A5,fun a54 h54=>?_⟩
  have s54:=Same.upd (o:=.tup [.ref a53,.ref a1,.ref a1,.str ""]) h54
  have e54:upd H53 a54 (.tup [.ref a53,.ref a1,.ref a1,.str ""]) a54=some (.tup [.ref a53,.ref a1,.ref a1,.str ""]):=Ac
  revert s54 e54
  generalize upd H53 a54 (.tup [.ref a53,.ref a1,.ref a1,.str ""])=H54
  intro s54 e54
  clear h54
  have S54:=S53.trans s54
  walk_at "r"
  refine ⟨Bh,fun a55 h55=>?_⟩
  have s55:=Same.upd (o:=.lst [.ref a50,.ref a52,.ref a54]) h55
  have e55:upd H54 a55 (.lst [.ref a50,.ref a52,.ref a54]) a55=some (.lst [.ref a50,.ref a52,.ref a54]):=Ac
  revert s55 e55
  generalize upd H54 a55 (.lst [.ref a50,.ref a52,.ref a54])=H55
  intro s55 e55
  clear h55
  have S55:=S54.trans s55
  walk_at "r"
  refine ⟨Az,fun a56 h56=>?_⟩
  have s56:=Same.upd (o:=.tup [v48,.ref a55]) h56
  have e56:upd H55 a56 (.tup [v48,.ref a55]) a56=some (.tup [v48,.ref a55]):=Ac
  revert s56 e56
  generalize upd H55 a56 (.tup [v48,.ref a55])=H56
  intro s56 e56
  clear h56
  have S56:=S55.trans s56
  walk_at "r"
  refine ⟨Hh,fun a57 h57=>?_⟩
  have s57:=Same.upd (o:=.lst [.ref a9,.ref a14,.ref a19,.ref a24,.ref a29,.ref a38,.ref a47,.ref a56]) h57
  have e57:upd H56 a57 (.lst [.ref a9,.ref a14,.ref a19,.ref a24,.ref a29,.ref a38,.ref a47,.ref a56]) a57=some (.lst [.ref a9,.ref a14,.ref a19,.ref a24,.ref a29,.ref a38,.ref a47,.ref a56]):=Ac
  revert s57 e57
  generalize upd H56 a57 (.lst [.ref a9,.ref a14,.ref a19,.ref a24,.ref a29,.ref a38,.ref a47,.ref a56])=H57
  intro s57 e57
  clear h57
  have S57:=S56.trans s57
  walk_at "r"
  have t57:=Same.refl H57
  have t56:=s57.trans t57
  have t55:=s56.trans t56
  have t54:=s55.trans t55
  have t53:=s54.trans t54
  have t52:=s53.trans t53
  have t51:=s52.trans t52
  have t50:=s51.trans t51
  have t49:=s50.trans t50
  have t48:=s49.trans t49
  have t47:=s48.trans t48
  have t46:=s47.trans t47
  have t45:=s46.trans t46
  have t44:=s45.trans t45
  have t43:=s44.trans t44
  have t42:=s43.trans t43
  have t41:=s42.trans t42
  have t40:=s41.trans t41
  have t39:=s40.trans t40
  have t38:=s39.trans t39
  have t37:=s38.trans t38
  have t36:=s37.trans t37
  have t35:=s36.trans t36
  have t34:=s35.trans t35
  have t33:=s34.trans t34
  have t32:=s33.trans t33
  have t31:=s32.trans t32
  have t30:=s31.trans t31
  have t29:=s30.trans t30
  have t28:=s29.trans t29
  have t27:=s28.trans t28
  have t26:=s27.trans t27
  have t25:=s26.trans t26
  have t24:=s25.trans t25
  have t23:=s24.trans t24
  have t22:=s23.trans t23
  have t21:=s22.trans t22
  have t20:=s21.trans t21
  have t19:=s20.trans t20
  have t18:=s19.trans t19
  have t17:=s18.trans t18
  have t16:=s17.trans t17
  have t15:=s16.trans t16
  have t14:=s15.trans t15
  have t13:=s14.trans t14
  have t12:=s13.trans t13
  have t11:=s12.trans t12
  have t10:=s11.trans t11
  have t9:=s10.trans t10
  have t8:=s9.trans t9
  have t7:=s8.trans t8
  have t6:=s7.trans t7
  have t5:=s6.trans t6
  have t4:=s5.trans t5
  have t3:=s4.trans t4
  have t2:=s3.trans t3
  have t1:=s2.trans t2
  have c0:CsAt K H57 (.ref a9) (Gb a od zp (decide (V.int (z3 % 2)=V.int 1)),L0):=⟨_,_,_,_,rfl,(SqT.of (t9 _ _ e9)),(T5.same t5),(t8 _ _ e8),(Au ⟨_,_,_,_,rfl,(SqT.of (t7 _ _ e7)),(t6 _ _ e6),(.any (n:=0) (SqT.of (t3 _ _ e3))),.inl ⟨rfl,rfl⟩⟩ .nil)⟩
  have c1:CsAt K H57 (.ref a14) (Gj a od zp (decide (V.int (z3 % 2)=V.int 1)),Lp):=⟨_,_,_,_,rfl,(SqT.of (t14 _ _ e14)),(T10.same t10),(t13 _ _ e13),(Au ⟨_,_,_,_,rfl,(SqT.of (t12 _ _ e12)),(t11 _ _ e11),(.any (n:=0) (SqT.of (t3 _ _ e3))),.inl ⟨rfl,rfl⟩⟩ .nil)⟩
  have c2:CsAt K H57 (.ref a19) (Fi a od zp (decide (V.int (z3 % 2)=V.int 1)),L7):=⟨_,_,_,_,rfl,(SqT.of (t19 _ _ e19)),(T15.same t15),(t18 _ _ e18),(Au ⟨_,_,_,_,rfl,(SqT.of (t17 _ _ e17)),(t16 _ _ e16),(.num (SqT.of (t1 _ _ e1))),.inl ⟨rfl,rfl⟩⟩ .nil)⟩
  have c3:CsAt K H57 (.ref a24) (Fl a od zp (decide (V.int (z3 % 2)=V.int 1)),L3):=⟨_,_,_,_,rfl,(SqT.of (t24 _ _ e24)),(T20.same t20),(t23 _ _ e23),(Au ⟨_,_,_,_,rfl,(SqT.of (t22 _ _ e22)),(t21 _ _ e21),(.truth (SqT.of (t2 _ _ e2))),.inl ⟨rfl,rfl⟩⟩ .nil)⟩
  have c4:CsAt K H57 (.ref a29) (Fp a od zp (decide (V.int (z3 % 2)=V.int 1)),L1):=⟨_,_,_,_,rfl,(SqT.of (t29 _ _ e29)),(T25.same t25),(t28 _ _ e28),(Au ⟨_,_,_,_,rfl,(SqT.of (t27 _ _ e27)),(t26 _ _ e26),(.any (n:=0) (SqT.of (t3 _ _ e3))),.inl ⟨rfl,rfl⟩⟩ .nil)⟩
  have c5:CsAt K H57 (.ref a38) (Fq a od zp (decide (V.int (z3 % 2)=V.int 1)),Lv):=⟨_,_,_,_,rfl,(SqT.of (t38 _ _ e38)),(T30.same t30),(t37 _ _ e37),(Au ⟨_,_,_,_,rfl,(SqT.of (t32 _ _ e32)),(t31 _ _ e31),(.num (SqT.of (t1 _ _ e1))),.inl ⟨rfl,rfl⟩⟩ (Au ⟨_,_,_,_,rfl,(SqT.of (t34 _ _ e34)),(t33 _ _ e33),(.num (SqT.of (t1 _ _ e1))),.inr ⟨_,rfl,(.num (SqT.of (t1 _ _ e1)))⟩⟩ (Au ⟨_,_,_,_,rfl,(SqT.of (t36 _ _ e36)),(t35 _ _ e35),(.num (SqT.of (t1 _ _ e1))),.inr ⟨_,rfl,(.num (SqT.of (t1 _ _ e1)))⟩⟩ .nil)))⟩
  have c6:CsAt K H57 (.ref a47) (Gc a od zp (decide (V.int (z3 % 2)=V.int 1)),L9):=⟨_,_,_,_,rfl,(SqT.of (t47 _ _ e47)),(T39.same t39),(t46 _ _ e46),(Au ⟨_,_,_,_,rfl,(SqT.of (t41 _ _ e41)),(t40 _ _ e40),(.num (SqT.of (t1 _ _ e1))),.inl ⟨rfl,rfl⟩⟩ (Au ⟨_,_,_,_,rfl,(SqT.of (t43 _ _ e43)),(t42 _ _ e42),(.num (SqT.of (t1 _ _ e1))),.inr ⟨_,rfl,(.num (SqT.of (t1 _ _ e1)))⟩⟩ (Au ⟨_,_,_,_,rfl,(SqT.of (t45 _ _ e45)),(t44 _ _ e44),(.num (SqT.of (t1 _ _ e1))),.inr ⟨_,rfl,(.num (SqT.of (t1 _ _ e1)))⟩⟩ .nil)))⟩
  have c7:CsAt K H57 (.ref a56) (F7 a od zp (decide (V.int (z3 % 2)=V.int 1)),Lg):=⟨_,_,_,_,rfl,(SqT.of (t56 _ _ e56)),(T48.same t48),(t55 _ _ e55),(Au ⟨_,_,_,_,rfl,(SqT.of (t50 _ _ e50)),(t49 _ _ e49),(.truth (SqT.of (t2 _ _ e2))),.inl ⟨rfl,rfl⟩⟩ (Au ⟨_,_,_,_,rfl,(SqT.of (t52 _ _ e52)),(t51 _ _ e51),(.num (SqT.of (t1 _ _ e1))),.inr ⟨_,rfl,(.num (SqT.of (t1 _ _ e1)))⟩⟩ (Au ⟨_,_,_,_,rfl,(SqT.of (t54 _ _ e54)),(t53 _ _ e53),(.num (SqT.of (t1 _ _ e1))),.inr ⟨_,rfl,(.num (SqT.of (t1 _ _ e1)))⟩⟩ .nil)))⟩
  exact q _ _ _ _ _ _ S57 (t57 _ _ e57) (Au c0 (Au c1 (Au c2 (Au c3 (Au c4 (Au c5 (Au c6 (Au c7 .nil))))))))
noncomputable def Zbm (K:Os):Sp:=fun vs H Q _=>∃(p:Addr)(a a' a2 a3:Str),vs=[.ref p]/\SqL K H p [.str a,.str a',.str a2,.str a3]/\∀(l:Addr)(cs:List V)(H':Hp),Same H H'->H' l=some (.lst cs)->Al (CsAt K H') cs (K6 a a')->Q (.ref l) H'
theorem F6:Bm ["_law_names_here", "_law_one", "_law_two", "_law_truth", "_law_some", "_law_back", "_law_rows"] ["_law_names_here"] (Be J2):=by walk_at "sc"
theorem Zjr {f:Addr}{fd:FuncData}(F:Fun K "_law_wide" "_law_wide" J2 f fd)(T:Txt K mg)(C__law_form:Ba P w K mg base 1 "_law_form" ["_law_word", "_law_note", "_law_many"] (Zba K)):A9 P w K mg base Bd 2 f fd ["_law_names_here"] (Zbm K):=by
 refine F.okq F6 (fun vs H Q E h=>?_) (fun cdv A outer s H vs Q E hr h=>?_)
 ·obtain ⟨p,a,a',a2,a3,rfl,_⟩:=h
  rfl
 ·obtain ⟨p,a,a',a2,a3,rfl,hp,q⟩:=h
  refine ⟨_,Ag (Ar 1 F6 (Ad (Aa Ah (Aa Af Ab))))
   (Ag (Ar 2 F6 (Ad (Aa Ah (Aa Af Ab))))
   (Ag (Ar 3 F6 (Ad (Aa Ah Ab)))
   (Ag (Ar 4 F6 (Ad (Aa Ah (Aa (qv 1) (Aa (qv 2) Ab)))))
   (Ag (Ar 5 F6 (Ad (Aa Ah (Aa (qv 2) (Aa (qv 1) Ab)))))
   (Ag (Ar 6 F6 (Av (Aa (Ad (Aa (Ad Ab) (Aa (qv 1) (Aa Bu (Aa Ah Ab))))) (Aa (Ad (Aa (Ad (Aa Af Ab)) (Aa (qv 3) (Aa (qv 3) (Aa Ah Ab))))) (Aa (Ad (Aa (Ad (Aa Af Ab)) (Aa (qv 1) (Aa (qv 1) (Aa Ah Ab))))) (Aa (Ad (Aa (Ad (Aa Af Ab)) (Aa (qv 1) (Aa (qv 1) (Aa Ah Ab))))) Ab))))))
   (Ak (Ax (Av (Aa (Ad (Aa (As C__law_form hr.m (Aa Ah (Aa Bu (Aa Af Ab)))) (Aa (qv 6) Ab))) (Aa (Ad (Aa (As C__law_form hr.m (Aa Ah (Aa Bu (Aa Af Ab)))) (Aa (Av (Aa (Ad (Aa (Ad Ab) (Aa (qv 1) (Aa Bu (Aa Ah Ab))))) (Aa (Ad (Aa (Ad (Aa Af Ab)) (Aa (qv 5) (Aa (qv 5) (Aa Ah Ab))))) (Aa (Ad (Aa (Ad (Aa Af Ab)) (Aa (qv 2) (Aa (qv 2) (Aa Ah Ab))))) Ab)))) Ab))) (Aa (Ad (Aa (As C__law_form hr.m (Aa Ah (Aa (Ap K (qv 0) Af) (Aa Af Ab)))) (Aa (Av (Aa (Ad (Aa (Ad Ab) (Aa (qv 4) (Aa Bu (Aa Ah Ab))))) (Aa (Ad (Aa (Ad (Aa Af Ab)) (Aa (qv 2) (Aa (qv 2) (Aa Ah Ab))))) Ab))) Ab))) (Aa (Ad (Aa (As C__law_form hr.m (Aa Ah (Aa (Ad (Aa (Ap K (qv 0) Af) (Aa (Ap K (qv 0) Af) Ab))) (Aa Af Ab)))) (Aa (Av (Aa (Ad (Aa (Ad Ab) (Aa (qv 4) (Aa Bu (Aa Ah Ab))))) (Aa (Ad (Aa (Ad (Aa Af Ab)) (Aa (qv 2) (Aa (qv 2) (Aa Ah Ab))))) Ab))) Ab))) (Aa (Ad (Aa (As C__law_form hr.m (Aa Ah (Aa (Ap K (qv 0) Af) (Aa Af Ab)))) (Aa (Av (Aa (Ad (Aa (Ad Ab) (Aa (qv 1) (Aa Bu (Aa Ah Ab))))) (Aa (Ad (Aa (Ad (Aa Af Ab)) (Aa (qv 2) (Aa (qv 2) (Aa Ah Ab))))) (Aa (Ad (Aa (Ad (Aa Af Ab)) (Aa (qv 1) (Aa (qv 1) (Aa Ah Ab))))) Ab)))) Ab))) Ab))))))))))))),?_⟩
  have bg:=big
  walk_at "r"
  rw [show L2.start ["_law_names_here", "_law_one", "_law_two", "_law_truth", "_law_some", "_law_back", "_law_rows"] [.ref p]=([some (.ref p),none,none,none,none,none,none]:List (Option V)) from rfl]
  refine ⟨Az,fun a1 h1=>?_⟩
  have s1:=Same.upd (o:=.tup [.str "any",.int 0]) h1
  have e1:upd H a1 (.tup [.str "any",.int 0]) a1=some (.tup [.str "any",.int 0]):=Ac
  revert s1 e1
  generalize upd H a1 (.tup [.str "any",.int 0])=H1
  intro s1 e1
  clear h1
  have S1:=(Same.refl H).trans s1
  walk_at "r"
  rw [show Pf ([some (.ref p),none,none,none,none,none,none]:List (Option V)) 1 (some (.ref a1))=([some (.ref p),some (.ref a1),none,none,none,none,none]:List (Option V)) from rfl]
  refine ⟨Az,fun a2 h2=>?_⟩
  have s2:=Same.upd (o:=.tup [.str "any",.int 1]) h2
  have e2:upd H1 a2 (.tup [.str "any",.int 1]) a2=some (.tup [.str "any",.int 1]):=Ac
  revert s2 e2
  generalize upd H1 a2 (.tup [.str "any",.int 1])=H2
  intro s2 e2
  clear h2
  have S2:=S1.trans s2
  walk_at "r"
  rw [show Pf ([some (.ref p),some (.ref a1),none,none,none,none,none]:List (Option V)) 2 (some (.ref a2))=([some (.ref p),some (.ref a1),some (.ref a2),none,none,none,none]:List (Option V)) from rfl]
  refine ⟨A0,fun a3 h3=>?_⟩
  have s3:=Same.upd (o:=.tup [.str "truth"]) h3
  have e3:upd H2 a3 (.tup [.str "truth"]) a3=some (.tup [.str "truth"]):=Ac
  revert s3 e3
  generalize upd H2 a3 (.tup [.str "truth"])=H3
  intro s3 e3
  clear h3
  have S3:=S2.trans s3
  walk_at "r"
  rw [show Pf ([some (.ref p),some (.ref a1),some (.ref a2),none,none,none,none]:List (Option V)) 3 (some (.ref a3))=([some (.ref p),some (.ref a1),some (.ref a2),some (.ref a3),none,none,none]:List (Option V)) from rfl]
  refine ⟨Bh,fun a4 h4=>?_⟩
  have s4:=Same.upd (o:=.tup [.str "to",.ref a1,.ref a2]) h4
  have e4:upd H3 a4 (.tup [.str "to",.ref a1,.ref a2]) a4=some (.tup [.str "to",.ref a1,.ref a2]):=Ac
  revert s4 e4
  generalize upd H3 a4 (.tup [.str "to",.ref a1,.ref a2])=H4
  intro s4 e4
  clear h4
  have S4:=S3.trans s4
  walk_at "r"
  rw [show Pf ([some (.ref p),some (.ref a1),some (.ref a2),some (.ref a3),none,none,none]:List (Option V)) 4 (some (.ref a4))=([some (.ref p),some (.ref a1),some (.ref a2),some (.ref a3),some (.ref a4),none,none]:List (Option V)) from rfl]
  refine ⟨Bh,fun a5 h5=>?_⟩
  have s5:=Same.upd (o:=.tup [.str "to",.ref a2,.ref a1]) h5
  have e5:upd H4 a5 (.tup [.str "to",.ref a2,.ref a1]) a5=some (.tup [.str "to",.ref a2,.ref a1]):=Ac
  revert s5 e5
  generalize upd H4 a5 (.tup [.str "to",.ref a2,.ref a1])=H5
  intro s5 e5
  clear h5
  have S5:=S4.trans s5
  walk_at "r"
  rw [show Pf ([some (.ref p),some (.ref a1),some (.ref a2),some (.ref a3),some (.ref a4),none,none]:List (Option V)) 5 (some (.ref a5))=([some (.ref p),some (.ref a1),some (.ref a2),some (.ref a3),some (.ref a4),some (.ref a5),none]:List (Option V)) from rfl]
  refine ⟨A4,fun a6 h6=>?_⟩
  have s6:=Same.upd (o:=.tup []) h6
  have e6:upd H5 a6 (.tup []) a6=some (.tup []):=Ac
  revert s6 e6
  generalize upd H5 a6 (.tup [])=H6
  intro s6 e6
  clear h6
  have S6:=S5.trans s6
  walk_at "r"
  refine ⟨A5,fun a7 h7=>?_⟩
  have s7:=Same.upd (o:=.tup [.ref a6,.ref a1,.non,.str ""]) h7
  have e7:upd H6 a7 (.tup [.ref a6,.ref a1,.non,.str ""]) a7=some (.tup [.ref a6,.ref a1,.non,.str ""]):=Ac
  revert s7 e7
  generalize upd H6 a7 (.tup [.ref a6,.ref a1,.non,.str ""])=H7
  intro s7 e7
  clear h7
  have S7:=S6.trans s7
  walk_at "r"
  refine ⟨A0,fun a8 h8=>?_⟩
  have s8:=Same.upd (o:=.tup [.int 0]) h8
  have e8:upd H7 a8 (.tup [.int 0]) a8=some (.tup [.int 0]):=Ac
  revert s8 e8
  generalize upd H7 a8 (.tup [.int 0])=H8
  intro s8 e8
  clear h8
  have S8:=S7.trans s8
  walk_at "r"
  refine ⟨A5,fun a9 h9=>?_⟩
  have s9:=Same.upd (o:=.tup [.ref a8,.ref a3,.ref a3,.str ""]) h9
  have e9:upd H8 a9 (.tup [.ref a8,.ref a3,.ref a3,.str ""]) a9=some (.tup [.ref a8,.ref a3,.ref a3,.str ""]):=Ac
  revert s9 e9
  generalize upd H8 a9 (.tup [.ref a8,.ref a3,.ref a3,.str ""])=H9
  intro s9 e9
  clear h9
  have S9:=S8.trans s9
  walk_at "r"
  refine ⟨A0,fun a10 h10=>?_⟩
  have s10:=Same.upd (o:=.tup [.int 1]) h10
  have e10:upd H9 a10 (.tup [.int 1]) a10=some (.tup [.int 1]):=Ac
  revert s10 e10
  generalize upd H9 a10 (.tup [.int 1])=H10
  intro s10 e10
  clear h10
  have S10:=S9.trans s10
  walk_at "r"
  refine ⟨A5,fun a11 h11=>?_⟩
  have s11:=Same.upd (o:=.tup [.ref a10,.ref a1,.ref a1,.str ""]) h11
  have e11:upd H10 a11 (.tup [.ref a10,.ref a1,.ref a1,.str ""]) a11=some (.tup [.ref a10,.ref a1,.ref a1,.str ""]):=Ac
  revert s11 e11
  generalize upd H10 a11 (.tup [.ref a10,.ref a1,.ref a1,.str ""])=H11
  intro s11 e11
  clear h11
  have S11:=S10.trans s11
  walk_at "r"
  refine ⟨A0,fun a12 h12=>?_⟩
  have s12:=Same.upd (o:=.tup [.int 2]) h12
  have e12:upd H11 a12 (.tup [.int 2]) a12=some (.tup [.int 2]):=Ac
  revert s12 e12
  generalize upd H11 a12 (.tup [.int 2])=H12
  intro s12 e12
  clear h12
  have S12:=S11.trans s12
  walk_at "r"
  refine ⟨A5,fun a13 h13=>?_⟩
  have s13:=Same.upd (o:=.tup [.ref a12,.ref a1,.ref a1,.str ""]) h13
  have e13:upd H12 a13 (.tup [.ref a12,.ref a1,.ref a1,.str ""]) a13=some (.tup [.ref a12,.ref a1,.ref a1,.str ""]):=Ac
  revert s13 e13
  generalize upd H12 a13 (.tup [.ref a12,.ref a1,.ref a1,.str ""])=H13
  intro s13 e13
  clear h13
  have S13:=S12.trans s13
  walk_at "r"
  refine ⟨A5,fun a14 h14=>?_⟩
  have s14:=Same.upd (o:=.lst [.ref a7,.ref a9,.ref a11,.ref a13]) h14
  have e14:upd H13 a14 (.lst [.ref a7,.ref a9,.ref a11,.ref a13]) a14=some (.lst [.ref a7,.ref a9,.ref a11,.ref a13]):=Ac
  revert s14 e14
  generalize upd H13 a14 (.lst [.ref a7,.ref a9,.ref a11,.ref a13])=H14
  intro s14 e14
  clear h14
  have S14:=S13.trans s14
  walk_at "r"
  rw [show Pf ([some (.ref p),some (.ref a1),some (.ref a2),some (.ref a3),some (.ref a4),some (.ref a5),none]:List (Option V)) 6 (some (.ref a14))=([some (.ref p),some (.ref a1),some (.ref a2),some (.ref a3),some (.ref a4),some (.ref a5),some (.ref a14)]:List (Option V)) from rfl]
  refine ⟨"if",.non,.flat (.non),3,rfl,(.inl ⟨rfl,rfl⟩),by decide,fun v15 H15 s15 T15=>?_⟩
  have S15:=S14.trans s15
  walk_at "r"
  refine ⟨Az,fun a16 h16=>?_⟩
  have s16:=Same.upd (o:=.tup [v15,.ref a14]) h16
  have e16:upd H15 a16 (.tup [v15,.ref a14]) a16=some (.tup [v15,.ref a14]):=Ac
  revert s16 e16
  generalize upd H15 a16 (.tup [v15,.ref a14])=H16
  intro s16 e16
  clear h16
  have S16:=S15.trans s16
  walk_at "r"
  refine ⟨"call",.non,.flat (.non),2,rfl,(.inl ⟨rfl,rfl⟩),by decide,fun v17 H17 s17 T17=>?_⟩
  have S17:=S16.trans s17
  walk_at "r"
  refine ⟨A4,fun a18 h18=>?_⟩
  have s18:=Same.upd (o:=.tup []) h18
  have e18:upd H17 a18 (.tup []) a18=some (.tup []):=Ac
  revert s18 e18
  generalize upd H17 a18 (.tup [])=H18
  intro s18 e18
  clear h18
  have S18:=S17.trans s18
  walk_at "r"
  refine ⟨A5,fun a19 h19=>?_⟩
  have s19:=Same.upd (o:=.tup [.ref a18,.ref a1,.non,.str ""]) h19
  have e19:upd H18 a19 (.tup [.ref a18,.ref a1,.non,.str ""]) a19=some (.tup [.ref a18,.ref a1,.non,.str ""]):=Ac
  revert s19 e19
  generalize upd H18 a19 (.tup [.ref a18,.ref a1,.non,.str ""])=H19
  intro s19 e19
  clear h19
  have S19:=S18.trans s19
  walk_at "r"
  refine ⟨A0,fun a20 h20=>?_⟩
  have s20:=Same.upd (o:=.tup [.int 0]) h20
  have e20:upd H19 a20 (.tup [.int 0]) a20=some (.tup [.int 0]):=Ac
  revert s20 e20
  generalize upd H19 a20 (.tup [.int 0])=H20
  intro s20 e20
  clear h20
  have S20:=S19.trans s20
  walk_at "r"
  refine ⟨A5,fun a21 h21=>?_⟩
  have s21:=Same.upd (o:=.tup [.ref a20,.ref a5,.ref a5,.str ""]) h21
  have e21:upd H20 a21 (.tup [.ref a20,.ref a5,.ref a5,.str ""]) a21=some (.tup [.ref a20,.ref a5,.ref a5,.str ""]):=Ac
  revert s21 e21
  generalize upd H20 a21 (.tup [.ref a20,.ref a5,.ref a5,.str ""])=H21
  intro s21 e21
  clear h21
  have S21:=S20.trans s21
  walk_at "r"
  refine ⟨A0,fun a22 h22=>?_⟩
  have s22:=Same.upd (o:=.tup [.int 1]) h22
  have e22:upd H21 a22 (.tup [.int 1]) a22=some (.tup [.int 1]):=Ac
  revert s22 e22
  generalize upd H21 a22 (.tup [.int 1])=H22
  intro s22 e22
  clear h22
  have S22:=S21.trans s22
  walk_at "r"
  refine ⟨A5,fun a23 h23=>?_⟩
  have s23:=Same.upd (o:=.tup [.ref a22,.ref a2,.ref a2,.str ""]) h23
  have e23:upd H22 a23 (.tup [.ref a22,.ref a2,.ref a2,.str ""]) a23=some (.tup [.ref a22,.ref a2,.ref a2,.str ""]):=Ac
  revert s23 e23
  generalize upd H22 a23 (.tup [.ref a22,.ref a2,.ref a2,.str ""])=H23
  intro s23 e23
  clear h23
  have S23:=S22.trans s23
  walk_at "r"
  refine ⟨Bh,fun a24 h24=>?_⟩
  have s24:=Same.upd (o:=.lst [.ref a19,.ref a21,.ref a23]) h24
  have e24:upd H23 a24 (.lst [.ref a19,.ref a21,.ref a23]) a24=some (.lst [.ref a19,.ref a21,.ref a23]):=Ac
  revert s24 e24
  generalize upd H23 a24 (.lst [.ref a19,.ref a21,.ref a23])=H24
  intro s24 e24
  clear h24
  have S24:=S23.trans s24
  walk_at "r"
  refine ⟨Az,fun a25 h25=>?_⟩
  have s25:=Same.upd (o:=.tup [v17,.ref a24]) h25
  have e25:upd H24 a25 (.tup [v17,.ref a24]) a25=some (.tup [v17,.ref a24]):=Ac
  revert s25 e25
  generalize upd H24 a25 (.tup [v17,.ref a24])=H25
  intro s25 e25
  clear h25
  have S25:=S24.trans s25
  walk_at "r"
  refine A1 (S25.seq hp) (Bp (j:=0) rfl) ?_
  walk_at "r"
  refine ⟨"fn",.str a,.flat (.str a),1,rfl,(.inl ⟨rfl,rfl⟩),by decide,fun v26 H26 s26 T26=>?_⟩
  have S26:=S25.trans s26
  walk_at "r"
  refine ⟨A4,fun a27 h27=>?_⟩
  have s27:=Same.upd (o:=.tup []) h27
  have e27:upd H26 a27 (.tup []) a27=some (.tup []):=Ac
  revert s27 e27
  generalize upd H26 a27 (.tup [])=H27
  intro s27 e27
  clear h27
  have S27:=S26.trans s27
  walk_at "r"
  refine ⟨A5,fun a28 h28=>?_⟩
  have s28:=Same.upd (o:=.tup [.ref a27,.ref a4,.non,.str ""]) h28
  have e28:upd H27 a28 (.tup [.ref a27,.ref a4,.non,.str ""]) a28=some (.tup [.ref a27,.ref a4,.non,.str ""]):=Ac
  revert s28 e28
  generalize upd H27 a28 (.tup [.ref a27,.ref a4,.non,.str ""])=H28
  intro s28 e28
  clear h28
  have S28:=S27.trans s28
  walk_at "r"
  refine ⟨A0,fun a29 h29=>?_⟩
  have s29:=Same.upd (o:=.tup [.int 0]) h29
  have e29:upd H28 a29 (.tup [.int 0]) a29=some (.tup [.int 0]):=Ac
  revert s29 e29
  generalize upd H28 a29 (.tup [.int 0])=H29
  intro s29 e29
  clear h29
  have S29:=S28.trans s29
  walk_at "r"
  refine ⟨A5,fun a30 h30=>?_⟩
  have s30:=Same.upd (o:=.tup [.ref a29,.ref a2,.ref a2,.str ""]) h30
  have e30:upd H29 a30 (.tup [.ref a29,.ref a2,.ref a2,.str ""]) a30=some (.tup [.ref a29,.ref a2,.ref a2,.str ""]):=Ac
  revert s30 e30
  generalize upd H29 a30 (.tup [.ref a29,.ref a2,.ref a2,.str ""])=H30
  intro s30 e30
  clear h30
  have S30:=S29.trans s30
  walk_at "r"
  refine ⟨Az,fun a31 h31=>?_⟩
  have s31:=Same.upd (o:=.lst [.ref a28,.ref a30]) h31
  have e31:upd H30 a31 (.lst [.ref a28,.ref a30]) a31=some (.lst [.ref a28,.ref a30]):=Ac
  revert s31 e31
  generalize upd H30 a31 (.lst [.ref a28,.ref a30])=H31
  intro s31 e31
  clear h31
  have S31:=S30.trans s31
  walk_at "r"
  refine ⟨Az,fun a32 h32=>?_⟩
  have s32:=Same.upd (o:=.tup [v26,.ref a31]) h32
  have e32:upd H31 a32 (.tup [v26,.ref a31]) a32=some (.tup [v26,.ref a31]):=Ac
  revert s32 e32
  generalize upd H31 a32 (.tup [v26,.ref a31])=H32
  intro s32 e32
  clear h32
  have S32:=S31.trans s32
  walk_at "r"
  refine A1 (S32.seq hp) (Bp (j:=0) rfl) ?_
  walk_at "r"
  refine A1 (S32.seq hp) (Bp (j:=1) rfl) ?_
  walk_at "r"
  refine ⟨Az,fun a33 h33=>?_⟩
  have s33:=Same.upd (o:=.tup [.str a,.str a']) h33
  have e33:upd H32 a33 (.tup [.str a,.str a']) a33=some (.tup [.str a,.str a']):=Ac
  revert s33 e33
  generalize upd H32 a33 (.tup [.str a,.str a'])=H33
  intro s33 e33
  clear h33
  have S33:=S32.trans s33
  walk_at "r"
  refine ⟨"rec",.ref a33,.tup [.flat (.str a),.flat (.str a')],1,rfl,(.inr ⟨_,[.str a,.str a'],rfl,SqT.of e33,rfl,rfl⟩),by decide,fun v34 H34 s34 T34=>?_⟩
  have S34:=S33.trans s34
  walk_at "r"
  refine ⟨A4,fun a35 h35=>?_⟩
  have s35:=Same.upd (o:=.tup []) h35
  have e35:upd H34 a35 (.tup []) a35=some (.tup []):=Ac
  revert s35 e35
  generalize upd H34 a35 (.tup [])=H35
  intro s35 e35
  clear h35
  have S35:=S34.trans s35
  walk_at "r"
  refine ⟨A5,fun a36 h36=>?_⟩
  have s36:=Same.upd (o:=.tup [.ref a35,.ref a4,.non,.str ""]) h36
  have e36:upd H35 a36 (.tup [.ref a35,.ref a4,.non,.str ""]) a36=some (.tup [.ref a35,.ref a4,.non,.str ""]):=Ac
  revert s36 e36
  generalize upd H35 a36 (.tup [.ref a35,.ref a4,.non,.str ""])=H36
  intro s36 e36
  clear h36
  have S36:=S35.trans s36
  walk_at "r"
  refine ⟨A0,fun a37 h37=>?_⟩
  have s37:=Same.upd (o:=.tup [.int 0]) h37
  have e37:upd H36 a37 (.tup [.int 0]) a37=some (.tup [.int 0]):=Ac
  revert s37 e37
  generalize upd H36 a37 (.tup [.int 0])=H37
  intro s37 e37
  clear h37
  have S37:=S36.trans s37
  walk_at "r"
  refine ⟨A5,fun a38 h38=>?_⟩
  have s38:=Same.upd (o:=.tup [.ref a37,.ref a2,.ref a2,.str ""]) h38
  have e38:upd H37 a38 (.tup [.ref a37,.ref a2,.ref a2,.str ""]) a38=some (.tup [.ref a37,.ref a2,.ref a2,.str ""]):=Ac
  revert s38 e38
  generalize upd H37 a38 (.tup [.ref a37,.ref a2,.ref a2,.str ""])=H38
  intro s38 e38
  clear h38
  have S38:=S37.trans s38
  walk_at "r"
  refine ⟨Az,fun a39 h39=>?_⟩
  have s39:=Same.upd (o:=.lst [.ref a36,.ref a38]) h39
  have e39:upd H38 a39 (.lst [.ref a36,.ref a38]) a39=some (.lst [.ref a36,.ref a38]):=Ac
  revert s39 e39
  generalize upd H38 a39 (.lst [.ref a36,.ref a38])=H39
  intro s39 e39
  clear h39
  have S39:=S38.trans s39
  walk_at "r"
  refine ⟨Az,fun a40 h40=>?_⟩
  have s40:=Same.upd (o:=.tup [v34,.ref a39]) h40
  have e40:upd H39 a40 (.tup [v34,.ref a39]) a40=some (.tup [v34,.ref a39]):=Ac
  revert s40 e40
  generalize upd H39 a40 (.tup [v34,.ref a39])=H40
  intro s40 e40
  clear h40
  have S40:=S39.trans s40
  walk_at "r"
  refine A1 (S40.seq hp) (Bp (j:=0) rfl) ?_
  walk_at "r"
  refine ⟨"let",.str a,.flat (.str a),2,rfl,(.inl ⟨rfl,rfl⟩),by decide,fun v41 H41 s41 T41=>?_⟩
  have S41:=S40.trans s41
  walk_at "r"
  refine ⟨A4,fun a42 h42=>?_⟩
  have s42:=Same.upd (o:=.tup []) h42
  have e42:upd H41 a42 (.tup []) a42=some (.tup []):=Ac
  revert s42 e42
  generalize upd H41 a42 (.tup [])=H42
  intro s42 e42
  clear h42
  have S42:=S41.trans s42
  walk_at "r"
  refine ⟨A5,fun a43 h43=>?_⟩
  have s43:=Same.upd (o:=.tup [.ref a42,.ref a1,.non,.str ""]) h43
  have e43:upd H42 a43 (.tup [.ref a42,.ref a1,.non,.str ""]) a43=some (.tup [.ref a42,.ref a1,.non,.str ""]):=Ac
  revert s43 e43
  generalize upd H42 a43 (.tup [.ref a42,.ref a1,.non,.str ""])=H43
  intro s43 e43
  clear h43
  have S43:=S42.trans s43
  walk_at "r"
  refine ⟨A0,fun a44 h44=>?_⟩
  have s44:=Same.upd (o:=.tup [.int 0]) h44
  have e44:upd H43 a44 (.tup [.int 0]) a44=some (.tup [.int 0]):=Ac
  revert s44 e44
  generalize upd H43 a44 (.tup [.int 0])=H44
  intro s44 e44
  clear h44
  have S44:=S43.trans s44
  walk_at "r"
  refine ⟨A5,fun a45 h45=>?_⟩
  have s45:=Same.upd (o:=.tup [.ref a44,.ref a2,.ref a2,.str ""]) h45
  have e45:upd H44 a45 (.tup [.ref a44,.ref a2,.ref a2,.str ""]) a45=some (.tup [.ref a44,.ref a2,.ref a2,.str ""]):=Ac
  revert s45 e45
  generalize upd H44 a45 (.tup [.ref a44,.ref a2,.ref a2,.str ""])=H45
  intro s45 e45
  clear h45
  have S45:=S44.trans s45
  walk_at "r"
  refine ⟨A0,fun a46 h46=>?_⟩
  have s46:=Same.upd (o:=.tup [.int 1]) h46
  have e46:upd H45 a46 (.tup [.int 1]) a46=some (.tup [.int 1]):=Ac
  revert s46 e46
  generalize upd H45 a46 (.tup [.int 1])=H46
  intro s46 e46
  clear h46
  have S46:=S45.trans s46
  walk_at "r"
  refine ⟨A5,fun a47 h47=>?_⟩
  have s47:=Same.upd (o:=.tup [.ref a46,.ref a1,.ref a1,.str ""]) h47
  have e47:upd H46 a47 (.tup [.ref a46,.ref a1,.ref a1,.str ""]) a47=some (.tup [.ref a46,.ref a1,.ref a1,.str ""]):=Ac
  revert s47 e47
  generalize upd H46 a47 (.tup [.ref a46,.ref a1,.ref a1,.str ""])=H47
  intro s47 e47
  clear h47
  have S47:=S46.trans s47
  walk_at "r"
  refine ⟨Bh,fun a48 h48=>?_⟩
  have s48:=Same.upd (o:=.lst [.ref a43,.ref a45,.ref a47]) h48
  have e48:upd H47 a48 (.lst [.ref a43,.ref a45,.ref a47]) a48=some (.lst [.ref a43,.ref a45,.ref a47]):=Ac
  revert s48 e48
  generalize upd H47 a48 (.lst [.ref a43,.ref a45,.ref a47])=H48
  intro s48 e48
  clear h48
  have S48:=S47.trans s48
  walk_at "r"
  refine ⟨Az,fun a49 h49=>?_⟩
  have s49:=Same.upd (o:=.tup [v41,.ref a48]) h49
  have e49:upd H48 a49 (.tup [v41,.ref a48]) a49=some (.tup [v41,.ref a48]):=Ac
  revert s49 e49
  generalize upd H48 a49 (.tup [v41,.ref a48])=H49
  intro s49 e49
  clear h49
  have S49:=S48.trans s49
  walk_at "r"
  refine ⟨sz5,fun a50 h50=>?_⟩
  have s50:=Same.upd (o:=.lst [.ref a16,.ref a25,.ref a32,.ref a40,.ref a49]) h50
  have e50:upd H49 a50 (.lst [.ref a16,.ref a25,.ref a32,.ref a40,.ref a49]) a50=some (.lst [.ref a16,.ref a25,.ref a32,.ref a40,.ref a49]):=Ac
  revert s50 e50
  generalize upd H49 a50 (.lst [.ref a16,.ref a25,.ref a32,.ref a40,.ref a49])=H50
  intro s50 e50
  clear h50
  have S50:=S49.trans s50
  walk_at "r"
  have t50:=Same.refl H50
  have t49:=s50.trans t50
  have t48:=s49.trans t49
  have t47:=s48.trans t48
  have t46:=s47.trans t47
  have t45:=s46.trans t46
  have t44:=s45.trans t45
  have t43:=s44.trans t44
  have t42:=s43.trans t43
  have t41:=s42.trans t42
  have t40:=s41.trans t41
  have t39:=s40.trans t40
  have t38:=s39.trans t39
  have t37:=s38.trans t38
  have t36:=s37.trans t37
  have t35:=s36.trans t36
  have t34:=s35.trans t35
  have t33:=s34.trans t34
  have t32:=s33.trans t33
  have t31:=s32.trans t32
  have t30:=s31.trans t31
  have t29:=s30.trans t30
  have t28:=s29.trans t29
  have t27:=s28.trans t28
  have t26:=s27.trans t27
  have t25:=s26.trans t26
  have t24:=s25.trans t25
  have t23:=s24.trans t24
  have t22:=s23.trans t23
  have t21:=s22.trans t22
  have t20:=s21.trans t21
  have t19:=s20.trans t20
  have t18:=s19.trans t19
  have t17:=s18.trans t18
  have t16:=s17.trans t17
  have t15:=s16.trans t16
  have t14:=s15.trans t15
  have t13:=s14.trans t14
  have t12:=s13.trans t13
  have t11:=s12.trans t12
  have t10:=s11.trans t11
  have t9:=s10.trans t10
  have t8:=s9.trans t9
  have t7:=s8.trans t8
  have t6:=s7.trans t7
  have t5:=s6.trans t6
  have t4:=s5.trans t5
  have t3:=s4.trans t4
  have t2:=s3.trans t3
  have t1:=s2.trans t2
  have c0:CsAt K H50 (.ref a16) (Gf a a',K1):=⟨_,_,_,_,rfl,(SqT.of (t16 _ _ e16)),(T15.same t15),(t14 _ _ e14),(Au ⟨_,_,_,_,rfl,(SqT.of (t7 _ _ e7)),(t6 _ _ e6),(.any (n:=0) (SqT.of (t1 _ _ e1))),.inl ⟨rfl,rfl⟩⟩ (Au ⟨_,_,_,_,rfl,(SqT.of (t9 _ _ e9)),(t8 _ _ e8),(.truth (SqT.of (t3 _ _ e3))),.inr ⟨_,rfl,(.truth (SqT.of (t3 _ _ e3)))⟩⟩ (Au ⟨_,_,_,_,rfl,(SqT.of (t11 _ _ e11)),(t10 _ _ e10),(.any (n:=0) (SqT.of (t1 _ _ e1))),.inr ⟨_,rfl,(.any (n:=0) (SqT.of (t1 _ _ e1)))⟩⟩ (Au ⟨_,_,_,_,rfl,(SqT.of (t13 _ _ e13)),(t12 _ _ e12),(.any (n:=0) (SqT.of (t1 _ _ e1))),.inr ⟨_,rfl,(.any (n:=0) (SqT.of (t1 _ _ e1)))⟩⟩ .nil))))⟩
  have c1:CsAt K H50 (.ref a25) (Gh a a',Kw):=⟨_,_,_,_,rfl,(SqT.of (t25 _ _ e25)),(T17.same t17),(t24 _ _ e24),(Au ⟨_,_,_,_,rfl,(SqT.of (t19 _ _ e19)),(t18 _ _ e18),(.any (n:=0) (SqT.of (t1 _ _ e1))),.inl ⟨rfl,rfl⟩⟩ (Au ⟨_,_,_,_,rfl,(SqT.of (t21 _ _ e21)),(t20 _ _ e20),(.to (SqT.of (t5 _ _ e5)) (.any (n:=1) (SqT.of (t2 _ _ e2))) (.any (n:=0) (SqT.of (t1 _ _ e1)))),.inr ⟨_,rfl,(.to (SqT.of (t5 _ _ e5)) (.any (n:=1) (SqT.of (t2 _ _ e2))) (.any (n:=0) (SqT.of (t1 _ _ e1))))⟩⟩ (Au ⟨_,_,_,_,rfl,(SqT.of (t23 _ _ e23)),(t22 _ _ e22),(.any (n:=1) (SqT.of (t2 _ _ e2))),.inr ⟨_,rfl,(.any (n:=1) (SqT.of (t2 _ _ e2)))⟩⟩ .nil)))⟩
  have c2:CsAt K H50 (.ref a32) (Ge a a',K9):=⟨_,_,_,_,rfl,(SqT.of (t32 _ _ e32)),(T26.same t26),(t31 _ _ e31),(Au ⟨_,_,_,_,rfl,(SqT.of (t28 _ _ e28)),(t27 _ _ e27),(.to (SqT.of (t4 _ _ e4)) (.any (n:=0) (SqT.of (t1 _ _ e1))) (.any (n:=1) (SqT.of (t2 _ _ e2)))),.inl ⟨rfl,rfl⟩⟩ (Au ⟨_,_,_,_,rfl,(SqT.of (t30 _ _ e30)),(t29 _ _ e29),(.any (n:=1) (SqT.of (t2 _ _ e2))),.inr ⟨_,rfl,(.any (n:=1) (SqT.of (t2 _ _ e2)))⟩⟩ .nil))⟩
  have c3:CsAt K H50 (.ref a40) (Fu a a',Lk):=⟨_,_,_,_,rfl,(SqT.of (t40 _ _ e40)),(T34.same t34),(t39 _ _ e39),(Au ⟨_,_,_,_,rfl,(SqT.of (t36 _ _ e36)),(t35 _ _ e35),(.to (SqT.of (t4 _ _ e4)) (.any (n:=0) (SqT.of (t1 _ _ e1))) (.any (n:=1) (SqT.of (t2 _ _ e2)))),.inl ⟨rfl,rfl⟩⟩ (Au ⟨_,_,_,_,rfl,(SqT.of (t38 _ _ e38)),(t37 _ _ e37),(.any (n:=1) (SqT.of (t2 _ _ e2))),.inr ⟨_,rfl,(.any (n:=1) (SqT.of (t2 _ _ e2)))⟩⟩ .nil))⟩
  have c4:CsAt K H50 (.ref a49) (Fo a a',Kp):=⟨_,_,_,_,rfl,(SqT.of (t49 _ _ e49)),(T41.same t41),(t48 _ _ e48),(Au ⟨_,_,_,_,rfl,(SqT.of (t43 _ _ e43)),(t42 _ _ e42),(.any (n:=0) (SqT.of (t1 _ _ e1))),.inl ⟨rfl,rfl⟩⟩ (Au ⟨_,_,_,_,rfl,(SqT.of (t45 _ _ e45)),(t44 _ _ e44),(.any (n:=1) (SqT.of (t2 _ _ e2))),.inr ⟨_,rfl,(.any (n:=1) (SqT.of (t2 _ _ e2)))⟩⟩ (Au ⟨_,_,_,_,rfl,(SqT.of (t47 _ _ e47)),(t46 _ _ e46),(.any (n:=0) (SqT.of (t1 _ _ e1))),.inr ⟨_,rfl,(.any (n:=0) (SqT.of (t1 _ _ e1)))⟩⟩ .nil)))⟩
  exact q _ _ _ S50 (t50 _ _ e50) (Au c0 (Au c1 (Au c2 (Au c3 (Au c4 .nil)))))
noncomputable def Zdt (K:Os):Sp:=fun vs H Q _=>∃(sc p:Addr)(a a' a2 a3:Str),vs=[.ref sc,.ref p]/\Script K H sc/\SqL K H p [.str a,.str a',.str a2,.str a3]/\∀(z:Int)(l:Addr)(cs:List V)(H':Hp),Same H H'->H' l=some (.lst cs)->Al (CsAt K H') cs (Md a a' z)->Q (.ref l) H'
theorem C2:Bm ["_law_script", "_law_names_here", "_law_one", "_law_two", "_law_num", "_law_truth", "_law_some", "_law_like", "_law_use", "_law_number", "_law_let", "_law_again", "_law_less", "_law_twice"] ["_law_script", "_law_names_here"] (Be Jo):=by walk_at "sc"
theorem Zmd {f:Addr}{fd:FuncData}(F:Fun K "_law_used" "_law_used" Jo f fd)(T:Txt K mg)(C__law_cell_at:Ba P w K mg base 1 "_law_cell_at" ["_law_script", "_law_k"] (Ln K)):A9 P w K mg base Bd 2 f fd ["_law_script", "_law_names_here"] (Zdt K):=by
 refine F.okq C2 (fun vs H Q E h=>?_) (fun cdv A outer s H vs Q E hr h=>?_)
 ·obtain ⟨sc,p,a,a',a2,a3,rfl,_⟩:=h
  rfl
 ·obtain ⟨sc,p,a,a',a2,a3,rfl,hS,hp,q⟩:=h
  refine ⟨_,Ag (Ar 2 C2 (Ad (Aa Ah (Aa Af Ab))))
   (Ag (Ar 3 C2 (Ad (Aa Ah (Aa Af Ab))))
   (Ag (Ar 4 C2 (Ad (Aa Ah Ab)))
   (Ag (Ar 5 C2 (Ad (Aa Ah Ab)))
   (Ag (Ar 6 C2 (Ad (Aa Ah (Aa (qv 2) (Aa (qv 3) Ab)))))
   (Ag (Ar 7 C2 (Ad (Aa Ah (Aa (qv 2) (Aa (qv 2) Ab)))))
   (Ag (Ar 8 C2 (Ad (Aa Ah (Aa (Ap K (qv 1) Af) (Aa (Ad Ab) Ab)))))
   (Ag (Ar 9 C2 (Ad (Aa Ah (Aa (Bs Ed (As C__law_cell_at hr.m (Aa (qv 0) (Aa Af Ab))) (Bs Zbu Af Af)) (Aa (Ad Ab) Ab)))))
   (Ag (Ar 10 C2 (Ad (Aa Ah (Aa (Ap K (qv 1) Af) (Aa (Ad (Aa (qv 9) (Aa (qv 8) Ab))) Ab)))))
   (Ag (Ar 11 C2 (Ad (Aa Ah (Aa (Ap K (qv 1) Af) (Aa (Ad (Aa (Ad (Aa Ah (Aa Bu (Aa (Ad (Aa (qv 8) (Aa (qv 8) Ab))) Ab)))) Ab)) Ab)))))
   (Ag (Ar 12 C2 (Ad (Aa Ah (Aa Bu (Aa (Ad (Aa (Ad (Aa Ah (Aa C6 (Aa (Ad Ab) Ab)))) (Aa (qv 9) Ab))) Ab)))))
   (Ag (Ar 13 C2 (Av (Aa (Ad (Aa (Ad Ab) (Aa (Ad (Aa Ah (Aa (qv 6) (Aa (qv 3) Ab)))) (Aa Bu (Aa Ah Ab))))) (Aa (Ad (Aa (Ad (Aa Af Ab)) (Aa (qv 3) (Aa (qv 3) (Aa Ah Ab))))) Ab))))
   (Ag (Ar 13 C2 (Bs (Dq K) (qv 13) (Av (Aa (Ad (Aa (Ad (Aa Af (Aa Af Ab))) (Aa (qv 6) (Aa (qv 6) (Aa Ah Ab))))) (Aa (Ad (Aa (Ad (Aa Af (Aa Af Ab))) (Aa (qv 6) (Aa (qv 2) (Aa Ah Ab))))) Ab)))))
   (Ak (Ax (Av (Aa (Ad (Aa (Ad (Aa Ah (Aa (Ap K (qv 1) Af) (Aa (Ad (Aa (qv 8) Ab)) Ab)))) (Aa (Av (Aa (Ad (Aa (Ad Ab) (Aa (qv 7) (Aa Bu (Aa Ah Ab))))) (Aa (Ad (Aa (Ad (Aa Af Ab)) (Aa (qv 2) (Aa (qv 2) (Aa Ah Ab))))) Ab))) Ab))) (Aa (Ad (Aa (qv 10) (Aa (Av (Aa (Ad (Aa (Ad Ab) (Aa (qv 4) (Aa Bu (Aa Ah Ab))))) (Aa (Ad (Aa (Ad (Aa Af Ab)) (Aa (qv 4) (Aa (qv 4) (Aa Ah Ab))))) (Aa (Ad (Aa (Ad (Aa Af Ab)) (Aa (qv 4) (Aa (qv 4) (Aa Ah Ab))))) Ab)))) Ab))) (Aa (Ad (Aa (Ad (Aa Ah (Aa (Ad (Aa (Ap K (qv 1) Af) (Aa (Ap K (qv 1) Af) Ab))) (Aa (Ad (Aa (qv 8) Ab)) Ab)))) (Aa (Av (Aa (Ad (Aa (Ad Ab) (Aa (qv 6) (Aa Bu (Aa Ah Ab))))) (Aa (Ad (Aa (Ad (Aa Af Ab)) (Aa (qv 6) (Aa (qv 3) (Aa Ah Ab))))) Ab))) Ab))) (Aa (Ad (Aa (Ad (Aa Ah (Aa (Ad (Aa (Ap K (qv 1) Af) (Aa (Ap K (qv 1) Af) Ab))) (Aa (Ad (Aa (qv 8) Ab)) Ab)))) (Aa (Av (Aa (Ad (Aa (Ad Ab) (Aa (qv 7) (Aa Bu (Aa Ah Ab))))) (Aa (Ad (Aa (Ad (Aa Af Ab)) (Aa (qv 2) (Aa (qv 2) (Aa Ah Ab))))) Ab))) Ab))) (Aa (Ad (Aa (qv 11) (Aa (qv 13) Ab))) (Aa (Ad (Aa (qv 12) (Aa (Av (Aa (Ad (Aa (Ad Ab) (Aa (qv 5) (Aa Bu (Aa Ah Ab))))) (Aa (Ad (Aa (Ad (Aa Af Ab)) (Aa (qv 5) (Aa (qv 4) (Aa Ah Ab))))) (Aa (Ad (Aa (Ad (Aa Af Ab)) (Aa (qv 4) (Aa (qv 4) (Aa Ah Ab))))) Ab)))) Ab))) Ab))))))))))))))))))))),?_⟩
  have bg:=big
  walk_at "r"
  rw [show L2.start ["_law_script", "_law_names_here", "_law_one", "_law_two", "_law_num", "_law_truth", "_law_some", "_law_like", "_law_use", "_law_number", "_law_let", "_law_again", "_law_less", "_law_twice"] [.ref sc,.ref p]=([some (.ref sc),some (.ref p),none,none,none,none,none,none,none,none,none,none,none,none]:List (Option V)) from rfl]
  refine ⟨Az,fun a1 h1=>?_⟩
  have s1:=Same.upd (o:=.tup [.str "any",.int 0]) h1
  have e1:upd H a1 (.tup [.str "any",.int 0]) a1=some (.tup [.str "any",.int 0]):=Ac
  revert s1 e1
  generalize upd H a1 (.tup [.str "any",.int 0])=H1
  intro s1 e1
  clear h1
  have S1:=(Same.refl H).trans s1
  walk_at "r"
  rw [show Pf ([some (.ref sc),some (.ref p),none,none,none,none,none,none,none,none,none,none,none,none]:List (Option V)) 2 (some (.ref a1))=([some (.ref sc),some (.ref p),some (.ref a1),none,none,none,none,none,none,none,none,none,none,none]:List (Option V)) from rfl]
  refine ⟨Az,fun a2 h2=>?_⟩
  have s2:=Same.upd (o:=.tup [.str "any",.int 1]) h2
  have e2:upd H1 a2 (.tup [.str "any",.int 1]) a2=some (.tup [.str "any",.int 1]):=Ac
  revert s2 e2
  generalize upd H1 a2 (.tup [.str "any",.int 1])=H2
  intro s2 e2
  clear h2
  have S2:=S1.trans s2
  walk_at "r"
  rw [show Pf ([some (.ref sc),some (.ref p),some (.ref a1),none,none,none,none,none,none,none,none,none,none,none]:List (Option V)) 3 (some (.ref a2))=([some (.ref sc),some (.ref p),some (.ref a1),some (.ref a2),none,none,none,none,none,none,none,none,none,none]:List (Option V)) from rfl]
  refine ⟨A0,fun a3 h3=>?_⟩
  have s3:=Same.upd (o:=.tup [.str "num"]) h3
  have e3:upd H2 a3 (.tup [.str "num"]) a3=some (.tup [.str "num"]):=Ac
  revert s3 e3
  generalize upd H2 a3 (.tup [.str "num"])=H3
  intro s3 e3
  clear h3
  have S3:=S2.trans s3
  walk_at "r"
  rw [show Pf ([some (.ref sc),some (.ref p),some (.ref a1),some (.ref a2),none,none,none,none,none,none,none,none,none,none]:List (Option V)) 4 (some (.ref a3))=([some (.ref sc),some (.ref p),some (.ref a1),some (.ref a2),some (.ref a3),none,none,none,none,none,none,none,none,none]:List (Option V)) from rfl]
  refine ⟨A0,fun a4 h4=>?_⟩
  have s4:=Same.upd (o:=.tup [.str "truth"]) h4
  have e4:upd H3 a4 (.tup [.str "truth"]) a4=some (.tup [.str "truth"]):=Ac
  revert s4 e4
  generalize upd H3 a4 (.tup [.str "truth"])=H4
  intro s4 e4
  clear h4
  have S4:=S3.trans s4
  walk_at "r"
  rw [show Pf ([some (.ref sc),some (.ref p),some (.ref a1),some (.ref a2),some (.ref a3),none,none,none,none,none,none,none,none,none]:List (Option V)) 5 (some (.ref a4))=([some (.ref sc),some (.ref p),some (.ref a1),some (.ref a2),some (.ref a3),some (.ref a4),none,none,none,none,none,none,none,none]:List (Option V)) from rfl]
  refine ⟨Bh,fun a5 h5=>?_⟩
  have s5:=Same.upd (o:=.tup [.str "to",.ref a1,.ref a2]) h5
  have e5:upd H4 a5 (.tup [.str "to",.ref a1,.ref a2]) a5=some (.tup [.str "to",.ref a1,.ref a2]):=Ac
  revert s5 e5
  generalize upd H4 a5 (.tup [.str "to",.ref a1,.ref a2])=H5
  intro s5 e5
  clear h5
  have S5:=S4.trans s5
  walk_at "r"
  rw [show Pf ([some (.ref sc),some (.ref p),some (.ref a1),some (.ref a2),some (.ref a3),some (.ref a4),none,none,none,none,none,none,none,none]:List (Option V)) 6 (some (.ref a5))=([some (.ref sc),some (.ref p),some (.ref a1),some (.ref a2),some (.ref a3),some (.ref a4),some (.ref a5),none,none,none,none,none,none,none]:List (Option V)) from rfl]
  refine ⟨Bh,fun a6 h6=>?_⟩
  have s6:=Same.upd (o:=.tup [.str "to",.ref a1,.ref a1]) h6
  have e6:upd H5 a6 (.tup [.str "to",.ref a1,.ref a1]) a6=some (.tup [.str "to",.ref a1,.ref a1]):=Ac
  revert s6 e6
  generalize upd H5 a6 (.tup [.str "to",.ref a1,.ref a1])=H6
  intro s6 e6
  clear h6
  have S6:=S5.trans s6
  walk_at "r"
  rw [show Pf ([some (.ref sc),some (.ref p),some (.ref a1),some (.ref a2),some (.ref a3),some (.ref a4),some (.ref a5),none,none,none,none,none,none,none]:List (Option V)) 7 (some (.ref a6))=([some (.ref sc),some (.ref p),some (.ref a1),some (.ref a2),some (.ref a3),some (.ref a4),some (.ref a5),some (.ref a6),none,none,none,none,none,none]:List (Option V)) from rfl]
  refine A1 (S6.seq hp) (Bp (j:=0) rfl) ?_
  walk_at "r"
  refine ⟨A4,fun a7 h7=>?_⟩
  have s7:=Same.upd (o:=.tup []) h7
  have e7:upd H6 a7 (.tup []) a7=some (.tup []):=Ac
  revert s7 e7
  generalize upd H6 a7 (.tup [])=H7
  intro s7 e7
  clear h7
  have S7:=S6.trans s7
  walk_at "r"
  refine ⟨Bh,fun a8 h8=>?_⟩
  have s8:=Same.upd (o:=.tup [.str "name",.str a,.ref a7]) h8
  have e8:upd H7 a8 (.tup [.str "name",.str a,.ref a7]) a8=some (.tup [.str "name",.str a,.ref a7]):=Ac
  revert s8 e8
  generalize upd H7 a8 (.tup [.str "name",.str a,.ref a7])=H8
  intro s8 e8
  clear h8
  have S8:=S7.trans s8
  walk_at "r"
  rw [show Pf ([some (.ref sc),some (.ref p),some (.ref a1),some (.ref a2),some (.ref a3),some (.ref a4),some (.ref a5),some (.ref a6),none,none,none,none,none,none]:List (Option V)) 8 (some (.ref a8))=([some (.ref sc),some (.ref p),some (.ref a1),some (.ref a2),some (.ref a3),some (.ref a4),some (.ref a5),some (.ref a6),some (.ref a8),none,none,none,none,none]:List (Option V)) from rfl]
  refine ⟨sc,5,rfl,hS.same S8,by decide,fun z1=>?_⟩
  walk_at "r"
  generalize z1 % 10 ^ Int.toNat 18=zp
  walk_at "r"
  refine ⟨A4,fun a9 h9=>?_⟩
  have s9:=Same.upd (o:=.tup []) h9
  have e9:upd H8 a9 (.tup []) a9=some (.tup []):=Ac
  revert s9 e9
  generalize upd H8 a9 (.tup [])=H9
  intro s9 e9
  clear h9
  have S9:=S8.trans s9
  walk_at "r"
  refine ⟨Bh,fun a10 h10=>?_⟩
  have s10:=Same.upd (o:=.tup [.str "num",.int zp,.ref a9]) h10
  have e10:upd H9 a10 (.tup [.str "num",.int zp,.ref a9]) a10=some (.tup [.str "num",.int zp,.ref a9]):=Ac
  revert s10 e10
  generalize upd H9 a10 (.tup [.str "num",.int zp,.ref a9])=H10
  intro s10 e10
  clear h10
  have S10:=S9.trans s10
  walk_at "r"
  rw [show Pf ([some (.ref sc),some (.ref p),some (.ref a1),some (.ref a2),some (.ref a3),some (.ref a4),some (.ref a5),some (.ref a6),some (.ref a8),none,none,none,none,none]:List (Option V)) 9 (some (.ref a10))=([some (.ref sc),some (.ref p),some (.ref a1),some (.ref a2),some (.ref a3),some (.ref a4),some (.ref a5),some (.ref a6),some (.ref a8),some (.ref a10),none,none,none,none]:List (Option V)) from rfl]
  refine A1 (S10.seq hp) (Bp (j:=0) rfl) ?_
  walk_at "r"
  refine ⟨Az,fun a11 h11=>?_⟩
  have s11:=Same.upd (o:=.tup [.ref a10,.ref a8]) h11
  have e11:upd H10 a11 (.tup [.ref a10,.ref a8]) a11=some (.tup [.ref a10,.ref a8]):=Ac
  revert s11 e11
  generalize upd H10 a11 (.tup [.ref a10,.ref a8])=H11
  intro s11 e11
  clear h11
  have S11:=S10.trans s11
  walk_at "r"
  refine ⟨Bh,fun a12 h12=>?_⟩
  have s12:=Same.upd (o:=.tup [.str "let",.str a,.ref a11]) h12
  have e12:upd H11 a12 (.tup [.str "let",.str a,.ref a11]) a12=some (.tup [.str "let",.str a,.ref a11]):=Ac
  revert s12 e12
  generalize upd H11 a12 (.tup [.str "let",.str a,.ref a11])=H12
  intro s12 e12
  clear h12
  have S12:=S11.trans s12
  walk_at "r"
  rw [show Pf ([some (.ref sc),some (.ref p),some (.ref a1),some (.ref a2),some (.ref a3),some (.ref a4),some (.ref a5),some (.ref a6),some (.ref a8),some (.ref a10),none,none,none,none]:List (Option V)) 10 (some (.ref a12))=([some (.ref sc),some (.ref p),some (.ref a1),some (.ref a2),some (.ref a3),some (.ref a4),some (.ref a5),some (.ref a6),some (.ref a8),some (.ref a10),some (.ref a12),none,none,none]:List (Option V)) from rfl]
  refine A1 (S12.seq hp) (Bp (j:=0) rfl) ?_
  walk_at "r"
  refine ⟨Az,fun a13 h13=>?_⟩
  have s13:=Same.upd (o:=.tup [.ref a8,.ref a8]) h13
  have e13:upd H12 a13 (.tup [.ref a8,.ref a8]) a13=some (.tup [.ref a8,.ref a8]):=Ac
  revert s13 e13
  generalize upd H12 a13 (.tup [.ref a8,.ref a8])=H13
  intro s13 e13
  clear h13
  have S13:=S12.trans s13
  walk_at "r"
  refine ⟨Bh,fun a14 h14=>?_⟩
  have s14:=Same.upd (o:=.tup [.str "call",.non,.ref a13]) h14
  have e14:upd H13 a14 (.tup [.str "call",.non,.ref a13]) a14=some (.tup [.str "call",.non,.ref a13]):=Ac
  revert s14 e14
  generalize upd H13 a14 (.tup [.str "call",.non,.ref a13])=H14
  intro s14 e14
  clear h14
  have S14:=S13.trans s14
  walk_at "r"
  refine ⟨A0,fun a15 h15=>?_⟩
  have s15:=Same.upd (o:=.tup [.ref a14]) h15
  have e15:upd H14 a15 (.tup [.ref a14]) a15=some (.tup [.ref a14]):=Ac
  revert s15 e15
  generalize upd H14 a15 (.tup [.ref a14])=H15
  intro s15 e15
  clear h15
  have S15:=S14.trans s15
  walk_at "r"
  refine ⟨Bh,fun a16 h16=>?_⟩
  have s16:=Same.upd (o:=.tup [.str "fn",.str a,.ref a15]) h16
  have e16:upd H15 a16 (.tup [.str "fn",.str a,.ref a15]) a16=some (.tup [.str "fn",.str a,.ref a15]):=Ac
  revert s16 e16
  generalize upd H15 a16 (.tup [.str "fn",.str a,.ref a15])=H16
  intro s16 e16
  clear h16
  have S16:=S15.trans s16
  walk_at "r"
  rw [show Pf ([some (.ref sc),some (.ref p),some (.ref a1),some (.ref a2),some (.ref a3),some (.ref a4),some (.ref a5),some (.ref a6),some (.ref a8),some (.ref a10),some (.ref a12),none,none,none]:List (Option V)) 11 (some (.ref a16))=([some (.ref sc),some (.ref p),some (.ref a1),some (.ref a2),some (.ref a3),some (.ref a4),some (.ref a5),some (.ref a6),some (.ref a8),some (.ref a10),some (.ref a12),some (.ref a16),none,none]:List (Option V)) from rfl]
  refine ⟨A4,fun a17 h17=>?_⟩
  have s17:=Same.upd (o:=.tup []) h17
  have e17:upd H16 a17 (.tup []) a17=some (.tup []):=Ac
  revert s17 e17
  generalize upd H16 a17 (.tup [])=H17
  intro s17 e17
  clear h17
  have S17:=S16.trans s17
  walk_at "r"
  refine ⟨Bh,fun a18 h18=>?_⟩
  have s18:=Same.upd (o:=.tup [.str "truth",.bl true,.ref a17]) h18
  have e18:upd H17 a18 (.tup [.str "truth",.bl true,.ref a17]) a18=some (.tup [.str "truth",.bl true,.ref a17]):=Ac
  revert s18 e18
  generalize upd H17 a18 (.tup [.str "truth",.bl true,.ref a17])=H18
  intro s18 e18
  clear h18
  have S18:=S17.trans s18
  walk_at "r"
  refine ⟨Az,fun a19 h19=>?_⟩
  have s19:=Same.upd (o:=.tup [.ref a18,.ref a10]) h19
  have e19:upd H18 a19 (.tup [.ref a18,.ref a10]) a19=some (.tup [.ref a18,.ref a10]):=Ac
  revert s19 e19
  generalize upd H18 a19 (.tup [.ref a18,.ref a10])=H19
  intro s19 e19
  clear h19
  have S19:=S18.trans s19
  walk_at "r"
  refine ⟨Bh,fun a20 h20=>?_⟩
  have s20:=Same.upd (o:=.tup [.str "less",.non,.ref a19]) h20
  have e20:upd H19 a20 (.tup [.str "less",.non,.ref a19]) a20=some (.tup [.str "less",.non,.ref a19]):=Ac
  revert s20 e20
  generalize upd H19 a20 (.tup [.str "less",.non,.ref a19])=H20
  intro s20 e20
  clear h20
  have S20:=S19.trans s20
  walk_at "r"
  rw [show Pf ([some (.ref sc),some (.ref p),some (.ref a1),some (.ref a2),some (.ref a3),some (.ref a4),some (.ref a5),some (.ref a6),some (.ref a8),some (.ref a10),some (.ref a12),some (.ref a16),none,none]:List (Option V)) 12 (some (.ref a20))=([some (.ref sc),some (.ref p),some (.ref a1),some (.ref a2),some (.ref a3),some (.ref a4),some (.ref a5),some (.ref a6),some (.ref a8),some (.ref a10),some (.ref a12),some (.ref a16),some (.ref a20),none]:List (Option V)) from rfl]
  refine ⟨A4,fun a21 h21=>?_⟩
  have s21:=Same.upd (o:=.tup []) h21
  have e21:upd H20 a21 (.tup []) a21=some (.tup []):=Ac
  revert s21 e21
  generalize upd H20 a21 (.tup [])=H21
  intro s21 e21
  clear h21
  have S21:=S20.trans s21
  walk_at "r"
  refine ⟨Bh,fun a22 h22=>?_⟩
  have s22:=Same.upd (o:=.tup [.str "to",.ref a5,.ref a2]) h22
  have e22:upd H21 a22 (.tup [.str "to",.ref a5,.ref a2]) a22=some (.tup [.str "to",.ref a5,.ref a2]):=Ac
  revert s22 e22
  generalize upd H21 a22 (.tup [.str "to",.ref a5,.ref a2])=H22
  intro s22 e22
  clear h22
  have S22:=S21.trans s22
  walk_at "r"
  refine ⟨A5,fun a23 h23=>?_⟩
  have s23:=Same.upd (o:=.tup [.ref a21,.ref a22,.non,.str ""]) h23
  have e23:upd H22 a23 (.tup [.ref a21,.ref a22,.non,.str ""]) a23=some (.tup [.ref a21,.ref a22,.non,.str ""]):=Ac
  revert s23 e23
  generalize upd H22 a23 (.tup [.ref a21,.ref a22,.non,.str ""])=H23
  intro s23 e23
  clear h23
  have S23:=S22.trans s23
  walk_at "r"
  refine ⟨A0,fun a24 h24=>?_⟩
  have s24:=Same.upd (o:=.tup [.int 0]) h24
  have e24:upd H23 a24 (.tup [.int 0]) a24=some (.tup [.int 0]):=Ac
  revert s24 e24
  generalize upd H23 a24 (.tup [.int 0])=H24
  intro s24 e24
  clear h24
  have S24:=S23.trans s24
  walk_at "r"
  refine ⟨A5,fun a25 h25=>?_⟩
  have s25:=Same.upd (o:=.tup [.ref a24,.ref a2,.ref a2,.str ""]) h25
  have e25:upd H24 a25 (.tup [.ref a24,.ref a2,.ref a2,.str ""]) a25=some (.tup [.ref a24,.ref a2,.ref a2,.str ""]):=Ac
  revert s25 e25
  generalize upd H24 a25 (.tup [.ref a24,.ref a2,.ref a2,.str ""])=H25
  intro s25 e25
  clear h25
  have S25:=S24.trans s25
  walk_at "r"
  refine ⟨Az,fun a26 h26=>?_⟩
  have s26:=Same.upd (o:=.lst [.ref a23,.ref a25]) h26
  have e26:upd H25 a26 (.lst [.ref a23,.ref a25]) a26=some (.lst [.ref a23,.ref a25]):=Ac
  revert s26 e26
  generalize upd H25 a26 (.lst [.ref a23,.ref a25])=H26
  intro s26 e26
  clear h26
  have S26:=S25.trans s26
  walk_at "r"
  rw [show Pf ([some (.ref sc),some (.ref p),some (.ref a1),some (.ref a2),some (.ref a3),some (.ref a4),some (.ref a5),some (.ref a6),some (.ref a8),some (.ref a10),some (.ref a12),some (.ref a16),some (.ref a20),none]:List (Option V)) 13 (some (.ref a26))=([some (.ref sc),some (.ref p),some (.ref a1),some (.ref a2),some (.ref a3),some (.ref a4),some (.ref a5),some (.ref a6),some (.ref a8),some (.ref a10),some (.ref a12),some (.ref a16),some (.ref a20),some (.ref a26)]:List (Option V)) from rfl]
  refine ⟨Az,fun a27 h27=>?_⟩
  have s27:=Same.upd (o:=.tup [.int 0,.int 0]) h27
  have e27:upd H26 a27 (.tup [.int 0,.int 0]) a27=some (.tup [.int 0,.int 0]):=Ac
  revert s27 e27
  generalize upd H26 a27 (.tup [.int 0,.int 0])=H27
  intro s27 e27
  clear h27
  have S27:=S26.trans s27
  walk_at "r"
  refine ⟨A5,fun a28 h28=>?_⟩
  have s28:=Same.upd (o:=.tup [.ref a27,.ref a5,.ref a5,.str ""]) h28
  have e28:upd H27 a28 (.tup [.ref a27,.ref a5,.ref a5,.str ""]) a28=some (.tup [.ref a27,.ref a5,.ref a5,.str ""]):=Ac
  revert s28 e28
  generalize upd H27 a28 (.tup [.ref a27,.ref a5,.ref a5,.str ""])=H28
  intro s28 e28
  clear h28
  have S28:=S27.trans s28
  walk_at "r"
  refine ⟨Az,fun a29 h29=>?_⟩
  have s29:=Same.upd (o:=.tup [.int 0,.int 1]) h29
  have e29:upd H28 a29 (.tup [.int 0,.int 1]) a29=some (.tup [.int 0,.int 1]):=Ac
  revert s29 e29
  generalize upd H28 a29 (.tup [.int 0,.int 1])=H29
  intro s29 e29
  clear h29
  have S29:=S28.trans s29
  walk_at "r"
  refine ⟨A5,fun a30 h30=>?_⟩
  have s30:=Same.upd (o:=.tup [.ref a29,.ref a5,.ref a1,.str "unlike"]) h30
  have e30:upd H29 a30 (.tup [.ref a29,.ref a5,.ref a1,.str "unlike"]) a30=some (.tup [.ref a29,.ref a5,.ref a1,.str "unlike"]):=Ac
  revert s30 e30
  generalize upd H29 a30 (.tup [.ref a29,.ref a5,.ref a1,.str "unlike"])=H30
  intro s30 e30
  clear h30
  have S30:=S29.trans s30
  walk_at "r"
  refine ⟨Az,fun a31 h31=>?_⟩
  have s31:=Same.upd (o:=.lst [.ref a28,.ref a30]) h31
  have e31:upd H30 a31 (.lst [.ref a28,.ref a30]) a31=some (.lst [.ref a28,.ref a30]):=Ac
  revert s31 e31
  generalize upd H30 a31 (.lst [.ref a28,.ref a30])=H31
  intro s31 e31
  clear h31
  have S31:=S30.trans s31
  have u26:Same H26 H31:=((((s27.trans s28).trans s29).trans s30).trans s31)
  have u31:Same H31 H31:=Same.refl _
  walk_at "r"
  refine Na (u26 _ _ e26) (u31 _ _ e31) A5 fun a32 h32=>?_
  clear u26 u31
  have s32:=Same.upd (o:=.lst ([.ref a23,.ref a25]++[.ref a28,.ref a30])) h32
  have e32:upd H31 a32 (.lst ([.ref a23,.ref a25]++[.ref a28,.ref a30])) a32=some (.lst ([.ref a23,.ref a25]++[.ref a28,.ref a30])):=Ac
  revert s32 e32
  generalize upd H31 a32 (.lst ([.ref a23,.ref a25]++[.ref a28,.ref a30]))=H32
  intro s32 e32
  clear h32
  have S32:=S31.trans s32
  have e32:H32 a32=some (.lst [.ref a23,.ref a25,.ref a28,.ref a30]):=e32
  walk_at "r"
  rw [show Pf ([some (.ref sc),some (.ref p),some (.ref a1),some (.ref a2),some (.ref a3),some (.ref a4),some (.ref a5),some (.ref a6),some (.ref a8),some (.ref a10),some (.ref a12),some (.ref a16),some (.ref a20),some (.ref a26)]:List (Option V)) 13 (some (.ref a32))=([some (.ref sc),some (.ref p),some (.ref a1),some (.ref a2),some (.ref a3),some (.ref a4),some (.ref a5),some (.ref a6),some (.ref a8),some (.ref a10),some (.ref a12),some (.ref a16),some (.ref a20),some (.ref a32)]:List (Option V)) from rfl]
  refine A1 (S32.seq hp) (Bp (j:=0) rfl) ?_
  walk_at "r"
  refine ⟨A0,fun a33 h33=>?_⟩
  have s33:=Same.upd (o:=.tup [.ref a8]) h33
  have e33:upd H32 a33 (.tup [.ref a8]) a33=some (.tup [.ref a8]):=Ac
  revert s33 e33
  generalize upd H32 a33 (.tup [.ref a8])=H33
  intro s33 e33
  clear h33
  have S33:=S32.trans s33
  walk_at "r"
  refine ⟨Bh,fun a34 h34=>?_⟩
  have s34:=Same.upd (o:=.tup [.str "fn",.str a,.ref a33]) h34
  have e34:upd H33 a34 (.tup [.str "fn",.str a,.ref a33]) a34=some (.tup [.str "fn",.str a,.ref a33]):=Ac
  revert s34 e34
  generalize upd H33 a34 (.tup [.str "fn",.str a,.ref a33])=H34
  intro s34 e34
  clear h34
  have S34:=S33.trans s34
  walk_at "r"
  refine ⟨A4,fun a35 h35=>?_⟩
  have s35:=Same.upd (o:=.tup []) h35
  have e35:upd H34 a35 (.tup []) a35=some (.tup []):=Ac
  revert s35 e35
  generalize upd H34 a35 (.tup [])=H35
  intro s35 e35
  clear h35
  have S35:=S34.trans s35
  walk_at "r"
  refine ⟨A5,fun a36 h36=>?_⟩
  have s36:=Same.upd (o:=.tup [.ref a35,.ref a6,.non,.str ""]) h36
  have e36:upd H35 a36 (.tup [.ref a35,.ref a6,.non,.str ""]) a36=some (.tup [.ref a35,.ref a6,.non,.str ""]):=Ac
  revert s36 e36
  generalize upd H35 a36 (.tup [.ref a35,.ref a6,.non,.str ""])=H36
  intro s36 e36
  clear h36
  have S36:=S35.trans s36
  walk_at "r"
  refine ⟨A0,fun a37 h37=>?_⟩
  have s37:=Same.upd (o:=.tup [.int 0]) h37
  have e37:upd H36 a37 (.tup [.int 0]) a37=some (.tup [.int 0]):=Ac
  revert s37 e37
  generalize upd H36 a37 (.tup [.int 0])=H37
  intro s37 e37
  clear h37
  have S37:=S36.trans s37
  walk_at "r"
  refine ⟨A5,fun a38 h38=>?_⟩
  have s38:=Same.upd (o:=.tup [.ref a37,.ref a1,.ref a1,.str ""]) h38
  have e38:upd H37 a38 (.tup [.ref a37,.ref a1,.ref a1,.str ""]) a38=some (.tup [.ref a37,.ref a1,.ref a1,.str ""]):=Ac
  revert s38 e38
  generalize upd H37 a38 (.tup [.ref a37,.ref a1,.ref a1,.str ""])=H38
  intro s38 e38
  clear h38
  have S38:=S37.trans s38
  walk_at "r"
  refine ⟨Az,fun a39 h39=>?_⟩
  have s39:=Same.upd (o:=.lst [.ref a36,.ref a38]) h39
  have e39:upd H38 a39 (.lst [.ref a36,.ref a38]) a39=some (.lst [.ref a36,.ref a38]):=Ac
  revert s39 e39
  generalize upd H38 a39 (.lst [.ref a36,.ref a38])=H39
  intro s39 e39
  clear h39
  have S39:=S38.trans s39
  walk_at "r"
  refine ⟨Az,fun a40 h40=>?_⟩
  have s40:=Same.upd (o:=.tup [.ref a34,.ref a39]) h40
  have e40:upd H39 a40 (.tup [.ref a34,.ref a39]) a40=some (.tup [.ref a34,.ref a39]):=Ac
  revert s40 e40
  generalize upd H39 a40 (.tup [.ref a34,.ref a39])=H40
  intro s40 e40
  clear h40
  have S40:=S39.trans s40
  walk_at "r"
  refine ⟨A4,fun a41 h41=>?_⟩
  have s41:=Same.upd (o:=.tup []) h41
  have e41:upd H40 a41 (.tup []) a41=some (.tup []):=Ac
  revert s41 e41
  generalize upd H40 a41 (.tup [])=H41
  intro s41 e41
  clear h41
  have S41:=S40.trans s41
  walk_at "r"
  refine ⟨A5,fun a42 h42=>?_⟩
  have s42:=Same.upd (o:=.tup [.ref a41,.ref a3,.non,.str ""]) h42
  have e42:upd H41 a42 (.tup [.ref a41,.ref a3,.non,.str ""]) a42=some (.tup [.ref a41,.ref a3,.non,.str ""]):=Ac
  revert s42 e42
  generalize upd H41 a42 (.tup [.ref a41,.ref a3,.non,.str ""])=H42
  intro s42 e42
  clear h42
  have S42:=S41.trans s42
  walk_at "r"
  refine ⟨A0,fun a43 h43=>?_⟩
  have s43:=Same.upd (o:=.tup [.int 0]) h43
  have e43:upd H42 a43 (.tup [.int 0]) a43=some (.tup [.int 0]):=Ac
  revert s43 e43
  generalize upd H42 a43 (.tup [.int 0])=H43
  intro s43 e43
  clear h43
  have S43:=S42.trans s43
  walk_at "r"
  refine ⟨A5,fun a44 h44=>?_⟩
  have s44:=Same.upd (o:=.tup [.ref a43,.ref a3,.ref a3,.str ""]) h44
  have e44:upd H43 a44 (.tup [.ref a43,.ref a3,.ref a3,.str ""]) a44=some (.tup [.ref a43,.ref a3,.ref a3,.str ""]):=Ac
  revert s44 e44
  generalize upd H43 a44 (.tup [.ref a43,.ref a3,.ref a3,.str ""])=H44
  intro s44 e44
  clear h44
  have S44:=S43.trans s44
  walk_at "r"
  refine ⟨A0,fun a45 h45=>?_⟩
  have s45:=Same.upd (o:=.tup [.int 1]) h45
  have e45:upd H44 a45 (.tup [.int 1]) a45=some (.tup [.int 1]):=Ac
  revert s45 e45
  generalize upd H44 a45 (.tup [.int 1])=H45
  intro s45 e45
  clear h45
  have S45:=S44.trans s45
  walk_at "r"
  refine ⟨A5,fun a46 h46=>?_⟩
  have s46:=Same.upd (o:=.tup [.ref a45,.ref a3,.ref a3,.str ""]) h46
  have e46:upd H45 a46 (.tup [.ref a45,.ref a3,.ref a3,.str ""]) a46=some (.tup [.ref a45,.ref a3,.ref a3,.str ""]):=Ac
  revert s46 e46
  generalize upd H45 a46 (.tup [.ref a45,.ref a3,.ref a3,.str ""])=H46
  intro s46 e46
  clear h46
  have S46:=S45.trans s46
  walk_at "r"
  refine ⟨Bh,fun a47 h47=>?_⟩
  have s47:=Same.upd (o:=.lst [.ref a42,.ref a44,.ref a46]) h47
  have e47:upd H46 a47 (.lst [.ref a42,.ref a44,.ref a46]) a47=some (.lst [.ref a42,.ref a44,.ref a46]):=Ac
  revert s47 e47
  generalize upd H46 a47 (.lst [.ref a42,.ref a44,.ref a46])=H47
  intro s47 e47
  clear h47
  have S47:=S46.trans s47
  walk_at "r"
  refine ⟨Az,fun a48 h48=>?_⟩
  have s48:=Same.upd (o:=.tup [.ref a12,.ref a47]) h48
  have e48:upd H47 a48 (.tup [.ref a12,.ref a47]) a48=some (.tup [.ref a12,.ref a47]):=Ac
  revert s48 e48
  generalize upd H47 a48 (.tup [.ref a12,.ref a47])=H48
  intro s48 e48
  clear h48
  have S48:=S47.trans s48
  walk_at "r"
  refine A1 (S48.seq hp) (Bp (j:=0) rfl) ?_
  walk_at "r"
  refine A1 (S48.seq hp) (Bp (j:=1) rfl) ?_
  walk_at "r"
  refine ⟨Az,fun a49 h49=>?_⟩
  have s49:=Same.upd (o:=.tup [.str a,.str a']) h49
  have e49:upd H48 a49 (.tup [.str a,.str a']) a49=some (.tup [.str a,.str a']):=Ac
  revert s49 e49
  generalize upd H48 a49 (.tup [.str a,.str a'])=H49
  intro s49 e49
  clear h49
  have S49:=S48.trans s49
  walk_at "r"
  refine ⟨A0,fun a50 h50=>?_⟩
  have s50:=Same.upd (o:=.tup [.ref a8]) h50
  have e50:upd H49 a50 (.tup [.ref a8]) a50=some (.tup [.ref a8]):=Ac
  revert s50 e50
  generalize upd H49 a50 (.tup [.ref a8])=H50
  intro s50 e50
  clear h50
  have S50:=S49.trans s50
  walk_at "r"
  refine ⟨Bh,fun a51 h51=>?_⟩
  have s51:=Same.upd (o:=.tup [.str "rec",.ref a49,.ref a50]) h51
  have e51:upd H50 a51 (.tup [.str "rec",.ref a49,.ref a50]) a51=some (.tup [.str "rec",.ref a49,.ref a50]):=Ac
  revert s51 e51
  generalize upd H50 a51 (.tup [.str "rec",.ref a49,.ref a50])=H51
  intro s51 e51
  clear h51
  have S51:=S50.trans s51
  walk_at "r"
  refine ⟨A4,fun a52 h52=>?_⟩
  have s52:=Same.upd (o:=.tup []) h52
  have e52:upd H51 a52 (.tup []) a52=some (.tup []):=Ac
  revert s52 e52
  generalize upd H51 a52 (.tup [])=H52
  intro s52 e52
  clear h52
  have S52:=S51.trans s52
  walk_at "r"
  refine ⟨A5,fun a53 h53=>?_⟩
  have s53:=Same.upd (o:=.tup [.ref a52,.ref a5,.non,.str ""]) h53
  have e53:upd H52 a53 (.tup [.ref a52,.ref a5,.non,.str ""]) a53=some (.tup [.ref a52,.ref a5,.non,.str ""]):=Ac
  revert s53 e53
  generalize upd H52 a53 (.tup [.ref a52,.ref a5,.non,.str ""])=H53
  intro s53 e53
  clear h53
  have S53:=S52.trans s53
  walk_at "r"
  refine ⟨A0,fun a54 h54=>?_⟩
  have s54:=Same.upd (o:=.tup [.int 0]) h54
  have e54:upd H53 a54 (.tup [.int 0]) a54=some (.tup [.int 0]):=Ac
  revert s54 e54
  generalize upd H53 a54 (.tup [.int 0])=H54
  intro s54 e54
  clear h54
  have S54:=S53.trans s54
  walk_at "r"
  refine ⟨A5,fun a55 h55=>?_⟩
  have s55:=Same.upd (o:=.tup [.ref a54,.ref a5,.ref a2,.str "unlike"]) h55
  have e55:upd H54 a55 (.tup [.ref a54,.ref a5,.ref a2,.str "unlike"]) a55=some (.tup [.ref a54,.ref a5,.ref a2,.str "unlike"]):=Ac
  revert s55 e55
  generalize upd H54 a55 (.tup [.ref a54,.ref a5,.ref a2,.str "unlike"])=H55
  intro s55 e55
  clear h55
  have S55:=S54.trans s55
  walk_at "r"
  refine ⟨Az,fun a56 h56=>?_⟩
  have s56:=Same.upd (o:=.lst [.ref a53,.ref a55]) h56
  have e56:upd H55 a56 (.lst [.ref a53,.ref a55]) a56=some (.lst [.ref a53,.ref a55]):=Ac
  revert s56 e56
  generalize upd H55 a56 (.lst [.ref a53,.ref a55])=H56
  intro s56 e56
  clear h56
  have S56:=S55.trans s56
  walk_at "r"
  refine ⟨Az,fun a57 h57=>?_⟩
  have s57:=Same.upd (o:=.tup [.ref a51,.ref a56]) h57
  have e57:upd H56 a57 (.tup [.ref a51,.ref a56]) a57=some (.tup [.ref a51,.ref a56]):=Ac
  revert s57 e57
  generalize upd H56 a57 (.tup [.ref a51,.ref a56])=H57
  intro s57 e57
  clear h57
  have S57:=S56.trans s57
  walk_at "r"
  refine A1 (S57.seq hp) (Bp (j:=1) rfl) ?_
  walk_at "r"
  refine A1 (S57.seq hp) (Bp (j:=0) rfl) ?_
  walk_at "r"
  refine ⟨Az,fun a58 h58=>?_⟩
  have s58:=Same.upd (o:=.tup [.str a',.str a]) h58
  have e58:upd H57 a58 (.tup [.str a',.str a]) a58=some (.tup [.str a',.str a]):=Ac
  revert s58 e58
  generalize upd H57 a58 (.tup [.str a',.str a])=H58
  intro s58 e58
  clear h58
  have S58:=S57.trans s58
  walk_at "r"
  refine ⟨A0,fun a59 h59=>?_⟩
  have s59:=Same.upd (o:=.tup [.ref a8]) h59
  have e59:upd H58 a59 (.tup [.ref a8]) a59=some (.tup [.ref a8]):=Ac
  revert s59 e59
  generalize upd H58 a59 (.tup [.ref a8])=H59
  intro s59 e59
  clear h59
  have S59:=S58.trans s59
  walk_at "r"
  refine ⟨Bh,fun a60 h60=>?_⟩
  have s60:=Same.upd (o:=.tup [.str "rec",.ref a58,.ref a59]) h60
  have e60:upd H59 a60 (.tup [.str "rec",.ref a58,.ref a59]) a60=some (.tup [.str "rec",.ref a58,.ref a59]):=Ac
  revert s60 e60
  generalize upd H59 a60 (.tup [.str "rec",.ref a58,.ref a59])=H60
  intro s60 e60
  clear h60
  have S60:=S59.trans s60
  walk_at "r"
  refine ⟨A4,fun a61 h61=>?_⟩
  have s61:=Same.upd (o:=.tup []) h61
  have e61:upd H60 a61 (.tup []) a61=some (.tup []):=Ac
  revert s61 e61
  generalize upd H60 a61 (.tup [])=H61
  intro s61 e61
  clear h61
  have S61:=S60.trans s61
  walk_at "r"
  refine ⟨A5,fun a62 h62=>?_⟩
  have s62:=Same.upd (o:=.tup [.ref a61,.ref a6,.non,.str ""]) h62
  have e62:upd H61 a62 (.tup [.ref a61,.ref a6,.non,.str ""]) a62=some (.tup [.ref a61,.ref a6,.non,.str ""]):=Ac
  revert s62 e62
  generalize upd H61 a62 (.tup [.ref a61,.ref a6,.non,.str ""])=H62
  intro s62 e62
  clear h62
  have S62:=S61.trans s62
  walk_at "r"
  refine ⟨A0,fun a63 h63=>?_⟩
  have s63:=Same.upd (o:=.tup [.int 0]) h63
  have e63:upd H62 a63 (.tup [.int 0]) a63=some (.tup [.int 0]):=Ac
  revert s63 e63
  generalize upd H62 a63 (.tup [.int 0])=H63
  intro s63 e63
  clear h63
  have S63:=S62.trans s63
  walk_at "r"
  refine ⟨A5,fun a64 h64=>?_⟩
  have s64:=Same.upd (o:=.tup [.ref a63,.ref a1,.ref a1,.str ""]) h64
  have e64:upd H63 a64 (.tup [.ref a63,.ref a1,.ref a1,.str ""]) a64=some (.tup [.ref a63,.ref a1,.ref a1,.str ""]):=Ac
  revert s64 e64
  generalize upd H63 a64 (.tup [.ref a63,.ref a1,.ref a1,.str ""])=H64
  intro s64 e64
  clear h64
  have S64:=S63.trans s64
  walk_at "r"
  refine ⟨Az,fun a65 h65=>?_⟩
  have s65:=Same.upd (o:=.lst [.ref a62,.ref a64]) h65
  have e65:upd H64 a65 (.lst [.ref a62,.ref a64]) a65=some (.lst [.ref a62,.ref a64]):=Ac
  revert s65 e65
  generalize upd H64 a65 (.lst [.ref a62,.ref a64])=H65
  intro s65 e65
  clear h65
  have S65:=S64.trans s65
  walk_at "r"
  refine ⟨Az,fun a66 h66=>?_⟩
  have s66:=Same.upd (o:=.tup [.ref a60,.ref a65]) h66
  have e66:upd H65 a66 (.tup [.ref a60,.ref a65]) a66=some (.tup [.ref a60,.ref a65]):=Ac
  revert s66 e66
  generalize upd H65 a66 (.tup [.ref a60,.ref a65])=H66
  intro s66 e66
  clear h66
  have S66:=S65.trans s66
  walk_at "r"
  refine ⟨Az,fun a67 h67=>?_⟩
  have s67:=Same.upd (o:=.tup [.ref a16,.ref a32]) h67
  have e67:upd H66 a67 (.tup [.ref a16,.ref a32]) a67=some (.tup [.ref a16,.ref a32]):=Ac
  revert s67 e67
  generalize upd H66 a67 (.tup [.ref a16,.ref a32])=H67
  intro s67 e67
  clear h67
  have S67:=S66.trans s67
  walk_at "r"
  refine ⟨A4,fun a68 h68=>?_⟩
  have s68:=Same.upd (o:=.tup []) h68
  have e68:upd H67 a68 (.tup []) a68=some (.tup []):=Ac
  revert s68 e68
  generalize upd H67 a68 (.tup [])=H68
  intro s68 e68
  clear h68
  have S68:=S67.trans s68
  walk_at "r"
  refine ⟨A5,fun a69 h69=>?_⟩
  have s69:=Same.upd (o:=.tup [.ref a68,.ref a4,.non,.str ""]) h69
  have e69:upd H68 a69 (.tup [.ref a68,.ref a4,.non,.str ""]) a69=some (.tup [.ref a68,.ref a4,.non,.str ""]):=Ac
  revert s69 e69
  generalize upd H68 a69 (.tup [.ref a68,.ref a4,.non,.str ""])=H69
  intro s69 e69
  clear h69
  have S69:=S68.trans s69
  walk_at "r"
  refine ⟨A0,fun a70 h70=>?_⟩
  have s70:=Same.upd (o:=.tup [.int 0]) h70
  have e70:upd H69 a70 (.tup [.int 0]) a70=some (.tup [.int 0]):=Ac
  revert s70 e70
  generalize upd H69 a70 (.tup [.int 0])=H70
  intro s70 e70
  clear h70
  have S70:=S69.trans s70
  walk_at "r"
  refine ⟨A5,fun a71 h71=>?_⟩
  have s71:=Same.upd (o:=.tup [.ref a70,.ref a4,.ref a3,.str "unlike"]) h71
  have e71:upd H70 a71 (.tup [.ref a70,.ref a4,.ref a3,.str "unlike"]) a71=some (.tup [.ref a70,.ref a4,.ref a3,.str "unlike"]):=Ac
  revert s71 e71
  generalize upd H70 a71 (.tup [.ref a70,.ref a4,.ref a3,.str "unlike"])=H71
  intro s71 e71
  clear h71
  have S71:=S70.trans s71
  walk_at "r"
  refine ⟨A0,fun a72 h72=>?_⟩
  have s72:=Same.upd (o:=.tup [.int 1]) h72
  have e72:upd H71 a72 (.tup [.int 1]) a72=some (.tup [.int 1]):=Ac
  revert s72 e72
  generalize upd H71 a72 (.tup [.int 1])=H72
  intro s72 e72
  clear h72
  have S72:=S71.trans s72
  walk_at "r"
  refine ⟨A5,fun a73 h73=>?_⟩
  have s73:=Same.upd (o:=.tup [.ref a72,.ref a3,.ref a3,.str ""]) h73
  have e73:upd H72 a73 (.tup [.ref a72,.ref a3,.ref a3,.str ""]) a73=some (.tup [.ref a72,.ref a3,.ref a3,.str ""]):=Ac
  revert s73 e73
  generalize upd H72 a73 (.tup [.ref a72,.ref a3,.ref a3,.str ""])=H73
  intro s73 e73
  clear h73
  have S73:=S72.trans s73
  walk_at "r"
  refine ⟨Bh,fun a74 h74=>?_⟩
  have s74:=Same.upd (o:=.lst [.ref a69,.ref a71,.ref a73]) h74
  have e74:upd H73 a74 (.lst [.ref a69,.ref a71,.ref a73]) a74=some (.lst [.ref a69,.ref a71,.ref a73]):=Ac
  revert s74 e74
  generalize upd H73 a74 (.lst [.ref a69,.ref a71,.ref a73])=H74
  intro s74 e74
  clear h74
  have S74:=S73.trans s74
  walk_at "r"
  refine ⟨Az,fun a75 h75=>?_⟩
  have s75:=Same.upd (o:=.tup [.ref a20,.ref a74]) h75
  have e75:upd H74 a75 (.tup [.ref a20,.ref a74]) a75=some (.tup [.ref a20,.ref a74]):=Ac
  revert s75 e75
  generalize upd H74 a75 (.tup [.ref a20,.ref a74])=H75
  intro s75 e75
  clear h75
  have S75:=S74.trans s75
  walk_at "r"
  refine ⟨sz6,fun a76 h76=>?_⟩
  have s76:=Same.upd (o:=.lst [.ref a40,.ref a48,.ref a57,.ref a66,.ref a67,.ref a75]) h76
  have e76:upd H75 a76 (.lst [.ref a40,.ref a48,.ref a57,.ref a66,.ref a67,.ref a75]) a76=some (.lst [.ref a40,.ref a48,.ref a57,.ref a66,.ref a67,.ref a75]):=Ac
  revert s76 e76
  generalize upd H75 a76 (.lst [.ref a40,.ref a48,.ref a57,.ref a66,.ref a67,.ref a75])=H76
  intro s76 e76
  clear h76
  have S76:=S75.trans s76
  walk_at "r"
  have t76:=Same.refl H76
  have t75:=s76.trans t76
  have t74:=s75.trans t75
  have t73:=s74.trans t74
  have t72:=s73.trans t73
  have t71:=s72.trans t72
  have t70:=s71.trans t71
  have t69:=s70.trans t70
  have t68:=s69.trans t69
  have t67:=s68.trans t68
  have t66:=s67.trans t67
  have t65:=s66.trans t66
  have t64:=s65.trans t65
  have t63:=s64.trans t64
  have t62:=s63.trans t63
  have t61:=s62.trans t62
  have t60:=s61.trans t61
  have t59:=s60.trans t60
  have t58:=s59.trans t59
  have t57:=s58.trans t58
  have t56:=s57.trans t57
  have t55:=s56.trans t56
  have t54:=s55.trans t55
  have t53:=s54.trans t54
  have t52:=s53.trans t53
  have t51:=s52.trans t52
  have t50:=s51.trans t51
  have t49:=s50.trans t50
  have t48:=s49.trans t49
  have t47:=s48.trans t48
  have t46:=s47.trans t47
  have t45:=s46.trans t46
  have t44:=s45.trans t45
  have t43:=s44.trans t44
  have t42:=s43.trans t43
  have t41:=s42.trans t42
  have t40:=s41.trans t41
  have t39:=s40.trans t40
  have t38:=s39.trans t39
  have t37:=s38.trans t38
  have t36:=s37.trans t37
  have t35:=s36.trans t36
  have t34:=s35.trans t35
  have t33:=s34.trans t34
  have t32:=s33.trans t33
  have t31:=s32.trans t32
  have t30:=s31.trans t31
  have t29:=s30.trans t30
  have t28:=s29.trans t29
  have t27:=s28.trans t28
  have t26:=s27.trans t27
  have t25:=s26.trans t26
  have t24:=s25.trans t25
  have t23:=s24.trans t24
  have t22:=s23.trans t23
  have t21:=s22.trans t22
  have t20:=s21.trans t21
  have t19:=s20.trans t20
  have t18:=s19.trans t19
  have t17:=s18.trans t18
  have t16:=s17.trans t17
  have t15:=s16.trans t16
  have t14:=s15.trans t15
  have t13:=s14.trans t14
  have t12:=s13.trans t13
  have t11:=s12.trans t12
  have t10:=s11.trans t11
  have t9:=s10.trans t10
  have t8:=s9.trans t9
  have t7:=s8.trans t8
  have t6:=s7.trans t7
  have t5:=s6.trans t6
  have t4:=s5.trans t5
  have t3:=s4.trans t4
  have t2:=s3.trans t3
  have t1:=s2.trans t2
  have c0:CsAt K H76 (.ref a40) (Gm a a' zp,Kj):=⟨_,_,_,_,rfl,(SqT.of (t40 _ _ e40)),(.mk (SqT.of (t34 _ _ e34)) (.inl ⟨rfl,rfl⟩) (SqT.of (t33 _ _ e33)) rfl (al1 (.mk (SqT.of (t8 _ _ e8)) (.inl ⟨rfl,rfl⟩) (SqT.of (t7 _ _ e7)) rfl (al0 )))),(t39 _ _ e39),(Au ⟨_,_,_,_,rfl,(SqT.of (t36 _ _ e36)),(t35 _ _ e35),(.to (SqT.of (t6 _ _ e6)) (.any (n:=0) (SqT.of (t1 _ _ e1))) (.any (n:=0) (SqT.of (t1 _ _ e1)))),.inl ⟨rfl,rfl⟩⟩ (Au ⟨_,_,_,_,rfl,(SqT.of (t38 _ _ e38)),(t37 _ _ e37),(.any (n:=0) (SqT.of (t1 _ _ e1))),.inr ⟨_,rfl,(.any (n:=0) (SqT.of (t1 _ _ e1)))⟩⟩ .nil))⟩
  have c1:CsAt K H76 (.ref a48) (Gk a a' zp,Mi):=⟨_,_,_,_,rfl,(SqT.of (t48 _ _ e48)),(.mk (SqT.of (t12 _ _ e12)) (.inl ⟨rfl,rfl⟩) (SqT.of (t11 _ _ e11)) rfl (al2 (.mk (SqT.of (t10 _ _ e10)) (.inl ⟨rfl,rfl⟩) (SqT.of (t9 _ _ e9)) rfl (al0 )) (.mk (SqT.of (t8 _ _ e8)) (.inl ⟨rfl,rfl⟩) (SqT.of (t7 _ _ e7)) rfl (al0 )))),(t47 _ _ e47),(Au ⟨_,_,_,_,rfl,(SqT.of (t42 _ _ e42)),(t41 _ _ e41),(.num (SqT.of (t3 _ _ e3))),.inl ⟨rfl,rfl⟩⟩ (Au ⟨_,_,_,_,rfl,(SqT.of (t44 _ _ e44)),(t43 _ _ e43),(.num (SqT.of (t3 _ _ e3))),.inr ⟨_,rfl,(.num (SqT.of (t3 _ _ e3)))⟩⟩ (Au ⟨_,_,_,_,rfl,(SqT.of (t46 _ _ e46)),(t45 _ _ e45),(.num (SqT.of (t3 _ _ e3))),.inr ⟨_,rfl,(.num (SqT.of (t3 _ _ e3)))⟩⟩ .nil)))⟩
  have c2:CsAt K H76 (.ref a57) (Gi a a' zp,Ly):=⟨_,_,_,_,rfl,(SqT.of (t57 _ _ e57)),(.mk (SqT.of (t51 _ _ e51)) (.inr ⟨_,[.str a,.str a'],rfl,(SqT.of (t49 _ _ e49)),rfl,rfl⟩) (SqT.of (t50 _ _ e50)) rfl (al1 (.mk (SqT.of (t8 _ _ e8)) (.inl ⟨rfl,rfl⟩) (SqT.of (t7 _ _ e7)) rfl (al0 )))),(t56 _ _ e56),(Au ⟨_,_,_,_,rfl,(SqT.of (t53 _ _ e53)),(t52 _ _ e52),(.to (SqT.of (t5 _ _ e5)) (.any (n:=0) (SqT.of (t1 _ _ e1))) (.any (n:=1) (SqT.of (t2 _ _ e2)))),.inl ⟨rfl,rfl⟩⟩ (Au ⟨_,_,_,_,rfl,(SqT.of (t55 _ _ e55)),(t54 _ _ e54),(.to (SqT.of (t5 _ _ e5)) (.any (n:=0) (SqT.of (t1 _ _ e1))) (.any (n:=1) (SqT.of (t2 _ _ e2)))),.inr ⟨_,rfl,(.any (n:=1) (SqT.of (t2 _ _ e2)))⟩⟩ .nil))⟩
  have c3:CsAt K H76 (.ref a66) (Fs a a' zp,Lz):=⟨_,_,_,_,rfl,(SqT.of (t66 _ _ e66)),(.mk (SqT.of (t60 _ _ e60)) (.inr ⟨_,[.str a',.str a],rfl,(SqT.of (t58 _ _ e58)),rfl,rfl⟩) (SqT.of (t59 _ _ e59)) rfl (al1 (.mk (SqT.of (t8 _ _ e8)) (.inl ⟨rfl,rfl⟩) (SqT.of (t7 _ _ e7)) rfl (al0 )))),(t65 _ _ e65),(Au ⟨_,_,_,_,rfl,(SqT.of (t62 _ _ e62)),(t61 _ _ e61),(.to (SqT.of (t6 _ _ e6)) (.any (n:=0) (SqT.of (t1 _ _ e1))) (.any (n:=0) (SqT.of (t1 _ _ e1)))),.inl ⟨rfl,rfl⟩⟩ (Au ⟨_,_,_,_,rfl,(SqT.of (t64 _ _ e64)),(t63 _ _ e63),(.any (n:=0) (SqT.of (t1 _ _ e1))),.inr ⟨_,rfl,(.any (n:=0) (SqT.of (t1 _ _ e1)))⟩⟩ .nil))⟩
  have c4:CsAt K H76 (.ref a67) (F8 a a' zp,K3):=⟨_,_,_,_,rfl,(SqT.of (t67 _ _ e67)),(.mk (SqT.of (t16 _ _ e16)) (.inl ⟨rfl,rfl⟩) (SqT.of (t15 _ _ e15)) rfl (al1 (.mk (SqT.of (t14 _ _ e14)) (.inl ⟨rfl,rfl⟩) (SqT.of (t13 _ _ e13)) rfl (al2 (.mk (SqT.of (t8 _ _ e8)) (.inl ⟨rfl,rfl⟩) (SqT.of (t7 _ _ e7)) rfl (al0 )) (.mk (SqT.of (t8 _ _ e8)) (.inl ⟨rfl,rfl⟩) (SqT.of (t7 _ _ e7)) rfl (al0 )))))),(t32 _ _ e32),(Au ⟨_,_,_,_,rfl,(SqT.of (t23 _ _ e23)),(t21 _ _ e21),(.to (SqT.of (t22 _ _ e22)) (.to (SqT.of (t5 _ _ e5)) (.any (n:=0) (SqT.of (t1 _ _ e1))) (.any (n:=1) (SqT.of (t2 _ _ e2)))) (.any (n:=1) (SqT.of (t2 _ _ e2)))),.inl ⟨rfl,rfl⟩⟩ (Au ⟨_,_,_,_,rfl,(SqT.of (t25 _ _ e25)),(t24 _ _ e24),(.any (n:=1) (SqT.of (t2 _ _ e2))),.inr ⟨_,rfl,(.any (n:=1) (SqT.of (t2 _ _ e2)))⟩⟩ (Au ⟨_,_,_,_,rfl,(SqT.of (t28 _ _ e28)),(t27 _ _ e27),(.to (SqT.of (t5 _ _ e5)) (.any (n:=0) (SqT.of (t1 _ _ e1))) (.any (n:=1) (SqT.of (t2 _ _ e2)))),.inr ⟨_,rfl,(.to (SqT.of (t5 _ _ e5)) (.any (n:=0) (SqT.of (t1 _ _ e1))) (.any (n:=1) (SqT.of (t2 _ _ e2))))⟩⟩ (Au ⟨_,_,_,_,rfl,(SqT.of (t30 _ _ e30)),(t29 _ _ e29),(.to (SqT.of (t5 _ _ e5)) (.any (n:=0) (SqT.of (t1 _ _ e1))) (.any (n:=1) (SqT.of (t2 _ _ e2)))),.inr ⟨_,rfl,(.any (n:=0) (SqT.of (t1 _ _ e1)))⟩⟩ .nil))))⟩
  have c5:CsAt K H76 (.ref a75) (Fh a a' zp,Mj):=⟨_,_,_,_,rfl,(SqT.of (t75 _ _ e75)),(.mk (SqT.of (t20 _ _ e20)) (.inl ⟨rfl,rfl⟩) (SqT.of (t19 _ _ e19)) rfl (al2 (.mk (SqT.of (t18 _ _ e18)) (.inl ⟨rfl,rfl⟩) (SqT.of (t17 _ _ e17)) rfl (al0 )) (.mk (SqT.of (t10 _ _ e10)) (.inl ⟨rfl,rfl⟩) (SqT.of (t9 _ _ e9)) rfl (al0 )))),(t74 _ _ e74),(Au ⟨_,_,_,_,rfl,(SqT.of (t69 _ _ e69)),(t68 _ _ e68),(.truth (SqT.of (t4 _ _ e4))),.inl ⟨rfl,rfl⟩⟩ (Au ⟨_,_,_,_,rfl,(SqT.of (t71 _ _ e71)),(t70 _ _ e70),(.truth (SqT.of (t4 _ _ e4))),.inr ⟨_,rfl,(.num (SqT.of (t3 _ _ e3)))⟩⟩ (Au ⟨_,_,_,_,rfl,(SqT.of (t73 _ _ e73)),(t72 _ _ e72),(.num (SqT.of (t3 _ _ e3))),.inr ⟨_,rfl,(.num (SqT.of (t3 _ _ e3)))⟩⟩ .nil)))⟩
  exact q _ _ _ _ S76 (t76 _ _ e76) (Au c0 (Au c1 (Au c2 (Au c3 (Au c4 (Au c5 .nil))))))
noncomputable def LETS:Str := "abcdefghijklmnopqrstuvwxyz_"
theorem Zif:LETS.cps.toList.length=27:=by decide +kernel
theorem Zgv:LETS.length<=sizeLine:=by decide +kernel
theorem Zdu (u v:Str):(u++v).length=u.length+v.length:=by
 show (u.cps++v.cps).size=_
 simp [Str.length]
theorem Zbj (c:Nat):(⟨#[c]⟩:Str).length=1:=rfl
noncomputable def Zfk:Sp:=fun vs H Q _=>∃(a b:Int),vs=[.int a,.int b]/\∀(p:Addr)(t0 t1 t2 t3:Str)(H':Hp),Same H H'->H p=none->t0≠t1->t0.length<=100->t1.length<=100->H' p=some (.lst [.str t0,.str t1,.str t2,.str t3])->Q (.ref p) H'
theorem Zny:(["_law_k", "_law_primes", "_law_cell"]:List Str).Nodup:=by decide +kernel
theorem sc_law_names:Bm ["_law_cell", "_law_at", "_law_letters", "_law_primes", "_law_size", "_law_base", "_law_names_here", "_law_k", "_law_name", "_law_j"] ["_law_cell", "_law_at"] (Be Io):=by walk_at "sc"
noncomputable def PRI:List V:=[.int 1009,.int 1013,.int 1019,.int 1021,.int 1031,.int 1033,.int 1039,.int 1049]
theorem Zi3 {i:Int}(h0:0<=i)(h1:i < 8):∃ z:Int,B0 PRI i=some (.int z)/\0 < z/\z < 2000:=by
 obtain ⟨v,hv,m⟩:=Gr (xs:=PRI) (i:=i) h0 h1
 simp only [PRI,O1,Po,or_false] at m
 rcases m with rfl | rfl | rfl | rfl | rfl | rfl | rfl | rfl <;> exact ⟨_,hv,by decide,by decide⟩
theorem Zf2 {α:Type}{xs:List α}(h:xs.length=4):∃ a b c d,xs=[a,b,c,d]:=by
 match xs,h with
 | [a,b,c,d],_=>exact ⟨a,b,c,d,rfl⟩
noncomputable def Dy (a b:Int):Int:=b % (1+a % 8)
noncomputable def LetJ (a b:Int)(ms:List Int)(j:Nat)(t:Str):Prop:=∃ c z,B0 (ms.map V.int) (Dy a b)=some (.int z)/\t.cps.toList[(Dy a b).toNat]?=some c/\B0 LETS.cps.toList ((z+(0+(j:Int)) * 1) % 27)=some c
theorem Zd7 (t u:Str):(t++u).cps.toList=t.cps.toList++u.cps.toList:=by
 show (t.cps++u.cps).toList=_
 simp
theorem LetJ.app {a b:Int}{ms:List Int}{j:Nat}{t:Str}(h:LetJ a b ms j t)(u:Str):LetJ a b ms j (t++u):=by
 obtain ⟨c,z,h0,h1,h2⟩:=h
 refine ⟨c,z,h0,?_,h2⟩
 rw [Zd7,Px (O2.mp h1).1]
 exact h1
theorem Zlu:∀ i,i < 27->∀ j,j < 27->LETS.cps.toList[i]?=LETS.cps.toList[j]?->i=j:=by decide +kernel
theorem Zfn {α:Type}{xs:List α}{i:Int}{x:α}(h0:0<=i)(h:B0 xs i=some x):xs[i.toNat]?=some x:=by
 unfold B0 C0 at h
 rw [if_pos h0] at h
 by_cases hl:i < (xs.length:Int)
 ·rw [if_pos hl] at h
  simpa using h
 ·rw [if_neg hl] at h
  simp at h
theorem LetJ.ne {a b:Int}{ms:List Int}{t0 t1:Str}(h0:LetJ a b ms 0 t0)(h1:LetJ a b ms 1 t1):t0≠t1:=by
 rintro rfl
 obtain ⟨c,E,f,g,e⟩:=h0
 obtain ⟨c',E',f',g',e'⟩:=h1
 rw [g] at g'
 cases g'
 rw [f] at f'
 cases f'
 have b0:=Qu (E+(0+((0:Nat):Int)) * 1) (show (27:Int)≠0 by decide)
 have b1:=Qq (E+(0+((0:Nat):Int)) * 1) (show (0:Int) < 27 by decide)
 have c0:=Qu (E+(0+((1:Nat):Int)) * 1) (show (27:Int)≠0 by decide)
 have c1:=Qq (E+(0+((1:Nat):Int)) * 1) (show (0:Int) < 27 by decide)
 have:=Zlu _ (by omega) _ (by omega) ((Zfn b0 e).trans (Zfn c0 e').symm)
 omega
noncomputable def NmJ (H:Hp)(a b:Int)(R D p:Addr)(ms:List Int)(j:Nat)(σ':St)(H':Hp):Prop:=∃(v7 v8 v9:Option V)(ts:List Str),σ'=[some (.int a),some (.int b),some (.str LETS),some (.ref R),some (.int (1+a % 8)),some (.ref D),some (.ref p),v7,v8,v9]/\H' D=some (.lst (ms.map V.int))/\H' p=some (.lst (ts.map V.str))/\ts.length=j/\(∀ t∈ts,t.length<=100)/\Same H H'/\∀(i:Nat)(x:Str),ts[i]?=some x->LetJ a b ms i x
theorem Zhm {f:Addr}{fd:FuncData}(F:Fun K "_law_names" "_law_names" Io f fd)(T:Txt K mg):A9 P w K mg base Bd 1 f fd ["_law_cell", "_law_at"] Zfk:=by
 refine F.okq sc_law_names (fun vs H Q E h=>?_) (fun cdv A outer s H vs Q E hr h=>?_)
 ·obtain ⟨a,b,rfl,_⟩:=h
  rfl
 ·obtain ⟨a,b,rfl,q⟩:=h
  refine ⟨_,Ag (Ar 2 sc_law_names Ah)
   (Ag (Zaw (i:=3) sc_law_names.nd rfl (Or.inr rfl) (Av (Zcq (xs:=[.int 1009,.int 1013,.int 1019,.int 1021,.int 1031,.int 1033,.int 1039,.int 1049]) rfl)))
   (Ag (Ar 4 sc_law_names (Bs (Dq K) Af (Bs Ed (qv 0) Af)))
   (Ag (Od (i:=5) (N:=["_law_k", "_law_primes", "_law_cell"]) (σ0:=Dc 1 [3,0]) rfl (Ea rfl (by decide +kernel) (by decide +kernel) (by decide +kernel)) (Hw rfl T.range (Aa (qv 4) Ab)) (D7 rfl (by rfl)) (fun _ _ _ _=>A6 (i:=0) Zny rfl (Or.inl rfl)) (fun _ _ _ _=>Go) (fun _ _ _ _=>Bs Ed (Bs Ed (Bs Kl (Bs Zn7 (qv 2) Af) Af) (Ap K (qv 1) (qv 0))) Af) sc_law_names.nd rfl (Or.inl rfl))
   (Ag (Ar 6 sc_law_names (Av Ab))
   (Ag (Cu Pi rfl (Hw rfl T.range (Aa Af Ab)) (A6 (i:=7) sc_law_names.nd rfl (Or.inl rfl)) (Ag (Ar 8 sc_law_names Ah)
   (Ag (Cu Pi rfl (Hw rfl T.range (Aa (qv 4) Ab)) (A6 (i:=9) sc_law_names.nd rfl (Or.inl rfl)) (Ak (Ar 8 sc_law_names (Bs (Dq K) (qv 8) (Ap K (qv 2) (Bs Ed (Bs (Dq K) (Ap K (qv 5) (qv 9)) (Bs Kl (qv 7) (Fd Zhd (by rfl) T.int (by decide +kernel) (Aa (Kg (B2 K hr.u200) (qv 9) (Bs Ed (qv 1) (qv 4)) (Br _)) Ab)))) Af))))))
   (Ag (Bf (Bv (M9 K) (qv 8) (Av (Zcq (xs:=[.str "let",.str "in",.str "if",.str "then",.str "else",.str "fn",.str "rec",.str "yes",.str "no"]) rfl)) (by rfl)) (Ak (Ar 8 sc_law_names (Bs (Dq K) (qv 8) Ah))) Bj)
   (Ak (Cw (Dk K Pl P7 P8 Dl (qv 6) (Aa (qv 8) Ab))))))))
   (Ak (Ax (qv 6)))))))),?_⟩
  have bg:=big
  have hs0:0<=a % 8:=Qu a (by decide)
  have hs1:a % 8 < 8:=Qq a (by decide)
  walk_at "r"
  refine ⟨Hh,fun R hR=>?_⟩
  have s0:Same H (upd H R (.lst [V.int 1009,V.int 1013,V.int 1019,V.int 1021,V.int 1031,V.int 1033,V.int 1039,V.int 1049])):=Same.upd hR
  have e0:upd H R (.lst [V.int 1009,V.int 1013,V.int 1019,V.int 1021,V.int 1031,V.int 1033,V.int 1039,V.int 1049]) R=some (.lst PRI):=Ac
  revert s0 e0
  generalize upd H R (.lst [V.int 1009,V.int 1013,V.int 1019,V.int 1021,V.int 1031,V.int 1033,V.int 1039,V.int 1049])=H0
  intro s0 e0
  walk_at "r"
  refine ⟨by omega,by omega,fun D hD=>?_⟩
  have nR:R≠D:=fun z=>by rw [z,hD] at e0;cases e0
  refine Zbv (Pv:=fun i ys σ' H'=>∃ kv ms,σ'=[kv,some (.ref R),some (.int a)]/\ys=ms.map V.int/\ms.length=i/\Same H0 H') ⟨none,[],rfl,rfl,rfl,Same.upd hD⟩ ?_ ?_
  ·rintro i ys σ' H' hi hys ⟨kv,ms,rfl,rfl,hl,hH⟩
   obtain ⟨z,hz,z0,z1⟩:=Zi3 (i:=0+(i:Int)) (by omega) (by omega)
   walk_at "r"
   refine A1 (SqL.of (hH _ _ e0)) hz ?_
   walk_at "r"
   refine s_rI z0 ?_
   walk_at "r"
   refine ⟨_,hys,by rw [O0];omega,_,Ac,?_⟩
   exact ⟨_,ms++[_],rfl,by rw [Qb];rfl,by simp [hl],hH.over hD⟩
  ·rintro ys σ' H1 hys ⟨kv,ms,rfl,rfl,hl,hH⟩
   walk_at "r"
   refine ⟨A4,fun p hp=>?_⟩
   have hpD:D≠p:=fun z=>by rw [z,hp] at hys;cases hys
   have hp1:H0 p=none:=hH.free hp
   have hp0:H p=none:=s0.free hp1
   have hys':upd H1 p (.lst []) D=some (.lst (ms.map V.int)):=by rw [Ai hpD];exact hys
   walk_at "r"
   refine ⟨by decide,by decide,?_⟩
   refine Ja (n:=4) (NmJ H a b R D p ms) ⟨_,_,_,[],rfl,hys',Ac,rfl,(fun t h=>nomatch h),(s0.trans hH).put hp,fun i x h=>by simp at h⟩ ?_ ?_
   ·rintro j σ' H2 hj ⟨v7,v8,v9,ts,rfl,hD2,hp2,hl2,hb2,sm2,lt2⟩
    walk_at "r"
    refine ⟨by omega,by omega,?_⟩
    refine Ja (n:=(1+a % 8).toNat) (fun k σ' H'=>∃ v9 t,σ'=[some (.int a),some (.int b),some (.str LETS),some (.ref R),some (.int (1+a % 8)),some (.ref D),some (.ref p),some (.int (0+j)),some (.str t),v9]/\t.length=k/\((Dy a b).toNat < k->LetJ a b ms j t)/\H'=H2) ⟨_,Str.empty,rfl,rfl,(fun h=>absurd h (U7 _)),rfl⟩ ?_ ?_
    ·rintro k σ' H3 hk ⟨v9',t,rfl,hl3,lt3,rfl⟩
     obtain ⟨v,hv,m⟩:=Gr (xs:=ms.map V.int) (i:=0+(k:Int)) (by omega) (by rw [O0];omega)
     obtain ⟨z,_,rfl⟩:=Sl.mp m
     walk_at "r"
     refine A1 (SqL.of hD2) hv ?_
     walk_at "r"
     refine s_rI (by omega) ?_
     walk_at "r"
     refine s_mul_r (by split <;> decide) (by split <;> decide) ?_
     walk_at "r"
     obtain ⟨c,hc,_⟩:=Gr (xs:=LETS.cps.toList) (i:=(z+(0+(j:Int)) * (if decide (V.int (0+(k:Int))=V.int (b % (1+a % 8)))=true then 1 else 0)) % 27) (Qu _ (by decide)) (by rw [Zif];exact Qq _ (by decide))
     refine Zhj Zgv hc ?_
     refine Mg (by rw [Zbj];omega) ?_
     refine ⟨_,_,rfl,by rw [Zdu,Zbj];omega,fun hlt=>?_,rfl⟩
     by_cases hk2:(Dy a b).toNat < k
     ·exact (lt3 hk2).app _
     ·have hat:0<=Dy a b/\Dy a b < 1+a % 8:=⟨Qu _ (by omega),Qq _ (by omega)⟩
      have ek:(0:Int)+(k:Int)=Dy a b:=by omega
      have en:(Dy a b).toNat=t.cps.toList.length:=by
       have:t.cps.toList.length=t.length:=by simp [Str.length]
       omega
      refine ⟨c,z,by rw [<- ek];exact hv,?_,?_⟩
      ·rw [Zd7,en]
       simp
      ·rw [<- hc,ek,decide_eq_true (show V.int (Dy a b)=V.int (b % (1+a % 8)) from rfl),if_pos rfl]
    ·rintro σ' H3 ⟨v9',t,rfl,hl3,lt3,rfl⟩
     walk_at "r"
     refine ⟨sz9,fun p9 h9=>?_⟩
     refine Zao (.inl (SqL.of Ac)) rfl rfl ?_
     have nD:D≠p9:=fun z=>by rw [z,h9] at hD2;cases hD2
     have np:p≠p9:=fun z=>by rw [z,h9] at hp2;cases hp2
     have hpU:∀ o,upd H3 p9 o p=some (.lst (ts.map V.str)):=fun o=>by rw [Ai np];exact hp2
     have hDU:∀ o,upd H3 p9 o D=some (.lst (ms.map V.int)):=fun o=>by rw [Ai nD];exact hD2
     have smU:∀ o,Same H (upd H3 p9 o):=fun o=>sm2.put h9
     have hat:0<=Dy a b/\Dy a b < 1+a % 8:=⟨Qu _ (by omega),Qq _ (by omega)⟩
     have ltE:LetJ a b ms j t:=lt3 (by omega)
     have fin:∀(t':Str)(o:HO),t'.length<=100->LetJ a b ms j t'->NmJ H a b R D p ms (j+1) [some (.int a),some (.int b),some (.str LETS),some (.ref R),some (.int (1+a % 8)),some (.ref D),some (.ref p),some (.int (0+(j:Int))),some (.str t'),v9'] (upd (upd H3 p9 o) p (.lst (ts.map V.str++[.str t']))):=fun t' o hb' lt' =>
      ⟨_,_,_,ts++[t'],rfl,by rw [Ai hpD];exact hDU o,by rw [Ac,Qb];rfl,by simp [hl2],(fun x hx=>(Qt.mp hx).elim (hb2 x) fun h=>by rw [Pr.mp h];exact hb'),(smU o).over hp0,fun i x hx=>by
       by_cases hi:i < ts.length
       ·rw [Px hi] at hx
        exact lt2 i x hx
       ·have hi2:i < (ts++[t']).length:=(O2.mp hx).1
        rw [O4,Pt] at hi2
        have ei:i=ts.length:=by omega
        rw [ei,List.getElem?_concat_length] at hx
        cases hx
        rw [ei,hl2]
        exact lt'⟩
     walk_at "r"
     refine Ce (fun _=>?_) (fun _=>?_)
     ·walk_at "r"
      have l1:(O8 "_").length=1:=by decide +kernel
      refine Mg (by rw [l1];omega) ?_
      walk_at "r"
      refine Ci (SqL.of (hpU _)) ?_
      walk_at "r"
      refine Df (hpU _) (by rw [O0];omega) ?_
      exact fin _ _ (by rw [Zdu,l1];omega) (ltE.app _)
     ·walk_at "r"
      refine Ci (SqL.of (hpU _)) ?_
      walk_at "r"
      refine Df (hpU _) (by rw [O0];omega) ?_
      exact fin _ _ (by omega) ltE
   ·rintro σ' H2 ⟨v7,v8,v9,ts,rfl,hD2,hp2,hl2,hb2,sm2,lt2⟩
    walk_at "r"
    obtain ⟨t0,t1,t2,t3,rfl⟩:=Zf2 hl2
    exact q p _ _ _ _ _ sm2 hp0 ((lt2 0 t0 rfl).ne (lt2 1 t1 rfl)) (hb2 t0 (by simp)) (hb2 t1 (by simp)) hp2
noncomputable def F5 (K:Os)(n:Nat):Sp:=fun vs H Q _=>∃(x y:V)(d:Dt)(m:Nat),vs=[x,y]/\m < n/\IsD K H m x d/\IsD K H m y d/\C9 d/\∀ H',Same H H'->Q (.bl true) H'
theorem sc_law_same:Bm ["_law_found", "_law_due", "_law_k"] ["_law_found", "_law_due"] (Be G2):=by walk_at "sc"
theorem Zn6 {n:Nat}{f:Addr}{fd:FuncData}(F:Fun K "_law_same" "_law_same" G2 f fd)(T:Txt K mg)(C__law_same:Ba P w K mg base (n+1) "_law_same" ["_law_found", "_law_due"] (F5 K n)):A9 P w K mg base Bd (n+2) f fd ["_law_found", "_law_due"] (F5 K (n+1)):=by
 refine F.okq sc_law_same (fun vs H Q E h=>?_) (fun cdv A outer s H vs Q E hr h=>?_)
 ·obtain ⟨x,y,d,m,rfl,_⟩:=h
  rfl
 ·obtain ⟨x,y,d,m,rfl,hm,hx,hy,hd,q⟩:=h
  refine ⟨_,Ag (Bf (Du (Ca (Dm K "bool") (by rfl) T.isinstance (by decide +kernel) (Aa (qv 1) (Aa (Dr (v:=.ty "bool") (by rfl) T.bool (by decide +kernel) rfl) Ab)))) (Ak (Ax (Fy (Ca (Dm K "bool") (by rfl) T.isinstance (by decide +kernel) (Aa (qv 0) (Aa (Dr (v:=.ty "bool") (by rfl) T.bool (by decide +kernel) rfl) Ab))) (Hl (Kg (B2 K hr.u200) (qv 0) (qv 1) (Br _)))))) Bj)
   (Ag (Bf (Du (Ca (Dm K "int") (by rfl) T.isinstance (by decide +kernel) (Aa (qv 1) (Aa (Dr (v:=.ty "int") (by rfl) T.int (by decide +kernel) rfl) Ab)))) (Ak (Ax (Fy (Ca (Dm K "int") (by rfl) T.isinstance (by decide +kernel) (Aa (qv 0) (Aa (Dr (v:=.ty "int") (by rfl) T.int (by decide +kernel) rfl) Ab))) (Fy (Zd0 (Ca (Dm K "bool") (by rfl) T.isinstance (by decide +kernel) (Aa (qv 0) (Aa (Dr (v:=.ty "bool") (by rfl) T.bool (by decide +kernel) rfl) Ab)))) (Hl (Kg (B2 K hr.u200) (qv 0) (qv 1) (Br _))))))) Bj)
   (Ag (Bf (Du (Ca (Dm K "str") (by rfl) T.isinstance (by decide +kernel) (Aa (qv 1) (Aa (Dr (v:=.ty "str") (by rfl) T.str (by decide +kernel) rfl) Ab)))) (Ak (Ax (Fy (Ca (Dm K "str") (by rfl) T.isinstance (by decide +kernel) (Aa (qv 0) (Aa (Dr (v:=.ty "str") (by rfl) T.str (by decide +kernel) rfl) Ab))) (Hl (Kg (B2 K hr.u200) (qv 0) (qv 1) (Br _)))))) Bj)
   (Ag (Bf (Ha (Lb (qv 1))) (Ak (Ax (Zd3 (Lb (qv 0))))) Bj)
   (Ag (Bf (Du (Ca (Dm K "tuple") (by rfl) T.isinstance (by decide +kernel) (Aa (qv 1) (Aa (Dr (v:=.ty "tuple") (by rfl) T.tuple (by decide +kernel) rfl) Ab)))) (Ak (Bf (E4 (Du (Ca (Dm K "tuple") (by rfl) T.isinstance (by decide +kernel) (Aa (qv 0) (Aa (Dr (v:=.ty "tuple") (by rfl) T.tuple (by decide +kernel) rfl) Ab))))) (Ak (Ax C6)) Bj)) (Ak (Bf (E4 (Du (Ca (Dm K "list") (by rfl) T.isinstance (by decide +kernel) (Aa (qv 0) (Aa (Dr (v:=.ty "list") (by rfl) T.list (by decide +kernel) rfl) Ab))))) (Ak (Ax C6)) Bj)))
   (Ag (Bf (Bv (M8 K hr.u200) (Ca (Em K) (by rfl) T.len (by decide +kernel) (Aa (qv 0) Ab)) (Ca (Em K) (by rfl) T.len (by decide +kernel) (Aa (qv 1) Ab)) (Br _)) (Ak (Ax C6)) Bj)
   (Ag (Cu Pi rfl (Hw rfl T.range (Aa (Ca (Em K) (by rfl) T.len (by decide +kernel) (Aa (qv 1) Ab)) Ab)) (A6 (i:=2) sc_law_same.nd rfl (Or.inl rfl)) (Ak (Bf (E4 (Du (As C__law_same (hr.mono (by omega)) (Aa (Ap K (qv 0) (qv 2)) (Aa (Ap K (qv 1) (qv 2)) Ab))))) (Ak (Ax C6)) Bj)))
   (Ak (Ax C6)))))))),?_⟩
  have bg:=big
  cases hx with
  | flat hv =>
   cases hy with
   | flat _ =>
   cases x with
   | non =>
    walk_at "r"
    refine C1 (b:=false) .non rfl ?_
    walk_at "r"
    refine C1 (b:=false) .non rfl ?_
    walk_at "r"
    refine C1 (b:=false) .non rfl ?_
    walk_at "r"
    rw [decide_eq_true (Eq.refl _)]
    walk_at "r"
    exact q H (Same.refl _)
   | bl b =>
    walk_at "r"
    refine C1 (b:=true) (.bl b) rfl ?_
    walk_at "r"
    refine C1 (b:=true) (.bl b) rfl ?_
    walk_at "r"
    rw [decide_eq_true (Eq.refl _)]
    walk_at "r"
    exact q H (Same.refl _)
   | int b =>
    walk_at "r"
    refine C1 (b:=false) (.int b) rfl ?_
    walk_at "r"
    refine C1 (b:=true) (.int b) rfl ?_
    walk_at "r"
    refine C1 (b:=true) (.int b) rfl ?_
    walk_at "r"
    refine C1 (b:=false) (.int b) rfl ?_
    walk_at "r"
    rw [decide_eq_true (Eq.refl _)]
    walk_at "r"
    exact q H (Same.refl _)
   | str b =>
    walk_at "r"
    refine C1 (b:=false) (.str b) rfl ?_
    walk_at "r"
    refine C1 (b:=false) (.str b) rfl ?_
    walk_at "r"
    refine C1 (b:=true) (.str b) rfl ?_
    walk_at "r"
    refine C1 (b:=true) (.str b) rfl ?_
    walk_at "r"
    rw [decide_eq_true (Eq.refl _)]
    walk_at "r"
    exact q H (Same.refl _)
   | _=>exact absurd hv (by simp [Cz])
  | @tup k a vs ds qa la ha =>
   cases hy with
   | @tup _ c ws _ qc lc hc =>
   cases hd with
   | tup hl hds =>
   have eN:decide (V.ref c=V.non)=false:=decide_eq_false (fun z=>by cases z)
   walk_at "r"
   refine Iv (b:=false) qc rfl ?_
   walk_at "r"
   refine Iv (b:=false) qc rfl ?_
   walk_at "r"
   refine Iv (b:=false) qc rfl ?_
   walk_at "r"
   rw [eN]
   walk_at "r"
   refine Iv (b:=true) qc rfl ?_
   walk_at "r"
   refine Iv (b:=true) qa rfl ?_
   walk_at "r"
   refine K5 qa ?_
   walk_at "r"
   refine K5 qc ?_
   walk_at "r"
   rw [la,lc,decide_eq_true (Eq.refl _)]
   walk_at "r"
   refine K5 qc ?_
   walk_at "r"
   rw [lc]
   refine ⟨by omega,by omega,?_⟩
   refine Ja (n:=(ds.length:Int).toNat) (fun i σ' H'=>∃ v2,σ'=[some (.ref a),some (.ref c),v2]/\Same H H') ⟨none,rfl,Same.refl _⟩ ?_ ?_
   ·rintro i σ' H' hi ⟨v2,rfl,sm⟩
    have hi:i < ds.length:=by omega
    have e0:(0:Int)+(i:Int)=((i:Nat):Int):=by omega
    rw [e0]
    have hiv:i < vs.length:=by omega
    have hiw:i < ws.length:=by omega
    walk_at "r"
    refine A2 (sm.tup qa) (Bp (Ou hiv)) ?_
    walk_at "r"
    refine A2 (sm.tup qc) (Bp (Ou hiw)) ?_
    walk_at "r"
    refine ⟨vs[i],ws[i],ds[i],k,rfl,by omega,(ha i _ _ (Ou hiv) (Ou hi)).same sm,(hc i _ _ (Ou hiw) (Ou hi)).same sm,hds _ (Sa hi),fun H2 s2=>?_⟩
    walk_at "r"
    exact ⟨_,rfl,sm.trans s2⟩
   ·rintro σ' H' ⟨v2,rfl,sm⟩
    walk_at "r"
    exact q H' sm
  | @lst k a vs ds qa la ha =>
   cases hy with
   | @lst _ c ws _ qc lc hc =>
   cases hd with
   | lst hl hds =>
   have eN:decide (V.ref c=V.non)=false:=decide_eq_false (fun z=>by cases z)
   walk_at "r"
   refine Iz (b:=false) qc rfl ?_
   walk_at "r"
   refine Iz (b:=false) qc rfl ?_
   walk_at "r"
   refine Iz (b:=false) qc rfl ?_
   walk_at "r"
   rw [eN]
   walk_at "r"
   refine Iz (b:=false) qc rfl ?_
   walk_at "r"
   refine Iz (b:=true) qa rfl ?_
   walk_at "r"
   refine E9 qa ?_
   walk_at "r"
   refine E9 qc ?_
   walk_at "r"
   rw [la,lc,decide_eq_true (Eq.refl _)]
   walk_at "r"
   refine E9 qc ?_
   walk_at "r"
   rw [lc]
   refine ⟨by omega,by omega,?_⟩
   refine Ja (n:=(ds.length:Int).toNat) (fun i σ' H'=>∃ v2,σ'=[some (.ref a),some (.ref c),v2]/\Same H H') ⟨none,rfl,Same.refl _⟩ ?_ ?_
   ·rintro i σ' H' hi ⟨v2,rfl,sm⟩
    have hi:i < ds.length:=by omega
    have e0:(0:Int)+(i:Int)=((i:Nat):Int):=by omega
    rw [e0]
    have hiv:i < vs.length:=by omega
    have hiw:i < ws.length:=by omega
    walk_at "r"
    refine A1 (sm.seq qa) (Bp (Ou hiv)) ?_
    walk_at "r"
    refine A1 (sm.seq qc) (Bp (Ou hiw)) ?_
    walk_at "r"
    refine ⟨vs[i],ws[i],ds[i],k,rfl,by omega,(ha i _ _ (Ou hiv) (Ou hi)).same sm,(hc i _ _ (Ou hiw) (Ou hi)).same sm,hds _ (Sa hi),fun H2 s2=>?_⟩
    walk_at "r"
    exact ⟨_,rfl,sm.trans s2⟩
   ·rintro σ' H' ⟨v2,rfl,sm⟩
    walk_at "r"
    exact q H' sm
noncomputable def mB (r:Rw):Bool:=decide (r.2.2.2 ≠ "")
theorem Zem {ds:List Rw}{i:Nat}{r:Rw}(h:ds[i]?=some r):(ds.take (i+1)).filter mB=(ds.take i).filter mB++if mB r=true then [r] else []:=by
 rw [Qd,h,List.filter_append]
 cases e:mB r with
 | true=>rw [if_pos rfl];show _++List.filter mB [r]=_;rw [List.filter_cons_of_pos e];rfl
 | false=>rw [if_neg (by decide)];show _++List.filter mB [r]=_;rw [List.filter_cons_of_neg (by rw [e];decide)];rfl
theorem Zh5 (ds:List Rw)(i:Nat):((ds.take i).filter mB).length<=i:=Pm (Th _ _) (by rw [Pg];omega)
theorem Zpj (t:Tr)(pl:List Nat)(f:Tr)(fb:Bool):Co t pl f fb∈(["", "unlike", "odd", "free"]:List Str):=by
 cases f with
 | mk w n ps =>
 show (if fb=false then "unlike" else if w = "odd" then "odd" else if w = "name" /\ Bw (Gy n) 0 (Cg t pl)=none then "free" else "" : Str)∈(["", "unlike", "odd", "free"]:List Str)
 by_cases h1:fb=false
 ·rw [if_pos h1];simp
 ·rw [if_neg h1]
  by_cases h2:w = "odd"
  ·rw [if_pos h2];simp
  ·rw [if_neg h2]
   by_cases h3:w = "name" /\ Bw (Gy n) 0 (Cg t pl)=none
   ·rw [if_pos h3];simp
   ·rw [if_neg h3];simp
theorem Ziu {t:Tr}{ks:List Kd}{fs:List Bool}{i:Nat}{r:Rw}(h:(Aw t ks fs)[i]?=some r):(r.2.2.2 = "" /\ mB r=false)\/(mB r=true/\(r.2.2.2 = "unlike" \/ r.2.2.2 = "odd" \/ r.2.2.2 = "free")):=by
 unfold Aw at h
 rw [List.getElem?_mapIdx] at h
 obtain ⟨x,hx,rfl⟩:=Ug.mp h
 have m:=Zpj t x.1 x.2 (fs.getD i false)
 unfold mB
 show (Co t x.1 x.2 (fs.getD i false) = "" /\ decide (Co t x.1 x.2 (fs.getD i false) ≠ "")=false)\/(decide (Co t x.1 x.2 (fs.getD i false) ≠ "")=true/\(Co t x.1 x.2 (fs.getD i false) = "unlike" \/ Co t x.1 x.2 (fs.getD i false) = "odd" \/ Co t x.1 x.2 (fs.getD i false) = "free"))
 generalize Co t x.1 x.2 (fs.getD i false)=z at m
 simp only [O1,Po,or_false] at m
 rcases m with rfl | rfl | rfl | rfl
 ·exact .inl ⟨rfl,by decide⟩
 ·exact .inr ⟨by decide,.inl rfl⟩
 ·exact .inr ⟨by decide,.inr (.inl rfl)⟩
 ·exact .inr ⟨by decide,.inr (.inr rfl)⟩
noncomputable def MkAt (K:Os)(H:Hp)(v:V)(r:Rw):Prop:=∃(e p:Addr),v=.ref e/\SqT K H e [.ref p,.str r.2.2.2]/\SqT K H p (Bg r.1)
theorem MkAt.same {H H':Hp}(e:SameT H H')(v:V)(r:Rw)(h:MkAt K H v r):MkAt K H' v r:=let ⟨c,p,h1,h2,h3⟩:=h;⟨c,p,h1,e.tup h2,e.tup h3⟩
noncomputable def Zfg (K:Os):Sp:=fun vs H Q _=>∃(v:V)(t:Tr)(ks:List Kd)(fs:List Bool),vs=[v]/\TrAt K H v t/\B8 t/\t.size<=40/\Hy t ks fs/\∀(p:Addr)(rows:List V)(H':Hp),Same H H'->H p=none->H' p=some (.lst rows)->Al (MkAt K H') rows ((Aw t ks fs).filter mB)->Q (.ref p) H'
theorem Lx:(["place", "given", "asked", "mark"]:List Str).Nodup:=by decide +kernel
theorem Zod:Bm ["tree"] ["tree"] (Be J7):=by walk_at "sc"
theorem Zjs {f:Addr}{fd:FuncData}(F:Fun K "marks" "marks" J7 f fd)(T:Txt K mg)(C_looks:Ba P w K mg base 8 "looks" ["tree"] (Kt K)):A9 P w K mg base Bd 9 f fd ["tree"] (Zfg K):=by
 refine F.okq Zod (fun vs H Q E h=>?_) (fun cdv A outer s H vs Q E hr h=>?_)
 ·obtain ⟨v,t,ks,fs,rfl,_⟩:=h
  rfl
 ·obtain ⟨v,t,ks,fs,rfl,ht,hts,hsz,hlk,q⟩:=h
  refine ⟨_,Ak (Ax (F4 (N:=["place", "given", "asked", "mark"]) (σ0:=Dc 4 []) rfl (Ea rfl (by decide +kernel) (by decide +kernel) (by decide +kernel)) (Db K (As C_looks hr.m (Aa (qv 0) Ab))) (D7 rfl (by rfl)) (fun _ _ _ _=>Da K (n:=4) rfl (Bx (A6 (i:=0) Lx rfl (Or.inl rfl)) (Bx (A6 (i:=1) Lx rfl (Or.inl rfl)) (Bx (A6 (i:=2) Lx rfl (Or.inl rfl)) (Bx (A6 (i:=3) Lx rfl (Or.inl rfl)) (C7)))))) (fun _ _ _ _=>Zan (Fm K (qv 3) (by intro _;rfl))) (fun _ _ _ _=>Ad (Aa (qv 0) (Aa (qv 3) Ab))))),?_⟩
  have bg:=big
  walk_at "r"
  refine ⟨v,t,ks,fs,rfl,ht,hts,hsz,hlk,fun pL rows H1 s1 _ er al=>?_⟩
  have hdl:(Aw t ks fs).length=t.size:=by unfold Aw;rw [Us];exact G1 _ _
  refine .inl ⟨pL,rfl,⟨_,SqL.of er⟩,fun D hD=>?_⟩
  have nD:pL≠D:=A3 er hD
  refine F0 (K:=K) (a:=pL) (xs:=rows) (Pv:=fun i ys σ' H'=>∃ x0 x1 x2 x3,σ'=[x0,x1,x2,x3]/\Al (MkAt K H') ys (((Aw t ks fs).take i).filter mB)/\Same H1 H') ⟨none,none,none,none,rfl,.nil,Same.upd hD⟩ ?_ ?_ ?_
  ·rintro i ys σ' H' _ ⟨_,_,_,_,_,_,sm⟩
   exact SqL.of (sm _ _ er)
  ·rintro i x ys σ' H' hx hys ⟨x0,x1,x2,x3,rfl,aly,sm⟩
   have hi:=(O2.mp hx).1
   obtain ⟨r,hr0,e,p,g,a,rfl,qe,qp,_,_⟩:=al.get hx
   have hfl:=Zh5 (Aw t ks fs) i
   have hln:i < t.size:=by rw [<- hdl,<- al.1];exact hi
   have fs':=Zem hr0
   have hit:mB r=true->∀ z:Str,r.2.2.2=z->∀ p2,H' p2=none->∃ y,upd H' p2 (.tup [.ref p,.str z]) D=some (.lst y)/\y.length < sizeLine/\∃ zs,upd (upd H' p2 (.tup [.ref p,.str z])) D (.lst (y++[.ref p2])) D=some (.lst zs)/\Al (MkAt K (upd (upd H' p2 (.tup [.ref p,.str z])) D (.lst (y++[.ref p2])))) zs (((Aw t ks fs).take (i+1)).filter mB)/\Same H1 (upd (upd H' p2 (.tup [.ref p,.str z])) D (.lst (y++[.ref p2]))):=fun h2 z h1 p2 h3=>by
    rw [h2,if_pos rfl] at fs'
    have s2:=Same.upd (o:=.tup [.ref p,.str z]) h3
    have t6:=s2.t.trans (SameT.set (o:=.lst (ys++[.ref p2])) (s2 _ _ hys))
    refine ⟨ys,s2 _ _ hys,by rw [aly.1];omega,_,Ac,?_,(sm.trans s2).over hD⟩
    rw [fs']
    exact (aly.mono (MkAt.same t6)).snoc ⟨p2,p,rfl,(SameT.set (s2 _ _ hys)).tup (by rw [h1];exact SqT.of Ac),t6.tup (SqT.of (sm _ _ qp))⟩
   walk_at "r"
   refine C3 (sm.tup qe) rfl ?_
   walk_at "r"
   rcases Ziu hr0 with ⟨h1,h2⟩ | ⟨h2,h1 | h1 | h1⟩
   ·rw [h1]
    refine ⟨false,⟨by decide,by decide⟩,?_⟩
    rw [h2,if_neg (by decide),Qa] at fs'
    refine iteF ?_
    exact ⟨ys,hys,_,_,_,_,rfl,by rw [fs'];exact aly,sm⟩
   all_goals
    rw [h1]
    refine ⟨true,⟨by decide,by decide⟩,?_⟩
    refine iteT ?_
    walk_at "r"
    refine ⟨Az,fun p2 h3=>?_⟩
    obtain ⟨y,k1,k2,zs,k3,k4,k5⟩:=hit h2 _ h1 p2 h3
    exact ⟨y,k1,k2,zs,k3,_,_,_,_,rfl,k4,k5⟩
  ·rintro ys σ' H' hys ⟨x0,x1,x2,x3,rfl,aly,sm⟩
   rw [al.1,Py] at aly
   exact q D ys H' (s1.trans sm) (s1.free hD) hys aly
noncomputable def Zfr (K:Os):Sp:=fun vs H Q _=>∃(v:V)(t:Tr)(p:Addr)(pl:List Nat)(tx:Tr),vs=[v,.ref p]/\TrAt K H v t/\SqT K H p (Bg pl)/\Sub t pl/\pl.length<=1000/\(Cd t pl)[pl.length]?=some tx /\
 ∀(u:V)(H':Hp),Same H H'->TrAt K H' u tx->Q u H'
theorem Zl9:Bm ["tree", "place"] ["tree", "place"] (Be Ib):=by walk_at "sc"
theorem Zoz {f:Addr}{fd:FuncData}(F:Fun K "form_at" "form_at" Ib f fd)(T:Txt K mg)(C_forms_down_to:Ba P w K mg base 3 "forms_down_to" ["tree", "place"] (Mx K)):A9 P w K mg base Bd 4 f fd ["tree", "place"] (Zfr K):=by
 refine F.okq Zl9 (fun vs H Q E h=>?_) (fun cdv A outer s H vs Q E hr h=>?_)
 ·obtain ⟨v,t,p,pl,tx,rfl,_⟩:=h
  rfl
 ·obtain ⟨v,t,p,pl,tx,rfl,ht,hp,hs,hl,hx,q⟩:=h
  refine ⟨_,Ak (Ax (Ap K (As C_forms_down_to hr.m (Aa (qv 0) (Aa (qv 1) Ab))) (Hv G8 Af))),?_⟩
  have hpl:=Kb hs
  walk_at "r"
  refine ⟨v,t,p,pl,rfl,ht,hp,hs,hl,fun q1 ws H1 hq1 s1 e1 al=>?_⟩
  obtain ⟨u,hu,hat⟩:=al.get' hx
  have hwl:ws.length - 1=pl.length:=by rw [al.1,hpl];omega
  walk_at "r"
  refine A1 (SqL.of e1) (Hq (by rw [hwl];exact hu)) ?_
  exact q u H1 s1 hat
noncomputable def KrAt (K:Os)(H:Hp)(v:V)(r:Rw):Prop:=∃(c p:Addr)(g:V),v=.ref c/\SqT K H c [.ref p,g]/\H p=some (.tup (Bg r.1))/\KdAt K H g r.2.1
theorem KrAt.same {H H':Hp}(e:SameT H H')(v:V)(r:Rw)(h:KrAt K H v r):KrAt K H' v r:=let ⟨c,p,g,h1,h2,h3,h4⟩:=h;⟨c,p,g,h1,e.tup h2,(e p).1 _ h3,h4.same e⟩
theorem Znc {H:Hp}:∀(rows:List V)(rs:List Rw),Al (KrAt K H) rows rs->∃ kvs:List (List Aq×V),Al (fun v (kv:List Aq×V)=>∃ a b,v=.ref a/\SqT K H a [.ref b,kv.2]/\H b=some (.tup (kv.1.map kV))) rows kvs /\
  ∀ pl:List Nat,(Ew kvs (Bl pl)=none/\∀ r∈rs,r.1≠pl)\/∃ u r,Ew kvs (Bl pl)=some u/\r∈rs/\r.1=pl/\KdAt K H u r.2.1:=by
 intro rows
 refine Zfv (P:=fun rows=>∀ rs,Al (KrAt K H) rows rs->∃ kvs:List (List Aq×V),Al (fun v (kv:List Aq×V)=>∃ a b,v=.ref a/\SqT K H a [.ref b,kv.2]/\H b=some (.tup (kv.1.map kV))) rows kvs /\
  ∀ pl:List Nat,(Ew kvs (Bl pl)=none/\∀ r∈rs,r.1≠pl)\/∃ u r,Ew kvs (Bl pl)=some u/\r∈rs/\r.1=pl/\KdAt K H u r.2.1) ?_ ?_ rows
 ·intro ws al
  have:ws=[]:=Rg al.1.symm
  subst this
  exact ⟨[],.nil,fun z=>.inl ⟨rfl,fun r hr=>nomatch hr⟩⟩
 ·intro l v ih ws al
  obtain ⟨l',v',ws',x,e1,rfl,al',a,p,u,rfl,q,hp,t⟩:=al.last (by simp)
  obtain ⟨rfl,e2⟩:=List.append_inj' e1 rfl
  cases e2
  obtain ⟨kvs,ak,hk⟩:=ih ws' al'
  refine ⟨kvs++[(Bl x.1,u)],ak.snoc ⟨a,p,rfl,q,by rw [Iq];exact hp⟩,fun pl=>?_⟩
  rw [Zcl]
  by_cases hz:x.1=pl
  ·refine .inr ⟨u,x,?_,by simp,hz,t⟩
   rw [if_pos (by rw [hz])]
  ·rw [if_neg (fun h=>hz (Zci h))]
   rcases hk pl with ⟨h1,h2⟩ | ⟨u',r,h1,h2,h3⟩
   ·refine .inl ⟨h1,fun r hr=>?_⟩
    rcases Qt.mp hr with hr | hr
    ·exact h2 r hr
    ·rw [Pr.mp hr];exact hz
   ·exact .inr ⟨u',r,h1,by simp [h2],h3⟩
noncomputable def Zcu (K:Os):Sp:=fun vs H Q _=>∃(v:V)(t:Tr)(ks:List Kd)(fs:List Bool)(p:Addr)(pl:List Nat),vs=[v,.ref p]/\TrAt K H v t/\B8 t/\t.size<=40/\Hy t ks fs/\SqT K H p (Bg pl)/\H p=some (.tup (Bg pl))/\Sub t pl/\pl.length<=1000/\(∃ r∈Aw t ks fs,r.1=pl)/\(∃ tx,(Cd t pl)[pl.length]?=some tx) /\
 ∀(u:V)(r:Rw)(H':Hp),Same H H'->r∈Aw t ks fs->r.1=pl->KdAt K H' u r.2.1->Q u H'
theorem Zg1:(["row"]:List Str).Nodup:=by decide +kernel
theorem Zec:Bm ["tree", "place", "given"] ["tree", "place"] (Be Jn):=by walk_at "sc"
theorem Zgd {f:Addr}{fd:FuncData}(F:Fun K "kind_at" "kind_at" Jn f fd)(T:Txt K mg)(C_looks:Ba P w K mg base 8 "looks" ["tree"] (Kt K))(C_form_at:Ba P w K mg base 4 "form_at" ["tree", "place"] (Zfr K)):A9 P w K mg base Bd 9 f fd ["tree", "place"] (Zcu K):=by
 refine F.okq Zec (fun vs H Q E h=>?_) (fun cdv A outer s H vs Q E hr h=>?_)
 ·obtain ⟨v,t,ks,fs,p,pl,rfl,_⟩:=h
  rfl
 ·obtain ⟨v,t,ks,fs,pa,pl,rfl,ht,hts,hsz,hlk,hpa,hpe,hsub,hpl,hin,⟨tx,htx⟩,q⟩:=h
  refine ⟨_,Ag (Ar 2 Zec (Fd (Zkk K hr.u200 rfl) (by rfl) T.dict (by decide +kernel) (Aa (F4 (N:=["row"]) (σ0:=Dc 1 []) rfl (Ea rfl (by decide +kernel) (by decide +kernel) (by decide +kernel)) (Db K (As C_looks hr.m (Aa (qv 0) Ab))) (D7 rfl (by rfl)) (fun _ _ _ _=>A6 (i:=0) Zg1 rfl (Or.inl rfl)) (fun _ _ _ _=>Go) (fun _ _ _ _=>Ad (Aa (Ap K (qv 0) Af) (Aa (Ap K (qv 0) Af) Ab)))) Ab)))
   (Ag (Cw (As C_form_at hr.m (Aa (qv 0) (Aa (qv 1) Ab))))
   (Ak (Ax (Jl hr.u1 (qv 2) (qv 1) (fun _ _=>rfl))))),?_⟩
  have bg:=big
  walk_at "r"
  refine ⟨v,t,ks,fs,rfl,ht,hts,hsz,hlk,fun pL rows H1 s1 _ er al=>?_⟩
  have hdl:(Aw t ks fs).length=t.size:=by unfold Aw;rw [Us];exact G1 _ _
  refine .inl ⟨pL,rfl,⟨_,SqL.of er⟩,fun D hD=>?_⟩
  have nD:pL≠D:=A3 er hD
  refine F0 (K:=K) (a:=pL) (xs:=rows) (Pv:=fun i ys σ' H'=>∃ x0,σ'=[x0]/\Al (KrAt K H') ys ((Aw t ks fs).take i)/\Same H1 H') ⟨none,rfl,.nil,Same.upd hD⟩ ?_ ?_ ?_
  ·rintro i ys σ' H' _ ⟨_,_,_,sm⟩
   exact SqL.of (sm _ _ er)
  ·rintro i x ys σ' H' hx hys ⟨x0,rfl,aly,sm⟩
   have hi:=(O2.mp hx).1
   obtain ⟨r,hr0,e,p,g,a,rfl,qe,qp,hg,_⟩:=al.get hx
   have hln:i < t.size:=by rw [<- hdl,<- al.1];exact hi
   walk_at "r"
   refine A2 (sm.tup qe) rfl ?_
   walk_at "r"
   refine A2 (sm.tup qe) rfl ?_
   walk_at "r"
   refine ⟨Az,fun p2 h3=>?_⟩
   have s2:=Same.upd (o:=.tup [.ref p,g]) h3
   have t6:=s2.t.trans (SameT.set (o:=.lst (ys++[.ref p2])) (s2 _ _ hys))
   refine ⟨ys,s2 _ _ hys,by rw [aly.1,Pg];omega,_,Ac,_,rfl,?_,(sm.trans s2).over hD⟩
   rw [Qd,hr0]
   exact (aly.mono (KrAt.same t6)).snoc ⟨p2,p,g,rfl,(SameT.set (s2 _ _ hys)).tup (SqT.of Ac),(t6 p).1 _ (sm _ _ qp),(hg.same sm.t).same t6⟩
  ·rintro ys σ' H' hys ⟨x0,rfl,aly,sm⟩
   rw [al.1,Py] at aly
   walk_at "r"
   obtain ⟨kvs,alk,look⟩:=Znc (K:=K) (H:=H') ys _ aly
   refine ⟨D,ys,rfl,SqL.of hys,.inr ⟨kvs,alk,fun dd hdd=>?_⟩⟩
   obtain ⟨H3,s3,e3,z9⟩:=Hi hdd (.dT (B4 [] kvs))
   rw [z9]
   have sA:Same H H3:=(s1.trans sm).trans s3
   walk_at "r"
   refine ⟨v,t,pa,pl,tx,rfl,ht.same sA,sA.tup hpa,hsub,hpl,htx,fun u0 H4 s4 _=>?_⟩
   walk_at "r"
   rcases look pl with ⟨_,l2⟩ | ⟨u,r,l1,l2,l3,l4⟩
   ·obtain ⟨r,h1,h2⟩:=hin
    exact absurd h2 (l2 r h1)
   ·have g:DGet H4 dd (.ref pa) (Bk (B4 [] kvs) (Bl pl)):=DGet.t (s4 _ _ e3) (by rw [Iq];exact (sA.trans s4) _ _ hpe)
    rw [Zl0,l1] at g
    refine ⟨dd,u,rfl,g,?_⟩
    exact q u r H4 (sA.trans s4) l2 l3 ((l4.same s3.t).same s4.t)
theorem plD {H:Hp}{p:Addr}{pl:List Nat}(h:H p=some (.tup (Bg pl))):IsD K H 1 (.ref p) (.tup ((pl.map fun i=>((i:Nat):Int)).map fun i=>.flat (.int i))):=Zdw (by rw [<- Zaf];exact SqT.of h)
theorem plOk (pl:List Nat)(h:pl.length<=1000):C9 (.tup ((pl.map fun i=>((i:Nat):Int)).map fun i=>.flat (.int i))):=.tup (by simp;omega) fun d hd=>by
 obtain ⟨i,_,rfl⟩:=Sl.mp hd
 exact .flat _
noncomputable def plDt (pl:List Nat):Dt:=.tup ((pl.map fun i=>((i:Nat):Int)).map fun i=>.flat (.int i))
noncomputable def akDt:Option Kd->Dt
 | none=>.flat .non
 | some k=>Hg k
noncomputable def Jg (r:Rw):Dt:=.tup [plDt r.1,Hg r.2.1,akDt r.2.2.1,.flat (.str r.2.2.2)]
noncomputable def mkD (r:Rw):Dt:=.tup [plDt r.1,.flat (.str r.2.2.2)]
theorem LkAt.d {H:Hp}{v:V}{r:Rw}(h:LkAt K H v r)(d1:Et r.2.1<=9)(d2:∀ a,r.2.2.1=some a->Et a<=9):IsD K H 12 v (Jg r):=by
 obtain ⟨e,p,g,a,rfl,q,hp,kg,ka⟩:=h
 refine .tup q rfl fun j v d h h'=>?_
 match j,h,h' with
 | 0,h,h'=>cases h;cases h';exact (plD hp).up (by omega)
 | 1,h,h'=>cases h;cases h';exact kg.d.up (by omega)
 | 2,h,h' =>
  cases h;cases h'
  rcases ka with ⟨e1,rfl⟩ | ⟨k,e1,hk⟩
  ·rw [e1];exact .flat rfl
  ·have:=d2 k e1
   rw [e1]
   exact hk.d.up (by omega)
 | 3,h,h'=>cases h;cases h';exact .flat rfl
theorem MkAt.d {H:Hp}{v:V}{r:Rw}(h:MkAt K H v r):IsD K H 12 v (mkD r):=by
 obtain ⟨e,p,rfl,q,hp⟩:=h
 refine .tup q rfl fun j v d h h'=>?_
 match j,h,h' with
 | 0,h,h'=>cases h;cases h';exact (Zdw (n:=10) (by rw [<- Zaf];exact hp))
 | 1,h,h'=>cases h;cases h';exact .flat rfl
theorem Js:∀ k:Kd,C9 (Hg k)
 | .num=>.tup (by show 1<=5000;decide) fun d h=>by rw [Pr.mp h];exact .flat _
 | .truth=>.tup (by show 1<=5000;decide) fun d h=>by rw [Pr.mp h];exact .flat _
 | .any n=>.tup (by show 2<=5000;decide) fun d h=>by
  rcases O1.mp h with rfl | h
  ·exact .flat _
  ·rw [Pr.mp h];exact .flat _
 | .to x y=>.tup (by show 3<=5000;decide) fun d h=>by
  rcases O1.mp h with rfl | h
  ·exact .flat _
  ·rcases O1.mp h with rfl | h
   ·exact Js x
   ·rw [Pr.mp h];exact Js y
theorem Zjy (r:Rw)(h:r.1.length<=1000):C9 (Jg r):=.tup (by show 4<=5000;decide) fun d hd=>by
 rcases O1.mp hd with rfl | hd
 ·exact plOk _ h
 ·rcases O1.mp hd with rfl | hd
  ·exact Js _
  ·rcases O1.mp hd with rfl | hd
   ·cases r.2.2.1 with
    | none=>exact .flat _
    | some k=>exact Js k
   ·rw [Pr.mp hd];exact .flat _
theorem mkOk (r:Rw)(h:r.1.length<=1000):C9 (mkD r):=.tup (by show 2<=5000;decide) fun d hd=>by
 rcases O1.mp hd with rfl | hd
 ·exact plOk _ h
 ·rw [Pr.mp hd];exact .flat _
theorem Al.lst {α:Type}{R:V->α->Prop}{H:Hp}{a:Addr}{vs:List V}{xs:List α}{g:α->Dt}(h:Al R vs xs)(e:H a=some (.lst vs))(hd:∀ v x,x∈xs->R v x->IsD K H 12 v (g x)):IsD K H 13 (.ref a) (.lst (xs.map g)):=.lst (SqL.of e) (by rw [O0];exact h.1) fun j v d hv hd'=>by
 rw [Pk] at hd'
 cases hx:xs[j]? with
 | none=>rw [hx] at hd';cases hd'
 | some x=>rw [hx] at hd';cases hd';exact hd v x (P4 hx) (h.2 j v x hv hx)
theorem Zc5 {α:Type}{xs:List α}{g:α->Dt}(hl:xs.length<=5000)(h:∀ x∈xs,C9 (g x)):C9 (.lst (xs.map g)):=.lst (by rw [O0];exact hl) fun d hd=>by
 obtain ⟨x,hx,rfl⟩:=Sl.mp hd
 exact h x hx
theorem E3 {rs:List Rw}(h:B3 rs=true):(0 < rs.length/\rs.length<=9)/\∀ r∈rs,Et r.2.1<=9/\(∀ a,r.2.2.1=some a->Et a<=9)/\r.1.length<=9/\∀ r'∈rs,r'.1=r.1->r'.2.1=r.2.1:=by
 unfold B3 at h
 obtain ⟨h1,h2⟩:=(P9 _ _).mp h
 refine ⟨of_decide_eq_true h1,fun r hr=>?_⟩
 have h3:=Q4.mp h2 r hr
 obtain ⟨h4,h5⟩:=(P9 _ _).mp h3
 obtain ⟨h6,h7⟩:=(P9 _ _).mp h4
 obtain ⟨h8,h9⟩:=(P9 _ _).mp h6
 refine ⟨of_decide_eq_true h8,fun a ha=>?_,of_decide_eq_true h7,fun r' hr'=>of_decide_eq_true (Q4.mp h5 r' hr')⟩
 rw [ha] at h9
 exact of_decide_eq_true h9
theorem Zcx {α:Type}{R:V->α->Prop}{vs:List V}{xs:List α}(h:Al R vs xs){j:Nat}(hj:j < vs.length):∃ v x,vs[j]?=some v/\xs[j]?=some x/\R v x:=by
 obtain ⟨v,hv⟩:∃ v,vs[j]?=some v:=⟨_,Ou hj⟩
 obtain ⟨x,hx,a⟩:=h.get hv
 exact ⟨v,x,hv,hx,a⟩
theorem Hf {H:Hp}{d:Addr}{dv:List V}{rs:List Rw}(g:B3 rs=true)(al:Al (LkAt K H) dv rs)(e:H d=some (.lst dv)):IsD K H 13 (.ref d) (.lst (rs.map Jg)):=Al.lst (g:=Jg) al e fun v x hx h=>h.d ((E3 g).2 x hx).1 ((E3 g).2 x hx).2.1
theorem Zat {rs:List Rw}(g:B3 rs=true):C9 (.lst (rs.map Jg)):=Zc5 (by have:=(E3 g).1;omega) fun x hx=>Zjy x (by have:=((E3 g).2 x hx).2.2.1;omega)
theorem Zo6 {rs:List Rw}(g:B3 rs=true):C9 (.lst ((rs.filter mB).map mkD)):=Zc5 (by have:=(E3 g).1;have:=Th mB rs;omega) fun x hx=>mkOk x (by have:=((E3 g).2 x (Tl.mp hx).1).2.2.1;omega)
noncomputable def M6 (a a' od:Str)(z z':Int)(b:Bool):List Cs:=Ku a od z b++K6 a a'++Md a a' z'
noncomputable def Zbk (K:Os):Sp:=fun vs H Q _=>∃(a:Addr)(ns:List Int),vs=[.ref a]/\SqL K H a (ns.map V.int)/\ns.length<=63/\∀ H',Q (.bl true) H'
theorem Zlb:(["_law_row"]:List Str).Nodup:=by decide +kernel
theorem sc_law:Bm ["_law_script", "_law_names_here", "_law_cases", "_law_first", "_law_k", "_law_tree", "_law_due", "_law_row"] ["_law_script"] (Be Ka):=by walk_at "sc"
theorem Zig {f:Addr}{fd:FuncData}(F:Fun K "law" "law" Ka f fd)(T:Txt K mg)(C__law_cell_at:Ba P w K mg base 1 "_law_cell_at" ["_law_script", "_law_k"] (Ln K))(C__law_names:Ba P w K mg base 1 "_law_names" ["_law_cell", "_law_at"] Zfk)
  (C__law_lone:Ba P w K mg base 2 "_law_lone" ["_law_script", "_law_names_here"] (Zcg K)) (C__law_wide:Ba P w K mg base 2 "_law_wide" ["_law_names_here"] (Zbm K)) (C__law_used:Ba P w K mg base 2 "_law_used" ["_law_script", "_law_names_here"] (Zdt K))
  (C_looks:Ba P w K mg base 8 "looks" ["tree"] (Kt K)) (C_marks:Ba P w K mg base 9 "marks" ["tree"] (Zfg K)) (C_kind_at:Ba P w K mg base 9 "kind_at" ["tree", "place"] (Zcu K)) (C__law_same:Ba P w K mg base 21 "_law_same" ["_law_found", "_law_due"] (F5 K 20)):A9 P w K mg base Bd 22 f fd ["_law_script"] (Zbk K):=by
 refine F.okq sc_law (fun vs H Q E h=>?_) (fun cdv A outer s H vs Q E hr h=>?_)
 ·obtain ⟨a,ns,rfl,_⟩:=h
  rfl
 ·obtain ⟨sc,ns,rfl,hS,hl,q⟩:=h
  have S:Script K H sc:=⟨ns,hS,hl⟩
  refine ⟨_,Ag (Ar 1 sc_law (As C__law_names hr.m (Aa (As C__law_cell_at hr.m (Aa (qv 0) (Aa Af Ab))) (Aa (As C__law_cell_at hr.m (Aa (qv 0) (Aa Af Ab))) Ab))))
   (Ag (Ar 2 sc_law (Bs (Dq K) (Bs (Dq K) (As C__law_lone hr.m (Aa (qv 0) (Aa (qv 1) Ab))) (As C__law_wide hr.m (Aa (qv 1) Ab))) (As C__law_used hr.m (Aa (qv 0) (Aa (qv 1) Ab)))))
   (Ag (Ar 3 sc_law (As C_looks hr.m (Aa (Ap K (Ap K (qv 2) Af) Af) Ab)))
   (Ag (Cu Pi rfl (Hw rfl T.range (Aa (Ca (Em K) (by rfl) T.len (by decide +kernel) (Aa (qv 2) Ab)) Ab)) (A6 (i:=4) sc_law.nd rfl (Or.inl rfl)) (Ag (Ia (Ap K (qv 2) (qv 4)) (Da K (n:=2) rfl (Bx (A6 (i:=5) sc_law.nd rfl (Or.inl rfl)) (Bx (A6 (i:=6) sc_law.nd rfl (Or.inl rfl)) (C7)))))
   (Ag (Bf (E4 (Du (As C__law_same hr.m (Aa (As C_looks hr.m (Aa (qv 5) Ab)) (Aa (qv 6) Ab))))) (Ak (Ax C6)) Bj)
   (Ag (Bf (E4 (Du (As C__law_same hr.m (Aa (As C_marks hr.m (Aa (qv 5) Ab)) (Aa (F4 (N:=["_law_row"]) (σ0:=Dc 1 []) rfl (Ea rfl (by decide +kernel) (by decide +kernel) (by decide +kernel)) (Db K (qv 6)) (D7 rfl (by rfl)) (fun _ _ _ _=>A6 (i:=0) Zlb rfl (Or.inl rfl)) (fun _ _ _ _=>Zan (Bv (M8 K hr.u200) (Ap K (qv 0) Af) Ah (Br _))) (fun _ _ _ _=>Ad (Aa (Ap K (qv 0) Af) (Aa (Ap K (qv 0) Af) Ab)))) Ab))))) (Ak (Ax C6)) Bj)
   (Ag (Ar 7 sc_law (Ap K (qv 6) (Bs Ed (Bs (Dq K) (As C__law_cell_at hr.m (Aa (qv 0) (Aa Af Ab))) (qv 4)) (Ca (Em K) (by rfl) T.len (by decide +kernel) (Aa (qv 6) Ab)))))
   (Ak (Bf (E4 (Du (As C__law_same hr.m (Aa (As C_kind_at hr.m (Aa (qv 5) (Aa (Ap K (qv 7) Af) Ab))) (Aa (Ap K (qv 7) Af) Ab))))) (Ak (Ax C6)) Bj)))))))
   (Ak (Ax (Fy (As C__law_same hr.m (Aa (As C_looks hr.m (Aa (Ap K (Ap K (qv 2) Af) Af) Ab)) (Aa (Ap K (Ap K (qv 2) Af) Af) Ab))) (Hl (As C__law_same hr.m (Aa (qv 3) (Aa (Ap K (Ap K (qv 2) Af) Af) Ab)))))))))),?_⟩
  have bg:=big
  walk_at "r"
  refine ⟨sc,0,rfl,S,by decide,fun z0=>?_⟩
  walk_at "r"
  refine ⟨sc,1,rfl,S,by decide,fun z1=>?_⟩
  walk_at "r"
  refine ⟨z0,z1,rfl,fun pn a a' a2 a3 H1 s1 _ hne la la' e1=>?_⟩
  walk_at "r"
  refine ⟨sc,pn,a,a',a2,a3,rfl,S.same s1,SqL.of e1,la,la',fun od z b l1 c1 H2 s2 e2 al1=>?_⟩
  walk_at "r"
  refine ⟨pn,a,a',a2,a3,rfl,SqL.of (s2 _ _ e1),fun l2 c2 H3 s3 e3 al2=>?_⟩
  walk_at "r"
  have b1:c1.length=8:=al1.1
  have b2:c2.length=5:=al2.1
  refine Na (s3 _ _ e2) e3 (by omega) fun l3 h3=>?_
  have s4:=Same.upd (o:=.lst (c1++c2)) h3
  have e4:upd H3 l3 (.lst (c1++c2)) l3=some (.lst (c1++c2)):=Ac
  revert s4 e4
  generalize upd H3 l3 (.lst (c1++c2))=H4
  intro s4 e4
  walk_at "r"
  refine ⟨sc,pn,a,a',a2,a3,rfl,S.same (s1.trans (s2.trans (s3.trans s4))),SqL.of ((s2.trans (s3.trans s4)) _ _ e1),fun z' l4 c3 H5 s5 e5 al3=>?_⟩
  have b3:c3.length=6:=al3.1
  walk_at "r"
  refine Na (s5 _ _ e4) e5 (by rw [O4];omega) fun l5 h5=>?_
  have s6:=Same.upd (o:=.lst (c1++c2++c3)) h5
  have e6:upd H5 l5 (.lst (c1++c2++c3)) l5=some (.lst (c1++c2++c3)):=Ac
  revert s6 e6
  generalize upd H5 l5 (.lst (c1++c2++c3))=H6
  intro s6 e6
  have S6:Script K H6 sc:=S.same (s1.trans (s2.trans (s3.trans (s4.trans (s5.trans s6)))))
  have al:Al (CsAt K H6) (c1++c2++c3) (M6 a a' od z z' b):=((al1.mono fun _ _ h=>h.same (s3.trans (s4.trans (s5.trans s6)))).append (al2.mono fun _ _ h=>h.same (s4.trans (s5.trans s6)))).append (al3.mono fun _ _ h=>h.same s6)
  have hc:∀ c∈M6 a a' od z z' b,B5 c:=by
   intro c h
   rcases Qt.mp h with h | h
   ·rcases Qt.mp h with h | h
    ·exact Zpz _ _ _ _ _ h
    ·exact Zmr _ _ _ h
   ·exact Zho _ _ _ hne _ h
  have bl:(c1++c2++c3).length=19:=by simp;omega
  revert al hc bl e6
  generalize c1++c2++c3=cs
  generalize M6 a a' od z z' b=cl
  intro e6 al hc bl
  obtain ⟨v0,x0,hv0,hx0,k0⟩:=Zcx al (j:=0) (by omega)
  obtain ⟨p0,d0,t0,dv0,rfl,q0,tr0,ed0,al0⟩:=k0
  obtain ⟨ks0,fs0,run0,rows0,sh0,A4,gd0⟩:=hc x0 (P4 hx0)
  have g0:=E3 gd0
  walk_at "r"
  refine A1 (SqL.of e6) (Bp (j:=0) hv0) ?_
  walk_at "r"
  refine A2 q0 (Bp (j:=0) rfl) ?_
  walk_at "r"
  refine ⟨t0,x0.1,ks0,fs0,rfl,tr0,sh0,A4,run0,fun pL rows H7 s7 _ er7 alr7=>?_⟩
  rw [rows0] at alr7
  walk_at "r"
  refine E9 (SqL.of (s7 _ _ e6)) ?_
  walk_at "r"
  refine ⟨by omega,by omega,?_⟩
  refine Ja (fun i σ' H'=>∃ v4 v5 v6 v7,σ'=[some (.ref sc),some (.ref pn),some (.ref l5),some (.ref pL),v4,v5,v6,v7]/\Same H7 H') ⟨_,_,_,_,rfl,Same.refl _⟩ ?_ ?_
  ·rintro i σ' HA hi ⟨v4,v5,v6,v7,rfl,sA⟩
   have s6A:=s7.trans sA
   obtain ⟨v1,x1,hv1,hx1,k1⟩:=Zcx al (j:=i) (by omega)
   obtain ⟨p1,d1,t1,dv1,rfl,q1,tr1,ed1,ald1⟩:=k1.same s6A
   obtain ⟨ks1,fs1,run1,rows1,sh1,A0,gd1⟩:=hc x1 (P4 hx1)
   have g1:=E3 gd1
   walk_at "r"
   rw [show (0:Int)+(i:Int)=((i:Nat):Int) by omega]
   refine A1 (SqL.of (s6A _ _ e6)) (Bp (j:=i) hv1) ?_
   walk_at "r"
   refine C3 q1 rfl ?_
   walk_at "r"
   refine ⟨t1,x1.1,ks1,fs1,rfl,tr1,sh1,A0,run1,fun pB rB HB sB _ erB alB=>?_⟩
   rw [rows1] at alB
   walk_at "r"
   refine ⟨.ref pB,.ref d1,_,13,rfl,by decide,Hf gd1 alB erB,Hf gd1 (ald1.mono (LkAt.same sB.t)) (sB _ _ ed1),Zat gd1,fun HC sC=>?_⟩
   have sBC:=sB.trans sC
   have tr1C:=tr1.same sBC
   have ed1C:=sBC _ _ ed1
   have aldC:=ald1.mono (LkAt.same sBC.t)
   walk_at "r"
   refine ⟨t1,x1.1,ks1,fs1,rfl,tr1C,sh1,A0,run1,fun pm mv HD sD hpm em alm=>?_⟩
   rw [rows1] at alm
   have ed1D:=sD _ _ ed1C
   have aldD:=aldC.mono (LkAt.same sD.t)
   have hlD:dv1.length<=9:=by rw [ald1.1];exact g1.1.2
   walk_at "r"
   refine .inl ⟨d1,rfl,⟨_,SqL.of ed1D⟩,fun D hD=>?_⟩
   refine F0 (K:=K) (a:=d1) (xs:=dv1) (Pv:=fun i ys σ' H'=>∃ y0,σ'=[y0]/\Al (MkAt K H') ys ((x1.2.take i).filter mB)/\Same HD H') ⟨none,rfl,.nil,Same.upd hD⟩ ?_ ?_ ?_
   ·rintro j ys σ' H' _ ⟨_,_,_,sm⟩
    exact SqL.of (sm _ _ ed1D)
   ·rintro j x ys σ' H' hx hys ⟨y0,rfl,aly,sm⟩
    obtain ⟨r2,hr2,e2,p2,g2,a2,rfl,qe2,qp2,_,_⟩:=aldD.get hx
    have fs':=Zem hr2
    walk_at "r"
    refine A2 (sm.tup qe2) (v:=.str r2.2.2.2) rfl ?_
    walk_at "r"
    have hyl:ys.length<=9:=by
     have h9:=Th mB (x1.2.take j)
     have h8:=(O2.mp hx).1
     rw [Pg] at h9
     rw [aly.1]
     omega
    by_cases hm:r2.2.2.2 = ""
    ·have hb:mB r2=false:=by unfold mB;rw [hm];decide
     rw [hb,if_neg (by decide),Qa] at fs'
     rw [decide_eq_true (show V.str r2.2.2.2=V.str "" by rw [hm])]
     refine iteF ?_
     exact ⟨ys,hys,_,rfl,by rw [fs'];exact aly,sm⟩
    ·have hb:mB r2=true:=by unfold mB;exact decide_eq_true hm
     rw [hb,if_pos rfl] at fs'
     rw [decide_eq_false (show ¬ (V.str r2.2.2.2=V.str "") from fun z=>hm (V.str.inj z))]
     refine iteT ?_
     walk_at "r"
     refine A2 (sm.tup qe2) (v:=.ref p2) rfl ?_
     walk_at "r"
     refine A2 (sm.tup qe2) (v:=.str r2.2.2.2) rfl ?_
     walk_at "r"
     refine ⟨Az,fun p3 h3=>?_⟩
     have s2:=Same.upd (o:=.tup [.ref p2,.str r2.2.2.2]) h3
     have t6:=s2.t.trans (SameT.set (o:=.lst (ys++[.ref p3])) (s2 _ _ hys))
     refine ⟨ys,s2 _ _ hys,by omega,_,Ac,_,rfl,?_,(sm.trans s2).over hD⟩
     rw [fs']
     exact (aly.mono (MkAt.same t6)).snoc ⟨p3,p2,rfl,(SameT.set (s2 _ _ hys)).tup (SqT.of Ac),t6.tup (SqT.of (sm _ _ qp2))⟩
   rintro ys σ' HE hys ⟨y0,rfl,aly,sE⟩
   rw [Qx (by rw [ald1.1];omega)] at aly
   walk_at "r"
   refine ⟨.ref pm,.ref D,_,13,rfl,by decide,Al.lst (g:=mkD) (alm.mono (MkAt.same sE.t)) (sE _ _ em) (fun v x _ h=>h.d),Al.lst (g:=mkD) aly hys (fun v x _ h=>h.d),Zo6 gd1,fun HF sF=>?_⟩
   have sCF:=sD.trans (sE.trans sF)
   have tr1F:=tr1C.same sCF
   have ed1F:=sCF _ _ ed1C
   have aldF:=aldC.mono (LkAt.same sCF.t)
   have S1F:Script K HF sc:=S6.same (s6A.trans (sBC.trans sCF))
   walk_at "r"
   refine ⟨sc,6,rfl,S1F,by decide,fun z6=>?_⟩
   walk_at "r"
   refine E9 (SqL.of ed1F) ?_
   have hpos:(0:Int) < dv1.length:=by rw [ald1.1];have:=g1.1.1;omega
   walk_at "r"
   refine s_rI hpos ?_
   obtain ⟨v,hv,hmv⟩:=Gr (xs:=dv1) (i:=(z6+(i:Int)) % (dv1.length:Int)) (Qu _ (by omega)) (Qq _ hpos)
   obtain ⟨jj,hjj⟩:=List.getElem?_of_mem hmv
   obtain ⟨r3,hr3,e3,p3,g3,a3,rfl,qe3,qp3,kg3,_⟩:=aldF.get hjj
   have hr3m:=P4 hr3
   have hsub:Sub x1.1 r3.1:=by
    rw [<- rows1] at hr3m
    unfold Aw at hr3m
    obtain ⟨m,hm,rfl⟩:=List.mem_mapIdx.mp hr3m
    exact M0 x1.1 _ (Sa hm)
   walk_at "r"
   refine A1 (SqL.of ed1F) hv ?_
   walk_at "r"
   refine A2 qe3 (v:=.ref p3) rfl ?_
   walk_at "r"
   refine ⟨t1,x1.1,ks1,fs1,p3,r3.1,rfl,tr1F,sh1,A0,run1,SqT.of qp3,qp3,hsub,by have:=(g1.2 r3 hr3m).2.2.1;omega,⟨r3,by rw [rows1];exact hr3m,rfl⟩,⟨_,Ou (by rw [Kb hsub];omega)⟩,fun u r4 HG sG hr4 er4 ku=>?_⟩
   rw [rows1] at hr4
   have ek:=(g1.2 r3 hr3m).2.2.2 r4 hr4 er4
   rw [ek] at ku
   have dk:=(g1.2 r3 hr3m).1
   walk_at "r"
   refine A2 (sG.tup qe3) (v:=g3) rfl ?_
   walk_at "r"
   refine ⟨u,g3,_,10,rfl,by decide,ku.d.up (by omega),(kg3.same sG.t).d.up (by omega),Js _,fun HI sI=>?_⟩
   walk_at "r"
   exact ⟨_,_,_,_,rfl,sA.trans (sBC.trans (sCF.trans (sG.trans sI)))⟩
  ·rintro σ' HA ⟨v4,v5,v6,v7,rfl,sA⟩
   have s6A:=s7.trans sA
   have tr0A:=tr0.same s6A
   have e6A:=s6A _ _ e6
   walk_at "r"
   refine A1 (SqL.of e6A) (Bp (j:=0) hv0) ?_
   walk_at "r"
   refine A2 (s6A.tup q0) (Bp (j:=0) rfl) ?_
   walk_at "r"
   refine ⟨t0,x0.1,ks0,fs0,rfl,tr0A,sh0,A4,run0,fun pB rB HB sB _ erB alB=>?_⟩
   rw [rows0] at alB
   have s6B:=s6A.trans sB
   walk_at "r"
   refine A1 (SqL.of (s6B _ _ e6)) (Bp (j:=0) hv0) ?_
   walk_at "r"
   refine A2 (s6B.tup q0) (Bp (j:=1) rfl) ?_
   walk_at "r"
   refine ⟨.ref pB,.ref d0,_,13,rfl,by decide,Hf gd0 alB erB,Hf gd0 (al0.mono (LkAt.same s6B.t)) (s6B _ _ ed0),Zat gd0,fun HC sC=>?_⟩
   have s6C:=s6B.trans sC
   have s7C:=sA.trans (sB.trans sC)
   walk_at "r"
   refine A1 (SqL.of (s6C _ _ e6)) (Bp (j:=0) hv0) ?_
   walk_at "r"
   refine A2 (s6C.tup q0) (Bp (j:=1) rfl) ?_
   walk_at "r"
   refine ⟨.ref pL,.ref d0,_,13,rfl,by decide,Hf gd0 (alr7.mono (LkAt.same s7C.t)) (s7C _ _ er7),Hf gd0 (al0.mono (LkAt.same s6C.t)) (s6C _ _ ed0),Zat gd0,fun HD sD=>?_⟩
   walk_at "r"
   exact q _
theorem Zik:Bm ["shapes", "shape"] ["shapes", "shape"] (Be Je):=by walk_at "sc"
theorem Zi1 {f:Addr}{fd:FuncData}(F:Fun K "new_kind" "new_kind" Je f fd)(T:Txt K mg):A9 P w K mg base Bd 1 f fd ["shapes", "shape"] Zbf:=by
 refine F.okq Zik (fun vs H Q E h=>?_) (fun cdv A outer s H vs Q E hr h=>?_)
 ·obtain ⟨a,x,us,rfl,_⟩:=h
  rfl
 ·obtain ⟨a,x,us,rfl,ha,hl,q⟩:=h
  refine ⟨_,Ag (Cw (Dk K Pl P7 P8 Dl (qv 0) (Aa (qv 1) Ab)))
   (Ak (Ax (Bs Zph (Ca (Em K) (by rfl) T.len (by decide +kernel) (Aa (qv 0) Ab)) Af))),?_⟩
  have bg:=big
  walk_at "r"
  refine Ci (SqL.of ha) ?_
  walk_at "r"
  refine Df ha (by omega) ?_
  walk_at "r"
  refine E9 (SqL.of Ac) ?_
  walk_at "r"
  rw [O4,Pt,show ((us.length+1:Nat):Int) - 1=(us.length:Nat) by omega]
  exact q
end
local macro_rules | `(tactic| walk_at "zA")=>`(tactic| exact (let +zeta a:=_; let +zeta b:=_; let +zeta c:=_; have +usedOnly q:(‹Stmt›:Stmt)=.Assign a b c:=rfl; .Assign a b c))
local macro_rules | `(tactic| walk_at "zC")=>`(tactic| exact (let +zeta a:=_; let +zeta b:=_; let +zeta c:=_; let +zeta d:=_; let +zeta e:=_; let +zeta f:=_; let +zeta g:=_; let +zeta h:=_; let +zeta i:=_; let +zeta j:=_; let +zeta k:=_; have +usedOnly q:(‹Stmt›:Stmt)=.ClassDef a b c d e f g h i j k:=rfl; .ClassDef a b c d e f g h i j k))
local macro_rules | `(tactic| walk_at "zF")=>`(tactic| exact (let +zeta a:=_; let +zeta b:=_; let +zeta c:=_; let +zeta d:=_; let +zeta e:=_; let +zeta f:=_; let +zeta g:=_; let +zeta h:=_; let +zeta i:=_; let +zeta j:=_; have +usedOnly q:(‹Stmt›:Stmt)=.FunctionDef a b c d e f g h i j:=rfl; .FunctionDef a b c d e f g h i j))
noncomputable def w0:Stmt:=by let +zeta s:=Ae 0;walk_at "zA"
noncomputable def w1:Stmt:=by let +zeta s:=Ae 1;walk_at "zC"
noncomputable def w2:Stmt:=by let +zeta s:=Ae 2;walk_at "zC"
noncomputable def w3:Stmt:=by let +zeta s:=Ae 3;walk_at "zC"
noncomputable def w4:Stmt:=by let +zeta s:=Ae 4;walk_at "zA"
noncomputable def w5:Stmt:=by let +zeta s:=Ae 5;walk_at "zF"
noncomputable def w6:Stmt:=by let +zeta s:=Ae 6;walk_at "zA"
noncomputable def w7:Stmt:=by let +zeta s:=Ae 7;walk_at "zF"
noncomputable def w8:Stmt:=by let +zeta s:=Ae 8;walk_at "zF"
noncomputable def w9:Stmt:=by let +zeta s:=Ae 9;walk_at "zF"
noncomputable def Dg:Stmt:=by let +zeta s:=Ae 10;walk_at "zF"
noncomputable def Ec:Stmt:=by let +zeta s:=Ae 11;walk_at "zA"
noncomputable def Fz:Stmt:=by let +zeta s:=Ae 12;walk_at "zF"
noncomputable def w13:Stmt:=by let +zeta s:=Ae 13;walk_at "zF"
noncomputable def w14:Stmt:=by let +zeta s:=Ae 14;walk_at "zF"
noncomputable def w15:Stmt:=by let +zeta s:=Ae 15;walk_at "zF"
noncomputable def w16:Stmt:=by let +zeta s:=Ae 16;walk_at "zA"
noncomputable def w17:Stmt:=by let +zeta s:=Ae 17;walk_at "zA"
noncomputable def w18:Stmt:=by let +zeta s:=Ae 18;walk_at "zA"
noncomputable def w19:Stmt:=by let +zeta s:=Ae 19;walk_at "zA"
noncomputable def w20:Stmt:=by let +zeta s:=Ae 20;walk_at "zF"
noncomputable def w21:Stmt:=by let +zeta s:=Ae 21;walk_at "zF"
noncomputable def w22:Stmt:=by let +zeta s:=Ae 22;walk_at "zF"
noncomputable def w23:Stmt:=by let +zeta s:=Ae 23;walk_at "zF"
noncomputable def w24:Stmt:=by let +zeta s:=Ae 24;walk_at "zF"
noncomputable def w25:Stmt:=by let +zeta s:=Ae 25;walk_at "zF"
noncomputable def w26:Stmt:=by let +zeta s:=Ae 26;walk_at "zF"
noncomputable def w27:Stmt:=by let +zeta s:=Ae 27;walk_at "zF"
noncomputable def w28:Stmt:=by let +zeta s:=Ae 28;walk_at "zF"
noncomputable def w29:Stmt:=by let +zeta s:=Ae 29;walk_at "zA"
noncomputable def w30:Stmt:=by let +zeta s:=Ae 30;walk_at "zA"
noncomputable def w31:Stmt:=by let +zeta s:=Ae 31;walk_at "zF"
noncomputable def w32:Stmt:=by let +zeta s:=Ae 32;walk_at "zF"
noncomputable def w33:Stmt:=by let +zeta s:=Ae 33;walk_at "zF"
noncomputable def w34:Stmt:=by let +zeta s:=Ae 34;walk_at "zF"
noncomputable def w35:Stmt:=by let +zeta s:=Ae 35;walk_at "zA"
noncomputable def w36:Stmt:=by let +zeta s:=Ae 36;walk_at "zF"
noncomputable def w37:Stmt:=by let +zeta s:=Ae 37;walk_at "zF"
noncomputable def w38:Stmt:=by let +zeta s:=Ae 38;walk_at "zF"
noncomputable def w39:Stmt:=by let +zeta s:=Ae 39;walk_at "zF"
noncomputable def w40:Stmt:=by let +zeta s:=Ae 40;walk_at "zF"
noncomputable def w41:Stmt:=by let +zeta s:=Ae 41;walk_at "zF"
noncomputable def w42:Stmt:=by let +zeta s:=Ae 42;walk_at "zF"
noncomputable def w43:Stmt:=by let +zeta s:=Ae 43;walk_at "zF"
noncomputable def PWc:Program:=let +zeta a:=_;let +zeta b:=_;let +zeta c:=_;let +zeta d:=_;let +zeta e:=_;let +zeta f:=_;let +zeta g:=_;let +zeta h:=_;let +zeta i:=_;let +zeta j:=_;have +usedOnly q:Re=⟨⟨a,b,c,d,e⟩,f,g,h,i,j⟩:=rfl;⟨⟨[w0,w1,w2,w3,w4,w5,w6,w7,w8,w9,Dg,Ec,Fz,w13,w14,w15,w16,w17,w18,w19,w20,w21,w22,w23,w24,w25,w26,w27,w28,w29,w30,w31,w32,w33,w34,w35,w36,w37,w38,w39,w40,w41,w42,w43],b,c,d,e⟩,f,g,h,i,j⟩
theorem e_PW:PWc=PWc:=rfl
name_quick x_PW for K30.PWc by K30.e_PW
end K30
noncomputable def PySem.W.Fast.tw14190627497983319077:PySem.Program:=PySem.W.Fast.tw3944852889386771764
theorem PySem.W.Fast.te14190627497983319077:Re=PySem.W.Fast.tw14190627497983319077:=(rfl:Re=K30.PWc).trans PySem.W.Fast.te3944852889386771764
namespace K30
open PySem L2
noncomputable def VWc:Program:={ Re with main:={ Re.main with body:=[w1,w2,w3,w5,w7,w8,w9,Dg,Fz,w13,w14,w15,w17,w18,w19,w20,w21,w22,w23,w24,w25,w26,w27,w28,w30,w31,w32,w33,w34,w36,w37,w38,w39,w40,w41,w42,w43] } }
noncomputable def S0:List Stmt:=[w25,w26,w27,w28,w29,w30,w31,w32,w33,w34,w35,w36,w37,w38,w39]
noncomputable def S1:List Stmt:=[w40,w41,w42,w43]
noncomputable def S2:List Stmt:=[w0,w1]
noncomputable def S3:List Stmt:=[w3,w4,w5,w6,w7,w8,w9]
noncomputable def S4:List Stmt:=[Dg,Ec,Fz,w13,w14,w15,w16,w17,w18,w19,w20,w21,w22,w23,w24]
noncomputable def S5:List Stmt:=[w2]
noncomputable def SB:Program×List (List Stmt):=(VWc,[S0,S1,S2,S3,S4,S5])
theorem e_SB:SB=SB:=rfl
name_quick x_SB for K30.SB by K30.e_SB
end K30
noncomputable def PySem.W.Fast.tw1651651323488376648:PySem.Program:=PySem.W.Fast.tw16399760931299598570
theorem PySem.W.Fast.te1651651323488376648:K30.VWc=PySem.W.Fast.tw1651651323488376648:=PySem.W.Fast.te16399760931299598570
noncomputable def PySem.W.Fast.tw12314827275472484865:List Ry:=PySem.W.Fast.tw7494567111071131870
theorem PySem.W.Fast.te12314827275472484865:K30.S0=PySem.W.Fast.tw12314827275472484865:=PySem.W.Fast.te7494567111071131870
noncomputable def PySem.W.Fast.tw13928862551665122217:List Ry:=PySem.W.Fast.tw4044220663831338755
theorem PySem.W.Fast.te13928862551665122217:K30.S1=PySem.W.Fast.tw13928862551665122217:=PySem.W.Fast.te4044220663831338755
noncomputable def PySem.W.Fast.tw2843545880907007564:List Ry:=PySem.W.Fast.tw5158725719197722196
theorem PySem.W.Fast.te2843545880907007564:K30.S2=PySem.W.Fast.tw2843545880907007564:=PySem.W.Fast.te5158725719197722196
noncomputable def PySem.W.Fast.tw3832456992142687630:List Ry:=PySem.W.Fast.tw3334634482186767258
theorem PySem.W.Fast.te3832456992142687630:K30.S3=PySem.W.Fast.tw3832456992142687630:=PySem.W.Fast.te3334634482186767258
noncomputable def PySem.W.Fast.tw9311946295765383195:List Ry:=PySem.W.Fast.tw15816193780530582959
theorem PySem.W.Fast.te9311946295765383195:K30.S4=PySem.W.Fast.tw9311946295765383195:=PySem.W.Fast.te15816193780530582959
noncomputable def PySem.W.Fast.tw1639548483047862941:List Ry:=PySem.W.Fast.tw6757018742201319447
theorem PySem.W.Fast.te1639548483047862941:K30.S5=PySem.W.Fast.tw1639548483047862941:=PySem.W.Fast.te6757018742201319447
namespace K30
open PySem L2 PySem.W
noncomputable def zs (i j:Nat):Stmt:=match Ae i with | .ClassDef _ _ _ b _ _ _ _ _ _ _=>b.getD j (.Pass ⟨0,0,0,0⟩) | s=>s
noncomputable def ze (P:Params)(s:Str)(t:Tok)(v:Value):DictEntry:=⟨PyData.keyHash P s,.str s t,v⟩
noncomputable abbrev B:=Rc
noncomputable def evb (l:List Obj):Bool->List Obj:=@List.rec Obj (fun _=>Bool->List Obj) (fun _=>[]) (fun a _ ih b=>@Bool.rec (fun _=>List Obj) (ih true) (a::ih false) b) l
noncomputable def tO (l:List Obj):B:=@Nat.rec (fun _=>List Obj->B) (fun _=>.nil) (fun _ ih l=>@List.rec Obj (fun _=>B) .nil (fun x r _=>.node x (ih (evb r true)) (ih (evb r false))) l) 12 l
noncomputable def zv:List (Str×Tok)->List Value
 | []=>[]
 | (a,b)::t=>.str a b::zv t
noncomputable def zu (l:List (Str×Tok)):Obj:=⟨.type "tuple",none,.seq ⟨zv l⟩,#[]⟩
noncomputable def zt (c:String)(d:Data):Obj:=⟨.type c,none,d,#[]⟩
noncomputable def zf (n q:Str)(s:Stmt)(m:Str)(t:Tok)(c:Addr):Obj:=⟨.type "function",none,.func (Qv n q (Fn s) (Ey s) (Be s) .none .none .none (.str m t) none (.ref c) .none),#[]⟩
noncomputable def zh (n q:Str)(s:Stmt):Obj:=⟨.none,none,.func ⟨n,q,Fn s,.stmts (Ey s),Be s,0,[],.none,.none,.none,.none,none,.none,.none,0⟩,#[]⟩
noncomputable def zk (n q:Str)(t:Tok)(l a g:Int)(r:Addr)(b:Bool)(x:Value)(u:Int)(v:Tok):Obj:=⟨.type "code",none,.fields #[.str n t,.str q (t+1),.str "/claim/cut.py" (t+2),.int l 0,.int a 0,.int 0 0,.int 0 0,.int g 0,.ref r,.bool b,.int 181 0,.ref (r+1),.none,.none,.none,x,.int u 0,.int l 0,.str "/claim/cut.py" v],#[]⟩
noncomputable def zw:List (Int×Int×Addr)->List Value
 | []=>[]
 | (a,b,c)::t=>.int a 0::.int b 0::.ref c::zw t
noncomputable def zy (l:List (Int×Int×Addr)):Obj:=⟨.none,none,.fields ⟨zw l⟩,#[]⟩
noncomputable def zc (n q:Str)(t:Tok)(l a g:Int)(r:Addr)(u:Int)(v:Tok):Obj:=⟨.type "code",none,.fields #[.str n t,.str q (t+1),.str "/claim/cut.py" (t+2),.int l 0,.int a 0,.int 0 0,.int 0 0,.int g 0,.ref r,.bool true,.int 181 0,.ref (r+1),.none,.ref (r+2),.ref (r+3),.ref (r+4),.int u 0,.int l 0,.str "/claim/cut.py" v],#[]⟩
noncomputable def zb (n:Str):=zc n n
noncomputable def zi (n:Str):=zf n n
noncomputable def zj (n:Str):=zh n n
noncomputable section
def d0 (P:Params):=[ze P "__name__" 165 (.str "gapscribe.errors" 187),ze P "__doc__" 166 .none,ze P "__package__" 167 .none,ze P "__loader__" 168 (.builtin "__main__.__loader__#opaque"),ze P "__spec__" 169 .none,ze P "__annotations__" 170 (.ref 6),ze P "__builtins__" 171 (.ref 4),ze P "__file__" 173 (.str "/claim/cut.py" 172),ze P "__cached__" 174 .none,ze P "GapError" 206 (.ref 24),ze P "TooBig" 222 (.ref 37)]
def z0 (P:Params):=zt "dict" (.dict ⟨d0 P⟩ 11)
def z1:=zt "tuple" (.seq #[])
noncomputable def y0:List (Int×Int×Addr):=[(2,0,20),(4,0,33)]
def z2:=zy y0
def z3:=zk "<module>" "<module>" 182 1 0 0 11 false .none 185 186
noncomputable def zq0 (x0:Nat)(x1:Nat)(x2:Str)(x3:Nat):Obj:=Obj.mk (.type "frame") none Data.plain #[some (.ref x0),some (.ref 3),some (.ref x1),none,some (.str x2 x3),none,some (.ref 0)]
def z4:=zq0 13 3 "__main__" 164
def z5:=zt "tuple" (.seq #[.type "ValueError"])
def h0_0 (P:Params)(t:List Obj):=(boot_o_0 P)::(boot_o_1 P)::(boot_o_2 P)::(z0 P)::(boot_o_4 P)::(boot_o_5 P)::(boot_o_6 P)::(boot_o_7 P)::(boot_o_8 P)::(boot_o_9 P)::(boot_o_10 P)::z1::z2::z3::z4::z5::t
def z6:=zt "builtin_function_or_method" (.fields #[.builtin "type.__prepare__",.type "type"])
def z7 (P:Params):=zt "dict" (.dict #[ze P "__module__" 196 (.str "gapscribe.errors" 187),ze P "__qualname__" 198 (.str "GapError" 197),ze P "__firstlineno__" 200 (.int 2 199),ze P "__static_attributes__" 201 (.ref 22)] 4)
noncomputable def z8:=Obj.mk .none none (.fields #[]) #[]
def z9:=zk "GapError" "GapError" 191 2 0 0 18 false .none 194 195
def z10:=zq0 20 17 "gapscribe.errors" 187
def z11 (P:Params):=zt "dict" (.dict #[ze P "__module__" 196 (.str "gapscribe.errors" 187),ze P "__firstlineno__" 200 (.int 2 199),ze P "__static_attributes__" 201 (.ref 22),ze P "__weakref__" 203 (.ref 25),ze P "__doc__" 204 .none] 3)
noncomputable def z12:=Obj.mk (.type "type") none (.cls (ClassData.mk "GapError" [.type "ValueError"] [.ref 24,.type "ValueError",.type "Exception",.type "BaseException",.type "object"] 23 "GapError" true [] [.ref 37] false none false)) #[some (.ref 15),none,some (.str "GapError" 189),some (.str "GapError" 197),some (.builtin "ValueError.__new__"),some (.bool true)]
def z13:=zt "getset_descriptor" (.fields #[.str "__weakref__" 202,.ref 24,.builtin "ExceptionGroup.__weakref__",.none])
def z14:=zt "super" (.fields #[.ref 24,.ref 24,.ref 24])
def z15:=zt "builtin_function_or_method" (.fields #[.builtin "object.__init_subclass__",.ref 24])
def z16:=zt "tuple" (.seq #[.ref 24])
def z17 (P:Params):=zt "dict" (.dict #[ze P "__module__" 214 (.str "gapscribe.errors" 187),ze P "__qualname__" 216 (.str "TooBig" 215),ze P "__firstlineno__" 218 (.int 4 217),ze P "__static_attributes__" 219 (.ref 35)] 4)
def h1_0 (P:Params)(t:List Obj):=z6::(z7 P)::z1::z8::z9::z10::z1::(z11 P)::z12::z13::z14::z15::z16::z6::(z17 P)::z1::t
def z18:=zk "TooBig" "TooBig" 209 4 0 0 31 false .none 212 213
def z19:=zq0 33 30 "gapscribe.errors" 187
def z20 (P:Params):=zt "dict" (.dict #[ze P "__module__" 214 (.str "gapscribe.errors" 187),ze P "__firstlineno__" 218 (.int 4 217),ze P "__static_attributes__" 219 (.ref 35),ze P "__doc__" 220 .none] 2)
noncomputable def z21:=Obj.mk (.type "type") none (.cls (ClassData.mk "TooBig" [.ref 24] [.ref 37,.ref 24,.type "ValueError",.type "Exception",.type "BaseException",.type "object"] 36 "TooBig" true [] [] false none false)) #[some (.ref 28),none,some (.str "TooBig" 207),some (.str "TooBig" 215),some (.builtin "ValueError.__new__"),some (.bool true)]
def z22:=zt "super" (.fields #[.ref 37,.ref 37,.ref 37])
def z23:=zt "builtin_function_or_method" (.fields #[.builtin "object.__init_subclass__",.ref 37])
def h2_0 (P:Params)(t:List Obj):=z8::z18::z19::z1::(z20 P)::z21::z22::z23::t
def Rtree_78:Params->B:=fun P=>tO (h0_0 P (h1_0 P (h2_0 P [])))
def d1 (P:Params):=[ze P "__name__" 165 (.str "gapscribe.places" 257),ze P "__doc__" 166 .none,ze P "__package__" 167 .none,ze P "__loader__" 168 (.builtin "__main__.__loader__#opaque"),ze P "__spec__" 169 .none,ze P "__annotations__" 170 (.ref 6),ze P "__builtins__" 171 (.ref 4),ze P "__file__" 173 (.str "/claim/cut.py" 172),ze P "__cached__" 174 .none,ze P "GapError" 206 (.ref 24),ze P "TooBig" 222 (.ref 37),ze P "NoPlace" 247 (.ref 56),ze P "is_whole" 256 (.ref 65),ze P "placed_forms" 270 (.ref 72),ze P "has_part" 278 (.ref 79),ze P "forms_down_to" 288 (.ref 86)]
def z24 (P:Params):=zt "dict" (.dict ⟨d1 P⟩ 16)
def y1:List (Int×Int×Addr):=y0++[(6,0,45),(11,0,64),(14,0,71),(23,0,78),(25,0,85)]
def z25:=zy y1
def zn0 (P:Params)(x0 x1:Obj)(t:List Obj):List Obj:=(boot_o_0 P)::(boot_o_1 P)::(boot_o_2 P)::x0::(boot_o_4 P)::(boot_o_5 P)::(boot_o_6 P)::(boot_o_7 P)::(boot_o_8 P)::(boot_o_9 P)::(boot_o_10 P)::z1::x1::z3::z4::z5::t
def h3_0 (P:Params)(t:List Obj):=zn0 P (z24 P) z25 t
noncomputable def z26:=Obj.mk (.type "type") none (.cls (ClassData.mk "GapError" [.type "ValueError"] [.ref 24,.type "ValueError",.type "Exception",.type "BaseException",.type "object"] 23 "GapError" true [] [.ref 37,.ref 56] false none false)) #[some (.ref 15),none,some (.str "GapError" 189),some (.str "GapError" 197),some (.builtin "ValueError.__new__"),some (.bool true)]
def Jx (P:Params)(t:List Obj):List Obj:=z6::(z7 P)::z1::z8::z9::z10::z1::(z11 P)::z26::z13::z14::z15::z16::z6::(z17 P)::z1::t
def d2 (P:Params):=[ze P "__module__" 230 (.str "gapscribe.errors" 187),ze P "__qualname__" 232 (.str "NoPlace" 231),ze P "__firstlineno__" 234 (.int 6 233),ze P "__init__" 242 (.ref 53),ze P "__static_attributes__" 244 (.ref 54)]
def z27 (P:Params):=zt "dict" (.dict ⟨d2 P⟩ 5)
noncomputable def y2:List (Int×Int×Addr):=[(8,4,52)]
def z28:=zy y2
def z29:=zk "NoPlace" "NoPlace" 225 6 0 0 43 false .none 228 229
def z30:=zq0 45 42 "gapscribe.errors" 187
def Jt (P:Params)(t:List Obj):List Obj:=z8::z18::z19::z1::(z20 P)::z21::z22::z23::z16::z6::(z27 P)::z1::z28::z29::z30::z1::t
def z31:=zu [("self",238),("place",239)]
noncomputable abbrev zsS (i j:Nat):Stmt:=match Ae i with | .ClassDef _ _ _ b _ _ _ _ _ _ _=>b.getD j (.Pass ⟨0,0,0,0⟩) | s=>s
def z32:=zh "__init__" "NoPlace.__init__" (zsS 3 0)
def z33:=zc "__init__" "NoPlace.__init__" 235 8 2 3 47 240 241
def z34:=zf "__init__" "NoPlace.__init__" (zsS 3 0) "gapscribe.errors" 187 52
def z35:=zu [("place",243)]
def z36 (P:Params):=zt "dict" (.dict #[ze P "__module__" 230 (.str "gapscribe.errors" 187),ze P "__firstlineno__" 234 (.int 6 233),ze P "__init__" 242 (.ref 53),ze P "__static_attributes__" 244 (.ref 54),ze P "__doc__" 245 .none] 2)
noncomputable def z37:=Obj.mk (.type "type") none (.cls (ClassData.mk "NoPlace" [.ref 24] [.ref 56,.ref 24,.type "ValueError",.type "Exception",.type "BaseException",.type "object"] 55 "NoPlace" true [] [] false none false)) #[some (.ref 40),none,some (.str "NoPlace" 223),some (.str "NoPlace" 231),some (.builtin "ValueError.__new__"),some (.bool true)]
def z38:=zt "super" (.fields #[.ref 56,.ref 56,.ref 56])
def z39:=zt "builtin_function_or_method" (.fields #[.builtin "object.__init_subclass__",.ref 56])
def z40:=zu [("thing",253)]
def z41:=zj "is_whole" Im
def Jz (P:Params)(t:List Obj):List Obj:=z8::z31::z1::z32::z33::z34::z35::(z36 P)::z37::z38::z39::z1::z8::z40::z1::z41::t
def z42:=zb "is_whole" 250 11 1 3 59 254 255
def z43:=zi "is_whole" Im "gapscribe.forms" 248 64
def z44:=zu [("tree",262),("told",263),("waiting",264),("pair",265),("number",266),("part",267)]
def z45:=zj "placed_forms" Jk
def z46:=zb "placed_forms" 259 14 1 3 66 268 269
def z47:=zi "placed_forms" Jk "gapscribe.places" 257 71
def z48:=zu [("form",274),("number",275)]
def z49:=zj "has_part" Ji
def z50:=zb "has_part" 271 23 2 3 73 276 277
def z51:=zi "has_part" Ji "gapscribe.places" 257 78
def Kh (P:Params)(t:List Obj):List Obj:=z42::z43::z1::z8::z44::z1::z45::z46::z47::z1::z8::z48::z1::z49::z50::z51::t
def z52:=zu [("tree",282),("place",283),("passed",284),("number",285)]
def z53:=zj "forms_down_to" Jb
def z54:=zb "forms_down_to" 279 25 2 3 80 286 287
def z55:=zi "forms_down_to" Jb "gapscribe.places" 257 85
def h8_0 (P:Params)(t:List Obj):=z1::z8::z52::z1::z53::z54::z55::t
def Rtree_128:Params->B:=fun P=>tO (h3_0 P (Jx P (Jt P (Jz P (Kh P (h8_0 P []))))))
def d3 (P:Params):=[ze P "__name__" 165 (.str "gapscribe.solve" 337),ze P "__doc__" 166 .none,ze P "__package__" 167 .none,ze P "__loader__" 168 (.builtin "__main__.__loader__#opaque"),ze P "__spec__" 169 .none,ze P "__annotations__" 170 (.ref 6),ze P "__builtins__" 171 (.ref 4),ze P "__file__" 173 (.str "/claim/cut.py" 172),ze P "__cached__" 174 .none,ze P "GapError" 206 (.ref 24),ze P "TooBig" 222 (.ref 37),ze P "NoPlace" 247 (.ref 56),ze P "is_whole" 256 (.ref 65),ze P "placed_forms" 270 (.ref 72),ze P "has_part" 278 (.ref 79),ze P "forms_down_to" 288 (.ref 86),ze P "form_at" 296 (.ref 93),ze P "names_bound" 306 (.ref 100),ze P "bindings_at" 318 (.ref 107),ze P "names_at" 324 (.ref 112),ze P "binding_at" 336 (.ref 119),ze P "NUM" 340 (.int 0 339),ze P "TRUTH" 342 (.int 1 341),ze P "FIRST_SHAPES" 345 (.ref 122),ze P "new_kind" 353 (.ref 129),ze P "kinds_of_word" 364 (.ref 136),ze P "with_names" 376 (.ref 143),ze P "kinds_in" 395 (.ref 150),ze P "last_same" 404 (.ref 157)]
def z56 (P:Params):=zt "dict" (.dict ⟨d3 P⟩ 29)
def y3:List (Int×Int×Addr):=y1++[(32,0,92),(35,0,99),(43,0,106),(49,0,111),(51,0,118),(61,0,128),(64,0,135),(87,0,142),(92,0,149),(107,0,156)]
def z57:=zy y3
def h9_0 (P:Params)(t:List Obj):=zn0 P (z56 P) z57 t
def z58:=zu [("tree",292),("place",293)]
def z59:=zj "form_at" Ib
def z60:=zb "form_at" 289 32 2 3 87 294 295
def z61:=zi "form_at" Ib "gapscribe.places" 257 92
def Lq (P:Params)(t:List Obj):List Obj:=z1::z8::z52::z1::z53::z54::z55::z1::z8::z58::z1::z59::z60::z61::z1::z8::t
def z62:=zu [("form",302),("number",303)]
def z63:=zj "names_bound" Ki
def z64:=zb "names_bound" 299 35 2 3 94 304 305
def z65:=zi "names_bound" Ki "gapscribe.scopes" 297 99
def z66:=zu [("tree",310),("place",311),("told",312),("depth",313),("above",314),("name",315)]
def z67:=zj "bindings_at" Ju
def z68:=zb "bindings_at" 307 43 2 3 101 316 317
def z69:=zi "bindings_at" Ju "gapscribe.scopes" 297 106
def z70:=zj "names_at" Ix
def z71:=zk "names_at" "names_at" 319 49 2 3 108 true (.ref 110) 322 323
def Ky (P:Params)(t:List Obj):List Obj:=z62::z1::z63::z64::z65::z1::z8::z66::z1::z67::z68::z69::z1::z8::z70::z71::t
def z72:=zi "names_at" Ix "gapscribe.scopes" 297 111
def z73:=zu [("tree",328),("place",329),("name",330),("last",331),("number",332),("bound",333)]
def z74:=zj "binding_at" Jf
def z75:=zb "binding_at" 325 51 3 3 113 334 335
def z76:=zi "binding_at" Jf "gapscribe.scopes" 297 118
def z77:=zu [("num",343)]
def z78:=zu [("truth",344)]
def z79:=zt "tuple" (.seq #[.ref 120,.ref 121])
def z80:=zu [("shapes",349),("shape",350)]
def z81:=zj "new_kind" Je
def Kr (P:Params)(t:List Obj):List Obj:=z72::z1::z8::z73::z1::z74::z75::z76::z77::z78::z79::z1::z8::z80::z1::z81::t
def z82:=zb "new_kind" 346 61 2 3 123 351 352
def z83:=zi "new_kind" Je "gapscribe.solve" 337 128
def z84:=zu [("shapes",357),("word",358),("one",359),("other",360),("function",361)]
def z85:=zj "kinds_of_word" Jq
def z86:=zb "kinds_of_word" 354 64 2 3 130 362 363
def z87:=zi "kinds_of_word" Jq "gapscribe.solve" 337 135
def z88:=zu [("around",368),("names",369),("kinds",370),("made",371),("name",372),("kind",373)]
def z89:=zj "with_names" Ip
def z90:=zb "with_names" 365 87 3 3 137 374 375
def z91:=zi "with_names" Ip "gapscribe.solve" 337 142
def L8 (P:Params)(t:List Obj):List Obj:=z82::z83::z1::z8::z84::z1::z85::z86::z87::z1::z8::z88::z1::z89::z90::z91::t
def z92:=zu [("placed",380),("shapes",381),("pairs",382),("asked_at",383),("around_at",384),("place",385),("form",386),("given",387),("asked",388),("bound",389),("number",390),("kind",391),("part",392)]
def z93:=zj "kinds_in" Hx
def z94:=zb "kinds_in" 377 92 1 3 144 393 394
def z95:=zi "kinds_in" Hx "gapscribe.solve" 337 149
def z96:=zu [("shapes",399),("kind",400),("last",401)]
def z97:=zj "last_same" Ig
def z98:=zb "last_same" 396 107 2 3 151 402 403
def z99:=zi "last_same" Ig "gapscribe.solve" 337 156
def Zjt (P:Params)(t:List Obj):List Obj:=z1::z8::z92::z1::z93::z94::z95::z1::z8::z96::z1::z97::z98::z99::t
def Rtree_201:Params->B:=fun P=>tO (h9_0 P (Jx P (Jt P (Jz P (Kh P (Lq P (Ky P (Kr P (L8 P (Zjt P []))))))))))
def d4 (P:Params):=[ze P "__name__" 165 (.str "law_gapscribe_k30_kinds_of_small_trees" 495),ze P "__doc__" 166 .none,ze P "__package__" 167 .none,ze P "__loader__" 168 (.builtin "__main__.__loader__#opaque"),ze P "__spec__" 169 .none,ze P "__annotations__" 170 (.ref 6),ze P "__builtins__" 171 (.ref 4),ze P "__file__" 173 (.str "/claim/cut.py" 172),ze P "__cached__" 174 .none,ze P "GapError" 206 (.ref 24),ze P "TooBig" 222 (.ref 37),ze P "NoPlace" 247 (.ref 56),ze P "is_whole" 256 (.ref 65),ze P "placed_forms" 270 (.ref 72),ze P "has_part" 278 (.ref 79),ze P "forms_down_to" 288 (.ref 86),ze P "form_at" 296 (.ref 93),ze P "names_bound" 306 (.ref 100),ze P "bindings_at" 318 (.ref 107),ze P "names_at" 324 (.ref 112),ze P "binding_at" 336 (.ref 119),ze P "NUM" 340 (.int 0 339),ze P "TRUTH" 342 (.int 1 341),ze P "FIRST_SHAPES" 345 (.ref 122),ze P "new_kind" 353 (.ref 129),ze P "kinds_of_word" 364 (.ref 136),ze P "with_names" 376 (.ref 143),ze P "kinds_in" 395 (.ref 150),ze P "last_same" 404 (.ref 157),ze P "holds_itself" 417 (.ref 164),ze P "joined" 431 (.ref 171),ze P "fitted" 444 (.ref 178),ze P "kinds_told" 450 (.ref 183),ze P "MOST_FORMS" 454 (.int 40 453),ze P "mark_of" 464 (.ref 190),ze P "looks" 482 (.ref 197),ze P "marks" 488 (.ref 202),ze P "kind_at" 494 (.ref 207),ze P "_law_cell_at" 504 (.ref 214),ze P "_law_names" 510 (.ref 219),ze P "_law_same" 519 (.ref 226),ze P "_law_form" 525 (.ref 231)]
def z100 (P:Params):=zt "dict" (.dict ⟨d4 P⟩ 42)
def y4:List (Int×Int×Addr):=y3++[(112,0,163),(128,0,170),(144,0,177),(152,0,182),(172,0,189),(180,0,196),(195,0,201),(197,0,206),(202,0,213),(206,0,218),(220,0,225),(240,0,230)]
def z101:=zy y4
def Zoc (P:Params)(t:List Obj):List Obj:=zn0 P (z100 P) z101 t
def Zbb (P:Params)(t:List Obj):List Obj:=z1::z8::z92::z1::z93::z94::z95::z1::z8::z96::z1::z97::z98::z99::z1::z8::t
def z102:=zu [("shapes",408),("kind",409),("passed",410),("waiting",411),("top",412),("part",413),("inner",414)]
def z103:=zj "holds_itself" Ke
def z104:=zb "holds_itself" 405 112 2 3 158 415 416
def z105:=zi "holds_itself" Ke "gapscribe.solve" 337 163
def z106:=zu [("shapes",421),("one",422),("other",423),("made",424),("waiting",425),("pair",426),("left",427),("right",428)]
def z107:=zj "joined" Jy
def z108:=zb "joined" 418 128 3 3 165 429 430
def z109:=zi "joined" Jy "gapscribe.solve" 337 170
def z110:=zu [("shapes",435),("pairs",436),("made",437),("fits",438),("given",439),("asked",440),("after",441)]
def Mk (P:Params)(t:List Obj):List Obj:=z102::z1::z103::z104::z105::z1::z8::z106::z1::z107::z108::z109::z1::z8::z110::z1::t
def z111:=zj "fitted" Jm
def z112:=zb "fitted" 432 144 2 3 172 442 443
def z113:=zi "fitted" Jm "gapscribe.solve" 337 177
def z114:=zj "kinds_told" Hz
def z115:=zk "kinds_told" "kinds_told" 445 152 2 3 179 true (.ref 181) 448 449
def z116:=zi "kinds_told" Hz "gapscribe.solve" 337 182
def z117:=zu [("tree",458),("place",459),("form",460),("fits",461)]
def z118:=zj "mark_of" Ik
def z119:=zb "mark_of" 455 172 4 3 184 462 463
def z120:=zi "mark_of" Ik "gapscribe.looks" 451 189
def Mq (P:Params)(t:List Obj):List Obj:=z111::z112::z113::z1::z8::z114::z115::z116::z1::z8::z117::z1::z118::z119::z120::z1::t
def z121:=zu [("tree",468),("placed",469),("shapes",470),("pairs",471),("settled",472),("fits",473),("wanted",474),("pair",475),("kinds",476),("rows",477),("number",478),("asked",479)]
def z122:=zj "looks" Kc
def z123:=zb "looks" 465 180 1 3 191 480 481
def z124:=zi "looks" Kc "gapscribe.looks" 451 196
def z125:=zj "marks" J7
def z126:=zk "marks" "marks" 483 195 1 3 198 true (.ref 200) 486 487
def z127:=zi "marks" J7 "gapscribe.looks" 451 201
def z128:=zj "kind_at" Jn
def z129:=zk "kind_at" "kind_at" 489 197 2 3 203 true (.ref 205) 492 493
def z130:=zi "kind_at" Jn "gapscribe.looks" 451 206
def Mp (P:Params)(t:List Obj):List Obj:=z8::z121::z1::z122::z123::z124::z1::z8::z125::z126::z127::z1::z8::z128::z129::z130::t
def z131:=zu [("_law_script",500),("_law_k",501)]
def z132:=zj "_law_cell_at" Jv
def z133:=zb "_law_cell_at" 497 202 2 3 208 502 503
def z134:=zi "_law_cell_at" Jv "law_gapscribe_k30_kinds_of_small_trees" 495 213
def z135:=zj "_law_names" Io
def z136:=zk "_law_names" "_law_names" 505 206 2 3 215 true (.ref 217) 508 509
def z137:=zi "_law_names" Io "law_gapscribe_k30_kinds_of_small_trees" 495 218
def z138:=zu [("_law_found",514),("_law_due",515),("_law_k",516)]
def Ng (P:Params)(t:List Obj):List Obj:=z1::z8::z131::z1::z132::z133::z134::z1::z8::z135::z136::z137::z1::z8::z138::z1::t
def z139:=zj "_law_same" G2
def Og:Obj:=zb "_law_same" 511 220 2 3 220 517 518
def Mw:Obj:=zi "_law_same" G2 "law_gapscribe_k30_kinds_of_small_trees" 495 225
def z142:=zj "_law_form" Jc
def M4:Obj:=zk "_law_form" "_law_form" 520 240 3 3 227 true (.ref 229) 523 524
def Ni:Obj:=zi "_law_form" Jc "law_gapscribe_k30_kinds_of_small_trees" 495 230
def Zht (P:Params)(t:List Obj):List Obj:=z139::Og::Mw::z1::z8::z142::M4::Ni::t
def Rtree_277:Params->B:=fun P=>tO (Zoc P (Jx P (Jt P (Jz P (Kh P (Lq P (Ky P (Kr P (L8 P (Zbb P (Mk P (Mq P (Mp P (Ng P (Zht P [])))))))))))))))
def d5 (P:Params):=d4 P++[ze P "_law_lone" 539 (.ref 238),ze P "_law_wide" 552 (.ref 245),ze P "_law_used" 572 (.ref 252),ze P "law" 578 (.ref 257)]
def z145 (P:Params):=zt "dict" (.dict ⟨d5 P⟩ 46)
def y5:List (Int×Int×Addr):=y4++[(242,0,237),(250,0,244),(258,0,251),(273,0,256)]
def z146:=zy y5
def Zdf (P:Params)(t:List Obj):List Obj:=zn0 P (z145 P) z146 t
def z147:=zu [("_law_script",529),("_law_names_here",530),("_law_num",531),("_law_truth",532),("_law_one",533),("_law_odd",534),("_law_number",535),("_law_yes",536)]
def z148:=zj "_law_lone" Kf
def z149:=zb "_law_lone" 526 242 2 3 232 537 538
def z150:=zi "_law_lone" Kf "law_gapscribe_k30_kinds_of_small_trees" 495 237
def Zbq (P:Params)(t:List Obj):List Obj:=z139::Og::Mw::z1::z8::z142::M4::Ni::z1::z8::z147::z1::z148::z149::z150::z1::t
def z151:=zu [("_law_names_here",543),("_law_one",544),("_law_two",545),("_law_truth",546),("_law_some",547),("_law_back",548),("_law_rows",549)]
def z152:=zj "_law_wide" J2
def z153:=zb "_law_wide" 540 250 1 3 239 550 551
def z154:=zi "_law_wide" J2 "law_gapscribe_k30_kinds_of_small_trees" 495 244
def z155:=zu [("_law_script",556),("_law_names_here",557),("_law_one",558),("_law_two",559),("_law_num",560),("_law_truth",561),("_law_some",562),("_law_like",563),("_law_use",564),("_law_number",565),("_law_let",566),("_law_again",567),("_law_less",568),("_law_twice",569)]
def z156:=zj "_law_used" Jo
def z157:=zb "_law_used" 553 258 2 3 246 570 571
def z158:=zi "_law_used" Jo "law_gapscribe_k30_kinds_of_small_trees" 495 251
def z159:=zj "law" Ka
def Zfb (P:Params)(t:List Obj):List Obj:=z8::z151::z1::z152::z153::z154::z1::z8::z155::z1::z156::z157::z158::z1::z8::z159::t
def z160:=zk "law" "law" 573 273 1 3 253 true (.ref 255) 576 577
def z161:=zi "law" Ka "law_gapscribe_k30_kinds_of_small_trees" 495 256
def Ze5 (P:Params)(t:List Obj):List Obj:=z160::z161::t
def Rtree_305:Params->B:=fun P=>tO (Zdf P (Jx P (Jt P (Jz P (Kh P (Lq P (Ky P (Kr P (L8 P (Zbb P (Mk P (Mq P (Mp P (Ng P (Zbq P (Zfb P (Ze5 P [])))))))))))))))))
def Rheap_306:Params->Heap:=fun P=>⟨⟨Zdf P (Jx P (Jt P (Jz P (Kh P (Lq P (Ky P (Kr P (L8 P (Zbb P (Mk P (Mq P (Mp P (Ng P (Zbq P (Zfb P (Ze5 P []))))))))))))))))⟩,Life.mk [] [] [] 0 [] [] false #[] [] 0 false false false 0 [2000,10,10] false 0 true [] [] 0 false⟩
end
noncomputable def KK:Params->Os:=fun P=>(nat_lit 2,boot_o_2 P)::(nat_lit 3,z145 P)::(nat_lit 23,z11 P)::(nat_lit 24,z26)::(nat_lit 36,z20 P)::(nat_lit 37,z21)::(nat_lit 55,z36 P)::(nat_lit 56,z37)::(nat_lit 64,z42)::(nat_lit 65,z43)::(nat_lit 71,z46)::(nat_lit 72,z47)::(nat_lit 78,z50)::(nat_lit 79,z51)::(nat_lit 85,z54)::(nat_lit 86,z55)::(nat_lit 92,z60)::(nat_lit 93,z61)::(nat_lit 99,z64)::(nat_lit 100,z65)::(nat_lit 106,z68)::(nat_lit 107,z69)::(nat_lit 111,z71)::(nat_lit 112,z72)::(nat_lit 118,z75)::(nat_lit 119,z76)::(nat_lit 120,z77)::(nat_lit 121,z78)::(nat_lit 122,z79)::(nat_lit 128,z82)::(nat_lit 129,z83)::(nat_lit 135,z86)::(nat_lit 136,z87)::(nat_lit 142,z90)::(nat_lit 143,z91)::(nat_lit 149,z94)::(nat_lit 150,z95)::(nat_lit 156,z98)::(nat_lit 157,z99)::(nat_lit 163,z104)::(nat_lit 164,z105)::(nat_lit 170,z108)::(nat_lit 171,z109)::(nat_lit 177,z112)::(nat_lit 178,z113)::(nat_lit 182,z115)::(nat_lit 183,z116)::(nat_lit 189,z119)::(nat_lit 190,z120)::(nat_lit 196,z123)::(nat_lit 197,z124)::(nat_lit 201,z126)::(nat_lit 202,z127)::(nat_lit 206,z129)::(nat_lit 207,z130)::(nat_lit 213,z133)::(nat_lit 214,z134)::(nat_lit 218,z136)::(nat_lit 219,z137)::(nat_lit 225,Og)::(nat_lit 226,Mw)::(nat_lit 230,M4)::(nat_lit 231,Ni)::(nat_lit 237,z149)::(nat_lit 238,z150)::(nat_lit 244,z153)::(nat_lit 245,z154)::(nat_lit 251,z157)::(nat_lit 252,z158)::(nat_lit 256,z160)::(nat_lit 257,z161)::[]
noncomputable def KA:List Addr:=[2,3,23,24,36,37,55,56,64,65,71,72,78,79,85,86,92,93,99,100,106,107,111,112,118,119,120,121,122,128,129,135,136,142,143,149,150,156,157,163,164,170,171,177,178,182,183,189,190,196,197,201,202,206,207,213,214,218,219,225,226,230,231,237,238,244,245,251,252,256,257]
noncomputable def RB (P:Params):List Rc×List Heap:=([Rtree_78 P,Rtree_128 P,Rtree_201 P,Rtree_277 P,Rtree_305 P],[Rheap_306 P])
theorem e_RB:RB=RB:=rfl
name_quick x_RB for K30.RB by K30.e_RB
end K30
namespace PySem.W.Fast
noncomputable def tw12701872291724740236:Ru->Rc:=tw17919279117436596150
theorem te12701872291724740236:K30.Rtree_78=tw12701872291724740236:=te17919279117436596150
noncomputable def tw4108278698558026631:Ru->Rc:=tw17727707905268390255
theorem te4108278698558026631:K30.Rtree_128=tw4108278698558026631:=te17727707905268390255
noncomputable def tw15770833676044973327:Ru->Rc:=tw6041992561275748629
theorem te15770833676044973327:K30.Rtree_201=tw15770833676044973327:=te6041992561275748629
noncomputable def tw11276288495174249723:Ru->Rc:=tw15896331754960599883
theorem te11276288495174249723:K30.Rtree_277=tw11276288495174249723:=te15896331754960599883
noncomputable def tw734659736087302089:Ru->Rc:=tw2739118929818296315
theorem te734659736087302089:K30.Rtree_305=tw734659736087302089:=te2739118929818296315
noncomputable def tw7893102184088208760:Ru->PySem.Heap:=tw7886183015425066479
theorem te7893102184088208760:K30.Rheap_306=tw7893102184088208760:=te7886183015425066479
end PySem.W.Fast
local macro_rules | `(tactic| walk_at "gd")=>`(tactic| (refine' ⟨?ka,_,L2.fun_mk ?kl ?kc ?kk⟩; (case ka=>k_is); (case kl=>k_is); (case kc=>k_is); (case kk=>k_is)))
namespace K30
open PySem L2 K19
noncomputable abbrev Nb:=Zbk
theorem all1 {α:Type}{P:List α->Prop}(h:∀ a,P [a]):∀ us:List α,us.length=1->P us
 | [a],_=>h a
theorem all2 {α:Type}{P:List α->Prop}(h:∀ a b,P [a,b]):∀ us:List α,us.length=2->P us
 | [a,b],_=>h a b
theorem all3 {α:Type}{P:List α->Prop}(h:∀ a b c,P [a,b,c]):∀ us:List α,us.length=3->P us
 | [a,b,c],_=>h a b c
theorem all4 {α:Type}{P:List α->Prop}(h:∀ a b c d,P [a,b,c,d]):∀ us:List α,us.length=4->P us
 | [a,b,c,d],_=>h a b c d
local macro_rules | `(tactic| walk_at "bi")=>`(tactic| first | exact fun _ _ _ _ _ _=>K30.all1 fun _=>rfl | exact fun _ _ _ _ _ _=>K30.all2 fun _ _=>rfl | exact fun _ _ _ _ _ _=>K30.all3 fun _ _ _=>rfl | exact fun _ _ _ _ _ _=>K30.all4 fun _ _ _ _=>rfl | exact fun _ _ _ _ _ _=>K30.all5 fun _ _ _ _ _=>rfl)
theorem Zdx {P:Program}{w:World}{K:Os}{mg:Str->Option Value}{base:Heap}{f:Addr}{fd:FuncData}(F:Fun K "_law_same" "_law_same" G2 f fd)(T:Txt K mg)
  (mk:∀ n,A9 P w K mg base Bd (n+1) f fd ["_law_found", "_law_due"] (F5 K n)->Ba P w K mg base (n+1) "_law_same" ["_law_found", "_law_due"] (F5 K n)):∀ n,A9 P w K mg base Bd (n+1) f fd ["_law_found", "_law_due"] (F5 K n)
 | 0=>by
  have no:∀ vs H Q E,¬ F5 K 0 vs H Q E:=by
   rintro vs H Q E ⟨x,y,d,m,_,h,_⟩
   exact absurd h (U7 _)
  exact ⟨fun vs H Q E h=>absurd h (no _ _ _ _),fun A outer s H args us vs Q E _ _ _ _ h=>absurd h (no _ _ _ _)⟩
 | n+1=>Zn6 F T (mk n (Zdx F T mk n))
theorem two_top {K:Os}{a d e:Addr}{od:Option Addr}{its:Array Value}{n:Nat}{sl:Array (Option Value)}(l:K.lookup a=some ⟨.type "tuple",od,.seq its n,sl⟩)(h:its.toList=[.ref d,.ref e]):∀ H,SqT K H a [.ref d,.ref e]:=fun H=>by
 have v:Vals [.ref d,.ref e] its.toList:=by rw [h];exact .cons rfl (.cons rfl .nil)
 refine .inr ⟨_,its,n,l,rfl,rfl,?_,v⟩
 have b:1000<=sizeLine:=by decide
 have e2:its.toList.length=its.size:=R3
 have e3:its.toList.length=2:=by rw [h];rfl
 omega
noncomputable abbrev Gd (K:Os)(n:Str)(st:Stmt)(f:Addr):Prop:=Pn K mainGlobals n=some (some (.ref f))/\∃ fd,Fun K n n st f fd
noncomputable abbrev Bi (n q:Str)(st:Stmt)(ps:List Str):Prop:=∀(kV doc pm:Value)(an:Option Addr)(cdv ct:Value)(us:List Value),us.length=ps.length->bindArgs (Qv n q (Fn st) (Ey st) (Be st) .none kV doc pm an cdv ct) ⟨us,[]⟩=pure (ps.zip us)
section
variable {P:Program}{w:World}{K:Os}{mg:Str->Option Value}{base h:Heap}(X:K.In h)(G:h.Ns mainGlobals mg){n q:Str}{st:Stmt}{f C:Addr}{k:Nat}{ps:List Str}{sp:Sp}
include X G
theorem cal (g:Gd K n st f)(ok:∀ fd,Fun K n n st f fd->A9 P w K mg base Bd k f fd ps sp)(b:Bi n n st ps:=by walk_at "bi"):Ba P w K mg base k n ps sp:=by
 obtain ⟨a,fd,F⟩:=g
 exact Ze7 (ok fd F) (PySem.W.mg_of X G a) F.kp (F.binds b)
end
theorem all_mk {l:U6}{w:World}{K:Os}{h:Heap}{mg:Str->Option Value}{fa f1 f2 f3 f4 f5 f6 f7 f8 f9 f10 f11 f12 f13 f14 f15 f16 f17 f18 f19 f20 f21 f22 f23 f24 f25 f26 f27 f28 f29 f30:Addr}(X:K.In h)(G:h.Ns mainGlobals mg)(hfa:mg "law" = some (.ref fa))
  (a1:Gd K "is_whole" Im f1) (a2:Gd K "placed_forms" Jk f2) (a3:Gd K "has_part" Ji f3) (a4:Gd K "forms_down_to" Jb f4) (a5:Gd K "form_at" Ib f5) (a6:Gd K "names_bound" Ki f6) (a7:Gd K "bindings_at" Ju f7) (a8:Gd K "names_at" Ix f8) (a9:Gd K "binding_at" Jf f9) (a10:Gd K "new_kind" Je f10) (a11:Gd K "kinds_of_word" Jq f11) (a12:Gd K "with_names" Ip f12) (a13:Gd K "kinds_in" Hx f13) (a14:Gd K "last_same" Ig f14) (a15:Gd K "holds_itself" Ke f15)
  (a16:Gd K "joined" Jy f16) (a17:Gd K "fitted" Jm f17) (a18:Gd K "kinds_told" Hz f18) (a19:Gd K "mark_of" Ik f19) (a20:Gd K "looks" Kc f20) (a21:Gd K "marks" J7 f21) (a22:Gd K "kind_at" Jn f22) (a23:Gd K "_law_cell_at" Jv f23) (a24:Gd K "_law_names" Io f24) (a25:Gd K "_law_same" G2 f25) (a26:Gd K "_law_form" Jc f26) (a27:Gd K "_law_lone" Kf f27) (a28:Gd K "_law_wide" J2 f28) (a29:Gd K "_law_used" Jo f29) (a30:Gd K "law" Ka f30) (z1:Pn K mainGlobals "isinstance" = some none)
  (z2:Pn K mainGlobals "int" = some none) (z3:Pn K mainGlobals "bool" = some none) (z4:Pn K mainGlobals "reversed" = some none) (z5:Pn K mainGlobals "list" = some none) (z6:Pn K mainGlobals "enumerate" = some none) (z7:Pn K mainGlobals "len" = some none) (z8:Pn K mainGlobals "dict" = some none) (z9:Pn K mainGlobals "zip" = some none) (z10:Pn K mainGlobals "tuple" = some none) (z11:Pn K mainGlobals "range" = some none) (z12:Pn K mainGlobals "str" = some none) {u1 u2 u3:Tok}
  (b1:Pn K mainGlobals "NUM" = some (some (.int 0 u1))) (b2:Pn K mainGlobals "TRUTH" = some (some (.int 1 u2))) (b3:Pn K mainGlobals "MOST_FORMS" = some (some (.int 40 u3))) {fs t0 t1:Addr} {o2 o0 o1:Option Addr} {i2 i0 i1:Array Value} {n2 n0 n1:Nat} {l2 l0 l1:Array (Option Value)} (b4:Pn K mainGlobals "FIRST_SHAPES" = some (some (.ref fs))) (gtA:K.lookup fs=some ⟨.type "tuple",o2,.seq i2 n2,l2⟩) (eA:i2.toList=[.ref t0,.ref t1]) (gtB:K.lookup t0=some ⟨.type "tuple",o0,.seq i0 n0,l0⟩) (eB:Gs i0.toList=some [.str "num"])
  (gtC:K.lookup t1=some ⟨.type "tuple",o1,.seq i1 n1,l1⟩) (eC:Gs i1.toList=some [.str "truth"]) :
  ∃ fd:FuncData,(∀(s:Shared)(v:Value),BindsTo s fd ⟨[v],[]⟩ [("_law_script",v)])/\∀ base:Heap,K.In base->base.Ns mainGlobals mg->A9 l.prog w K mg base Bd 22 fa fd ["_law_script"] (Nb K):=by
 obtain ⟨aL,fd,FL⟩:=a30
 have e:=hfa.symm.trans (PySem.W.mg_of X G aL)
 cases e
 have FX:=FL
 obtain ⟨_,_,kV,doc,pm,an,cdv,ct,_,ef,_,_⟩:=FL.ex
 refine ⟨fd,fun s v=>by rw [ef];exact .of_eq rfl,fun base _ _=>?_⟩
 have gl:=fun {n v}=>@PySem.W.mg_of K h mg n v X G
 have no:=fun {n}=>@PySem.W.mg_none_of K h mg n X G
 have T:Txt K mg:=⟨no z1,no z2,no z3,no z4,no z5,no z6,no z7,no z8,no z9,no z10,no z11,no z12⟩
 have GN:Ep mg "NUM" (.int 0):=⟨_,gl b1,⟨_,rfl⟩⟩
 have GT:Ep mg "TRUTH" (.int 1):=⟨_,gl b2,⟨_,rfl⟩⟩
 have GM:Ep mg "MOST_FORMS" (.int 40):=⟨_,gl b3,⟨_,rfl⟩⟩
 have GF:Ep mg "FIRST_SHAPES" (.ref fs):=⟨_,gl b4,rfl⟩
 have HF:=two_top gtA eA
 have HF0:=Zco gtB eB (by decide)
 have HF1:=Zco gtC eC (by decide)
 have ca:=fun {k n st f ps sp}=>@cal l.prog w K mg base h X G n st f k ps sp
 have C_is_whole:=ca a1 fun _ F=>Zjq F T
 have C_placed_forms:=ca a2 fun _ F=>Zjv F T
 have C_has_part:=ca a3 fun _ F=>Zk8 F T C_is_whole
 have C_forms_down_to:=ca a4 fun _ F=>Zo7 F T C_has_part
 have C_form_at:=ca a5 fun _ F=>Zoz F T C_forms_down_to
 have C_names_bound:=ca a6 fun _ F=>Zga F T
 have C_bindings_at:=ca a7 fun _ F=>Zm8 F T C_forms_down_to C_names_bound
 have C_names_at:=ca a8 fun _ F=>Zip F T C_bindings_at
 have C_binding_at:=ca a9 fun _ F=>Zg9 F T C_names_at
 have C_new_kind:=ca a10 fun _ F=>Zi1 F T
 have C_kinds_of_word:=ca a11 fun _ F=>Zlj F T GN GT C_new_kind
 have C_with_names:=ca a12 fun _ F=>Zh6 F T
 have C_kinds_in:=ca a13 fun _ F=>Zhc F T GF HF HF0 HF1 C_kinds_of_word C_with_names C_names_bound
 have C_last_same:=ca a14 fun _ F=>Zmm F T
 have C_holds_itself:=ca a15 fun _ F=>Zir F T C_last_same
 have C_joined:=ca a16 fun _ F=>Zor F T C_last_same C_holds_itself
 have C_fitted:=ca a17 fun _ F=>Zkq F T C_joined
 have C_kinds_told:=ca a18 fun _ F=>Zl6 F T C_last_same
 have C_mark_of:=ca a19 fun _ F=>Zpn F T C_binding_at
 have C_looks:=ca a20 fun _ F=>Zoa F T GM C_placed_forms C_kinds_in C_fitted C_kinds_told C_mark_of
 have C_marks:=ca a21 fun _ F=>Zjs F T C_looks
 have C_kind_at:=ca a22 fun _ F=>Zgd F T C_looks C_form_at
 have C__law_cell_at:=ca a23 fun _ F=>Zhn F T
 have C__law_names:=ca a24 fun _ F=>Zhm F T
 have C__law_same:=ca a25 fun _ F=>Zdx F T (fun n h=>Ze7 h (gl a25.1) F.kp (F.binds (by walk_at "bi"))) 20
 have C__law_form:=ca a26 fun _ F=>Zlw F T
 have C__law_lone:=ca a27 fun _ F=>Zia F T C__law_cell_at C__law_form
 have C__law_wide:=ca a28 fun _ F=>Zjr F T C__law_form
 have C__law_used:=ca a29 fun _ F=>Zmd F T C__law_cell_at
 exact Zig FX T C__law_cell_at C__law_names C__law_lone C__law_wide C__law_used C_looks C_marks C_kind_at C__law_same
theorem walk {l:U6}{q:Program}{loose:List Str}{XP:(Str->Option Value)->Heap->Prop}{YP:World->Heap->Prop}{d:DefRec}{K:Params->Os}(hn:l.most=some 63)(hdf:d.params.defaults=[])
  (hY:∀(w:World)(h:Heap),YP w h->(K w.params).In h)
  (F:∀(w:World)(mg:Str->Option Value)(fa:Addr)(h:Heap),(K w.params).In h->h.Ns mainGlobals mg->mg d.name=some (.ref fa) ->
   ∃ fd:FuncData,(∀(s:Shared)(u:Value),BindsTo s fd ⟨[u],[]⟩ [("_law_script",u)])/\∀ base:Heap,(K w.params).In base->base.Ns mainGlobals mg->A9 l.prog w (K w.params) mg base Bd 22 fa fd ["_law_script"] (Nb (K w.params))) :
  PySem.W.WalkO q loose XP YP l.row.toRowW d [] (fun f vs=>PySem.call f vs) :=
 L2.walk_of (n:=63) (k:=22) (x := "_law_script") (CX:=fun _=>Bd) (sp:=fun w=>Nb (K w.params)) hn (by decide) hdf ⟨rfl,by decide,by decide⟩ hY F (fun _ _ a ns hl _ hS=>⟨a,ns,rfl,hS,hl,fun _=>rfl⟩) fun _ _ _ _ _ z=>z
end K30
open PySem PySem.W PyProof.Rows
set_option maxRecDepth 100000 in
set_option maxHeartbeats 0 in
theorem PySem.Challenge.cw_gapscribe_k30_kinds_of_small_trees_holds : PySem.Challenge.rw_gapscribe_k30_kinds_of_small_trees.Holds := by
 w_on; o_law; o_head (PySem.W.kHook K30.KK K30.KA (fun _=>by kernel_rfl)); (case hw=>w_witness2)
 k_fill
 refine K30.walk (l:=PySem.Challenge.rw_gapscribe_k30_kinds_of_small_trees) rfl rfl (fun w h Y=>PySem.W.kIn_of Y) ?F
 case F =>
  intro w mg fa h KX G hmg
  refine' K30.all_mk KX G hmg ?a1 ?a2 ?a3 ?a4 ?a5 ?a6 ?a7 ?a8 ?a9 ?a10 ?a11 ?a12 ?a13 ?a14 ?a15 ?a16 ?a17 ?a18 ?a19 ?a20 ?a21 ?a22 ?a23 ?a24 ?a25 ?a26 ?a27 ?a28 ?a29 ?a30 ?z1 ?z2 ?z3 ?z4 ?z5 ?z6 ?z7 ?z8 ?z9 ?z10 ?z11 ?z12 ?b1 ?b2 ?b3 ?b4 ?gtA ?eA ?gtB ?eB ?gtC ?eC
  (case a1=>walk_at "gd")
  (case a2=>walk_at "gd")
  (case a3=>walk_at "gd")
  (case a4=>walk_at "gd")
  (case a5=>walk_at "gd")
  (case a6=>walk_at "gd")
  (case a7=>walk_at "gd")
  (case a8=>walk_at "gd")
  (case a9=>walk_at "gd")
  (case a10=>walk_at "gd")
  (case a11=>walk_at "gd")
  (case a12=>walk_at "gd")
  (case a13=>walk_at "gd")
  (case a14=>walk_at "gd")
  (case a15=>walk_at "gd")
  (case a16=>walk_at "gd")
  (case a17=>walk_at "gd")
  (case a18=>walk_at "gd")
  (case a19=>walk_at "gd")
  (case a20=>walk_at "gd")
  (case a21=>walk_at "gd")
  (case a22=>walk_at "gd")
  (case a23=>walk_at "gd")
  (case a24=>walk_at "gd")
  (case a25=>walk_at "gd")
  (case a26=>walk_at "gd")
  (case a27=>walk_at "gd")
  (case a28=>walk_at "gd")
  (case a29=>walk_at "gd")
  (case a30=>walk_at "gd")
  (case z1=>k_is)
  (case z2=>k_is)
  (case z3=>k_is)
  (case z4=>k_is)
  (case z5=>k_is)
  (case z6=>k_is)
  (case z7=>k_is)
  (case z8=>k_is)
  (case z9=>k_is)
  (case z10=>k_is)
  (case z11=>k_is)
  (case z12=>k_is)
  (case b1=>k_is)
  (case b2=>k_is)
  (case b3=>k_is)
  (case b4=>k_is)
  (case gtA=>k_is)
  (case eA=>rfl)
  (case gtB=>k_is)
  (case eB=>rfl)
  (case gtC=>k_is)
  (case eC=>rfl)
#print axioms PySem.Challenge.cw_gapscribe_k30_kinds_of_small_trees_holds
